import PyProof.Rows.All
import Wide.All
import OpenK.AllK
import Wide.FinOn
import Lean
import PyProof.EqAt
import PyProof.EqKinds
import PyProof.TupleCall
import OpenK.KRaise
import KE.KIsAll
import PyProof.ExcAttrAll.ValueError
import PyProof.NsDelKeeps
import PyProof.ExcClass2
import PyProof.FactsLen
import PySem.Challenge.RW_lodgefair_k14_whole_breakers
set_option linter.all false
set_option maxRecDepth 100000
set_option maxHeartbeats 1000000
noncomputable section
set_option Elab.async false
namespace L2
open PySem PySem.Spec PyProof.Rows
abbrev Key:=Sum Int Str
def keyIs:Key->Value->Bool
 | .inl k,v=>Value.isInt k v
 | .inr x,v=>Value.isStrOf x v
def keyH (w:World):Key->Int
 | .inl k=>hashInt k
 | .inr x=>hashStr w x
theorem keyIs_shape:∀ {k:Key} {v:Value},keyIs k v=true->(∃ i t,k=Sum.inl i/\v=Value.int i t)\/(∃ x t,k=Sum.inr x/\v=Value.str x t)
 | .inl i,v,h=>by
  obtain⟨t,e⟩:=Value.isInt_shape (k:=i) (v:=v) h
  exact .inl ⟨i,t,rfl,e⟩
 | .inr x,v,h=>by
  obtain⟨t,e⟩:=Value.isStrOf_shape (x:=x) (v:=v) h
  exact .inr ⟨x,t,rfl,e⟩
theorem keyIs_int (i:Int) (t:Tok):keyIs (.inl i) (.int i t)=true:=by simp[keyIs,Value.isInt]
theorem key_ll (a b:Int):decide ((Sum.inl a:Key)=Sum.inl b)=(a==b):=by
 by_cases e:a=b
 ·subst e; simp
 ·have h:¬ (Sum.inl a:Key)=Sum.inl b:=λq=>e (Sum.inl.inj q)
  rw[decide_eq_false h]
  exact(beq_eq_false_iff_ne.mpr e).symm
theorem key_rr (a b:Str):decide ((Sum.inr a:Key)=Sum.inr b)=decide (a=b):=by
 by_cases e:a=b
 ·subst e; simp
 ·have h:¬ (Sum.inr a:Key)=Sum.inr b:=λq=>e (Sum.inr.inj q)
  rw[decide_eq_false h,decide_eq_false e]
theorem key_lr (a:Int) (b:Str):decide ((Sum.inl a:Key)=Sum.inr b)=false:=decide_eq_false (λq=>nomatch q)
theorem key_rl (a:Str) (b:Int):decide ((Sum.inr a:Key)=Sum.inl b)=false:=decide_eq_false (λq=>nomatch q)
def mixKind (prog:Program) (w:World):PySem.KeyKind prog w Key where
 is:=keyIs
 hash:=keyH w
 inj:=λv a b ha hb=>by
  rcases keyIs_shape ha with⟨i,t,rfl,rfl⟩ | ⟨x,t,rfl,rfl⟩
  ·rcases keyIs_shape hb with⟨j,u,rfl,e⟩ | ⟨y,u,rfl,e⟩
   ·injection e with e1 _; rw[e1]
   ·exact nomatch e
  ·rcases keyIs_shape hb with⟨j,u,rfl,e⟩ | ⟨y,u,rfl,e⟩
   ·exact nomatch e
   ·injection e with e1 _; rw[e1]
 byValue:=λk v h=>by
  rcases keyIs_shape h with⟨i,t,rfl,rfl⟩ | ⟨x,t,rfl,rfl⟩ <;> rfl
 pyHash:=λhv h=>by
  rcases keyIs_shape hv with⟨i,t,rfl,rfl⟩ | ⟨x,t,rfl,rfl⟩
  ·exact wpAny_pyHash_int h
  ·exact wpAny_pyHash_str h
 eqBool:=λhu hv h=>by
  rcases keyIs_shape hu with⟨i,t,rfl,rfl⟩ | ⟨x,t,rfl,rfl⟩
  ·rcases keyIs_shape hv with⟨j,u,rfl,rfl⟩ | ⟨y,u,rfl,rfl⟩
   ·rw[key_ll] at h; exact wpAny_eqBool_int h
   ·rw[key_lr] at h; exact SeqAt.EqAt.int_str i t y u _ _ _ _ h
  ·rcases keyIs_shape hv with⟨j,u,rfl,rfl⟩ | ⟨y,u,rfl,rfl⟩
   ·rw[key_rl] at h; exact SeqAt.EqAt.str_int x t j u _ _ _ _ h
   ·rw[key_rr] at h; exact wpAny_eqBool_str h
 «strs»:=λk x t v h=>by
  rcases keyIs_shape h with⟨i,u,rfl,e⟩ | ⟨y,u,rfl,e⟩
  ·exact nomatch e
  ·injection e with e1 _
   subst e1
   cases v <;> rfl
theorem mixKind_int (prog:Program) (w:World) (i:Int) (t:Tok):(mixKind prog w).is (.inl i) (.int i t)=true:=keyIs_int i t
inductive V where
 | non | bl (b:Bool) | int (i:Int) | str (x:Str) | byt (b:Array UInt8) | flt (b:UInt64) | ref (a:Addr) | ty (n:String)
 deriving DecidableEq
def RelV:V->Value->Prop
 | .non,u=>u=Value.none
 | .bl b,u=>u=Value.bool b
 | .int i,u=>∃ t,u=Value.int i t
 | .str x,u=>∃ t,u=Value.str x t
 | .byt b,u=>∃ t,u=Value.bytes b t
 | .flt b,u=>∃ t,u=Value.float b t
 | .ref a,u=>u=Value.ref a
 | .ty n,u=>u=Value.type n
abbrev Vals:List V->List Value->Prop:=Paired RelV
theorem Vals.length {xs:List V} {us:List Value} (r:Vals xs us):xs.length=us.length:=Paired.length r
theorem Vals.get:∀ {xs:List V} {us:List Value} {i:Nat} {x:V},Vals xs us->xs[i]?=some x->∃ u,us[i]?=some u/\RelV x u
 | _,_,_,_,.nil,e=>by simp at e
 | _,_,0,_,.cons r _,e=>by simp at e; subst e; exact⟨_,rfl,r⟩
 | _,_,i+1,x,.cons _ t,e=>by
  obtain⟨u,h1,h2⟩:=Vals.get (i:=i) (x:=x) t (by simpa using e)
  exact⟨u,by simpa using h1,h2⟩
theorem Vals.set {x:V} {u:Value} (r:RelV x u):∀ {xs:List V} {us:List Value} (i:Nat),Vals xs us->Vals (xs.set i x) (us.set i u)
 | _,_,_,.nil=>.nil
 | _,_,0,.cons _ t=>.cons r t
 | _,_,i+1,.cons q t=>.cons q (Vals.set r i t)
theorem Vals.append:∀ {xs ys:List V} {us ws:List Value},Vals xs us->Vals ys ws->Vals (xs++ys) (us++ws)
 | _,_,_,_,.nil,s=>s
 | _,_,_,_,.cons r t,s=>.cons r (Vals.append t s)
theorem Vals.take:∀ {xs:List V} {us:List Value} (n:Nat),Vals xs us->Vals (xs.take n) (us.take n)
 | _,_,0,_=>.nil
 | _,_,_+1,.nil=>.nil
 | _,_,n+1,.cons r t=>.cons r (Vals.take n t)
theorem Vals.drop:∀ {xs:List V} {us:List Value} (n:Nat),Vals xs us->Vals (xs.drop n) (us.drop n)
 | _,_,0,r=>r
 | _,_,_+1,.nil=>.nil
 | _,_,n+1,.cons _ t=>Vals.drop n t
def RelO:Option V->Option Value->Prop
 | some v,some u=>RelV v u
 | none,none=>True
 | _,_=>False
def KV {κ:Type}:List (κ × V)->List (κ × Value)->Prop:=Paired λ(p:κ × V) (q:κ × Value)=>p.1=q.1/\RelV p.2 q.2
def kV:Key->V
 | .inl i=>.int i
 | .inr x=>.str x
inductive HO where
 /-- a list -/
 | lst (xs:List V)
 /-- a tuple (never changes) -/
 | tup (xs:List V)
 /-- a dict whose keys are ints and texts; one whose keys are tuples of ints and texts (the empty one is both) -/
 | dK (kvs:List (Key × V)) | dT (kvs:List (List Key × V))
 /-- a set of ints: its members,its size -/
 | set (S:Int->Bool) (n:Nat)
 /-- an instance of the class at C,its dict at dx,its attributes -/
 | ins (C dx:Addr) (fs:List (Str × V))
 /-- the dict of the instance at x -/
 | own (x:Addr)
 /-- the dict of an exception -/
 | xd (fs:List (Str × V))
 /-- a bound method,f of x -/
 | met (f x:Addr)
 /-- a range object lo,lo+1,.. below hi -/
 | rng (lo hi:Int)
 /-- a thing that is known to the object (the script; a dict while a loop walks it): read,never written while it is so -/
 | frz (o:Obj) (u:HO)
 /-- a code object's table -/
 | tbl (ps:Array Value)
 /-- any other thing,by what is true of its one object (a def of one's own: SetO a S n:=HO.ext λh=>..) -/
 | ext (φ:Heap->Prop)
abbrev Hp:=Addr->Option HO
def upd (H:Hp) (a:Addr) (o:HO):Hp:=λb=>if b=a then some o else H b
theorem upd_same {H:Hp} {a:Addr} {o:HO}:upd H a o a=some o:=by unfold upd; rw[if_pos rfl]
theorem upd_ne {H:Hp} {a b:Addr} {o:HO} (h:b ≠ a):upd H a o b=H b:=by unfold upd; rw[if_neg h]
theorem ne_of_none {H:Hp} {a b:Addr} {o:HO} (h:H a=some o) (h':H b=none):a ≠ b:=by
 intro e; subst e; rw[h] at h'; cases h'
section
variable (P:Program) (w:World)
def ObjOk (H:Hp) (h:Heap) (a:Addr):HO->Prop
 | .lst xs=>xs.length<=sizeLine/\∃ (its:List Value) (n:Nat),Vals xs its/\h.get? a=some { cls:=.type "list",data:=.seq its.toArray n }
 | .tup xs=>xs.length<=sizeLine/\(∃ its:List Value,Vals xs its/\IsTup h a its.toArray)/\∀ o,h.get? a=some o->o.dict=none
 | .dK kvs=>kvs.length<=sizeLine/\(a==sysModules)=false/\∃ vs,KV kvs vs/\h.DictOf (mixKind P w) a vs
 | .dT kvs=>kvs.length<=sizeLine/\(a==sysModules)=false/\∃ xs:List (List Key × Addr × Value),
   Paired (λ(p:List Key × V) (q:List Key × Addr × Value)=>p.1=q.1/\H q.2.1=some (.tup (p.1.map kV))/\RelV p.2 q.2.2) kvs xs /\
   ∃ o es ep,h.get? a=some o/\o.ExactDict/\o.data=.dict es ep/\es.toList=xs.map (entryOfKey (tupleKind (mixKind P w)))/\(xs.map (·.1)).Nodup
 | .set S n=>h.SetOf (intKind P w) a S n
 | .ins C dx fs=>H dx=some (.own a)/\fs.length<=1000/\dx ≠ a/\h.get? a=some (PySem.W.instObj C dx) /\
   ∃ mA,h.Ns1 dx mA/\(∀ f,RelO (fs.lookup f) (mA f))/\PySem.Within mA (fs.map (·.1))
 | .own _=>∃ o,h.get? a=some o
 | .xd fs=>∃ mA,h.Ns1 a mA/\∀ f,RelO (fs.lookup f) (mA f)
 | .rng lo hi=>∃ t u v,h.get? a=some { cls:=.type "range",data:=.fields #[.int lo t,.int hi u,.int 1 v] }
 | .frz o u=>h.get? a=some o/\ObjOk H h a u
 | .tbl qs=>∃ ps:Array Value,h.get? a=some { cls:=.none,data:=.fields ps }/\TriplesOk ps.toList/\∀ pos cv,codeAmong pos ps.toList=some cv->∃ c o vs q t t',cv=.ref c/\H c=some (.frz o (.own c))/\o.data=.fields vs/\vs[1]?=some (.str q t)/\qs[0]?=some (.str q t')
 | .met f x=>h.get? a=some (PySem.W.methodObj (.ref f) (.ref x))
 | .ext φ=>φ h/\(∃ o,h.get? a=some o)/\∀ h1 h2:Heap,φ h1->(∀ o,h1.get? a=some o->h2.get? a=some o)->φ h2
def HOk (H:Hp) (h:Heap):Prop:=∀ a o,H a=some o->ObjOk P w H h a o
end
section
variable {P:Program} {w:World} {H H':Hp} {h h':Heap} {a:Addr} {o:HO}
theorem ObjOk.lt (x:ObjOk P w H h a o):a<h.objs.size:=by
 cases o with
 | lst xs=>obtain⟨_,_,_,_,e⟩:=x; exact Heap.lt_size e
 | tup xs=>obtain⟨_,⟨_,_,p⟩,_⟩:=x; exact p.lt
 | dK kvs=>obtain⟨_,_,_,_,o,_,_,e,_⟩:=x; exact Heap.lt_size e
 | dT kvs=>obtain⟨_,_,_,_,o,_,_,e,_⟩:=x; exact Heap.lt_size e
 | set S n=>obtain⟨o,_,_,_,e,_⟩:=x; exact Heap.lt_size e
 | ins C dx fs=>obtain⟨_,_,_,e,_⟩:=x; exact Heap.lt_size e
 | own y=>obtain⟨_,e⟩:=x; exact Heap.lt_size e
 | xd fs=>obtain⟨_,⟨_,_,_,e,_⟩,_⟩:=x; exact Heap.lt_size e
 | rng lo hi=>obtain⟨_,_,_,e⟩:=x; exact Heap.lt_size e
 | frz ob u=>obtain⟨e,_⟩:=x; exact Heap.lt_size e
 | tbl ps=>obtain⟨_,e,_⟩:=x; exact Heap.lt_size e
 | met f y=>exact Heap.lt_size (show h.get? a=some _ from x)
 | ext φ=>obtain⟨_,⟨_,e⟩,_⟩:=x; exact Heap.lt_size e
theorem Paired.mapP {α β:Type} {F G:α->β->Prop}:∀ {l₁:List α} {l₂:List β},Paired F l₁ l₂->(∀ a b,F a b->G a b)->Paired G l₁ l₂
 | _,_,.nil,_=>.nil
 | _,_,.cons r t,f=>.cons (f _ _ r) (Paired.mapP t f)
theorem ObjOk.stay (x:ObjOk P w H h a o) (k:∀ b u,(b=a\/H b=some (.own a))->h.get? b=some u->h'.get? b=some u)
  (ho:∀ b,H b=some (.own a)->H' b=some (.own a)) (ht:∀ b xs,H b=some (.tup xs)->H' b=some (.tup xs)) (hz:∀ b o u,H b=some (.frz o u)->H' b=some (.frz o u)):ObjOk P w H' h' a o:=by
 induction o with
 | lst xs=>obtain⟨z,its,n,r,e⟩:=x; exact⟨z,its,n,r,k _ _ (.inl rfl) e⟩
 | tup xs=>obtain⟨z,⟨its,r,ob,e,c⟩,dd⟩:=x; exact⟨z,⟨its,r,ob,k _ _ (.inl rfl) e,c⟩,λo q=>by rw[k _ _ (.inl rfl) e] at q; cases q; exact dd _ e⟩
 | dK kvs=>obtain⟨z,y,vs,r,ob,es,ep,e,c⟩:=x; exact⟨z,y,vs,r,ob,es,ep,k _ _ (.inl rfl) e,c⟩
 | dT kvs=>
  obtain⟨z,y,xs,r,ob,es,ep,e,c⟩:=x
  exact⟨z,y,xs,Paired.mapP r λp q z=>⟨z.1,ht _ _ z.2.1,z.2.2⟩,ob,es,ep,k _ _ (.inl rfl) e,c⟩
 | set S n=>obtain⟨ob,es,ep,t,e,c⟩:=x; exact⟨ob,es,ep,t,k _ _ (.inl rfl) e,c⟩
 | ins C dx fs=>
  obtain⟨d,z,ne,e,mA,⟨od,es,ep,e2,c⟩,r⟩:=x
  exact⟨ho _ d,z,ne,k _ _ (.inl rfl) e,mA,⟨od,es,ep,k _ _ (.inr d) e2,c⟩,r⟩
 | own y=>obtain⟨ob,e⟩:=x; exact⟨ob,k _ _ (.inl rfl) e⟩
 | xd fs=>obtain⟨mA,⟨od,es,ep,e,c⟩,r⟩:=x; exact⟨mA,⟨od,es,ep,k _ _ (.inl rfl) e,c⟩,r⟩
 | rng lo hi=>obtain⟨t,u,v,e⟩:=x; exact⟨t,u,v,k _ _ (.inl rfl) e⟩
 | frz ob u ih=>obtain⟨e,q⟩:=x; exact⟨k _ _ (.inl rfl) e,ih q⟩
 | tbl ps=>
  obtain⟨qs,e,e1,e2⟩:=x
  exact⟨qs,k a _ (.inl rfl) e,e1,λpos cv e3=>by
   obtain⟨c,o,vs,q,t,t',p1,p2,p3⟩:=e2 pos cv e3
   exact⟨c,o,vs,q,t,t',p1,hz _ _ _ p2,p3⟩⟩
 | met f y=>
  have e:h.get? a=some (PySem.W.methodObj (.ref f) (.ref y)):=x
  show h'.get? a=some (PySem.W.methodObj (.ref f) (.ref y))
  exact k a _ (.inl rfl) e
 | ext φ=>obtain⟨p,⟨o,e⟩,st⟩:=x; exact⟨st _ _ p λo q=>k _ _ (.inl rfl) q,⟨o,k _ _ (.inl rfl) e⟩,st⟩
theorem HOk.lt (x:HOk P w H h) (e:H a=some o):a<h.objs.size:=(x a o e).lt
theorem HOk.fresh (x:HOk P w H h) (e:h.objs.size<=a):H a=none:=by
 cases q:H a with
 | none=>rfl
 | some u=>exact absurd (Nat.lt_of_lt_of_le (x.lt q) e) (Nat.lt_irrefl _)
theorem HOk.kept (x:HOk P w H h) (k:∀ b u,h.get? b=some u->h'.get? b=some u):HOk P w H h':=λa o e=>
 (x a o e).stay (λb u _ q=>k b u q) (λ_ q=>q) (λ_ _ q=>q) λ_ _ _ q=>q
theorem HOk.laid (x:HOk P w H h) (k:∀ b u,h.get? b=some u->h'.get? b=some u) (hp:h.objs.size<=a) (new:ObjOk P w (upd H a o) h' a o):HOk P w (upd H a o) h':=λb u e=>by
 have hn:=x.fresh hp
 by_cases hb:b=a
 ·subst hb; rw[upd_same] at e; cases e; exact new
 ·rw[upd_ne hb] at e
  exact(x b u e).stay (λc v _ q=>k c v q) (λc q=>by rw[upd_ne (ne_of_none q hn)]; exact q) (λc xs q=>by rw[upd_ne (ne_of_none q hn)]; exact q) λc o u q=>by rw[upd_ne (ne_of_none q hn)]; exact q
end
def Rd (H:Hp) (a:Addr) (u:HO):Prop:=H a=some u\/∃ o,H a=some (.frz o u)
theorem Rd.ok {P:Program} {w:World} {H:Hp} {h:Heap} {a:Addr} {u:HO} (r:Rd H a u) (x:HOk P w H h):ObjOk P w H h a u:=by
 rcases r with r | ⟨o,r⟩
 ·exact x a u r
 ·obtain⟨_,q⟩:=x a _ r
  exact q
def Mut:Option HO->Prop
 | some (.lst _)=>True
 | some (.dK _)=>True
 | some (.dT _)=>True
 | some (.set _ _)=>True
 | some (.ins _ _ _)=>True
 | some (.ext _)=>True
 | _=>False
section
variable {P:Program} {w:World} {H:Hp} {h h':Heap} {x e:Addr} {o':HO}
theorem HOk.write (ok:HOk P w H h) (mu:Mut (H x)) (he:e=x\/H e=some (.own x)) (k:∀ b u,b ≠ e->h.get? b=some u->h'.get? b=some u) (heo:∃ u,h'.get? e=some u)
  (new:ObjOk P w (upd H x o') h' x o'):HOk P w (upd H x o') h':=λb u q=>by
 have nown:∀ c y,H c=some (.own y)->c ≠ x:=λc y r z=>by subst z; rw[r] at mu; exact mu
 have ntup:∀ c xs,H c=some (.tup xs)->c ≠ x:=λc xs r z=>by subst z; rw[r] at mu; exact mu
 by_cases hb:b=x
 ·subst hb; rw[upd_same] at q; cases q; exact new
 ·rw[upd_ne hb] at q
  by_cases hbe:b=e
  ·have q':H b=some (.own x):=by
    rcases he with z | z
    ·exact absurd (hbe.trans z) hb
    ·rw[hbe]; exact z
   rw[q] at q'; cases q'
   obtain⟨v,hv⟩:=heo
   exact⟨v,by rw[hbe]; exact hv⟩
  ·refine(ok b u q).stay (λc v hc r=>k c v ?_ r) (λc r=>by rw[upd_ne (nown c b r)]; exact r) (λc xs r=>by rw[upd_ne (ntup c xs r)]; exact r) λc oz uz r=>by rw[upd_ne (λz=>by subst z; rw[r] at mu; exact mu)]; exact r
   rcases hc with rfl | hc
   ·exact hbe
   ·rintro rfl
    rcases he with z | z
    ·exact nown c b hc z
    ·rw[hc] at z; cases z; exact hb rfl
end
structure Un (fs ex:List Addr) (H H':Hp) (h h':Heap):Prop where
 keep:∀ b o,h.get? b=some o->H b=none->b ∉ fs->b ∉ ex->h'.get? b=some o
 slot:∀ b o,h.get? b=some o->H b=none->b ∈ fs->b ∉ ex->∃ sl,h'.get? b=some { o with slots:=sl }
 free:∀ b o,h.get? b=some o->H b=none->b ∉ ex->H' b=none
 there:∀ b o,h.get? b=some o->b ∉ ex->∃ o',h'.get? b=some o'
 tups:∀ b xs,H b=some (.tup xs)->H' b=some (.tup xs)
 frzs:∀ b o u,H b=some (.frz o u)->H' b=some (.frz o u)
 tbls:∀ b ps,H b=some (.tbl ps)->∃ more,H' b=some (.tbl (ps++more))
section
variable {fs fs' ex ex':List Addr} {H H1 H2:Hp} {h h1 h2 h':Heap} {a x e:Addr} {o:HO}
theorem Un.any (u:Un fs ex H H1 h h1) {b:Addr} {ob:Obj} (q:h.get? b=some ob) (n:H b=none) (hx:b ∉ ex):∃ sl,h1.get? b=some { ob with slots:=sl }:=by
 by_cases hb:b ∈ fs
 ·exact u.slot b ob q n hb hx
 ·exact⟨ob.slots,u.keep b ob q n hb hx⟩
theorem Un.trans (a:Un fs ex H H1 h h1) (b:Un fs ex H1 H2 h1 h2):Un fs ex H H2 h h2 where
 keep:=λc ob q n hc hx=>b.keep c ob (a.keep c ob q n hc hx) (a.free c ob q n hx) hc hx
 slot:=λc ob q n hc hx=>by
  obtain⟨sl,e1⟩:=a.slot c ob q n hc hx
  obtain⟨sl',e2⟩:=b.slot c _ e1 (a.free c ob q n hx) hc hx
  exact⟨sl',e2⟩
 free:=λc ob q n hx=>by
  obtain⟨o',e1⟩:=a.there c ob q hx
  exact b.free c o' e1 (a.free c ob q n hx) hx
 there:=λc ob q hx=>by
  obtain⟨o',e1⟩:=a.there c ob q hx
  exact b.there c o' e1 hx
 tups:=λc xs q=>b.tups c xs (a.tups c xs q)
 frzs:=λc ob xs q=>b.frzs c ob xs (a.frzs c ob xs q)
 tbls:=λc ps q=>by
  obtain⟨m1,e1⟩:=a.tbls c ps q
  obtain⟨m2,e2⟩:=b.tbls c _ e1
  exact⟨m1++m2,by rw[e2,Array.append_assoc]⟩
theorem Un.kept (k:∀ b u,h.get? b=some u->h'.get? b=some u):Un fs ex H H h h':=
 ⟨λb ob q _ _ _=>k b ob q,λb ob q _ _ _=>⟨ob.slots,k b ob q⟩,λ_ _ _ n _=>n,λb ob q _=>⟨ob,k b ob q⟩,λ_ _ q=>q,λ_ _ _ q=>q,λ_ ps q=>⟨#[],by rw[q]; simp⟩⟩
theorem Un.refl:Un fs ex H H h h:=Un.kept λ_ _ q=>q
theorem Un.laid (k:∀ b u,h.get? b=some u->h'.get? b=some u) (hp:h.objs.size<=a) (hn:H a=none):Un fs ex H (upd H a o) h h' where
 keep:=λb u q _ _ _=>k b u q
 slot:=λb u q _ _ _=>⟨u.slots,k b u q⟩
 free:=λb u q n _=>by rw[upd_ne (Nat.ne_of_lt (Nat.lt_of_lt_of_le (Heap.lt_size q) hp))]; exact n
 there:=λb u q _=>⟨u,k b u q⟩
 tups:=λb xs q=>by rw[upd_ne (ne_of_none q hn)]; exact q
 frzs:=λb u xs q=>by rw[upd_ne (ne_of_none q hn)]; exact q
 tbls:=λb ps q=>⟨#[],by rw[upd_ne (ne_of_none q hn),q]; simp⟩
theorem Un.write (mu:Mut (H x)) (he:e=x\/H e=some (.own x)) (k:∀ b u,b ≠ e->h.get? b=some u->h'.get? b=some u) (heo:∃ u,h'.get? e=some u):Un fs ex H (upd H x o) h h':=by
 have hx:∀ b,H b=none->b ≠ x:=λb n z=>by subst z; rw[n] at mu; exact mu
 have hb:∀ b,H b=none->b ≠ e:=λb n z=>by
  subst z
  rcases he with r | r
  ·exact hx b n r
  ·rw[n] at r; cases r
 have hm:∀ b u,H b=some u->¬ Mut (some u)->b ≠ x:=λb u q nm z=>by subst z; rw[q] at mu; exact nm mu
 refine⟨λb u q n _ _=>k b u (hb b n) q,λb u q n _ _=>⟨u.slots,k b u (hb b n) q⟩,λb u q n _=>by rw[upd_ne (hx b n)]; exact n,λb u q _=>?_,
  λb xs q=>by rw[upd_ne (hm b _ q λz=>z)]; exact q,λb u xs q=>by rw[upd_ne (hm b _ q λz=>z)]; exact q,λb ps q=>⟨#[],by rw[upd_ne (hm b _ q λz=>z),q]; simp⟩⟩
 by_cases hbe:b=e
 ·subst hbe; exact heo
 ·exact⟨u,k b u hbe q⟩
end
def trk (h:Heap) (H:Hp):List Addr:=(List.range h.objs.size).filter λa=>(H a).isSome
def hidT (h:Heap) (H:Hp):Heap:=PySem.W.hideAll h (trk h H)
theorem hidT_size (h:Heap) (H:Hp):(hidT h H).objs.size=h.objs.size:=PySem.W.hideAll_size _ _
theorem hidT_get {h:Heap} {H:Hp} {b:Addr} {o:Obj} (e:h.get? b=some o) (n:H b=none):(hidT h H).get? b=some o:=
 PySem.W.hideAll_get _ e λhm=>by
  have q:(H b).isSome=true:=(List.mem_filter.mp hm).2
  rw[n] at q; simp at q
theorem of_hidT {h:Heap} {H:Hp} {b:Addr} {o:Obj} (e:(hidT h H).get? b=some o):h.get? b=some o/\H b=none:=by
 have e':h.get? b=some o:=PySem.W.of_hideAll (trk h H) e
 refine⟨e',?_⟩
 cases q:H b with
 | none=>rfl
 | some x=>
  have hm:b ∈ trk h H:=List.mem_filter.mpr ⟨List.mem_range.mpr (Heap.lt_size e'),by simp[q]⟩
  have z:(hidT h H).get? b=none:=PySem.W.hideAll_none (trk h H) hm
  rw[z] at e; cases e
def allNews (g h:Heap) (L:Addr):List (Addr × Obj):=(List.range h.objs.size).filterMap λa=>if a=L\/(g.get? a).isSome=true then none else (h.get? a).map λo=>(a,o)
theorem mem_allNews {g h:Heap} {L a:Addr} {o:Obj} (h1:a ≠ L) (h2:g.get? a=none) (h3:h.get? a=some o):(a,o) ∈ allNews g h L:=
 List.mem_filterMap.mpr ⟨a,List.mem_range.mpr (Heap.lt_size h3),by simp[h1,h2,h3]⟩
theorem of_mem_allNews {g h:Heap} {L:Addr} {p:Addr × Obj} (hp:p ∈ allNews g h L):p.1 ≠ L/\g.get? p.1=none/\h.get? p.1=some p.2:=by
 obtain⟨b,_,e⟩:=List.mem_filterMap.mp hp
 split at e
 ·cases e
 ·rename_i hn
  cases q:h.get? b with
  | none=>rw[q] at e; simp at e
  | some u=>
   rw[q] at e
   simp only[Option.map_some,Option.some.injEq] at e
   subst e
   refine⟨λz=>hn (.inl z),?_,q⟩
   show g.get? b=none
   cases r:g.get? b with
   | none=>rfl
   | some v=>exact(hn (.inr (by simp[r]))).elim
theorem news_all {g h:Heap} {L:Addr}:News g L h (allNews g h L):=λp hp=>let ⟨a,b,c⟩:=of_mem_allNews hp; ⟨c,a,b⟩
structure Mod (K:PySem.W.Frag) (mg:Str->Option Value) (base:Heap):Prop where
 kin:K.In base
 glob:base.Ns mainGlobals mg
 blt:∃ mb,base.Ns builtinsNs mb/\∀ x:Str,x ≠ "__name__" -> mb x=bootBuiltins x
 nolimit:base.NoLimit
structure Cx where
 prog:Program
 w:World
 K:PySem.W.Frag
 mg:Str->Option Value
 base:Heap
 A:Around
 N:List Str
 s₀:Shared
 H₀:Hp
 env:Env
 outer:List Env
 stack:List Env
 ex:List Addr
 fn:Str->Bool
 calm:Bool
 pn:List (Addr × Obj)
 xe:Value->Shared->Prop
def frs (l:List Env):List Addr:=l.filterMap (·.frame)
abbrev Cx.fs (X:Cx):List Addr:=frs X.outer
def Vis (sc:Scope) (x:Str):Prop:=sc.names.lookup x=some .local\/sc.names.lookup x=some .cell\/sc.names.lookup x=some .free
def Loc (sc:Scope) (x:Str):Prop:=sc.names.lookup x=some .local\/sc.names.lookup x=some .cell
def Look (env:Env) (h:Heap) (m:Str->Option Value) (x:Str) (u:Value):Prop:=
 (env.kindOf x=some .local/\m x=some u)\/((env.kindOf x=some .cell\/env.kindOf x=some .free)/\∃ c,env.cells.lookup x=some c/\h.IsCell c (some u))
structure Cx.Ok (X:Cx):Prop where
 mod:Mod X.K X.mg X.base
 kind:X.env.scope.kind=.function
 glob:X.env.globals=mainGlobals
 blt:X.env.builtins=builtinsNs
 above:X.s₀.heap.objs.size<=X.env.locals
 inj:∀ x y c,X.env.cells.lookup x=some c->X.env.cells.lookup y=some c->x=y
 has:∀ x,(X.env.kindOf x=some .cell\/X.env.kindOf x=some .free)->∃ c,X.env.cells.lookup x=some c
 cab:∀ x c,X.fn x=true->X.env.cells.lookup x=some c->X.s₀.heap.objs.size<=c
 hd:X.calm=true->X.A.handled=none
 frames:X.A.frames=some X.stack
 stk:X.stack=X.outer\/(X.stack=X.env::X.outer/\X.env.frame=some X.env.locals)
 exf:∀ b ∈ X.ex,b ≠ X.env.locals/\∀ x c,X.env.cells.lookup x=some c->c ≠ b
 bs:∀ b o,X.base.get? b=some o->X.s₀.heap.get? b=some o/\X.H₀ b=none
 bsz:X.base.objs.size<=X.s₀.heap.objs.size
 noex:∀ b o,X.base.get? b=some o->b ∉ X.ex
 exfs:∀ b ∈ X.ex,b ∉ X.fs
 funs:X.s₀.heap.FunFrames X.base X.outer
 frf:∀ b ∈ X.fs,X.H₀ b=none
structure Inv (X:Cx) (pins:List (Addr × Obj)) (σ:List (Option V)) (H:Hp) (s:Shared):Prop where
 ok:X.Ok
 os:s.os=X.s₀.os
 bare:AllBare s.gens
 base:Un X.fs X.ex X.H₀ H X.s₀.heap s.heap
 loc:∃ m,s.heap.Ns X.env.locals m/\∀ (i:Nat) (x:Str) (v:V),X.N[i]?=some x->σ[i]?=some (some v)->Vis X.env.scope x->∃ u,RelV v u/\Look X.env s.heap m x u
 cell:∀ x c,X.env.cells.lookup x=some c->∃ v,s.heap.IsCell c v
 free:H X.env.locals=none
 freeC:∀ x c,X.env.cells.lookup x=some c->H c=none
 pin:∀ p ∈ X.pn++pins,s.heap.get? p.1=some p.2/\H p.1=none/\p.1 ≠ X.env.locals/\p.1 ∉ X.fs/\∀ v,p.2.data ≠ .cell v
 hok:HOk X.prog X.w H s.heap
 len:σ.length=X.N.length
section
variable {X:Cx} {pins:List (Addr × Obj)} {σ:List (Option V)} {H H':Hp} {s:Shared} {h':Heap}
theorem Cx.Ok.nofr (ok:X.Ok) {b:Addr} {o:Obj} (e:X.base.get? b=some o):b ∉ X.fs:=λhb=>by
 have:=(ok.funs.mem hb).1
 rw[e] at this; cases this
theorem Inv.bs (I:Inv X pins σ H s):∀ b o,X.base.get? b=some o->s.heap.get? b=some o/\H b=none:=λb o e=>
 ⟨I.base.keep b o (I.ok.bs b o e).1 (I.ok.bs b o e).2 (I.ok.nofr e) (I.ok.noex b o e),I.base.free b o (I.ok.bs b o e).1 (I.ok.bs b o e).2 (I.ok.noex b o e)⟩
theorem Inv.bk (I:Inv X pins σ H s):∀ b o,X.base.get? b=some o->s.heap.get? b=some o:=λb o e=>(I.bs b o e).1
theorem Inv.mod (I:Inv X pins σ H s):Mod X.K X.mg X.base:=I.ok.mod
theorem Inv.kIn (I:Inv X pins σ H s):X.K.In s.heap:=I.ok.mod.kin.keeps I.bk
theorem Inv.lt (I:Inv X pins σ H s):X.env.locals<s.heap.objs.size:=let ⟨_,hn,_⟩:=I.loc; hn.lt
theorem Inv.sz (I:Inv X pins σ H s):X.s₀.heap.objs.size<=s.heap.objs.size:=Nat.le_trans I.ok.above (Nat.le_of_lt I.lt)
theorem Inv.nofs (I:Inv X pins σ H s) {a:Addr} (h:s.heap.objs.size<=a):a ∉ X.fs:=λhb=>by
 obtain⟨_,o,ho,_⟩:=I.ok.funs.mem hb
 exact absurd (Nat.lt_of_lt_of_le (Heap.lt_size ho) (Nat.le_trans I.sz h)) (Nat.lt_irrefl _)
theorem Inv.cne (I:Inv X pins σ H s):∀ x c,X.env.cells.lookup x=some c->c ≠ X.env.locals:=λx c e z=>by
 obtain⟨v,o,ho,hd⟩:=I.cell x c e
 obtain⟨m,⟨o',es,ep,ho',hd',_⟩,_⟩:=I.loc
 rw[z,ho'] at ho; cases ho; rw[hd'] at hd; cases hd
theorem Inv.funs (I:Inv X pins σ H s):s.heap.FunFrames X.base X.outer:=by
 have all:∀ (l:List Env),(∀ b ∈ frs l,b ∈ X.fs)->X.s₀.heap.FunFrames X.base l->s.heap.FunFrames X.base l:=by
  intro l
  induction l with
  | nil=>intro _ _; trivial
  | cons env r ih=>
   intro hs hl
   obtain⟨hk,⟨L,o,hf,hn,ho,hd⟩,hr⟩:=hl
   have hL:L ∈ X.fs:=hs L (by unfold frs; rw[List.filterMap_cons,hf]; exact List.mem_cons_self)
   obtain⟨sl,e⟩:=I.base.slot L o ho (I.ok.frf L hL) hL λz=>I.ok.exfs L z hL
   exact⟨hk,⟨L,_,hf,hn,e,hd⟩,ih (λb hb=>hs b (by unfold frs; rw[List.filterMap_cons,hf]; exact List.mem_cons_of_mem _ hb)) hr⟩
 exact all X.outer (λ_ hb=>hb) I.ok.funs
theorem Inv.stack (I:Inv X pins σ H s):s.heap.FunFrames X.base X.stack:=by
 rcases I.ok.stk with e | ⟨e,hf⟩
 ·rw[e]; exact I.funs
 ·rw[e]
  obtain⟨m,hn,_⟩:=I.loc
  refine .cons (by rw[I.ok.kind]; decide) hf hn ?_ I.funs
  exact Heap.get?_none_of_le (Nat.le_trans I.ok.bsz I.ok.above)
theorem Inv.stkSub (I:Inv X pins σ H s):∀ b ∈ frs X.stack,b ∈ X.env.locals::X.fs:=λb hb=>by
 rcases I.ok.stk with e | ⟨e,hf⟩
 ·rw[e] at hb; exact List.mem_cons_of_mem _ hb
 ·rw[e] at hb
  unfold frs at hb
  rw[List.filterMap_cons,hf] at hb
  exact hb
theorem Inv.stkFree (I:Inv X pins σ H s):∀ b ∈ frs X.stack,H b=none:=λb hb=>by
 rcases List.mem_cons.mp (I.stkSub b hb) with e | hb
 ·rw[e]; exact I.free
 ·obtain⟨_,o,ho,_⟩:=I.ok.funs.mem hb
  exact I.base.free b o ho (I.ok.frf b hb) λz=>I.ok.exfs b z hb
theorem Inv.step {g':Array GenState} {t':Nat} {d':Drawn} {ch:List Addr} (I:Inv X pins σ H s)
  (hch:∀ b ∈ ch,(b ∈ X.ex\/X.s₀.heap.objs.size<=b)/\b ≠ X.env.locals/\(∀ x c,X.env.cells.lookup x=some c->c ≠ b)/\∀ p ∈ X.pn++pins,p.1 ≠ b)
  (keep:∀ b o,b ≠ X.env.locals->b ∉ X.fs->b ∉ ch->s.heap.get? b=some o->H b=none->h'.get? b=some o)
  (slot:∀ b o,b ≠ X.env.locals->b ∈ X.fs->b ∉ ch->s.heap.get? b=some o->H b=none->∃ sl,h'.get? b=some { o with slots:=sl }) (free:∀ b o,b ∉ ch->s.heap.get? b=some o->H b=none->H' b=none)
  (there:∀ b o,b ∉ ch->s.heap.get? b=some o->∃ o',h'.get? b=some o')
  (tups:∀ b xs,H b=some (.tup xs)->H' b=some (.tup xs)) (frzs:∀ b o u,H b=some (.frz o u)->H' b=some (.frz o u)) (tbls:∀ b ps,H b=some (.tbl ps)->∃ more,H' b=some (.tbl (ps++more)))
  (ns:∀ m,s.heap.Ns X.env.locals m->h'.Ns X.env.locals m) (hok:HOk X.prog X.w H' h') (hg:AllBare g') :
  Inv X pins σ H' { s with heap:=h',gens:=g',drawn:=d',toks:=t' }:=by
 have neL:∀ b o,X.s₀.heap.get? b=some o->b ≠ X.env.locals:=λb o e=>Nat.ne_of_lt (Nat.lt_of_lt_of_le (Heap.lt_size e) I.ok.above)
 have neC:∀ b o,X.s₀.heap.get? b=some o->b ∉ X.ex->b ∉ ch:=λb o e hx hb=>by
  rcases(hch b hb).1 with z | z
  ·exact hx z
  ·exact absurd (Nat.lt_of_lt_of_le (Heap.lt_size e) z) (Nat.lt_irrefl _)
 have cellK:∀ x c,X.env.cells.lookup x=some c->∀ v,s.heap.IsCell c v->h'.IsCell c v:=λx c e v ⟨o,ho,hd⟩=>by
  have nch:c ∉ ch:=λz=>(hch c z).2.2.1 x c e rfl
  by_cases hc:c ∈ X.fs
  ·obtain⟨sl,q⟩:=slot c o (I.cne x c e) hc nch ho (I.freeC x c e)
   exact⟨_,q,hd⟩
  ·exact⟨o,keep c o (I.cne x c e) hc nch ho (I.freeC x c e),hd⟩
 refine⟨I.ok,I.os,hg,⟨λb o e n hb hx=>?_,λb o e n hb hx=>?_,λb o e n hx=>?_,λb o e hx=>?_,λb xs e=>tups b xs (I.base.tups b xs e),λb o xs e=>frzs b o xs (I.base.frzs b o xs e),λb ps e=>?_⟩,?_,λx c e=>?_,?_,λx c e=>?_,λp hp=>?_,hok,I.len⟩
 ·exact keep b o (neL b o e) hb (neC b o e hx) (I.base.keep b o e n hb hx) (I.base.free b o e n hx)
 ·obtain⟨sl,e1⟩:=I.base.slot b o e n hb hx
  obtain⟨sl',e2⟩:=slot b _ (neL b o e) hb (neC b o e hx) e1 (I.base.free b o e n hx)
  exact⟨sl',e2⟩
 ·obtain⟨o',e1⟩:=I.base.there b o e hx
  exact free b o' (neC b o e hx) e1 (I.base.free b o e n hx)
 ·obtain⟨o',e1⟩:=I.base.there b o e hx
  exact there b o' (neC b o e hx) e1
 ·obtain⟨m1,e1⟩:=I.base.tbls b ps e
  obtain⟨m2,e2⟩:=tbls b _ e1
  exact⟨m1++m2,by rw[e2,Array.append_assoc]⟩
 ·obtain⟨m,hn,hl⟩:=I.loc
  refine⟨m,ns m hn,λi x v e1 e2 e3=>?_⟩
  obtain⟨u,r,l⟩:=hl i x v e1 e2 e3
  refine⟨u,r,?_⟩
  rcases l with l | ⟨k,c,e,z⟩
  ·exact .inl l
  ·exact .inr ⟨k,c,e,cellK x c e _ z⟩
 ·obtain⟨v,z⟩:=I.cell x c e
  exact⟨v,cellK x c e v z⟩
 ·obtain⟨m,⟨o,_,_,ho,_⟩,_⟩:=I.loc
  exact free _ o (λz=>(hch _ z).2.1 rfl) ho I.free
 ·obtain⟨v,o,ho,hd⟩:=I.cell x c e
  exact free c o (λz=>(hch c z).2.2.1 x c e rfl) ho (I.freeC x c e)
 ·obtain⟨e,n,ne,nf,d⟩:=I.pin p hp
  have nch:p.1 ∉ ch:=λz=>(hch p.1 z).2.2.2 p hp rfl
  exact⟨keep p.1 p.2 ne nf nch e n,free p.1 p.2 nch e n,ne,nf,d⟩
theorem Inv.un {t':Nat} (I:Inv X pins σ H s) (u:Un X.fs [] H H' s.heap h') (hok:HOk X.prog X.w H' h'):Inv X pins σ H' { s with heap:=h',toks:=t' }:=by
 obtain⟨m,⟨o,es,ep,ho,r⟩,_⟩:=id I.loc
 obtain⟨sl,hL⟩:=u.any ho I.free (by simp)
 exact I.step (g':=s.gens) (d':=s.drawn) (ch:=[]) (λ_ z=>nomatch z) (λb o _ hb _ e n=>u.keep b o e n hb (by simp)) (λb o _ hb _ e n=>u.slot b o e n hb (by simp)) (λb o _ e n=>u.free b o e n (by simp)) (λb o _ e=>u.there b o e (by simp)) u.tups u.frzs u.tbls (λm' hm=>by
  obtain⟨o',es',ep',ho',r'⟩:=hm
  rw[ho] at ho'; cases ho'
  exact⟨_,es',ep',hL,r'⟩) hok I.bare
theorem Inv.call {g':Array GenState} {t':Nat} {d':Drawn} {ch:List Addr} (I:Inv X pins σ H s) (u:Un (frs X.stack) ch H H' s.heap h') (hok:HOk X.prog X.w H' h') (hg:AllBare g')
  (hch:∀ b ∈ ch,(b ∈ X.ex\/X.s₀.heap.objs.size<=b)/\b ≠ X.env.locals/\(∀ x c,X.env.cells.lookup x=some c->c ≠ b)/\∀ p ∈ X.pn++pins,p.1 ≠ b) :
  Inv X pins σ H' { s with heap:=h',gens:=g',drawn:=d',toks:=t' }:=by
 obtain⟨m,⟨o,es,ep,ho,r⟩,_⟩:=id I.loc
 obtain⟨sl,hL⟩:=u.any ho I.free λz=>(hch _ z).2.1 rfl
 exact I.step (ch:=ch) hch (λb o hL hb hc e n=>u.keep b o e n (λz=>(List.mem_cons.mp (I.stkSub b z)).elim hL hb) hc) (λb o _ _ hc e n=>u.any e n hc) (λb o hc e n=>u.free b o e n hc) (λb o hc e=>u.there b o e hc) u.tups u.frzs u.tbls (λm' hm=>by
  obtain⟨o',es',ep',ho',r'⟩:=hm
  rw[ho] at ho'; cases ho'
  exact⟨_,es',ep',hL,r'⟩) hok hg
theorem Inv.turned {t':Nat} {it:Addr} (I:Inv X pins σ H s) (k:∀ b o,b ≠ it->s.heap.get? b=some o->h'.get? b=some o) (hn:H it=none) (hL:it ≠ X.env.locals)
  (h1:it ∈ X.ex\/X.s₀.heap.objs.size<=it) (h2:∀ x c,X.env.cells.lookup x=some c->c ≠ it) (h3:∀ p ∈ X.pn++pins,p.1 ≠ it):Inv X pins σ H { s with heap:=h',toks:=t' }:=by
 have nit:∀ b u,H b=some u->b ≠ it:=λb u e z=>by rw[z,hn] at e; cases e
 refine I.step (g':=s.gens) (d':=s.drawn) (ch:=[it]) (λb hb=>?_) (λb o _ _ hc e _=>k b o (λz=>hc (by simp[z])) e) (λb o _ _ hc e _=>⟨o.slots,k b o (λz=>hc (by simp[z])) e⟩) (λ_ _ _ _ n=>n)
  (λb o hc e=>⟨o,k b o (λz=>hc (by simp[z])) e⟩) (λ_ _ e=>e) (λ_ _ _ e=>e) (λb ps e=>⟨#[],by rw[e]; simp⟩) (λm hm=>?_) (λb u e=>?_) I.bare
 ·have e:b=it:=by simpa using hb
  subst e
  exact⟨h1,hL,h2,h3⟩
 ·obtain⟨o,es,ep,ho,r⟩:=hm
  exact⟨o,es,ep,k _ o (Ne.symm hL) ho,r⟩
 ·refine(I.hok b u e).stay (λc v hc q=>k c v ?_ q) (λ_ q=>q) (λ_ _ q=>q) λ_ _ _ q=>q
  rcases hc with z | z
  ·rw[z]; exact nit b u e
  ·exact nit c _ z
theorem Inv.tok (I:Inv X pins σ H s) (t:Nat):Inv X pins σ H { s with toks:=t }:=I.un (h':=s.heap) (t':=t) Un.refl I.hok
theorem Inv.kept {t':Nat} (I:Inv X pins σ H s) (k:∀ b u,s.heap.get? b=some u->h'.get? b=some u):Inv X pins σ H { s with heap:=h',toks:=t' }:=I.un (Un.kept k) (I.hok.kept k)
theorem Inv.laid {a:Addr} {o:HO} {t':Nat} (I:Inv X pins σ H s) (k:∀ b u,s.heap.get? b=some u->h'.get? b=some u) (hp:s.heap.objs.size<=a) (new:ObjOk X.prog X.w (upd H a o) h' a o) :
  Inv X pins σ (upd H a o) { s with heap:=h',toks:=t' }:=I.un (Un.laid k hp (I.hok.fresh hp)) (I.hok.laid k hp new)
theorem Inv.write {x e:Addr} {o:HO} {t':Nat} (I:Inv X pins σ H s) (mu:Mut (H x)) (he:e=x\/H e=some (.own x)) (k:∀ b u,b ≠ e->s.heap.get? b=some u->h'.get? b=some u) (heo:∃ u,h'.get? e=some u)
  (new:ObjOk X.prog X.w (upd H x o) h' x o):Inv X pins σ (upd H x o) { s with heap:=h',toks:=t' }:=I.un (Un.write mu he k heo) (I.hok.write mu he k heo new)
theorem Inv.pins_of {pins':List (Addr × Obj)} (I:Inv X pins σ H s) (h:∀ p ∈ pins',s.heap.get? p.1=some p.2/\H p.1=none/\p.1 ≠ X.env.locals/\p.1 ∉ X.fs/\∀ v,p.2.data ≠ .cell v):Inv X pins' σ H s:=
 ⟨I.ok,I.os,I.bare,I.base,I.loc,I.cell,I.free,I.freeC,λp hp=>(List.mem_append.mp hp).elim (λz=>I.pin p (List.mem_append_left _ z)) (h p),I.hok,I.len⟩
theorem nodup_ix {N:List Str} (hN:N.Nodup) {i j:Nat} {x:Str} (a:N[i]?=some x) (b:N[j]?=some x):i=j:=by
 obtain⟨h1,e1⟩:=List.getElem?_eq_some_iff.mp a
 obtain⟨h2,e2⟩:=List.getElem?_eq_some_iff.mp b
 exact(List.getElem_inj hN).mp (e1.trans e2.symm)
theorem store_ok2 {M:Model} {A:Around} {E:Value->Shared->Prop} {i:Nat} {x:Str} {v:V} {u:Value} {Q:Unit->Shared->Prop} (I:Inv X pins σ H s) (hN:X.N.Nodup) (hi:X.N[i]?=some x) (hx:Loc X.env.scope x) (r:RelV v u)
  (h:∀ s',Inv X pins (σ.set i (some v)) H s'->(∃ a,Heap.SameBut a s.heap s'.heap/\(a=X.env.locals\/X.env.cells.lookup x=some a))->Q () s') (hf:X.fn x=true\/X.env.scope.names.lookup x=some .local:=by first | exact .inl rfl | exact .inr rfl | assumption):wpAny M A (storeName X.env x u) Q E s:=by
 obtain⟨m,hn,hl⟩:=id I.loc
 have hcls:(X.env.scope.kind==.class||(X.env.scope.kind==.module&&X.env.locals != X.env.globals))=false:=by rw[I.ok.kind]; rfl
 have hiσ:i < σ.length:=by rw[I.len]; exact(List.getElem?_eq_some_iff.mp hi).1
 have cne:=I.cne
 have tracked:∀ {a:Addr} {h':Heap},(∃ o,s.heap.get? a=some o/\H a=none)->Heap.SameBut a s.heap h'->HOk X.prog X.w H h':=λ{a h'} ha hs b ob e=>by
  obtain⟨_,_,hfree⟩:=ha
  refine(I.hok b ob e).stay (λc w' hc q=>(hs.2 c ?_).trans q) (λ_ q=>q) (λ_ _ q=>q) λ_ _ _ q=>q
  rintro rfl
  rcases hc with rfl | hc
  ·rw[hfree] at e; cases e
  ·rw[hfree] at hc; cases hc
 rcases hx with hk | hk
 ·refine wpAny_storeName_local hk hn (λh' hn' hs=>?_) hcls
  obtain⟨oL,_,_,hoL,_⟩:=id hn
  refine h _ ⟨I.ok,I.os,I.bare,⟨λb o e n hb hx=>?_,λb o e n hb hx=>?_,I.base.free,λb o e hx=>?_,I.base.tups,I.base.frzs,I.base.tbls⟩,⟨_,hn',λj y v' e1 e2 e3=>?_⟩,λy c e=>?_,I.free,I.freeC,λp hp=>?_,tracked ⟨oL,hoL,I.free⟩ hs,by simpa using I.len⟩ ⟨_,hs,.inl rfl⟩
  ·exact(hs.2 b (Nat.ne_of_lt (Nat.lt_of_lt_of_le (Heap.lt_size e) I.ok.above))).trans (I.base.keep b o e n hb hx)
  ·obtain⟨sl,e1⟩:=I.base.slot b o e n hb hx
   exact⟨sl,(hs.2 b (Nat.ne_of_lt (Nat.lt_of_lt_of_le (Heap.lt_size e) I.ok.above))).trans e1⟩
  ·obtain⟨o',e1⟩:=I.base.there b o e hx
   exact⟨o',(hs.2 b (Nat.ne_of_lt (Nat.lt_of_lt_of_le (Heap.lt_size e) I.ok.above))).trans e1⟩
  ·by_cases hj:j=i
   ·subst hj
    rw[hi] at e1; cases e1
    rw[List.getElem?_set_self hiσ] at e2
    cases e2
    exact⟨u,r,.inl ⟨hk,by simp⟩⟩
   ·rw[List.getElem?_set_ne (Ne.symm hj)] at e2
    obtain⟨u',r',q⟩:=hl j y v' e1 e2 e3
    refine⟨u',r',?_⟩
    rcases q with⟨k,e⟩ | ⟨k,c,e,z⟩
    ·refine .inl ⟨k,?_⟩
     have:y ≠ x:=λe=>hj (nodup_ix hN e1 (e ▸ hi))
     simp[this,e]
    ·exact .inr ⟨k,c,e,z.sameBut hs (cne y c e)⟩
  ·obtain⟨w',z⟩:=I.cell y c e
   exact⟨w',z.sameBut hs (cne y c e)⟩
  ·obtain⟨e,n,ne,nf,d⟩:=I.pin p hp
   exact⟨(hs.2 p.1 ne).trans e,n,ne,nf,d⟩
 ·have hfn:X.fn x=true:=by
   rcases hf with z | z
   ·exact z
   ·rw[z] at hk; cases hk
  obtain⟨c,hc⟩:=I.ok.has x (.inl hk)
  obtain⟨w',z⟩:=I.cell x c hc
  refine wpAny_storeName_cell I.ok.kind hk hc z (λh' hc' hs=>?_)
  obtain⟨oc,hoc,hocd⟩:=id z
  refine h { s with heap:=h' } ⟨I.ok,I.os,I.bare,⟨λb o e n hb hx=>?_,λb o e n hb hx=>?_,I.base.free,λb o e hx=>?_,I.base.tups,I.base.frzs,I.base.tbls⟩,⟨m,hn.sameBut hs (Ne.symm (cne x c hc)),λj y v' e1 e2 e3=>?_⟩,λy c' e=>?_,I.free,I.freeC,λp hp=>?_,tracked ⟨oc,hoc,I.freeC x c hc⟩ hs,by simpa using I.len⟩ ⟨c,hs,.inr hc⟩
  ·exact(hs.2 b (Nat.ne_of_lt (Nat.lt_of_lt_of_le (Heap.lt_size e) (I.ok.cab x c hfn hc)))).trans (I.base.keep b o e n hb hx)
  ·obtain⟨sl,e1⟩:=I.base.slot b o e n hb hx
   exact⟨sl,(hs.2 b (Nat.ne_of_lt (Nat.lt_of_lt_of_le (Heap.lt_size e) (I.ok.cab x c hfn hc)))).trans e1⟩
  ·obtain⟨o',e1⟩:=I.base.there b o e hx
   exact⟨o',(hs.2 b (Nat.ne_of_lt (Nat.lt_of_lt_of_le (Heap.lt_size e) (I.ok.cab x c hfn hc)))).trans e1⟩
  ·by_cases hj:j=i
   ·subst hj
    rw[hi] at e1; cases e1
    rw[List.getElem?_set_self hiσ] at e2
    cases e2
    exact⟨u,r,.inr ⟨.inl hk,c,hc,hc'⟩⟩
   ·rw[List.getElem?_set_ne (Ne.symm hj)] at e2
    obtain⟨u',r',q⟩:=hl j y v' e1 e2 e3
    refine⟨u',r',?_⟩
    rcases q with q | ⟨k,c',e,z'⟩
    ·exact .inl q
    ·refine .inr ⟨k,c',e,z'.sameBut hs ?_⟩
     rintro rfl
     exact hj (nodup_ix hN e1 (I.ok.inj _ _ _ e hc ▸ hi))
  ·by_cases hcc:c'=c
   ·subst hcc; exact⟨_,hc'⟩
   ·obtain⟨w2,z2⟩:=I.cell y c' e
    exact⟨w2,z2.sameBut hs hcc⟩
  ·obtain⟨e,n,ne,nf,d⟩:=I.pin p hp
   refine⟨(hs.2 p.1 ?_).trans e,n,ne,nf,d⟩
   intro q
   rw[q,hoc] at e
   have q':oc=p.2:=Option.some.inj e
   exact d w' (by rw[<- q']; exact hocd)
theorem store_ok {M:Model} {A:Around} {E:Value->Shared->Prop} {i:Nat} {x:Str} {v:V} {u:Value} {Q:Unit->Shared->Prop} (I:Inv X pins σ H s) (hN:X.N.Nodup) (hi:X.N[i]?=some x) (hx:Loc X.env.scope x) (r:RelV v u)
  (h:∀ s',Inv X pins (σ.set i (some v)) H s'->Q () s') (hf:X.fn x=true\/X.env.scope.names.lookup x=some .local:=by first | exact .inl rfl | exact .inr rfl | assumption):wpAny M A (storeName X.env x u) Q E s:=
 store_ok2 I hN hi hx r (λs' I' _=>h s' I') hf
theorem Inv.call' {s':Shared} {ch:List Addr} (I:Inv X pins σ H s) (ho:s'.os=s.os) (u:Un (frs X.stack) ch H H' s.heap s'.heap) (hok:HOk X.prog X.w H' s'.heap) (hg:AllBare s'.gens)
  (hch:∀ b ∈ ch,(b ∈ X.ex\/X.s₀.heap.objs.size<=b)/\b ≠ X.env.locals/\(∀ x c,X.env.cells.lookup x=some c->c ≠ b)/\∀ p ∈ X.pn++pins,p.1 ≠ b):Inv X pins σ H' s':=by
 obtain⟨h',g',d',t',o'⟩:=s'
 have e:o'=s.os:=ho
 subst e
 exact I.call (g':=g') (t':=t') (d':=d') u hok hg hch
end
abbrev XK:=Value->Option Addr->Hp->Prop
abbrev St:=List (Option V)
abbrev VK:=V->Hp->Prop
abbrev TE:=St->Hp->VK->Prop
abbrev TT:=St->Hp->(Bool->Hp->Prop)->Prop
abbrev TA:=St->Hp->(List V->Hp->Prop)->Prop
structure Ends where
 nx:St->Hp->Prop
 rt:VK
 bk:St->Hp->Prop:=λ_ _=>False
 ct:St->Hp->Prop:=λ_ _=>False
abbrev TS:=Ends->St->Hp->Prop
def EP (X:Cx) (pins:List (Addr × Obj)) (σ:St) (Q:VK) (u:Value) (s':Shared):Prop:=∃ v H',Inv X pins σ H' s'/\RelV v u/\Q v H'
def TP (X:Cx) (pins:List (Addr × Obj)) (σ:St) (Q:Bool->Hp->Prop) (b:Bool) (s':Shared):Prop:=∃ H',Inv X pins σ H' s'/\Q b H'
def AP (X:Cx) (pins:List (Addr × Obj)) (σ:St) (Q:List V->Hp->Prop) (us:List Value) (s':Shared):Prop:=∃ vs H',Inv X pins σ H' s'/\Vals vs us/\Q vs H'
def SP (X:Cx) (pins:List (Addr × Obj)) (D:Ends) (f:Flow) (s':Shared):Prop:=
 match f with
 | .next=>∃ σ' H',Inv X pins σ' H' s'/\D.nx σ' H'
 | .brk=>∃ σ' H',Inv X pins σ' H' s'/\D.bk σ' H'
 | .cont=>∃ σ' H',Inv X pins σ' H' s'/\D.ct σ' H'
 | .ret u=>∃ v σ' H',Inv X pins σ' H' s'/\RelV v u/\D.rt v H'
def PE (X:Cx) (e:Expr) (t:TE):Prop:=
 ∀ (pins:List (Addr × Obj)) (s:Shared) (σ:St) (H:Hp) (Q:VK),Inv X pins σ H s->t σ H Q->wpAny (model X.prog X.w) X.A (eval e X.env) (EP X pins σ Q) X.xe s
def PT (X:Cx) (e:Expr) (t:TT):Prop:=
 ∀ (pins:List (Addr × Obj)) (s:Shared) (σ:St) (H:Hp) (Q:Bool->Hp->Prop),Inv X pins σ H s->t σ H Q->wpAny (model X.prog X.w) X.A (isTrue e X.env (eval e X.env)) (TP X pins σ Q) X.xe s
def PW (X:Cx) (e:Expr) (t:TT):Prop:=
 ∀ (whole:Sem Value) (pins:List (Addr × Obj)) (s:Shared) (σ:St) (H:Hp) (Q:Bool->Hp->Prop),Inv X pins σ H s->t σ H Q->wpAny (model X.prog X.w) X.A (isTrue e X.env whole) (TP X pins σ Q) X.xe s
theorem PW.pt {X:Cx} {e:Expr} {t:TT} (h:PW X e t):PT X e t:=h _
def PA (X:Cx) (es:List Expr) (t:TA):Prop:=
 ∀ (pos:Pos) (pins:List (Addr × Obj)) (s:Shared) (σ:St) (H:Hp) (Q:List V->Hp->Prop),Inv X pins σ H s->t σ H Q->wpAny (model X.prog X.w) X.A (spliced (backTo pos (starEach es X.env))) (AP X pins σ Q) X.xe s
def PS (X:Cx) (st:Stmt) (t:TS):Prop:=
 ∀ (pins:List (Addr × Obj)) (s:Shared) (σ:St) (H:Hp) (D:Ends),Inv X pins σ H s->t D σ H->wpAny (model X.prog X.w) X.A (exec st X.env) (SP X pins D) X.xe s
def PSs (X:Cx) (st:List Stmt) (t:TS):Prop:=
 ∀ (pins:List (Addr × Obj)) (s:Shared) (σ:St) (H:Hp) (D:Ends),Inv X pins σ H s->t D σ H->wpAny (model X.prog X.w) X.A (execs st X.env) (SP X pins D) X.xe s
theorem thn {α:Type} {t:Sem α} {Q Q':α->Shared->Prop} {M:Model} {A:Around} {E:Value->Shared->Prop} {s:Shared} (h:wpAny M A t Q E s) (hQ:∀ a s,Q a s->Q' a s):wpAny M A t Q' E s:=wpAny_mono h hQ λ_ _ x=>x
section
variable {X:Cx}
def tVar (i:Nat):TE:=λσ H Q=>∃ v,σ[i]?=some (some v)/\Q v H
def tC (v:V):TE:=λ_ H Q=>Q v H
theorem pe_var {i:Nat} {x:Str} {pos:Pos} (hN:X.N[i]?=some x) (hv:Vis X.env.scope x) (hd:(x==("__debug__" : Str))=false:=by decide) (hcd:(x==("__classdict__" : Str))=false:=by decide):PE X (.Name x pos) (tVar i):=by
 intro pins s σ H Q I h
 obtain⟨v,e,h⟩:=h
 obtain⟨m,hn,hl⟩:=I.loc
 obtain⟨u,r,l⟩:=hl i x v hN e hv
 have fin:EP X pins σ Q u s:=⟨v,H,I,r,h⟩
 rcases l with⟨hk,hm⟩ | ⟨hk,c,hc,hcell⟩
 ·exact wpAny_Name (wpAny_loadName_local I.ok.kind hk hn hm fin) hd
 ·rcases hk with hk | hk
  ·exact wpAny_Name (wpAny_loadName_cell I.ok.kind hk hc hcell fin) hd
  ·exact wpAny_Name (wpAny_loadName_free I.ok.kind hk hc hcell fin hcd) hd
theorem pe_int {i j pos}:PE X (.Constant (.int i) j pos) (tC (.int i)):=λ_ _ _ H _ I h=>wpAny_Constant_int ⟨.int i,H,I.tok _,⟨_,rfl⟩,h⟩
theorem pe_bl {b j pos}:PE X (.Constant (.bool b) j pos) (tC (.bl b)):=λ_ _ _ H _ I h=>Constant_bool ⟨.bl b,H,I,rfl,h⟩
theorem pe_non {j pos}:PE X (.Constant .none j pos) (tC .non):=λ_ _ _ H _ I h=>Constant_none ⟨.non,H,I,rfl,h⟩
theorem pe_str {x j pos}:PE X (.Constant (.str x) j pos) (tC (.str x)):=λ_ _ _ H _ I h=>Calls.Constant_str ⟨.str x,H,I.tok _,⟨_,rfl⟩,h⟩
def Gl (X:Cx) (x:Str):Prop:=X.env.kindOf x=some .globalImplicit
theorem ld_glob {E:Value->Shared->Prop} {pins:List (Addr × Obj)} {s:Shared} {σ:St} {H:Hp} {x:Str} {u:Value} {pos:Pos} {Q:Value->Shared->Prop} (I:Inv X pins σ H s) (hg:Gl X x) (hm:X.mg x=some u) (h:Q u s)
  (hd:(x==("__debug__" : Str))=false:=by decide):wpAny (model X.prog X.w) X.A (eval (.Name x pos) X.env) Q E s:=
 Calls.Name_function_global I.ok.kind hg (Calls.loadGlobal_global (by rw[I.ok.glob]; exact I.mod.glob.keeps I.bk) hm h) hd
theorem ld_blt {E:Value->Shared->Prop} {pins:List (Addr × Obj)} {s:Shared} {σ:St} {H:Hp} {x:Str} {u:Value} {pos:Pos} {Q:Value->Shared->Prop} (I:Inv X pins σ H s) (hg:Gl X x) (hm:X.mg x=none) (hv:bootBuiltins x=some u) (h:Q u s)
  (hn:x ≠ "__name__":=by decide) (hd:(x==("__debug__" : Str))=false:=by decide):wpAny (model X.prog X.w) X.A (eval (.Name x pos) X.env) Q E s:=by
 obtain⟨mb,h1,h2⟩:=I.mod.blt
 exact Calls.Name_function_global I.ok.kind hg (Calls.loadGlobal_builtin (by rw[I.ok.glob]; exact I.mod.glob.keeps I.bk) hm (by rw[I.ok.blt]; exact h1.keeps I.bk) ((h2 x hn).trans hv) h) hd
theorem pe_glob {x:Str} {v:V} {u:Value} {pos:Pos} (hg:Gl X x) (hm:X.mg x=some u) (r:RelV v u) (hd:(x==("__debug__" : Str))=false:=by decide):PE X (.Name x pos) (tC v):=
 λ_ _ _ H _ I h=>ld_glob I hg hm ⟨v,H,I,r,h⟩ hd
theorem pe_bltn {x:Str} {v:V} {u:Value} {pos:Pos} (hg:Gl X x) (hm:X.mg x=none) (hv:bootBuiltins x=some u) (r:RelV v u) (hn:x ≠ "__name__":=by decide) (hd:(x==("__debug__" : Str))=false:=by decide):PE X (.Name x pos) (tC v):=
 λ_ _ _ H _ I h=>ld_blt I hg hm hv ⟨v,H,I,r,h⟩ hn hd
variable {a b:Expr} {ta tb:TE} {pos:Pos}
def PC (X:Cx) (op:CmpOp) (a b:Expr) (t:TE):Prop:=
 ∀ (pins:List (Addr × Obj)) (s:Shared) (σ:St) (H:Hp) (Q:VK),Inv X pins σ H s->t σ H Q ->
  wpAny (model X.prog X.w) X.A (eval a X.env) (λv s₁=>wpAny (model X.prog X.w) X.A (eval b X.env) (λu s₂=>wpAny (model X.prog X.w) X.A (compareOp op v u) (EP X pins σ Q) X.xe s₂) X.xe s₁) X.xe s
theorem nobehind (b:Expr) {op:CmpOp} (h:op ≠ .In) (h2:op ≠ .NotIn):behindInMarks op b=false:=by
 have e1:(op==CmpOp.In)=false:=by cases op <;> first | rfl | exact absurd rfl h
 have e2:(op==CmpOp.NotIn)=false:=by cases op <;> first | rfl | exact absurd rfl h2
 cases b <;> simp[behindInMarks,e1,e2]
def tIsN (ta:TE):TE:=λσ H Q=>ta σ H λx H1=>Q (.bl (decide (x=.non))) H1
def tNotN (ta:TE):TE:=λσ H Q=>ta σ H λx H1=>Q (.bl (!decide (x=.non))) H1
theorem RelV.none_iff {x:V} {v:Value} (r:RelV x v):(v==Value.none)=decide (x=.non):=by
 cases x with
 | non=>cases r; rfl
 | bl _=>cases r; rfl
 | int _=>obtain⟨t,rfl⟩:=r; rfl
 | str _=>obtain⟨t,rfl⟩:=r; rfl
 | byt _=>obtain⟨t,rfl⟩:=r; rfl
 | flt _=>obtain⟨t,rfl⟩:=r; rfl
 | ref _=>cases r; rfl
 | ty _=>cases r; rfl
theorem pc_isN {j pos'} (ha:PE X a ta):PC X .Is a (.Constant .none j pos') (tIsN ta):=by
 intro pins s σ H Q I h
 refine thn (ha pins s σ H _ I h) λv s1 ⟨x,H1,I1,r1,q1⟩=>?_
 exact Constant_none (is_none_gen ⟨.bl _,H1,I1,by rw[r1.none_iff]; rfl,q1⟩)
theorem pc_notN {j pos'} (ha:PE X a ta):PC X .IsNot a (.Constant .none j pos') (tNotN ta):=by
 intro pins s σ H Q I h
 refine thn (ha pins s σ H _ I h) λv s1 ⟨x,H1,I1,r1,q1⟩=>?_
 exact Constant_none (isnot_none_gen ⟨.bl _,H1,I1,by rw[r1.none_iff]; rfl,q1⟩)
def tB (t:TE):TT:=λσ H Q=>t σ H λx H1=>∃ c,x=.bl c/\Q c H1
theorem pe_cmp {op:CmpOp} {t:TE} (h:PC X op a b t) (h1:behindInMarks op b=false:=by first | exact nobehind _ (by decide) (by decide) | rfl):PE X (.Compare a [op] [b] pos) t:=λpins s σ H Q I hw=>wpAny_Compare1 (h pins s σ H Q I hw) h1
theorem pt_cmp {op:CmpOp} {t:TE} (h:PC X op a b t) (h1:behindInMarks op b=false:=by first | exact nobehind _ (by decide) (by decide) | rfl):PT X (.Compare a [op] [b] pos) (tB t):=by
 intro pins s σ H Q I hw
 refine wpAny_isTrue_Compare1 (thn (h pins s σ H _ I hw) λv s1 h1=>thn h1 λu s2 h2=>thn h2 λc s3 ⟨x,H1,I1,r1,q1⟩=>?_) h1
 obtain⟨d,rfl,q⟩:=q1
 cases r1
 exact wpAny_truthy_bool ⟨H1,I1,q⟩
variable {tA tB':TT} {rest:List Expr}
def tAnd (t u:TT):TT:=λσ H Q=>t σ H λc H1=>if c=true then u σ H1 Q else Q false H1
def tOr (t u:TT):TT:=λσ H Q=>t σ H λc H1=>if c=true then Q true H1 else u σ H1 Q
def tNot (t:TT):TT:=λσ H Q=>t σ H λc H1=>Q (!c) H1
theorem pw_and1 (ha:PT X a tA):PW X (.BoolOp .And [a] pos) tA:=by
 intro wh pins s σ H Q I h
 refine isTrue_and (thn (ha pins s σ H Q I h) λc s1 e=>?_)
 cases c with
 | true=>exact isTrue_and_nil e
 | false=>exact e
theorem pw_or1 (ha:PT X a tA):PW X (.BoolOp .Or [a] pos) tA:=by
 intro wh pins s σ H Q I h
 refine isTrue_or (thn (ha pins s σ H Q I h) λc s1 e=>?_)
 cases c with
 | false=>exact isTrue_or_nil e
 | true=>exact e
theorem pw_and (ha:PT X a tA) (hb:PW X (.BoolOp .And (b::rest) pos) tB'):PW X (.BoolOp .And (a::b::rest) pos) (tAnd tA tB'):=by
 intro wh pins s σ H Q I h
 refine isTrue_and (thn (ha pins s σ H _ I h) λc s1 ⟨H1,I1,q1⟩=>?_)
 cases c with
 | true=>exact hb wh pins s1 σ H1 Q I1 q1
 | false=>exact⟨H1,I1,q1⟩
theorem pw_or (ha:PT X a tA) (hb:PW X (.BoolOp .Or (b::rest) pos) tB'):PW X (.BoolOp .Or (a::b::rest) pos) (tOr tA tB'):=by
 intro wh pins s σ H Q I h
 refine isTrue_or (thn (ha pins s σ H _ I h) λc s1 ⟨H1,I1,q1⟩=>?_)
 cases c with
 | true=>exact⟨H1,I1,q1⟩
 | false=>exact hb wh pins s1 σ H1 Q I1 q1
theorem pt_not (ha:PT X a tA):PT X (.UnaryOp .Not a pos) (tNot tA):=by
 intro pins s σ H Q I h
 exact isTrue_not (ha pins s σ H (λc H1=>Q (!c) H1) I h)
def tAndV (ta tb:TE):TE:=λσ H Q=>ta σ H λx H1=>∃ c,x=.bl c/\if c=true then tb σ H1 Q else Q (.bl false) H1
def tOrV (ta tb:TE):TE:=λσ H Q=>ta σ H λx H1=>∃ c,x=.bl c/\if c=true then Q (.bl true) H1 else tb σ H1 Q
def tNotV (ta:TE):TE:=λσ H Q=>ta σ H λx H1=>∃ c,x=.bl c/\Q (.bl (!c)) H1
theorem pe_one {op} {t:TE} (h:PE X a t):PE X (.BoolOp op [a] pos) t:=λpins s σ H Q I hw=>BoolOp_one (h pins s σ H Q I hw)
theorem pe_and (ha:PE X a ta) (hb:PE X (.BoolOp .And (b::rest) pos) tb):PE X (.BoolOp .And (a::b::rest) pos) (tAndV ta tb):=by
 intro pins s σ H Q I h
 refine BoolOp_and (thn (ha pins s σ H _ I h) λv s1 ⟨x,H1,I1,r1,q1⟩=>?_)
 obtain⟨c,rfl,q1⟩:=q1
 cases r1
 refine wpAny_truthy_bool ?_
 cases c with
 | true=>exact hb pins s1 σ H1 Q I1 q1
 | false=>exact⟨.bl false,H1,I1,rfl,q1⟩
theorem pe_or (ha:PE X a ta) (hb:PE X (.BoolOp .Or (b::rest) pos) tb):PE X (.BoolOp .Or (a::b::rest) pos) (tOrV ta tb):=by
 intro pins s σ H Q I h
 refine BoolOp_or (thn (ha pins s σ H _ I h) λv s1 ⟨x,H1,I1,r1,q1⟩=>?_)
 obtain⟨c,rfl,q1⟩:=q1
 cases r1
 refine wpAny_truthy_bool ?_
 cases c with
 | false=>exact hb pins s1 σ H1 Q I1 q1
 | true=>exact⟨.bl true,H1,I1,rfl,q1⟩
theorem pe_not (ha:PE X a ta):PE X (.UnaryOp .Not a pos) (tNotV ta):=by
 intro pins s σ H Q I h
 refine UnaryOp_ (thn (ha pins s σ H _ I h) λv s1 ⟨x,H1,I1,r1,q1⟩=>?_)
 obtain⟨c,rfl,q1⟩:=q1
 cases r1
 exact not_of (wpAny_truthy_bool ⟨.bl (!c),H1,I1,rfl,q1⟩)
def tIf (t:TT) (ta tb:TE):TE:=λσ H Q=>t σ H λc H1=>if c=true then ta σ H1 Q else tb σ H1 Q
theorem pe_ifExp {c:Expr} (hc:PT X c tA) (ha:PE X a ta) (hb:PE X b tb):PE X (.IfExp c a b pos) (tIf tA ta tb):=by
 intro pins s σ H Q I h
 refine wpAny_IfExp (thn (hc pins s σ H _ I h) λd s1 ⟨H1,I1,q1⟩=>?_)
 cases d with
 | true=>exact ha pins s1 σ H1 Q I1 q1
 | false=>exact hb pins s1 σ H1 Q I1 q1
end
def SqL (K:PySem.W.Frag) (H:Hp) (a:Addr) (xs:List V):Prop:=
 Rd H a (.lst xs) \/
  ∃ (o:Obj) (its:Array Value) (n:Nat),K.lookup a=some o/\o.cls=.type "list" /\ o.dict=none/\o.data=.seq its n/\its.size<=sizeLine/\Vals xs its.toList
def SqT (K:PySem.W.Frag) (H:Hp) (a:Addr) (xs:List V):Prop:=
 Rd H a (.tup xs) \/
  ∃ (o:Obj) (its:Array Value) (n:Nat),K.lookup a=some o/\o.cls=.type "tuple" /\ o.data=.seq its n/\its.size<=sizeLine/\Vals xs its.toList/\o.dict=none
def absV:Value->Option V
 | .none=>some .non
 | .bool b=>some (.bl b)
 | .int i _=>some (.int i)
 | .str x _=>some (.str x)
 | .bytes b _=>some (.byt b)
 | .float b _=>some (.flt b)
 | .ref a=>some (.ref a)
 | .type n=>some (.ty n)
 | _=>none
theorem RelV.abs {x:V} {u:Value} (r:RelV x u):absV u=some x:=by
 cases x with
 | non=>cases r; rfl
 | bl _=>cases r; rfl
 | int _=>obtain⟨t,rfl⟩:=r; rfl
 | str _=>obtain⟨t,rfl⟩:=r; rfl
 | byt _=>obtain⟨t,rfl⟩:=r; rfl
 | flt _=>obtain⟨t,rfl⟩:=r; rfl
 | ref _=>cases r; rfl
 | ty _=>cases r; rfl
theorem RelV.inj {x y:V} {u:Value} (r:RelV x u) (q:RelV y u):x=y:=Option.some.inj (r.abs.symm.trans q.abs)
theorem Vals.inj:∀ {xs ys:List V} {us:List Value},Vals xs us->Vals ys us->xs=ys
 | _,_,_,.nil,.nil=>rfl
 | _,_,_,.cons r t,.cons r' t'=>by rw[r.inj r',Vals.inj t t']
section
variable {X:Cx} {pins:List (Addr × Obj)} {σ:St} {H:Hp} {s:Shared} {a:Addr} {xs ys:List V}
theorem SqL.of {K:PySem.W.Frag} (h:H a=some (.lst xs)):SqL K H a xs:=.inl (.inl h)
theorem SqT.of {K:PySem.W.Frag} (h:H a=some (.tup xs)):SqT K H a xs:=.inl (.inl h)
theorem Inv.list (I:Inv X pins σ H s) (h:SqL X.K H a xs):∃ its:List Value,Vals xs its/\PlainL s.heap a its.toArray/\xs.length<=sizeLine:=by
 rcases h with h | ⟨o,its,n,hk,hc,hd,hs,hz,r⟩
 ·obtain⟨z,its,n,r,e⟩:=h.ok I.hok
  exact⟨its,r,⟨_,n,e,rfl,rfl,rfl⟩,z⟩
 ·refine⟨its.toList,r,⟨o,n,I.kIn a o hk,hc,hd,by simpa using hs⟩,?_⟩
  have e:=r.length
  simp only[Array.length_toList] at e
  omega
theorem Inv.tuple (I:Inv X pins σ H s) (h:SqT X.K H a xs):∃ its:List Value,Vals xs its/\IsTup s.heap a its.toArray/\xs.length<=sizeLine:=by
 rcases h with h | ⟨o,its,n,hk,hc,hs,hz,r,_⟩
 ·obtain⟨z,⟨its,r,p⟩,_⟩:=h.ok I.hok
  exact⟨its,r,p,z⟩
 ·refine⟨its.toList,r,⟨o,I.kIn a o hk,hc,n,by simpa using hs⟩,?_⟩
  have e:=r.length
  simp only[Array.length_toList] at e
  omega
theorem Inv.tupObj (I:Inv X pins σ H s) (h:SqT X.K H a xs):∃ o,s.heap.get? a=some o/\o.cls=.type "tuple" /\ o.dict=none:=by
 rcases h with h | ⟨o,its,n,hk,hc,hs,hz,r,hd⟩
 ·obtain⟨z,⟨its,r,o,e,c,_⟩,dd⟩:=h.ok I.hok
  exact⟨o,e,c,dd o e⟩
 ·exact⟨o,I.kIn a o hk,hc,hd⟩
theorem Inv.list_inj (I:Inv X pins σ H s) (h:SqL X.K H a xs) (h':SqL X.K H a ys):xs=ys:=by
 obtain⟨its,r,⟨o,n,e,_,_,d⟩,_⟩:=I.list h
 obtain⟨its',r',⟨o',n',e',_,_,d'⟩,_⟩:=I.list h'
 rw[e] at e'; cases e'
 rw[d] at d'
 injection d' with d1 _
 have:its=its':=by simpa using congrArg Array.toList d1
 subst this
 exact r.inj r'
theorem Inv.tuple_inj (I:Inv X pins σ H s) (h:SqT X.K H a xs) (h':SqT X.K H a ys):xs=ys:=by
 obtain⟨its,r,⟨o,e,_,n,d⟩,_⟩:=I.tuple h
 obtain⟨its',r',⟨o',e',_,n',d'⟩,_⟩:=I.tuple h'
 rw[e] at e'; cases e'
 rw[d] at d'
 injection d' with d1 _
 have:its=its':=by simpa using congrArg Array.toList d1
 subst this
 exact r.inj r'
end
abbrev Cx.wish (X:Cx) (E:Value->Shared->Prop):Cx:={ X with xe:=E }
abbrev Cx.nox (X:Cx):Cx:=X.wish λ_ _=>False
theorem Cx.Ok.wish {X:Cx} (ok:X.Ok) (E:Value->Shared->Prop):(X.wish E).Ok:=
 ⟨ok.mod,ok.kind,ok.glob,ok.blt,ok.above,ok.inj,ok.has,ok.cab,ok.hd,ok.frames,ok.stk,ok.exf,ok.bs,ok.bsz,ok.noex,ok.exfs,ok.funs,ok.frf⟩
theorem Cx.Ok.unwish {X:Cx} {E:Value->Shared->Prop} (ok:(X.wish E).Ok):X.Ok:=
 ⟨ok.mod,ok.kind,ok.glob,ok.blt,ok.above,ok.inj,ok.has,ok.cab,ok.hd,ok.frames,ok.stk,ok.exf,ok.bs,ok.bsz,ok.noex,ok.exfs,ok.funs,ok.frf⟩
section
variable {X:Cx} {pins:List (Addr × Obj)} {σ:St} {H:Hp} {s:Shared} {E:Value->Shared->Prop}
theorem Inv.wish (I:Inv X pins σ H s) (E:Value->Shared->Prop):Inv (X.wish E) pins σ H s:=⟨I.ok.wish E,I.os,I.bare,I.base,I.loc,I.cell,I.free,I.freeC,I.pin,I.hok,I.len⟩
theorem Inv.unwish (I:Inv (X.wish E) pins σ H s):Inv X pins σ H s:=⟨I.ok.unwish,I.os,I.bare,I.base,I.loc,I.cell,I.free,I.freeC,I.pin,I.hok,I.len⟩
theorem SP.unwish {D:Ends} {f:Flow} {s':Shared} (h:SP (X.wish E) pins D f s'):SP X pins D f s':=by
 cases f with
 | next=>obtain⟨σ',H',I,q⟩:=h; exact⟨σ',H',I.unwish,q⟩
 | brk=>obtain⟨σ',H',I,q⟩:=h; exact⟨σ',H',I.unwish,q⟩
 | cont=>obtain⟨σ',H',I,q⟩:=h; exact⟨σ',H',I.unwish,q⟩
 | ret u=>obtain⟨v,σ',H',I,r,q⟩:=h; exact⟨v,σ',H',I.unwish,r,q⟩
theorem PSs.nox {st:List Stmt} {t:TS} (h:PSs X.nox st t):PSs X st t:=λpins s σ H D I hw=>
 wpAny_mono (h pins s σ H D (I.wish _) hw) (λ_ _ q=>q.unwish) λ_ _ z=>False.elim z
end
section
variable {X:Cx} {st:Stmt} {rest:List Stmt} {t u:TS} {e:Expr} {te:TE} {pos:Pos}
def tNext:TS:=λD σ H=>D.nx σ H
def tSeq (t u:TS):TS:=λD σ H=>t { D with nx:=u D } σ H
theorem pss_nil:PSs X [] tNext:=λ_ _ σ H _ I h=>wpAny_execs_nil ⟨σ,H,I,h⟩
theorem pss_cons (h1:PS X st t) (h2:PSs X rest u):PSs X (st::rest) (tSeq t u):=by
 intro pins s σ H D I h
 refine wpAny_execs_cons (thn (h1 pins s σ H { D with nx:=u D } I h) λf s1 q=>?_)
 cases f with
 | next=>
  obtain⟨σ',H',I',q⟩:=q
  exact h2 pins s1 σ' H' D I' q
 | ret v=>exact q
 | brk=>exact q
 | cont=>exact q
theorem pss_one (h1:PS X st t):PSs X [st] t:=by
 intro pins s σ H D I h
 refine wpAny_execs_cons (thn (h1 pins s σ H D I h) λf s1 q=>?_)
 cases f with
 | next=>exact wpAny_execs_nil q
 | ret v=>exact q
 | brk=>exact q
 | cont=>exact q
theorem Inv.quiet {pins:List (Addr × Obj)} {σ:St} {H:Hp} {s:Shared} (I:Inv X pins σ H s):interactive X.env=false:=by simp[interactive,I.ok.kind]
def tDrop (te:TE):TS:=λD σ H=>te σ H λ_ H1=>D.nx σ H1
theorem ps_expr (he:PE X e te) (hs:swapsWith e none pos.line X.env=pure false:=by rfl):PS X (.Expr e pos) (tDrop te):=by
 intro pins s σ H D I h
 exact wpAny_Expr_any (thn (he pins s σ H _ I h) λv s1 ⟨x,H1,I1,r1,q1⟩=>⟨σ,H1,I1,q1⟩) I.quiet hs
def tRet (te:TE):TS:=λD σ H=>te σ H D.rt
theorem ps_ret (he:PE X e te):PS X (.Return (some e) pos) (tRet te):=by
 intro pins s σ H D I h
 exact wpAny_Return_some (thn (he pins s σ H _ I h) λv s1 ⟨x,H1,I1,r1,q1⟩=>⟨x,σ,H1,I1,r1,q1⟩)
def tIfS (c:TT) (t u:TS):TS:=λD σ H=>c σ H λb H1=>if b=true then t D σ H1 else u D σ H1
theorem ps_if {c:Expr} {a b:List Stmt} {tc:TT} (hc:PT X c tc) (ha:PSs X a t) (hb:PSs X b u):PS X (.If c a b pos) (tIfS tc t u):=by
 intro pins s σ H D I h
 refine wpAny_If (thn (hc pins s σ H _ I h) λd s1 ⟨H1,I1,q1⟩=>?_)
 cases d with
 | true=>exact ha pins s1 σ H1 D I1 q1
 | false=>exact hb pins s1 σ H1 D I1 q1
def tNever:TS:=λ_ _ _=>False
theorem pss_never {sts:List Stmt}:PSs X sts tNever:=λ_ _ _ _ _ _ h=>h.elim
end
abbrev TG:=V->St->Hp->(St->Hp->Prop)->Prop
abbrev TGs:=List V->St->Hp->(St->Hp->Prop)->Prop
def PG (X:Cx) (target:Expr) (t:TG):Prop:=
 ∀ (pins:List (Addr × Obj)) (s:Shared) (σ:St) (H:Hp) (v:V) (u:Value) (Q:St->Hp->Prop),Inv X pins σ H s->RelV v u->t v σ H Q ->
  wpAny (model X.prog X.w) X.A (assign target X.env u) (λ_ s'=>∃ σ' H',Inv X pins σ' H' s'/\Q σ' H') X.xe s
def PGs (X:Cx) (ts:List Expr) (t:TGs):Prop:=
 ∀ (pins:List (Addr × Obj)) (s:Shared) (σ:St) (H:Hp) (vs:List V) (us:List Value) (Q:St->Hp->Prop),Inv X pins σ H s->Vals vs us->t vs σ H Q ->
  wpAny (model X.prog X.w) X.A (assignInOrder ((assignEach ts X.env).map (·.2)) us) (λ_ s'=>∃ σ' H',Inv X pins σ' H' s'/\Q σ' H') X.xe s
abbrev TSet:=V->V->V->Hp->(Hp->Prop)->Prop
def PSet (X:Cx) (t:TSet):Prop:=
 ∀ (pins:List (Addr × Obj)) (s:Shared) (σ:St) (H:Hp) (o i v:V) (ov iv u:Value) (Q:Hp->Prop),Inv X pins σ H s->RelV o ov->RelV i iv->RelV v u->t o i v H Q ->
  wpAny (model X.prog X.w) X.A (setItem ov iv u) (λ_ s'=>∃ H',Inv X pins σ H' s'/\Q H') X.xe s
section
variable {X:Cx} {pos:Pos}
def gName (i:Nat):TG:=λv σ H Q=>Q (σ.set i (some v)) H
theorem pg_name {i:Nat} {x:Str} (hN:X.N.Nodup) (hi:X.N[i]?=some x) (hx:Loc X.env.scope x) (hf:X.fn x=true\/X.env.scope.names.lookup x=some .local:=by first | exact .inl rfl | exact .inr rfl | assumption):PG X (.Name x pos) (gName i):=by
 intro pins s σ H v u Q I r h
 exact wpAny_assign_Name (store_ok I hN hi hx r (λs' I'=>⟨_,H,I',h⟩) hf)
def gNil:TGs:=λvs σ H Q=>vs=[]/\Q σ H
def gCons (t:TG) (u:TGs):TGs:=λvs σ H Q=>∃ v r,vs=v::r/\t v σ H λσ' H'=>u r σ' H' Q
theorem pgs_nil:PGs X [] gNil:=by
 intro pins s σ H vs us Q I r h
 obtain⟨e,h⟩:=h
 subst e
 cases r
 exact assignInOrder_nil ⟨σ,H,I,h⟩
theorem pgs_cons {e:Expr} {es:List Expr} {t:TG} {u:TGs} (h1:PG X e t) (h2:PGs X es u)
  (hs:(assignEach (e::es) X.env).map (·.2)=assign e X.env::(assignEach es X.env).map (·.2):=by rfl):PGs X (e::es) (gCons t u):=by
 intro pins s σ H vs us Q I r h
 obtain⟨v,vr,e1,h⟩:=h
 subst e1
 cases r with
 | cons r rr=>
  rw[hs]
  refine assignInOrder_cons (thn (h1 pins s σ H _ _ _ I r h) λ_ s1 ⟨σ1,H1,I1,q1⟩=>?_)
  exact h2 pins s1 σ1 H1 _ _ Q I1 rr q1
def gTup (K:PySem.W.Frag) (n:Nat) (t:TGs):TG:=λv σ H Q=>∃ a xs,v=.ref a/\SqT K H a xs/\xs.length=n/\t xs σ H Q
theorem pg_tup {es:List Expr} {k:Nat} {t:TGs} {n:Nat} (hc:X.calm=true) (h:PGs X es t)
  (hn:(assignEach es X.env).length=n:=by rfl) (hst:(assignEach es X.env).findIdx? (·.1)=none:=by rfl):PG X (.Tuple es k pos) (gTup X.K n t):=by
 intro pins s σ H v u Q I r hw
 obtain⟨a,xs,e1,hq,hl,hw⟩:=hw
 subst e1
 cases r
 obtain⟨its,rv,ht,hz⟩:=I.tuple hq
 refine assign_Tuple_tuple (I.ok.hd hc) ht (by simp[hn,<- hl,rv.length]) hst λh' hx=>?_
 have I1:Inv X pins σ H { s with heap:=h' }:=I.kept (t':=s.toks) λb o e=>hx b o (Nat.ne_of_lt (Heap.lt_size e)) e
 exact h pins _ σ H xs _ Q I1 (by simpa using rv) hw
def gSub (to ti:TE) (t:TSet):TG:=λv σ H Q=>to σ H λo H1=>ti σ H1 λi H2=>t o i v H2 λH3=>Q σ H3
theorem pg_sub {o i:Expr} {to ti:TE} {t:TSet} (ho:PE X o to) (hi:PE X i ti) (hs:PSet X t)
  (ha:∀ v,assign (.Subscript o i pos) X.env v=(do
   let ov <- holding [v] (eval o X.env)
   let iv <- holding [v,ov] (eval i X.env)
   standAt pos
   holding [v,ov,iv] (setItem ov iv v)
   release [v,ov,iv] []):=by intro _; rfl):PG X (.Subscript o i pos) (gSub to ti t):=by
 intro pins s σ H v u Q I r h
 rw[ha]
 refine wpAny_bind (wpAny_holding (thn (ho pins s σ H _ I h) λov s1 ⟨x,H1,I1,r1,q1⟩=>?_))
 refine wpAny_bind (wpAny_holding (thn (hi pins s1 σ H1 _ I1 q1) λiv s2 ⟨y,H2,I2,r2,q2⟩=>?_))
 refine wpAny_bind (wpAny_standAt (wpAny_bind (wpAny_holding (thn (hs pins s2 σ H2 x y v ov iv u _ I2 r1 r2 r q2) λ_ s3 ⟨H3,I3,q3⟩=>?_))))
 exact wpAny_release ⟨σ,H3,I3,q3⟩
def tAsg (te:TE) (g:TG):TS:=λD σ H=>te σ H λx H1=>g x σ H1 D.nx
theorem ps_asg {tg e:Expr} {te:TE} {g:TG} (he:PE X e te) (hg:PG X tg g) (hs:swapsWithSole [tg] e pos.line X.env=pure false:=by rfl) (hw:swappedStores [tg] e X.env=pure none:=by rfl)
  (h1:(assignEach [tg] X.env).map (·.2)=[assign tg X.env]:=by rfl):PS X (.Assign [tg] e pos) (tAsg te g):=by
 intro pins s σ H D I h
 refine wpAny_Assign_stores (thn (he pins s σ H _ I h) λv s1 ⟨x,H1,I1,r1,q1⟩=>?_) hs hw
 rw[h1]
 exact thn (hg pins s1 σ H1 x v _ I1 r1 q1) λ_ s2 q=>q
theorem ps_set {i:Nat} {x:Str} {e:Expr} {te:TE} {pos':Pos} (hN:X.N.Nodup) (hi:X.N[i]?=some x) (hx:Loc X.env.scope x) (he:PE X e te) (hs:swapsWith e (some (.Name x pos')) pos.line X.env=pure false:=by rfl) (hf:X.fn x=true\/X.env.scope.names.lookup x=some .local:=by first | exact .inl rfl | exact .inr rfl | assumption) :
  PS X (.Assign [.Name x pos'] e pos) (tAsg te (gName i)):=by
 intro pins s σ H D I h
 refine wpAny_Assign_Name (thn (he pins s σ H _ I h) λv s1 ⟨y,H1,I1,r1,q1⟩=>?_) hs
 exact store_ok I1 hN hi hx r1 (λs2 I2=>⟨_,H1,I2,q1⟩) hf
end
section
variable {X:Cx} {pos:Pos}
def tWhile (c:TT) (tb:TS):TS:=λD σ H=>∃ W:Nat->St->Hp->Prop,(∃ m,W m σ H)/\∀ m σ H,W m σ H ->
 c σ H λb H1=>if b=true then ∃ N:St->Hp->Prop,(∀ σ' H',N σ' H'->∃ m',m'<m/\W m' σ' H')/\tb { D with nx:=N,ct:=N,bk:=D.nx } σ H1 else D.nx σ H1
theorem ps_while {c:Expr} {body:List Stmt} {tc:TT} {tb:TS} (hp:PassesOwn (model X.prog X.w) X.A X.env X.xe) (hc:PT X c tc) (hb:PSs X body tb):PS X (.While c body [] pos) (tWhile tc tb):=by
 intro pins s σ H D I h
 obtain⟨W,⟨m0,w0⟩,turn⟩:=h
 refine wpAny_While (codeAny_whileLoop (λn s'=>∃ σ' H',Inv X pins σ' H' s'/\W n σ' H') ?_ m0 ⟨σ,H,I,w0⟩)
 rintro n s1 ⟨σ1,H1,I1,w1⟩
 refine wpAny_passesOwn hp (thn (hc pins s1 σ1 H1 _ I1 (turn n σ1 H1 w1)) λb s2 ⟨H2,I2,q2⟩=>?_)
 cases b with
 | true=>
  obtain⟨N,hN,q2⟩:=q2
  rw[if_pos rfl]
  refine wpAny_passesOwn hp (thn (hb pins s2 σ1 H2 _ I2 q2) λf s3 q3=>?_)
  cases f with
  | next=>
   obtain⟨σ3,H3,I3,n3⟩:=q3
   obtain⟨m',hm,w3⟩:=hN σ3 H3 n3
   exact⟨m',hm,σ3,H3,I3,w3⟩
  | cont=>
   obtain⟨σ3,H3,I3,n3⟩:=q3
   obtain⟨m',hm,w3⟩:=hN σ3 H3 n3
   exact⟨m',hm,σ3,H3,I3,w3⟩
  | brk=>exact q3
  | ret v=>exact q3
 | false=>
  rw[if_neg Bool.false_ne_true]
  exact wpAny_execs_nil ⟨σ1,H2,I2,q2⟩
end
structure It where
 go:Nat->Hp->Prop
 yld:Nat->Hp->V->Hp->Prop
 stop:Nat->Hp->Prop
def FpOk (X:Cx) (pins:List (Addr × Obj)) (H:Hp) (b:Addr):Prop:=
 H b=none/\b ≠ X.env.locals/\b ∉ X.fs/\(b ∈ X.ex\/X.s₀.heap.objs.size<=b)/\(∀ x c,X.env.cells.lookup x=some c->c ≠ b)/\∀ p ∈ X.pn++pins,p.1 ≠ b
theorem Inv.fpOk {X:Cx} {pins:List (Addr × Obj)} {σ:St} {H H':Hp} {s:Shared} {b:Addr} (I:Inv X pins σ H s) (hb:s.heap.objs.size<=b) (hn:H' b=none):FpOk X pins H' b:=by
 refine⟨hn,Nat.ne_of_gt (Nat.lt_of_lt_of_le I.lt hb),I.nofs hb,.inr (Nat.le_trans I.sz hb),λx c e z=>?_,λp hp z=>?_⟩
 ·obtain⟨v,q⟩:=I.cell x c e
  exact absurd (Nat.lt_of_lt_of_le q.lt (by rw[z]; exact hb)) (Nat.lt_irrefl _)
 ·exact absurd (Nat.lt_of_lt_of_le (Heap.lt_size (I.pin p hp).1) (by rw[z]; exact hb)) (Nat.lt_irrefl _)
structure Turn (P:Program) (w:World) (K:PySem.W.Frag) (tg:Expr) (J:It) (fp:List Addr) (it:Addr) (tn:Nat->Heap->Prop):Prop where
 mem:it ∈ fp
 obj:∀ i h,tn i h->∀ b ∈ fp,∃ o,h.get? b=some o/\∀ v,o.data ≠ .cell v
 keep:∀ i h h',tn i h->(∀ b ∈ fp,∀ o,h.get? b=some o->h'.get? b=some o)->tn i h'
 item:∀ (X:Cx),X.prog=P->X.w=w->X.K=K->X.calm=true->∀ (i:Nat) (pins:List (Addr × Obj)) (s:Shared) (σ:St) (H:Hp) (E:Value->Shared->Prop),Inv X pins σ H s->(∀ b ∈ fp,FpOk X pins H b)->tn i s.heap->J.go i H ->
  wpAny (model P w) X.A (pyNext (.ref it)) (λr s1=>∃ u,r=some u /\
   wpAny (model P w) X.A (letOwnedTupleGo tg (.ref it) u) (λ_ s2=>∃ x H',Inv X pins σ H' s2/\RelV x u/\J.yld i H x H'/\tn (i+1) s2.heap/\∀ b ∈ fp,H' b=none) E s1) E s
 done:∀ (X:Cx),X.prog=P->X.w=w->X.K=K->X.calm=true->∀ (i:Nat) (pins:List (Addr × Obj)) (s:Shared) (σ:St) (H:Hp) (E:Value->Shared->Prop),Inv X pins σ H s->(∀ b ∈ fp,FpOk X pins H b)->tn i s.heap->J.stop i H ->
  wpAny (model P w) X.A (pyNext (.ref it)) (λr s1=>r=none/\Inv X pins σ H s1) E s
 self:∀ (A:Around) (i:Nat) (s:Shared) (Q:Value->Shared->Prop) (E:Value->Shared->Prop),tn i s.heap->Q (.ref it) s->wpAny (model P w) A (pyIter (.ref it)) Q E s
abbrev TI:=St->Hp->(It->Hp->Prop)->Prop
def PIE (X:Cx) (pins:List (Addr × Obj)) (σ:St) (tg:Expr) (R:It->Hp->Prop) (itv:Value) (s2:Shared):Prop:=
 ∃ (it:Addr) (fp:List Addr) (tn:Nat->Heap->Prop) (J:It) (H':Hp),itv=.ref it/\Inv X pins σ H' s2/\Turn X.prog X.w X.K tg J fp it tn/\tn 0 s2.heap/\(∀ b ∈ fp,FpOk X pins H' b)/\R J H'
def PI (X:Cx) (tg iter:Expr) (wi:TI):Prop:=
 ∀ (pins:List (Addr × Obj)) (s:Shared) (σ:St) (H:Hp) (R:It->Hp->Prop),Inv X pins σ H s->wi σ H R ->
  wpAny (model X.prog X.w) X.A (eval iter X.env) (λv s1=>wpAny (model X.prog X.w) X.A (pyIter v) (PIE X pins σ tg R) X.xe s1) X.xe s
theorem go_of {M:Model} {A:Around} {E:Value->Shared->Prop} {s:Shared} {tg:Expr} {it:Addr} {u:Value} {o:Obj} {n:String} {vs:Array Value} {Q:Unit->Shared->Prop} (ho:s.heap.get? it=some o) (hc:o.cls=.type n) (hd:o.data=.fields vs)
    (hn:["enumerate","zip","dict_itemiterator","dict_reverseitemiterator","odict_iterator","itertools.zip_longest","itertools.pairwise"].contains n=false) (hQ:Q () s):wpAny M A (letOwnedTupleGo tg (.ref it) u) Q E s:=by
  unfold letOwnedTupleGo
  cases tg <;> first
    | exact wpAny_pure hQ
    | (cases u <;> first
        | exact wpAny_pure hQ
        | (refine wpAny_bind (wpAny_load ho ?_)
           rw[hc,hd]
           show wpAny M A (if (["enumerate","zip","dict_itemiterator","dict_reverseitemiterator","odict_iterator","itertools.zip_longest","itertools.pairwise"].contains n&&vs[0]?==some (rawInt _))=true then _ else _) Q E s
           rw[if_neg (by intro h; rw[hn,Bool.false_and] at h; cases h)]
           exact wpAny_pure hQ))
def Itl (K:PySem.W.Frag) (a:Addr):It:=
 ⟨λi H=>∃ xs x,SqL K H a xs/\xs[i]?=some x,λi H x H'=>H'=H/\∀ xs,SqL K H a xs->xs[i]?=some x,λi H=>∃ xs,SqL K H a xs/\xs.length<=i⟩
def Itt (K:PySem.W.Frag) (a:Addr):It:=
 ⟨λi H=>∃ xs x,SqT K H a xs/\xs[i]?=some x,λi H x H'=>H'=H/\∀ xs,SqT K H a xs->xs[i]?=some x,λi H=>∃ xs,SqT K H a xs/\xs.length<=i⟩
def Itr (lo:Int) (n:Nat):It:=⟨λi _=>i<n,λi H x H'=>H'=H/\x=.int (lo+i),λi _=>n<=i⟩
theorem turn_list {P:Program} {w:World} {K:PySem.W.Frag} {tg:Expr} (a it:Addr):Turn P w K tg (Itl K a) [it] it (λi h=>h.IsListIter it a i) where
 mem:=by simp
 obj:=λi h st b hb=>by
  have e:b=it:=by simpa using hb
  subst e
  obtain⟨o,e,c,d⟩:=st
  exact⟨o,e,λv z=>by rw[d] at z; cases z⟩
 keep:=λi h h' st k=>st.at λo e=>k it (by simp) o e
 item:=by
  intro X hP hw hK hc i pins s σ H E I hf st hg
  subst hP hw hK
  obtain⟨xs,x,hq,hx⟩:=hg
  obtain⟨its,rv,p,hz⟩:=I.list hq
  obtain⟨u,hu,ru⟩:=rv.get hx
  obtain⟨f0,f1,f2,f3,f4,f5⟩:=hf it (by simp)
  refine wpAny_pyNext_list_item st p.isList (x:=u) (by simpa using hu) λh' st' sb=>?_
  have I1:Inv X pins σ H { s with heap:=h' }:=I.turned (t':=s.toks) (λb o hb e=>(sb.2 b hb).trans e) f0 f1 f3 f4 f5
  obtain⟨o,e,c,d⟩:=id st'
  exact⟨u,rfl,go_of (s:={ s with heap:=h' }) e c d (by decide) ⟨x,H,I1,ru,⟨rfl,λys hy=>by rw[I.list_inj hy hq]; exact hx⟩,st',λb hb=>(hf b hb).1⟩⟩
 done:=by
  intro X hP hw hK hc i pins s σ H E I hf st hg
  subst hP hw hK
  obtain⟨xs,hq,hx⟩:=hg
  obtain⟨its,rv,p,hz⟩:=I.list hq
  obtain⟨f0,f1,f2,f3,f4,f5⟩:=hf it (by simp)
  have hl:=rv.length
  exact wpAny_pyNext_list_end (I.ok.hd hc) st p.isList (by simp; omega) λh' eb=>⟨rfl,I.turned (t':=s.toks) (λb o hb e=>eb b o hb e) f0 f1 f3 f4 f5⟩
 self:=λ_ _ _ _ _ st h=>wpAny_pyIter_listiter st h
theorem turn_tuple {P:Program} {w:World} {K:PySem.W.Frag} {tg:Expr} (a it:Addr):Turn P w K tg (Itt K a) [it] it (λi h=>h.IsTupleIter it a i) where
 mem:=by simp
 obj:=λi h st b hb=>by
  have e:b=it:=by simpa using hb
  subst e
  obtain⟨o,e,c,d⟩:=st
  exact⟨o,e,λv z=>by rw[d] at z; cases z⟩
 keep:=λi h h' st k=>st.at λo e=>k it (by simp) o e
 item:=by
  intro X hP hw hK hc i pins s σ H E I hf st hg
  subst hP hw hK
  obtain⟨xs,x,hq,hx⟩:=hg
  obtain⟨its,rv,p,hz⟩:=I.tuple hq
  obtain⟨u,hu,ru⟩:=rv.get hx
  obtain⟨f0,f1,f2,f3,f4,f5⟩:=hf it (by simp)
  refine wpAny_pyNext_tuple_item st (show s.heap.IsTuple a its.toArray from p) (x:=u) (by simpa using hu) λh' st' sb=>?_
  have I1:Inv X pins σ H { s with heap:=h' }:=I.turned (t':=s.toks) (λb o hb e=>(sb.2 b hb).trans e) f0 f1 f3 f4 f5
  obtain⟨o,e,c,d⟩:=id st'
  exact⟨u,rfl,go_of (s:={ s with heap:=h' }) e c d (by decide) ⟨x,H,I1,ru,⟨rfl,λys hy=>by rw[I.tuple_inj hy hq]; exact hx⟩,st',λb hb=>(hf b hb).1⟩⟩
 done:=by
  intro X hP hw hK hc i pins s σ H E I hf st hg
  subst hP hw hK
  obtain⟨xs,hq,hx⟩:=hg
  obtain⟨its,rv,p,hz⟩:=I.tuple hq
  obtain⟨f0,f1,f2,f3,f4,f5⟩:=hf it (by simp)
  have hl:=rv.length
  exact wpAny_pyNext_tuple_end (I.ok.hd hc) st (show s.heap.IsTuple a its.toArray from p) (by simp; omega) λh' eb=>⟨rfl,I.turned (t':=s.toks) (λb o hb e=>eb b o hb e) f0 f1 f3 f4 f5⟩
 self:=λ_ _ _ _ _ st h=>wpAny_pyIter_tupleiter st h
theorem turn_range {P:Program} {w:World} {K:PySem.W.Frag} {tg:Expr} (it:Addr) (lo:Int) (n:Nat):Turn P w K tg (Itr lo n) [it] it (λi h=>IsRangeIter h it (lo+(i:Nat)*1) ((n:Int)-(i:Nat)) 1) where
 mem:=by simp
 obj:=λi h st b hb=>by
  have e:b=it:=by simpa using hb
  subst e
  exact⟨_,st,λv z=>by
   have z':Data.fields _=Data.cell v:=z
   cases z'⟩
 keep:=λi h h' st k=>k it (by simp) _ st
 item:=by
  intro X hP hw hK hc i pins s σ H E I hf st hg
  subst hP hw hK
  obtain⟨f0,f1,f2,f3,f4,f5⟩:=hf it (by simp)
  have W:=Walks.range (prog:=X.prog) (w:=X.w) (I.ok.hd hc) it lo 1 n
  refine W.item i s _ _ hg st λv h' tk hv st' kk=>?_
  obtain⟨t,rfl⟩:=hv
  have I1:Inv X pins σ H { s with heap:=h',toks:=tk }:=I.turned (λb o hb e=>kk b o (by simpa using hb) e) f0 f1 f3 f4 f5
  refine⟨_,rfl,go_of (s:={ s with heap:=h',toks:=tk }) (n := "range_iterator") st' rfl rfl (by decide) ⟨.int (lo+i),H,I1,⟨t,?_⟩,⟨rfl,rfl⟩,st',λb hb=>(hf b hb).1⟩⟩
  rw[Int.mul_one]
 done:=by
  intro X hP hw hK hc i pins s σ H E I hf st hg
  subst hP hw hK
  obtain⟨f0,f1,f2,f3,f4,f5⟩:=hf it (by simp)
  exact wpAny_pyNext_range_end (I.ok.hd hc) st (by have:n<=i:=hg; omega) λh' eb=>⟨rfl,I.turned (t':=s.toks) (λb o hb e=>eb b o hb e) f0 f1 f3 f4 f5⟩
 self:=λ_ _ _ _ _ st h=>wpAny_pyIter_rangeiter st h
section
variable {X:Cx} {tg:Expr}
def iList (K:PySem.W.Frag) (tl:TE):TI:=λσ H R=>tl σ H λx H1=>∃ a,x=.ref a/\(∃ xs,SqL K H1 a xs)/\R (Itl K a) H1
def iTup (K:PySem.W.Frag) (tl:TE):TI:=λσ H R=>tl σ H λx H1=>∃ a,x=.ref a/\(∃ xs,SqT K H1 a xs)/\R (Itt K a) H1
theorem pi_list {l:Expr} {tl:TE} (hl:PE X l tl):PI X tg l (iList X.K tl):=by
 intro pins s σ H R I h
 refine thn (hl pins s σ H _ I h) λv s1 ⟨x,H1,I1,r1,q1⟩=>?_
 obtain⟨a,e,⟨xs,hq⟩,q⟩:=q1
 subst e
 cases r1
 obtain⟨its,rv,p,hz⟩:=I1.list hq
 refine wpAny_pyIter_list p.isList ?_
 refine⟨s1.heap.objs.size,[s1.heap.objs.size],_,_,H1,rfl,I1.kept (t':=s1.toks) λb o e=>Heap.get?_push_of_some _ e,turn_list a _,⟨_,Heap.get?_push_size _ rfl,rfl,rfl⟩,λb hb=>?_,q⟩
 have e:b=s1.heap.objs.size:=by simpa using hb
 subst e
 exact I1.fpOk (Nat.le_refl _) (I1.hok.fresh (Nat.le_refl _))
theorem pi_tup {l:Expr} {tl:TE} (hl:PE X l tl):PI X tg l (iTup X.K tl):=by
 intro pins s σ H R I h
 refine thn (hl pins s σ H _ I h) λv s1 ⟨x,H1,I1,r1,q1⟩=>?_
 obtain⟨a,e,⟨xs,hq⟩,q⟩:=q1
 subst e
 cases r1
 obtain⟨its,rv,p,hz⟩:=I1.tuple hq
 refine wpAny_pyIter_tuple (show s1.heap.IsTuple a its.toArray from p) ?_
 refine⟨s1.heap.objs.size,[s1.heap.objs.size],_,_,H1,rfl,I1.kept (t':=s1.toks) λb o e=>Heap.get?_push_of_some _ e,turn_tuple a _,⟨_,Heap.get?_push_size _ rfl,rfl,rfl⟩,λb hb=>?_,q⟩
 have e:b=s1.heap.objs.size:=by simpa using hb
 subst e
 exact I1.fpOk (Nat.le_refl _) (I1.hok.fresh (Nat.le_refl _))
theorem range_it {pins:List (Addr × Obj)} {σ:St} {H:Hp} {s:Shared} {R:It->Hp->Prop} {E:Value->Shared->Prop} {lo hi:Int} {t u v:Tok} {tk:Nat} (I:Inv X pins σ H s) (h1 : -(2 ^ 62)<=lo) (h2:lo<2 ^ 62) (h3 : -(2 ^ 62)<=hi) (h4:hi<2 ^ 62)
  (q:R (Itr lo (hi-lo).toNat) H):wpAny (model X.prog X.w) X.A (pyIter (.ref s.heap.objs.size)) (PIE X pins σ tg R) E { s with heap:=s.heap.push { cls:=.type "range",data:=.fields #[.int lo t,.int hi u,.int 1 v] },toks:=tk }:=by
 refine wpAny_pyIter_range (IsRange.new ..) (small_one h1 h2 h3 h4) ?_
 have I1:Inv X pins σ H { s with heap:=s.heap.push { cls:=.type "range",data:=.fields #[.int lo t,.int hi u,.int 1 v] },toks:=tk }:=I.kept λb o e=>Heap.get?_push_of_some _ e
 refine⟨(s.heap.push { cls:=.type "range",data:=.fields #[.int lo t,.int hi u,.int 1 v] }).objs.size,[(s.heap.push { cls:=.type "range",data:=.fields #[.int lo t,.int hi u,.int 1 v] }).objs.size],_,_,H,rfl,
  I1.kept (t':=tk) λb o e=>Heap.get?_push_of_some _ e,turn_range _ lo (hi-lo).toNat,?_,λb hb=>?_,q⟩
 ·have e1:lo+((0:Nat):Int)*1=lo:=by simp
  have e2:(((hi-lo).toNat:Nat):Int)-((0:Nat):Int)=Builtin.Range.rangeSize lo hi 1:=by rw[rangeSize_one]; split <;> omega
  show IsRangeIter _ _ (lo+((0:Nat):Int)*1) ((((hi-lo).toNat:Nat):Int)-((0:Nat):Int)) 1
  rw[e1,e2]
  exact Heap.get?_push_size _ rfl
 ·have e:b=(s.heap.push { cls:=.type "range",data:=.fields #[.int lo t,.int hi u,.int 1 v] }).objs.size:=by simpa using hb
  subst e
  exact I1.fpOk (Nat.le_refl _) (I1.hok.fresh (Nat.le_refl _))
def iRng1 (ta:TA):TI:=λσ H R=>ta σ H λvs H1=>∃ j:Int,vs=[.int j]/\-(2 ^ 62)<=j/\j<2 ^ 62/\R (Itr 0 j.toNat) H1
theorem pi_range1 {a:Expr} {ta:TA} {p pos:Pos} (hg:Gl X "range") (hm:X.mg "range" = none) (ha:PA X [a] ta) (hs:starEach [a] X.env=[(false,eval a X.env)]:=by rfl):PI X tg (.Call (.Name "range" p) [a] [] pos) (iRng1 ta):=by
 intro pins s σ H R I h
 refine Call_ (ld_blt I hg hm boot_range (PyProof.Rows.callWith_type1 (thn (ha pos pins s σ H _ I h) λus s1 ⟨vs,H1,I1,r1,q1⟩=>?_) hs rfl))
 obtain⟨j,e,q1,q2,q⟩:=q1
 subst e
 cases r1 with
 | cons r rr=>
  cases rr
  obtain⟨t,rfl⟩:=r
  exact call_range_1 (range_it I1 (by omega) (by omega) q1 q2 (by simpa using q))
def tFor (wi:TI) (g:TG) (tb:TS):TS:=λD σ H=>wi σ H λJ H1=>∃ W:Nat->Nat->St->Hp->Prop,(∃ m,W 0 m σ H1)/\∀ i m σ H,W i m σ H ->
 (J.stop i H/\D.nx σ H)\/(J.go i H/\∃ N:St->Hp->Prop,(∀ σ' H',N σ' H'->∃ m',m'<m/\W (i+1) m' σ' H')/\∀ x H',J.yld i H x H'->g x σ H' λσ2 H2=>tb { D with nx:=N,ct:=N,bk:=D.nx } σ2 H2)
def pinsAt (fp:List Addr) (h:Heap):List (Addr × Obj):=fp.filterMap λb=>(h.get? b).map λo=>(b,o)
theorem mem_pinsAt {fp:List Addr} {h:Heap} {b:Addr} {o:Obj} (hb:b ∈ fp) (e:h.get? b=some o):(b,o) ∈ pinsAt fp h:=List.mem_filterMap.mpr ⟨b,hb,by rw[e]; rfl⟩
theorem of_pinsAt {fp:List Addr} {h:Heap} {p:Addr × Obj} (hp:p ∈ pinsAt fp h):p.1 ∈ fp/\h.get? p.1=some p.2:=by
 obtain⟨b,hb,e⟩:=List.mem_filterMap.mp hp
 cases q:h.get? b with
 | none=>rw[q] at e; cases e
 | some o=>
  rw[q] at e
  have e':(b,o)=p:=Option.some.inj e
  subst e'
  exact⟨hb,q⟩
theorem Inv.pinned {pins:List (Addr × Obj)} {σ:St} {H:Hp} {s:Shared} {fp:List Addr} (I:Inv X pins σ H s) (hf:∀ b ∈ fp,FpOk X pins H b) (ho:∀ b ∈ fp,∃ o,s.heap.get? b=some o/\∀ v,o.data ≠ .cell v):Inv X (pins++pinsAt fp s.heap) σ H s:=
 I.pins_of λp hp=>(List.mem_append.mp hp).elim (λz=>I.pin p (List.mem_append_right _ z)) λz=>by
  obtain⟨hb,e⟩:=of_pinsAt z
  obtain⟨f0,f1,f2,_⟩:=hf p.1 hb
  obtain⟨o,e',d⟩:=ho p.1 hb
  rw[e] at e'; cases e'
  exact⟨e,f0,f1,f2,d⟩
theorem Inv.unpinned {pins pl:List (Addr × Obj)} {σ:St} {H:Hp} {s:Shared} (I:Inv X (pins++pl) σ H s):Inv X pins σ H s:=I.pins_of λp hp=>I.pin p (List.mem_append_right _ (List.mem_append_left _ hp))
theorem ps_for {iter:Expr} {body:List Stmt} {wi:TI} {g:TG} {tb:TS} {pos:Pos} (hp:PassesOwn (model X.prog X.w) X.A X.env X.xe) (hc:X.calm=true) (hi:PI X tg iter wi) (hg:PG X tg g) (hb:PSs X body tb)
  (hs:∀ x,foldedSetIterable iter X.env x=pure x:=by intro _; rfl):PS X (.For tg iter body [] pos) (tFor wi g tb):=by
 intro pins s σ H D I h
 refine wpAny_For (thn (hi pins s σ H _ I h) λv s1 h1=>thn h1 λitv s2 h2=>?_) hs
 obtain⟨it,fp,tn,J,H2,e,I2,T,st2,f2,W,⟨m0,w0⟩,turn⟩:=h2
 subst e
 have stat:∀ {H':Hp},(∀ b ∈ fp,H' b=none)->∀ b ∈ fp,FpOk X pins H' b:=λhn b hb=>⟨hn b hb,(f2 b hb).2⟩
 refine codeAny_forLoop_any (λn s'=>∃ i σ' H',Inv X pins σ' H' s'/\tn i s'.heap/\(∀ b ∈ fp,H' b=none)/\W i n σ' H') ?_ m0 ⟨0,σ,H2,I2,st2,λb hb=>(f2 b hb).1,w0⟩
 rintro n s3 ⟨i,σ3,H3,I3,st3,fr3,w3⟩
 rcases turn i n σ3 H3 w3 with⟨stop,qn⟩ | ⟨go,N,hN,step⟩
 ·refine wpAny_passesOwn hp (thn (T.done X rfl rfl rfl hc i pins s3 σ3 H3 X.xe I3 (stat fr3) st3 stop) λr s4 ⟨hr,I4⟩=>?_)
  subst hr
  exact wpAny_execs_nil ⟨σ3,H3,I4,qn⟩
 ·refine wpAny_passesOwn hp (thn (T.item X rfl rfl rfl hc i pins s3 σ3 H3 X.xe I3 (stat fr3) st3 go) λr s4 ⟨u,hr,h4⟩=>?_)
  subst hr
  refine wpAny_passesOwn hp (thn h4 λ_ s5 ⟨x,H5,I5,r5,y5,st5,fr5⟩=>?_)
  have I5':=I5.pinned (stat fr5) (T.obj _ _ st5)
  refine wpAny_passesOwn hp (thn (hg _ s5 σ3 H5 x u _ I5' r5 (step x H5 y5)) λ_ s6 ⟨σ6,H6,I6,q6⟩=>?_)
  refine wpAny_passesOwn hp (thn (hb _ s6 σ6 H6 _ I6 q6) λf s7 q7=>?_)
  have again:∀ {σ7:St} {H7:Hp},Inv X (pins++pinsAt fp s5.heap) σ7 H7 s7->N σ7 H7->∃ m,m<n/\∃ i σ' H',Inv X pins σ' H' s7/\tn i s7.heap/\(∀ b ∈ fp,H' b=none)/\W i m σ' H':=λ{σ7 H7} I7 n7=>by
   obtain⟨m',hm,w7⟩:=hN σ7 H7 n7
   refine⟨m',hm,i+1,σ7,H7,I7.unpinned,T.keep _ _ _ st5 λb hb o e=>(I7.pin (b,o) (List.mem_append_right _ (List.mem_append_right _ (mem_pinsAt hb e)))).1,λb hb=>?_,w7⟩
   obtain⟨o,e,d⟩:=T.obj _ _ st5 b hb
   exact(I7.pin (b,o) (List.mem_append_right _ (List.mem_append_right _ (mem_pinsAt hb e)))).2.1
  cases f with
  | next=>obtain⟨σ7,H7,I7,n7⟩:=q7; exact again I7 n7
  | cont=>obtain⟨σ7,H7,I7,n7⟩:=q7; exact again I7 n7
  | brk=>obtain⟨σ7,H7,I7,q7⟩:=q7; exact⟨σ7,H7,I7.unpinned,q7⟩
  | ret v=>obtain⟨x7,σ7,H7,I7,r7,q7⟩:=q7; exact⟨x7,σ7,H7,I7.unpinned,r7,q7⟩
end
abbrev R2:=V->V->Hp->VK->Prop
def OpR (X:Cx) (f:Value->Value->Sem Value) (r:R2):Prop:=
 ∀ (pins:List (Addr × Obj)) (s:Shared) (σ:St) (H:Hp) (x y:V) (v u:Value) (Q:VK),Inv X pins σ H s->RelV x v->RelV y u->r x y H Q ->
  wpAny (model X.prog X.w) X.A (f v u) (EP X pins σ Q) X.xe s
def UnR (X:Cx) (f:Value->Sem Value) (r:V->Hp->VK->Prop):Prop:=
 ∀ (pins:List (Addr × Obj)) (s:Shared) (σ:St) (H:Hp) (x:V) (v:Value) (Q:VK),Inv X pins σ H s->RelV x v->r x H Q ->
  wpAny (model X.prog X.w) X.A (f v) (EP X pins σ Q) X.xe s
def CallR (X:Cx) (f:Value) (r:List V->Hp->VK->Prop):Prop:=
 ∀ (pins:List (Addr × Obj)) (s:Shared) (σ:St) (H:Hp) (xs:List V) (us:List Value) (Q:VK),Inv X pins σ H s->Vals xs us->r xs H Q ->
  wpAny (model X.prog X.w) X.A (call f us) (EP X pins σ Q) X.xe s
def TruR (X:Cx) (r:V->Hp->(Bool->Hp->Prop)->Prop):Prop:=
 ∀ (pins:List (Addr × Obj)) (s:Shared) (σ:St) (H:Hp) (x:V) (v:Value) (Q:Bool->Hp->Prop),Inv X pins σ H s->RelV x v->r x H Q ->
  wpAny (model X.prog X.w) X.A (truthy v) (TP X pins σ Q) X.xe s
def tOp (r:R2) (ta tb:TE):TE:=λσ H Q=>ta σ H λx H1=>tb σ H1 λy H2=>r x y H2 Q
def tUn (r:V->Hp->VK->Prop) (ta:TE):TE:=λσ H Q=>ta σ H λx H1=>r x H1 Q
def rI (C:Int->Int->Prop) (g:Int->Int->V):R2:=λx y H Q=>∃ i j,x=.int i/\y=.int j/\C i j/\Q (g i j) H
def rI0 (g:Int->Int->V):R2:=λx y H Q=>∃ i j,x=.int i/\y=.int j/\Q (g i j) H
def rU (g:Int->V):V->Hp->VK->Prop:=λx H Q=>∃ i,x=.int i/\Q (g i) H
section
variable {X:Cx} {a b c:Expr} {ta tb tc:TE} {pos:Pos}
theorem binT (ha:PE X a ta) (hb:PE X b tb) {pins:List (Addr × Obj)} {s:Shared} {σ:St} {H:Hp} {R:V->V->Hp->Prop} (I:Inv X pins σ H s)
  (h:ta σ H λx H1=>tb σ H1 λy H2=>R x y H2) {Q:Value->Shared->Prop} {f:Value->Value->Sem Value}
  (hf:∀ v u s2 x y H2,Inv X pins σ H2 s2->RelV x v->RelV y u->R x y H2->wpAny (model X.prog X.w) X.A (f v u) Q X.xe s2) :
  wpAny (model X.prog X.w) X.A (eval a X.env) (λv s₁=>wpAny (model X.prog X.w) X.A (eval b X.env) (λu s₂=>wpAny (model X.prog X.w) X.A (f v u) Q X.xe s₂) X.xe s₁) X.xe s:=by
 refine thn (ha pins s σ H _ I h) λv s1 ⟨x,H1,I1,r1,q1⟩=>?_
 refine thn (hb pins s1 σ H1 _ I1 q1) λu s2 ⟨y,H2,I2,r2,q2⟩=>?_
 exact hf v u s2 x y H2 I2 r1 r2 q2
theorem pe_op {op:Operator} {r:R2} (ho:OpR X (binaryOp op) r) (ha:PE X a ta) (hb:PE X b tb):PE X (.BinOp a op b pos) (tOp r ta tb):=by
 intro pins s σ H Q I h
 exact wpAny_BinOp (binT ha hb I h λv u s2 x y H2 I2 rx ry q=>ho pins s2 σ H2 x y v u Q I2 rx ry q)
theorem pe_un {op:UnaryOp} {r:V->Hp->VK->Prop} (ho:UnR X (unaryOp op) r) (ha:PE X a ta):PE X (.UnaryOp op a pos) (tUn r ta):=by
 intro pins s σ H Q I h
 exact UnaryOp_ (thn (ha pins s σ H _ I h) λv s1 ⟨x,H1,I1,r1,q1⟩=>ho pins s1 σ H1 x v Q I1 r1 q1)
theorem opI {f:Value->Value->Sem Value} {C:Int->Int->Prop} {g:Int->Int->Int}
  (rule:∀ (i j:Int) (t u:Tok) (s:Shared) (Q:Value->Shared->Prop) (E:Value->Shared->Prop),C i j->Q (.int (g i j) s.toks) { s with toks:=s.toks+1 }->wpAny (model X.prog X.w) X.A (f (.int i t) (.int j u)) Q E s) :
  OpR X f (rI C λi j=>.int (g i j)):=by
 intro pins s σ H x y v u Q I rx ry h
 obtain⟨i,j,rfl,rfl,hc,q⟩:=h
 obtain⟨t,rfl⟩:=rx
 obtain⟨t',rfl⟩:=ry
 exact rule i j t t' s _ _ hc ⟨.int (g i j),H,I.tok _,⟨_,rfl⟩,q⟩
theorem opI0 {f:Value->Value->Sem Value} {g:Int->Int->Int}
  (rule:∀ (i j:Int) (t u:Tok) (s:Shared) (Q:Value->Shared->Prop) (E:Value->Shared->Prop),Q (.int (g i j) s.toks) { s with toks:=s.toks+1 }->wpAny (model X.prog X.w) X.A (f (.int i t) (.int j u)) Q E s) :
  OpR X f (rI0 λi j=>.int (g i j)):=by
 intro pins s σ H x y v u Q I rx ry h
 obtain⟨i,j,rfl,rfl,q⟩:=h
 obtain⟨t,rfl⟩:=rx
 obtain⟨t',rfl⟩:=ry
 exact rule i j t t' s _ _ ⟨.int (g i j),H,I.tok _,⟨_,rfl⟩,q⟩
theorem opB0 {f:Value->Value->Sem Value} {g:Int->Int->Bool}
  (rule:∀ (i j:Int) (t u:Tok) (s:Shared) (Q:Value->Shared->Prop) (E:Value->Shared->Prop),Q (.bool (g i j)) s->wpAny (model X.prog X.w) X.A (f (.int i t) (.int j u)) Q E s) :
  OpR X f (rI0 λi j=>.bl (g i j)):=by
 intro pins s σ H x y v u Q I rx ry h
 obtain⟨i,j,rfl,rfl,q⟩:=h
 obtain⟨t,rfl⟩:=rx
 obtain⟨t',rfl⟩:=ry
 exact rule i j t t' s _ _ ⟨.bl (g i j),H,I,rfl,q⟩
def CMul (i j:Int):Prop:=(-(2 ^ 64)<i/\i<2 ^ 64)\/(-(2 ^ 64)<j/\j<2 ^ 64)
theorem CMul.ok {i j:Int} (h:CMul i j):IntMulOk i j:=by
 rcases h with⟨h1,h2⟩ | ⟨h1,h2⟩
 ·exact .of_left (intBits_le_64 h1 h2)
 ·exact .of_right (intBits_le_64 h1 h2)
theorem op_add:OpR X (binaryOp .Add) (rI0 λi j=>.int (i+j)):=opI0 λ_ _ _ _ _ _ _ q=>add_int q
theorem op_sub:OpR X (binaryOp .Sub) (rI0 λi j=>.int (i-j)):=opI0 λ_ _ _ _ _ _ _ q=>sub_int q
theorem op_mul:OpR X (binaryOp .Mult) (rI CMul λi j=>.int (i*j)):=opI λ_ _ _ _ _ _ _ hc q=>mul_int q hc.ok
theorem op_mod:OpR X (binaryOp .Mod) (rI (λ_ j=>0<j) λi j=>.int (i % j)):=opI λi j _ _ _ _ _ hc q=>by
 have h1:(0:Int)<j:=hc
 exact mod_int' (by omega) (by rw[Int.fmod_eq_emod_of_nonneg i (by omega)]; exact q)
theorem unI {f:Value->Sem Value} {g:Int->Int}
  (rule:∀ (i:Int) (t:Tok) (s:Shared) (Q:Value->Shared->Prop) (E:Value->Shared->Prop),Q (.int (g i) s.toks) { s with toks:=s.toks+1 }->wpAny (model X.prog X.w) X.A (f (.int i t)) Q E s) :
  UnR X f (rU λi=>.int (g i)):=by
 intro pins s σ H x v Q I rx h
 obtain⟨i,rfl,q⟩:=h
 obtain⟨t,rfl⟩:=rx
 exact rule i t s _ _ ⟨.int (g i),H,I.tok _,⟨_,rfl⟩,q⟩
theorem un_neg:UnR X (unaryOp .USub) (rU λi=>.int (-i)):=unI λ_ _ _ _ _ q=>neg_int q
end
section
variable {X:Cx} {a b c:Expr} {ta tb tc:TE} {pos:Pos}
theorem op_lt:OpR X (compareOp .Lt) (rI0 λi j=>.bl (decide (i<j))):=opB0 λ_ _ _ _ _ _ _ q=>lt_int q
theorem op_le:OpR X (compareOp .LtE) (rI0 λi j=>.bl (decide (i<=j))):=opB0 λ_ _ _ _ _ _ _ q=>le_int q
theorem op_gt:OpR X (compareOp .Gt) (rI0 λi j=>.bl (decide (j<i))):=opB0 λ_ _ _ _ _ _ _ q=>gt_int q
theorem op_ge:OpR X (compareOp .GtE) (rI0 λi j=>.bl (decide (j<=i))):=opB0 λ_ _ _ _ _ _ _ q=>ge_int q
theorem pe_cmpR {op:CmpOp} {r:R2} (ho:OpR X (compareOp op) r) (ha:PE X a ta) (hb:PE X b tb) (hm:behindInMarks op b=false):PE X (.Compare a [op] [b] pos) (tOp r ta tb):=by
 intro pins s σ H Q I h
 exact wpAny_Compare1 (binT ha hb I h λv u s2 x y H2 I2 rx ry q=>ho pins s2 σ H2 x y v u Q I2 rx ry q) hm
def tTest (t:TE):TT:=λσ H Q=>t σ H λx H'=>∃ k,x=.bl k/\Q k H'
theorem pt_cmpR {op:CmpOp} {r:R2} (ho:OpR X (compareOp op) r) (ha:PE X a ta) (hb:PE X b tb) (hm:behindInMarks op b=false):PT X (.Compare a [op] [b] pos) (tTest (tOp r ta tb)):=by
 intro pins s σ H Q I h
 refine wpAny_isTrue_Compare1 (thn (ha pins s σ H _ I h) λv s1 ⟨x,H1,I1,r1,q1⟩=>thn (hb pins s1 σ H1 _ I1 q1) λu s2 ⟨y,H2,I2,r2,q2⟩=>
  thn (ho pins s2 σ H2 x y v u _ I2 r1 r2 q2) λc s3 ⟨z,H3,I3,r3,k,e,q3⟩=>?_) hm
 subst e
 cases r3
 exact wpAny_truthy_bool ⟨H3,I3,q3⟩
def tChain (r r':R2) (ta tb tc:TE):TE:=λσ H Q=>ta σ H λx H1=>tb σ H1 λy H2=>r x y H2 λz H3=>∃ k,z=.bl k /\
 (if k=true then tc σ H3 λw' H4=>r' y w' H4 Q else Q (.bl false) H3)
theorem pe_chain {op op':CmpOp} {r r':R2} (ho:OpR X (compareOp op) r) (ho':OpR X (compareOp op') r') (ha:PE X a ta) (hb:PE X b tb) (hc:PE X c tc)
  (hm:lastMarks [op,op'] [b,c]=false:=by with_unfolding_all rfl):PE X (.Compare a [op,op'] [b,c] pos) (tChain r r' ta tb tc):=by
 intro pins s σ H Q I h
 refine Compare_chain (thn (ha pins s σ H _ I h) λv s1 ⟨x,H1,I1,r1,q1⟩=>chain_link (thn (hb pins s1 σ H1 _ I1 q1) λu s2 ⟨y,H2,I2,r2,q2⟩=>
  thn (ho pins s2 σ H2 x y v u _ I2 r1 r2 q2) λd s3 ⟨z,H3,I3,r3,k,e,q3⟩=>?_)) hm
 subst e
 cases r3
 refine wpAny_truthy_bool ?_
 cases k with
 | false=>exact ite_ff ⟨.bl false,H3,I3,rfl,q3⟩
 | true=>exact ite_tt (chain_last (thn (hc pins s3 σ H3 _ I3 q3) λw' s4 ⟨z',H4,I4,r4,q4⟩=>ho' pins s4 σ H4 y z' u w' Q I4 r2 r4 q4))
theorem pt_chain {op op':CmpOp} {r r':R2} (ho:OpR X (compareOp op) r) (ho':OpR X (compareOp op') r') (ha:PE X a ta) (hb:PE X b tb) (hc:PE X c tc)
  (hm:lastMarks [op,op'] [b,c]=false:=by with_unfolding_all rfl):PT X (.Compare a [op,op'] [b,c] pos) (tTest (tChain r r' ta tb tc)):=by
 intro pins s σ H Q I h
 refine isTrue_chain (thn (ha pins s σ H _ I h) λv s1 ⟨x,H1,I1,r1,q1⟩=>test_link (thn (hb pins s1 σ H1 _ I1 q1) λu s2 ⟨y,H2,I2,r2,q2⟩=>
  thn (ho pins s2 σ H2 x y v u _ I2 r1 r2 q2) λd s3 ⟨z,H3,I3,r3,k,e,q3⟩=>?_)) hm
 subst e
 cases r3
 refine wpAny_truthy_bool ?_
 cases k with
 | false=>
  obtain⟨k',e',q'⟩:=q3
  cases e'
  exact ite_ff ⟨H3,I3,q'⟩
 | true=>
  refine ite_tt (test_last (thn (hc pins s3 σ H3 _ I3 q3) λw' s4 ⟨z',H4,I4,r4,q4⟩=>thn (ho' pins s4 σ H4 y z' u w' _ I4 r2 r4 q4) λd' s5 ⟨z2,H5,I5,r5,k2,e2,q5⟩=>?_))
  subst e2
  cases r5
  exact wpAny_truthy_bool ⟨H5,I5,q5⟩
def TruV (K:PySem.W.Frag) (x:V) (H:Hp) (k:Bool):Prop:=
 match x with
 | .non=>k=false
 | .bl b=>k=b
 | .int i=>k=(i != 0)
 | .str y=>y.length<=sizeLine/\k=((y.length:Int) != 0)
 | .byt y=>y.size<=sizeLine/\k=((y.size:Int) != 0)
 | .ref p=>(∃ xs,SqL K H p xs/\k = !xs.isEmpty)\/(∃ xs,SqT K H p xs/\k = !xs.isEmpty)\/∃ kvs,H p=some (.dK kvs)/\k = !kvs.isEmpty
 | _=>False
theorem isEmpty_kv {κ:Type} {kvs:List (κ × V)} {vs:List (κ × Value)} (r:KV kvs vs):(!vs.isEmpty) = !kvs.isEmpty:=by
 cases r <;> rfl
theorem isEmpty_of {xs:List V} {its:List Value} (r:Vals xs its):(!its.toArray.isEmpty) = !xs.isEmpty:=by
 cases r <;> simp
theorem line63:(sizeLine:Nat)<2 ^ 63:=by rw[sizeLine_eq]; decide
theorem tru_ok:TruR X (λx H Q=>∃ k,TruV X.K x H k/\Q k H):=by
 intro pins s σ H x v Q I rx h
 obtain⟨k,e,q⟩:=h
 have hl:=line63
 have hs:sizeLine=16777216:=sizeLine_eq
 cases x with
 | non=>
  cases rx
  have e':k=false:=e
  subst e'
  exact truthy_none ⟨H,I,q⟩
 | bl b=>
  cases rx
  have e':k=b:=e
  subst e'
  exact wpAny_truthy_bool ⟨H,I,q⟩
 | int i=>
  obtain⟨t,rfl⟩:=rx
  have e':k=(i != 0):=e
  subst e'
  exact PySem.P.truthy_int ⟨H,I,q⟩
 | str y=>
  obtain⟨t,rfl⟩:=rx
  obtain⟨hy,e'⟩:y.length<=sizeLine/\k=((y.length:Int) != 0):=e
  subst e'
  exact PySem.P.truthy_str (by omega) ⟨H,I.tok _,q⟩
 | byt y=>
  obtain⟨t,rfl⟩:=rx
  obtain⟨hy,e'⟩:y.size<=sizeLine/\k=((y.size:Int) != 0):=e
  subst e'
  exact PySem.W.truthy_bytes (by omega) ⟨H,I.tok _,q⟩
 | ref p=>
  cases rx
  have e':(∃ xs,SqL X.K H p xs/\k = !xs.isEmpty)\/(∃ xs,SqT X.K H p xs/\k = !xs.isEmpty)\/∃ kvs,H p=some (.dK kvs)/\k = !kvs.isEmpty:=e
  rcases e' with⟨xs,hx,e'⟩ | ⟨xs,hx,e'⟩ | ⟨kvs,hx,e'⟩
  ·subst e'
   obtain⟨its,r,pl,hz⟩:=I.list hx
   have hlen:=r.length
   exact wpAny_truthy_list pl.isList (by simp only[List.size_toArray]; omega) ⟨H,I.tok _,by rw[isEmpty_of r]; exact q⟩
  ·subst e'
   obtain⟨its,r,pl,hz⟩:=I.tuple hx
   have hlen:=r.length
   exact truthy_tuple pl (by simp only[List.size_toArray]; omega) ⟨H,I.tok _,by rw[isEmpty_of r]; exact q⟩
  ·subst e'
   obtain⟨hz,hS,vs,r,m⟩:kvs.length<=sizeLine/\(p==sysModules)=false/\∃ vs,KV kvs vs/\s.heap.DictOf (mixKind X.prog X.w) p vs:=I.hok p _ hx
   have hlen:kvs.length=vs.length:=Paired.length r
   exact wpAny_truthy_dict hS m (by omega) ⟨H,I.tok _,by rw[isEmpty_kv r]; exact q⟩
 | _=>exact(show False from e).elim
theorem pt_truth (ha:PE X a ta) (he:∀ whole,isTrue a X.env whole=(do let v <- whole; standAt a.pos; holding [v] (truthy v))) :
  PT X a (λσ H Q=>ta σ H λx H'=>∃ k,TruV X.K x H' k/\Q k H'):=by
 intro pins s σ H Q I h
 exact isTrue_plain (thn (ha pins s σ H _ I h) λv s1 ⟨x,H1,I1,r1,q1⟩=>tru_ok pins s1 σ H1 x v Q I1 r1 q1) (he _)
theorem vals1 {x:V} {us:List Value} (r:Vals [x] us):∃ u,us=[u]/\RelV x u:=by
 cases r with
 | cons r1 r2=>cases r2; exact⟨_,rfl,r1⟩
theorem call_int1:CallR X (.type "int") (λxs H Q=>(∃ i,xs=[.int i]/\Q (.int i) H)\/∃ k,xs=[.bl k]/\Q (.int (if k then 1 else 0)) H):=by
 intro pins s σ H xs us Q I r h
 rcases h with⟨i,rfl,q⟩ | ⟨k,rfl,q⟩
 ·obtain⟨u,rfl,t,rfl⟩:=vals1 r
  exact call_int_int ⟨.int i,H,I,⟨_,rfl⟩,q⟩
 ·obtain⟨u,rfl,r1⟩:=vals1 r
  cases r1
  exact call_int_bool ⟨.int (if k then 1 else 0),H,I.tok _,⟨_,rfl⟩,q⟩
end
section
variable {prog:Program} {w:World} {A:Around} {E:Value->Shared->Prop} {s:Shared} {K:PySem.W.Frag} {x dx C f:Addr} {mA:Str->Option Value} {name:Str} {v:Value}
end
theorem RelO.some_of {v:V} {o:Option Value} (r:RelO (some v) o):∃ u,o=some u/\RelV v u:=by
 cases o with
 | none=>exact(show False from r).elim
 | some u=>exact⟨u,rfl,r⟩
section
variable {P:Program} {w:World} {H H':Hp} {h h':Heap} {a C dx:Addr} {fs fs':List (Str × V)}
end
section
variable {X:Cx} {pins:List (Addr × Obj)} {σ:St} {H:Hp} {s:Shared} {a C dx:Addr} {fs:List (Str × V)} {f:Str} {v:V} {A:Around} {E:Value->Shared->Prop}
end
section
variable {X:Cx} {o e value:Expr} {f:Str} {pos pos' tpos:Pos} {ta tv:TE}
end
section
variable {X:Cx} {pins:List (Addr × Obj)} {σ:St} {H:Hp} {s:Shared} {A:Around} {E:Value->Shared->Prop} {Q:Value->Shared->Prop} {c:Value} {b:Bool}
end
structure Room (k:Nat) (A:Around):Prop where
 hd:A.handled=none
 dp:A.depth+3*k+5<recursionLimit
 un:A.units+16*k+200<cLine
theorem Room.mono {j k:Nat} {A:Around} (r:Room k A) (h:j<=k):Room j A:=⟨r.hd,by have:=r.dp; omega,by have:=r.un; omega⟩
theorem Room.deeper {k:Nat} {A:Around} (r:Room (k+1) A) (env:Env):Room k (A.deeper env):=
 ⟨r.hd,by have:=r.dp; show A.depth+1+3*k+5<_; omega,by have:=r.un; show A.units+3+16*k+200<_; omega⟩
theorem Room.depth {k:Nat} {A:Around} (r:Room k A):A.depth<recursionLimit:=by have:=r.dp; omega
theorem Room.units {k:Nat} {A:Around} (r:Room k A):A.units+64<cLine:=by have:=r.un; omega
def tNil:TA:=λ_ H Q=>Q [] H
def tCons (ta:TE) (tr:TA):TA:=λσ H Q=>ta σ H λx H1=>tr σ H1 λxs H2=>Q (x::xs) H2
section
variable {X:Cx} {e:Expr} {es:List Expr} {te:TE} {t:TA} {pos:Pos}
theorem pa_nil:PA X [] tNil:=λ_ _ _ _ H Q I h=>Calls.spliced_nil ⟨[],H,I,.nil,h⟩
theorem pa_cons (ha:PE X e te) (hr:PA X es t) (hs:starEach (e::es) X.env=(false,eval e X.env)::starEach es X.env:=by rfl):PA X (e::es) (tCons te t):=by
 intro pos pins s σ H Q I h
 rw[hs]
 show wpAny _ _ (spliced ((false,eval e X.env)::backTo pos (starEach es X.env))) _ _ s
 refine Calls.spliced_cons (thn (ha pins s σ H _ I h) λu s1 ⟨x,H1,I1,r1,q1⟩=>?_)
 exact thn (hr pos pins s1 σ H1 _ I1 q1) λus s2 ⟨xs,H2,I2,r2,q2⟩=>⟨x::xs,H2,I2,.cons r1 r2,q2⟩
def tTup (t:TA):TE:=λσ H Q=>t σ H λxs H1=>xs.length<=sizeLine/\∀ p,H1 p=none->Q (.ref p) (upd H1 p (.tup xs))
def tLst (t:TA):TE:=λσ H Q=>t σ H λxs H1=>xs.length<=sizeLine/\∀ p,H1 p=none->Q (.ref p) (upd H1 p (.lst xs))
theorem pe_tup {x1} (h:PA X es t):PE X (.Tuple es x1 pos) (tTup t):=by
 intro pins s σ H Q I hq
 refine wpAny_Tuple_spliced (thn (h pos pins s σ H _ I hq) λus s1 ⟨xs,H1,I1,r,z,q⟩=>⟨by rw[<- r.length]; exact z,?_⟩)
 have hf:H1 s1.heap.objs.size=none:=I1.hok.fresh (Nat.le_refl _)
 refine⟨.ref s1.heap.objs.size,upd H1 s1.heap.objs.size (.tup xs),I1.laid (t':=s1.toks) (λb u e=>Heap.get?_push_of_some _ e) (Nat.le_refl _) ?_,rfl,q _ hf⟩
 exact⟨z,⟨us,r,⟨_,Heap.get?_push_size _ rfl,rfl,_,rfl⟩⟩,λo q=>by rw[Heap.get?_push_size _ rfl] at q; cases q; rfl⟩
theorem pe_lst (h:PA X es t):PE X (.List es pos) (tLst t):=by
 intro pins s σ H Q I hq
 refine wpAny_List_spliced (thn (h pos pins s σ H _ I hq) λus s1 ⟨xs,H1,I1,r,z,q⟩=>⟨by rw[<- r.length]; exact z,?_⟩)
 have hf:H1 s1.heap.objs.size=none:=I1.hok.fresh (Nat.le_refl _)
 refine⟨.ref s1.heap.objs.size,upd H1 s1.heap.objs.size (.lst xs),I1.laid (t':=s1.toks) (λb u e=>Heap.get?_push_of_some _ e) (Nat.le_refl _) ?_,rfl,q _ hf⟩
 exact⟨z,us,0,r,Heap.get?_push_size _ rfl⟩
end
abbrev Sp:=List V->Hp->VK->XK->Prop
abbrev CXT:=List Env->Hp->Shared->XK->Value->Shared->Prop
structure Env0 (P:Program) (w:World) (K:PySem.W.Frag) (mg:Str->Option Value) (base:Heap) (A:Around) (outer:List Env) (s:Shared) (H:Hp):Prop where
 frames:A.frames=some outer
 mod:Mod K mg base
 bs:∀ b o,base.get? b=some o->s.heap.get? b=some o/\H b=none
 bsz:base.objs.size<=s.heap.objs.size
 funs:s.heap.FunFrames base outer
 frf:∀ b ∈ frs outer,H b=none
 hok:HOk P w H s.heap
 bare:AllBare s.gens
def CE (outer:List Env) (P:Program) (w:World) (H:Hp) (s:Shared) (Q:VK) (u:Value) (s':Shared):Prop:=
 ∃ v H',s'.os=s.os/\AllBare s'.gens/\Un (frs outer) [] H H' s.heap s'.heap/\HOk P w H' s'.heap/\RelV v u/\Q v H'
def CR (CX:CXT) (outer:List Env) (P:Program) (w:World) (H:Hp) (s:Shared) (Q:VK) (E:XK) (r:Result) (s':Shared):Prop:=
 match r with
 | .ok (.ret u)=>CE outer P w H s Q u s'
 | .ok _=>False
 | .error e=>CX outer H s E e s'
structure FnOk (P:Program) (w:World) (K:PySem.W.Frag) (mg:Str->Option Value) (base:Heap) (CX:CXT) (k:Nat) (f:Addr) (fd:FuncData) (ps:List Str) (sp:Sp):Prop where
 len:∀ vs H Q E,sp vs H Q E->vs.length=ps.length
 run:∀ (A:Around) (outer:List Env) (s:Shared) (H:Hp) (args:Args) (us:List Value) (vs:List V) (Q:VK) (E:XK),Room k A->Env0 P w K mg base A outer s H->BindsTo s fd args (ps.zip us)->Vals vs us->sp vs H Q E ->
  codeAny (model P w) A (.call (.ref f) args) (CR CX outer P w H s Q E) s
theorem FnOk.imp {P:Program} {w:World} {K:PySem.W.Frag} {mg:Str->Option Value} {base:Heap} {CX:CXT} {k:Nat} {f:Addr} {fd:FuncData} {ps:List Str} {sp sp':Sp} (F:FnOk P w K mg base CX k f fd ps sp)
  (h:∀ vs H Q E,sp' vs H Q E->sp vs H Q E):FnOk P w K mg base CX k f fd ps sp':=
 ⟨λvs H Q E q=>F.len vs H Q E (h _ _ _ _ q),λA outer s H args us vs Q E hr he hb hv hs=>F.run A outer s H args us vs Q E hr he hb hv (h _ _ _ _ hs)⟩
section
variable {X:Cx} {pins:List (Addr × Obj)} {σ:St} {H:Hp} {s s':Shared}
theorem Inv.env0 (I:Inv X pins σ H s):Env0 X.prog X.w X.K X.mg X.base X.A X.stack s H:=
 ⟨I.ok.frames,I.ok.mod,I.bs,Nat.le_trans I.ok.bsz I.sz,I.stack,I.stkFree,I.hok,I.bare⟩
theorem Inv.after {Q:VK} {u:Value} (I:Inv X pins σ H s) (h:CE X.stack X.prog X.w H s Q u s'):EP X pins σ Q u s':=by
 obtain⟨v,H',os,bare,un,hok,r,q⟩:=h
 obtain⟨hh,g,d,t,os'⟩:=s'
 obtain rfl:os'=s.os:=os
 exact⟨v,H',I.call (h':=hh) (g':=g) (d':=d) (t':=t) (ch:=[]) un hok bare (λb z=>absurd z (by simp)),r,q⟩
end
def tCall (sp:Sp) (dvs:List V) (E:XK) (t:TA):TE:=λσ H Q=>t σ H λvs H1=>sp (vs++dvs) H1 Q E
def Binds (K:PySem.W.Frag) (fd:FuncData) (ps:List Str) (ds:List Value):Prop:=
 ∀ (s:Shared) (us:List Value),K.In s.heap->(us++ds).length=ps.length->BindsTo s fd ⟨us,[]⟩ (ps.zip (us++ds))
theorem Binds.all {K:PySem.W.Frag} {fd:FuncData} {ps:List Str} (h:∀ us:List Value,us.length=ps.length->bindArgs fd ⟨us,[]⟩=pure (ps.zip us)):Binds K fd ps []:=λs us _ hl=>by
 rw[List.append_nil] at hl |-
 exact .of_eq (h us hl)
def Passes (CX:CXT) (X:Cx) (E:XK):Prop:=∀ (pins:List (Addr × Obj)) (σ:St) (H:Hp) (s:Shared) (e:Value) (s':Shared),Inv X pins σ H s->CX X.stack H s E e s'->X.xe e s'
section
variable {X:Cx} {CX:CXT} {k:Nat} {f C:Addr} {fd:FuncData} {ps:List Str} {sp:Sp} {dvs:List V} {ds:List Value} {E:XK} {x m:Str} {p pos apos:Pos} {e o:Expr} {es:List Expr} {ta:TE} {t:TA}
theorem run_fn {pins:List (Addr × Obj)} {σ:St} {H:Hp} {s:Shared} {Q:VK} {us:List Value} {vs:List V} (F:FnOk X.prog X.w X.K X.mg X.base CX k f fd ps sp) (hr:Room k X.A) (hb:Binds X.K fd ps ds) (hd:Vals dvs ds) (hx:Passes CX X E)
  (I:Inv X pins σ H s) (r:Vals vs us) (h:sp (vs++dvs) H Q E):wpAny (model X.prog X.w) X.A (call (.ref f) us) (EP X pins σ Q) X.xe s:=by
 have r2:Vals (vs++dvs) (us++ds):=r.append hd
 have hl:(us++ds).length=ps.length:=by rw[<- r2.length]; exact F.len _ _ _ _ h
 refine wpAny_call (codeAny_mono (F.run X.A X.stack s H ⟨us,[]⟩ (us++ds) (vs++dvs) Q E hr I.env0 (hb s us I.kIn hl) r2 h) λr s' hq=>?_)
 cases r with
 | error e=>exact hx pins σ H s e s' I hq
 | ok fl=>
  cases fl with
  | ret u=>exact I.after hq
  | next=>exact False.elim hq
  | brk=>exact False.elim hq
  | cont=>exact False.elim hq
theorem pe_call (F:FnOk X.prog X.w X.K X.mg X.base CX k f fd ps sp) (hr:Room k X.A) (hg:Gl X x) (hm:X.mg x=some (.ref f)) (hk:PySem.W.keepIn X.K (.ref f)=true) (hb:Binds X.K fd ps ds) (hd:Vals dvs ds) (hx:Passes CX X E)
  (ha:PA X (e::es) t) (hdb:(x==("__debug__" : Str))=false:=by decide) (he:starEach (e::es) X.env=(false,eval e X.env)::starEach es X.env:=by rfl) (hpl:(backTo pos (starEach es X.env)).any (·.1)=false:=by rfl) :
  PE X (.Call (.Name x p) (e::es) [] pos) (tCall sp dvs E t):=by
 intro pins s σ H Q I h
 refine wpAny_Call_Name_kw (ld_glob I hg hm ?_ hdb)
 refine PySem.W.callWith_K (h₀:=X.base) I.ok.mod.kin hk (thn (ha pos pins s σ H _ I h) λus s1 ⟨vs,H1,I1,r,q⟩=>⟨I1.kIn,?_⟩) he hpl
 exact run_fn F hr hb hd hx I1 r q
end
section
variable {X:Cx} {CX:CXT} {k:Nat} {f C:Addr} {fd:FuncData} {ps ks:List Str} {sp:Sp} {E:XK} {x m:Str} {p pos apos kpos:Pos} {e o:Expr} {es:List Expr} {kws:List Keyword} {te ta:TE} {t tk:TA} {nm:Option Str}
variable {g:List Value->List Value->List Value} {gV:List V->List V->List V}
end
structure FnScope (N P:List Str) (sc:Scope):Prop where
 kind:sc.kind=.function
 co:sc.isCoroutine=false
 gen:sc.isGenerator=false
 nd:N.Nodup
 pre:N.take P.length=P
 par:∀ x ∈ P,sc.names.lookup x=some .local\/sc.names.lookup x=some .cell
 nofree:∀ y ∈ sc.names,y.2 ≠ .free
theorem bindL_out {kindOf:Str->Option NameKind} {x:Str}:∀ {binds:List (Str × Value)} {m:Str->Option Value},(∀ v,(x,v) ∉ binds)->bindL kindOf binds m x=m x
 | [],_,_=>rfl
 | (n,v)::r,m,h=>by
  unfold bindL
  rw[bindL_out λw hw=>h w (List.mem_cons_of_mem _ hw)]
  split
  ·have:x ≠ n:=by rintro rfl; exact h v List.mem_cons_self
   simp[this]
  ·rfl
theorem bindC_out {kindOf:Str->Option NameKind} {x:Str}:∀ {binds:List (Str × Value)} {m:Str->Option Value},(∀ v,(x,v) ∉ binds)->bindC kindOf binds m x=m x
 | [],_,_=>rfl
 | (n,v)::r,m,h=>by
  unfold bindC
  rw[bindC_out λw hw=>h w (List.mem_cons_of_mem _ hw)]
  split
  ·rfl
  ·have:x ≠ n:=by rintro rfl; exact h v List.mem_cons_self
   simp[this]
theorem bindL_get {kindOf:Str->Option NameKind} {x:Str} {v:Value}:∀ {P:List Str} {vs:List Value} {i:Nat} {m:Str->Option Value},P.Nodup->P[i]?=some x->vs[i]?=some v->kindOf x=some .local ->
  bindL kindOf (P.zip vs) m x=some v
 | [],_,_,_,_,h,_,_=>by simp at h
 | _::_,[],_,_,_,_,h,_=>by simp at h
 | p::P,w::vs,0,m,nd,h1,h2,hk=>by
  simp at h1 h2; subst h1; subst h2
  show bindL kindOf ((p,w)::P.zip vs) m p=_
  unfold bindL
  rw[bindL_out λv hv=>(List.nodup_cons.mp nd).1 (List.of_mem_zip hv).1,if_pos hk]
  simp
 | p::P,w::vs,i+1,m,nd,h1,h2,hk=>by
  show bindL kindOf ((p,w)::P.zip vs) m x=_
  unfold bindL
  exact bindL_get (i:=i) (List.nodup_cons.mp nd).2 (by simpa using h1) (by simpa using h2) hk
theorem bindC_get {kindOf:Str->Option NameKind} {x:Str} {v:Value}:∀ {P:List Str} {vs:List Value} {i:Nat} {m:Str->Option Value},P.Nodup->P[i]?=some x->vs[i]?=some v->kindOf x ≠ some .local ->
  bindC kindOf (P.zip vs) m x=some v
 | [],_,_,_,_,h,_,_=>by simp at h
 | _::_,[],_,_,_,_,h,_=>by simp at h
 | p::P,w::vs,0,m,nd,h1,h2,hk=>by
  simp at h1 h2; subst h1; subst h2
  show bindC kindOf ((p,w)::P.zip vs) m p=_
  unfold bindC
  rw[bindC_out λv hv=>(List.nodup_cons.mp nd).1 (List.of_mem_zip hv).1,if_neg hk]
  simp
 | p::P,w::vs,i+1,m,nd,h1,h2,hk=>by
  show bindC kindOf ((p,w)::P.zip vs) m x=_
  unfold bindC
  exact bindC_get (i:=i) (List.nodup_cons.mp nd).2 (by simpa using h1) (by simpa using h2) hk
def start (N:List Str) (vs:List V):St:=vs.map some++List.replicate (N.length-vs.length) none
def cxOf (CX:CXT) (P:Program) (w:World) (K:PySem.W.Frag) (mg:Str->Option Value) (base:Heap) (N:List Str) (qual:Str) (scope:Scope) (f:Addr) (cd:Value) (A:Around) (outer:List Env) (s:Shared) (H:Hp) (E:XK):Cx where
 prog:=P
 w:=w
 K:=K
 mg:=mg
 base:=base
 A:=A.deeper (envOfC qual scope s.heap.objs.size f cd)
 N:=N
 s₀:=s
 H₀:=H
 env:=envOfC qual scope s.heap.objs.size f cd
 outer:=outer
 stack:=envOfC qual scope s.heap.objs.size f cd::outer
 ex:=[]
 calm:=true
 fn:=λ_=>true
 pn:=[]
 xe:=λe s'=>wpAny (model P w) (A.deeper (envOfC qual scope s.heap.objs.size f cd)) (leaving (envOfC qual scope s.heap.objs.size f cd) e) (λ_ s''=>CX outer H s E e s'') (λe' s''=>CX outer H s E e' s'') s'
theorem cell_has {sc:Scope} {n:Nat} {x:Str} (h:sc.names.lookup x=some .cell):∃ c,(cellsFrom n sc.names []).lookup x=some c:=by
 have q:=PySem.W.cellsFrom_some sc.names n [] (.inl h)
 exact Option.isSome_iff_exists.mp q
theorem inv_start {CX:CXT} {P:Program} {w:World} {K:PySem.W.Frag} {mg:Str->Option Value} {base:Heap} {N ps:List Str} {qual:Str} {scope:Scope} {f:Addr} {cd:Value} {A:Around} {outer:List Env} {s s1:Shared} {H:Hp} {E:XK} {us:List Value} {vs:List V}
  (S:FnScope N ps scope) (hd:A.handled=none) (e0:Env0 P w K mg base A outer s H) (hl:vs.length=ps.length) (r:Vals vs us)
  (x:InCallC s s.heap.objs.size (bindL (envOfC qual scope s.heap.objs.size f cd).kindOf (ps.zip us) λ_=>none) (cellsFrom (s.heap.objs.size+1) scope.names []) (bindC (envOfC qual scope s.heap.objs.size f cd).kindOf (ps.zip us) λ_=>none) s1) :
  Inv (cxOf CX P w K mg base N qual scope f cd A outer s H E) [] (start N vs) H s1:=by
 have hpl:ps.length<=N.length:=by have:=congrArg List.length S.pre; rw[List.length_take] at this; omega
 obtain⟨h1,tk,rfl,hk⟩:=x.done
 have noA:∀ b:Addr,b ∉ (cxOf CX P w K mg base N qual scope f cd A outer s H E).ex:=λb z=>absurd (show b ∈ ([]:List Addr) from z) (by simp)
 refine⟨⟨e0.mod,S.kind,rfl,rfl,Nat.le_refl _,λy z c h1 h2=>?_,λy hy=>?_,λy c _ h=>?_,λ_=>hd,Around.frames_deeper e0.frames,.inr ⟨rfl,rfl⟩,λb z=>absurd z (noA b),e0.bs,e0.bsz,λb _ _=>noA b,λb z=>absurd z (noA b),e0.funs,e0.frf⟩,
  rfl,e0.bare,Un.kept hk,⟨_,x.toInCall.ns,λi y v h1 h2 h3=>?_⟩,λy c h=>⟨_,x.cell y c h⟩,e0.hok.fresh (Nat.le_refl _),λy c h=>?_,λp hp=>absurd (show p ∈ ([]:List (Addr × Obj)) from hp) (by simp),e0.hok.kept hk,?_⟩
 ·exact name_of_addr x.apart (PySem.mem_of_lookup h1) (PySem.mem_of_lookup h2)
 ·have hy:scope.names.lookup y=some .cell\/scope.names.lookup y=some .free:=hy
  rcases hy with hy | hy
  ·exact cell_has hy
  ·exact absurd rfl (S.nofree _ (PySem.mem_of_lookup hy))
 ·exact Nat.le_of_lt (x.above y c (PySem.mem_of_lookup h))
 ·have hi:i<vs.length:=by
   unfold start at h2
   by_cases hi:i<vs.length
   ·exact hi
   ·rw[List.getElem?_append_right (by simpa using hi)] at h2
    rw[List.getElem?_replicate] at h2
    split at h2 <;> cases h2
  have ha:vs[i]?=some v:=by
   unfold start at h2
   rw[List.getElem?_append_left (by simpa using hi),List.getElem?_map] at h2
   cases e:vs[i]? with
   | none=>rw[e] at h2; cases h2
   | some a=>rw[e] at h2; cases h2; rfl
  obtain⟨u,hu,rv⟩:=r.get ha
  have hp:ps[i]?=some y:=by
   rw[<- S.pre,List.getElem?_take_of_lt (by omega)]; exact h1
  have ndP:ps.Nodup:=by rw[<- S.pre]; exact S.nd.sublist (List.take_sublist _ _)
  refine⟨u,rv,?_⟩
  rcases S.par y (List.mem_of_getElem? hp) with k | k
  ·exact .inl ⟨k,bindL_get ndP hp hu k⟩
  ·obtain⟨c,e⟩:=cell_has (n:=s.heap.objs.size+1) k
   refine .inr ⟨.inl k,c,e,?_⟩
   have q:=x.cell y c e
   rw[bindC_get ndP hp hu (by show scope.names.lookup y ≠ _; rw[k]; decide)] at q
   exact q
 ·exact e0.hok.fresh (Nat.le_of_lt (x.above y c (PySem.mem_of_lookup h)))
 ·unfold start
  show _=N.length
  rw[List.length_append,List.length_map,List.length_replicate]
  omega
theorem fn_of {CX:CXT} {P:Program} {w:World} {K:PySem.W.Frag} {mg:Str->Option Value} {base:Heap} {k:Nat} {f:Addr} {name qual:Str} {params:Arguments} {body:List Stmt} {scope:Scope} {dV kV doc pm cdv ct oc:Value} {an od:Option Addr}
  {osl:Array (Option Value)} {N ps:List Str} {sp:Sp} (lk:K.lookup f=some ⟨oc,od,.func (PySem.W.fnOf name qual params body scope dV kV doc pm an cdv ct),osl⟩) (hcd:PySem.W.codeIn K cdv qual=true) (S:FnScope N ps scope)
  (len:∀ vs H Q E,sp vs H Q E->vs.length=ps.length)
  (hbody:∀ (A:Around) (outer:List Env) (s:Shared) (H:Hp) (vs:List V) (Q:VK) (E:XK),Room k (A.deeper (envOfC qual scope s.heap.objs.size f cdv))->sp vs H Q E ->
   ∃ t,PSs (cxOf CX P w K mg base N qual scope f cdv A outer s H E) body t/\t { nx:=λ_ H'=>Q .non H',rt:=Q } (start N vs) H) :
  FnOk P w K mg base CX (k+1) f (PySem.W.fnOf name qual params body scope dV kV doc pm an cdv ct) ps sp:=by
 refine⟨len,λA outer s H args us vs Q E hr e0 hb r hsp=>?_⟩
 have hl:=len _ _ _ _ hsp
 have KX:K.In s.heap:=e0.mod.kin.keeps λb o e=>(e0.bs b o e).1
 have lim:s.heap.NoLimit:=e0.mod.nolimit.keeps λb o e=>(e0.bs b o e).1
 have hkind:∀ y ∈ ps.zip us,scope.names.lookup y.1=some .local\/(scope.names.lookup y.1=some .cell/\((cellsFrom (s.heap.objs.size+1) scope.names []).lookup y.1).isSome=true):=λ⟨n,v⟩ hy=>by
  rcases S.par n (List.of_mem_zip hy).1 with q | q
  ·exact .inl q
  ·exact .inr ⟨q,PySem.W.cellsFrom_some _ _ _ (.inl q)⟩
 refine codeAny_call_function hr.depth (KX _ _ lk) rfl S.co S.gen rfl (PySem.W.codeRec_of KX hcd) (hb _ _ _ _ ?_)
 refine wpAny_newFunctionEnv_cells S.kind hkind λenv he s1 x=>?_
 subst he
 refine⟨lim.keeps x.toInCall.keep,codeAny_func ?_⟩
 obtain⟨t,ht,hq⟩:=hbody A outer s H vs Q E (hr.deeper _) hsp
 have I:Inv (cxOf CX P w K mg base N qual scope f cdv A outer s H E) [] (start N vs) H s1:=inv_start S hr.hd e0 hl r x
 refine wpAny_mono (ht [] s1 (start N vs) H _ I hq) (λfl s' hs=>?_) λe s' hs=>hs
 have fin:∀ {σ':St} {H':Hp} {v:V} {u:Value},Inv (cxOf CX P w K mg base N qual scope f cdv A outer s H E) [] σ' H' s'->RelV v u->Q v H'->CE outer P w H s Q u s':=
  λ{σ' H' v u} J rv q=>⟨v,H',J.os,J.bare,J.base,J.hok,rv,q⟩
 cases fl with
 | ret u=>
  obtain⟨v,σ',H',J,rv,q⟩:=hs
  exact fin J rv q
 | next=>
  obtain⟨σ',H',J,q⟩:=hs
  exact fin (v:=V.non) (u:=Value.none) J rfl q
 | brk=>
  obtain⟨_,_,_,q⟩:=hs
  exact False.elim q
 | cont=>
  obtain⟨_,_,_,q⟩:=hs
  exact False.elim q
section
variable {X:Cx} {x:Str} {p pos:Pos} {e:Expr} {es:List Expr} {t:TA} {id T:String} {r:List V->Hp->VK->Prop}
def tCB (r:List V->Hp->VK->Prop) (t:TA):TE:=λσ H Q=>t σ H λvs H1=>r vs H1 Q
theorem pe_callB (hc:CallR X (.builtin id) r) (hg:Gl X x) (hm:X.mg x=none) (hv:bootBuiltins x=some (.builtin id)) (ha:PA X (e::es) t) (hn:x ≠ "__name__":=by decide) (hdb:(x==("__debug__" : Str))=false:=by decide)
  (he:starEach (e::es) X.env=(false,eval e X.env)::starEach es X.env:=by rfl) (hpl:(backTo pos (starEach es X.env)).any (·.1)=false:=by rfl):PE X (.Call (.Name x p) (e::es) [] pos) (tCB r t):=by
 intro pins s σ H Q I h
 refine wpAny_Call_Name_kw (ld_blt I hg hm hv ?_ hn hdb)
 exact PyProof.Rows.callWith_builtin1 (thn (ha pos pins s σ H _ I h) λus s1 ⟨vs,H1,I1,r1,q1⟩=>hc pins s1 σ H1 vs us Q I1 r1 q1) he hpl
theorem pe_callTy (hc:CallR X (.type T) r) (hg:Gl X x) (hm:X.mg x=none) (hv:bootBuiltins x=some (.type T)) (ha:PA X (e::es) t) (hn:x ≠ "__name__":=by decide) (hdb:(x==("__debug__" : Str))=false:=by decide)
  (he:starEach (e::es) X.env=(false,eval e X.env)::starEach es X.env:=by rfl) (hpl:(backTo pos (starEach es X.env)).any (·.1)=false:=by rfl):PE X (.Call (.Name x p) (e::es) [] pos) (tCB r t):=by
 intro pins s σ H Q I h
 refine wpAny_Call_Name_kw (ld_blt I hg hm hv ?_ hn hdb)
 exact PyProof.Rows.callWith_type1 (thn (ha pos pins s σ H _ I h) λus s1 ⟨vs,H1,I1,r1,q1⟩=>hc pins s1 σ H1 vs us Q I1 r1 q1) he hpl
end
end L2
namespace HT
open PySem PyProof.Rows
section
open PySem.SeqAt
open PySem.AutoSeq1 (wpAny_loadPart')
open PySem.MeetsSeq PySem.MeetsSeq2 PySem.MeetsSeq3
end
section
variable {prog:Program} {w:World} {A:Around} {E:Value->Shared->Prop} {s:Shared}
def sIx (n d:Nat):Option Int->Nat
 | none=>d
 | some v=>if v<0 then (v+(n:Int)).toNat else min v.toNat n
theorem sIx_le (n d:Nat) (hd:d<=n) (o:Option Int):sIx n d o<=n:=by
 cases o with
 | none=>exact hd
 | some v=>
  show (if v<0 then (v+(n:Int)).toNat else min v.toNat n)<=n
  by_cases hv:v<0
  ·rw[if_pos hv]; omega
  ·rw[if_neg hv]; exact Nat.min_le_right _ _
theorem clip_eq (v:Int) (n d:Nat):(if v<0 then max (v+(n:Int)) 0 else min v (n:Int))=((sIx n d (some v):Nat):Int):=by
 show (if v<0 then max (v+(n:Int)) 0 else min v (n:Int))=(((if v<0 then (v+(n:Int)).toNat else min v.toNat n):Nat):Int)
 by_cases hv:v<0
 ·simp only[if_pos hv]; omega
 ·simp only[if_neg hv]; omega
theorem adjust_gen (lo hi:Option Int) (n:Nat):Builtin.Slice.sliceAdjust lo hi 1 (n:Int)=(((sIx n 0 lo:Nat):Int),((sIx n n hi:Nat):Int)):=by
 have h1:¬ ((1:Int)<0):=by omega
 unfold Builtin.Slice.sliceAdjust
 simp only[h1,if_false]
 refine Prod.ext ?_ ?_
 ·cases lo with
  | none=>rfl
  | some v=>exact clip_eq v n 0
 ·cases hi with
  | none=>rfl
  | some v=>exact clip_eq v n n
theorem places_gen (i j:Nat):Builtin.Slice.slicePlaces (i:Int) (j:Int) 1=j-i:=by
 unfold Builtin.Slice.slicePlaces
 have h1:(1:Int) > 0:=by omega
 simp only[h1,if_true,Int.ediv_one]
 split <;> omega
theorem slicePart_ {v:Value} {o:Option Int} {Q:Option Int->Shared->Prop} (p:IsPart v o) (h:Q o s):wpAny (model prog w) A (Builtin.Slice.slicePartIndex v) Q E s:=by
 cases p with
 | none=>exact slicePart_none h
 | int i t=>exact slicePart_int h
theorem sliceApplied_gen {sl:Addr} {vl vu:Value} {lo hi:Option Int} {n:Nat} {Q:Int × Int × Nat->Shared->Prop} (hs:s.heap.IsSliceOf sl vl vu .none) (pl:IsPart vl lo) (pu:IsPart vu hi)
  (h:Q (((sIx n 0 lo:Nat):Int),1,sIx n n hi-sIx n 0 lo) s):wpAny (model prog w) A (Builtin.Slice.sliceApplied (.ref sl) (pure (n:Int))) Q E s:=by
 obtain⟨os,hos,hcs,hds⟩:=id hs
 unfold Builtin.Slice.sliceApplied Builtin.Slice.sliceFields
 refine wpAny_bind (wpAny_bind (wpAny_field hos hds (x:=vl) rfl (wpAny_bind (wpAny_field hos hds (x:=vu) rfl (wpAny_bind (wpAny_field hos hds (x:=.none) rfl (wpAny_pure ?_)))))))
 refine wpAny_bind (slicePart_none ?_)
 show wpAny _ _ (if ((1:Int)==0)=true then _ else _) _ _ s
 rw[if_neg (by decide)]
 refine wpAny_bind (slicePart_ pl (wpAny_bind (slicePart_ pu (wpAny_bind (wpAny_pure ?_)))))
 show wpAny _ _ (match Builtin.Slice.sliceAdjust lo hi 1 (n:Int) with | (lo,hi)=>pure (lo,(1:Int),Builtin.Slice.slicePlaces lo hi 1)) _ _ s
 rw[adjust_gen lo hi n]
 show wpAny _ _ (pure (((sIx n 0 lo:Nat):Int),(1:Int),Builtin.Slice.slicePlaces ((sIx n 0 lo:Nat):Int) ((sIx n n hi:Nat):Int) 1)) _ _ s
 rw[places_gen]
 exact wpAny_pure h
theorem pick_gen (xs:Array Value) (i k:Nat):((List.range k).filterMap λ(m:Nat)=>xs[((i:Int)+(m:Int)*1).toNat]?).toArray=((xs.toList.drop i).take k).toArray:=by
 have e:(λ(m:Nat)=>xs[((i:Int)+(m:Int)*1).toNat]?)=λm=>xs[i+m]?:=by
  funext m
  have:((i:Int)+(m:Int)*1).toNat=i+m:=by omega
  rw[this]
 rw[e]
 have:=pick_run xs i k
 rw[List.filterMap_map] at this
 have e2:((λx=>xs[x]?) ∘ λx=>i+x)=λm=>xs[i+m]?:=rfl
 rw[e2] at this
 rw[this]
theorem getItem_tuple_cut {t sl:Addr} {items:Array Value} {vl vu:Value} {lo hi:Option Int} {Q:Value->Shared->Prop} (ht:IsTup s.heap t items) (hs:s.heap.IsSliceOf sl vl vu .none) (pl:IsPart vl lo) (pu:IsPart vu hi)
  (hw:¬ (sIx items.size 0 lo=0/\sIx items.size items.size hi=items.size))
  (h:Q (.ref s.heap.objs.size) { s with heap:=s.heap.push { cls:=.type "tuple",data:=.seq ((items.toList.drop (sIx items.size 0 lo)).take (sIx items.size items.size hi-sIx items.size 0 lo)).toArray } })
  (hsz:items.size<=sizeLine):wpAny (model prog w) A (getItem (.ref t) (.ref sl)) Q E s:=by
 have htake:sizeOk (.seq ((items.toList.drop (sIx items.size 0 lo)).take (sIx items.size items.size hi-sIx items.size 0 lo)).toArray):=by
  show ((items.toList.drop (sIx items.size 0 lo)).take (sIx items.size items.size hi-sIx items.size 0 lo)).toArray.size<=sizeLine
  rw[List.size_toArray,List.length_take,List.length_drop,Array.length_toList]
  omega
 have hj:sIx items.size items.size hi<=items.size:=sIx_le _ _ (Nat.le_refl _) hi
 obtain⟨os,hos,hcs,hds⟩:=id hs
 have hTs:s.TypeIs (.ref sl) "slice" := ⟨os,hos,hcs⟩
 unfold getItem
 try with_reducible refine wpAny_holding ?_
 first | refine wpAny_bind (wpAny_pure ?_) | skip
 refine wpAny_bind (wpAny_sequenceKey ht.typeIs (by decide) ?_)
 refine wpAny_bind (wpAny_callSpecial?_slot (name:=Str.ofString "__getitem__") ht.typeIs PyProof.Rows.slot_tuple_getitem
  (wpAny_call_entry PyProof.Rows.slot_tuple_getitem ht.typeIs entry_tuple_getitem ?_ (args_tuple_getitem _ _)))
 show wpAny _ _ (Builtin.Tuple.tupleItemsOf (.ref t) >>= _) _ _ s
 refine wpAny_bind (tupleItemsOf_ ht ?_)
 refine wpAny_bind (wpAny_typeOf hTs ?_)
 rw[if_pos (by decide)]
 refine wpAny_bind (sliceApplied_gen hs pl pu ?_)
 have hno:¬ ((((sIx items.size 0 lo:Nat):Int)==0&&(1:Int)==1&&(sIx items.size items.size hi-sIx items.size 0 lo)==items.size)=true):=by
  intro q
  rw[Bool.and_eq_true,Bool.and_eq_true] at q
  have q1:((sIx items.size 0 lo:Nat):Int)=0:=eq_of_beq q.1.1
  have q2:sIx items.size items.size hi-sIx items.size 0 lo=items.size:=eq_of_beq q.2
  exact hw ⟨by omega,by omega⟩
 show wpAny _ _ (if (((sIx items.size 0 lo:Nat):Int)==0&&(1:Int)==1&&(sIx items.size items.size hi-sIx items.size 0 lo)==items.size)=true then _ else _) _ _ s
 rw[if_neg hno,pick_gen]
 first
  | exact wpAny_bind (m:=Builtin.Tuple.tupleExact _) (wpAny_newObj_type (wpAny_pure ⟨_,rfl,wpAny_pure h⟩) htake)
  | exact wpAny_bind (m:=Builtin.Tuple.tupleExact _) (wpAny_newObj_type (wpAny_bind (wpAny_pure (wpAny_pure ⟨_,rfl,wpAny_pure h⟩))) htake)
  | exact wpAny_bind (wpAny_bind (m:=Builtin.Tuple.tupleExact _) (wpAny_newObj_type (wpAny_pure (wpAny_pure ⟨_,rfl,wpAny_pure h⟩)) htake))
  | exact wpAny_bind (wpAny_bind (m:=Builtin.Tuple.tupleExact _) (wpAny_newObj_type (wpAny_pure ⟨_,rfl,wpAny_pure h⟩) htake))
end
end HT
namespace L2
open PySem PySem.Spec PyProof.Rows
abbrev TO:=St->Hp->(Option Int->Hp->Prop)->Prop
def PO (X:Cx) (e:Option Expr) (t:TO):Prop:=
 ∀ (pins:List (Addr × Obj)) (s:Shared) (σ:St) (H:Hp) (Q:Option Int->Hp->Prop),Inv X pins σ H s->t σ H Q ->
  wpAny (model X.prog X.w) X.A (evalPart e X.env) (λu s'=>∃ o H',Inv X pins σ H' s'/\IsPart u o/\Q o H') X.xe s
def tNoPart:TO:=λ_ H Q=>Q none H
def tPart (t:TE):TO:=λσ H Q=>t σ H λx H1=>∃ i,x=.int i/\Q (some i) H1
section
variable {X:Cx} {e:Expr} {te:TE} {lo hi:Option Expr} {tl th:TO} {pos p2:Pos}
theorem po_none:PO X none tNoPart:=by
 intro pins s σ H Q I h
 rw[evalPart_none]
 exact wpAny_pure ⟨none,H,I,.none,h⟩
theorem po_some (h:PE X e te):PO X (some e) (tPart te):=by
 intro pins s σ H Q I hw
 rw[evalPart_some]
 refine thn (h pins s σ H _ I hw) λu s1 ⟨x,H1,I1,r1,q1⟩=>?_
 obtain⟨i,rfl,q⟩:=q1
 obtain⟨t,rfl⟩:=r1
 exact⟨some i,H1,I1,.int i t,q⟩
def SlR (X:Cx) (r:V->Option Int->Option Int->Hp->VK->Prop):Prop:=
 ∀ (pins:List (Addr × Obj)) (s:Shared) (σ:St) (H:Hp) (x:V) (v vl vu:Value) (lo hi:Option Int) (sl:Addr) (Q:VK),Inv X pins σ H s->RelV x v->s.heap.IsSliceOf sl vl vu .none->IsPart vl lo->IsPart vu hi->r x lo hi H Q ->
  ∃ T id,typeLookup (.type T) "__getitem__" = pure (some (.builtin id))/\s.TypeIs v T/\wpAny (model X.prog X.w) X.A (getItem v (.ref sl)) (EP X pins σ Q) X.xe s
theorem SlR.or {r r':V->Option Int->Option Int->Hp->VK->Prop} (h:SlR X r) (h':SlR X r'):SlR X (λx lo hi H Q=>r x lo hi H Q\/r' x lo hi H Q):=by
 intro pins s σ H x v vl vu lo hi sl Q I rx hs pl pu q
 rcases q with q | q
 ·exact h pins s σ H x v vl vu lo hi sl Q I rx hs pl pu q
 ·exact h' pins s σ H x v vl vu lo hi sl Q I rx hs pl pu q
def tSl (r:V->Option Int->Option Int->Hp->VK->Prop) (te:TE) (tl th:TO):TE:=λσ H Q=>te σ H λx H1=>tl σ H1 λl H2=>th σ H2 λu H3=>r x l u H3 Q
theorem pe_slice {r:V->Option Int->Option Int->Hp->VK->Prop} (hr:SlR X r) (he:PE X e te) (hl:PO X lo tl) (hu:PO X hi th):PE X (.Subscript e (.Slice lo hi none p2) pos) (tSl r te tl th):=by
 intro pins s σ H Q I h
 refine Subscript_ (thn (he pins s σ H _ I h) λv s1 ⟨x,H1,I1,r1,q1⟩=>?_)
 refine wpAny_Slice (thn (hl pins s1 σ H1 _ I1 q1) λvl s2 ⟨l,H2,I2,pl,q2⟩=>thn (hu pins s2 σ H2 _ I2 q2) λvu s3 ⟨u,H3,I3,pu,q3⟩=>?_)
 rw[evalPart_none]
 refine wpAny_pure ?_
 have I4:Inv X pins σ H3 { s3 with heap:=s3.heap.push { cls:=.type "slice",data:=.fields #[vl,vu,.none] } }:=I3.kept (t':=s3.toks) λb ob q=>Heap.get?_push_of_some _ q
 obtain⟨T,id,hT,ht,hg⟩:=hr pins { s3 with heap:=s3.heap.push { cls:=.type "slice",data:=.fields #[vl,vu,.none] } } σ H3 x v vl vu l u s3.heap.objs.size Q I4 r1 (Heap.IsSliceOf.new ..) pl pu q3
 show wpAny (model X.prog X.w) X.A (subscriptTail e (.Slice lo hi none p2) v (.ref s3.heap.objs.size)) (EP X pins σ Q) X.xe { s3 with heap:=s3.heap.push { cls:=.type "slice",data:=.fields #[vl,vu,.none] } }
 exact tail_any (ops:=[.ref s3.heap.objs.size,v]) ht hT hg (by with_unfolding_all rfl)
def cutV (xs:List V) (lo hi:Option Int):List V:=(xs.drop (HT.sIx xs.length 0 lo)).take (HT.sIx xs.length xs.length hi-HT.sIx xs.length 0 lo)
theorem cutV_length (xs:List V) (lo hi:Option Int):(cutV xs lo hi).length<=xs.length:=by
 unfold cutV
 rw[List.length_take,List.length_drop]
 omega
def rSlT (K:PySem.W.Frag):V->Option Int->Option Int->Hp->VK->Prop:=λx lo hi H Q=>∃ a xs,x=.ref a/\SqT K H a xs /\
 ¬ (HT.sIx xs.length 0 lo=0/\HT.sIx xs.length xs.length hi=xs.length)/\∀ p,H p=none->Q (.ref p) (upd H p (.tup (cutV xs lo hi)))
theorem sl_tup:SlR X (rSlT X.K):=by
 intro pins s σ H x v vl vu lo hi sl Q I rx hs pl pu h
 obtain⟨a,xs,rfl,hx,hw,q⟩:=h
 cases rx
 obtain⟨its,r,ht,hz⟩:=I.tuple hx
 have hlen:its.toArray.size=xs.length:=by rw[List.size_toArray]; exact r.length.symm
 refine⟨"tuple",_,PyProof.Rows.slot_tuple_getitem.lookup,ht.typeIs,?_⟩
 refine HT.getItem_tuple_cut ht hs pl pu (by rw[hlen]; exact hw) ?_ (by rw[hlen]; exact hz)
 rw[hlen]
 refine⟨.ref s.heap.objs.size,_,I.laid (t':=s.toks) (o:=.tup (cutV xs lo hi)) (λb ob q=>Heap.get?_push_of_some _ q) (Nat.le_refl _) ?_,rfl,q _ (I.hok.fresh (Nat.le_refl _))⟩
 exact⟨Nat.le_trans (cutV_length xs lo hi) hz,⟨_,(r.drop (HT.sIx xs.length 0 lo)).take (HT.sIx xs.length xs.length hi-HT.sIx xs.length 0 lo),IsTup.new _ _⟩,λo q=>by rw[Heap.get?_push_size _ rfl] at q; cases q; rfl⟩
end
def ixN (n:Nat) (i:Int):Option Nat:=if 0<=i then (if i<n then some i.toNat else none) else if -(n:Int)<=i then some (i+n).toNat else none
def atI {α:Type} (xs:List α) (i:Int):Option α:=(ixN xs.length i).bind λj=>xs[j]?
theorem ixN_seq {n:Nat} {i:Int} {j:Nat} (h:ixN n i=some j):seqIndex? i n=some j/\j<n/\-(n:Int)<=i/\i<n:=by
 unfold ixN at h
 by_cases h0:0<=i
 ·rw[if_pos h0] at h
  by_cases h1:i<n
  ·rw[if_pos h1] at h
   have e:i.toNat=j:=Option.some.inj h
   exact⟨by rw[seqIndex_of h0 h1,e],by omega,by omega,h1⟩
  ·rw[if_neg h1] at h; cases h
 ·rw[if_neg h0] at h
  by_cases h1 : -(n:Int)<=i
  ·rw[if_pos h1] at h
   have e:(i+n).toNat=j:=Option.some.inj h
   exact⟨by rw[seqIndex_neg (by omega) h1,e],by omega,h1,by omega⟩
  ·rw[if_neg h1] at h; cases h
theorem atI_get {α:Type} {xs:List α} {i:Int} {v:α} (h:atI xs i=some v):∃ j,seqIndex? i xs.length=some j/\xs[j]?=some v/\j<xs.length/\-(xs.length:Int)<=i/\i<xs.length:=by
 unfold atI at h
 cases e:ixN xs.length i with
 | none=>rw[e] at h; cases h
 | some j=>
  rw[e] at h
  obtain⟨h1,h2,h3,h4⟩:=ixN_seq e
  exact⟨j,h1,h,h2,h3,h4⟩
def PlainIx (b:Expr):Prop:=∀ o i,subscripted b false o i=operate [o,i] (getItem o i)
def IxR (X:Cx) (r:R2):Prop:=
 ∀ (value slice:Expr) (pins:List (Addr × Obj)) (s:Shared) (σ:St) (H:Hp) (x y:V) (v u:Value) (Q:VK),Inv X pins σ H s->RelV x v->RelV y u->r x y H Q ->
  subscripted slice false v u=operate [v,u] (getItem v u)->wpAny (model X.prog X.w) X.A (subscriptTail value slice v u) (EP X pins σ Q) X.xe s
def MtR (X:Cx) (id:String) (r:V->List V->Hp->VK->Prop):Prop:=
 ∀ (pins:List (Addr × Obj)) (s:Shared) (σ:St) (H:Hp) (x:V) (xs:List V) (v:Value) (us:List Value) (Q:VK),Inv X pins σ H s->RelV x v->Vals xs us->r x xs H Q ->
  wpAny (model X.prog X.w) X.A (call (.builtin id) (v::us)) (EP X pins σ Q) X.xe s
section
variable {X:Cx} {a b:Expr} {ta tb:TE} {pos:Pos}
theorem IxR.or {r r':R2} (h:IxR X r) (h':IxR X r'):IxR X (λx y H Q=>r x y H Q\/r' x y H Q):=by
 intro value slice pins s σ H x y v u Q I rx ry q hs
 rcases q with q | q
 ·exact h value slice pins s σ H x y v u Q I rx ry q hs
 ·exact h' value slice pins s σ H x y v u Q I rx ry q hs
theorem pe_ix {r:R2} (hr:IxR X r) (ha:PE X a ta) (hb:PE X b tb) (hs:PlainIx b):PE X (.Subscript a b pos) (tOp r ta tb):=by
 intro pins s σ H Q I h
 exact Subscript_ (binT ha hb I h λv u s2 x y H2 I2 rx ry q=>hr a b pins s2 σ H2 x y v u Q I2 rx ry q (hs _ _))
def rIxL (K:PySem.W.Frag):R2:=λx y H Q=>∃ p xs i v,x=.ref p/\y=.int i/\SqL K H p xs/\atI xs i=some v/\Q v H
def rIxT (K:PySem.W.Frag):R2:=λx y H Q=>∃ p xs i v,x=.ref p/\y=.int i/\SqT K H p xs/\atI xs i=some v/\Q v H
def rIxS:R2:=λx y H Q=>∃ z i c,x=.str z/\y=.int i/\z.length<=sizeLine/\atI z.cps.toList i=some c/\Q (.str ⟨#[c]⟩) H
theorem ix_list:IxR X (rIxL X.K):=by
 intro value slice pins s σ H x y v u Q I rx ry h hs
 obtain⟨p,xs,i,z,rfl,rfl,hq,he,q⟩:=h
 cases rx
 obtain⟨t,rfl⟩:=ry
 obtain⟨its,r,pl,hz⟩:=I.list hq
 obtain⟨j,h1,h2,h3,h4,h5⟩:=atI_get he
 obtain⟨w,ew,rw'⟩:=r.get h2
 have hl:=r.length
 have hn:=line63
 have fin:EP X pins σ Q w s:=⟨z,H,I,rw',q⟩
 by_cases h0:0<=i
 ·have hj:i.toNat=j:=by
   rw[seqIndex_of h0 h5] at h1
   exact Option.some.inj h1
  exact item_listR pl.isList h0 (by omega) (by rw[hj]; simpa using ew) fin hs
 ·have hj:(i+(its.toArray.size:Int)).toNat=j:=by
   rw[seqIndex_neg (by omega) h4] at h1
   rw[List.size_toArray,<- hl]
   exact Option.some.inj h1
  exact subscriptTail_builtinR (x:=w) pl.isList.typeIs slot_list_getitem.lookup
   (wpAny_getItem_list_neg (Q:=λr s'=>r=w/\EP X pins σ Q r s') pl.isList (by omega) (by rw[List.size_toArray] <;> omega) (by omega) (by rw[hj]; simpa using ew) ⟨rfl,fin⟩) hs
theorem ix_tup:IxR X (rIxT X.K):=by
 intro value slice pins s σ H x y v u Q I rx ry h hs
 obtain⟨p,xs,i,z,rfl,rfl,hq,he,q⟩:=h
 cases rx
 obtain⟨t,rfl⟩:=ry
 obtain⟨its,r,pl,hz⟩:=I.tuple hq
 obtain⟨j,h1,h2,h3,h4,h5⟩:=atI_get he
 obtain⟨w,ew,rw'⟩:=r.get h2
 have hl:=r.length
 have hn:=line63
 have fin:EP X pins σ Q w s:=⟨z,H,I,rw',q⟩
 exact subscriptTail_builtinR (x:=w) pl.typeIs slot_tuple_getitem.lookup
  (getItem_tuple (j:=j) (Q:=λr s'=>r=w/\EP X pins σ Q r s') pl (by omega) (by omega) (by rw[List.size_toArray,<- hl]; exact h1) (by simpa using ew) ⟨rfl,fin⟩) hs
theorem ix_str:IxR X rIxS:=by
 intro value slice pins s σ H x y v u Q I rx ry h hs
 obtain⟨z,i,c,rfl,rfl,hz,he,q⟩:=h
 obtain⟨t,rfl⟩:=rx
 obtain⟨t',rfl⟩:=ry
 obtain⟨j,h1,h2,h3,h4,h5⟩:=atI_get he
 have hl:z.cps.toList.length=z.length:=by simp[Str.length]
 rw[hl] at h1 h4 h5
 have hn:=line63
 exact tail_any (typeIs_str s z t) slot_str_getitem.lookup (getItem_str (c:=c) (by
  have e1:decide (i < -(2 ^ 63:Int))=false:=decide_eq_false (by omega)
  have e2:decide (i>=2 ^ 63)=false:=decide_eq_false (by omega)
  rw[e1,e2,Bool.or_false]) (by rw[h1]; simpa using h2) ⟨.str ⟨#[c]⟩,H,I.tok _,⟨_,rfl⟩,q⟩) hs
def rIx (K:PySem.W.Frag):R2:=λx y H Q=>rIxL K x y H Q\/rIxT K x y H Q\/rIxS x y H Q
theorem ix_seq:IxR X (rIx X.K):=ix_list.or (ix_tup.or ix_str)
theorem mapSeq_set (its:List Value) (n j:Nat) (u:Value):Obj.mapSeq (·.setIfInBounds j u) { cls:=.type "list",data:=.seq its.toArray n }={ cls:=.type "list",data:=.seq (its.set j u).toArray n }:=by
 simp[Obj.mapSeq]
theorem Inv.lst {pins:List (Addr × Obj)} {σ:St} {H:Hp} {s:Shared} {p:Addr} {xs:List V} (I:Inv X pins σ H s) (h:H p=some (.lst xs)) :
  ∃ (its:List Value) (n:Nat),Vals xs its/\s.heap.get? p=some { cls:=.type "list",data:=.seq its.toArray n }/\xs.length<=sizeLine:=by
 obtain⟨z,its,n,r,e⟩:=I.hok p _ h
 exact⟨its,n,r,e,z⟩
theorem Inv.lstUpd {pins:List (Addr × Obj)} {σ:St} {H:Hp} {s:Shared} {p:Addr} {xs ys:List V} {its its':List Value} {n n':Nat} {f:Obj->Obj} (I:Inv X pins σ H s) (h:H p=some (.lst xs))
  (ho:s.heap.get? p=some { cls:=.type "list",data:=.seq its.toArray n }) (hf:f { cls:=.type "list",data:=.seq its.toArray n }={ cls:=.type "list",data:=.seq its'.toArray n' }) (r:Vals ys its') (hz:ys.length<=sizeLine) (t:Nat) :
  Inv X pins σ (upd H p (.lst ys)) { s with heap:=s.heap.update p f,toks:=t }:=by
 have e:(s.heap.update p f).get? p=some { cls:=.type "list",data:=.seq its'.toArray n' }:=by
  rw[Heap.get?_update_self f ho (by rw[hf] <;> rfl),hf]
 refine I.write (x:=p) (e:=p) (by rw[h]; trivial) (.inl rfl) (λb u hb q=>(Heap.get?_update_other _ _ (Ne.symm hb)).trans q) ⟨_,e⟩ ?_
 exact⟨hz,its',n',r,e⟩
def rSetL:V->V->V->Hp->(Hp->Prop)->Prop:=λo i v H Q=>∃ p xs k j,o=.ref p/\i=.int k/\H p=some (.lst xs)/\ixN xs.length k=some j/\Q (upd H p (.lst (xs.set j v)))
theorem set_list:PSet X rSetL:=by
 intro pins s σ H o i v ov iv u Q I ro ri rv h
 obtain⟨p,xs,k,j,rfl,rfl,hp,hj,q⟩:=h
 cases ro
 obtain⟨t,rfl⟩:=ri
 obtain⟨its,n,r,ho,hz⟩:=I.lst hp
 obtain⟨h1,h2,h3,h4⟩:=ixN_seq hj
 have hl:=r.length
 have hn:=line63
 have I':Inv X pins σ (upd H p (.lst (xs.set j v))) { s with heap:=s.heap.update p (Obj.mapSeq (·.setIfInBounds j u)) }:=
  I.lstUpd hp ho (mapSeq_set its n j u) (r.set rv j) (by rw[List.length_set]; exact hz) s.toks
 by_cases h0:0<=k
 ·have hk:k.toNat=j:=by
   rw[seqIndex_of h0 h4] at h1
   exact Option.some.inj h1
  exact PySem.W.ki_setAt ho h0 (by omega) (by rw[List.size_toArray,<- hl]; exact h4) (by rw[hk]; exact⟨_,I',q⟩)
 ·have hk:(k+(its.toArray.size:Int)).toNat=j:=by
   rw[seqIndex_neg (by omega) h3] at h1
   rw[List.size_toArray,<- hl]
   exact Option.some.inj h1
  exact PySem.W.ki_setBack ho (by omega) (by rw[List.size_toArray,<- hl]; exact h3) (by omega) (by rw[hk]; exact⟨_,I',q⟩)
theorem slice_bounds (lo hi:Option Int) (n:Nat):(sliceBounds lo hi none n).1=((HT.sIx n 0 lo:Nat):Int)/\(sliceBounds lo hi none n).2.1=((HT.sIx n n hi:Nat):Int)/\(sliceBounds lo hi none n).2.2=1:=by
 refine⟨?_,?_,rfl⟩
 ·cases lo with
  | none=>simp[sliceBounds,HT.sIx]
  | some i=>
   simp only[sliceBounds,HT.sIx,Option.getD_none,show (1:Int) > 0 by decide,if_true]
   by_cases h:i<0
   ·simp only[h,if_true] <;> omega
   ·simp only[h,if_false] <;> omega
 ·cases hi with
  | none=>simp[sliceBounds,HT.sIx]
  | some i=>
   simp only[sliceBounds,HT.sIx,Option.getD_none,show (1:Int) > 0 by decide,if_true]
   by_cases h:i<0
   ·simp only[h,if_true] <;> omega
   ·simp only[h,if_false] <;> omega
theorem slicePick_cut (its:List Value) (lo hi:Option Int):slicePick its.toArray lo hi none=((its.drop (HT.sIx its.length 0 lo)).take (HT.sIx its.length its.length hi-HT.sIx its.length 0 lo)).toArray:=by
 obtain⟨h1,h2,h3⟩:=slice_bounds lo hi its.toArray.size
 unfold slicePick
 rw[h1,h2,h3]
 simp only[sliceRange_one,pick_run,List.size_toArray] <;> rfl
def rSlL (K:PySem.W.Frag):V->Option Int->Option Int->Hp->VK->Prop:=λx lo hi H Q=>∃ a xs,x=.ref a/\SqL K H a xs/\∀ p,H p=none->Q (.ref p) (upd H p (.lst (cutV xs lo hi)))
theorem sl_list:SlR X (rSlL X.K):=by
 intro pins s σ H x v vl vu lo hi sl Q I rx hs pl pu h
 obtain⟨a,xs,rfl,hx,q⟩:=h
 cases rx
 obtain⟨its,r,ht,hz⟩:=I.list hx
 have hlen:=r.length
 refine⟨"list",_,slot_list_getitem.lookup,ht.isList.typeIs,?_⟩
 refine wpAny_getItem_list_slice ht.isList hs pl pu .none (by simp) ?_ (by rw[List.size_toArray] <;> omega)
 rw[slicePick_cut,<- hlen]
 refine⟨.ref s.heap.objs.size,_,I.laid (t':=s.toks) (o:=.lst (cutV xs lo hi)) (λb ob q=>Heap.get?_push_of_some _ q) (Nat.le_refl _) ?_,rfl,q _ (I.hok.fresh (Nat.le_refl _))⟩
 exact⟨Nat.le_trans (cutV_length xs lo hi) hz,_,0,(r.drop (HT.sIx xs.length 0 lo)).take (HT.sIx xs.length xs.length hi-HT.sIx xs.length 0 lo),Heap.get?_push_size _ rfl⟩
theorem call_len_seq:CallR X (.builtin "len") (λxs H Q=>∃ p ys,xs=[.ref p]/\(SqL X.K H p ys\/SqT X.K H p ys)/\Q (.int ys.length) H):=by
 intro pins s σ H xs us Q I r h
 obtain⟨p,ys,rfl,hq,q⟩:=h
 obtain⟨u,rfl,rx⟩:=vals1 r
 cases rx
 have hn:=line63
 rcases hq with hq | hq
 ·obtain⟨its,r',pl,hz⟩:=I.list hq
  have hlen:=r'.length
  exact Calls.call_len_list pl.isList (by simp only[List.size_toArray] <;> omega) ⟨.int ys.length,H,I.tok _,⟨s.toks+1,by rw[List.size_toArray,hlen]⟩,q⟩
 ·obtain⟨its,r',pl,hz⟩:=I.tuple hq
  have hlen:=r'.length
  exact len_tuple pl (by simp only[List.size_toArray] <;> omega) ⟨.int ys.length,H,I.tok _,⟨s.toks+1,by rw[List.size_toArray,hlen]⟩,q⟩
theorem call_list_of:CallR X (.type "list") (λxs H Q=>∃ p ys,xs=[.ref p]/\(SqL X.K H p ys\/SqT X.K H p ys)/\∀ l,H l=none->Q (.ref l) (upd H l (.lst ys))):=by
 intro pins s σ H xs us Q I r h
 obtain⟨p,ys,rfl,hq,q⟩:=h
 obtain⟨u,rfl,rx⟩:=vals1 r
 cases rx
 have fin:∀ (its:List Value),Vals ys its->ys.length<=sizeLine->∀ (h':Heap) (c':Nat),(∀ b o',s.heap.get? b=some o'->h'.get? b=some o') ->
   h'.get? s.heap.objs.size=some { cls:=.type "list",dict:=none,data:=.seq its.toArray c',slots:=#[] }->EP X pins σ Q (.ref s.heap.objs.size) { s with heap:=h' }:=λits r' hz h' c' kp e=>
  ⟨.ref s.heap.objs.size,_,I.laid (t':=s.toks) kp (Nat.le_refl _) (show ObjOk X.prog X.w _ h' _ (.lst ys) from ⟨hz,its,c',r',e⟩),rfl,q _ (I.hok.fresh (Nat.le_refl _))⟩
 rcases hq with hq | hq
 ·obtain⟨its,r',pl,hz⟩:=I.list hq
  have hlen:=r'.length
  obtain⟨o,ho,hc,n,hd⟩:=pl.isList
  exact call_list_seq p (.inl rfl) ho hc hd (λh' c' kp e=>fin its r' hz h' c' kp e) (by simp only[List.size_toArray] <;> omega)
 ·obtain⟨its,r',pl,hz⟩:=I.tuple hq
  have hlen:=r'.length
  obtain⟨o,ho,hc,n,hd⟩:=pl
  exact call_list_seq p (.inr rfl) ho hc hd (λh' c' kp e=>fin its r' hz h' c' kp e) (by simp only[List.size_toArray] <;> omega)
theorem call_tuple_of:CallR X (.type "tuple") (λxs H Q=>∃ p ys,xs=[.ref p]/\((SqL X.K H p ys/\∀ l,H l=none->Q (.ref l) (upd H l (.tup ys)))\/(SqT X.K H p ys/\Q (.ref p) H))):=by
 intro pins s σ H xs us Q I r h
 obtain⟨p,ys,rfl,h⟩:=h
 obtain⟨u,rfl,rx⟩:=vals1 r
 cases rx
 rcases h with⟨hq,q⟩ | ⟨hq,q⟩
 ·obtain⟨its,r',pl,hz⟩:=I.list hq
  have hlen:=r'.length
  refine call_tuple_list pl.isList (λh' kp=>?_) (by simp only[List.size_toArray] <;> omega)
  have I1:Inv X pins σ H { s with heap:=h' }:=I.kept (t':=s.toks) kp
  have I2:Inv X pins σ (upd H h'.objs.size (.tup ys)) { s with heap:=h'.push { cls:=.type "tuple",data:=.seq its.toArray } }:=
   I1.laid (t':=s.toks) (λb o e=>Heap.get?_push_of_some _ e) (Nat.le_refl _) (show ObjOk X.prog X.w _ _ _ (.tup ys) from ⟨hz,⟨its,r',IsTup.new _ _⟩,λo q=>by rw[Heap.get?_push_size _ rfl] at q; cases q; rfl⟩)
  exact⟨.ref h'.objs.size,_,I2,rfl,q _ (I1.hok.fresh (Nat.le_refl _))⟩
 ·obtain⟨its,r',pl,hz⟩:=I.tuple hq
  exact call_tuple_same pl ⟨.ref p,H,I,rfl,q⟩
def tyV (K:PySem.W.Frag) (T:String) (x:V) (H:Hp):Prop:=match x with
 | .str _=>T = "str"
 | .int _=>T = "int"
 | .ref p=>(T = "list" /\ ∃ xs,SqL K H p xs)\/(T = "tuple" /\ ∃ xs,SqT K H p xs) \/
   (T = "dict" /\ ((∃ kvs,H p=some (.dK kvs))\/∃ kvs,H p=some (.dT kvs)))\/(T = "set" /\ ∃ S n,H p=some (.set S n))
 | _=>False
theorem tyV_is {pins:List (Addr × Obj)} {σ:St} {H:Hp} {s:Shared} {T:String} {x:V} {v:Value} (I:Inv X pins σ H s) (r:RelV x v) (ty:tyV X.K T x H) :
  s.TypeIs v T/\∀ a,v=.ref a->∃ ob,s.heap.get? a=some ob/\ob.dict=none:=by
 cases x with
 | str z=>
  obtain⟨t,rfl⟩:=r
  cases (show T = "str" from ty)
  exact⟨typeIs_str s z t,λ_ e=>nomatch e⟩
 | int i=>
  obtain⟨t,rfl⟩:=r
  cases (show T = "int" from ty)
  exact⟨typeIs_int s i t,λ_ e=>nomatch e⟩
 | ref p=>
  cases r
  rcases ty with⟨rfl,xs,hq⟩ | ⟨rfl,xs,hq⟩ | ⟨rfl,hk⟩ | ⟨rfl,S,n,hk⟩
  ·obtain⟨its,_,pl,_⟩:=I.list hq
   refine⟨pl.isList.typeIs,λa e=>?_⟩
   cases e
   obtain⟨o,n,e,c,hd,_⟩:=pl
   exact⟨o,e,hd⟩
  ·obtain⟨o,e1,c1,d1⟩:=I.tupObj hq
   refine⟨⟨o,e1,c1⟩,λa e=>?_⟩
   cases e
   exact⟨o,e1,d1⟩
  ·have z:∃ o,s.heap.get? p=some o/\o.ExactDict:=by
    rcases hk with⟨kvs,hk⟩ | ⟨kvs,hk⟩
    ·obtain⟨_,_,_,_,o,_,_,e,ex,_⟩:=I.hok p _ hk
     exact⟨o,e,ex⟩
    ·obtain⟨_,_,_,_,o,_,_,e,ex,_⟩:=I.hok p _ hk
     exact⟨o,e,ex⟩
   obtain⟨o,e,ex⟩:=z
   refine⟨⟨o,e,ex.1⟩,λa e2=>?_⟩
   cases e2
   exact⟨o,e,ex.2.1⟩
  ·obtain⟨o,_,_,_,e,ex,_⟩:=I.hok p _ hk
   refine⟨⟨o,e,ex.1⟩,λa e2=>?_⟩
   cases e2
   exact⟨o,e,ex.2.1⟩
 | _=>exact False.elim ty
def tBM (K:PySem.W.Frag) (T:String) (r:V->List V->Hp->VK->Prop) (to:TE) (t:TA):TE:=λσ H Q=>to σ H λx H1=>tyV K T x H1/\t σ H1 λxs H2=>r x xs H2 Q
variable {o e:Expr} {es:List Expr} {to:TE} {t:TA} {name:Str} {apos cpos:Pos} {T id:String} {r:V->List V->Hp->VK->Prop}
theorem pe_bm (pa:PlainAttrs T) (slot:Slot T name id) (hty:typeOf (.builtin id)=pure (.type "method_descriptor")) (hm:MtR X id r) (ho:PE X o to) (ha:PA X (e::es) t)
  (hbase:attributeBase o name X.env (eval o X.env)=eval o X.env:=by rfl)
  (hfew:((backTo cpos (starEach (e::es) X.env)).all (λx=>!x.1)&&(backToKw cpos (keywordEach [] X.env)).all (λx=>x.1.isSome)
   && decide ((e::es).length+([]:List Keyword).length+(if ([]:List Keyword).isEmpty then 0 else 1)<30))=true:=by rfl)
  (hline:(apos.endLine==cpos.line)=true:=by rfl) (hs:starEach (e::es) X.env=(false,eval e X.env)::starEach es X.env:=by rfl) (hplain:(backTo cpos (starEach es X.env)).any (·.1)=false:=by rfl) :
  PE X (.Call (.Attribute o name apos) (e::es) [] cpos) (tBM X.K T r to t):=by
 intro pins s σ H Q I h
 refine wpAny_Call_method_late hbase hfew hline rfl (thn (ho pins s σ H _ I h) λv s1 ⟨x,H1,I1,r1,ty,q1⟩=>?_)
 obtain⟨h1,h2⟩:=tyV_is I1 r1 ty
 refine⟨T,id,pa,slot,hty,h1,h2,?_⟩
 have hA:=ha cpos pins s1 σ H1 _ I1 q1
 rw[hs] at hA |-
 refine Calls.callWith_builtin (by show (false||(backTo cpos (starEach es X.env)).any (·.1))=false; rw[hplain] <;> rfl) (Calls.evalArgs_plain ?_)
 exact thn hA λus s2 ⟨vs,H2,I2,r2,q2⟩=>hm pins s2 σ H2 x vs v us Q I2 r1 r2 q2
/- xs.append(e),list.index on a module's tuple .. are MtR facts of 06m -/
end
def MtM (X:Cx) (id:String) (r:V->List V->Hp->VK->Prop):Prop:=
 ∀ (pins:List (Addr × Obj)) (s:Shared) (σ:St) (H:Hp) (x:V) (xs:List V) (v:Value) (us:List Value) (Q:VK),Inv X pins σ H s->RelV x v->Vals xs us->r x xs H Q ->
  wpAny (model X.prog X.w) X.A (call (.builtin id) (v::us)) (EP X pins σ Q) X.xe s
theorem Vals.one:∀ {x:V} {us:List Value},Vals [x] us->∃ u,us=[u]/\RelV x u
 | _,_,.cons r .nil=>⟨_,rfl,r⟩
theorem Vals.two:∀ {x y:V} {us:List Value},Vals [x,y] us->∃ u v,us=[u,v]/\RelV x u/\RelV y v
 | _,_,_,.cons r (.cons q .nil)=>⟨_,_,rfl,r,q⟩
theorem Vals.zero:∀ {us:List Value},Vals [] us->us=[]
 | _,.nil=>rfl
theorem Vals.rep {xs:List V} {us:List Value} (h:Vals xs us):∀ k:Nat,Vals (List.replicate k xs).flatten (List.replicate k us).flatten
 | 0=>.nil
 | k+1=>by
  rw[List.replicate_succ,List.replicate_succ,List.flatten_cons,List.flatten_cons]
  exact Vals.append h (Vals.rep h k)
theorem foldl_rep (its:List Value):∀ (k:Nat) (acc:List Value),
  List.foldl (λx1 x2=>x1++x2) acc.toArray (List.replicate k its.toArray)=(acc++(List.replicate k its).flatten).toArray
 | 0,acc=>by simp
 | k+1,acc=>by
  have e:acc.toArray++its.toArray=(acc++its).toArray:=by simp
  have e2:(acc++its)++(List.replicate k its).flatten=acc++(List.replicate (k+1) its).flatten:=by
   rw[List.replicate_succ,List.flatten_cons,List.append_assoc]
  rw[<- e2,<- foldl_rep its k (acc++its),<- e,List.replicate_succ,List.foldl_cons]
section
variable {X:Cx} {pins:List (Addr × Obj)} {σ:St} {H:Hp} {s:Shared} {l b:Addr} {xs ys zs:List V}
theorem Inv.lset {its its':List Value} {n:Nat} {f:Array Value->Array Value} {t':Nat} (I:Inv X pins σ H s) (hH:H l=some (.lst xs))
  (e:s.heap.get? l=some { cls:=.type "list",data:=.seq its.toArray n }) (hf:f its.toArray=its'.toArray) (hv:Vals ys its') (hz:ys.length<=sizeLine) :
  Inv X pins σ (upd H l (.lst ys)) { s with heap:=s.heap.update l (Obj.mapSeq f),toks:=t' }:=by
 have q:=PySem.IsL.update e f
 rw[hf] at q
 refine I.write (x:=l) (e:=l) (by rw[hH]; exact trivial) (.inl rfl) (λb' u hb hu=>(Heap.get?_update_other s.heap (Obj.mapSeq f) (Ne.symm hb)).trans hu) ⟨_,q⟩ ?_
 exact⟨hz,its',_,hv,q⟩
theorem Inv.lnew {its:List Value} {t':Nat} (I:Inv X pins σ H s) (hv:Vals ys its) (hz:ys.length<=sizeLine) :
  Inv X pins σ (upd H s.heap.objs.size (.lst ys)) { s with heap:=s.heap.push { cls:=.type "list",data:=.seq its.toArray },toks:=t' }:=
 I.laid (λ_ _ q=>Heap.get?_push_of_some _ q) (Nat.le_refl _) ⟨hz,its,0,hv,Heap.get?_push_size _ rfl⟩
theorem Inv.fresh (I:Inv X pins σ H s):H s.heap.objs.size=none:=I.hok.fresh (Nat.le_refl _)
theorem Inv.lstM (I:Inv X pins σ H s) (hH:H l=some (.lst xs)):xs.length<=sizeLine/\∃ (its:List Value) (n:Nat),Vals xs its/\xs.length=its.length/\s.heap.get? l=some { cls:=.type "list",data:=.seq its.toArray n }:=by
 obtain⟨z,its,n,r,e⟩:=I.hok l _ hH
 exact⟨z,its,n,r,r.length,e⟩
theorem notLongL {n:Nat} (h:n<=sizeLine):Builtin.List.listTooLong n=false:=by
 unfold Builtin.List.listTooLong
 exact decide_eq_false (by omega)
end
section
variable {X:Cx}
def rAppend:V->List V->Hp->VK->Prop:=λx vs H Q=>∃ l xs y,x=.ref l/\vs=[y]/\H l=some (.lst xs)/\xs.length<sizeLine/\Q .non (upd H l (.lst (xs++[y])))
theorem mt_append:MtM X "list.append" rAppend:=by
 intro pins s σ H x vs v us Q I rx rv h
 obtain⟨l,xs,y,rfl,rfl,hH,hz,q⟩:=h
 cases rx
 obtain⟨u,rfl,ru⟩:=rv.one
 obtain⟨z,its,n,r,hl,e⟩:=I.lstM hH
 refine call_meets F.slot_list_append ⟨_,e,rfl⟩ F.entry_list_append (F.args_list_append_2 _ _) (PySem.list_append l its.toArray n u (by rw[List.size_toArray]; omega)) ⟨e,?_⟩
 refine⟨.non,_,I.lset (its':=its++[u]) hH e (by simp) (r.append (.cons ru .nil)) ?_,rfl,q⟩
 rw[List.length_append,List.length_singleton]
 omega
def rRep:R2:=λx y H Q=>∃ l k xs,x=.ref l/\y=.int k/\H l=some (.lst xs)/\-(2 ^ 63)<=k/\k<2 ^ 63/\xs.length*k.toNat<=sizeLine /\
 ∀ p,H p=none->Q (.ref p) (upd H p (.lst (List.replicate k.toNat xs).flatten))
theorem len_rep {α:Type} (xs:List α) (k:Nat):(List.replicate k xs).flatten.length=k*xs.length:=by
 induction k with
 | zero=>simp
 | succ k ih=>rw[List.replicate_succ,List.flatten_cons,List.length_append,ih,Nat.succ_mul,Nat.add_comm]
theorem op_rep:OpR X (binaryOp .Mult) rRep:=by
 intro pins s σ H x y v u Q I rx ry h
 obtain⟨l,k,xs,rfl,rfl,hH,h1,h2,hz,q⟩:=h
 cases rx
 obtain⟨t,rfl⟩:=ry
 obtain⟨z,its,n,r,hl,e⟩:=I.lstM hH
 have hlen:its.toArray.size*k.toNat<=sizeLine:=by rw[List.size_toArray,<- hl]; exact hz
 have hcap:¬ its.toArray.size*k.toNat > (2 ^ 63-1) / 8:=by
  have:(sizeLine:Nat)<=(2 ^ 63-1) / 8:=by decide
  omega
 have hfit:¬ (!Builtin.List.listFitsIndex k)=true:=by
  rw[fitsIndex_both h1 h2]
  exact Bool.false_ne_true
 have hlong:¬ Builtin.List.listTooLong (its.toArray.size*k.toNat)=true:=by
  rw[notLongL hlen]
  exact Bool.false_ne_true
 have hnew:List.foldl (λx1 x2=>x1++x2) #[] (List.replicate (if its.toArray.isEmpty=true then 0 else k.toNat) its.toArray)=(List.replicate k.toNat its).flatten.toArray:=by
  have f0:∀ m:Nat,List.foldl (λx1 x2=>x1++x2) #[] (List.replicate m its.toArray)=(List.replicate m its).flatten.toArray:=λm=>by
   have:=foldl_rep its m []
   rw[List.nil_append] at this
   exact this
  rw[f0]
  cases its with
  | nil=>simp
  | cons a r'=>rw[if_neg (by simp)]
 refine wpAny_binaryOp_repeat_ref (T := "list") (U := "int") (by decide) ⟨_,e,rfl⟩ (λs'=>typeIs_int s' k t) noFill_list_mul F.fills_int_mul F.slot_int_rmul repeat_list F.slot_int_index.lookup
  (call_meets F.slot_int_rmul (typeIs_int s k t) F.entry_int_rmul (F.args_int_rmul_2 _ _) (int___rmul___int_list k t l its.toArray n)
   ⟨e,rfl,⟨_,e,rfl⟩,call_meets F.slot_list_mul ⟨_,e,rfl⟩ F.entry_list_mul (F.args_list_mul_2 _ _) (AutoListH.list___mul___list_int_3 l its.toArray n k t hfit hcap hlong) ⟨e,?_⟩⟩)
 rw[hnew]
 exact⟨.ref _,_,I.lnew (t':=s.toks) (r.rep k.toNat) (by rw[len_rep,Nat.mul_comm]; exact hz),rfl,q _ I.fresh⟩
end
section
variable {prog:Program} {w:World} {A:Around} {E:Value->Shared->Prop} {s:Shared}
end
section
variable {X:Cx}
end
end L2
namespace Att
open PySem PySem.W PySem.Calls PyProof.Rows
theorem ints_of_wellAll {P:Params} {h:Heap}:∀ (ns:List Int) (vs:List Value),WellAll P h vs (ns.map WData.int)->IntsAre vs ns:=by
 intro ns
 induction ns with
 | nil=>
  intro vs w
  rw[List.map_nil] at w
  cases w
  exact .nil
 | cons n ns ih=>
  intro vs w
  rw[List.map_cons] at w
  cases w with
  | cons a b=>
   cases a
   exact .cons _ _ (ih _ b)
theorem script_of {l:OpenLaw} {n:Nat} (hn:l.most=some n) {P:Params} {h:Heap} {args:List WData} {vals:List Value}
  (hpre:l.row.toRowW.claim.pre args=true) (hwl:WellAll P h vals args) :
  ∃ a vs ns,vals=[Value.ref a]/\args=[WData.list (ns.map WData.int)]/\h.get? a=some { cls:=.type "list",data:=.seq vs.toArray }/\IntsAre vs ns/\ns.length<=n:=by
 have hsh:WShape.hasAll [] args [.list .int]=true:=(pre_splitW hpre).1
 have hc:l.pre.holds [] { args:=args }=true:=(pre_splitW hpre).2
 obtain⟨d,r,rfl,h1,h2⟩:=hasAllW_cons hsh
 obtain rfl:=hasAllW_nil h2
 obtain⟨xs,rfl,h3⟩:=hasW_list h1
 obtain⟨ns,rfl⟩:=items_int h3
 have hlen:ns.length<=n:=by
  unfold OpenLaw.pre at hc
  have h4:(WTm.not (.lt (.lit (.int (n:Int))) (.len (.arg 0)))).holds [] { args:=[.list (ns.map .int)] }=true:=by
   have h4:=(holds_andW hc).1
   rw[hn] at h4
   exact h4
  have h5:=condW_of h4 (w_not (w_lt w_lit (w_len_list (w_arg rfl))))
  rw[List.length_map] at h5
  refine Nat.le_of_not_lt λq=>?_
  have q':(n:Int)<((ns.length:Nat):Int):=by omega
  first
   | (rw[decide_eq_true q'] at h5; exact absurd h5 (by decide))
   | (simp at h5; omega)
 cases hwl with
 | cons w1 w2=>
  cases w2
  cases w1 with
  | list ho hall=>exact⟨_,_,ns,rfl,rfl,ho,ints_of_wellAll ns _ hall,hlen⟩
theorem post_true (l:OpenLaw) (args:List WData):l.row.toRowW.claim.post args (.bool true) args=true:=
 postW_of (r:=l.row.toRowW) (X:=(true==true))
  (show WShape.has [] (.bool true) .bool=true by first | rfl | decide | simp[WShape.has,WShape.arms,WShape.armsAll])
  (show (WTm.eq .res (.lit (.bool true))).value [] { args:=args,res:=some (.bool true),after:=args }=some (.bool (true==true)) from w_eq_bool (w_res rfl) w_lit) rfl
theorem attach_call {l:OpenLaw} {n:Nat} {q:Program} {loose:List Str} {XP:(Str->Option Value)->Heap->Prop} {YP:World->Heap->Prop} {d:DefRec}
  (hn:l.most=some n) (hdf:d.params.defaults=[])
  (call:∀ (w:World) (s₀ s₁:Shared) (mg mb:Str->Option Value) (fa:Addr) (o:Obj) (pm cd doc:Value) (a:Addr) (vs:List Value) (ns:List Int),
   Ground q loose [] XP w s₀ mg mb s₁.heap->YP w s₁.heap ->
   s₁.heap.get? fa=some o->o.data=.func (docDef d.name d.params d.body d.scope pm cd doc)->s₁.heap.CodeRec cd d.name->mg d.name=some (.ref fa) ->
   s₁.heap.get? a=some { cls:=.type "list",data:=.seq vs.toArray }->IntsAre vs ns->ns.length<=n->s₁.gens=#[] ->
   codeAny (model l.prog w) callerA (.call (.ref fa) ⟨[.ref a],[]⟩) (λr s'=>r=.ok (.ret (.bool true))/\OldK s₁.heap s'.heap/\s'.os=s₁.os/\AllBare s'.gens) s₁) :
  WalkO q loose XP YP l.row.toRowW d [] (λf vs=>PySem.call f vs):=by
 intro w s₀ s₁ mg mb G Y fa o pm cd doc dV kV ho hd hcd hD hmg hg args vals as hpre hlay hrd hwl hlo
 obtain rfl:dV=.none:=Dflts.none hD hdf
 obtain rfl:kV=.none:=Dflts.noKw hD
 obtain⟨a,vs,ns,rfl,rfl,hobj,hints,hlen⟩:=script_of hn hpre hwl
 refine enter_call (codeAny_mono (call w s₀ s₁ mg mb fa o pm cd doc a vs ns G Y ho (fd_plain hd) hcd hmg hobj hints hlen hg) λr s' hq=>?_)
 obtain⟨rfl,h2,h3,h4⟩:=hq
 exact⟨.inl ⟨.bool true,.bool true,[],rfl,λ_=>rfl,.bool true,post_true l _,λ_=>⟨List.Pairwise.nil,λ_ hm=>(nomatch hm)⟩⟩,h2,h3,h4⟩
section
variable {prog:Program} {w:World} {A:Around} {E:Value->Shared->Prop} {s:Shared} {K:Frag}
def noObjs (h:Heap):Heap:={ h with objs:=#[] }
theorem noObjs_get (h:Heap) (b:Addr):(noObjs h).get? b=none:=by
 cases e:(noObjs h).get? b with
 | none=>rfl
 | some o=>exact absurd (Heap.lt_size e) (Nat.not_lt_zero _)
theorem fr_all {h:Heap} {L:Addr} {m:Str->Option Value} (n:h.Ns L m):Fr (noObjs h) L h m:=
 ⟨n,λb o e=>(by rw[noObjs_get] at e; cases e),Nat.zero_le _⟩
end
end Att
namespace L2
open PySem PySem.Spec PyProof.Rows
theorem vals_ints:∀ {vs:List Value} {ns:List Int},IntsAre vs ns->Vals (ns.map V.int) vs
 | _,_,.nil=>.nil
 | _,_,.cons n t h=>.cons ⟨t,rfl⟩ (vals_ints h)
def Only (H:Hp):Prop:=∀ b,H b=none\/∃ o xs,H b=some (.frz o (.lst xs))
theorem law_call {P:Program} {w:World} {K:PySem.W.Frag} {mg mb:Str->Option Value} {CX:CXT} {k:Nat} {fa a:Addr} {fd:FuncData} {x:Str} {sp:Sp} {s₁:Shared} {vs:List Value} {ns:List Int}
  (KX:K.In s₁.heap) (hns:s₁.heap.Ns mainGlobals mg) (hb:s₁.heap.Ns builtinsNs mb) (hbb:∀ x:Str,x ≠ "__name__" -> mb x=bootBuiltins x) (hlim:s₁.heap.NoLimit) (hg:s₁.gens=#[])
  (ha:s₁.heap.get? a=some { cls:=.type "list",data:=.seq vs.toArray }) (hi:IntsAre vs ns) (hl:ns.length<=sizeLine) (hr:Room k callerA)
  (F:∀ base:Heap,K.In base->base.Ns mainGlobals mg->FnOk P w K mg base CX k fa fd [x] sp) (hbind:∀ (s:Shared) (u:Value),BindsTo s fd ⟨[u],[]⟩ [(x,u)])
  (hsp:∀ H:Hp,Only H->SqL K H a (ns.map V.int)->sp [.ref a] H (λv _=>v=.bl true) λ_ _ _=>False)
  (hCX:∀ H e s',CX [] H s₁ (λ_ _ _=>False) e s'->False) :
  codeAny (model P w) callerA (.call (.ref fa) ⟨[.ref a],[]⟩) (λr s'=>r=.ok (.ret (.bool true))/\OldK s₁.heap s'.heap/\s'.os=s₁.os/\AllBare s'.gens) s₁:=by
 have rv:=vals_ints hi
 have lenV:=hi.length
 have core:∀ H:Hp,Only H->SqL K H a (ns.map V.int)->HOk P w H s₁.heap->(∀ b,H b ≠ none->b=a)->(H a ≠ none->K.lookup a=none) ->
   codeAny (model P w) callerA (.call (.ref fa) ⟨[.ref a],[]⟩) (λr s'=>r=.ok (.ret (.bool true))/\OldK s₁.heap s'.heap/\s'.os=s₁.os/\AllBare s'.gens) s₁:=by
  intro H hO hS hok hA hK
  have base_of:∀ {b:Addr} {o:Obj},s₁.heap.get? b=some o->H b=none->(hidT s₁.heap H).get? b=some o:=λe n=>hidT_get e n
  have noA:∀ {b:Addr} {o:Obj} {es:Array DictEntry} {ep:Nat},s₁.heap.get? b=some o->o.data=.dict es ep->H b=none:=λ{b o es ep} e d=>by
   cases q:H b with
   | none=>rfl
   | some u=>
    have e':b=a:=hA b (by rw[q]; simp)
    subst e'
    rw[ha] at e; cases e
    have d':Data.seq vs.toArray _=Data.dict es ep:=d
    cases d'
  have nsK:∀ {b:Addr} {m:Str->Option Value},s₁.heap.Ns b m->(hidT s₁.heap H).Ns b m:=λ{b m} ⟨o,es,ep,e,d,r⟩=>⟨o,es,ep,base_of e (noA e d),d,r⟩
  have hKb:K.In (hidT s₁.heap H):=λb o e=>base_of (KX b o e) (by
   cases q:H b with
   | none=>rfl
   | some u=>
    have e':b=a:=hA b (by rw[q]; simp)
    subst e'
    rw[hK (by rw[q]; simp)] at e; cases e)
  have hM:Mod K mg (hidT s₁.heap H):=⟨hKb,nsK hns,⟨mb,nsK hb,hbb⟩,let ⟨mc,h1,h2⟩:=hlim; ⟨mc,nsK h1,h2⟩⟩
  have e0:Env0 P w K mg (hidT s₁.heap H) callerA [] s₁ H:=⟨rfl,hM,λb o e=>of_hidT e,Nat.le_of_eq (hidT_size _ _),trivial,λb hb=>absurd (show b ∈ ([]:List Addr) from hb) (by simp),hok,.of_eq hg⟩
  refine codeAny_mono ((F _ hKb (nsK hns)).run callerA [] s₁ H ⟨[.ref a],[]⟩ [.ref a] [.ref a] _ _ hr e0 (hbind s₁ (.ref a)) (.cons rfl .nil) (hsp H hO hS)) λr s' h=>?_
  cases r with
  | error e=>exact(hCX H e s' h).elim
  | ok fl=>
   cases fl with
   | next=>exact False.elim h
   | brk=>exact False.elim h
   | cont=>exact False.elim h
   | ret u=>
    obtain⟨v,H',os,bare,un,hok',r',q⟩:=h
    have q':v=.bl true:=q
    subst q'
    obtain rfl:u=Value.bool true:=r'
    refine⟨rfl,OldK.of_keep λb o e=>?_,os,bare⟩
    cases q:H b with
    | none=>exact un.keep b o e q (by intro z; exact absurd (show b ∈ ([]:List Addr) from z) (by simp)) (by simp)
    | some u=>
     rcases hO b with z | ⟨ob,xs,z⟩
     ·rw[q] at z; cases z
     ·have z2:=un.frzs b ob _ z
      obtain⟨e1,_⟩:=hok b _ z
      obtain⟨e2,_⟩:=hok' b _ z2
      rw[e] at e1; cases e1
      exact e2
 cases hk:K.lookup a with
 | some o=>
  have e:=KX a o hk
  rw[ha] at e
  cases e
  refine core (λ_=>none) (λ_=>.inl rfl) (.inr ⟨_,vs.toArray,_,hk,rfl,rfl,rfl,by rw[List.size_toArray,lenV]; exact hl,by simpa using rv⟩) (λb u z=>by have z':(none:Option HO)=some u:=z; cases z') (λb z=>absurd rfl z) λz=>absurd rfl z
 | none=>
  refine core (λb=>if b=a then some (.frz { cls:=.type "list",data:=.seq vs.toArray } (.lst (ns.map V.int))) else none) (λb=>?_) (.inl (.inr ⟨{ cls:=.type "list",data:=.seq vs.toArray },if_pos rfl⟩)) (λb u z=>?_) (λb z=>?_) λ_=>hk
  ·by_cases hb:b=a
   ·exact .inr ⟨_,_,if_pos hb⟩
   ·exact .inl (if_neg hb)
  ·by_cases hb:b=a
   ·have z':=(if_pos hb).symm.trans z
    cases z'
    subst hb
    exact⟨ha,by rw[List.length_map]; exact hl,vs,_,rv,ha⟩
   ·have z':=(if_neg hb).symm.trans z
    cases z'
  ·by_cases hb:b=a
   ·exact hb
   ·exact absurd (if_neg hb) z
theorem walk_of {l:PySem.W.OpenLaw} {n k:Nat} {q:Program} {loose:List Str} {XP:(Str->Option Value)->Heap->Prop} {YP:World->Heap->Prop} {d:DefRec} {K:Params->PySem.W.Frag} {CX:World->CXT} {sp:World->Sp} {x:Str}
  (hn:l.most=some n) (hn2:n<=sizeLine) (hdf:d.params.defaults=[]) (hr:Room k callerA)
  (hY:∀ (w:World) (h:Heap),YP w h->(K w.params).In h)
  (F:∀ (w:World) (mg:Str->Option Value) (fa:Addr) (h:Heap),(K w.params).In h->h.Ns mainGlobals mg->mg d.name=some (.ref fa) ->
   ∃ fd:FuncData,(∀ (s:Shared) (u:Value),BindsTo s fd ⟨[u],[]⟩ [(x,u)]) /\
    ∀ base:Heap,(K w.params).In base->base.Ns mainGlobals mg->FnOk l.prog w (K w.params) mg base (CX w) k fa fd [x] (sp w))
  (hsp:∀ (w:World) (H:Hp) (a:Addr) (ns:List Int),ns.length<=n->Only H->SqL (K w.params) H a (ns.map V.int)->sp w [.ref a] H (λv _=>v=.bl true) λ_ _ _=>False)
  (hCX:∀ (w:World) (H:Hp) (s:Shared) (e:Value) (s':Shared),CX w [] H s (λ_ _ _=>False) e s'->False) :
  PySem.W.WalkO q loose XP YP l.row.toRowW d [] (λf vs=>PySem.call f vs):=by
 refine Att.attach_call hn hdf λw s₀ s₁ mg mb fa o pm cd doc a vs ns G Y ho hd hcd hmg hobj hints hlen hg=>?_
 have KX:=hY w _ Y
 obtain⟨fd,hb,hF⟩:=F w mg fa _ KX G.T.g hmg
 exact law_call KX G.T.g G.T.b G.T.builtins G.T.nolimit hg hobj hints (Nat.le_trans hlen hn2) hr hF hb (λH hO hS=>hsp w H a ns hlen hO hS) λH e s'=>hCX w H s₁ e s'
end L2
/- THE LAST THEOREM (shape; LID,My.* are yours):
   My.Adr: a structure of the addresses that your layer names (classes,functions); My.Txt K t: a structure (Prop) of the equations over K;
   My.txt_mk:{K} {implicit addresses ..} (e1:nsIn K mainGlobals "law" = some (some (.ref f))) (e2:K.lookup f=some ⟨oc,od,.func (fnOf "law" "law" params body scope dV kV doc pm an cdv ct),sl⟩) (e3:codeIn K cdv "law" = true) .. : ∃ t,My.Txt K t
(the tactic k_is has no namespace: write k_is) -/
namespace L2
open PySem PySem.Spec PyProof.Rows
def defArgs (s:Stmt):Arguments:=match s with
 | .FunctionDef _ a _ _ _ _ _ _ _ _=>a
 | _=>{ posonlyargs:=[],args:=[],vararg:=none,kwonlyargs:=[],kw_defaults:=[],kwarg:=none,defaults:=[] }
def defBody (s:Stmt):List Stmt:=match s with
 | .FunctionDef _ _ b _ _ _ _ _ _ _=>b
 | _=>[]
def defScope (s:Stmt):Scope:=match s with
 | .FunctionDef _ _ _ _ _ _ sc _ _ _=>sc
 | _=>{ kind:=.function,names:=[],isGenerator:=false,isCoroutine:=false }
abbrev E0:XK:=λ_ _ _=>False
structure Fun (K:PySem.W.Frag) (x qual:Str) (st:Stmt) (f:Addr) (fd:FuncData):Prop where
 ex:∃ (oc:Value) (od:Option Addr) (kV doc pm:Value) (an:Option Addr) (cdv ct:Value) (osl:Array (Option Value)),
  fd=PySem.W.fnOf x qual (defArgs st) (defBody st) (defScope st) .none kV doc pm an cdv ct/\K.lookup f=some ⟨oc,od,.func fd,osl⟩/\PySem.W.codeIn K cdv qual=true
 kp:PySem.W.keepIn K (.ref f)=true
section
variable {P:Program} {w:World} {K:PySem.W.Frag} {mg:Str->Option Value} {base:Heap}
theorem fun_mk {x qual:Str} {st:Stmt} {f:Addr} {oc:Value} {od an:Option Addr} {osl:Array (Option Value)} {kV doc pm cdv ct:Value} (l:K.lookup f=some ⟨oc,od,.func (PySem.W.fnOf x qual (defArgs st) (defBody st) (defScope st) .none kV doc pm an cdv ct),osl⟩)
  (c:PySem.W.codeIn K cdv qual=true) (k:PySem.W.keepIn K (.ref f)=true):Fun K x qual st f (PySem.W.fnOf x qual (defArgs st) (defBody st) (defScope st) .none kV doc pm an cdv ct):=⟨⟨oc,od,kV,doc,pm,an,cdv,ct,osl,rfl,l,c⟩,k⟩
end
section
variable {X:Cx}
end
def Same (H H':Hp):Prop:=∀ b o,H b=some o->H' b=some o
theorem Same.refl (H:Hp):Same H H:=λ_ _ h=>h
theorem Same.trans {H H1 H2:Hp} (a:Same H H1) (b:Same H1 H2):Same H H2:=λc o h=>b c o (a c o h)
theorem Same.free {H H':Hp} (e:Same H H') {l:Addr} (h:H' l=Option.none):H l=Option.none:=by
 cases q:H l with
 | none=>rfl
 | some o=>
  rw[e l o q] at h
  cases h
section
variable {X:Cx} {pins:List (Addr × Obj)} {σ:List (Option V)} {H:Hp} {s:Shared}
theorem Inv.drew {h':Heap} {fp:List Addr} {a:Addr} {o:HO} {t':Nat} (I:Inv X pins σ H s) (k:∀ b u,b ∉ fp->s.heap.get? b=some u->h'.get? b=some u) (hf:∀ b ∈ fp,FpOk X pins H b)
  (ha:s.heap.objs.size<=a) (new:ObjOk X.prog X.w (upd H a o) h' a o):Inv X pins σ (upd H a o) { s with heap:=h',toks:=t' }:=by
 have hn:H a=none:=I.hok.fresh ha
 have ne:∀ b u,s.heap.get? b=some u->b ≠ a:=λb u e z=>by
  have:=Heap.lt_size e
  rw[z] at this
  exact absurd this (Nat.not_lt.mpr ha)
 have nf:∀ b u,H b=some u->b ∉ fp:=λb u e z=>by rw[(hf b z).1] at e; cases e
 have hL:X.env.locals ∉ fp:=λz=>(hf _ z).2.1 rfl
 refine I.step (g':=s.gens) (d':=s.drawn) (ch:=fp) (λb hb=>?_) (λb u _ _ hc e _=>k b u hc e) (λb u _ _ hc e _=>⟨u.slots,k b u hc e⟩) (λb u _ e n=>by rw[upd_ne (ne b u e)]; exact n)
  (λb u hc e=>⟨u,k b u hc e⟩) (λb xs e=>by rw[upd_ne (ne_of_none e hn)]; exact e) (λb u v e=>by rw[upd_ne (ne_of_none e hn)]; exact e) (λb ps e=>⟨#[],by rw[upd_ne (ne_of_none e hn),e]; simp⟩) (λm hm=>?_) (λb u e=>?_) I.bare
 ·obtain⟨f0,f1,f2,f3,f4,f5⟩:=hf b hb
  exact⟨f3,f1,f4,f5⟩
 ·obtain⟨o,es,ep,ho,r⟩:=hm
  exact⟨o,es,ep,k _ o hL ho,r⟩
 ·by_cases hb:b=a
  ·subst hb
   rw[upd_same] at e
   cases e
   exact new
  ·rw[upd_ne hb] at e
   refine(I.hok b u e).stay (λc v hc q=>k c v ?_ q) (λc q=>by rw[upd_ne (ne_of_none q hn)]; exact q) (λc xs q=>by rw[upd_ne (ne_of_none q hn)]; exact q) (λc o u q=>by rw[upd_ne (ne_of_none q hn)]; exact q)
   rcases hc with z | z
   ·rw[z]; exact nf b u e
   ·exact nf c _ z
theorem Inv.turnedL {h':Heap} {fp:List Addr} {t':Nat} (I:Inv X pins σ H s) (k:∀ b u,b ∉ fp->s.heap.get? b=some u->h'.get? b=some u) (hf:∀ b ∈ fp,FpOk X pins H b):Inv X pins σ H { s with heap:=h',toks:=t' }:=by
 have nf:∀ b u,H b=some u->b ∉ fp:=λb u e z=>by rw[(hf b z).1] at e; cases e
 have hL:X.env.locals ∉ fp:=λz=>(hf _ z).2.1 rfl
 refine I.step (g':=s.gens) (d':=s.drawn) (ch:=fp) (λb hb=>?_) (λb u _ _ hc e _=>k b u hc e) (λb u _ _ hc e _=>⟨u.slots,k b u hc e⟩) (λb u _ e n=>n)
  (λb u hc e=>⟨u,k b u hc e⟩) (λb xs e=>e) (λb u v e=>e) (λb ps e=>⟨#[],by rw[e]; simp⟩) (λm hm=>?_) (λb u e=>?_) I.bare
 ·obtain⟨f0,f1,f2,f3,f4,f5⟩:=hf b hb
  exact⟨f3,f1,f4,f5⟩
 ·obtain⟨o,es,ep,ho,r⟩:=hm
  exact⟨o,es,ep,k _ o hL ho,r⟩
 ·refine(I.hok b u e).stay (λc v hc q=>k c v ?_ q) (λ_ q=>q) (λ_ _ q=>q) λ_ _ _ q=>q
  rcases hc with z | z
  ·rw[z]; exact nf b u e
  ·exact nf c _ z
end
def Ite (J:It):It:=⟨J.go,λi H x H'=>∃ T y,x=.ref T/\H T=none/\H'=upd H T (.tup [.int i,y])/\J.yld i H y H,J.stop⟩
structure DrawnBy (P:Program) (w:World) (K:PySem.W.Frag) (J:It) (it:Addr) (tn:Nat->Heap->Prop):Prop where
 obj:∀ i h,tn i h->∃ o,h.get? it=some o/\(∀ v,o.data ≠ .cell v)/\o.cls ≠ .type "enumerate"
 keep:∀ i h h',tn i h->(∀ o,h.get? it=some o->h'.get? it=some o)->tn i h'
 item:∀ (X:Cx),X.prog=P->X.w=w->X.K=K->X.calm=true->∀ (i:Nat) (pins:List (Addr × Obj)) (s:Shared) (σ:St) (H:Hp),Inv X pins σ H s->tn i s.heap->J.go i H ->
  ∃ (fp:List Addr) (n:Nat) (V:Nat->Value->Prop) (St:Nat->Heap->Prop),Draws P w X.A.in1 it fp n V St/\it ∈ fp/\i<n/\St i s.heap/\(∀ h,St (i+1) h->tn (i+1) h)/\(∀ b ∈ fp,∀ o,s.heap.get? b=some o->o.cls ≠ .type "enumerate") /\
   ∀ u,V i u->∃ x,RelV x u/\J.yld i H x H
 done:∀ (X:Cx),X.prog=P->X.w=w->X.K=K->X.calm=true->∀ (i:Nat) (pins:List (Addr × Obj)) (s:Shared) (σ:St) (H:Hp),Inv X pins σ H s->tn i s.heap->J.stop i H ->
  ∃ (fp:List Addr) (n:Nat) (V:Nat->Value->Prop) (St:Nat->Heap->Prop),Draws P w X.A.in1 it fp n V St/\St n s.heap
section
variable {prog:Program} {w:World} {A:Around} {E:Value->Shared->Prop} {s:Shared}
theorem nextOf_tup_item {g t:Addr} {i:Nat} {its:Array Value} {x:Value} {Q:Value->Shared->Prop} (hg:s.heap.IsTupleIter g t i) (ht:s.heap.IsTuple t its) (hx:its[i]?=some x)
  (hQ:∀ h',h'.IsTupleIter g t (i+1)->Heap.SameBut g s.heap h'->Q x { s with heap:=h' }):wpAny (model prog w) A (Builtin.SmallTypes.nextOf (.ref g)) Q E s:=by
 obtain⟨og,e1,e2,e3⟩:=id hg
 obtain⟨ot,f1,_,nt,f3⟩:=ht
 unfold Builtin.SmallTypes.nextOf
 refine wpAny_bind (wpAny_callSpecial?_slot (name:=Str.ofString "__next__") hg.typeIs F.slot_tuple_iterator_next (wpAny_call_entry F.slot_tuple_iterator_next hg.typeIs F.entry_tuple_iterator_next ?_ (F.args_tuple_iterator_next_1 _)))
 show wpAny _ _ (field (.ref g) 0 >>= _) _ _ s
 refine wpAny_bind (wpAny_field e1 e3 (x:=.ref t) rfl ?_)
 show wpAny _ _ (if (Value.ref t==Value.none)=true then _ else _) _ _ s; rw[if_neg (show ¬ ((Value.ref t==Value.none)=true) from Bool.false_ne_true)]
 show wpAny _ _ (field (.ref g) 1 >>= _) _ _ s
 refine wpAny_bind (wpAny_field e1 e3 (x:=.int i 0) rfl ?_)
 show wpAny _ _ (seqItems? (.ref t) >>= _) _ _ s; refine wpAny_bind (wpAny_seqItems f1 f3 ?_)
 simp only[Int.toNat_natCast,hx]; refine wpAny_bind (wpAny_setField e1 e3 (by simp) (wpAny_pure ⟨x,rfl,wpAny_pure (hQ _ ?_ (Heap.SameBut.update ..))⟩))
 exact⟨_,Heap.get?_update_self _ e1 (Obj.isFreed_of_fields (Obj.data_mapFields e3 _)),(Obj.cls_mapFields ..).trans e2,by rw[Obj.data_mapFields e3]; simp[rawInt]⟩
theorem nextOf_tup_end {g t:Addr} {i:Nat} {its:Array Value} {Q:Value->Shared->Prop} (hh:A.handled=none) (hg:s.heap.IsTupleIter g t i) (ht:s.heap.IsTuple t its) (hx:its[i]?=none)
  (hE:∀ h' e,Heap.ExtBut g s.heap h'->(∃ o,h'.get? e=some o/\o.cls=.type "StopIteration")->E (.ref e) { s with heap:=h' }):wpAny (model prog w) A (Builtin.SmallTypes.nextOf (.ref g)) Q E s:=by
 obtain⟨og,e1,e2,e3⟩:=id hg
 obtain⟨ot,f1,_,nt,f3⟩:=ht
 unfold Builtin.SmallTypes.nextOf
 refine wpAny_bind (wpAny_callSpecial?_slot (name:=Str.ofString "__next__") hg.typeIs F.slot_tuple_iterator_next (wpAny_call_entry F.slot_tuple_iterator_next hg.typeIs F.entry_tuple_iterator_next ?_ (F.args_tuple_iterator_next_1 _)))
 show wpAny _ _ (field (.ref g) 0 >>= _) _ _ s
 refine wpAny_bind (wpAny_field e1 e3 (x:=.ref t) rfl ?_)
 show wpAny _ _ (if (Value.ref t==Value.none)=true then _ else _) _ _ s; rw[if_neg (show ¬ ((Value.ref t==Value.none)=true) from Bool.false_ne_true)]
 show wpAny _ _ (field (.ref g) 1 >>= _) _ _ s
 refine wpAny_bind (wpAny_field e1 e3 (x:=.int i 0) rfl ?_)
 show wpAny _ _ (seqItems? (.ref t) >>= _) _ _ s; refine wpAny_bind (wpAny_seqItems f1 f3 ?_)
 simp only[Int.toNat_natCast,hx]; refine wpAny_bind (wpAny_rule (wpAny_bind (wpAny_setField e1 e3 (by simp) ?_)))
 show wpAny _ _ (newExc (.type "StopIteration") [] >>= _) _ _ _; refine wpAny_bind ?_
 simp only[newExc,newTuple]; refine wpAny_bind (wpAny_newObj_type ?_ (by size_fits))
 refine wpAny_bind (m:=firstArgMember _ _) (wpAny_of_eq (a:=Value.none) (by first | rfl | (simp only[firstArgMember]; rfl)) ?_); refine wpAny_newObj_type ?_ (by size_fits)
 simp only[raiseNew]; refine wpAny_bind (wpAny_handled ?_)
 first | rw[show A.in1.handled=none from hh] | rw[hh]
 refine wpAny_bind (wpAny_pure (wpAny_throw ?_)); exact hE _ _ (((Heap.SameBut.update ..).extBut.push _).push _) ⟨_,Heap.get?_push_size _ rfl,rfl⟩
end
theorem draws_tup {prog:Program} {w:World} {A:Around} (hh:A.handled=none) (it l:Addr) (hne:l ≠ it) (items:Array Value) :
  Draws prog w A it [it,l] items.size (λi v=>items[i]?=some v) (λi h=>h.IsTupleIter it l i/\h.IsTuple l items) where
 live:=λ_ _ st=>let ⟨o,ho,_⟩:=st.1; ⟨o,ho⟩
 frame:=λ_ h h' st hk=>by
  obtain⟨⟨o,e,r⟩,⟨o',e',r'⟩⟩:=st
  exact⟨⟨o,hk it (by simp) o e,r⟩,⟨o',hk l (by simp) o' e',r'⟩⟩
 item:=λi s Q E hi st hQ=>nextOf_tup_item st.1 st.2 (x:=items[i]) (by simp[hi]) λh' hit' hs'=>hQ _ h' s.toks (by simp[hi]) ⟨hit',st.2.extBut hs'.extBut hne⟩ hs'
 done:=λs Q E st hE=>nextOf_tup_end hh st.1 st.2 (by simp) hE
theorem no_enum {a b:String} (h:a ≠ b):Value.type a ≠ Value.type b:=λz=>h (by cases z; rfl)
theorem drawn_list {P:Program} {w:World} {K:PySem.W.Frag} (a it:Addr):DrawnBy P w K (Itl K a) it (λi h=>h.IsListIter it a i) where
  obj:=λi h st=>by
    obtain⟨o,e,c,d⟩:=st
    exact⟨o,e,⟨λv z=>(by rw[d] at z; cases z),(by rw[c]; exact no_enum (by decide))⟩⟩
  keep:=λi h h' st k=>st.at k
  item:=by
    intro X hP hw hK hc i pins s σ H I st hg
    subst hP hw hK
    obtain⟨xs,x,hq,hx⟩:=hg
    obtain⟨its,rv,p,hz⟩:=I.list hq
    obtain⟨u,hu,ru⟩:=rv.get hx
    obtain⟨o,eo,co,dO⟩:=id st
    obtain⟨o',eo',co',n',do'⟩:=id p.isList
    have hne:a ≠ it:=λz=>by
      subst z
      rw[eo] at eo'
      cases eo'
      rw[co] at co'
      exact no_enum (by decide) co'
    have hl:=rv.length
    have hi:i<its.toArray.size:=by
      obtain⟨z,_⟩:=List.getElem?_eq_some_iff.mp hu
      simpa using z
    refine⟨_,_,_,_,Draws.list (A:=X.A.in1) (show X.A.handled=none from I.ok.hd hc) it a hne its.toArray,by simp,hi,⟨st,p.isList⟩,λh z=>z.1,λb hb o2 e2=>?_,λv hv=>?_⟩
    · rcases List.mem_cons.mp hb with z | hb
      · subst z
        rw[eo] at e2; cases e2; rw[co]; exact no_enum (by decide)
      · have z:b=a:=by simpa using hb
        subst z
        rw[eo'] at e2; cases e2; rw[co']; exact no_enum (by decide)
    · have:v=u:=by
        have h1:its[i]?=some v:=by simpa using hv
        rw[hu] at h1
        exact(Option.some.inj h1).symm
      subst this
      exact⟨x,ru,rfl,λys hy=>by rw[I.list_inj hy hq]; exact hx⟩
  done:=by
    intro X hP hw hK hc i pins s σ H I st hg
    subst hP hw hK
    obtain⟨xs,hq,hx⟩:=hg
    obtain⟨its,rv,p,hz⟩:=I.list hq
    have hl:=rv.length
    refine⟨[it,a],i,λ_ _=>True,λj h=>j=i/\h.IsListIter it a i/\h.IsList a its.toArray,?_,rfl,st,p.isList⟩
    exact { live:=fun _ _ z=>let ⟨o,ho,_⟩:=z.2.1; ⟨o,ho⟩
            frame:=λ_ _ _ z hk=>⟨z.1,z.2.1.at λo e=>hk it (by simp) o e,z.2.2.at λo e=>hk a (by simp) o e⟩
            item:=λj s Q E hj z _=>absurd z.1 (Nat.ne_of_lt hj)
            done:=λs Q E z hE=>wpAny_nextOf_list_end (show X.A.handled=none from I.ok.hd hc) z.2.1 z.2.2 (by simp; omega) hE }
theorem drawn_tup {P:Program} {w:World} {K:PySem.W.Frag} (a it:Addr):DrawnBy P w K (Itt K a) it (λi h=>h.IsTupleIter it a i) where
  obj:=λi h st=>by
    obtain⟨o,e,c,d⟩:=st
    exact⟨o,e,⟨λv z=>(by rw[d] at z; cases z),(by rw[c]; exact no_enum (by decide))⟩⟩
  keep:=λi h h' st k=>st.at k
  item:=by
    intro X hP hw hK hc i pins s σ H I st hg
    subst hP hw hK
    obtain⟨xs,x,hq,hx⟩:=hg
    obtain⟨its,rv,p,hz⟩:=I.tuple hq
    obtain⟨u,hu,ru⟩:=rv.get hx
    obtain⟨o,eo,co,dO⟩:=id st
    obtain⟨o',eo',co',n',do'⟩:=id (show s.heap.IsTuple a its.toArray from p)
    have hne:a ≠ it:=λz=>by
      subst z
      rw[eo] at eo'
      cases eo'
      rw[co] at co'
      exact no_enum (by decide) co'
    have hl:=rv.length
    have hi:i<its.toArray.size:=by
      obtain⟨z,_⟩:=List.getElem?_eq_some_iff.mp hu
      simpa using z
    refine⟨_,_,_,_,draws_tup (A:=X.A.in1) (show X.A.handled=none from I.ok.hd hc) it a hne its.toArray,by simp,hi,⟨st,p⟩,λh z=>z.1,λb hb o2 e2=>?_,λv hv=>?_⟩
    · rcases List.mem_cons.mp hb with z | hb
      · subst z
        rw[eo] at e2; cases e2; rw[co]; exact no_enum (by decide)
      · have z:b=a:=by simpa using hb
        subst z
        rw[eo'] at e2; cases e2; rw[co']; exact no_enum (by decide)
    · have:v=u:=by
        have h1:its[i]?=some v:=by simpa using hv
        rw[hu] at h1
        exact(Option.some.inj h1).symm
      subst this
      exact⟨x,ru,rfl,λys hy=>by rw[I.tuple_inj hy hq]; exact hx⟩
  done:=by
    intro X hP hw hK hc i pins s σ H I st hg
    subst hP hw hK
    obtain⟨xs,hq,hx⟩:=hg
    obtain⟨its,rv,p,hz⟩:=I.tuple hq
    have hl:=rv.length
    refine⟨[it,a],i,λ_ _=>True,λj h=>j=i/\h.IsTupleIter it a i/\h.IsTuple a its.toArray,?_,rfl,st,p⟩
    exact { live:=fun _ _ z=>let ⟨o,ho,_⟩:=z.2.1; ⟨o,ho⟩
            frame:=λ_ _ _ z hk=>by
              obtain⟨z0,⟨o,e,r⟩,⟨o',e',r'⟩⟩:=z
              exact⟨z0,⟨o,hk it (by simp) o e,r⟩,⟨o',hk a (by simp) o' e',r'⟩⟩
            item:=λj s Q E hj z _=>absurd z.1 (Nat.ne_of_lt hj)
            done:=λs Q E z hE=>nextOf_tup_end (show X.A.handled=none from I.ok.hd hc) z.2.1 z.2.2 (by simp; omega) hE }
theorem turn_enum {P:Program} {w:World} {K:PySem.W.Frag} {elts:List Expr} {kk:Nat} {pos:Pos} {J:It} {it:Addr} {tn:Nat->Heap->Prop} (D:DrawnBy P w K J it tn) (e:Addr) (hei:e ≠ it) :
  Turn P w K (.Tuple elts kk pos) (Ite J) [e,it] e (λi h=>(∃ old,IsEnum h e it i old)/\tn i h) where
 mem:=by simp
 obj:=λi h st b hb=>by
  obtain⟨⟨old,he⟩,st⟩:=st
  rcases List.mem_cons.mp hb with z | hb
  ·subst z
   exact⟨_,he,λv z=>by have z':Data.fields _=Data.cell v:=z; cases z'⟩
  ·have z:b=it:=by simpa using hb
   subst z
   obtain⟨o,eo,q,_⟩:=D.obj i h st
   exact⟨o,eo,q⟩
 keep:=λi h h' st k=>by
  obtain⟨⟨old,he⟩,st⟩:=st
  exact⟨⟨old,k e (by simp) _ he⟩,D.keep i h h' st λo eo=>k it (by simp) o eo⟩
 item:=by
  intro X hP hw hK hc i pins s σ H E I hf st hg
  obtain⟨⟨old,he⟩,st⟩:=st
  obtain⟨fp,n,V,St,Dr,hif,hin,hst,hnx,hcl,hval⟩:=D.item X hP hw hK hc i pins s σ H I st hg
  subst hP hw hK
  have hef:e ∉ fp:=λz=>hcl e z _ he rfl
  refine wpAny_pyNext_enum_itemD Dr he hst hin hei hef λx h' tk hV hout hst' hT hsz hk=>⟨_,rfl,wpAny_letOwnedTupleGo_enum hout λh'' he'' hs''=>?_⟩
  obtain⟨y,ry,hy⟩:=hval x hV
  have hTe:s.heap.objs.size ≠ e:=Nat.ne_of_gt (Heap.lt_size he)
  have k2:∀ b u,b ∉ [e,it]->s.heap.get? b=some u->h''.get? b=some u:=λb u hb eb=>by
   have b1:b ≠ e:=λz=>hb (by simp[z])
   have b2:b ≠ it:=λz=>hb (by simp[z])
   exact(hs''.2 b b1).trans (hk b u b1 b2 eb)
  have hT':h''.get? s.heap.objs.size=some { cls:=.type "tuple",data:=.seq #[.int i tk,x] }:=(hs''.2 _ hTe).trans hT
  have new:ObjOk X.prog X.w (upd H s.heap.objs.size (.tup [.int i,y])) h'' s.heap.objs.size (.tup [.int i,y]):=
   ⟨by simp only[List.length_cons,List.length_nil]; rw[sizeLine_eq]; decide,⟨[.int i tk,x],.cons ⟨tk,rfl⟩ (.cons ry .nil),⟨_,hT',rfl,_,rfl⟩⟩,λo q=>by rw[hT'] at q; cases q; rfl⟩
  have I2:Inv X pins σ (upd H s.heap.objs.size (.tup [.int i,y])) { s with heap:=h'',toks:=tk+1 }:=I.drew k2 hf (Nat.le_refl _) new
  refine⟨.ref s.heap.objs.size,_,I2,rfl,⟨_,y,rfl,I.hok.fresh (Nat.le_refl _),rfl,hy⟩,⟨⟨x,by simpa using he''⟩,?_⟩,λb hb=>?_⟩
  ·exact D.keep _ h' h'' (hnx h' hst') λo eo=>(hs''.2 it (Ne.symm hei)).trans eo
  ·have hb':b ≠ s.heap.objs.size:=by
    rcases List.mem_cons.mp hb with z | hb
    ·subst z; exact hTe.symm
    ·have z:b=it:=by simpa using hb
     subst z
     obtain⟨o,eo,_⟩:=D.obj i _ st
     exact Nat.ne_of_lt (Heap.lt_size eo)
   rw[upd_ne hb']
   exact(hf b hb).1
 done:=by
  intro X hP hw hK hc i pins s σ H E I hf st hg
  obtain⟨⟨old,he⟩,st⟩:=st
  obtain⟨fp,n,V,St,Dr,hst⟩:=D.done X hP hw hK hc i pins s σ H I st hg
  subst hP hw hK
  exact wpAny_pyNext_enum_endD Dr he hst λh' hx=>⟨rfl,I.turnedL (t':=s.toks) (λb u hb eb=>hx b u (λz=>hb (by simp[z])) eb) hf⟩
 self:=λ_ _ _ _ _ st h=>by
  obtain⟨⟨old,he⟩,_⟩:=st
  exact wpAny_pyIter_enum he h
end L2
namespace L2
open PySem PySem.Spec PyProof.Rows
open PySem.AutoSeq1 (wpAny_loadPart')
theorem enum_new_tup (l:Addr) (its:Array Value) (n:Nat) (dct:Option Addr) (sl:Array (Option Value)) :
  Meets (Builtin.«enumerate.__new__» ⟨[.type "enumerate",.ref l],[]⟩) (λ_ R s=>s.heap.get? l=some { cls:=.type "tuple",dict:=dct,data:=.seq its n,slots:=sl } /\
   R (.ok (.ret (.ref (s.heap.push { cls:=.type "tuple_iterator",data:=.fields #[.ref l,.int 0 0] }).objs.size)))
    { s with heap:=(s.heap.push { cls:=.type "tuple_iterator",data:=.fields #[.ref l,.int 0 0] }).push { cls:=.type "enumerate",data:=.fields #[.none,.bool false,.ref s.heap.objs.size,rawInt 0,.none,.none] } }):=
 .of_wp λprog w A R s h=>by
  obtain⟨hp,g,d,tk,os⟩:=s; obtain⟨hl,h⟩:=h
  have hsub:=sub_enumerate; have hL:Heap.IsTuple (Shared.heap ⟨hp,g,d,tk,os⟩) l its:=⟨_,hl,rfl,n,rfl⟩
  wp_walk using wpAny_loadPart' hl
  refine wpAny_stack_any λst=>wpAny_pure ?_
  split
  ·rename_i c _ _ _ _ _
   cases (c==Value.type "enumerate") <;> (wp_walk using wpAny_loadPart' hl,wpAny_pyIter_tuple hL; exact⟨_,rfl,h⟩)
  ·wp_walk using wpAny_loadPart' hl,wpAny_pyIter_tuple hL; exact⟨_,rfl,h⟩
section
variable {prog:Program} {w:World} {A:Around} {E:Value->Shared->Prop} {s:Shared}
theorem call_enum_tup {l:Addr} {its:Array Value} {Q:Value->Shared->Prop} (hL:s.heap.IsTuple l its)
  (h:∀ h',IsEnum h' (s.heap.objs.size+1) s.heap.objs.size 0 .none->h'.IsTupleIter s.heap.objs.size l 0->h'.objs.size=s.heap.objs.size+2->(∀ b o,s.heap.get? b=some o->h'.get? b=some o)->Q (.ref (s.heap.objs.size+1)) { s with heap:=h' }) :
  wpAny (model prog w) A (call (.type "enumerate") [.ref l]) Q E s:=by
 obtain⟨⟨c,dct,dt,sl⟩,hl,hc,n,hd⟩:=hL
 replace hc:c=.type "tuple" := hc
 replace hd:dt=.seq its n:=hd
 subst hc hd
 refine callType_new F.called_enumerate (by decide) (F.typeCall_enumerate_1 _) (F.newCall_enumerate_1 _) (λobj=>F.args_object_init_2 obj _) F.entry_enumerate_new (enum_new_tup l its n dct sl) ⟨hl,?_⟩
 have hz:(s.heap.push { cls:=.type "tuple_iterator",data:=.fields #[.ref l,.int 0 0] }).objs.size=s.heap.objs.size+1:=Heap.size_push ..
 show _/\_; rw[hz]
 have he:IsEnum ((s.heap.push { cls:=.type "tuple_iterator",data:=.fields #[.ref l,.int 0 0] }).push { cls:=.type "enumerate",data:=.fields #[.none,.bool false,.ref s.heap.objs.size,rawInt 0,.none,.none] }) (s.heap.objs.size+1) s.heap.objs.size 0 .none:=by
  have:=Heap.get?_push_size (s.heap.push { cls:=.type "tuple_iterator",data:=.fields #[.ref l,.int 0 0] }) (o:={ cls:=.type "enumerate",data:=.fields #[.none,.bool false,.ref s.heap.objs.size,rawInt 0,.none,.none] }) rfl
  rw[hz] at this; exact this
 exact⟨⟨_,he,rfl⟩,h _ he ⟨_,Heap.get?_push_of_some _ (Heap.get?_push_size _ rfl),rfl,rfl⟩ (by rw[Heap.size_push,hz]) λb o x=>Heap.get?_push_of_some _ (Heap.get?_push_of_some _ x)⟩
end
theorem boot_enum:bootBuiltins "enumerate" = some (.type "enumerate"):=by decide +kernel
section
variable {X:Cx} {elts:List Expr} {kk:Nat} {tpos:Pos}
def iEnu (K:PySem.W.Frag) (ta:TA):TI:=λσ H R=>ta σ H λvs H1=>∃ a,vs=[.ref a]/\(((∃ xs,SqL K H1 a xs)/\R (Ite (Itl K a)) H1)\/((∃ xs,SqT K H1 a xs)/\R (Ite (Itt K a)) H1))
theorem pi_enum {a:Expr} {ta:TA} {p pos:Pos} (hg:Gl X "enumerate") (hm:X.mg "enumerate" = none) (ha:PA X [a] ta) (hs:starEach [a] X.env=[(false,eval a X.env)]:=by rfl) :
  PI X (.Tuple elts kk tpos) (.Call (.Name "enumerate" p) [a] [] pos) (iEnu X.K ta):=by
 intro pins s σ H R I h
 refine Call_ (ld_blt I hg hm boot_enum (PyProof.Rows.callWith_type1 (thn (ha pos pins s σ H _ I h) λus s1 ⟨vs,H1,I1,r1,q1⟩=>?_) hs rfl))
 obtain⟨a,rfl,q⟩:=q1
 cases r1 with
 | cons r rr=>
  cases rr
  cases r
  have fin:∀ (J:It) (tn:Nat->Heap->Prop) (h':Heap),IsEnum h' (s1.heap.objs.size+1) s1.heap.objs.size 0 .none->tn 0 h'->(∀ b o,s1.heap.get? b=some o->h'.get? b=some o)->DrawnBy X.prog X.w X.K J s1.heap.objs.size tn->R (Ite J) H1 ->
    wpAny (model X.prog X.w) X.A (pyIter (.ref (s1.heap.objs.size+1))) (PIE X pins σ (.Tuple elts kk tpos) R) X.xe { s1 with heap:=h' }:=by
   intro J tn h' he ht hk D q
   refine wpAny_pyIter_enum he ⟨_,[s1.heap.objs.size+1,s1.heap.objs.size],_,_,H1,rfl,I1.kept (t':=s1.toks) hk,turn_enum D _ (Nat.ne_of_gt (Nat.lt_succ_self _)),⟨⟨_,he⟩,ht⟩,λb hb=>?_,q⟩
   have hb':s1.heap.objs.size<=b:=by
    rcases List.mem_cons.mp hb with z | hb
    ·rw[z]; exact Nat.le_succ _
    ·have z:b=s1.heap.objs.size:=by simpa using hb
     rw[z]; exact Nat.le_refl _
   exact I1.fpOk hb' (I1.hok.fresh hb')
  rcases q with⟨⟨xs,hq⟩,q⟩ | ⟨⟨xs,hq⟩,q⟩
  ·obtain⟨its,rv,pp,hz⟩:=I1.list hq
   exact call_enumerate_list pp.isList λh' he hl hsz hk=>fin _ _ h' he hl hk (drawn_list a _) q
  ·obtain⟨its,rv,pp,hz⟩:=I1.tuple hq
   exact call_enum_tup pp λh' he hl hsz hk=>fin _ _ h' he hl hk (drawn_tup a _) q
end
section
variable {prog:Program} {w:World} {A:Around} {E:Value->Shared->Prop} {s:Shared}
theorem collect_rng {Q:List Value->Shared->Prop} {r:Addr} {a b c:Int} {t u v:Tok} {n:Nat} (hh:A.handled=none) (hr:IsRange s.heap r a b c t u v) (hs:Builtin.Range.small a b c=true) (hn:Builtin.Range.rangeSize a b c=n) (hl:n<=2 ^ 24)
  (hQ:∀ h' tk acc,(∀ b o,s.heap.get? b=some o->h'.get? b=some o)->ItemsOf (λi v=>∃ t,v=.int (a+i*c) t) acc n->Q acc.toList { s with heap:=h',toks:=tk }):wpAny (model prog w) A (collect (.ref r)) Q E s:=by
 unfold collect
 refine wpAny_bind (wpAny_runValue (codeAny_builtin F.entry_proto_collect ?_)); rw[Around.under_plainId F.plain_proto_collect _]
 show wpAny _ A.in1 (newList [] >>= λl=>again (.builtin "list.__iadd__" ⟨[l,.ref r],[]⟩)) _ _ s
 refine wpAny_bind (wpAny_newObj_type ?_); refine wpAny_pure ⟨plainId_quiet F.plain_list_iadd _,codeAny_builtin F.entry_list_iadd ?_⟩
 rw[Around.under_plainId F.plain_list_iadd _]
 have hS:(s.heap.push { cls:=.type "list",data:=.seq ([]:List Value).toArray }).get? s.heap.objs.size=some { cls:=.type "list",data:=.seq #[] }:=Heap.get?_push_size _ rfl
 have fin':∀ s',(∃ h' tk acc' c',s'={ s with heap:=h',toks:=tk }/\(∀ b o,b ≠ s.heap.objs.size->(s.heap.push { cls:=.type "list",data:=.seq ([]:List Value).toArray }).get? b=some o->h'.get? b=some o)/\h'.get? s.heap.objs.size=some { cls:=.type "list",dict:=none,data:=.seq acc' c',slots:=#[] }/\ItemsOf (λi v=>∃ t,v=.int (a+i*c) t) acc' n) ->
   wpAny (model prog w) A (match Value.ref s.heap.objs.size with | Value.ref a=>(do match (<- load a).data with | Data.seq xs _=>pure xs.toList | _=>unsupported "internal:collect") | _=>unsupported "internal:collect") Q E s':=by
  rintro s' ⟨h',tk,acc',c',rfl,hk,hS',hacc⟩
  show wpAny _ A (load s.heap.objs.size >>= _) _ _ _
  exact wpAny_bind (wpAny_load hS' (wpAny_pure (hQ h' tk acc' (λb o e=>hk b o (Nat.ne_of_lt (Heap.lt_size e)) (Heap.get?_push_of_some _ e)) hacc)))
 show wpAny _ A.in1 (Builtin.List.listExtendWith (.ref s.heap.objs.size) (.ref r) (.ref s.heap.objs.size)) _ _ _
 refine wpAny_mono (wpAny_extend_range (A:=A) (R:=λr s'=>r=.ok (.ret (.ref s.heap.objs.size))/\∃ h' tk acc' c',s'={ s with heap:=h',toks:=tk }/\(∀ b o,b ≠ s.heap.objs.size->(s.heap.push { cls:=.type "list",data:=.seq ([]:List Value).toArray }).get? b=some o->h'.get? b=some o)/\h'.get? s.heap.objs.size=some { cls:=.type "list",dict:=none,data:=.seq acc' c',slots:=#[] }/\ItemsOf (λi v=>∃ t,v=.int (a+i*c) t) acc' n)
  (s:={ s with heap:=s.heap.push { cls:=.type "list",data:=.seq ([]:List Value).toArray } }) hh (Heap.get?_push_of_some _ hr) hs hn hl s.heap.objs.size (.ref s.heap.objs.size) 0 hS λh' tk acc' c' hk hS' hacc=>⟨rfl,h',tk,acc',c',rfl,hk,hS',hacc⟩) (λfin s' h=>?_) (λe s' h=>?_)
 ·cases fin with
  | done f=>
   obtain⟨e,h⟩:=h
   cases e
   exact fin' s' h
  | again c'=>exact⟨h.1,codeAny_mono h.2 λr s'' hr=>by obtain⟨rfl,hr⟩:=hr; exact fin' s'' hr⟩
 ·exact absurd h.1 (by simp)
theorem tup_new_rng (r:Addr) (a b c:Int) (t u v:Tok) (n:Nat) (hs:Builtin.Range.small a b c=true) (hn:Builtin.Range.rangeSize a b c=n) (hl:n<=2 ^ 24) (hz:n<=sizeLine) :
  Meets (Builtin.«tuple.__new__» ⟨[.type "tuple",.ref r],[]⟩)
   (λA R s=>A.handled=none/\IsRange s.heap r a b c t u v/\∀ (h':Heap) tk (acc:Array Value),(∀ b o,s.heap.get? b=some o->h'.get? b=some o)->ItemsOf (λi v=>∃ t,v=.int (a+i*c) t) acc n->R (.ok (.ret (.ref h'.objs.size))) { s with heap:=h'.push { cls:=.type "tuple",data:=.seq acc },toks:=tk }):=
 .of_wp λprog w A R s h=>by
  obtain⟨hp,g,d,tk,os⟩:=s; obtain⟨hh,hr,h⟩:=h
  have hsub:=sub_tuple_self; have hinit:=init_tuple_lookup; have hmh:=madeHere_tuple
  have hT:Shared.TypeIs ⟨hp,g,d,tk,os⟩ (.ref r) "range" := ⟨_,hr,rfl⟩
  wp_walk using wpAny_typeOf hT,collect_rng (show A.in1.handled=none from hh) hr hs hn hl
  intro h' tk acc hk hacc
  show wpAny _ _ (Builtin.Tuple.tupleExact acc.toList.toArray >>= λv=>ret v) _ _ _; unfold Builtin.Tuple.tupleExact
  have e:acc.toList.toArray=acc:=by simp
  refine wpAny_bind (wpAny_newObj_type ?_ (by show acc.toList.toArray.size<=sizeLine; rw[e,hacc.1]; exact hz))
  refine wpAny_pure ⟨_,rfl,?_⟩; rw[e]; exact h h' tk acc hk hacc
end
end L2
namespace L2
open PySem PySem.Spec PyProof.Rows
section
variable {prog:Program} {w:World} {A:Around} {E:Value->Shared->Prop} {s:Shared}
theorem call_tup_rng {Q:Value->Shared->Prop} {r:Addr} {a b c:Int} {t u v:Tok} {n:Nat} (hh:A.handled=none) (hr:IsRange s.heap r a b c t u v) (hs:Builtin.Range.small a b c=true) (hn:Builtin.Range.rangeSize a b c=n) (hl:n<=2 ^ 24) (hz:n<=sizeLine)
  (hQ:∀ (h':Heap) tk (acc:Array Value),(∀ b o,s.heap.get? b=some o->h'.get? b=some o)->ItemsOf (λi v=>∃ t,v=.int (a+i*c) t) acc n->Q (.ref h'.objs.size) { s with heap:=h'.push { cls:=.type "tuple",data:=.seq acc },toks:=tk }) :
  wpAny (model prog w) A (call (.type "tuple") [.ref r]) Q E s:=
 callType_new F.called_tuple (by decide) (F.typeCall_tuple_1 _) (F.newCall_tuple_1 _) (λobj=>F.args_object_init_2 obj _) F.entry_tuple_new
  (tup_new_rng r a b c t u v n hs hn hl hz) ⟨hh,hr,λh' tk acc hk hacc=>⟨⟨_,Heap.get?_push_size _ rfl,rfl⟩,hQ h' tk acc hk hacc⟩⟩
end
def rngV (n:Nat):List V:=(List.range n).map λ(i:Nat)=>V.int (i:Int)
theorem vals_rng {acc:Array Value} {n:Nat} (h:ItemsOf (λi v=>∃ t,v=.int (0+(i:Nat)*1) t) acc n):Vals (rngV n) acc.toList:=by
 have hl:acc.toList.length=n:=by simpa using h.1
 have key:∀ (l:List Value) (k:Nat),(∀ (j:Nat) (v:Value),l[j]?=some v->∃ t,v=Value.int ((k+j:Nat):Int) t)->Vals ((List.range' k l.length).map λ(i:Nat)=>V.int (i:Int)) l:=by
  intro l
  induction l with
  | nil=>intro k _; exact .nil
  | cons x l ih=>
   intro k hk
   obtain⟨t,rfl⟩:=hk 0 x rfl
   rw[List.length_cons,List.range'_succ,List.map_cons]
   refine .cons ⟨t,by simp⟩ (ih (k+1) λj v hv=>?_)
   obtain⟨t',e⟩:=hk (j+1) v (by simpa using hv)
   exact⟨t',by rw[e]; congr 1; push_cast; omega⟩
 have:=key acc.toList 0 λj v hv=>by
  obtain⟨t,e⟩:=h.2 j v (by simpa using hv)
  exact⟨t,by rw[e]; congr 1; push_cast; omega⟩
 rw[hl] at this
 simpa [rngV,List.range_eq_range'] using this
def tRngL (tup:Bool) (ta:TA):TE:=λσ H Q=>ta σ H λvs H1=>∃ j:Int,vs=[.int j]/\0<=j/\j<=1000000/\∀ p,H1 p=none->Q (.ref p) (upd H1 p (if tup then .tup (rngV j.toNat) else .lst (rngV j.toNat)))
section
variable {X:Cx}
theorem pe_rngL {tup:Bool} {g:Str} {a:Expr} {ta:TA} {p q pos pos':Pos} (hc:X.calm=true) (hv:bootBuiltins g=some (.type (if tup then "tuple" else "list"))) (hg:Gl X g) (hm:X.mg g=none) (hn:g ≠ "__name__") (hdb:(g==("__debug__" : Str))=false)
  (hgr:Gl X "range") (hmr:X.mg "range" = none) (ha:PA X [a] ta) (hs:starEach [a] X.env=[(false,eval a X.env)]):PE X (.Call (.Name g p) [.Call (.Name "range" q) [a] [] pos'] [] pos) (tRngL tup ta):=by
 intro pins s σ H Q I h
 refine wpAny_Call_Name_kw (ld_blt I hg hm hv ?_ hn hdb)
 refine PyProof.Rows.callWith_type1 ?_ rfl rfl
 show wpAny _ _ (spliced ((false,eval (.Call (.Name "range" q) [a] [] pos') X.env)::[])) _ _ s
 refine Calls.spliced_cons ?_
 refine Call_ (ld_blt I hgr hmr boot_range (PyProof.Rows.callWith_type1 (thn (ha pos' pins s σ H _ I h) λus s1 ⟨vs,H1,I1,r1,q1⟩=>?_) hs rfl))
 obtain⟨j,e,q1,q2,qq⟩:=q1
 subst e
 cases r1 with
 | cons r rr=>
  cases rr
  obtain⟨t,rfl⟩:=r
  refine call_range_1 (Calls.spliced_nil ?_)
  have hn':Builtin.Range.rangeSize 0 j 1=((j.toNat:Nat):Int):=by rw[rangeSize_one]; split <;> omega
  have hsm:Builtin.Range.small 0 j 1=true:=small_one (by omega) (by omega) (by omega) (by omega)
  have hz:j.toNat<=sizeLine:=by rw[sizeLine_eq]; omega
  cases tup with
  | true=>
   refine call_tup_rng (I.ok.hd hc) (IsRange.new ..) hsm hn' (by omega) hz λh' tk acc hk hacc=>?_
   have I2:Inv X pins σ H1 { s1 with heap:=h',toks:=tk }:=I1.kept λb o e=>hk b o (Heap.get?_push_of_some _ e)
   have I3:Inv X pins σ (upd H1 h'.objs.size (.tup (rngV j.toNat))) { s1 with heap:=h'.push { cls:=.type "tuple",data:=.seq acc },toks:=tk }:=
    I2.laid (t':=tk) (λb o e=>Heap.get?_push_of_some _ e) (Nat.le_refl _) ⟨by simpa [rngV] using hz,⟨acc.toList,vals_rng hacc,by have:=IsTup.new h' acc; simpa using this⟩,λo q=>by rw[Heap.get?_push_size _ rfl] at q; cases q; rfl⟩
   exact⟨.ref h'.objs.size,_,I3,rfl,qq _ (I2.hok.fresh (Nat.le_refl _))⟩
  | false=>
   refine call_list_range (I.ok.hd hc) (IsRange.new ..) hsm hn' (by omega) λh' tk acc cc hk hS hacc=>?_
   have hsz:s1.heap.objs.size<=(s1.heap.push { cls:=.type "range",data:=.fields #[.int 0 s1.toks,.int j t,.int 1 (s1.toks+1)] }).objs.size:=by rw[Heap.size_push]; exact Nat.le_succ _
   have I3:=I1.laid (h':=h') (t':=tk) (o:=.lst (rngV j.toNat)) (λb o e=>hk b o (Heap.get?_push_of_some _ e)) hsz ⟨by simpa [rngV] using hz,acc.toList,cc,vals_rng hacc,by simpa using hS⟩
   exact⟨.ref _,_,I3,rfl,qq _ (I1.hok.fresh hsz)⟩
end
end L2
namespace L2
open PySem PySem.Spec PyProof.Rows
open PySem.AutoSeq1 (wpAny_loadPart')
theorem forIn_rng {M:Model} {A:Around} {E:Value->Shared->Prop} {s:Shared} {β:Type} {lo hi:Nat} (f:Nat->β->Sem (ForInStep β)) (I:List Nat->β->Shared->Prop) (Q:β->Shared->Prop)
  (turn:∀ x rest b s,I (x::rest) b s->wpAny M A (f x b) (λr s'=>match r with | .yield b'=>I rest b' s' | .done b'=>Q b' s') E s)
  (fin:∀ b s,I [] b s->Q b s) (b:β) (h:I (List.range' lo (hi-lo)) b s):wpAny M A (forIn [lo:hi] b f) Q E s:=by
 rw[Std.Legacy.Range.forIn_eq_forIn_range']
 have e:([lo:hi]:Std.Legacy.Range).size=hi-lo:=by simp[Std.Legacy.Range.size]
 show wpAny M A (forIn (List.range' lo ([lo:hi]:Std.Legacy.Range).size 1) b f) Q E s
 rw[e]
 exact wpAny_forIn_list f I Q turn fin _ b h
theorem tup_indexAt (l:Addr) (its:Array Value) (n:Nat) (dd:Option Addr) (sl:Array (Option Value)) (x:Value) (e:Value->Bool) (j:Nat) (hj:j<its.size) (hit:e its[j]=true) (hno:∀ m (hm:m<its.size),m<j->e its[m]=false) :
  Meets (Builtin.«tuple.index» ⟨[.ref l,x],[]⟩)
   (λA R s=>s.heap.get? l=some { cls:=.type "tuple",dict:=dd,data:=.seq its n,slots:=sl }/\(∀ y,y ∈ its->SeqAt.EqAt A.in1 s y x (e y))/\R (.ok (.ret (.int j s.toks))) { s with toks:=s.toks+1 }):=
 .of_wp λprog w A R s h=>by
  obtain⟨hp,g,d,tk,os⟩:=s; obtain⟨hl,he,h⟩:=h
  wp_walk using wpAny_loadPart' hl,forIn_rng _ (λrest (b:Option Fin × PUnit) s'=>b.1=none/\s'=⟨hp,g,d,tk,os⟩/\∃ i,rest=List.range' i (its.size-i)/\i<=j) _
  case turn=>
   rintro y rest b s' ⟨hb,rfl,i,hr,hij⟩
   have hlt:i<its.size:=by omega
   rw[show its.size-i=(its.size-(i+1))+1 by omega,List.range'_succ] at hr
   injection hr with e1 e2
   subst e1 e2
   have hi:its[y]?=some its[y]:=by simp[hlt]
   rw[hi]
   refine wpAny_bind (he _ (Array.getElem_mem hlt) prog w _ _ ?_)
   by_cases c:y=j
   ·subst c
    rw[hit]
    wp_walk
    exact⟨_,rfl,h⟩
   ·rw[hno y hlt (by omega)]
    wp_walk
    exact⟨rfl,rfl,y+1,rfl,by omega⟩
  case fin=>
   rintro b s' ⟨hb,rfl,i,hr,hij⟩
   have:(List.range' i (its.size-i)).length=0:=by rw[<- hr]; rfl
   simp at this
   omega
  case h=>exact⟨rfl,rfl,0,by simp,Nat.zero_le _⟩
end L2
namespace HT
open PySem PySem.Spec PyProof.Rows
section
variable {prog:Program} {w:World} {A:Around} {E:Value->Shared->Prop} {s:Shared}
theorem getItem_tuple_whole {t sl:Addr} {items:Array Value} {vl vu:Value} {lo hi:Option Int} {Q:Value->Shared->Prop} (ht:IsTup s.heap t items) (hs:s.heap.IsSliceOf sl vl vu .none) (pl:IsPart vl lo) (pu:IsPart vu hi)
  (hw:sIx items.size 0 lo=0/\sIx items.size items.size hi=items.size) (h:Q (.ref t) s):wpAny (model prog w) A (getItem (.ref t) (.ref sl)) Q E s:=by
 obtain⟨os,hos,hcs,hds⟩:=id hs
 have hTs:s.TypeIs (.ref sl) "slice" := ⟨os,hos,hcs⟩
 unfold getItem
 try with_reducible refine wpAny_holding ?_
 first | refine wpAny_bind (wpAny_pure ?_) | skip
 refine wpAny_bind (wpAny_sequenceKey ht.typeIs (by decide) ?_)
 refine wpAny_bind (wpAny_callSpecial?_slot (name:=Str.ofString "__getitem__") ht.typeIs PyProof.Rows.slot_tuple_getitem
  (wpAny_call_entry PyProof.Rows.slot_tuple_getitem ht.typeIs entry_tuple_getitem ?_ (args_tuple_getitem _ _)))
 show wpAny _ _ (Builtin.Tuple.tupleItemsOf (.ref t) >>= _) _ _ s
 refine wpAny_bind (tupleItemsOf_ ht ?_)
 refine wpAny_bind (wpAny_typeOf hTs ?_)
 rw[if_pos (by decide)]
 refine wpAny_bind (sliceApplied_gen hs pl pu ?_)
 have hyes:((((sIx items.size 0 lo:Nat):Int)==0&&(1:Int)==1&&(sIx items.size items.size hi-sIx items.size 0 lo)==items.size)=true):=by
  rw[hw.1,hw.2]
  simp
 show wpAny _ _ (if (((sIx items.size 0 lo:Nat):Int)==0&&(1:Int)==1&&(sIx items.size items.size hi-sIx items.size 0 lo)==items.size)=true then _ else _) _ _ s
 rw[if_pos hyes]
 refine wpAny_bind ?_
 unfold Builtin.Tuple.tupleIsExact
 first
  | refine wpAny_bind (wpAny_typeOf ht.typeIs (wpAny_pure ?_))
  | (refine wpAny_typeOf ht.typeIs ?_)
 rw[if_pos (by decide)]
 exact wpAny_bind (wpAny_rule (wpAny_pure ⟨_,rfl,wpAny_pure h⟩))
end
end HT
namespace L2
open PySem PySem.Spec PyProof.Rows
variable {X:Cx}
def rSlW (K:PySem.W.Frag):V->Option Int->Option Int->Hp->VK->Prop:=λx lo hi H Q=>∃ a xs,x=.ref a/\SqT K H a xs/\(HT.sIx xs.length 0 lo=0/\HT.sIx xs.length xs.length hi=xs.length)/\Q (.ref a) H
theorem sl_tupW:SlR X (rSlW X.K):=by
 intro pins s σ H x v vl vu lo hi sl Q I rx hs pl pu h
 obtain⟨a,xs,rfl,hx,hw,q⟩:=h
 cases rx
 obtain⟨its,r,ht,hz⟩:=I.tuple hx
 have hlen:its.toArray.size=xs.length:=by rw[List.size_toArray]; exact r.length.symm
 refine⟨"tuple",_,PyProof.Rows.slot_tuple_getitem.lookup,ht.typeIs,?_⟩
 exact HT.getItem_tuple_whole ht hs pl pu (by rw[hlen]; exact hw) ⟨.ref a,H,I,rfl,q⟩
section
variable {M:Model} {A:Around} {E:Value->Shared->Prop}
structure CellsOk (n0:Nat) (cl:List (Str × Addr)) (Cn:Str->Prop) (h:Heap) (cs:List (Str × Addr)):Prop where
 at':∀ x c,cs.lookup x=some c->(Cn x/\n0<c/\c<h.objs.size/\h.IsCell c none)\/cl.lookup x=some c
 inj:∀ x y c,cs.lookup x=some c->cs.lookup y=some c->x=y
 old:∀ x c,cl.lookup x=some c->∃ c',cs.lookup x=some c'
theorem cells_go {n0:Nat} {cl:List (Str × Addr)} {Cn:Str->Prop} (hcl:∀ x c,cl.lookup x=some c->c<n0) {k:List (Str × Addr)->Sem Env} {Q:Env->Shared->Prop}:∀ (names:List (Str × NameKind)) (acc:List (Str × Addr)) (s:Shared),(∀ y ∈ names,y.2=.cell->Cn y.1)->n0<s.heap.objs.size->CellsOk n0 cl Cn s.heap acc ->
  (∀ h' cs,(∀ b o,s.heap.get? b=some o->h'.get? b=some o)->CellsOk n0 cl Cn h' cs->(∀ y ∈ names,y.2=.cell->∃ c,cs.lookup y.1=some c)->(∀ x c,acc.lookup x=some c->∃ c',cs.lookup x=some c')->wpAny M A (k cs) Q E { s with heap:=h' }) ->
  wpAny M A ((forIn names acc λ(x:Str × NameKind) (r:List (Str × Addr))=>match x with | (name,kind)=>if (kind==NameKind.cell)=true then do let c <- alloc { cls:=Value.type "cell",data:=Data.cell none }; pure (ForInStep.yield ((name,c)::r)) else pure (ForInStep.yield r)) >>= k) Q E s
 | [],acc,s,_,_,ok,h=>by
  rw[List.forIn_nil]
  refine wpAny_bind (wpAny_pure ?_)
  exact h s.heap acc (λ_ _ z=>z) ok (λy hy=>nomatch hy) (λx c z=>⟨c,z⟩)
 | (nm,kd)::r,acc,s,hn,hs,ok,h=>by
  rw[List.forIn_cons,bind_assoc]
  by_cases hk:kd=.cell
  ·subst hk
   simp only[beq_self_eq_true,if_true]
   refine wpAny_bind (wpAny_bind (wpAny_alloc (wpAny_pure ?_)))
   have hcn:Cn nm:=hn (nm,.cell) List.mem_cons_self rfl
   have look:∀ x c,((nm,s.heap.objs.size)::acc).lookup x=some c->(x=nm/\c=s.heap.objs.size)\/(x ≠ nm/\acc.lookup x=some c):=λx c z=>by
    rw[List.lookup_cons] at z
    cases e:x==nm with
    | true=>rw[e] at z; cases z; exact .inl ⟨eq_of_beq e,rfl⟩
    | false=>rw[e] at z; exact .inr ⟨λy=>(by rw[y,beq_self_eq_true] at e; cases e),z⟩
   have sz:(s.heap.push { cls:=Value.type "cell",data:=Data.cell none }).objs.size=s.heap.objs.size+1:=Heap.size_push _ _
   have lt:∀ x c,acc.lookup x=some c->c<s.heap.objs.size:=λx c z=>by
    rcases ok.at' x c z with y | y
    ·exact y.2.2.1
    ·exact Nat.lt_trans (hcl x c y) hs
   refine cells_go hcl r ((nm,s.heap.objs.size)::acc) { s with heap:=s.heap.push { cls:=Value.type "cell",data:=Data.cell none } } (λy hy=>hn y (List.mem_cons_of_mem _ hy)) (by rw[sz]; exact Nat.lt_succ_of_lt hs) ⟨λx c z=>?_,λx y c z1 z2=>?_,λx c z=>?_⟩ λh' cs k1 ok' k2 k3=>?_
   ·rcases look x c z with⟨rfl,rfl⟩ | ⟨_,z'⟩
    ·exact .inl ⟨hcn,hs,by rw[sz]; exact Nat.lt_succ_self _,_,Heap.get?_push_size _ rfl,rfl⟩
    ·rcases ok.at' x c z' with⟨y1,y2,y3,o,y4,y5⟩ | y
     ·exact .inl ⟨y1,y2,by rw[sz]; exact Nat.lt_succ_of_lt y3,o,Heap.get?_push_of_some _ y4,y5⟩
     ·exact .inr y
   ·rcases look x c z1 with⟨e1,e2⟩ | ⟨e1,z1'⟩
    ·rcases look y c z2 with⟨e3,e4⟩ | ⟨e3,z2'⟩
     ·rw[e1,e3]
     ·exact absurd (lt y c z2') (by rw[e2]; exact Nat.lt_irrefl _)
    ·rcases look y c z2 with⟨e3,e4⟩ | ⟨e3,z2'⟩
     ·exact absurd (lt x c z1') (by rw[e4]; exact Nat.lt_irrefl _)
     ·exact ok.inj x y c z1' z2'
   ·obtain⟨c',z'⟩:=ok.old x c z
    rw[List.lookup_cons]
    cases e:x==nm with
    | true=>exact⟨_,rfl⟩
    | false=>exact⟨c',z'⟩
   ·refine h h' cs (λb o e=>k1 b o (Heap.get?_push_of_some _ e)) ok' (λy hy hc=>?_) (λx c z=>?_)
    ·rcases List.mem_cons.mp hy with rfl | hy
     ·exact k3 _ s.heap.objs.size (by rw[List.lookup_cons,beq_self_eq_true])
     ·exact k2 y hy hc
    ·cases e:x==nm with
     | true=>exact k3 x s.heap.objs.size (by rw[List.lookup_cons,e])
     | false=>exact k3 x c (by rw[List.lookup_cons,e]; exact z)
  ·have hb:(kd==NameKind.cell)=false:=by simpa using hk
   simp only[hb,Bool.false_eq_true,if_false,pure_bind]
   refine cells_go hcl r acc s (λy hy=>hn y (List.mem_cons_of_mem _ hy)) hs ok λh' cs k1 ok' k2 k3=>h h' cs k1 ok' (λy hy hc=>?_) k3
   rcases List.mem_cons.mp hy with rfl | hy
   ·exact absurd hc hk
   ·exact k2 y hy hc
theorem newEnv_cells {s:Shared} {scope:Scope} {globals:Addr} {cl:List (Str × Addr)} {qual:Str} {env:Env} {Q:Env->Shared->Prop} (hcl:∀ x c,cl.lookup x=some c->c<s.heap.objs.size) (hinj:∀ x y c,cl.lookup x=some c->cl.lookup y=some c->x=y)
  (h:∀ h' cs,(∀ b o,s.heap.get? b=some o->h'.get? b=some o)->h'.Ns s.heap.objs.size (λ_=>none)->CellsOk s.heap.objs.size cl (λx=>(x,NameKind.cell) ∈ scope.names) h' cs->(∀ y ∈ scope.names,y.2=.cell->∃ c,cs.lookup y.1=some c) ->
   Q (newEnv scope s.heap.objs.size globals cs qual none .none (some env) builtinsNs) { s with heap:=h' }) :
  wpAny M A (newFunctionEnv scope globals cl [] qual none .none (some env)) Q E s:=by
 unfold newFunctionEnv
 refine wpAny_bind (wpAny_alloc ?_)
 have sz:(s.heap.push { cls:=Value.type "dict",data:=Data.dict #[] }).objs.size=s.heap.objs.size+1:=Heap.size_push _ _
 refine cells_go (n0:=s.heap.objs.size) (cl:=cl) (Cn:=λx=>(x,NameKind.cell) ∈ scope.names) hcl scope.names cl { s with heap:=s.heap.push { cls:=Value.type "dict",data:=Data.dict #[] } } (λy hy hc=>by rw[<- hc]; exact hy) (by rw[sz]; exact Nat.lt_succ_self _) ⟨λx c z=>.inr z,hinj,λx c z=>⟨c,z⟩⟩ λh' cs k1 ok k2 k3=>?_
 refine wpAny_bind (wpAny_pure ?_)
 exact wpAny_pure (h h' cs (λb o e=>k1 b o (Heap.get?_push_of_some _ e)) ((Heap.Ns.new s.heap _).keeps k1) ok k2)
end
section
variable {X:Cx} {pins:List (Addr × Obj)} {σ:L2.St} {H:Hp} {s:Shared}
theorem Inv.others (I:Inv X pins σ H s) {ch:List Addr} (fb:∀ b ∈ ch,FpOk X pins H b) {h':Heap} {t':Nat} (k:∀ b u,b ≠ X.env.locals->b ∉ ch->s.heap.get? b=some u->h'.get? b=some u) (ns:∀ m,s.heap.Ns X.env.locals m->h'.Ns X.env.locals m):Inv X pins σ H { s with heap:=h',toks:=t' }:=by
 have trk:∀ b u,H b=some u->b ≠ X.env.locals/\b ∉ ch:=λb u e=>⟨λz=>(by rw[z,I.free] at e; cases e),λz=>(by rw[(fb b z).1] at e; cases e)⟩
 refine I.step (g':=s.gens) (d':=s.drawn) (ch:=ch) (λb hb=>?_) (λb u hL _ hc e _=>k b u hL hc e) (λb u hL _ hc e _=>⟨u.slots,k b u hL hc e⟩) (λb u _ e n=>n) (λb u hc e=>?_)
  (λb xs e=>e) (λb u v e=>e) (λb ps e=>⟨#[],by simpa using e⟩) ns (λb u e=>?_) I.bare
 ·obtain⟨f1,f2,f3,f4,f5,f6⟩:=fb b hb
  exact⟨f4,f2,f5,f6⟩
 ·by_cases hL:b=X.env.locals
  ·subst hL
   obtain⟨m,hm,_⟩:=I.loc
   obtain⟨o',_,_,ho',_⟩:=ns m hm
   exact⟨o',ho'⟩
  ·exact⟨u,k b u hL hc e⟩
 ·refine(I.hok b u e).stay (λc v hc q=>k c v ?_ ?_ q) (λc q=>q) (λc xs q=>q) (λc o u q=>q)
  ·rcases hc with z | z
   ·rw[z]; exact(trk b u e).1
   ·exact(trk c _ z).1
  ·rcases hc with z | z
   ·rw[z]; exact(trk b u e).2
   ·exact(trk c _ z).2
theorem ns_one {h:Heap} {a:Addr} {m m':Str->Option Value} (n:h.Ns a m) (n':h.Ns a m'):m=m':=by
 obtain⟨o,es,ep,ho,hd,_,hm⟩:=n
 obtain⟨o',es',ep',ho',hd',_,hm'⟩:=n'
 rw[ho] at ho'
 cases ho'
 rw[hd] at hd'
 cases hd'
 funext x
 rw[<- hm x,<- hm' x]
theorem Inv.walked (I:Inv X pins σ H s) {h':Heap} {t':Nat} {m:Str->Option Value} (hm:s.heap.Ns X.env.locals m) (F:Fr (Att.noObjs s.heap) X.env.locals h' m) (N:News (Att.noObjs s.heap) X.env.locals h' (allNews (Att.noObjs s.heap) s.heap X.env.locals)):Inv X pins σ H { s with heap:=h',toks:=t' }:=
 I.others (ch:=[]) (λb hb=>nomatch hb) (λb u hL _ e=>(N (b,u) (mem_allNews hL (Att.noObjs_get _ _) e)).1) λm' hm'=>by rw[ns_one hm' hm]; exact F.ns
end
theorem dict_mapF (o:Obj) (f):(o.mapFields f).dict=o.dict:=by
 unfold Obj.mapFields
 split <;> rfl
def TrX (h base:Heap) (e:Addr) (c:Value) (d:Option Addr) (fl:Value):Prop:=
 ∃ oe vs T oT ts,h.get? e=some oe/\(oe.cls=c/\oe.dict=d/\(d ≠ none->vs[2]?=some .none))/\oe.data=.fields vs/\vs[1]?=some (.ref T)/\base.get? T=none/\T ≠ e/\h.get? T=some oT/\oT.data=.fields ts/\ts[3]?=some fl
structure NtX (base:Heap) (l:List Env) (e:Addr) (c:Value) (d:Option Addr) (fl:Value) (h h':Heap):Prop where
 st:base.StaysIn h'
 ff:h'.FunFrames base l
 tr:TrX h' base e c d fl
 sl:h.UpToSlots h'
section
variable {M:Model} {A:Around} {E:Value->Shared->Prop} {s:Shared} {base:Heap} {env:Env} {outer:List Env} {L e:Addr} {c:Value} {d:Option Addr} {Q:Unit->Shared->Prop}
theorem entryX {oe:Obj} {vs:Array Value} {head:Value} {hadNext:Bool} (hfr:A.frames=some (env::outer)) (hl:s.heap.FunFrames base (env::outer)) (hf:env.frame=some L)
  (he:s.heap.get? e=some oe) (hkb:base.StaysIn s.heap) (hen:base.get? e=none) (hd:oe.data=.fields vs) (hsz:1<vs.size) (h0:oe.cls=c/\oe.dict=d/\(d ≠ none->vs[2]?=some .none))
  (h:∀ h',NtX base (env::outer) e c d (rawInt L) s.heap h'->Q () { s with heap:=h' }) :
  wpAny M A (do let a <- frameOf env; let pl <- entryPlaceOf L hadNext; let b <- EntryCells.newEntry head a .none (rawInt L) .none pl; setField (.ref e) 1 b) Q E s:=by
 have hene:e ∉ (env::outer).filterMap (·.frame):=λhm=>by
  obtain⟨_,o,ho,hnf⟩:=hl.mem hm
  rw[he] at ho
  cases ho
  exact hnf vs hd
 refine wpAny_bind (wpAny_frameOf_fun hfr hl hf λh1 hs=>?_)
 refine wpAny_bind (wpAny_entryPlaceOf λpl hpl=>?_)
 unfold EntryCells.newEntry newFields
 refine wpAny_bind (wpAny_newObj_type ?_ (hpl.sizeOk5 _ _ _ _ _))
 have he1:h1.get? e=some oe:=(hs.2.1 e hene).trans he
 have kb1:base.StaysIn h1:=λb o q=>(hs.2.1 b λhm=>by rw[(hl.mem hm).1] at q; cases q).trans (hkb b o q)
 generalize hoT:({ cls:=.type "traceback",dict:=none,data:=.fields ([head,.ref L,.none,rawInt L,.none]++(if pl.isEmpty then List.replicate 6 Value.none else pl)).toArray }:Obj)=oT
 have hdT:oT.data=.fields ([head,.ref L,.none,rawInt L,.none]++(if pl.isEmpty then List.replicate 6 Value.none else pl)).toArray:=by rw[<- hoT]
 have he2:=Heap.get?_push_of_some (h:=h1) oT he1
 refine wpAny_setField he2 hd hsz (h _ ?_)
 have ne:h1.objs.size ≠ e:=Nat.ne_of_gt (Heap.lt_size he1)
 have hd3:=Obj.data_mapFields hd (·.setIfInBounds 1 (Value.ref h1.objs.size))
 have he3:=Heap.get?_update_self (Obj.mapFields (·.setIfInBounds 1 (Value.ref h1.objs.size))) he2 (Obj.isFreed_of_fields hd3)
 have hT3:=(Heap.get?_update_other (h1.push oT) (Obj.mapFields (·.setIfInBounds 1 (Value.ref h1.objs.size))) (Ne.symm ne)).trans (Heap.get?_push_size h1 (Obj.isFreed_of_fields hdT))
 have keep:∀ b o,b ≠ e->h1.get? b=some o->((h1.push oT).update e (Obj.mapFields (·.setIfInBounds 1 (Value.ref h1.objs.size)))).get? b=some o:=λb o hbe hb=>by
  rw[Heap.get?_update_other _ _ (Ne.symm hbe)]
  exact Heap.get?_push_of_some _ hb
 have nr:∀ b o,s.heap.get? b=some o->(∀ vs,o.data ≠ .fields vs)->b ≠ e:=λb o hb hnf q=>by
  rw[q,he] at hb
  cases hb
  exact hnf vs hd
 refine⟨λb o q=>keep b o (λz=>by rw[z,hen] at q; cases q) (kb1 b o q),hl.of_keeps λb o hb hnf=>?_,?_,λb o hb hnf=>?_⟩
 ·obtain⟨sl,q⟩:=hs.2.2 b o hb
  exact⟨_,keep b _ (nr b o hb hnf) q,rfl⟩
 ·exact⟨_,_,h1.objs.size,_,_,he3,⟨(Obj.cls_mapFields _ _).trans h0.1,(dict_mapF _ _).trans h0.2.1,λz=>by rw[Array.getElem?_setIfInBounds_ne (by decide)]; exact h0.2.2 z⟩,hd3,by simp[hsz],kb1.fresh,ne,hT3,hdT,by first | (simp; done) | (rcases hpl with rfl | ⟨_,_,_,_,_,_,_,rfl⟩ <;> simp)⟩
 ·obtain⟨sl,q⟩:=hs.2.2 b o hb
  exact⟨sl,keep b _ (nr b o hb hnf) q⟩
theorem note_firstX {oe:Obj} {vs:Array Value} (hfr:A.frames=some (env::outer)) (hl:s.heap.FunFrames base (env::outer)) (hf:env.frame=some L)
  (he:s.heap.get? e=some oe) (hkb:base.StaysIn s.heap) (hen:base.get? e=none) (hd:oe.data=.fields vs) (h1:vs[1]?=some .none) (h0:oe.cls=c/\oe.dict=d/\(d ≠ none->vs[2]?=some .none))
  (h:∀ h',NtX base (env::outer) e c d (rawInt L) s.heap h'->Q () { s with heap:=h' }):wpAny M A (noteFrame (.ref e) env) Q E s:=by
 unfold noteFrame
 simp only[hf]
 refine wpAny_bind (wpAny_field he hd h1 ?_)
 rw[if_neg (by decide)]
 exact entryX hfr hl hf he hkb hen hd (Array.getElem?_eq_some_iff.mp h1).1 h0 h
theorem note_onX (hfr:A.frames=some (env::outer)) (hl:s.heap.FunFrames base (env::outer)) (hf:env.frame=some L) (ht:TrX s.heap base e c d .none) (hkb:base.StaysIn s.heap) (hen:base.get? e=none)
  (h:∀ h',NtX base (env::outer) e c d (rawInt L) s.heap h'->Q () { s with heap:=h' }):wpAny M A (noteFrame (.ref e) env) Q E s:=by
 obtain⟨oe,vs,T,oT,ts,he,h0,hd,h1,hnT,hTe,hT,hdT,h3⟩:=ht
 unfold noteFrame
 simp only[hf]
 refine wpAny_bind (wpAny_field he hd h1 ?_)
 rw[if_pos (show (Value.ref T != Value.none)=true from by simp)]
 refine wpAny_bind (wpAny_field hT hdT h3 ?_)
 rw[if_neg (show ¬ ((Value.none==rawInt L)=true) from by simp[rawInt])]
 refine wpAny_bind (wpAny_setField hT hdT (Array.getElem?_eq_some_iff.mp h3).1 ?_)
 have oth:∀ b,b ≠ T->(s.heap.update T (Obj.mapFields (·.setIfInBounds 3 Value.none))).get? b=s.heap.get? b:=λb hb=>Heap.get?_update_other _ _ (Ne.symm hb)
 have nr:∀ b o,s.heap.get? b=some o->(∀ vs,o.data ≠ .fields vs)->b ≠ T:=λb o hb hnf q=>by
  rw[q,hT] at hb
  cases hb
  exact hnf ts hdT
 refine entryX hfr (hl.of_keeps λb o hb hnf=>⟨o,(oth b (nr b o hb hnf)).trans hb,rfl⟩) hf ((oth e (Ne.symm hTe)).trans he)
  (λb o q=>(oth b λz=>by rw[z,hnT] at q; cases q).trans (hkb b o q)) hen hd (Array.getElem?_eq_some_iff.mp h1).1 h0
  λh' x=>h h' ⟨x.st,x.ff,x.tr,λb o hb hnf=>x.sl b o ((oth b (nr b o hb hnf)).trans hb) hnf⟩
theorem flight_noneX {l:List Env} {fl:Value} (hkb:base.StaysIn s.heap) (hl:s.heap.FunFrames base l) (ht:TrX s.heap base e c d fl)
  (h:∀ h',NtX base l e c d .none s.heap h'->Q () { s with heap:=h' }):wpAny M A (setFlight (.ref e) none) Q E s:=by
 obtain⟨oe,vs,T,oT,ts,he,h0,hd,h1,hnT,hTe,hT,hdT,h3⟩:=ht
 have hsz3:3<ts.size:=(Array.getElem?_eq_some_iff.mp h3).1
 have oth:∀ b,b ≠ T->(s.heap.update T (Obj.mapFields (·.setIfInBounds 3 ((none:Option Addr).elim Value.none λf=>rawInt f)))).get? b=s.heap.get? b:=λb hb=>Heap.get?_update_other _ _ (Ne.symm hb)
 have nr:∀ b o,s.heap.get? b=some o->(∀ vs,o.data ≠ .fields vs)->b ≠ T:=λb o hb hnf q=>by
  rw[q,hT] at hb
  cases hb
  exact hnf ts hdT
 unfold setFlight
 refine wpAny_bind (wpAny_field he hd h1 ?_)
 rw[if_pos (show (Value.ref T != Value.none)=true from by simp)]
 refine wpAny_setField hT hdT hsz3 (h _ ⟨λb o q=>(oth b λz=>by rw[z,hnT] at q; cases q).trans (hkb b o q),hl.of_keeps λb o hb hnf=>⟨o,(oth b (nr b o hb hnf)).trans hb,rfl⟩,?_,λb o hb hnf=>⟨o.slots,(oth b (nr b o hb hnf)).trans hb⟩⟩)
 exact⟨oe,vs,T,_,_,(oth e (Ne.symm hTe)).trans he,h0,hd,h1,hnT,hTe,Heap.get?_update_self _ hT (Obj.isFreed_of_fields (Obj.data_mapFields hdT _)),Obj.data_mapFields hdT _,by simp[hsz3]⟩
theorem leave_firstX {oe:Obj} {vs:Array Value} (hfr:A.frames=some (env::outer)) (hl:s.heap.FunFrames base (env::outer)) (hf:env.frame=some L)
  (he:s.heap.get? e=some oe) (hkb:base.StaysIn s.heap) (hen:base.get? e=none) (hd:oe.data=.fields vs) (h1:vs[1]?=some .none) (h0:oe.cls=c/\oe.dict=d/\(d ≠ none->vs[2]?=some .none))
  (h:∀ h',NtX base (env::outer) e c d .none s.heap h'->Q () { s with heap:=h' }):wpAny M A (leaving env (.ref e)) Q E s:=by
 unfold leaving
 exact wpAny_bind (note_firstX hfr hl hf he hkb hen hd h1 h0 λh2 x=>flight_noneX (s:={ s with heap:=h2 }) x.st x.ff x.tr λh3 y=>h h3 ⟨y.st,y.ff,y.tr,x.sl.trans y.sl⟩)
theorem leave_nextX (hfr:A.frames=some (env::outer)) (hl:s.heap.FunFrames base (env::outer)) (hf:env.frame=some L) (ht:TrX s.heap base e c d .none) (hkb:base.StaysIn s.heap) (hen:base.get? e=none)
  (h:∀ h',NtX base (env::outer) e c d .none s.heap h'->Q () { s with heap:=h' }):wpAny M A (leaving env (.ref e)) Q E s:=by
 unfold leaving
 exact wpAny_bind (note_onX hfr hl hf ht hkb hen λh2 x=>flight_noneX (s:={ s with heap:=h2 }) x.st x.ff x.tr λh3 y=>h h3 ⟨y.st,y.ff,y.tr,x.sl.trans y.sl⟩)
end
def Flies (h:Heap) (e:Addr) (C:Value) (dx:Option Addr) (T:Addr):Prop:=
 ∃ oe vs oT ts,h.get? e=some oe/\(oe.cls=C/\oe.dict=dx/\(dx ≠ none->vs[2]?=some .none))/\oe.data=.fields vs/\vs[1]?=some (.ref T)/\T ≠ e/\h.get? T=some oT/\oT.data=.fields ts/\ts[3]?=some .none
def CXx (P:Program) (w:World):CXT:=λouter H s E e s'=>∃ a C dx T H',e=.ref a/\s'.os=s.os/\AllBare s'.gens/\Un (frs outer) [] H H' s.heap s'.heap/\HOk P w H' s'.heap /\
 Flies s'.heap a C dx T/\(H' a=none/\H' T=none)/\(s.heap.get? a=none/\s.heap.get? T=none)/\E C dx H'
theorem passX0 {P:Program} {w:World} {X:Cx}:Passes (CXx P w) X E0:=λ_ _ _ _ _ _ _ h=>by
 obtain⟨_,_,_,_,_,_,_,_,_,_,_,_,_,z⟩:=h
 exact z.elim
theorem ObjOk.there {P:Program} {w:World} {H:Hp} {h:Heap} {a:Addr} {o:HO} (x:ObjOk P w H h a o):∃ u,h.get? a=some u:=by
 cases o with
 | lst xs=>obtain⟨_,_,_,_,e⟩:=x; exact⟨_,e⟩
 | tup xs=>obtain⟨_,⟨_,_,o,e,_⟩,_⟩:=x; exact⟨_,e⟩
 | dK kvs=>obtain⟨_,_,_,_,o,_,_,e,_⟩:=x; exact⟨_,e⟩
 | dT kvs=>obtain⟨_,_,_,_,o,_,_,e,_⟩:=x; exact⟨_,e⟩
 | set S n=>obtain⟨o,_,_,_,e,_⟩:=x; exact⟨_,e⟩
 | ins C dx fs=>obtain⟨_,_,_,e,_⟩:=x; exact⟨_,e⟩
 | own y=>obtain⟨_,e⟩:=x; exact⟨_,e⟩
 | xd fs=>obtain⟨_,⟨_,_,_,e,_⟩,_⟩:=x; exact⟨_,e⟩
 | rng lo hi=>obtain⟨_,_,_,e⟩:=x; exact⟨_,e⟩
 | frz ob u=>obtain⟨e,_⟩:=x; exact⟨_,e⟩
 | tbl ps=>obtain⟨_,e,_⟩:=x; exact⟨_,e⟩
 | met f y=>exact⟨_,(show h.get? a=some _ from x)⟩
 | ext φ=>obtain⟨_,e,_⟩:=x; exact e
theorem HOk.none {P:Program} {w:World} {H:Hp} {h:Heap} {a:Addr} (x:HOk P w H h) (e:h.get? a=none):H a=none:=by
 cases q:H a with
 | none=>rfl
 | some o=>
  obtain⟨u,z⟩:=(x a o q).there
  rw[e] at z
  cases z
theorem funFrames_of {h h' base base':Heap}:∀ {l:List Env},h.FunFrames base l->(∀ b ∈ frs l,base'.get? b=none)->(∀ b ∈ frs l,∀ o,h.get? b=some o->∃ o',h'.get? b=some o'/\o'.data=o.data)->h'.FunFrames base' l
 | [],_,_,_=>trivial
 | env::rest,⟨hk,⟨L,o,hf,hn,ho,hd⟩,hr⟩,n,k=>by
  have e:frs (env::rest)=L::frs rest:=by unfold frs; rw[List.filterMap_cons,hf]
  rw[e] at n k
  obtain⟨o',ho',hd'⟩:=k L List.mem_cons_self o ho
  exact⟨hk,⟨L,o',hf,n L List.mem_cons_self,ho',λvs=>hd' ▸ hd vs⟩,funFrames_of hr (λb hb=>n b (List.mem_cons_of_mem _ hb)) λb hb=>k b (List.mem_cons_of_mem _ hb)⟩
section
variable {P:Program} {w:World} {fs hs:List Addr} {H H1:Hp} {h h1 h2:Heap}
theorem stays_hide {l:List Addr}:(PySem.W.hideAll h l).StaysIn h:=λb o q=>PySem.W.of_hideAll _ q
theorem un_left (u:Un fs [] H H1 h h1) (hn:∀ b ∈ hs,h.get? b=none) (st:(PySem.W.hideAll h1 (hs++fs)).StaysIn h2) (sl:h1.UpToSlots h2) (ff:∀ b ∈ fs,∃ o,h1.get? b=some o/\∀ vs,o.data ≠ .fields vs):Un fs [] H H1 h h2 where
 keep:=λb o q n hb hx=>st b o (PySem.W.hideAll_get _ (u.keep b o q n hb hx) λz=>(List.mem_append.mp z).elim (λz=>by rw[hn b z] at q; cases q) hb)
 slot:=λb o q n hb hx=>by
  obtain⟨sl1,e1⟩:=u.slot b o q n hb hx
  obtain⟨o',e2,nf⟩:=ff b hb
  rw[e1] at e2
  cases e2
  obtain⟨sl2,e3⟩:=sl b _ e1 nf
  exact⟨sl2,e3⟩
 free:=u.free
 there:=λb o q hx=>by
  obtain⟨o',e⟩:=u.there b o q hx
  by_cases hb:b ∈ fs
  ·obtain⟨o2,e2,nf⟩:=ff b hb
   obtain⟨sl2,e3⟩:=sl b _ e2 nf
   exact⟨_,e3⟩
  ·exact⟨o',st b o' (PySem.W.hideAll_get _ e λz=>(List.mem_append.mp z).elim (λz=>by rw[hn b z] at q; cases q) hb)⟩
 tups:=u.tups
 frzs:=u.frzs
 tbls:=u.tbls
theorem hok_left (ok:HOk P w H1 h1) (hn:∀ b ∈ hs++fs,H1 b=none) (st:(PySem.W.hideAll h1 (hs++fs)).StaysIn h2):HOk P w H1 h2:=λa o e=>
 (ok a o e).stay (λb u hb q=>st b u (PySem.W.hideAll_get _ q λz=>by
  have:=hn b z
  rcases hb with rfl | hb
  ·rw[this] at e; cases e
  ·rw[this] at hb; cases hb)) (λ_ q=>q) (λ_ _ q=>q) λ_ _ _ q=>q
end
section
variable {X:Cx} {pins:List (Addr × Obj)} {σ:St} {H H1:Hp} {s s1:Shared} {hs:List Addr} {h2:Heap}
theorem frames_left (I:Inv X pins σ H s) (u:Un (frs X.stack) [] H H1 s.heap s1.heap):s1.heap.FunFrames X.base X.stack:=
 funFrames_of I.stack (λb hb=>(I.stack.mem hb).1) λb hb o q=>by
  obtain⟨sl,e⟩:=u.slot b o q (I.stkFree b hb) hb (by simp)
  exact⟨_,e,rfl⟩
theorem Inv.flew (I:Inv X pins σ H s) (os:s1.os=s.os) (bare:AllBare s1.gens) (u:Un (frs X.stack) [] H H1 s.heap s1.heap) (ok:HOk X.prog X.w H1 s1.heap) (hn:∀ b ∈ hs,s.heap.get? b=none/\H1 b=none)
  (st:(PySem.W.hideAll s1.heap (hs++frs X.stack)).StaysIn h2) (sl:s1.heap.UpToSlots h2):Inv X pins σ H1 { s1 with heap:=h2 }:=by
 have ff:∀ b ∈ frs X.stack,∃ o,s1.heap.get? b=some o/\∀ vs,o.data ≠ .fields vs:=λb hb=>((frames_left I u).mem hb).2
 have fn:∀ b ∈ frs X.stack,H1 b=none:=λb hb=>by
  obtain⟨_,o,q,_⟩:=I.stack.mem hb
  exact u.free b o q (I.stkFree b hb) (by simp)
 exact I.call' (s':={ s1 with heap:=h2 }) os (un_left u (λb hb=>(hn b hb).1) st sl ff) (hok_left ok (λb hb=>(List.mem_append.mp hb).elim (λz=>(hn b z).2) (fn b)) st) bare λb z=>absurd z (by simp)
theorem frames_hid (I:Inv X pins σ H s) (u:Un (frs X.stack) [] H H1 s.heap s1.heap):s1.heap.FunFrames (PySem.W.hideAll s1.heap (hs++frs X.stack)) X.stack:=
 funFrames_of (frames_left I u) (λb hb=>PySem.W.hideAll_none _ (List.mem_append_right _ hb)) λb _ o q=>⟨o,q,rfl⟩
theorem trace_new {base h':Heap} {l:List Env} {e:Addr} {C:Value} {d:Option Addr} (ff:h'.FunFrames base l) (t:TrX h' base e C d .none):∃ T,Flies h' e C d T/\base.get? T=none/\T ∉ frs l:=by
 obtain⟨oe,vs,T,oT,ts,q1,q2,q3,q4,q5,q6,q7,q8,q9⟩:=t
 refine⟨T,⟨oe,vs,oT,ts,q1,q2,q3,q4,q6,q7,q8,q9⟩,q5,λz=>?_⟩
 obtain⟨_,o,e1,nf⟩:=ff.mem z
 rw[q7] at e1
 cases e1
 exact nf ts q8
theorem hid_none {h:Heap} {l:List Addr} {b:Addr} (e:(PySem.W.hideAll h l).get? b=none):b ∈ l\/h.get? b=none:=by
 by_cases hb:b ∈ l
 ·exact .inl hb
 ·cases q:h.get? b with
  | none=>exact .inr rfl
  | some o=>rw[PySem.W.hideAll_get _ q hb] at e; cases e
theorem flown (I:Inv X pins σ H s) (os:s1.os=s.os) (bare:AllBare s1.gens) (u:Un (frs X.stack) [] H H1 s.heap s1.heap) (ok:HOk X.prog X.w H1 s1.heap) (hn:∀ b ∈ hs,s.heap.get? b=none/\H1 b=none)
  (hx:X.ex=[]) {e:Addr} {C:Value} {d:Option Addr} (he:e ∈ hs) {E:XK} (q:E C d H1) {l:List Env} (L:NtX (PySem.W.hideAll s1.heap (hs++frs X.stack)) X.stack e C d .none s1.heap h2) :
  CXx X.prog X.w X.outer X.H₀ X.s₀ E (.ref e) { s1 with heap:=h2 }:=by
 obtain⟨k1,k2,k3,k4⟩:=L
 have J:=I.flew os bare u ok hn k1 k4
 obtain⟨T,fl,tn,tf⟩:=trace_new k2 k3
 have inS:∀ b o,X.s₀.heap.get? b=some o->∃ o',s.heap.get? b=some o':=λb o z=>I.base.there b o z (by rw[hx]; simp)
 have jb:Un (frs X.outer) [] X.H₀ H1 X.s₀.heap h2:=by have:=J.base; rw[hx] at this; exact this
 have newT:H1 T=none/\X.s₀.heap.get? T=none:=by
  rcases hid_none tn with z | z
  ·rcases List.mem_append.mp z with z | z
   ·refine⟨(hn T z).2,?_⟩
    cases w':X.s₀.heap.get? T with
    | none=>rfl
    | some o=>obtain⟨o',z'⟩:=inS T o w'; rw[(hn T z).1] at z'; cases z'
   ·exact absurd z tf
  ·refine⟨ok.none z,?_⟩
   cases w':X.s₀.heap.get? T with
   | none=>rfl
   | some o=>
    obtain⟨o',z'⟩:=inS T o w'
    obtain⟨o2,z2⟩:=u.there T o' z' (by simp)
    rw[z] at z2
    cases z2
 refine⟨e,C,d,T,H1,rfl,J.os,J.bare,jb,J.hok,fl,⟨(hn e he).2,newT.1⟩,⟨?_,newT.2⟩,q⟩
 cases w':X.s₀.heap.get? e with
 | none=>rfl
 | some o=>obtain⟨o',z'⟩:=inS e o w'; rw[(hn e he).1] at z'; cases z'
end
section
variable {P:Program} {w:World} {K:PySem.W.Frag} {mg:Str->Option Value} {base:Heap} {N:List Str} {qual:Str} {scope:Scope} {f:Addr} {cd:Value} {A:Around} {outer:List Env} {s0:Shared} {H0:Hp} {E:XK}
theorem pass_def:Passes (CXx P w) (cxOf (CXx P w) P w K mg base N qual scope f cd A outer s0 H0 E) E:=by
 intro pins σ H s e s1 I h
 obtain⟨a,C,dx,T,H1,rfl,os,bare,u,ok,fl,⟨n1,n2⟩,⟨m1,m2⟩,q⟩:=h
 have hn:∀ b ∈ [a,T],s.heap.get? b=none/\H1 b=none:=λb hb=>by
  rcases List.mem_cons.mp hb with rfl | hb
  ·exact⟨m1,n1⟩
  ·rw[List.mem_singleton.mp hb]; exact⟨m2,n2⟩
 obtain⟨oe,vs,oT,ts,q1,q2,q3,q4,q6,q7,q8,q9⟩:=id fl
 refine leave_nextX (base:=PySem.W.hideAll s1.heap ([a,T]++frs (envOfC qual scope s0.heap.objs.size f cd::outer))) (c:=C) (d:=dx) I.ok.frames (frames_hid I u) rfl
  ⟨oe,vs,T,oT,ts,q1,q2,q3,q4,PySem.W.hideAll_none _ (by simp),q6,q7,q8,q9⟩ stays_hide (PySem.W.hideAll_none _ (by simp)) λh' L=>?_
 exact flown (l:=outer) I os bare u ok hn rfl (by simp) q L
theorem xe_madeG {pins:List (Addr × Obj)} {σ:St} {H:Hp} {s:Shared} {h':Heap} {e:Addr} {C:Value} {oe:Obj} {vs:Array Value} (I:Inv (cxOf (CXx P w) P w K mg base N qual scope f cd A outer s0 H0 E) pins σ H s) (keeps:∀ b o,s.heap.get? b=some o->h'.get? b=some o) (new:s.heap.get? e=none)
  (he:h'.get? e=some oe) (hc:oe.cls=C) (hd:oe.dict=none) (hdat:oe.data=.fields vs) (h1:vs[1]?=some .none) (q:E C none H) :
  (cxOf (CXx P w) P w K mg base N qual scope f cd A outer s0 H0 E).xe (.ref e) { s with heap:=h' }:=by
 have u:Un (frs (envOfC qual scope s0.heap.objs.size f cd::outer)) [] H H s.heap h':=Un.kept keeps
 have ok:HOk P w H h':=I.hok.kept keeps
 have hn:∀ b ∈ [e],s.heap.get? b=none/\H b=none:=λb hb=>by rw[List.mem_singleton.mp hb]; exact⟨new,I.hok.none new⟩
 refine leave_firstX (s:={ s with heap:=h' }) (base:=PySem.W.hideAll h' ([e]++frs (envOfC qual scope s0.heap.objs.size f cd::outer))) (c:=C) (d:=none) I.ok.frames (frames_hid (s1:={ s with heap:=h' }) I u) rfl
  he stays_hide (PySem.W.hideAll_none _ (by simp)) hdat h1 ⟨hc,hd,λz=>absurd rfl z⟩ λh2 L=>?_
 exact flown (s1:={ s with heap:=h' }) (l:=outer) I rfl I.bare u ok hn rfl (by simp) q L
theorem un_upd {fs:List Addr} {H:Hp} {h h':Heap} {x:Addr} {o:HO} (u:Un fs [] H H h h') (n:h.get? x=none) (nH:H x=none):Un fs [] H (upd H x o) h h' where
 keep:=u.keep
 slot:=u.slot
 free:=λb ob q z hx=>by
  rw[upd_ne (λy=>by rw[y,n] at q; cases q)]
  exact z
 there:=u.there
 tups:=λb xs q=>by rw[upd_ne (ne_of_none q nH)]; exact q
 frzs:=λb ob v q=>by rw[upd_ne (ne_of_none q nH)]; exact q
 tbls:=λb ps q=>⟨#[],by rw[upd_ne (ne_of_none q nH),Array.append_empty]; exact q⟩
theorem hok_upd {H:Hp} {h:Heap} {x:Addr} {o:HO} (ok:HOk P w H h) (nH:H x=none) (new:ObjOk P w (upd H x o) h x o):HOk P w (upd H x o) h:=λb v q=>by
 by_cases hb:b=x
 ·subst hb
  rw[upd_same] at q
  cases q
  exact new
 ·rw[upd_ne hb] at q
  exact(ok b v q).stay (λ_ _ _ z=>z) (λc z=>by rw[upd_ne (ne_of_none z nH)]; exact z) (λc xs z=>by rw[upd_ne (ne_of_none z nH)]; exact z) λc o u z=>by rw[upd_ne (ne_of_none z nH)]; exact z
theorem xe_madeI {pins:List (Addr × Obj)} {σ:St} {H:Hp} {s s':Shared} {e t dx C:Addr} {v:V} {u:Value} (I:Inv (cxOf (CXx P w) P w K mg base N qual scope f cd A outer s0 H0 E) pins σ H s)
  (os:s'.os=s.os) (bare:AllBare s'.gens) (un:Un (frs (envOfC qual scope s0.heap.objs.size f cd::outer)) [] H H s.heap s'.heap) (ok:HOk P w H s'.heap) (ne:s.heap.get? e=none)
  (he:s'.heap.get? e=some { cls:=.ref C,dict:=some dx,data:=.fields #[.ref t,.none,.none,.none,.bool false,.none] }) (ru:RelV v u) (ns:s'.heap.Ns1 dx (λy=>if y = "at" then some u else none)) (nx:s.heap.get? dx=none)
  (q:E (.ref C) (some dx) (upd H dx (.xd [("at",v)]))):(cxOf (CXx P w) P w K mg base N qual scope f cd A outer s0 H0 E).xe (.ref e) s':=by
 have nH:H dx=none:=I.hok.none nx
 have dne:e ≠ dx:=λz=>by
  obtain⟨o,es,ep,e1,e2,_⟩:=ns
  rw[<- z,he] at e1
  cases e1
  cases e2
 have u2:=un_upd (o:=.xd [("at",v)]) un nx nH
 have ok2:HOk P w (upd H dx (.xd [("at",v)])) s'.heap:=hok_upd ok nH ⟨_,ns,λg=>by
  by_cases hg:g = "at"
  ·subst hg
   exact ru
  ·have e1:List.lookup g [(("at" : Str),v)]=none:=by
    rw[List.lookup_cons,show (g==("at" : Str))=false from beq_false_of_ne hg]
    rfl
   rw[e1,if_neg hg]
   trivial⟩
 have hn:∀ b ∈ [e],s.heap.get? b=none/\upd H dx (.xd [("at",v)]) b=none:=λb hb=>by
  rw[List.mem_singleton.mp hb,upd_ne dne]
  exact⟨ne,I.hok.none ne⟩
 obtain⟨h',g,dr,tk,o'⟩:=s'
 refine leave_firstX (s:=⟨h',g,dr,tk,o'⟩) (base:=PySem.W.hideAll h' ([e]++frs (envOfC qual scope s0.heap.objs.size f cd::outer))) (c:=.ref C) (d:=some dx) I.ok.frames (frames_hid (s1:=⟨h',g,dr,tk,o'⟩) I u2) rfl
  he stays_hide (PySem.W.hideAll_none _ (by simp)) rfl rfl ⟨rfl,rfl,λ_=>rfl⟩ λh2 L=>?_
 exact flown (s1:=⟨h',g,dr,tk,o'⟩) (l:=outer) I os bare u2 ok2 hn rfl (by simp) q L
end
end L2
namespace L2
open PySem PySem.Spec PyProof.Rows PySem.W
section
variable {prog:Program} {w:World} {A:Around} {E:Value->Shared->Prop} {s:Shared} {K:Frag} {x C:Addr} {ox:Obj} {od:Option Obj} {name:Str}
structure GaX (K:Frag) (C:Addr):Prop where
 ga:findIn K (.ref C) "__getattribute__" = some (some (.builtin "BaseException.__getattribute__"))
 hk:findIn K (.ref C) "__getattr__" = some none
 mb:mroIn K C (.type "BaseException")=some true
theorem gax_by {tk:Tok} {fill expr:Bool} {Q:Value->Shared->Prop} (X:K.In s.heap) (I:InstAt s.heap x ox C od) (G:GaX K C)
  (h:∀ (A':Around) (R:Result->Shared->Prop),(∀ v s',wpAny (model prog w) A (handedOut v) Q E s'->R (.ok (.ret v)) s') ->
   wpAny (model prog w) A'.in1 (Builtin.«object.__getattribute__» ⟨[.ref x,.str name tk],[]⟩) (λfin s'=>match fin with | .done f=>R (.ok f) s' | .again c'=>c'.quiet=true/\codeAny (model prog w) A' c' R s') (λe s'=>R (.error e) s') s) :
  wpAny (model prog w) A (getAttrBy (.ref x) (.str name tk) fill expr) Q E s:=by
 have L0:=I.type (M:=model prog w)
 have L1:=looks_findIn (M:=model prog w) X G.ga
 have L2:=looks_findIn (M:=model prog w) X G.hk
 have L3:Looks (model prog w) s.heap (isInstance (.ref x) (.type "BaseException")) true:=L0.andThen (looks_mroIn X G.mb)
 have f3:=PySem.F.attr_ValueError.ga.bind (.ref x)
 have hx0:(expr&&onTheHeap (Value.builtin "BaseException.__getattribute__"))=false:=by cases expr <;> rfl
 have hx2:(Value.builtin "BaseException.__getattribute__" == Value.builtin "object.__getattribute__")=false:=by decide +kernel
 have hx1:(onTheHeap (Value.ref C)&&Value.builtin "BaseException.__getattribute__" == Value.builtin "object.__getattribute__")=false:=by rw[hx2]; rfl
 unfold getAttrBy
 refine wpAny_holding (wpAny_bind (L0.here (wpAny_bind (L1.here ?_))))
 show wpAny _ _ (if (onTheHeap (Value.ref C)&&Value.builtin "BaseException.__getattribute__" == Value.builtin "object.__getattribute__")=true then getAttrEveryday (.ref x) (.str name tk) fill else getAttrByItsOwn (.ref x) (.str name tk) (.ref C) (.builtin "BaseException.__getattribute__") fill expr) _ _ _
 rw[hx1,if_neg Bool.false_ne_true]
 unfold getAttrByItsOwn hookBefore
 rw[if_pos (show onTheHeap (.ref C)=true from rfl)]
 refine wpAny_bind (L2.here (wpAny_bind (wpAny_attempt (wpAny_holding ?_))))
 unfold callGetattribute
 rw[hx0,if_neg Bool.false_ne_true]
 unfold boundAndCalled
 rw[f3]
 refine wpAny_bind (wpAny_pure (wpAny_call ?_))
 show codeAny (model prog w) A (.call (.builtin "BaseException.__getattribute__") ⟨[.ref x,.str name tk],[]⟩) _ s
 have hk:builtinKind "BaseException.__getattribute__" = some .slot:=by decide +kernel
 have hsp:splitId "BaseException.__getattribute__" = some ("BaseException","__getattribute__"):=by decide +kernel
 refine codeAny_call_builtin PySem.F.attr_ValueError.ga.plain PySem.F.entry_bexc_ga ?_
 refine @check_slot (model prog w) _ _ s "BaseException.__getattribute__" "BaseException" "__getattribute__" (.ref x) [.str name tk] [] _ hk hsp L3 (PySem.F.args_bexc_ga (.ref x) (.str name tk)) ?_
 exact h A (λr s'=>match r with
  | .ok (.ret v)=>wpAny (model prog w) A (handedOut v) Q E s'
  | .ok _=>False
  | .error e=>wpAny (model prog w) A (getattributeRaised (.ref x) (.str name tk) (.ref C) e none fill expr) Q E s') (λv s' z=>z)
theorem gax_class {Q:Option Value->Shared->Prop} (X:K.In s.heap) (I:InstAt s.heap x ox C od) (G:GaX K C) (hf:findObj K C od "__class__" = some (.bind (.builtin "getset_descriptor.__get__") (.builtin "object.__class__"))) (hm:mroIn K C (.type "object")=some true)
  (h:Q (some (.ref C)) { s with toks:=s.toks+1 }):wpAny (model prog w) A (getAttr? (.ref x) "__class__") Q E s:=by
 obtain⟨hp,g,d,t,os⟩:=s
 unfold getAttr? getAttrBy?
 refine wpAny_bind (wpAny_mkText (wpAny_bind (wpAny_attempt (gax_by (s:=⟨hp,g,d,t+1,os⟩) X I G λA' R hR=>?_))))
 have L0:=I.type (M:=model prog w)
 have L1:=looks_find (M:=model prog w) X I hf
 refine wpAny_bind (wpAny_pure (wpAny_bind (wpAny_pure (wpAny_bind (L0.at (wpAny_bind (L1.at ?_)))))))
 refine wpAny_bind (wpAny_holding (wpAny_call (class_get (s:=⟨hp,g,d,t+1,os⟩) X I hm ?_)))
 exact wpAny_pure (hR _ _ (wpAny_pure (wpAny_pure h)))
structure ClX (K:Frag) (C:Addr):Prop extends GaX K C where
 hd:hasDictIn K C=true
 ha:findIn K (.ref C) "__class__" = some (some (.builtin "object.__class__"))
 hn:specialIn K (.builtin "object.__class__") "__get__" = some (some (.builtin "getset_descriptor.__get__"))
 htk:takesIn K (.builtin "object.__class__")=some true
 mo:mroIn K C (.type "object")=some true
 na:findIn K (.ref C) "at" = some none
theorem kitx_exc (Z:ClX K C):KitX K (.ref x) (.ref C) (λh=>InstAt h x ox C od) where
 ty:=λ_ _ _ I=>I.type
 it:=λ_ _ X _=>by
  obtain⟨cdD,hcD,_⟩:=any_some Z.hd
  unfold clsIn at hcD
  split at hcD
  ·rename_i c' d' cd' sl' ho
   intro A' Q' E' s' k q
   unfold isType loadHead
   exact wpAny_bind (wpAny_loadPart (k _ _ (X _ _ ho)) (wpAny_pure q))
  ·cases hcD
 ne:=λh tp dd its n sl X htp=>by
  obtain⟨cdD,hcD,_⟩:=any_some Z.hd
  refine Bool.eq_false_iff.mpr λq=>?_
  have e:C=tp:=Value.ref.inj (beq_iff_eq.mp q)
  subst e
  unfold clsIn at hcD
  split at hcD
  ·rename_i c' d' cd' sl' ho
   have z:=(X _ _ ho).symm.trans htp
   cases z
  ·cases hcD
 ca:=λX I k=>gax_class X I Z.toGaX (by obtain⟨cd,hc,_⟩:=any_some Z.hd; unfold findObj; rw[hc,Z.ha,Option.bind_some,Option.bind_some]; simp only[Z.hn,Z.htk,Option.bind_some]) Z.mo k
end
end L2
namespace L2
open PySem
section
variable {prog:Program} {w:World} {A:Around} {E:Value->Shared->Prop} {s:Shared} {env:Env}
variable {nm q:Str} {C N:Addr} {bs bm bmB:List Value} {hdct:Bool} {sn:List Str} {sub:List Value} {ab:Bool} {col:Option Bool} {dd:Option Addr} {k0 k1 k2 k3 k5:Option Value} {B newId initId:String}
end
end L2
namespace L2
open PySem PySem.Spec PyProof.Rows PySem.W
def hcx (X:Cx) (pins:List (Addr × Obj)) (a:Addr) (oe:Obj) (xe:Value->Shared->Prop):Cx:={ X with A:=X.A.mark (some (.ref a)),calm:=false,pn:=(a,oe)::(X.pn++pins),xe:=xe }
section
variable {X:Cx} {pins:List (Addr × Obj)} {σ:St} {H:Hp} {s:Shared} {a:Addr} {oe:Obj} {xe:Value->Shared->Prop}
theorem Inv.inh (J:Inv X pins σ H s) (e:s.heap.get? a=some oe) (n:H a=none) (hl:a ≠ X.env.locals) (hf:a ∉ X.fs) (hc:∀ v,oe.data ≠ .cell v):Inv (hcx X pins a oe xe) [] σ H s:=
 ⟨{ J.ok with hd:=λz=>by cases z },J.os,J.bare,J.base,J.loc,J.cell,J.free,J.freeC,λp hp=>by
  have hp':p ∈ ((a,oe)::(X.pn++pins)):=by simpa [hcx] using hp
  rcases List.mem_cons.mp hp' with rfl | hp'
  ·exact⟨e,n,hl,hf,hc⟩
  ·exact J.pin p hp',J.hok,J.len⟩
theorem Inv.unh (J:Inv (hcx X pins a oe xe) [] σ H s) (ok:X.Ok):Inv X pins σ H s:=
 ⟨ok,J.os,J.bare,J.base,J.loc,J.cell,J.free,J.freeC,λp hp=>J.pin p (by
  show p ∈ ((a,oe)::(X.pn++pins))++[]
  rw[List.append_nil]
  exact List.mem_cons_of_mem _ hp),J.hok,J.len⟩
theorem Inv.goes (J:Inv X pins σ H s) (nd:X.N.Nodup) {i:Nat} {n:Str} (hi:X.N[i]?=some n) {m:Str->Option Value}
  (hlk:∀ (i:Nat) (x:Str) (v:V),X.N[i]?=some x->σ[i]?=some (some v)->Vis X.env.scope x->∃ u,RelV v u/\Look X.env s.heap m x u)
  {h':Heap} {v:Option Value} {t:Nat} (hm:h'.Ns X.env.locals (λx=>if x=n then v else m x)) (sb:Heap.SameBut X.env.locals s.heap h'):Inv X pins (σ.set i none) H { s with heap:=h',toks:=t }:=by
 have neL:∀ b o,X.s₀.heap.get? b=some o->b ≠ X.env.locals:=λb o e=>Nat.ne_of_lt (Nat.lt_of_lt_of_le (Heap.lt_size e) J.ok.above)
 have kp:∀ b o,b ≠ X.env.locals->s.heap.get? b=some o->h'.get? b=some o:=λb o hb e=>(sb.2 b hb).trans e
 have kt:∀ b u,H b=some u->b ≠ X.env.locals:=λb u e z=>by rw[z,J.free] at e; cases e
 refine⟨J.ok,J.os,J.bare,⟨λb o q n hb hx=>kp b o (neL b o q) (J.base.keep b o q n hb hx),λb o q n hb hx=>?_,J.base.free,λb o q hx=>?_,J.base.tups,J.base.frzs,J.base.tbls⟩,⟨_,hm,λj x v e1 e2 vis=>?_⟩,λx c e=>?_,J.free,J.freeC,λp hp=>?_,λb u e=>?_,by rw[List.length_set]; exact J.len⟩
 ·obtain⟨sl,e⟩:=J.base.slot b o q n hb hx
  exact⟨sl,kp b _ (neL b o q) e⟩
 ·obtain⟨o',e⟩:=J.base.there b o q hx
  exact⟨o',kp b o' (neL b o q) e⟩
 ·rw[List.getElem?_set] at e2
  split at e2
  ·split at e2 <;> cases e2
  ·rename_i hne
   obtain⟨u,ru,lk⟩:=hlk j x v e1 e2 vis
   have hx:x ≠ n:=λz=>by
    subst z
    obtain⟨h1,h2⟩:=List.getElem?_eq_some_iff.mp hi
    obtain⟨h3,h4⟩:=List.getElem?_eq_some_iff.mp e1
    exact hne ((List.getElem_inj nd).mp (h2.trans h4.symm))
   refine⟨u,ru,?_⟩
   rcases lk with⟨q1,q2⟩ | ⟨q1,c,q2,o,q3,q4⟩
   ·exact .inl ⟨q1,by show (if x=n then _ else m x)=_; rw[if_neg hx]; exact q2⟩
   ·exact .inr ⟨q1,c,q2,o,kp c o (J.cne x c q2) q3,q4⟩
 ·obtain⟨v,o,q,d⟩:=J.cell x c e
  exact⟨v,o,kp c o (J.cne x c e) q,d⟩
 ·obtain⟨p1,p2,p3,p4,p5⟩:=J.pin p hp
  exact⟨kp _ _ p3 p1,p2,p3,p4,p5⟩
 ·refine(J.hok b u e).stay (λc v hc q=>kp c v ?_ q) (λ_ q=>q) (λ_ _ q=>q) λ_ _ _ q=>q
  rcases hc with z | z
  ·rw[z]; exact kt b u e
  ·exact kt c _ z
end
theorem ty_of {M:Model} {h:Heap} {a:Addr} {oe:Obj} {C:Value} (e:h.get? a=some oe) (hc:oe.cls=C):Looks M h (typeOf (.ref a)) C:=by
 subst hc
 exact(Looks.ld e).andThen .now
theorem kit_self {K:Frag} {C:Addr}:kitOne K (.ref C) (.ref C)=some true:=by
 unfold kitOne
 rw[if_pos (beq_self_eq_true _)]
theorem kit_ref {K:Frag} {C D:Addr} {b:Bool} (hne:(Value.ref C==Value.ref D)=false) (h1:hasDictIn K D=true) (h2:typeIn K (.ref D)=some (.type "type")) (h3:subIn K (.ref C) (.ref D)=some b):kitOne K (.ref C) (.ref D)=some b:=by
 obtain⟨cd,hc,_⟩:=any_some h1
 unfold kitOne
 rw[if_neg (by rw[hne]; exact Bool.false_ne_true)]
 show (if ((clsIn K D).isSome&&typeIn K (.ref D)==some (.type "type"))=true then subIn K (.ref C) (.ref D) else none)=_
 rw[if_pos (by rw[hc,h2]; rfl),h3]
theorem kit_ve {K:Frag} {C:Addr} (h:subIn K (.ref C) (.type "ValueError")=some true):kitOne K (.ref C) (.type "ValueError")=some true:=by
 unfold kitOne
 rw[if_neg (by simp)]
 show (if kitMeta "ValueError" = true then subIn K (.ref C) (.type "ValueError") else none)=_
 rw[if_pos (by decide +kernel),h]
section
variable {X:Cx} {pins:List (Addr × Obj)} {σ:St} {H:Hp} {s:Shared} {a Ca:Addr} {oe:Obj} {va:Array Value}
theorem inst_of (I:Inv X pins σ H s) (hp:(a,oe) ∈ X.pn) (hc:oe.cls=.ref Ca) (hd:oe.data=.fields va) (hx:∀ dx,oe.dict=some dx->∃ fs,H dx=some (.xd fs)):∃ od,PySem.W.InstAt s.heap a oe Ca od:=by
 obtain⟨e,_⟩:=I.pin (a,oe) (List.mem_append_left _ hp)
 have nc:notCls oe=true:=by unfold notCls; rw[hd]
 cases q:oe.dict with
 | none=>exact⟨none,e,hc,nc,by rw[q]; trivial⟩
 | some dx=>
  obtain⟨fs,hf⟩:=hx dx q
  obtain⟨mA,⟨o,es,ep,e1,_⟩,_⟩:=I.hok dx _ hf
  exact⟨some o,e,hc,nc,by rw[q]; exact e1⟩
theorem c_isk {c:V} {u:Value} {b:Bool} (hp:(a,oe) ∈ X.pn) (hc:oe.cls=.ref Ca) (hd:oe.data=.fields va) (Z:ClX X.K Ca) (hr:∀ w,RelV c w->w=u) (e:kitOne X.K (.ref Ca) u=some b) :
  CallR X (.builtin "isinstance") (λxs H Q=>xs=[.ref a,c]/\(∀ dx,oe.dict=some dx->∃ fs,H dx=some (.xd fs))/\Q (.bl b) H):=by
 intro pins s σ H xs us Q I r h
 obtain⟨rfl,hx,q⟩:=h
 obtain⟨w1,w2,rfl,r1,r2⟩:=Vals.two r
 cases r1
 obtain rfl:=hr _ r2
 obtain⟨od,hi⟩:=inst_of I hp hc hd hx
 exact kia_one (kitx_exc (x:=a) (ox:=oe) (od:=od) Z) I.kIn hi e (by simp) λtk=>⟨.bl b,H,I.kept (h':=s.heap) (t':=tk) (λ_ _ z=>z),rfl,q⟩
def KB (X:Cx) (Ca:Addr) (k:Str) (b:Bool):Prop:=∃ c u,(∀ w,RelV c w->w=u)/\kitOne X.K (.ref Ca) u=some b/\∀ pos,PE X (.Name k pos) (tC c)
structure Hn (X:Cx) (i:Nat) (n xF:Str) (CF:Addr):Prop where
 nd:X.N.Nodup
 at':X.N[i]?=some n
 loc:X.env.scope.names.lookup n=some .local
 nB:(n==("__debug__" : Str))=false
 nC:(n==("__classdict__" : Str))=false
 gF:Gl X xF
 dF:(xF==("__debug__" : Str))=false
 mF:X.mg xF=some (.ref CF)
 gI:Gl X "isinstance"
 mI:X.mg "isinstance" = none
 stk:X.stack=X.env::X.outer
 frm:X.env.frame=some X.env.locals
theorem pe_isx {i:Nat} {n xF k:Str} {CF:Addr} {b:Bool} {xe:Value->Shared->Prop} (Z:Hn X i n xF CF) (hc:oe.cls=.ref Ca) (hd:oe.data=.fields va) (Y:ClX X.K Ca) (kb:KB (hcx X pins a oe xe) Ca k b) {p1 p2 p3 p4:Pos} :
  PE (hcx X pins a oe xe) (.Call (.Name "isinstance" p1) [.Name n p2,.Name k p3] [] p4) (λσ H Q=>(σ[i]?=some (some (.ref a))/\∀ dx,oe.dict=some dx->∃ fs,H dx=some (.xd fs))/\Q (.bl b) H):=by
 obtain⟨c,u,k1,k2,k3⟩:=kb
 have hv:Vis (hcx X pins a oe xe).env.scope n:=.inl Z.loc
 have e1:PE (hcx X pins a oe xe) (.Name n p2) (tVar i):=pe_var (X:=hcx X pins a oe xe) Z.at' hv Z.nB Z.nC
 have h:=pe_callB (X:=hcx X pins a oe xe) (x := "isinstance") (p:=p1) (pos:=p4) (c_isk (X:=hcx X pins a oe xe) (a:=a) List.mem_cons_self hc hd Y k1 k2) Z.gI Z.mI (by decide +kernel) (pa_cons e1 (pa_cons (k3 p3) pa_nil))
 intro pins' s' σ' H' Q I q
 exact h pins' s' σ' H' Q I ⟨_,q.1.1,rfl,q.1.2,q.2⟩
end
section
variable {X:Cx} {pins:List (Addr × Obj)} {σ:St} {H H1:Hp} {s s1:Shared} {a T:Addr} {C:Value} {dx:Option Addr}
theorem hold_at (hstk:X.stack=X.env::X.outer) (hfrm:X.env.frame=some X.env.locals) (I:Inv X pins σ H s) (os:s1.os=s.os) (bare:AllBare s1.gens) (u:Un (frs X.stack) [] H H1 s.heap s1.heap) (ok:HOk X.prog X.w H1 s1.heap) (hn:∀ b ∈ [a,T],s.heap.get? b=none/\H1 b=none)
  {h':Heap} (r1:(PySem.W.hideAll s1.heap ([a,T]++frs X.stack)).StaysIn h') (r2:h'.FunFrames (PySem.W.hideAll s1.heap ([a,T]++frs X.stack)) (X.env::X.outer)) (r3:TrX h' (PySem.W.hideAll s1.heap ([a,T]++frs X.stack)) a C dx .none) (sl:s1.heap.UpToSlots h') :
  ∃ oe va,h'.get? a=some oe/\oe.cls=C/\oe.dict=dx/\oe.data=.fields va/\(dx ≠ none->va[2]?=some .none)/\Inv X pins σ H1 { s1 with heap:=h' }/\∀ xe,Inv (hcx X pins a oe xe) [] σ H1 { s1 with heap:=h' }:=by
 have J:Inv X pins σ H1 { s1 with heap:=h' }:=I.flew os bare u ok hn r1 sl
 obtain⟨oe3,vs3,T3,oT3,ts3,a1,⟨a2,a4,a5⟩,a3,_⟩:=r3
 refine⟨oe3,vs3,a1,a2,a4,a3,a5,J,λxe=>J.inh a1 (hn a (by simp)).2 (λz=>?_) (λz=>?_) λv z=>?_⟩
 ·obtain⟨m,⟨o,es,ep,eo,ed,_⟩,_⟩:=J.loc
  have eo':h'.get? X.env.locals=some o:=eo
  rw[<- z,a1] at eo'
  cases eo'
  rw[a3] at ed
  cases ed
 ·have z':a ∈ frs (X.env::X.outer):=by
   unfold frs
   rw[List.filterMap_cons,hfrm]
   exact List.mem_cons_of_mem _ z
  obtain⟨_,o,e1,nf⟩:=r2.mem z'
  rw[a1] at e1
  cases e1
  exact nf vs3 a3
 ·rw[a3] at z
  cases z
variable {i:Nat} {n xF:Str} {CF:Addr} {E:XK} {e:Value} {D:Ends} {b₀:Stmt} {hb:List Stmt} {p0 hp:Pos}
theorem caughtG (Z:Hn X i n xF CF) (I:Inv X pins σ H s) (h:CXx X.prog X.w X.stack H s E e s1)
  (hE:∀ v dx H1,E v dx H1->∃ Ca,v=.ref Ca/\exmOne X.K (.ref Ca) (.ref CF)=some true/\∀ a oe va,oe.cls=.ref Ca->oe.dict=dx->oe.data=.fields va ->
   ∃ t:TS,PSs (hcx X pins a oe (λ_ _=>False)) (b₀::hb) t/\t { nx:=λσ' H'=>D.nx (σ'.set i none) H',rt:=D.rt } (σ.set i (some (.ref a))) H1) :
  wpAny (model X.prog X.w) X.A (noteFrame e X.env) (λ_ s2=>wpAny (model X.prog X.w) X.A (setFlight e none) (λ_ s3=>wpAny (model X.prog X.w) X.A (handleBy e X.env [.ExceptHandler (some (.Name xF p0)) (some n) (b₀::hb) hp]) (SP X pins D) X.xe s3) X.xe s2) X.xe s1:=by
 obtain⟨a,C,dx,T,H1,rfl,os,bare,u,ok,fl,⟨n1,n2⟩,⟨m1,m2⟩,q⟩:=h
 obtain⟨Ca,rfl,hm,hk⟩:=hE _ _ _ q
 have hn:∀ b ∈ [a,T],s.heap.get? b=none/\H1 b=none:=λb hb=>by
  rcases List.mem_cons.mp hb with rfl | hb
  ·exact⟨m1,n1⟩
  ·rw[List.mem_singleton.mp hb]; exact⟨m2,n2⟩
 obtain⟨oe,vs,oT,ts,q1,q2,q3,q4,q6,q7,q8,q9⟩:=id fl
 have fr:X.A.frames=some (X.env::X.outer):=by rw[I.ok.frames,Z.stk]
 have ff:=frames_hid (hs:=[a,T]) I u
 have ff':s1.heap.FunFrames (PySem.W.hideAll s1.heap ([a,T]++frs X.stack)) (X.env::X.outer):=by rw[<- Z.stk]; exact ff
 refine note_onX (base:=PySem.W.hideAll s1.heap ([a,T]++frs X.stack)) (c:=.ref Ca) (d:=dx) fr ff' Z.frm ⟨oe,vs,T,oT,ts,q1,q2,q3,q4,PySem.W.hideAll_none _ (by simp),q6,q7,q8,q9⟩ stays_hide (PySem.W.hideAll_none _ (by simp)) λh2 L2'=>?_
 refine flight_noneX (s:={ s1 with heap:=h2 }) (base:=PySem.W.hideAll s1.heap ([a,T]++frs X.stack)) L2'.st L2'.ff L2'.tr λh3 L3=>?_
 have sl3:s1.heap.UpToSlots h3:=L2'.sl.trans L3.sl
 obtain⟨oe3,va3,a1,a2,a3,a4,a5,J3,I3⟩:=hold_at Z.stk Z.frm I os bare u ok hn L3.st L3.ff L3.tr sl3
 refine wpAny_handleBy_cons (codeAny_handlers_test ?_) (by intro z; cases z)
 refine ld_glob (X:=hcx X pins a oe3 (λ_ _=>False)) (I3 _) Z.gF Z.mF ?_ Z.dF
 refine(exm_one (K:=X.K) J3.kIn (ty_of a1 a2) hm).here ?_
 rw[if_pos rfl]
 refine codeAny_handlers_suite_as ?_
 refine flight_noneX (s:={ s1 with heap:=h3 }) (base:=PySem.W.hideAll s1.heap ([a,T]++frs X.stack)) L3.st L3.ff L3.tr λh4 L4=>?_
 obtain⟨oe4,va4,b1,b2,b3,b4,b5,J4,I4⟩:=hold_at Z.stk Z.frm I os bare u ok hn L4.st L4.ff L4.tr (sl3.trans L4.sl)
 refine store_ok (X:=hcx X pins a oe4 (λ_ _=>False)) (v:=.ref a) (I4 _) Z.nd Z.at' (.inl Z.loc) rfl (λs5 I5=>?_) (.inr Z.loc)
 obtain⟨t,ht,hh⟩:=hk a oe4 va4 b2 b3 b4
 refine wpAny_mono (ht [] s5 (σ.set i (some (.ref a))) H1 _ I5 hh) (λf s6 h6=>?_) (λ_ _ z=>z.elim)
 have go:∀ {σ6:St} {H6:Hp} {Q:Shared->Prop},Inv (hcx X pins a oe4 (λ_ _=>False)) [] σ6 H6 s6->(∀ s7,Inv X pins (σ6.set i none) H6 s7->Q s7)->wpAny (model X.prog X.w) X.A (do bindName X.env n .none; unbindBehindTheSuite X.env n hp) (λ_ s7=>Q s7) X.xe s6:=λ{σ6 H6 Q} I6 k=>by
  obtain⟨m6,hm6,hl6⟩:=id I6.loc
  refine PySem.wpAny_nameGoes_keeps (m:=m6) Z.loc hm6 (by rw[I.ok.kind]; rfl) λh7 v7 hm7 sb=>k _ ?_
  exact(I6.unh I.ok).goes Z.nd Z.at' hl6 hm7 sb
 cases f with
 | next=>
  obtain⟨σ6,H6,I6,z⟩:=h6
  exact go I6 λs7 I7=>⟨_,H6,I7,z⟩
 | brk=>obtain⟨_,_,_,z⟩:=h6; exact z.elim
 | cont=>obtain⟨_,_,_,z⟩:=h6; exact z.elim
 | ret w=>
  obtain⟨v,σ6,H6,I6,rv,q6⟩:=h6
  exact go I6 λs7 I7=>⟨v,_,H6,I7,rv,q6⟩
theorem try_ok {body:List Stmt} {hd:ExceptHandler} {tp:Pos} {t:TS} (hb:PSs X.nox body t):PS X (.Try body [hd] [] [] tp) t:=by
 intro pins s σ H D I h
 refine wpAny_Try_except (wpAny_mono (hb pins s σ H D (I.wish _) h) (λf s1 q=>?_) λ_ _ z=>False.elim z)
 have q':=q.unwish
 cases f with
 | next=>exact wpAny_execs_nil q'
 | brk=>exact q'
 | cont=>exact q'
 | ret u=>exact q'
theorem try_raise (I:Inv X pins σ H s) {hd:ExceptHandler} {body:List Stmt} {t:TS} {tp:Pos}
  (hc:∀ σ2 H2 s2 e s',Inv X pins σ2 H2 s2->CXx X.prog X.w X.stack H2 s2 E e s'->wpAny (model X.prog X.w) X.A (noteFrame e X.env) (λ_ s2=>wpAny (model X.prog X.w) X.A (setFlight e none) (λ_ s3=>wpAny (model X.prog X.w) X.A (handleBy e X.env [hd]) (SP X pins D) X.xe s3) X.xe s2) X.xe s')
  (hb:∀ (pn:List (Addr × Obj)) (xe:Value->Shared->Prop),Passes (CXx X.prog X.w) { X with pn:=pn,xe:=xe } E->PSs { X with pn:=pn,xe:=xe } body t)
  (h:t { nx:=λ_ _=>False,rt:=λ_ _=>False } σ H) :
  wpAny (model X.prog X.w) X.A (exec (.Try body [hd] [] [] tp) X.env) (SP X pins D) X.xe s:=by
 refine wpAny_Try_except ?_
 generalize hxe:(λ(e:Value) (s1:Shared)=>wpAny (model X.prog X.w) X.A (noteFrame e X.env) (λ_ s2=>wpAny (model X.prog X.w) X.A (setFlight e none) (λ_ s3=>wpAny (model X.prog X.w) X.A (handleBy e X.env [hd]) (SP X pins D) X.xe s3) X.xe s2) X.xe s1)=xe
 have hp:Passes (CXx X.prog X.w) { X with pn:=X.pn++pins,xe:=xe } E:=λpins2 σ2 H2 s2 e s' I2 h2=>by
  show xe e s'
  rw[<- hxe]
  have I2':Inv X pins σ2 H2 s2:=⟨I.ok,I2.os,I2.bare,I2.base,I2.loc,I2.cell,I2.free,I2.freeC,λp hp=>I2.pin p (List.mem_append_left _ hp),I2.hok,I2.len⟩
  exact hc σ2 H2 s2 e s' I2' h2
 have I':Inv { X with pn:=X.pn++pins,xe:=xe } [] σ H s:=⟨{ I.ok with },I.os,I.bare,I.base,I.loc,I.cell,I.free,I.freeC,λp hp=>I.pin p (by simpa using hp),I.hok,I.len⟩
 refine wpAny_mono (hb _ _ hp [] s σ H _ I' h) (λf s1 q=>?_) λe s1 z=>z
 cases f with
 | next=>obtain⟨_,_,_,z⟩:=q; exact z.elim
 | brk=>obtain⟨_,_,_,z⟩:=q; exact z.elim
 | cont=>obtain⟨_,_,_,z⟩:=q; exact z.elim
 | ret u=>obtain⟨_,_,_,_,_,z⟩:=q; exact z.elim
end
abbrev veM:List Value:=[.type "ValueError",.type "Exception",.type "BaseException",.type "object"]
section
variable {X:Cx} {x m:Str} {C:Addr} {np kp cpos pos:Pos} {k:Nat} {W:Hp->Prop}
theorem ps_raise (O:OwnCls x C veM "ValueError.__new__" X.mg X.base) (hg:Gl X x) (hd:(x==("__debug__" : Str))=false) (hc:X.calm=true)
  (hx:∀ pins σ H s h' e vs,Inv X pins σ H s->Heap.MadeExcOf s.heap h' e (.ref C) vs->W H->X.xe (.ref e) { s with heap:=h' }) :
  PS X (.Raise (some (.Call (.Name x np) [.Constant (.str m) k kp] [] cpos)) none pos) (λ_ _ H=>W H):=by
 intro pins s σ H D I h
 obtain⟨tl,N,nm,q,bs,hdct,sn,sub,ab,col,dd,k0,k1,k2,k3,k5,mN,hC,hN,hni,T⟩:=O.obj
 refine wpAny_Raise_call_subT (C:=C) (nm:=nm) (q:=q) (N:=N) (bs:=bs) (bm:=tl) (hdct:=hdct) (sn:=sn) (sub:=sub) (ab:=ab) (col:=col) (dd:=dd) (k0:=k0) (k1:=k1) (k2:=k2) (k3:=k3) (k5:=k5)
  PySem.F.excBase_ValueError (mN:=mN) (T.hasType PySem.F.excBase_ValueError.hasBase) (I.ok.hd hc) rfl hni (ld_glob I hg O.bound ⟨rfl,?_⟩ hd)
 have pa:PA X [.Constant (.str m) k kp] (tCons (tC (.str m)) tNil):=pa_cons pe_str pa_nil
 refine Calls.evalArgs_plain (wpAny_mono (pa cpos pins s σ H (λxs H'=>H'=H/\xs.length=1) I ⟨rfl,rfl⟩) (λvs s2 h2=>?_) λ_ _ y=>y)
 obtain⟨xs,H2,I2,rv,rfl,l0⟩:=h2
 have l1:vs.length<=sizeLine:=by
  rw[<- rv.length,l0,sizeLine_eq]
  decide
 exact⟨rfl,l1,I2.bk _ _ hC,hN.keeps I2.bk,T.keeps I2.bk,λh' e hm=>hx pins σ H2 s2 h' e vs I2 hm h⟩
end
end L2
namespace L2
open PySem PySem.Spec PyProof.Rows PySem.W PySem.Builtin PySem.Builtin.ObjectAttr
section
variable {prog:Program} {w:World} {A:Around} {E:Value->Shared->Prop} {h:Heap} {g:Array GenState} {d:Drawn} {t:Nat} {os:OsState}
variable {nm q:Str} {C N:Addr} {bs bm bmB:List Value} {hdct:Bool} {sn:List Str} {sub:List Value} {ab:Bool} {col:Option Bool} {dd:Option Addr} {k0 k1 k2 k3 k5:Option Value} {B newId initId:String}
end
def isR:Value->Bool
 | .ref _=>true
 | _=>false
def veMro:List Value->Bool
 | []=>false
 | c::r=>if isR c then veMro r else (c::r)==veM
def veOver (K:Frag) (C:Addr):Bool:=(clsIn K C).any λcd=>veMro cd.mro
section
variable {prog:Program} {w:World} {A:Around} {s:Shared} {K:Frag} {x C:Addr} {R:Result->Shared->Prop}
end
section
variable {prog:Program} {w:World} {A:Around} {E:Value->Shared->Prop} {s:Shared} {env:Env}
variable {nm q:Str} {C N:Addr} {bs bm bmB:List Value} {hdct:Bool} {sn:List Str} {sub:List Value} {ab:Bool} {col:Option Bool} {dd:Option Addr} {k0 k1 k2 k3 k5:Option Value} {B newId initId:String}
end
def iBody (p1 p2 p3 p4:Pos):List Stmt:=[.Assign [.Attribute (.Name "self" p1) "at" p2] (.Name "at" p3) p4]
structure OwnI (x:Str) (C:Addr) (K:Frag) (mg:Str->Option Value) (base:Heap):Prop where
 bound:mg x=some (.ref C)
 obj:∃ bm N nm q bs hdct sn sub ab col dd k0 k1 k2 k3 k5 mN fI,base.get? C=some (excClassObj nm q C N bs bm hdct sn sub ab col dd k0 k1 k2 k3 k5 "ValueError.__new__")/\base.Ns N mN/\mN "__init__" = some (.ref fI)/\OwnTail base veM bm /\
  ∃ od osl name qual params scope dV kV doc pm cdv ct an p1 p2 p3 p4,K.lookup fI=some ⟨.type "function",od,.func (fnOf name qual params (iBody p1 p2 p3 p4) scope dV kV doc pm an cdv ct),osl⟩/\codeIn K cdv qual=true/\FnScope ["self","at"] ["self","at"] scope /\
   ∀ a b:Value,bindArgs (fnOf name qual params (iBody p1 p2 p3 p4) scope dV kV doc pm an cdv ct) ⟨[a,b],[]⟩=pure ([("self" : Str),"at"].zip [a,b])
 set:findIn K (.ref C) "__setattr__" = some (some (.builtin "object.__setattr__"))/\veOver K C=true/\takerIn K C "at" = some none/\hasDictIn K C=true
end L2
namespace L2
open PySem PySem.Spec PyProof.Rows
open Sem (wp)
open Builtin
end L2
namespace L2
open PySem PySem.Spec PyProof.Rows
section
variable {prog:Program} {w:World} {A:Around} {E:Value->Shared->Prop} {s:Shared}
theorem ext_it {g t i:Nat} {c:Addr} {h h':Heap} (q:h.IsTupleIter g t i) (e:Heap.ExtBut c h h') (n:g ≠ c):h'.IsTupleIter g t i:=by
 obtain⟨o,a,b⟩:=q
 exact⟨o,e _ _ n a,b⟩
theorem ext_tp {t:Addr} {c:Addr} {its:Array Value} {h h':Heap} (q:h.IsTuple t its) (e:Heap.ExtBut c h h') (n:t ≠ c):h'.IsTuple t its:=by
 obtain⟨o,a,b⟩:=q
 exact⟨o,e _ _ n a,b⟩
theorem put_pair {T:Addr} {a b x:Value} {k:Nat} {Q:Unit->Shared->Prop} (hT:IsPair s.heap T a b)
  (h:∀ h',h'.get? T=some { cls:=.type "tuple",data:=.seq ((#[a,b]:Array Value).setIfInBounds k x) }->Heap.SameBut T s.heap h'->Q () { s with heap:=h' }):wpAny (model prog w) A (updateSeq T (·.setIfInBounds k x)) Q E s:=
 wpAny_updateSeq_pair hT h
theorem zip_item {z TI TO i1 i2 l1 l2:Addr} {k:Nat} {xs ys:Array Value} {x y a b:Value} {Q:Option Value->Shared->Prop} (D:ZipApart z TI TO i1 i2 l1 l2)
  (hz:IsZip s.heap z TI TO .none) (hI:IsPair s.heap TI (.ref i1) (.ref i2)) (hO:IsPair s.heap TO a b) (h1:s.heap.IsTupleIter i1 l1 k) (h2:s.heap.IsTupleIter i2 l2 k) (t1:s.heap.IsTuple l1 xs) (t2:s.heap.IsTuple l2 ys) (hx:xs[k]?=some x) (hy:ys[k]?=some y)
  (hQ:∀ h',IsZip h' z TI TO (rawInt s.heap.objs.size)->IsPair h' TO x y->h'.IsTupleIter i1 l1 (k+1)->h'.IsTupleIter i2 l2 (k+1)->IsPair h' s.heap.objs.size x y ->
   (∀ c o,c ≠ z->c ≠ TO->c ≠ i1->c ≠ i2->s.heap.get? c=some o->h'.get? c=some o)->Q (some (.ref s.heap.objs.size)) { s with heap:=h' }):wpAny (model prog w) A (pyNext (.ref z)) Q E s:=by
 have hT:s.TypeIs (.ref z) "zip" := ⟨_,hz,rfl⟩
 unfold pyNext
 refine wpAny_bind (wpAny_attempt (wpAny_callSpecial?_slot (name:=Str.ofString "__next__") hT F.slot_zip_next (wpAny_call_entry F.slot_zip_next hT F.entry_zip_next ?_ (F.args_zip_next_1 _))))
 show wpAny _ _ (field (.ref z) 2 >>= _) _ _ _; refine wpAny_bind (wpAny_field hz rfl (x:=.bool false) rfl ?_)
 show wpAny _ _ (field (.ref z) 3 >>= _) _ _ _; refine wpAny_bind (wpAny_field hz rfl (x:=.ref TI) rfl (wpAny_bind (wpAny_seqItems hI rfl ?_)))
 show wpAny _ _ (Builtin.SmallTypes.ownedTupleIsFree (.ref z) >>= _) _ _ _; refine wpAny_bind ?_; unfold Builtin.SmallTypes.ownedTupleIsFree
 refine wpAny_bind (wpAny_field hz rfl (x:=.none) rfl (wpAny_pure ?_)); simp only[if_true]; refine wpAny_bind (wpAny_rule (wpAny_bind (wpAny_field hz rfl (x:=.ref TO) rfl (wpAny_bind (wpAny_setField_rec hz (by simp) λg1 z1 e1=>?_)))))
 replace z1:IsZip g1 z TI TO .ellipsis:=z1
 refine wpAny_bind ?_; simp only[List.zipIdx_cons,List.zipIdx_nil,List.forIn_cons,List.forIn_nil]
 refine wpAny_bind (wpAny_bind (wpAny_onRaise ?_)); show wpAny _ _ (Builtin.SmallTypes.nextOf (.ref i1) >>= _) _ _ _
 refine wpAny_bind (nextOf_tup_item (ext_it h1 e1.extBut D.i1z) (ext_tp t1 e1.extBut D.l1z) hx λg2 j1 e2=>wpAny_pure ?_)
 have o2:IsPair g2 TO a b:=e2.extBut _ _ D.TOi1 (e1.extBut _ _ D.TOz hO)
 refine wpAny_bind (wpAny_seqItems o2 rfl (wpAny_bind (put_pair o2 λg3 o3 e3=>?_))); replace o3:IsPair g3 TO x b:=o3
 refine wpAny_bind (wpAny_letGo (wpAny_pure (wpAny_bind (wpAny_bind (wpAny_onRaise ?_))))); show wpAny _ _ (Builtin.SmallTypes.nextOf (.ref i2) >>= _) _ _ _
 refine wpAny_bind (nextOf_tup_item (ext_it (ext_it (ext_it h2 e1.extBut D.i2z) e2.extBut D.i12.symm) e3.extBut D.TOi2.symm) (ext_tp (ext_tp (ext_tp t2 e1.extBut D.l2z) e2.extBut D.l2i1) e3.extBut D.l2TO) hy λg4 j2 e4=>wpAny_pure ?_)
 have o4:IsPair g4 TO x b:=e4.extBut _ _ D.TOi2 o3
 refine wpAny_bind (wpAny_seqItems o4 rfl (wpAny_bind (put_pair o4 λg5 o5 e5=>?_))); replace o5:IsPair g5 TO x y:=o5
 refine wpAny_bind (wpAny_letGo (wpAny_pure (wpAny_pure (wpAny_bind (wpAny_seqItems o5 rfl (wpAny_bind (wpAny_newTuple ?_)))))))
 have sz:g5.objs.size=s.heap.objs.size:=by rw[e5.1,e4.1,e3.1,e2.1,e1.1]
 have z5:IsZip g5 z TI TO .ellipsis:=e5.extBut _ _ D.TOz.symm (e4.extBut _ _ D.i2z.symm (e3.extBut _ _ D.TOz.symm (e2.extBut _ _ D.i1z.symm z1)))
 have k5:∀ c o,c ≠ z->c ≠ TO->c ≠ i1->c ≠ i2->s.heap.get? c=some o->g5.get? c=some o:=λc o c1 c2 c3 c4 e=>e5.extBut _ _ c2 (e4.extBut _ _ c4 (e3.extBut _ _ c2 (e2.extBut _ _ c3 (e1.extBut _ _ c1 e))))
 have q1:g5.IsTupleIter i1 l1 (k+1):=ext_it (ext_it (ext_it j1 e3.extBut D.TOi1.symm) e4.extBut D.i12) e5.extBut D.TOi1.symm
 have q2:g5.IsTupleIter i2 l2 (k+1):=ext_it j2 e5.extBut D.TOi2.symm
 have zl:z<g5.objs.size:=Heap.lt_size z5
 show wpAny _ _ (Builtin.SmallTypes.ownedTupleHandOut (.ref z) (.ref g5.objs.size) >>= _) _ _ _; refine wpAny_bind ?_; unfold Builtin.SmallTypes.ownedTupleHandOut
 have z6:IsZip (g5.push { cls:=.type "tuple",data:=.seq #[x,y] }) z TI TO .ellipsis:=Heap.get?_push_of_some _ z5
 refine wpAny_bind (wpAny_setField_rec z6 (by simp) λg7 z7 e7=>?_); replace z7:IsZip g7 z TI TO (rawInt g5.objs.size):=z7
 refine wpAny_setField_rec z7 (by simp) λg8 z8 e8=>?_; replace z8:IsZip g8 z TI TO (rawInt g5.objs.size):=z8
 have up:∀ c o,c ≠ z->g5.get? c=some o->g8.get? c=some o:=λc o c1 e=>e8.extBut _ _ c1 (e7.extBut _ _ c1 (Heap.get?_push_of_some _ e))
 have t8:IsPair g8 g5.objs.size x y:=e8.extBut _ _ (Nat.ne_of_gt zl) (e7.extBut _ _ (Nat.ne_of_gt zl) (Heap.get?_push_size _ rfl))
 rw[sz] at z8 t8
 refine wpAny_pure ⟨_,rfl,wpAny_pure ?_⟩
 show Q (some (.ref g5.objs.size)) _
 rw[sz]
 have up':∀ {g t i:Nat},g5.IsTupleIter g t i->g ≠ z->g8.IsTupleIter g t i:=λ⟨o,a,b⟩ n=>⟨o,up _ o n a,b⟩
 exact hQ g8 z8 (up _ _ D.TOz o5) (up' q1 D.i1z) (up' q2 D.i2z) t8 λc o c1 c2 c3 c4 e=>up c o c1 (k5 c o c1 c2 c3 c4 e)
theorem zip_end {z TI TO i1 i2 l1 l2:Addr} {k:Nat} {xs:Array Value} {a b:Value} {Q:Option Value->Shared->Prop} (hh:A.handled=none) (D:ZipApart z TI TO i1 i2 l1 l2)
  (hz:IsZip s.heap z TI TO .none) (hI:IsPair s.heap TI (.ref i1) (.ref i2)) (hO:IsPair s.heap TO a b) (h1:s.heap.IsTupleIter i1 l1 k) (t1:s.heap.IsTuple l1 xs) (hx:xs[k]?=none)
  (hQ:∀ h',(∀ c o,c ≠ z->c ≠ i1->s.heap.get? c=some o->h'.get? c=some o)->Q none { s with heap:=h' }):wpAny (model prog w) A (pyNext (.ref z)) Q E s:=by
 have hT:s.TypeIs (.ref z) "zip" := ⟨_,hz,rfl⟩
 unfold pyNext
 refine wpAny_bind (wpAny_attempt (wpAny_callSpecial?_slot (name:=Str.ofString "__next__") hT F.slot_zip_next (wpAny_call_entry F.slot_zip_next hT F.entry_zip_next ?_ (F.args_zip_next_1 _))))
 show wpAny _ _ (field (.ref z) 2 >>= _) _ _ _; refine wpAny_bind (wpAny_field hz rfl (x:=.bool false) rfl ?_)
 show wpAny _ _ (field (.ref z) 3 >>= _) _ _ _; refine wpAny_bind (wpAny_field hz rfl (x:=.ref TI) rfl (wpAny_bind (wpAny_seqItems hI rfl ?_)))
 show wpAny _ _ (Builtin.SmallTypes.ownedTupleIsFree (.ref z) >>= _) _ _ _; refine wpAny_bind ?_; unfold Builtin.SmallTypes.ownedTupleIsFree
 refine wpAny_bind (wpAny_field hz rfl (x:=.none) rfl (wpAny_pure ?_)); simp only[if_true]; refine wpAny_bind (wpAny_rule (wpAny_bind (wpAny_field hz rfl (x:=.ref TO) rfl (wpAny_bind (wpAny_setField_rec hz (by simp) λg1 z1 e1=>?_)))))
 replace z1:IsZip g1 z TI TO .ellipsis:=z1
 refine wpAny_bind ?_; simp only[List.zipIdx_cons,List.zipIdx_nil,List.forIn_cons,List.forIn_nil]
 refine wpAny_bind (wpAny_bind (wpAny_onRaise ?_)); show wpAny _ _ (Builtin.SmallTypes.nextOf (.ref i1) >>= _) _ _ _
 refine wpAny_bind (nextOf_tup_end (show A.in1.handled=none from hh) (ext_it h1 e1.extBut D.i1z) (ext_tp t1 e1.extBut D.l1z) hx λg2 e e2 he=>?_)
 obtain⟨oe,hoe,hce⟩:=he
 have z2:IsZip g2 z TI TO .ellipsis:=e2 _ _ D.i1z.symm z1
 have hez:e ≠ z:=λq=>by subst q; rw[z2] at hoe; cases hoe; simp at hce
 refine wpAny_setField_rec z2 (by simp) λg3 _ e3=>?_
 refine wpAny_bind (wpAny_isInstance (T := "StopIteration") (b:=true) ⟨oe,e3.extBut _ _ hez hoe,hce⟩ isSubtype_stop ?_)
 exact wpAny_pure (hQ _ λc o c1 c3 q=>e3.extBut _ _ c1 (e2 _ _ c3 (e1.extBut _ _ c1 q)))
def zObj (a:Addr):Obj:={ cls:=.type "tuple_iterator",data:=.fields #[.ref a,.int 0 0] }
def zH (h:Heap) (a b:Addr):Heap:=((((h.push (zObj a)).push (zObj b)).push { cls:=.type "tuple",data:=.seq #[.ref h.objs.size,.ref (h.objs.size+1)] }).push { cls:=.type "tuple",data:=.seq #[.none,.none] }).push { cls:=.type "zip",data:=.fields #[.none,.bool false,.bool false,.ref (h.objs.size+2),.ref (h.objs.size+3)] }
theorem zip_new (l1 l2:Addr) (xs ys:Array Value):Meets (Builtin.«zip.__new__» ⟨[.type "zip",.ref l1,.ref l2],[]⟩) (λ_ R s=>s.heap.IsTuple l1 xs/\s.heap.IsTuple l2 ys/\R (.ok (.ret (.ref (s.heap.objs.size+4)))) { s with heap:=zH s.heap l1 l2 }):=
 .of_wp λprog w A R s h=>by
  obtain⟨hp,g,d,tk,os⟩:=s
  obtain⟨hl1,hl2,h⟩:=h
  have hsub:=sub_zip
  have a1:Heap.IsTuple (Shared.heap ⟨hp,g,d,tk,os⟩) l1 xs:=hl1
  have a2:Heap.IsTuple (Shared.heap ⟨hp.push { cls:=.type "tuple_iterator",data:=.fields #[.ref l1,.int 0 0] },g,d,tk,os⟩) l2 ys:=by
   obtain⟨o,e,q⟩:=hl2
   exact⟨o,Heap.get?_push_of_some _ e,q⟩
  wp_walk using wpAny_pyIter_tuple a1,wpAny_pyIter_tuple a2
  refine⟨_,rfl,?_⟩
  simp only[Heap.size_push]
  exact h
theorem call_zip {l1 l2:Addr} {xs ys:Array Value} {Q:Value->Shared->Prop} (hl1:s.heap.IsTuple l1 xs) (hl2:s.heap.IsTuple l2 ys)
  (h:∀ h',IsZip h' (s.heap.objs.size+4) (s.heap.objs.size+2) (s.heap.objs.size+3) .none->IsPair h' (s.heap.objs.size+2) (.ref s.heap.objs.size) (.ref (s.heap.objs.size+1)) ->
   IsPair h' (s.heap.objs.size+3) .none .none->h'.IsTupleIter s.heap.objs.size l1 0->h'.IsTupleIter (s.heap.objs.size+1) l2 0->(∀ c o,s.heap.get? c=some o->h'.get? c=some o)->Q (.ref (s.heap.objs.size+4)) { s with heap:=h' }) :
  wpAny (model prog w) A (call (.type "zip") [.ref l1,.ref l2]) Q E s:=by
 refine callType_new F.called_zip (by decide) (F.typeCall_zip_2 _ _) (F.newCall_zip_2 _ _) (λobj=>F.args_object_init_3 obj _ _) F.entry_zip_new (zip_new l1 l2 xs ys) ⟨hl1,hl2,?_⟩
 have old:∀ {h:Heap} {o':Obj} {c:Addr} {o:Obj},h.get? c=some o->(h.push o').get? c=some o:=λe=>Heap.get?_push_of_some _ e
 have new:∀ {h:Heap} {o:Obj} {n:Nat},h.objs.size=n->o.isFreed=false->(h.push o).get? n=some o:=λe q=>e ▸ Heap.get?_push_size _ q
 have z1:(s.heap.push (zObj l1)).objs.size=s.heap.objs.size+1:=Heap.size_push ..
 have z2:((s.heap.push (zObj l1)).push (zObj l2)).objs.size=s.heap.objs.size+2:=by rw[Heap.size_push,z1]
 have z3:(((s.heap.push (zObj l1)).push (zObj l2)).push { cls:=.type "tuple",data:=.seq #[.ref s.heap.objs.size,.ref (s.heap.objs.size+1)] }).objs.size=s.heap.objs.size+3:=by rw[Heap.size_push,z2]
 have z4:((((s.heap.push (zObj l1)).push (zObj l2)).push { cls:=.type "tuple",data:=.seq #[.ref s.heap.objs.size,.ref (s.heap.objs.size+1)] }).push { cls:=.type "tuple",data:=.seq #[.none,.none] }).objs.size=s.heap.objs.size+4:=by rw[Heap.size_push,z3]
 have g5:IsZip (zH s.heap l1 l2) (s.heap.objs.size+4) (s.heap.objs.size+2) (s.heap.objs.size+3) .none:=new z4 rfl
 refine⟨⟨_,g5,rfl⟩,h _ g5 (old (old (new z2 rfl))) (old (new z3 rfl)) ⟨_,old (old (old (old (new rfl rfl)))),rfl,rfl⟩ ⟨_,old (old (old (new z1 rfl))),rfl,rfl⟩ λc o x=>old (old (old (old (old x))))⟩
end
def Itz (K:PySem.W.Frag) (a b:Addr):It:=⟨λi H=>(Itt K a).go i H/\(Itt K b).go i H,λi H x H'=>∃ T y v,x=.ref T/\H T=none/\H'=upd H T (.tup [y,v])/\(Itt K a).yld i H y H/\(Itt K b).yld i H v H,λi H=>(Itt K a).stop i H⟩
theorem turn_zip {P:Program} {w:World} {K:PySem.W.Frag} {elts:List Expr} {kk:Nat} {pos:Pos} {z TI TO i1 i2 a b:Addr} (D:ZipApart z TI TO i1 i2 a b) :
  Turn P w K (.Tuple elts kk pos) (Itz K a b) [z,TI,TO,i1,i2] z (λi h=>IsZip h z TI TO .none/\IsPair h TI (.ref i1) (.ref i2)/\(∃ u v,IsPair h TO u v)/\h.IsTupleIter i1 a i/\h.IsTupleIter i2 b i) where
 mem:=by simp
 obj:=λi h st c hc=>by
  obtain⟨hz,hI,⟨u,v,hO⟩,⟨o1,p1,c1,d1⟩,⟨o2,p2,c2,d2⟩⟩:=st
  simp only[List.mem_cons,List.not_mem_nil,or_false] at hc
  rcases hc with rfl | rfl | rfl | rfl | rfl
  ·exact⟨_,hz,λv q=>by have q':Data.fields _=Data.cell v:=q; cases q'⟩
  ·exact⟨_,hI,λv q=>by have q':Data.seq _ _=Data.cell v:=q; cases q'⟩
  ·exact⟨_,hO,λv q=>by have q':Data.seq _ _=Data.cell v:=q; cases q'⟩
  ·exact⟨_,p1,λv q=>by rw[d1] at q; cases q⟩
  ·exact⟨_,p2,λv q=>by rw[d2] at q; cases q⟩
 keep:=λi h h' st k=>by
  obtain⟨hz,hI,⟨u,v,hO⟩,⟨o1,p1,r1⟩,⟨o2,p2,r2⟩⟩:=st
  exact⟨k z (by simp) _ hz,k TI (by simp) _ hI,⟨u,v,k TO (by simp) _ hO⟩,⟨o1,k i1 (by simp) _ p1,r1⟩,⟨o2,k i2 (by simp) _ p2,r2⟩⟩
 item:=by
  intro X hP hw hK hc i pins s σ H E I hf st hg
  obtain⟨hz,hI,⟨u,v,hO⟩,j1,j2⟩:=st
  obtain⟨⟨xs,x,hq1,hx⟩,⟨ys,y,hq2,hy⟩⟩:=hg
  subst hP hw hK
  obtain⟨its,rv,p1,_⟩:=I.tuple hq1
  obtain⟨jts,rw',p2,_⟩:=I.tuple hq2
  obtain⟨ux,hux,rx⟩:=rv.get hx
  obtain⟨uy,huy,ry⟩:=rw'.get hy
  refine zip_item D hz hI hO j1 j2 p1 p2 (x:=ux) (y:=uy) (by simpa using hux) (by simpa using huy) λh' a1 a2 a3 a4 a5 hk=>⟨_,rfl,wpAny_letOwnedTupleGo_zip a1 λh'' z'' e''=>?_⟩
  have ne:∀ {c o},s.heap.get? c=some o->s.heap.objs.size ≠ c:=λe=>Nat.ne_of_gt (Heap.lt_size e)
  have k2:∀ c u,c ∉ [z,TI,TO,i1,i2]->s.heap.get? c=some u->h''.get? c=some u:=λc u hc e=>by
   simp only[List.mem_cons,List.not_mem_nil,or_false,not_or] at hc
   exact(e''.2 c hc.1).trans (hk c u hc.1 hc.2.2.1 hc.2.2.2.1 hc.2.2.2.2 e)
  have hT:h''.get? s.heap.objs.size=some { cls:=.type "tuple",data:=.seq #[ux,uy] }:=(e''.2 _ (ne hz)).trans a5
  have new:ObjOk X.prog X.w (upd H s.heap.objs.size (.tup [x,y])) h'' s.heap.objs.size (.tup [x,y]):=
   ⟨by simp only[List.length_cons,List.length_nil]; rw[sizeLine_eq]; decide,⟨[ux,uy],.cons rx (.cons ry .nil),⟨_,hT,rfl,_,rfl⟩⟩,λo q=>by rw[hT] at q; cases q; rfl⟩
  have I2:Inv X pins σ (upd H s.heap.objs.size (.tup [x,y])) { s with heap:=h'',toks:=s.toks }:=I.drew k2 hf (Nat.le_refl _) new
  have up:∀ {g t i:Nat},h'.IsTupleIter g t i->g ≠ z->h''.IsTupleIter g t i:=λ⟨o,a,b⟩ n=>⟨o,(e''.2 _ n).trans a,b⟩
  have hI':IsPair h'' TI (.ref i1) (.ref i2):=(e''.2 _ D.TIz).trans (hk _ _ D.TIz D.TITO D.TIi1 D.TIi2 hI)
  refine⟨.ref s.heap.objs.size,_,I2,rfl,⟨_,x,y,rfl,I.hok.fresh (Nat.le_refl _),rfl,⟨rfl,λzs hs=>by rw[I.tuple_inj hs hq1]; exact hx⟩,rfl,λzs hs=>by rw[I.tuple_inj hs hq2]; exact hy⟩,⟨z'',hI',⟨_,_,(e''.2 _ D.TOz).trans a2⟩,up a3 D.i1z,up a4 D.i2z⟩,λc hc=>?_⟩
  have hc':c ≠ s.heap.objs.size:=by
   simp only[List.mem_cons,List.not_mem_nil,or_false] at hc
   rcases hc with rfl | rfl | rfl | rfl | rfl
   ·exact(ne hz).symm
   ·exact(ne hI).symm
   ·exact(ne hO).symm
   ·obtain⟨_,e,_⟩:=j1; exact(ne e).symm
   ·obtain⟨_,e,_⟩:=j2; exact(ne e).symm
  rw[upd_ne hc']
  exact(hf c hc).1
 done:=by
  intro X hP hw hK hc i pins s σ H E I hf st hg
  obtain⟨hz,hI,⟨u,v,hO⟩,j1,j2⟩:=st
  obtain⟨xs,hq,hx⟩:=hg
  subst hP hw hK
  obtain⟨its,rv,p,_⟩:=I.tuple hq
  have hl:=rv.length
  exact zip_end (I.ok.hd hc) D hz hI hO j1 p (by simp; omega) λh' hk=>⟨rfl,I.turnedL (t':=s.toks) (λc u hc e=>hk c u (λq=>hc (by simp[q])) (λq=>hc (by simp[q])) e) hf⟩
 self:=λ_ _ _ _ _ st h=>wpAny_pyIter_zip st.1 h
theorem boot_zip:bootBuiltins "zip" = some (.type "zip"):=by decide +kernel
def iZip (K:PySem.W.Frag) (ta:TA):TI:=λσ H R=>ta σ H λvs H1=>∃ a b,vs=[.ref a,.ref b]/\(∃ xs,SqT K H1 a xs)/\(∃ xs,SqT K H1 b xs)/\R (Itz K a b) H1
theorem pi_zip {X:Cx} {elts:List Expr} {kk:Nat} {tpos:Pos} {x y:Expr} {ta:TA} {p pos:Pos} (hg:Gl X "zip") (hm:X.mg "zip" = none) (ha:PA X [x,y] ta) (hs:starEach [x,y] X.env=(false,eval x X.env)::starEach [y] X.env) (hs':starEach [y] X.env=(false,eval y X.env)::starEach [] X.env) :
  PI X (.Tuple elts kk tpos) (.Call (.Name "zip" p) [x,y] [] pos) (iZip X.K ta):=by
 intro pins s σ H R I h
 refine Call_ (ld_blt I hg hm boot_zip (PyProof.Rows.callWith_type1 (thn (ha pos pins s σ H _ I h) λus s1 ⟨vs,H1,I1,r1,q1⟩=>?_) hs (by rw[hs']; rfl)))
 obtain⟨a,b,rfl,⟨xs,hq1⟩,⟨ys,hq2⟩,q⟩:=q1
 obtain⟨u,v,rfl,ru,rv⟩:=Vals.two r1
 cases ru
 cases rv
 obtain⟨its,_,p1,_⟩:=I1.tuple hq1
 obtain⟨jts,_,p2,_⟩:=I1.tuple hq2
 have l1:a<s1.heap.objs.size:=by obtain⟨_,e,_⟩:=p1; exact Heap.lt_size e
 have l2:b<s1.heap.objs.size:=by obtain⟨_,e,_⟩:=p2; exact Heap.lt_size e
 refine call_zip p1 p2 λh' z' i' o' t1 t2 hk=>?_
 have D:ZipApart (s1.heap.objs.size+4) (s1.heap.objs.size+2) (s1.heap.objs.size+3) s1.heap.objs.size (s1.heap.objs.size+1) a b:=zipApart_new l1 l2
 refine wpAny_pyIter_zip z' ⟨_,[s1.heap.objs.size+4,s1.heap.objs.size+2,s1.heap.objs.size+3,s1.heap.objs.size,s1.heap.objs.size+1],_,_,H1,rfl,I1.kept (t':=s1.toks) hk,turn_zip D,⟨z',i',⟨_,_,o'⟩,t1,t2⟩,λc hc=>?_,q⟩
 have hc':s1.heap.objs.size<=c:=by
  simp only[List.mem_cons,List.not_mem_nil,or_false] at hc
  rcases hc with rfl | rfl | rfl | rfl | rfl <;> first | exact Nat.le_refl _ | exact Nat.le_add_right _ _
 exact I1.fpOk hc' (I1.hok.fresh hc')
def subs:Nat->List (List Nat)
 | 0=>[[]]
 | n+1=>subs n++(subs n).map (·++[n])
theorem subs_mem:∀ (n:Nat) (l:List Nat),l.Pairwise (· < ·)->(∀ x ∈ l,x<n)->l ∈ subs n
 | 0,l,_,h=>by
  cases l with
  | nil=>simp[subs]
  | cons a l=>exact absurd (h a List.mem_cons_self) (Nat.not_lt_zero _)
 | n+1,l,hp,h=>by
  rcases List.eq_nil_or_concat l with rfl | ⟨l',a,rfl⟩
  ·exact List.mem_append.mpr (.inl (subs_mem n [] .nil λx hx=>nomatch hx))
  ·rw[List.concat_eq_append] at hp h |-
   have hp':=List.pairwise_append.mp hp
   have ha:=h a (by simp)
   by_cases e:a=n
   ·subst e
    exact List.mem_append.mpr (.inr (List.mem_map.mpr ⟨l',subs_mem a l' hp'.1 λx hx=>hp'.2.2 x hx a (by simp),rfl⟩))
   ·refine List.mem_append.mpr (.inl (subs_mem n _ hp λx hx=>?_))
    rcases List.mem_append.mp hx with hx | hx
    ·have:=hp'.2.2 x hx a (by simp)
     omega
    ·have:x=a:=by simpa using hx
     omega
def tb7 (ps:List Nat) (led:Bool):SetTable:={ mask:=7,place:=ps.toArray,dummies:=#[],finger:=0,led,moves:=0,plain:=true }
def tb (ps:List Nat) (led:Bool):SetTable:=if ps.length=5 then { mask:=31,place:=ps.toArray,dummies:=#[],finger:=0,led,moves:=1,plain:=true } else tb7 ps led
theorem tb_put:∀ h ∈ List.range 5,∀ ps ∈ subs h,∀ led ∈ [true,false],(tb ps led).freeSlot (h:Int)=some (h,false)/\(tb ps led).put h=(tb7 (ps++[h]) led,ps.length)/\(tb7 (ps++[h]) led).fits (ps.length+1)=true/\(tb7 (ps++[h]) led).tooFull=decide (ps.length=4)/\hashInt (h:Int)=h:=by decide +kernel
theorem tb_re:∀ led ∈ [true,false],(tb7 [0,1,2,3,4] led).relaid #[0,1,2,3,4] (SetTable.grown 5)=some (tb [0,1,2,3,4] led,#[0,1,2,3,4]):=by decide +kernel
def slotAt (ps:List Nat):Nat->Nat
 | 0=>0
 | i+1=>ps.getD i 0+1
theorem tb_go:∀ ps ∈ subs 5,∀ led ∈ [true,false],(tb ps led).fits ps.length=true/\(∀ i ∈ List.range 6,i<=ps.length->SetTable.below (tb ps led).place (slotAt ps i)=i)/\(tb ps led).place=ps.toArray/\(tb ps led).plain=true/\(tb ps led).led=led:=by decide +kernel
theorem led_in (b:Bool):b ∈ [true,false]:=by cases b <;> simp
def iv:Value->Int
 | .int i _=>i
 | _=>0
def ents (us:List Value):Array (Int × Value):=(us.map λu=>(iv u,u)).toArray
abbrev natI (ps:List Nat):List Int:=ps.map λ(n:Nat)=>(n:Int)
def SetIs (h:Heap) (a:Addr) (us:List Value) (ps:List Nat) (led:Bool):Prop:=∃ ep,h.get? a=some { cls:=.type "set",dict:=none,data:=.set (ents us) ep (tb ps led) }
theorem ents_size (us:List Value):(ents us).size=us.length:=by simp[ents]
theorem ents_list (us:List Value):(ents us).toList=us.map λu=>(iv u,u):=by simp[ents]
theorem ents_push (us:List Value) (u:Value):(ents us).push (iv u,u)=ents (us++[u]):=by simp[ents]
theorem ints_mem:∀ {us:List Value} {ns:List Int},IntsAre us ns->∀ u ∈ us,∃ n ∈ ns,∃ t,u=.int n t
 | _,_,.nil,u,h=>nomatch h
 | _,_,.cons n t hr,u,h=>by
  rcases List.mem_cons.mp h with rfl | h
  ·exact⟨n,List.mem_cons_self,t,rfl⟩
  ·obtain⟨m,hm,q⟩:=ints_mem hr u h
   exact⟨m,List.mem_cons_of_mem _ hm,q⟩
theorem hash5 {p:Nat} (h:p<5):hashInt (p:Int)=p:=(tb_put p (List.mem_range.mpr h) [] (by clear h; induction p with | zero=>simp[subs] | succ n ih=>exact List.mem_append.mpr (.inl ih)) true (by simp)).2.2.2.2
section
variable {prog:Program} {w:World} {A:Around} {E:Value->Shared->Prop} {s:Shared}
theorem elems_of {us:List Value} {ps:List Nat} (hI:IntsAre us (natI ps)) (h5:∀ p ∈ ps,p<5):ElemsOf (intKind prog w) (ents us).toList:=by
 rw[ents_list]
 intro e he
 obtain⟨u,hu,rfl⟩:=List.mem_map.mp he
 obtain⟨n,hn,t,rfl⟩:=ints_mem hI u hu
 obtain⟨p,hp,rfl⟩:=List.mem_map.mp hn
 exact⟨⟨p,intKind_is _ _ _ _,(hash5 (h5 p hp)).symm⟩,rfl⟩
theorem fit_of {us:List Value} {ps:List Nat} {led:Bool} (hI:IntsAre us (natI ps)) (hm:ps ∈ subs 5):(tb ps led).fits (ents us).size=true:=by
 rw[ents_size,hI.length,List.length_map]
 exact(tb_go ps hm led (led_in led)).1
theorem lay_is {us:List Value} {ps:List Nat} {led:Bool} {p:Nat} {u:Value} (hl:us.length=ps.length) (hp:p<5) (hm:ps ∈ subs p) (hu:iv u=p):layNew (tb ps led) (ents us) (p:Int) u=(ents (us++[u]),tb7 (ps++[p]) led,false,false):=by
 obtain⟨a1,a2,a3,_⟩:=tb_put p (List.mem_range.mpr hp) ps hm led (led_in led)
 have e:SetTable.insertAt (ents us) ps.length ((p:Int),u)=ents (us++[u]):=by
  rw[<- hl,<- ents_size us,<- ents_push,hu]
  simp[SetTable.insertAt]
 have z:(ents (us++[u])).size=ps.length+1:=by rw[ents_size,List.length_append,hl]; rfl
 unfold layNew
 rw[a1]
 simp only[a2]
 rw[e,z]
 unfold SetTable.orStandIn
 rw[a3]
 rfl
theorem four {us:List Value} {tk:Tok} (hI:IntsAre us (natI [0,1,2,3])):∃ e0 e1 e2 e3,us=[e0,e1,e2,e3]/\(ents ([e0,e1,e2,e3]++[.int (4:Nat) tk])).map (·.1)=#[0,1,2,3,4]:=by
 cases hI with
 | cons n t hI=>cases hI with
  | cons n t hI=>cases hI with
   | cons n t hI=>cases hI with
    | cons n t hI=>
     cases hI
     exact⟨_,_,_,_,rfl,by simp[ents,iv]⟩
theorem set_add {a:Addr} {us:List Value} {ps:List Nat} {led:Bool} {p:Nat} {tk:Tok} {Q:Bool->Shared->Prop} (hS:SetIs s.heap a us ps led) (hI:IntsAre us (natI ps)) (h5:∀ x ∈ ps,x<p) (hp:p<5) (hm:ps ∈ subs p) (hm5:ps ∈ subs 5)
  (h:∀ h',Heap.SameBut a s.heap h'->SetIs h' a (us++[.int p tk]) (ps++[p]) led->Q true { s with heap:=h',toks:=s.toks+1 }):wpAny (model prog w) A (setAdd a (.int p tk)) Q E s:=by
 obtain⟨ep,ho⟩:=hS
 have hl:us.length=ps.length:=by rw[hI.length,List.length_map]
 obtain⟨_,_,a3,a4,_⟩:=tb_put p (List.mem_range.mpr hp) ps hm led (led_in led)
 have lt5:ps.length<5:=by
  have h1:∀ q ∈ List.range 5,∀ l ∈ subs q,l.length<=q:=by decide +kernel
  have:=h1 p (List.mem_range.mpr hp) ps hm
  omega
 have hf:=fit_of (led:=led) hI hm5
 have hel:=elems_of (prog:=prog) (w:=w) hI λx hx=>Nat.lt_trans (h5 x hx) hp
 have hb:(ents us).size<scanBound:=by rw[ents_size,hl]; unfold scanBound; omega
 unfold setAdd
 refine wpAny_holding (wpAny_bind ((intKind prog w).pyHash (k:=(p:Int)) (intKind_is _ _ _ _) ?_))
 unfold setAddHashed setAddHashedIn
 refine wpAny_holding (wpAny_bind (wpAny_setState_of (s:={ s with toks:=s.toks+1 }) ho rfl hf ?_))
 dsimp only
 rw[byScan_of (knd:=intKind prog w) (x:=.int p tk) rfl hb hel]
 simp only[↓reduceIte]
 unfold setAddByScan
 refine wpAny_bind (wpAny_bind (wpAny_rule (wpAny_bind (wpAny_setScan_of (knd:=intKind prog w) (k:=(p:Int)) (s:={ s with toks:=s.toks+1 }) (intKind_is _ _ _ _) ho rfl hf hel ?_))))
 have hno:List.findIdx? (λe=>(intKind prog w).is (p:Int) e.2) (ents us).toList=none:=by
  rw[List.findIdx?_eq_none_iff,ents_list]
  intro e he
  obtain⟨u,hu,rfl⟩:=List.mem_map.mp he
  obtain⟨n,hn,t,rfl⟩:=ints_mem hI u hu
  obtain⟨q,hq,rfl⟩:=List.mem_map.mp hn
  have:=h5 q hq
  show Value.isInt (p:Int) (.int (q:Int) t)=false
  simp[Value.isInt]
  omega
 rw[hno]
 dsimp only
 rw[show (intKind prog w).hash (p:Int)=(p:Int) from hash5 hp,lay_is hl hp hm (u:=.int p tk) rfl]
 refine wpAny_bind (wpAny_pure ?_)
 have hpl:(tb7 (ps++[p]) led).plain=true:=rfl
 have hsz:(ents (us++[.int p tk])).size=ps.length+1:=by rw[ents_size,List.length_append,hl]; rfl
 dsimp only
 rw[if_pos hpl]
 refine wpAny_bind ?_
 rw[hashByValue_scannable 8 (x:=.int p tk) rfl]
 refine wpAny_pure ?_
 rw[if_pos (show plainKind (.int p tk)=true from rfl)]
 refine wpAny_bind (wpAny_storeSet_of (s:={ s with toks:=s.toks+1 }) ho rfl ?_ (by rw[hsz,sizeLine_eq]; omega))
 rw[a4]
 have hg:(s.heap.update a (Obj.putSet (ents (us++[.int p tk])) (tb7 (ps++[p]) led))).get? a=some { cls:=.type "set",dict:=none,data:=.set (ents (us++[.int p tk])) (ep+1) (tb7 (ps++[p]) led) }:=by
  have:=Heap.get?_update_self (Obj.putSet (ents (us++[.int p tk])) (tb7 (ps++[p]) led)) ho (by rw[putSet_of _ _ rfl]; rfl)
  rw[putSet_of _ _ rfl] at this
  exact this
 have sb:=Heap.SameBut.update s.heap a (Obj.putSet (ents (us++[.int p tk])) (tb7 (ps++[p]) led))
 by_cases h4:ps.length=4
 ·rw[decide_eq_true h4]
  simp only[Bool.not_false,Bool.and_self,↓reduceIte]
  have hps:ps=[0,1,2,3]/\p=4:=by
   have h1:∀ q ∈ List.range 5,∀ l ∈ subs q,l.length=4->l=[0,1,2,3]/\q=4:=by decide +kernel
   exact h1 p (List.mem_range.mpr hp) ps hm h4
  obtain⟨rfl,rfl⟩:=hps
  obtain⟨e0,e1,e2,e3,rfl,hk⟩:=four (tk:=tk) hI
  have hre:relayAll (tb7 ([0,1,2,3]++[4]) led) (ents ([e0,e1,e2,e3]++[.int (4:Nat) tk])) (SetTable.grown (ents ([e0,e1,e2,e3]++[.int (4:Nat) tk])).size)=(ents ([e0,e1,e2,e3]++[.int (4:Nat) tk]),tb [0,1,2,3,4] led,false):=by
   unfold relayAll
   rw[hk,show (ents ([e0,e1,e2,e3]++[.int (4:Nat) tk])).size=5 from rfl,show ([0,1,2,3]++[4]:List Nat)=[0,1,2,3,4] from rfl,tb_re led (led_in led)]
   cases led <;> rfl
  rw[hre]
  refine wpAny_bind (wpAny_pure ?_)
  refine wpAny_bind (wpAny_storeSet_of hg rfl ?_ (by rw[hsz,sizeLine_eq]; decide))
  refine wpAny_pure (wpAny_pure ?_)
  refine h _ (sb.trans (Heap.SameBut.update _ a _)) ⟨ep+1+1,?_⟩
  have:=Heap.get?_update_self (Obj.putSet (ents ([e0,e1,e2,e3]++[.int (4:Nat) tk])) (tb [0,1,2,3,4] led)) hg (by rw[putSet_of _ _ rfl]; rfl)
  rw[putSet_of _ _ rfl] at this
  exact this
 ·rw[decide_eq_false h4]
  simp only[Bool.not_false,Bool.true_and,Bool.false_eq_true,↓reduceIte]
  refine wpAny_pure (wpAny_pure ?_)
  refine h _ sb ⟨ep+1,?_⟩
  have et:tb (ps++[p]) led=tb7 (ps++[p]) led:=by
   unfold tb
   rw[if_neg (by rw[List.length_append]; simp; omega)]
  rw[et]
  exact hg
end
theorem ints_take:∀ (ps:List Nat) {us:List Value},IntsAre us (natI ps)->∀ i,IntsAre (us.take i) (natI (ps.take i))
 | [],us,h,i=>by
  cases h
  simp
  exact .nil
 | p::ps,us,h,i=>by
  cases h with
  | cons n t hr=>
   cases i with
   | zero=>exact .nil
   | succ i=>exact .cons _ t (ints_take ps hr i)
section
variable {prog:Program} {w:World} {A:Around} {R:Result->Shared->Prop} {I:Addr} {fp wr:List Addr} {G:Array GenState->Array GenState->Prop} {n:Nat} {P:Nat->Value->Prop} {St:Nat->Shared->Prop}
theorem set_loop (W:WalksS prog w A.in1 I fp wr G n P St) (S:Addr) (hSf:S ∉ fp) {us:List Value} {ps:List Nat} (led:Bool) (hI:IntsAre us (natI ps)) (hp:ps.Pairwise (· < ·)) (h5:∀ x ∈ ps,x<5) (hn:n=us.length) (hP:∀ i v,P i v->us[i]?=some v) :
  ∀ (k i:Nat) (s:Shared),n-i=k->i<=n->St i s->SetIs s.heap S (us.take i) (ps.take i) led->(∀ s',Moved (S::wr) G s s'->SetIs s'.heap S us ps led->R (.ok (.ret .none)) s')->codeAny (model prog w) A (.builtin "set.update.loop" ⟨[.ref S,.ref I],[]⟩) R s:=by
 have hSw:S ∉ wr:=λh=>hSf (W.sub _ h)
 have hsub:∀ b ∈ wr,b ∈ S::wr:=λb hb=>List.mem_cons_of_mem _ hb
 have hl:us.length=ps.length:=by rw[hI.length,List.length_map]
 intro k
 induction k with
 | zero=>
  intro i s hk hi hst hS hR
  have hin:i=n:=by omega
  subst hin
  refine codeAny_builtin F.entry_set_update_loop ?_; rw[Around.under_plainId F.plain_set_update_loop _]
  show wpAny _ A.in1 (pyNext (.ref I) >>= _) _ _ s; refine wpAny_bind (W.done s _ _ hst λs' hm=>?_)
  show wpAny _ A.in1 (ret Value.none) _ _ s'; refine wpAny_pure (hR s' (hm.mono hsub) ?_)
  obtain⟨ep,ho⟩:=hS
  rw[hn,List.take_length,hl,List.take_length] at ho
  exact⟨ep,hm.heap S _ hSw ho⟩
 | succ k ih=>
  intro i s hk hi hst hS hR
  have hlt:i<n:=by omega
  refine codeAny_builtin F.entry_set_update_loop ?_; rw[Around.under_plainId F.plain_set_update_loop _]
  show wpAny _ A.in1 (pyNext (.ref I) >>= _) _ _ s; refine wpAny_bind (W.item i s _ _ hlt hst λv s' hPv hst' hm=>?_)
  have hv:=hP i v hPv
  have hip:i<ps.length:=by omega
  obtain⟨t,e⟩:=IntsAre.int_at hI i v hv
  have e':(natI ps).getD i 0=(ps[i]:Int):=by rw[List.getD_eq_getElem?_getD,List.getElem?_map,List.getElem?_eq_getElem hip]; rfl
  rw[e'] at e
  subst e
  obtain⟨ep,ho⟩:=hS
  have below:∀ x ∈ ps.take i,x<ps[i]:=λx hx=>by
   obtain⟨j,hj,rfl⟩:=List.getElem_of_mem hx
   rw[List.length_take] at hj
   rw[List.getElem_take]
   exact List.pairwise_iff_getElem.mp hp j i (by omega) hip (by omega)
  have pt:=hp.sublist (List.take_sublist i ps)
  show wpAny _ A.in1 (holding [Value.int (ps[i]:Int) t] (setAdd S (.int (ps[i]:Int) t)) >>= _) _ _ s'
  refine wpAny_bind (wpAny_holding (set_add (led:=led) ⟨ep,hm.heap S _ hSw ho⟩ (ints_take _ hI i) below (h5 _ (List.getElem_mem _)) (subs_mem _ _ pt below) (subs_mem 5 _ pt λx hx=>h5 x (List.mem_of_mem_take hx)) λh' hsb hS2=>?_))
  have u1:us.take (i+1)=us.take i++[.int (ps[i]:Int) t]:=by rw[List.take_add_one,hv]; rfl
  have p1:ps.take (i+1)=ps.take i++[ps[i]]:=by rw[List.take_add_one,List.getElem?_eq_getElem hip]; rfl
  refine wpAny_pure ⟨plainId_quiet F.plain_set_update_loop _,ih (i+1) _ (by omega) hlt (W.frame _ s' _ _ hst' (Nat.le_succ _) λb hb o e=>?_) (by rw[u1,p1]; exact hS2) λs'' hm'' hS''=>?_⟩
  ·rw[hsb.2 b (λh:b=S=>hSf (by rw[<- h]; exact hb))]; exact e
  ·refine hR s'' (Moved.trans W.gtrans ((hm.mono hsub).then_heap (Nat.le_succ _) λb o hb e=>?_) hm'') hS''
   rw[hsb.2 b (λh:b=S=>hb (by rw[h]; exact List.mem_cons_self))]; exact e
end
def byT (w:World):Bool:=w.params.followText "set-order"
section
variable {prog:Program} {w:World} {A:Around} {E:Value->Shared->Prop} {s:Shared}
abbrev freshO (led:Bool):Obj:={ cls:=.type "set",dict:=none,data:=.set #[] 0 (.fresh 0 0 led) }
theorem set_new1 (a:Value) {Q₁:Value->Shared->Prop} (h:Q₁ (.ref s.heap.objs.size) { s with heap:=s.heap.push (freshO (!byT w)) }):codeAny (model prog w) A (.call (.builtin "set.__new__") ⟨[.type "set",a],[]⟩) (wants Q₁ E) s:=by
 refine codeAny_of_tree ?_; show wpAny _ A.in1 (do checkBuiltinCall "set.__new__" ⟨[.type "set",a],[]⟩; again (.builtin "set.__new__" ⟨[.type "set",a],[]⟩)) _ _ s
 refine wpAny_bind (wpAny_of_eq (F.newCall_set_1 a) (wpAny_pure ⟨plainId_quiet F.plain_set_new _,codeAny_builtin F.entry_set_new ?_⟩)); rw[Around.under_plainId F.plain_set_new _]
 unfold Builtin.«set.__new__» Builtin.Frozenset.newClass; have hsub:=sub_set_self
 obtain⟨hp,g,d,tk,os⟩:=s
 dsimp only
 wp_walk
 refine wpAny_askSetting (wpAny_pure ?_); dsimp only
 simp only[newObj]; refine wpAny_bind (wpAny_alloc (wpAny_pure ?_)); exact wpAny_pure h
theorem sub_t1:isSubtype (.type "tuple") (.type "set")=pure false:=by rw[isSubtype_type]; kernel_rfl
theorem sub_t2:isSubtype (.type "tuple") (.type "frozenset")=pure false:=by rw[isSubtype_type]; kernel_rfl
theorem call_set {l:Addr} {us:List Value} {ps:List Nat} {Q:Value->Shared->Prop} (hh:A.handled=none) (hl:s.heap.IsTuple l us.toArray) (hI:IntsAre us (natI ps)) (hp:ps.Pairwise (· < ·)) (h5:∀ x ∈ ps,x<5)
  (h:∀ (h':Heap) (tk:Nat),SetIs h' s.heap.objs.size us ps (!byT w)->(∀ b o,b<s.heap.objs.size->s.heap.get? b=some o->h'.get? b=some o)->Q (.ref s.heap.objs.size) { s with heap:=h',toks:=tk }):wpAny (model prog w) A (call (.type "set") [.ref l]) Q E s:=by
 obtain⟨c,tl,hmro⟩:=F.called_set.mro
 have hmade:=F.called_set.made
 have hsub:=F.called_set.sub
 refine wpAny_call (codeAny_of_tree ?_); show wpAny _ _ (callAny (.type "set") _) _ _ _
 refine wpAny_pure ⟨Code.quiet_builtin _ (by decide +kernel),codeAny_builtin F.entry_type_call ?_⟩; rw[Around.under_plain (weight_type_call_type "set" [.ref l] []) rfl]
 have h1:=F.called_set.notType
 have h2:=F.called_set.canCreate
 have hct:=F.typeCall_set_1 (.ref l)
 repeat (any_goals (first | assumption | wp_step))
 refine codeAny_mono (set_new1 (.ref l) (E:=E) (Q₁:=λobj s₁=>obj=.ref s.heap.objs.size/\s₁={ s with heap:=s.heap.push (freshO (!byT w)) }) ⟨rfl,rfl⟩) λr s₁ hr=>?_
 cases r with
 | error e=>exact hr
 | ok fl=>
  cases fl with
  | ret obj=>
   obtain⟨rfl,rfl⟩:=hr
   have hS:(s.heap.push (freshO (!byT w))).get? s.heap.objs.size=some (freshO (!byT w)):=Heap.get?_push_size _ rfl
   have hT:Shared.TypeIs { s with heap:=s.heap.push (freshO (!byT w)) } (.ref s.heap.objs.size) "set" := ⟨_,hS,rfl⟩
   have hli:=F.called_set.init.lookup
   have hbi:=F.called_set.init.bind (.ref s.heap.objs.size)
   repeat (any_goals (first | assumption | wp_step))
   refine codeAny_mono (codeAny_call_builtin (R:=wants (λr s₂=>r=.none/\∃ h' tk,s₂={ s with heap:=h',toks:=tk }/\SetIs h' s.heap.objs.size us ps (!byT w)/\(∀ b o,b<s.heap.objs.size->s.heap.get? b=some o->h'.get? b=some o)) E) F.called_set.init.plain F.entry_set_init (check_set_init_1 hT ?_)) λr₂ s₂ hr₂=>?_
   ·obtain⟨ol,hol,hcl,nl,hdl⟩:=hl
    obtain⟨ocls,odict,odata,oslots⟩:=ol
    simp only at hcl hdl
    subst hcl; subst hdl
    have hol':(s.heap.push (freshO (!byT w))).get? l=some { cls:=.type "tuple",dict:=odict,data:=.seq us.toArray nl,slots:=oslots }:=Heap.get?_push_of_some _ hol
    have hs1:=sub_t1
    have hs2:=sub_t2
    have hne:(Value.type "tuple" == Value.type "dict")=false:=by decide
    have hl1:(s.heap.push (freshO (!byT w))).IsTuple l us.toArray:=⟨_,hol',rfl,nl,rfl⟩
    unfold Builtin.«set.__init__» noKeywords Builtin.Frozenset.updateFrom
    generalize hPI:pyIter=PI
    wp_walk
    subst hPI
    refine wpAny_pyIter_tuple hl1 (wpAny_bind (wpAny_runValue ?_))
    have hlS:l<s.heap.objs.size:=Heap.lt_size hol
    have hh3:A.in1.in1.in1.handled=none:=by simp[hh]
    have hneI:l ≠ (s.heap.push (freshO (!byT w))).objs.size:=by rw[Heap.size_push]; exact Nat.ne_of_lt (Nat.lt_succ_of_lt hlS)
    have hSf:s.heap.objs.size ∉ [(s.heap.push (freshO (!byT w))).objs.size,l]:=by
     rw[Heap.size_push]; simp only[List.mem_cons,List.not_mem_nil,or_false,not_or]
     exact⟨Nat.ne_of_lt (Nat.lt_succ_self _),Nat.ne_of_gt hlS⟩
    refine set_loop ((Walks.tuple hh3 _ l hneI us.toArray).toS) s.heap.objs.size hSf (!byT w) hI hp h5 (by simp) (λi v hv=>by simpa using hv) (us.toArray.size-0) 0 _ (by omega) (Nat.zero_le _) ⟨⟨_,Heap.get?_push_size _ rfl,rfl,rfl⟩,(let ⟨o,e,q⟩:=hl1; ⟨o,Heap.get?_push_of_some _ e,q⟩)⟩ ⟨0,Heap.get?_push_of_some _ hS⟩ λs' hm hS'=>?_
    obtain⟨h',g',d',tk',os'⟩:=s'
    have eg:g'=s.gens:=hm.gens
    have ed:d'=s.drawn:=hm.drawn
    have eo:os'=s.os:=hm.os
    subst eg; subst ed; subst eo
    show wpAny _ _ _ _ _ _
    refine wpAny_pure ?_
    show wpAny _ _ (ret Value.none) _ _ _
    refine wpAny_pure ⟨rfl,h',tk',rfl,hS',λb o hb e=>?_⟩
    have hb2:b ≠ (s.heap.push (freshO (!byT w))).objs.size:=by rw[Heap.size_push]; exact Nat.ne_of_lt (Nat.lt_succ_of_lt hb)
    exact hm.heap b o (by simp only[List.mem_cons,List.not_mem_nil,or_false,not_or]; exact⟨Nat.ne_of_lt hb,hb2⟩) (Heap.get?_push_of_some _ (Heap.get?_push_of_some _ e))
   ·cases r₂ with
    | error e=>exact hr₂
    | ok fl₂=>
     cases fl₂ with
     | ret r=>
      obtain⟨rfl,h',tk,rfl,hS',hk'⟩:=hr₂
      repeat (any_goals (first | assumption | wp_step))
      exact h _ _ hS' hk'
     | _=>exact hr₂.elim
  | _=>exact hr.elim
end
theorem perm_er {α:Type} {l:List α} {i:Nat} (h:i<l.length):(l[i]::l.eraseIdx i).Perm l:=by
 rw[List.eraseIdx_eq_take_drop_succ]
 have e:l.take i++l[i]::l.drop (i+1)=l:=by rw[List.getElem_cons_drop,List.take_append_drop]
 exact List.perm_middle.symm.trans (by rw[e])
theorem pick_perm {α:Type} (next:Nat->Nat):∀ (n k:Nat) (left:List α) (out:Array α),left.length=n->(pickOrder.go next n k left out).toList.Perm (out.toList++left)
 | 0,k,left,out,h=>by
  have:left=[]:=List.length_eq_zero_iff.mp h
  subst this
  rw[pickOrder.go,List.append_nil]
 | n+1,k,left,out,h=>by
  have hlt:next k % left.length<left.length:=Nat.mod_lt _ (by omega)
  rw[pickOrder.go,List.getElem?_eq_getElem hlt]
  refine(pick_perm next n (k+1) _ _ (by rw[List.length_eraseIdx_of_lt hlt]; omega)).trans ?_
  rw[Array.toList_push,List.append_assoc]
  exact List.Perm.append_left _ (perm_er hlt)
def ordL (w:World) (a:Addr) (ep:Nat) (us:List Value):List (Int × Value):=if byT w then (pickOrder (w.params.setOrder a ep) (ents us)).toList else (ents us).toList
def slW (w:World) (ps:List Nat) (i:Nat):Nat:=if byT w then 0 else slotAt ps i
theorem ord_perm (w:World) (a:Addr) (ep:Nat) (us:List Value):((ordL w a ep us).map (·.2)).Perm us:=by
 have e:(ents us).toList.map (·.2)=us:=by rw[ents_list,List.map_map]; exact List.map_id' us
 unfold ordL
 split
 ·have:=(pick_perm (w.params.setOrder a ep) (ents us).size 0 (ents us).toList #[] (by simp)).map (·.2)
  rw[List.map_append,e] at this
  exact this
 ·rw[e]
theorem ord_len (w:World) (a:Addr) (ep:Nat) (us:List Value):(ordL w a ep us).length=us.length:=by
 have:=(ord_perm w a ep us).length_eq
 rwa [List.length_map] at this
section
variable {prog:Program} {w:World} {A:Around} {E:Value->Shared->Prop} {s:Shared}
abbrev setO (us:List Value) (ps:List Nat) (ep:Nat) (led:Bool):Obj:={ cls:=.type "set",dict:=none,data:=.set (ents us) ep (tb ps led) }
abbrev SitO (a:Addr) (sl i n ep:Nat):Obj:={ cls:=.type "set_iterator",data:=.fields #[rawInt (sl:Int),rawInt (i:Int),.ref a,rawInt (n:Int),rawInt (ep:Int)] }
theorem by_text {Q:Bool->Shared->Prop} (h:Q (byT w) s):wpAny (model prog w) A setsByText Q E s:=by
 unfold setsByText
 exact wpAny_bind (wpAny_askSetting (wpAny_pure h))
theorem set_drawn {a:Addr} {us:List Value} {ps:List Nat} {ep:Nat} {led:Bool} {Q:Bool->Shared->Prop} (ho:s.heap.get? a=some (setO us ps ep led)) (hI:IntsAre us (natI ps)) (hm:ps ∈ subs 5) (h:Q false s):wpAny (model prog w) A (setDrawn a) Q E s:=by
 show wpAny _ _ (do let (es,_,t) <- setState a; let b <- setsByText; return !b&&(!t.plain&&decide (es.size > 1))) Q E s
 refine wpAny_bind (wpAny_setState_of ho rfl (fit_of hI hm) (wpAny_bind (by_text (wpAny_pure ?_))))
 rw[(tb_go ps hm led (led_in led)).2.2.2.1,Bool.not_true,Bool.false_and,Bool.and_false]
 exact h
theorem set_walk {a:Addr} {us:List Value} {ps:List Nat} {ep:Nat} {led:Bool} {Q:Array (Int × Value)->Shared->Prop} (hb:byT w=true) (ho:s.heap.get? a=some (setO us ps ep led)) (hI:IntsAre us (natI ps)) (hm:ps ∈ subs 5) (h:Q (pickOrder (w.params.setOrder a ep) (ents us)) s):wpAny (model prog w) A (setWalk a) Q E s:=by
 unfold setWalk
 refine wpAny_bind (wpAny_setState_of ho rfl (fit_of hI hm) (wpAny_bind (by_text ?_)))
 rw[if_pos hb]
 exact wpAny_bind (wpAny_askSetting (wpAny_pure h))
theorem set_next {a:Addr} {us:List Value} {ps:List Nat} {ep i:Nat} {Q:Option (Value × Nat)->Shared->Prop} (ho:s.heap.get? a=some (setO us ps ep (!byT w))) (hI:IntsAre us (natI ps)) (hm:ps ∈ subs 5) (hi:i<=us.length)
  (h:Q ((ordL w a ep us)[i]?.map λe=>(e.2,slW w ps (i+1))) s):wpAny (model prog w) A (setNext a (slW w ps i) i ep) Q E s:=by
 obtain⟨g1,g2,g3,g4,g5⟩:=tb_go ps hm (!byT w) (led_in _)
 have hl:us.length=ps.length:=by rw[hI.length,List.length_map]
 have l5:ps.length<=5:=by
  have h1:∀ l ∈ subs 5,l.length<=5:=by decide +kernel
  exact h1 ps hm
 unfold setNext
 refine wpAny_bind (wpAny_setState_of ho rfl (fit_of hI hm) (wpAny_bind (by_text ?_)))
 cases hb:byT w with
 | true=>
  have e1:slW w ps i=0:=by unfold slW; rw[hb]; rfl
  have e2:slW w ps (i+1)=0:=by unfold slW; rw[hb]; rfl
  have e3:ordL w a ep us=(pickOrder (w.params.setOrder a ep) (ents us)).toList:=by unfold ordL; rw[hb]; rfl
  rw[e2,e3] at h
  simp only[if_true,bne_self_eq_false,Bool.false_eq_true,if_false]
  refine wpAny_bind (set_walk hb ho hI hm (wpAny_pure ?_))
  rw[e1,<- Array.getElem?_toList]
  exact h
 | false=>
  have e1:slW w ps i=slotAt ps i:=by unfold slW; rw[hb]; rfl
  have e2:slW w ps (i+1)=slotAt ps (i+1):=by unfold slW; rw[hb]; rfl
  have e3:ordL w a ep us=(ents us).toList:=by unfold ordL; rw[hb]; rfl
  rw[e2,e3] at h
  rw[hb] at g2 g3 g4 g5
  rw[if_neg Bool.false_ne_true]
  show wpAny _ _ (if (!(tb ps (!false)).plain&&decide ((ents us).size > 1))=true then _ else _) Q E s
  rw[show (!(tb ps (!false)).plain&&decide ((ents us).size > 1))=false by rw[g4]; rfl,if_neg Bool.false_ne_true]
  show wpAny _ _ ((if (!(tb ps (!false)).led&&!(ents us).isEmpty)=true then unsupported "set:maker-not-led" else pure ()) >>= _) Q E s
  rw[show (!(tb ps (!false)).led&&!(ents us).isEmpty)=false by rw[g5]; rfl,if_neg Bool.false_ne_true]
  refine wpAny_bind (wpAny_pure ?_)
  dsimp only
  rw[e1,g2 i (List.mem_range.mpr (by omega)) (by omega),g3]
  refine wpAny_pure ?_
  rw[<- Array.getElem?_toList,ents_list,List.getElem?_map] at *
  rcases Nat.lt_or_ge i us.length with z | z
  ·rw[List.getElem?_eq_getElem z,List.getElem?_toArray,List.getElem?_eq_getElem (by omega)]
   rw[List.getElem?_eq_getElem z] at h
   have:slotAt ps (i+1)=ps[i]'(by omega)+1:=by
    show ps.getD i 0+1=_
    rw[List.getD_eq_getElem?_getD,List.getElem?_eq_getElem (by omega)]
    rfl
   rw[this] at h
   exact h
  ·rw[List.getElem?_eq_none z]
   rw[List.getElem?_eq_none z] at h
   exact h
theorem slot_sit:Slot "set_iterator" "__next__" "set_iterator.__next__":=
 .of (owner := "set_iterator") (n := "__next__") (by rw[typeLookup_type,builtinLookup_eq_fast]; kernel_rfl) (by decide +kernel) (by decide +kernel) (by decide +kernel) (by first | exact .inl (by decide +kernel) | exact .inr (by decide +kernel)) (by rw[isSubtype_type]; kernel_rfl)
theorem entry_sit:entryFor table "set_iterator.__next__" = some Builtin.«set_iterator.__next__»:=entryFor_of_fast (by kernel_rfl)
theorem args_sit (a:Value):argsOk "set_iterator.__next__" ⟨[a],[]⟩:=by unfold argsOk; kernel_rfl
theorem entry_siter:entryFor table "set.__iter__" = some Builtin.«frozenset.__iter__»:=entryFor_alias (id' := "frozenset.__iter__") (by kernel_rfl) rfl (by decide +kernel) (by kernel_rfl)
theorem slot_siti:Slot "set_iterator" "__iter__" "set_iterator.__iter__":=
 .of (owner := "set_iterator") (n := "__iter__") (by rw[typeLookup_type,builtinLookup_eq_fast]; kernel_rfl) (by decide +kernel) (by decide +kernel) (by decide +kernel) (by first | exact .inl (by decide +kernel) | exact .inr (by decide +kernel)) (by rw[isSubtype_type]; kernel_rfl)
theorem entry_siti:entryFor table "set_iterator.__iter__" = some Builtin.«dict_keyiterator.__iter__»:=entryFor_alias (id' := "dict_keyiterator.__iter__") (by kernel_rfl) (by first | rfl | decide +kernel | (unfold String.splitOn; simp +decide [String.splitOnAux])) (by decide +kernel) (by kernel_rfl)
theorem args_siti (a:Value):argsOk "set_iterator.__iter__" ⟨[a],[]⟩:=by unfold argsOk; kernel_rfl
theorem self_sit {it:Addr} {Q:Value->Shared->Prop} (hT:s.TypeIs (.ref it) "set_iterator") (h:Q (.ref it) s):wpAny (model prog w) A (pyIter (.ref it)) Q E s:=by
 refine wpAny_pyIter_slot hT slot_siti (wpAny_call_entry slot_siti hT entry_siti ?_ (args_siti _))
 show wpAny _ _ (ret (.ref it)) _ _ s
 exact wpAny_pure ⟨_,rfl,"set_iterator",_,hT,slot_sit.lookup,h⟩
theorem set_iter {a:Addr} {us:List Value} {ps:List Nat} {ep:Nat} {led:Bool} {Q:Value->Shared->Prop} (ho:s.heap.get? a=some (setO us ps ep led)) (hI:IntsAre us (natI ps)) (hm:ps ∈ subs 5)
  (h:Q (.ref s.heap.objs.size) { s with heap:=s.heap.push (SitO a 0 0 us.length ep) }):wpAny (model prog w) A (pyIter (.ref a)) Q E s:=by
 have hT:s.TypeIs (.ref a) "set" := ⟨_,ho,rfl⟩
 have hf:=fit_of (led:=led) hI hm
 refine wpAny_pyIter_slot hT F.slot_set_iter (wpAny_call_entry F.slot_set_iter hT entry_siter ?_ (F.args_set_iter_1 _))
 show wpAny _ _ (Builtin.Frozenset.sizeOf a >>= _) _ _ s
 refine wpAny_bind (wpAny_bind (wpAny_setEntries_of ho rfl hf (wpAny_pure ?_)))
 refine wpAny_bind (set_drawn ho hI hm ?_)
 simp only[Bool.false_eq_true,if_false]
 refine wpAny_bind (wpAny_pure ?_)
 show wpAny _ _ (setEpoch a >>= _) _ _ s
 refine wpAny_bind (wpAny_setEpoch_of ho rfl hf (wpAny_bind (wpAny_newObj_type (wpAny_pure ⟨_,rfl,"set_iterator",_,⟨_,Heap.get?_push_size _ rfl,rfl⟩,slot_sit.lookup,?_⟩))))
 rw[ents_size]
 exact h
theorem sit_walks (hh:A.handled=none) (it a:Addr) (hne:a ≠ it) {us:List Value} {ps:List Nat} (ep:Nat) (hI:IntsAre us (natI ps)) (hm:ps ∈ subs 5) :
  Walks prog w A it [it,a] [it] us.length (λi v=>((ordL w a ep us).map (·.2))[i]?=some v) (λi h=>h.get? it=some (SitO a (slW w ps i) i us.length ep)/\h.get? a=some (setO us ps ep (!byT w))) where
 sub:=λb hb=>by simp at hb; simp[hb]
 frame:=λ_ _ _ st hk=>⟨hk it (by simp) _ st.1,hk a (by simp) _ st.2⟩
 item:=λi s Q E hi st hQ=>by
  obtain⟨h1,ho⟩:=st
  have hf:=fit_of (led:=!byT w) hI hm
  have hT:s.TypeIs (.ref it) "set_iterator" := ⟨_,h1,rfl⟩
  have hio:i<(ordL w a ep us).length:=by rw[ord_len]; exact hi
  unfold pyNext
  refine wpAny_bind (wpAny_attempt (wpAny_callSpecial?_slot (name:=Str.ofString "__next__") hT slot_sit (wpAny_call_entry slot_sit hT entry_sit ?_ (args_sit _))))
  show wpAny _ _ (fieldsOf (.ref it) >>= _) _ _ s; refine wpAny_bind (wpAny_fieldsOf h1 rfl ?_)
  show wpAny _ _ (setEntries a >>= _) _ _ s; refine wpAny_bind (wpAny_setEntries_of ho rfl hf ?_)
  rw[ents_size,if_neg (by simp)]
  show wpAny _ _ (setNext a ((slW w ps i:Int)).toNat ((i:Int)).toNat ((ep:Int)).toNat >>= _) _ _ s
  rw[Int.toNat_natCast,Int.toNat_natCast,Int.toNat_natCast]
  refine wpAny_bind (set_next ho hI hm (Nat.le_of_lt hi) ?_)
  rw[List.getElem?_eq_getElem hio]
  show wpAny _ _ (setField (.ref it) 0 (rawInt (slW w ps (i+1):Nat)) >>= _) _ _ s
  refine wpAny_bind (wpAny_setField_rec h1 (by simp) λg1 z1 e1=>wpAny_bind (wpAny_setField_rec z1 (by simp) λg2 z2 e2=>wpAny_pure ⟨_,rfl,wpAny_pure (hQ _ g2 s.toks ?_ ⟨?_,?_⟩ λb o hb e=>?_)⟩))
  ·rw[List.getElem?_map,List.getElem?_eq_getElem hio]; rfl
  ·exact z2
  ·exact e2.extBut _ _ hne (e1.extBut _ _ hne ho)
  ·have hb':b ≠ it:=λh=>hb (by simp[h])
   exact e2.extBut _ _ hb' (e1.extBut _ _ hb' e)
 done:=λs Q E st hQ=>by
  obtain⟨h1,ho⟩:=st
  have hf:=fit_of (led:=!byT w) hI hm
  have hT:s.TypeIs (.ref it) "set_iterator" := ⟨_,h1,rfl⟩
  unfold pyNext
  refine wpAny_bind (wpAny_attempt (wpAny_callSpecial?_slot (name:=Str.ofString "__next__") hT slot_sit (wpAny_call_entry slot_sit hT entry_sit ?_ (args_sit _))))
  show wpAny _ _ (fieldsOf (.ref it) >>= _) _ _ s; refine wpAny_bind (wpAny_fieldsOf h1 rfl ?_)
  show wpAny _ _ (setEntries a >>= _) _ _ s; refine wpAny_bind (wpAny_setEntries_of ho rfl hf ?_)
  rw[ents_size,if_neg (by simp)]
  show wpAny _ _ (setNext a ((slW w ps us.length:Int)).toNat ((us.length:Int)).toNat ((ep:Int)).toNat >>= _) _ _ s
  rw[Int.toNat_natCast,Int.toNat_natCast,Int.toNat_natCast]
  refine wpAny_bind (set_next ho hI hm (Nat.le_refl _) ?_)
  rw[List.getElem?_eq_none (by rw[ord_len]; exact Nat.le_refl _)]
  show wpAny _ _ (setField (.ref it) 2 .none >>= _) _ _ s
  refine wpAny_bind (wpAny_setField_rec h1 (by simp) λg1 z1 e1=>?_)
  show wpAny _ _ (newExc (.type "StopIteration") [] >>= _) _ _ _; refine wpAny_bind ?_
  simp only[newExc,newTuple]; refine wpAny_bind (wpAny_newObj_type ?_ (by size_fits))
  refine wpAny_bind (m:=firstArgMember _ _) (wpAny_of_eq (a:=Value.none) (by first | rfl | (simp only[firstArgMember]; rfl)) ?_); refine wpAny_newObj_type ?_ (by size_fits)
  simp only[raiseNew]; refine wpAny_bind (wpAny_handled ?_)
  first | rw[show A.in1.handled=none from hh] | rw[hh]
  refine wpAny_bind (wpAny_pure (wpAny_throw ?_))
  refine wpAny_bind (wpAny_isInstance (T := "StopIteration") (b:=true) ⟨_,Heap.get?_push_size _ rfl,rfl⟩ isSubtype_stop ?_)
  refine wpAny_pure (hQ _ s.toks λb o hb e=>?_)
  exact Heap.get?_push_of_some _ (Heap.get?_push_of_some _ (e1.extBut _ _ (λh=>hb (by simp[h])) e))
 self:=λi s Q E st hQ=>by
  have hT:s.TypeIs (.ref it) "set_iterator" := ⟨_,st.1,rfl⟩
  exact self_sit hT hQ
end
theorem wp_if {α:Type} {M:Model} {A:Around} {c:Prop} [Decidable c] {a b:Sem α} {Q:α->Shared->Prop} {E:Value->Shared->Prop} {s:Shared} (hc:c) (h:wpAny M A a Q E s):wpAny M A (if c then a else b) Q E s:=by
 rw[if_pos hc]
 exact h
section
variable {prog:Program} {w:World} {A:Around} {E:Value->Shared->Prop} {s:Shared}
theorem items_perm {l:List Value} {acc:Array Value} (h:ItemsOf (λi v=>l[i]?=some v) acc l.length):acc.toList=l:=by
 refine List.ext_getElem (by rw[Array.length_toList]; exact h.1) λi h1 h2=>?_
 have:l[i]?=some acc.toList[i]:=h.2 i (acc.toList[i]) (by rw[<- Array.getElem?_toList,List.getElem?_eq_getElem h1])
 rw[List.getElem?_eq_getElem h2] at this
 exact(Option.some.inj this).symm
theorem collect_set (hh:A.handled=none) {a:Addr} {us:List Value} {ps:List Nat} {ep:Nat} {Q:List Value->Shared->Prop} (ho:s.heap.get? a=some (setO us ps ep (!byT w))) (hI:IntsAre us (natI ps)) (hm:ps ∈ subs 5)
  (h:∀ (vs:List Value) (h':Heap) (tk:Nat),vs.Perm us->s.heap.objs.size<=h'.objs.size->(∀ c o,s.heap.get? c=some o->h'.get? c=some o)->Q vs { s with heap:=h',toks:=tk }):wpAny (model prog w) A (collect (.ref a)) Q E s:=by
 have hal:a<s.heap.objs.size:=Heap.lt_size ho
 have l5:us.length<=5:=by
  have h1:∀ l ∈ subs 5,l.length<=5:=by decide +kernel
  rw[hI.length,List.length_map]
  exact h1 ps hm
 unfold collect
 refine wpAny_bind (wpAny_runValue (codeAny_builtin F.entry_proto_collect ?_)); rw[Around.under_plainId F.plain_proto_collect _]
 show wpAny _ A.in1 (newList [] >>= λl=>again (.builtin "list.__iadd__" ⟨[l,.ref a],[]⟩)) _ _ s
 refine wpAny_bind (wpAny_newObj_type (wpAny_pure ⟨plainId_quiet F.plain_list_iadd _,codeAny_builtin F.entry_list_iadd ?_⟩)); rw[Around.under_plainId F.plain_list_iadd _]
 generalize hL:s.heap.objs.size=L
 have g1:(s.heap.push { cls:=.type "list",data:=.seq ([]:List Value).toArray }).get? L=some { cls:=.type "list",data:=.seq ([]:List Value).toArray }:=hL ▸ Heap.get?_push_size _ rfl
 have o1:(s.heap.push { cls:=.type "list",data:=.seq ([]:List Value).toArray }).get? a=some (setO us ps ep (!byT w)):=Heap.get?_push_of_some _ ho
 have k1:∀ c o,s.heap.get? c=some o->(s.heap.push { cls:=.type "list",data:=.seq ([]:List Value).toArray }).get? c=some o:=λc o e=>Heap.get?_push_of_some _ e
 have z1:(s.heap.push { cls:=.type "list",data:=.seq ([]:List Value).toArray }).objs.size=L+1:=by rw[Heap.size_push,hL]
 generalize s.heap.push { cls:=.type "list",data:=.seq ([]:List Value).toArray }=H1 at g1 o1 k1 z1 |-
 have hT1:Shared.TypeIs { s with heap:=H1 } (.ref a) "set" := ⟨_,o1,rfl⟩
 show wpAny _ A.in1 (Builtin.List.listExtendWith (.ref L) (.ref a) (.ref L)) _ _ _
 unfold Builtin.List.listExtendWith
 refine wpAny_bind (wpAny_typeOf hT1 ?_)
 have hn1:Builtin.List.listSameRef (.ref L) (.ref a)=false:=by simp[Builtin.List.listSameRef]; exact λe=>absurd hal (by rw[hL,e]; exact Nat.lt_irrefl _)
 have hn2:(Value.type "set" == Value.type "list")=false:=by decide
 have hn3:(Value.type "set" == Value.type "tuple")=false:=by decide
 simp only[hn1,hn2,hn3,Bool.or_false,Bool.false_eq_true,if_false]
 refine wpAny_bind (set_iter (s:={ s with heap:=H1 }) o1 hI hm ?_)
 show wpAny _ _ _ _ _ { s with heap:=H1.push (SitO a 0 0 us.length ep) }
 have g2:(H1.push (SitO a 0 0 us.length ep)).get? L=some { cls:=.type "list",data:=.seq ([]:List Value).toArray }:=Heap.get?_push_of_some _ g1
 have o2:(H1.push (SitO a 0 0 us.length ep)).get? a=some (setO us ps ep (!byT w)):=Heap.get?_push_of_some _ o1
 have i2:(H1.push (SitO a 0 0 us.length ep)).get? (L+1)=some (SitO a 0 0 us.length ep):=z1 ▸ Heap.get?_push_size _ rfl
 have k2:∀ c o,s.heap.get? c=some o->(H1.push (SitO a 0 0 us.length ep)).get? c=some o:=λc o e=>Heap.get?_push_of_some _ (k1 c o e)
 show wpAny _ _ (holding [Value.ref H1.objs.size] _ >>= _) _ _ _
 rw[z1]
 generalize H1.push (SitO a 0 0 us.length ep)=H2 at g2 o2 i2 k2 |-
 have hT2:Shared.TypeIs { s with heap:=H2 } (.ref a) "set" := ⟨_,o2,rfl⟩
 refine wpAny_bind (wpAny_holding ?_)
 unfold Builtin.List.listLengthHint
 refine wpAny_bind (wpAny_specialOf hT2 F.slot_set_len.lookup ?_)
 have hsp:splitId "set.__len__" = some ("set","__len__"):=by kernel_rfl
 dsimp only
 rw[hsp]
 dsimp only
 refine wpAny_bind (wpAny_isInstance hT2 sub_set_self ?_)
 simp only[Bool.not_true,Bool.false_eq_true,if_false]
 refine wp_if (by decide +kernel) (wpAny_bind (wpAny_typeOf hT2 ?_))
 show wpAny _ _ (pure false) _ _ _
 refine wpAny_pure (wp_if (by decide +kernel) ?_)
 refine wpAny_bind (wpAny_rule (wpAny_bind ?_))
 show wpAny _ A.in1 (updateSeq L (·.push .none) >>= λ_=>updateSeq L (·.pop)) _ _ _; refine wpAny_bind (wpAny_updateSeq g2 rfl ?_)
 have g3:=Heap.get?_update_self (Obj.mapSeq (·.push Value.none)) g2 rfl
 refine wpAny_updateSeq g3 rfl ?_
 have g4:=Heap.get?_update_self (Obj.mapSeq (·.pop)) g3 rfl
 have oth:∀ b o,b ≠ L->H2.get? b=some o->((H2.update L (Obj.mapSeq (·.push Value.none))).update L (Obj.mapSeq (·.pop))).get? b=some o:=λb o hb e=>(Heap.get?_update_other _ _ (Ne.symm hb)).trans ((Heap.get?_update_other _ _ (Ne.symm hb)).trans e)
 have haL:a ≠ L:=λe=>absurd hal (by rw[hL,e]; exact Nat.lt_irrefl _)
 have haI:a ≠ L+1:=λe=>absurd hal (by rw[hL,e]; exact Nat.not_lt.mpr (Nat.le_succ _))
 have W:=(sit_walks (prog:=prog) (w:=w) (A:=A.in1) (show A.in1.handled=none from hh) (L+1) a haI ep hI hm).toS
 have hSf:L ∉ [L+1,a]:=by
  simp only[List.mem_cons,List.not_mem_nil,or_false,not_or]
  exact⟨Nat.ne_of_lt (Nat.lt_succ_self _),Ne.symm haL⟩
 refine wpAny_pure ⟨plainId_quiet F.plain_extend_loop _,codeAny_extend_loopS W (by rw[sizeLine_eq]; omega) L hSf _ us.length 0 _ _ _ rfl (Nat.zero_le _) ⟨?_,oth _ _ haL o2⟩ g4 (ItemsOf.nil _) λs' acc' c' hmv hS' hacc=>?_⟩
 ·have:slW w ps 0=0:=by unfold slW slotAt; split <;> rfl
  rw[this]
  exact oth _ _ (Nat.succ_ne_self L) i2
 ·obtain⟨h',g',d',tk',os'⟩:=s'
  have eg:g'=s.gens:=hmv.gens
  have ed:d'=s.drawn:=hmv.drawn
  have eo:os'=s.os:=hmv.os
  subst eg; subst ed; subst eo
  show wpAny _ A (load L >>= _) _ _ _
  refine wpAny_bind (wpAny_load hS' (wpAny_pure (h _ h' tk' ?_ (hL ▸ Nat.le_of_lt (Heap.lt_size hS')) λc o e=>?_)))
  ·rw[<- ord_len w a ep us,<- List.length_map (f:=(·.2))] at hacc
   rw[items_perm hacc]
   exact ord_perm w a ep us
  ·have hc:c<L:=hL ▸ Heap.lt_size e
   exact hmv.heap c o (by simp only[List.mem_cons,List.not_mem_nil,or_false,not_or]; exact⟨Nat.ne_of_lt hc,Nat.ne_of_lt (Nat.lt_succ_of_lt hc)⟩) (oth _ _ (Nat.ne_of_lt hc) (k2 c o e))
theorem collect_tup {l:Addr} {vs:List Value} {Q:List Value->Shared->Prop} (hl:s.heap.IsTuple l vs.toArray) (hz:vs.length<=sizeLine)
  (h:∀ (h':Heap),s.heap.objs.size<=h'.objs.size->(∀ c o,s.heap.get? c=some o->h'.get? c=some o)->Q vs { s with heap:=h' }):wpAny (model prog w) A (collect (.ref l)) Q E s:=by
 obtain⟨o,ho,hc,n,hd⟩:=id hl
 unfold collect
 refine wpAny_bind (wpAny_runValue (codeAny_builtin F.entry_proto_collect ?_)); rw[Around.under_plainId F.plain_proto_collect _]
 show wpAny _ A.in1 (newList [] >>= λm=>again (.builtin "list.__iadd__" ⟨[m,.ref l],[]⟩)) _ _ s
 refine wpAny_bind (wpAny_newObj_type (wpAny_pure ⟨plainId_quiet F.plain_list_iadd _,codeAny_builtin F.entry_list_iadd ?_⟩)); rw[Around.under_plainId F.plain_list_iadd _]
 show wpAny _ A.in1 (Builtin.List.listExtendWith (.ref s.heap.objs.size) (.ref l) (.ref s.heap.objs.size)) _ _ _
 unfold Builtin.List.listExtendWith
 have ho':(s.heap.push { cls:=.type "list",data:=.seq ([]:List Value).toArray }).get? l=some o:=Heap.get?_push_of_some _ ho
 have g1:(s.heap.push { cls:=.type "list",data:=.seq ([]:List Value).toArray }).get? s.heap.objs.size=some { cls:=.type "list",data:=.seq ([]:List Value).toArray }:=Heap.get?_push_size _ rfl
 refine wpAny_bind (wpAny_typeOf (T := "tuple") ⟨o,ho',hc⟩ (wp_if (by simp) (wpAny_bind (listItems_at ho' hd (wpAny_bind (listItems_at (xs:=#[]) g1 rfl ?_))))))
 rw[if_neg (by simp)]
 refine wpAny_bind (listUpdate_at (xs:=#[]) g1 rfl (wpAny_pure ?_) (Nat.zero_le _) (by show (#[]++vs.toArray).size<=sizeLine+1; simp only[Array.size_append,List.size_toArray,List.length_nil]; omega))
 have g2:=Heap.get?_update_self (Obj.mapSeq (·++vs.toArray)) g1 rfl
 show wpAny _ A (load s.heap.objs.size >>= _) _ _ _
 refine wpAny_bind (wpAny_load g2 ?_)
 show wpAny _ _ (pure ((#[]:Array Value)++vs.toArray).toList) Q E _
 rw[show ((#[]:Array Value)++vs.toArray).toList=vs by simp]
 refine wpAny_pure (h _ (Nat.le_of_lt (Heap.lt_size g2)) λc o e=>(Heap.get?_update_other _ _ (Nat.ne_of_gt (Heap.lt_size e))).trans (Heap.get?_push_of_some _ e))
theorem sorted_by {v:Value} {vs:List Value} {ns:List Int} {Q:Value->Shared->Prop} (hc:∀ {Q':List Value->Shared->Prop},(∀ (vs':List Value) (h':Heap) (tk:Nat),vs'.Perm vs->s.heap.objs.size<=h'.objs.size->(∀ c o,s.heap.get? c=some o->h'.get? c=some o)->Q' vs' { s with heap:=h',toks:=tk })->wpAny (model prog w) A.in1 (collect v) Q' E s)
  (hI:∀ vs':List Value,vs'.Perm vs->∃ ns',IntsAre vs' ns'/\ns'.Perm ns) (h64:vs.length<64)
  (h:∀ (p:Addr) (h':Heap) (tk n:Nat) (out:Array Value) (ns':List Int),s.heap.objs.size<=p->(∀ c o,s.heap.get? c=some o->h'.get? c=some o)->h'.get? p=some (seqObj "list" out n)->IntsAre out.toList ns'->ns'.Perm ns->ns'.Pairwise (·<=·)->Q (.ref p) { s with heap:=h',toks:=tk }) :
  wpAny (model prog w) A (call (.builtin "sorted") [v]) Q E s:=by
 refine Calls.call_function_entry kind_sorted plain_sorted entry_sorted (args_sorted1 _) ?_
 unfold Builtin.«sorted»
 refine wpAny_bind (m:=checkCount "sorted" 1 1 _) (wpAny_pure (wpAny_bind (hc λvs' h1 tk hp hle hk=>wpAny_bind (wpAny_newList ?_ (by rw[hp.length_eq,sizeLine_eq]; omega)))))
 obtain⟨ns0,i0,p0⟩:=hI vs' hp
 have hoL:(h1.push (seqObj "list" vs'.toArray 0)).get? h1.objs.size=some (seqObj "list" vs'.toArray 0):=Heap.get?_push_size _ rfl
 show wpAny _ _ _ _ _ { s with heap:=h1.push (seqObj "list" vs'.toArray 0),toks:=tk }
 refine wpAny_bind (wpAny_holding (wpAny_call_entry slot_list_sort ⟨_,hoL,rfl⟩ entry_list_sort (list_sort_tree hoL i0 (by rw[hp.length_eq]; exact h64) λout ns' a1 a2 a3=>⟨_,rfl,?_⟩) (args_list_sort _)))
 obtain⟨e,he⟩:=sortedHeap_at (out:=out) hoL
 exact wpAny_pure ⟨_,rfl,h _ _ tk e out ns' hle (λc o q=>by have q':=hk c o q; have lt:=Heap.lt_size q'; rw[sortedHeap_old (Nat.ne_of_lt lt) (by rw[size_push']; exact Nat.lt_succ_of_lt lt)]; exact Heap.get?_push_of_some _ q') he a1 (a2.trans p0) a3⟩
end
theorem ints_vals:∀ {ns:List Int} {us:List Value},Vals (ns.map V.int) us->IntsAre us ns
 | [],_,h=>by cases h; exact .nil
 | n::ns,_,h=>by
  cases h with
  | cons r t=>
   obtain⟨k,rfl⟩:=r
   exact .cons n k (ints_vals t)
theorem vals_i5:∀ {us:List Value} {ns:List Int},IntsAre us ns->Vals (ns.map V.int) us
 | _,_,.nil=>.nil
 | _,_,.cons n t h=>.cons ⟨t,rfl⟩ (vals_i5 h)
theorem ints_iv:∀ {us:List Value} {ns:List Int},IntsAre us ns->us.map iv=ns
 | _,_,.nil=>rfl
 | _,_,.cons n t h=>by rw[List.map_cons,ints_iv h]; rfl
theorem ints_all:∀ {us:List Value},(∀ u ∈ us,∃ n t,u=Value.int n t)->IntsAre us (us.map iv)
 | [],_=>.nil
 | u::us,h=>by
  obtain⟨n,t,rfl⟩:=h u List.mem_cons_self
  exact .cons n t (ints_all λv hv=>h v (List.mem_cons_of_mem _ hv))
theorem ints_perm {us vs:List Value} {ns:List Int} (hI:IntsAre us ns) (hp:vs.Perm us):∃ ns',IntsAre vs ns'/\ns'.Perm ns:=
 ⟨_,ints_all λu hu=>by
  obtain⟨n,_,t,e⟩:=ints_mem hI u (hp.mem_iff.mp hu)
  exact⟨n,t,e⟩,ints_iv hI ▸ hp.map iv⟩
section
variable {X:Cx} {pins:List (Addr × Obj)} {σ:List (Option V)} {H:Hp} {s:Shared}
theorem Inv.sorted (I:Inv X pins σ H s) {p:Addr} {h':Heap} {tk n:Nat} {out:Array Value} {ns:List Int} (hp:s.heap.objs.size<=p) (hk:∀ c o,s.heap.get? c=some o->h'.get? c=some o) (he:h'.get? p=some (seqObj "list" out n)) (hi:IntsAre out.toList ns) (hz:ns.length<=sizeLine):Inv X pins σ (upd H p (.lst (ns.map V.int))) { s with heap:=h',toks:=tk }:=
 I.laid (t':=tk) hk hp ⟨by rw[List.length_map]; exact hz,out.toList,n,vals_i5 hi,by simpa using he⟩
def tSS (K:PySem.W.Frag) (ta:TA):St->Hp->VK->Prop:=λσ H Q=>ta σ H λvs H1=>∃ a ps,vs=[.ref a]/\SqT K H1 a ((natI ps).map V.int)/\ps.Pairwise (· < ·)/\(∀ x ∈ ps,x<5)/\∀ q,H1 q=none->Q (.ref q) (upd H1 q (.lst ((natI ps).map V.int)))
theorem boot_set':bootBuiltins "set" = some (.type "set"):=by decide +kernel
theorem boot_srt:bootBuiltins "sorted" = some (.builtin "sorted"):=by decide +kernel
theorem pe_sset {a:Expr} {ta:TA} {p q pos pos':Pos} (hc:X.calm=true) (hg:Gl X "sorted") (hm:X.mg "sorted" = none) (hgs:Gl X "set") (hms:X.mg "set" = none) (ha:PA X [a] ta) (hs:starEach [a] X.env=[(false,eval a X.env)]) :
  PE X (.Call (.Name "sorted" p) [.Call (.Name "set" q) [a] [] pos'] [] pos) (tSS X.K ta):=by
 intro pins s σ H Q I h
 refine wpAny_Call_Name_kw (ld_blt I hg hm boot_srt ?_ (by decide) (by decide))
 refine PyProof.Rows.callWith_builtin1 ?_ rfl rfl
 show wpAny _ _ (spliced ((false,eval (.Call (.Name "set" q) [a] [] pos') X.env)::[])) _ _ s
 refine Calls.spliced_cons ?_
 refine Call_ (ld_blt I hgs hms boot_set' (PyProof.Rows.callWith_type1 (thn (ha pos' pins s σ H _ I h) λus s1 ⟨vs,H1,I1,r1,q1⟩=>?_) hs rfl))
 obtain⟨b,ps,rfl,hq,pw,h5,k⟩:=q1
 obtain⟨u,rfl,ru⟩:=Vals.one r1
 cases ru
 obtain⟨its,rv,pt,_⟩:=I1.tuple hq
 have hI:=ints_vals rv
 have hm5:=subs_mem 5 ps pw h5
 have hh:X.A.handled=none:=I.ok.hd hc
 have hl5:ps.length<=5:=by
  have h1:∀ l ∈ subs 5,l.length<=5:=by decide +kernel
  exact h1 ps hm5
 have hlen:its.length=ps.length:=by rw[hI.length,List.length_map]
 refine call_set hh pt hI pw h5 λh' tk hS hk=>Calls.spliced_nil ?_
 obtain⟨ep,ho⟩:=hS
 have hlt:s1.heap.objs.size<h'.objs.size:=Heap.lt_size ho
 refine sorted_by (s:={ s1 with heap:=h',toks:=tk }) (vs:=its) (ns:=natI ps) (λ{Q'} z=>collect_set (A:=X.A.in1) hh (s:={ s1 with heap:=h',toks:=tk }) ho hI hm5 z) (λvs' hp=>ints_perm hI hp) (by omega) λp h2 tk2 n out ns' hle hk2 he hi hp hs'=>?_
 have en:ns'=natI ps:=List.Perm.eq_of_pairwise (λa b _ _ h1 h2=>Int.le_antisymm h1 h2) hs' (by rw[List.pairwise_map]; exact pw.imp λh=>by omega) hp
 subst en
 have hp0:s1.heap.objs.size<=p:=Nat.le_trans (Nat.le_of_lt hlt) hle
 exact⟨.ref p,_,I1.sorted hp0 (λc o e=>hk2 c o (hk c o (Heap.lt_size e) e)) he hi (by rw[List.length_map,sizeLine_eq]; omega),rfl,k p (I1.hok.fresh hp0)⟩
end
def repS (n:Nat) (x:Str):Str:=⟨(List.replicate n x.cps).foldl (·++·) #[]⟩
section
variable {X:Cx}
theorem foldl_sz (c:Array Nat):∀ (n:Nat) (a:Array Nat),((List.replicate n c).foldl (·++·) a).size=a.size+c.size*n
 | 0,a=>rfl
 | n+1,a=>by
  rw[List.replicate_succ,List.foldl_cons,foldl_sz c n,Array.size_append,Nat.mul_succ]
  omega
theorem repS_len (x:Str) (n:Nat):(repS n x).length=x.length*n:=by
 have:=foldl_sz x.cps n #[]
 show ((List.replicate n x.cps).foldl (·++·) #[]).size=x.cps.size*n
 rw[this]
 simp
theorem op_smul {pins:List (Addr × Obj)} {σ:St} {H:Hp} {s:Shared} {x:Str} {k:Int} {t t':Tok} {Q:VK} {E:Value->Shared->Prop} (I:Inv X pins σ H s) (h0:1<=x.length) (h1:1<=k) (hz:x.length*k.toNat<=sizeLine)
  (q:Q (.str (repS k.toNat x)) H):wpAny (model X.prog X.w) X.A (binaryOp .Mult (.str x t) (.int k t')) (EP X pins σ Q) E s:=by
 have hk:k.toNat<=sizeLine:=Nat.le_trans (Nat.le_mul_of_pos_left _ h0) hz
 have hs:(sizeLine:Int)<2 ^ 62:=by rw[sizeLine_eq]; decide
 have hk2:k<=(sizeLine:Int):=by omega
 refine PySem.P.mul_str (by simp; omega) (λ_ _=>?_) (λ_ _=>?_) ?_
 ·have e1:(x.length:Int)*k<=(sizeLine:Int):=by
   have:((x.length*k.toNat:Nat):Int)<=sizeLine:=by exact_mod_cast hz
   rw[Int.natCast_mul,Int.toNat_of_nonneg (by omega)] at this
   exact this
  have:=(Int.le_ediv_iff_mul_le (a:=(x.length:Int)) (b:=2 ^ 63-1) (c:=k) (by omega)).2 (by omega)
  omega
 ·unfold Builtin.Str.tooLong
  exact decide_eq_false (by omega)
 ·rw[if_neg (by omega)]
  by_cases hk1:k=1
  ·subst hk1
   have:(((1:Int)==1||x.length==0)=true):=by simp
   rw[if_pos this]
   have e:repS (1:Int).toNat x=x:=by
    obtain⟨c⟩:=x
    simp[repS]
   rw[e] at q
   exact⟨.str x,H,I,⟨t,rfl⟩,q⟩
  ·have:¬ ((k==1||x.length==0)=true):=by simp; omega
   rw[if_neg this]
   exact⟨by have:=repS_len x k.toNat; unfold repS at this; rw[this]; exact hz,⟨.str _,H,I.tok _,⟨_,rfl⟩,q⟩⟩
end
def kvAt (kvs:List (Key × V)) (k:Key):Option V:=(kvs.find? λp=>decide (p.1=k)).map (·.2)
theorem kv_at {kvs:List (Key × V)} {vs:List (Key × Value)} (r:KV kvs vs) (k:Key):RelO (kvAt kvs k) (valueAt vs k)/\(vs.any λkv=>decide (kv.1=k))=(kvAt kvs k).isSome:=by
 unfold KV at r
 induction r with
 | nil=>exact⟨True.intro,rfl⟩
 | @cons p q ps qs h t ih=>
  obtain⟨h1,h2⟩:=h
  by_cases e:p.1=k
  ·have e':q.1=k:=h1.symm.trans e
   have a:kvAt (p::ps) k=some p.2:=by unfold kvAt; rw[List.find?_cons,decide_eq_true e]; rfl
   have b:valueAt (q::qs) k=some q.2:=by simp[valueAt,List.find?_cons,e']
   rw[a,b,List.any_cons,decide_eq_true e']
   exact⟨h2,rfl⟩
  ·have e':¬ q.1=k:=λz=>e (h1.trans z)
   have a:kvAt (p::ps) k=kvAt ps k:=by unfold kvAt; rw[List.find?_cons,decide_eq_false e]
   have b:valueAt (q::qs) k=valueAt qs k:=by simp[valueAt,List.find?_cons,e']
   rw[a,b,List.any_cons,decide_eq_false e',Bool.false_or]
   exact ih
section
variable {X:Cx}
def rIxD:R2:=λx y H Q=>∃ p kvs i v,x=.ref p/\y=.int i/\H p=some (.dK kvs)/\kvAt kvs (.inl i)=some v/\Q v H
theorem ix_dk:IxR X rIxD:=by
 intro value slice pins s σ H x y v u Q I rx ry h hs
 obtain⟨p,kvs,i,z,rfl,rfl,hq,he,q⟩:=h
 cases rx
 obtain⟨t,rfl⟩:=ry
 obtain⟨hz,hd,vs,rel,dd⟩:=(show ObjOk X.prog X.w H s.heap p (.dK kvs) from I.hok p _ hq)
 obtain⟨w',hw,rw'⟩:=RelO.some_of (v:=z) (o:=valueAt vs (.inl i)) (by rw[<- he]; exact(kv_at rel _).1)
 have hT:s.TypeIs (.ref p) "dict" := dd.typeIs
 unfold subscriptTail
 refine wpAny_bind ?_
 rw[getitemInPython_of_ne hT.not_modules]
 refine wpAny_bind (wpAny_specialOf hT PySem.F.slot_dict_getitem.lookup ?_)
 have fin:wpAny (model X.prog X.w) X.A (subscripted slice false (.ref p) (.int i t)) (λr s₃=>wpAny (model X.prog X.w) X.A (letTemporaryGo value (.ref p) r >>= λ_=>pure r) (EP X pins σ Q) X.xe s₃) X.xe s:=by
  rw[hs]
  exact wpAny_operating (wpAny_getItem_of (mixKind_int X.prog X.w i t) dd.mapOf hw (wpAny_bind (wpAny_letTemporaryGo (wpAny_pure ⟨z,H,I.tok _,rw',q⟩))))
 first
  | exact wpAny_pure (wpAny_bind fin)
  | exact wpAny_bind (wpAny_pure (wpAny_bind fin))
  | exact wpAny_bind fin
def rSetD:TSet:=λo i v H Q=>∃ p kvs k,o=.ref p/\i=.int k/\H p=some (.dK kvs)/\kvAt kvs (.inl k)=none/\kvs.length<sizeLine/\Q (upd H p (.dK (kvs++[(.inl k,v)])))
theorem set_dk:PSet X rSetD:=by
 intro pins s σ H o i v ov iv u Q I ro ri rv h
 obtain⟨p,kvs,k,rfl,rfl,hp,hn,hl,q⟩:=h
 cases ro
 obtain⟨t,rfl⟩:=ri
 obtain⟨hz,hd,vs,rel,dd⟩:=(show ObjOk X.prog X.w H s.heap p (.dK kvs) from I.hok p _ hp)
 have hz':vs.length<=sizeLine:=by rw[<- Paired.length rel]; exact hz
 have hs:stored vs (.inl k) u=vs++[(.inl k,u)]:=by
  unfold stored
  rw[(kv_at rel _).2,hn]
  rfl
 refine wpAny_setItem_pairs (hsz:=hz') (mixKind_int X.prog X.w k t) dd λh' dd' hb=>⟨_,?_,q⟩
 rw[hs] at dd'
 have he:∃ q,h'.get? p=some q:=let ⟨q,_,_,hq,_⟩:=dd'; ⟨q,hq⟩
 refine I.write (x:=p) (e:=p) (by rw[hp]; exact True.intro) (.inl rfl) (λb q hb' z=>(hb.2 b hb').trans z) he ⟨?_,hd,_,Paired.snoc rel ⟨rfl,rv⟩,dd'⟩
 rw[List.length_append]
 exact hl
def tDk0:TE:=λ_ H Q=>∀ p,H p=none->Q (.ref p) (upd H p (.dK []))
theorem pe_dk0 {pos:Pos}:PE X (.Dict [] [] pos) tDk0:=λpins s σ H Q I h=>by
 have hb:sysModules<s.heap.objs.size:=Nat.lt_trans (by decide) (I.mod.glob.keeps I.bk).lt
 exact wpAny_Dict_empty ⟨.ref s.heap.objs.size,_,I.laid (a:=s.heap.objs.size) (o:=.dK []) (t':=s.toks) (λ_ _ q=>Heap.get?_push_of_some _ q) (Nat.le_refl _) ⟨Nat.zero_le _,beq_eq_false_iff_ne.mpr (Ne.symm (Nat.ne_of_lt hb)),[],.nil,Heap.DictOf.new s.heap⟩,rfl,h _ (I.hok.fresh (Nat.le_refl _))⟩
end
end L2
namespace Lf
open PySem PySem.W PyProof.Rows
def pwN {α:Type} (n:Nat) (ans:Nat->Nat->Bool) (Q:α->Prop):KasT α->Prop
 | .ret a=>Q a
 | .ask i j k=>i<n/\j<n/\pwN n ans Q (k (ans i j))
theorem pwN_mono {α:Type} {n:Nat} {ans:Nat->Nat->Bool} {Q Q':α->Prop} (hq:∀ a,Q a->Q' a):∀ (t:KasT α),pwN n ans Q t->pwN n ans Q' t
 | .ret a,h=>hq a h
 | .ask i j k,h=>⟨h.1,h.2.1,pwN_mono hq _ h.2.2⟩
theorem pwN_bind {α β:Type} {n:Nat} {ans:Nat->Nat->Bool} {f:α->KasT β} {Q:β->Prop}:∀ (t:KasT α),pwN n ans (λa=>pwN n ans Q (f a)) t->pwN n ans Q (t.bind f)
 | .ret a,h=>h
 | .ask i j k,h=>⟨h.1,h.2.1,pwN_bind _ h.2.2⟩
theorem pwN_wp {α:Type} {n:Nat} {ans:Nat->Nat->Bool} {Q:α->Prop} {Q':α->Shared->Prop} {cmp:Nat->Nat->(Bool->Shared->Prop)->Shared->Prop} {s:Shared} (hc:∀ i j,i<n->j<n->∀ C,C (ans i j) s->cmp i j C s) (hq:∀ a,Q a->Q' a s) :
  ∀ (t:KasT α),pwN n ans Q t->t.kasWp cmp Q' s
 | .ret a,h=>hq a h
 | .ask i j k,h=>hc i j h.1 h.2.1 _ (pwN_wp hc hq (k _) h.2.2)
section
variable (key:Nat->Int) (n:Nat)
abbrev ansK:Nat->Nat->Bool:=λi j=>decide (key i<key j)
def kp (p:Array Nat) (k:Nat):Int:=key (p.getD k 0)
def isP (p:Array Nat):Prop:=p.toList.Perm (List.range n)
def upTo (p:Array Nat) (m:Nat):Prop:=∀ i j,i<=j->j<m->kp key p i<=kp key p j
def dnTo (p:Array Nat) (m:Nat):Prop:=∀ i j,i<=j->j<m->kp key p j<=kp key p i
variable {key n} {p:Array Nat}
theorem isP.size (h:isP n p):p.size=n:=by have:=h.length_eq; simpa using this
theorem isP.at (h:isP n p) {i:Nat} (hi:i<n):p.getD i 0<n:=by
 have hs:=h.size
 have:p.getD i 0 ∈ p.toList:=by simp[Array.getD,hs,hi]
 exact List.mem_range.1 (h.mem_iff.1 this)
theorem isP.perm {q:Array Nat} (h:isP n p) (hq:q.Perm p):isP n q:=hq.toList.trans h
theorem arr_getD {p:Array Nat} {k:Nat}:p.getD k 0=(p[k]?).getD 0:=by simp
theorem kp_rev {i j:Nat} (hj:j<=p.size) (k:Nat):kp key (kas_rev p i j) k=if i<=k/\k<j then kp key p (i+j-1-k) else kp key p k:=by
 unfold kp kas_rev
 rw[arr_getD,getElem?_mirror_all hj]
 split <;> rw[arr_getD]
theorem kp_same {i j:Nat} (hj:j<=p.size) (he:∀ k,i<=k->k<j->kp key p k=kp key p (j-1)) (k:Nat):kp key (kas_rev p i j) k=kp key p k:=by
 rw[kp_rev hj]
 split
 ·rw[he (i+j-1-k) (by omega) (by omega),he k (by omega) (by omega)]
 ·rfl
theorem asc_ok (hp:isP n p):∀ (f m nrem:Nat),1<=m->m+f=nrem->nrem<=n->upTo key p m->pwN n (ansK key) (λr=>m<=r/\r<=nrem/\upTo key p r) (kas_asc p f m)
 | 0,m,nrem,h1,h2,h3,hs=>⟨by omega,by omega,hs⟩
 | f+1,m,nrem,h1,h2,h3,hs=>by
  refine⟨hp.at (by omega),hp.at (by omega),?_⟩
  by_cases c:kp key p m<kp key p (m-1)
  ·have:ansK key (p.getD m 0) (p.getD (m-1) 0)=true:=decide_eq_true c
   rw[this]; dsimp only; rw[if_pos rfl]
   exact⟨by omega,by omega,hs⟩
  ·have:ansK key (p.getD m 0) (p.getD (m-1) 0)=false:=decide_eq_false c
   rw[this]; dsimp only; rw[if_neg Bool.false_ne_true]
   refine pwN_mono (λr hr=>⟨by omega,hr.2.1,hr.2.2⟩) _ (asc_ok hp f (m+1) nrem (by omega) (by omega) h3 λi j hij hj=>?_)
   by_cases hjm:j<m
   ·exact hs i j hij hjm
   ·have:j=m:=by omega
    subst this
    by_cases hi:i=j
    ·subst hi; exact Int.le_refl _
    ·exact Int.le_trans (hs i (j-1) (by omega) (by omega)) (by omega)
theorem desc_ok:∀ (f m nrem q:Nat) (p:Array Nat),isP n p->1<=m->m+f=nrem->nrem<=n->dnTo key p m->q+1<=m->(∀ k,m-(q+1)<=k->k<m->kp key p k=kp key p (m-1)) ->
  pwN n (ansK key) (λr=>isP n r.1/\m<=r.2.1/\r.2.1<=nrem/\dnTo key r.1 r.2.1/\r.2.2+1<=r.2.1/\∀ k,r.2.1-(r.2.2+1)<=k->k<r.2.1->kp key r.1 k=kp key r.1 (r.2.1-1)) (kas_desc f p m q)
 | 0,m,nrem,q,p,hp,h1,h2,h3,hs,hq,he=>⟨hp,Nat.le_refl _,by show m<=nrem; omega,hs,hq,he⟩
 | f+1,m,nrem,q,p,hp,h1,h2,h3,hs,hq,he=>by
  have hz:=hp.size
  refine⟨hp.at (by omega),hp.at (by omega),?_⟩
  by_cases c:kp key p m<kp key p (m-1)
  ·have:ansK key (p.getD m 0) (p.getD (m-1) 0)=true:=decide_eq_true c
   rw[this]; dsimp only; rw[if_pos rfl]
   have step:∀ r:Array Nat,(∀ k,kp key r k=kp key p k)->dnTo key r (m+1):=λr hr i j hij hj=>by
    rw[hr,hr]
    by_cases hjm:j<m
    ·exact hs i j hij hjm
    ·have:j=m:=by omega
     subst this
     by_cases hi:i=j
     ·subst hi; exact Int.le_refl _
     ·exact Int.le_trans (by omega) (hs i (j-1) (by omega) (by omega))
   split
   ·refine pwN_mono (λr hr=>⟨hr.1,by omega,hr.2.2.1,hr.2.2.2.1,hr.2.2.2.2⟩) _ (desc_ok f (m+1) nrem 0 _ (hp.perm (mirror_perm _ _ _ _)) (by omega) (by omega) h3 (step _ (kp_same (by omega) he)) (by omega) λk h1 h2=>by congr 1; omega)
   ·refine pwN_mono (λr hr=>⟨hr.1,by omega,hr.2.2.1,hr.2.2.2.1,hr.2.2.2.2⟩) _ (desc_ok f (m+1) nrem 0 p hp (by omega) (by omega) h3 (step _ λ_=>rfl) (by omega) λk h1 h2=>by congr 1; omega)
  ·have:ansK key (p.getD m 0) (p.getD (m-1) 0)=false:=decide_eq_false c
   rw[this]; dsimp only; rw[if_neg Bool.false_ne_true]
   refine⟨hp.at (by omega),hp.at (by omega),?_⟩
   by_cases d:kp key p (m-1)<kp key p m
   ·have:ansK key (p.getD (m-1) 0) (p.getD m 0)=true:=decide_eq_true d
    rw[this]; dsimp only; rw[if_pos rfl]
    exact⟨hp,Nat.le_refl _,by show m<=nrem; omega,hs,hq,he⟩
   ·have:ansK key (p.getD (m-1) 0) (p.getD m 0)=false:=decide_eq_false d
    rw[this]; dsimp only; rw[if_neg Bool.false_ne_true]
    have e:kp key p m=kp key p (m-1):=by omega
    refine pwN_mono (λr hr=>⟨hr.1,by omega,hr.2.2.1,hr.2.2.2.1,hr.2.2.2.2⟩) _ (desc_ok f (m+1) nrem (q+1) p hp (by omega) (by omega) h3 (λi j hij hj=>?_) (by omega) λk h1 h2=>?_)
    ·by_cases hjm:j<m
     ·exact hs i j hij hjm
     ·have:j=m:=by omega
      subst this
      by_cases hi:i=j
      ·subst hi; exact Int.le_refl _
      ·rw[e]; exact hs i (j-1) (by omega) (by omega)
    ·rw[show m+1-1=m by omega]
     by_cases hk:k=m
     ·subst hk; rfl
     ·rw[e]; exact he k (by omega) (by omega)
theorem rev_up (hp:isP n p) {m:Nat} (hm:m<=n) (h:dnTo key p m):upTo key (kas_rev p 0 m) m:=λi j hij hj=>by
 have hz:=hp.size
 rw[kp_rev (by omega),kp_rev (by omega),if_pos (by omega),if_pos (by omega)]
 exact h _ _ (by omega) (by omega)
theorem tail_ok (hp:isP n p) {m nrem:Nat} (h1:1<=m) (h2:m<=nrem) (h3:nrem<=n) (h:dnTo key p m):pwN n (ansK key) (λr=>isP n r.2/\1<=r.1/\r.1<=nrem/\upTo key r.2 r.1) (kas_tail3 m nrem p):=by
 have hr:isP n (kas_rev p 0 m):=hp.perm (mirror_perm _ _ _ _)
 refine pwN_bind _ (pwN_mono (λr hr'=>?_) _ (asc_ok hr (nrem-m) m nrem h1 (by omega) h3 (rev_up hp (by omega) h)))
 exact⟨hr,by show 1<=r; omega,hr'.2.1,hr'.2.2⟩
theorem descPart_ok (hp:isP n p) {m nrem:Nat} (h1:1<=m) (h2:m+1<=nrem) (h3:nrem<=n) (h:dnTo key p (m+1)):pwN n (ansK key) (λr=>isP n r.2/\1<=r.1/\r.1<=nrem/\upTo key r.2 r.1) (kas_descPart m nrem p):=by
 refine pwN_bind _ (pwN_mono (λr hr=>?_) _ (desc_ok (nrem-(m+1)) (m+1) nrem 0 p hp (by omega) (by omega) h3 h (by omega) λk h1 h2=>by congr 1; omega))
 obtain⟨r1,r2,r3⟩:=r
 obtain⟨a1,a2,a3,a4,a5,a6⟩:=hr
 simp only at a1 a2 a3 a4 a5 a6 |-
 have hz:=a1.size
 split
 ·refine tail_ok (a1.perm (mirror_perm _ _ _ _)) (by omega) a3 h3 λi j hij hj=>?_
  change kp key (kas_rev r1 (r2-(r3+1)) r2) j<=kp key (kas_rev r1 (r2-(r3+1)) r2) i
  rw[kp_same (by omega) a6,kp_same (by omega) a6]
  exact a4 i j hij hj
 ·exact tail_ok a1 (by omega) a3 h3 a4
theorem count_ok (hp:isP n p) {nrem:Nat} (h1:1<=nrem) (h3:nrem<=n):pwN n (ansK key) (λr=>isP n r.2/\1<=r.1/\r.1<=nrem/\upTo key r.2 r.1) (kas_count nrem p):=by
 have hz:=hp.size
 have one:upTo key p 1:=λi j hij hj=>by
  have:i=j:=by omega
  subst this
  exact Int.le_refl _
 have key2:∀ (f m:Nat),1<=m->m+f=nrem->upTo key p m->pwN n (ansK key) (λr=>m<=r/\r<=nrem/\upTo key p r/\(r<nrem->kp key p r<kp key p (r-1))) (kas_asc p f m):=by
  intro f
  induction f with
  | zero=>intro m h1 h2 hs; exact⟨by omega,by omega,hs,λz=>by omega⟩
  | succ f ih=>
   intro m h1 h2 hs
   refine⟨hp.at (by omega),hp.at (by omega),?_⟩
   by_cases c:kp key p m<kp key p (m-1)
   ·have:ansK key (p.getD m 0) (p.getD (m-1) 0)=true:=decide_eq_true c
    rw[this]; dsimp only; rw[if_pos rfl]
    exact⟨by omega,by omega,hs,λ_=>c⟩
   ·have:ansK key (p.getD m 0) (p.getD (m-1) 0)=false:=decide_eq_false c
    rw[this]; dsimp only; rw[if_neg Bool.false_ne_true]
    refine pwN_mono (λr hr=>⟨by omega,hr.2.1,hr.2.2⟩) _ (ih (m+1) (by omega) (by omega) λi j hij hj=>?_)
    by_cases hjm:j<m
    ·exact hs i j hij hjm
    ·have:j=m:=by omega
     subst this
     by_cases hi:i=j
     ·subst hi; exact Int.le_refl _
     ·exact Int.le_trans (hs i (j-1) (by omega) (by omega)) (by omega)
 refine pwN_bind _ (pwN_mono (λr hr=>?_) _ (key2 (nrem-1) 1 (by omega) (by omega) one))
 obtain⟨a1,a2,a3,a4⟩:=hr
 split
 ·exact⟨hp,a1,a2,a3⟩
 ·rename_i hne
  have hlt:r<nrem:=by
   have:r ≠ nrem:=λz=>hne (by simp[z])
   omega
  have a5:=a4 hlt
  split
  ·rename_i hr1
   refine⟨hp.at (by omega),hp.at (by omega),?_⟩
   by_cases c:kp key p 0<kp key p (r-1)
   ·have:ansK key (p.getD 0 0) (p.getD (r-1) 0)=true:=decide_eq_true c
    rw[this]; dsimp only; rw[if_pos rfl]
    exact⟨hp,a1,a2,a3⟩
   ·have:ansK key (p.getD 0 0) (p.getD (r-1) 0)=false:=decide_eq_false c
    rw[this]; dsimp only; rw[if_neg Bool.false_ne_true]
    refine descPart_ok (hp.perm (mirror_perm _ _ _ _)) a1 (by omega) h3 λi j hij hj=>?_
    have all:∀ k,0<=k->k<r->kp key p k=kp key p (r-1):=λk _ hk=>by
     have:=a3 0 k (by omega) hk
     have:=a3 k (r-1) (by omega) (by omega)
     omega
    change kp key (kas_rev p 0 r) j<=kp key (kas_rev p 0 r) i
    rw[kp_same (by omega) all,kp_same (by omega) all]
    by_cases hjr:j<r
    ·rw[all j (by omega) hjr,all i (by omega) (by omega)]
     exact Int.le_refl _
    ·have:j=r:=by omega
     subst this
     by_cases hi:i=j
     ·subst hi; exact Int.le_refl _
     ·rw[all i (by omega) (by omega)]
      omega
  ·have:r=1:=by omega
   subst this
   refine descPart_ok hp (by omega) (by omega) h3 λi j hij hj=>?_
   by_cases hi:i=j
   ·subst hi; exact Int.le_refl _
   ·have e1:i=0:=by omega
    have e2:j=1:=by omega
    subst e1 e2
    exact Int.le_of_lt a5
theorem place_ok (hp:isP n p) {k:Nat} (hk:k<n) (hs:upTo key p k):∀ (f l r:Nat),l<=r->r<=k->r-l<=f->(∀ i,i<l->kp key p i<=kp key p k)->(∀ i,r<=i->i<k->kp key p k<=kp key p i) ->
  pwN n (ansK key) (λm=>m<=k/\(∀ i,i<m->kp key p i<=kp key p k)/\∀ i,m<=i->i<k->kp key p k<=kp key p i) (kas_place p k f l r)
 | 0,l,r,h1,h2,h3,ha,hb=>by
  have:l=r:=by omega
  subst this
  exact⟨h2,ha,hb⟩
 | f+1,l,r,h1,h2,h3,ha,hb=>by
  unfold kas_place
  split
  ·have:l=r:=by omega
   subst this
   exact⟨h2,ha,hb⟩
  ·refine⟨hp.at (by omega),hp.at (by omega),?_⟩
   by_cases c:kp key p k<kp key p ((l+r) / 2)
   ·have:ansK key (p.getD k 0) (p.getD ((l+r) / 2) 0)=true:=decide_eq_true c
    rw[this]; dsimp only; rw[if_pos rfl]
    refine place_ok hp hk hs f l ((l+r) / 2) (by omega) (by omega) (by omega) ha λi hi hik=>?_
    have:=hs ((l+r) / 2) i hi hik
    omega
   ·have:ansK key (p.getD k 0) (p.getD ((l+r) / 2) 0)=false:=decide_eq_false c
    rw[this]; dsimp only; rw[if_neg Bool.false_ne_true]
    refine place_ok hp hk hs f ((l+r) / 2+1) r (by omega) (by omega) (by omega) (λi hi=>?_) hb
    have:=hs i ((l+r) / 2) (by omega) (by omega)
    omega
theorem kp_bub {k d:Nat} (hk:k<p.size) (hd:d<=k) (i:Nat):kp key (bubble p k d) i=if i=k-d then kp key p k else if k-d<i/\i<=k then kp key p (i-1) else kp key p i:=by
 have e:∀ (q:Array Nat) (j:Nat),kp key q j=key ((q[j]?).getD 0):=λq j=>by unfold kp; rw[arr_getD]
 rw[e,e,e,e,getElem?_bubble hk d hd]
 split
 ·rfl
 ·split <;> rfl
theorem bin_ok:∀ (f k:Nat) (p:Array Nat),isP n p->k+f=n->upTo key p k->pwN n (ansK key) (λr=>isP n r/\upTo key r n) (kas_bin f p k)
 | 0,k,p,hp,h1,hs=>by
  have:k=n:=by omega
  subst this
  exact⟨hp,hs⟩
 | f+1,k,p,hp,h1,hs=>by
  have hz:=hp.size
  refine pwN_bind _ (pwN_mono (λm hm=>?_) _ (place_ok hp (by omega) hs k 0 k (by omega) (by omega) (by omega) (λi hi=>by omega) λi hi hik=>by omega))
  obtain⟨b1,b2,b3⟩:=hm
  refine bin_ok f (k+1) _ (hp.perm (bubble_perm _ _ _)) (by omega) λi j hij hj=>?_
  rw[kp_bub (by omega) (by omega),kp_bub (by omega) (by omega)]
  have e:k-(k-m)=m:=by omega
  rw[e]
  by_cases i1:i=m
  ·subst i1
   rw[if_pos rfl]
   by_cases j1:j=i
   ·subst j1; rw[if_pos rfl]; exact Int.le_refl _
   ·rw[if_neg j1,if_pos (by omega)]
    exact b3 _ (by omega) (by omega)
  ·rw[if_neg i1]
   by_cases i2:m<i/\i<=k
   ·rw[if_pos i2,if_neg (by omega),if_pos (by omega)]
    exact hs _ _ (by omega) (by omega)
   ·rw[if_neg i2]
    have i3:i<m:=by omega
    by_cases j1:j=m
    ·rw[if_pos j1]; exact b2 _ i3
    ·rw[if_neg j1]
     by_cases j2:m<j/\j<=k
     ·rw[if_pos j2]; exact hs _ _ (by omega) (by omega)
     ·rw[if_neg j2]; exact hs _ _ hij (by omega)
theorem sort_ok (h1:1<=n):pwN n (ansK key) (λr=>isP n r/\upTo key r n) (kas_sort n):=by
 have h0:isP n (List.toArray (List.range n)):=by unfold isP; simp
 refine pwN_bind _ (pwN_mono (λr hr=>?_) _ (count_ok h0 h1 (Nat.le_refl _)))
 obtain⟨a1,a2,a3,a4⟩:=hr
 split
 ·have:max r.1 1=r.1:=by omega
  rw[this]
  exact bin_ok _ _ _ a1 (by omega) a4
 ·have:r.1=n:=by omega
  rw[this] at a4
  exact⟨a1,a4⟩
end
end Lf
namespace Lf
open PySem (Str)
noncomputable section
inductive D where
 | non | bl (b:Bool) | int (i:Int) | str (x:Str) | tup (xs:List D) | lst (xs:List D)
 | dct (kvs:List (Int × Int))
mutual
def eqD:D->D->Bool
 | .non,.non=>true
 | .bl a,.bl b=>a==b
 | .bl a,.int b=>(if a then 1 else 0)==b
 | .int a,.bl b=>a==(if b then 1 else 0)
 | .int a,.int b=>a==b
 | .str a,.str b=>a==b
 | .tup xs,.tup ys=>eqDs xs ys
 | .lst xs,.lst ys=>eqDs xs ys
 | .dct a,.dct b=>a==b
 | _,_=>false
def eqDs:List D->List D->Bool
 | [],[]=>true
 | x::xs,y::ys=>eqD x y&&eqDs xs ys
 | _,_=>false
end
mutual
def noL:D->Bool
 | .lst _=>false
 | .tup xs=>noLs xs
 | _=>true
def noLs:List D->Bool
 | []=>true
 | x::xs=>noL x&&noLs xs
end
def isDc:D->Bool
 | .dct _=>true
 | _=>false
def isNon:D->Bool
 | .non=>true
 | _=>false
def lo:Nat->D->Bool
 | 0,.tup _=>false
 | 0,.lst _=>false
 | n+1,.tup xs=>xs.all (lo n)
 | n+1,.lst xs=>xs.all (lo n)
 | _,_=>true
inductive R (α:Type) where
 | ok (a:α) | xn (c:Str) (d:Option D) | un
def R.bind {α β:Type}:R α->(α->R β)->R β
 | .ok a,f=>f a
 | .xn c d,_=>.xn c d
 | .un,_=>.un
instance:Monad R where
 pure:=.ok
 bind:=R.bind
@[simp] theorem R.bind_ok {α β:Type} (a:α) (f:α->R β):(R.ok a >>= f)=f a:=rfl
@[simp] theorem R.bind_un {α β:Type} (f:α->R β):((R.un:R α) >>= f)=.un:=rfl
@[simp] theorem R.bind_xn {α β:Type} (c:Str) (d:Option D) (f:α->R β):((R.xn c d:R α) >>= f)=.xn c d:=rfl
@[simp] theorem R.pure_ok {α:Type} (a:α):(pure a:R α)=.ok a:=rfl
theorem R.bind_eq_ok {α β:Type} {m:R α} {f:α->R β} {b:β} (h:(m >>= f)=.ok b):∃ a,m=.ok a/\f a=.ok b:=by
 cases m with
 | ok a=>exact⟨a,rfl,h⟩
 | xn c d=>cases h
 | un=>cases h
def csts:List (Str × D):=[("MOST_OWNERS",.int 5)]
def xkin:List Str:=["BadLodging"]
inductive Op where
 | add | sub | mul | mod | eq | ne | lt | le | gt | ge | isin | notin
 deriving DecidableEq
inductive B1 where
 | len | tuple | list | sorted | int
 | any | all
 deriving DecidableEq
inductive M1 where
 | index | count
 deriving DecidableEq
inductive Ty where
 | int | bool | list | tuple | str
 deriving DecidableEq
mutual
inductive Ex where
 | var (i:Nat)
 | int (i:Int) | bl (b:Bool) | non | str (x:Str)
 | op (o:Op) (a b:Ex)
 | chn (o o':Op) (a b c:Ex)
 | isn (neg:Bool) (a:Ex)
 | ist (a:Ex)
 | and (a b:Ex) | or (a b:Ex) | not (a:Ex)
 | ife (c a b:Ex)
 | call (f:Str) (as:Exs)
 | b1 (f:B1) (a:Ex)
 | ins (t:Ty) (a:Ex)
 | idx (a b:Ex)
 | slc (a:Ex) (lo hi:Exs)
 | m1 (m:M1) (o a:Ex)
 | tup (as:Exs) | lst (as:Exs)
 | comp (two:Bool) (elt:Ex) (it:It) (ifs:Exs)
 | rep (a b:Ex)
 | rngL (t:Bool) (a:Ex)
 | cst (i:Nat)
 | dix (i:Nat) (a:Ex)
 | cald (f:Str) (i:Nat) (a:Ex)
 | sset (a:Ex)
inductive Exs where
 | nil | cons (a:Ex) (r:Exs)
inductive It where
 | seq (a:Ex) | rng (a:Ex) | enu (a:Ex)
 | zip (a b:Ex)
end
abbrev Env:=List (Option (D × Bool))
def truth:D->R Bool
 | .non=>.ok false
 | .bl b=>.ok b
 | .int i=>.ok (i != 0)
 | .lst xs=>.ok (!xs.isEmpty)
 | .tup xs=>.ok (!xs.isEmpty)
 | .str _=>.un
 | .dct _=>.un
theorem line_ex:∃ n:Nat,n=1000000:=⟨_,rfl⟩
def line:Nat:=Classical.choose line_ex
theorem line_eq:line=1000000:=Classical.choose_spec line_ex
theorem big_ex:∃ n:Int,n=2 ^ 64:=⟨_,rfl⟩
def big:Int:=Classical.choose big_ex
theorem big_eq:big=2 ^ 64:=Classical.choose_spec big_ex
def small (i:Int):Bool:=decide (-big<i)&&decide (i<big)
def fits (n:Nat):Bool:=decide (n<=line)
def seqOf:D->Option (List D)
 | .lst xs=>some xs
 | .tup xs=>some xs
 | _=>none
def inD (x:D) (xs:List D):Bool:=xs.any λy=>eqD y x
def repT (n:Nat) (x:Str):Str:=⟨(List.replicate n x.cps).foldl (·++·) #[]⟩
def op2:Op->D->D->R D
 | .add,.int a,.int b=>.ok (.int (a+b))
 | .add,.lst a,.lst b=>if fits (a.length+b.length) then .ok (.lst (a++b)) else .un
 | .add,.tup a,.tup b=>if fits (a.length+b.length) then .ok (.tup (a++b)) else .un
 | .sub,.int a,.int b=>.ok (.int (a-b))
 | .mul,.int a,.int b=>if small a||small b then .ok (.int (a*b)) else .un
 | .mul,.str a,.int n=>if decide (1<=a.length)&&decide (1<=n)&&fits (a.length*n.toNat) then .ok (.str (repT n.toNat a)) else .un
 | .mod,.int a,.int b=>if 0<b then .ok (.int (a % b)) else .un
 | .eq,a,b=>if lo 9 a then .ok (.bl (eqD a b)) else .un
 | .ne,a,b=>if lo 9 a then .ok (.bl (!eqD a b)) else .un
 | .lt,.int a,.int b=>.ok (.bl (decide (a<b)))
 | .le,.int a,.int b=>.ok (.bl (decide (a<=b)))
 | .gt,.int a,.int b=>.ok (.bl (decide (b<a)))
 | .ge,.int a,.int b=>.ok (.bl (decide (b<=a)))
 | .isin,x,.lst xs=>if lo 9 x then .ok (.bl (inD x xs)) else .un
 | .isin,x,.tup xs=>if lo 9 x then .ok (.bl (inD x xs)) else .un
 | .notin,x,.lst xs=>if lo 9 x then .ok (.bl (!inD x xs)) else .un
 | .notin,x,.tup xs=>if lo 9 x then .ok (.bl (!inD x xs)) else .un
 | _,_,_=>.un
def intsOf:List D->Option (List Int)
 | []=>some []
 | .int i::r=>(intsOf r).map (i :: ·)
 | _=>none
def pairsOf:List D->Option (List (Int × Int))
 | []=>some []
 | .tup [.int i,.int j]::r=>(pairsOf r).map ((i,j) :: ·)
 | _=>none
def insI (x:Int):List Int->List Int
 | []=>[x]
 | y::r=>if x<=y then x::y::r else y::insI x r
def sortI:List Int->List Int
 | []=>[]
 | x::r=>insI x (sortI r)
def ltP (p q:Int × Int):Bool:=decide (p.1<q.1)||(p.1==q.1&&decide (p.2<q.2))
def insP (x:Int × Int):List (Int × Int)->List (Int × Int)
 | []=>[x]
 | y::r=>if ltP y x then y::insP x r else x::y::r
def sortP:List (Int × Int)->List (Int × Int)
 | []=>[]
 | x::r=>insP x (sortP r)
def pairD (p:Int × Int):D:=.tup [.int p.1,.int p.2]
def sortD (xs:List D):R (List D):=
 if xs.length<64 then
  match intsOf xs with
  | some ns=>.ok ((sortI ns).map .int)
  | none=>match pairsOf xs with
   | some ps=>if ps.Nodup then .ok ((sortP ps).map pairD) else .un
   | none=>.un
 else .un
def boolsOf:List D->Option (List Bool)
 | []=>some []
 | .bl b::r=>(boolsOf r).map (b :: ·)
 | _=>none
def call1:B1->D->R D
 | .len,.lst xs=>.ok (.int xs.length)
 | .len,.tup xs=>.ok (.int xs.length)
 | .tuple,.lst xs=>.ok (.tup xs)
 | .tuple,.tup xs=>.ok (.tup xs)
 | .list,.lst xs=>.ok (.lst xs)
 | .list,.tup xs=>.ok (.lst xs)
 | .sorted,.lst xs=>(sortD xs) >>= λys=>.ok (.lst ys)
 | .sorted,.tup xs=>match intsOf xs with | some ns=>if xs.length<64 then .ok (.lst ((sortI ns).map .int)) else .un | none=>.un
 | .int,.bl b=>.ok (.int (if b then 1 else 0))
 | .int,.int i=>.ok (.int i)
 | .any,.lst xs=>match boolsOf xs with | some bs=>.ok (.bl (bs.any id)) | none=>.un
 | .all,.lst xs=>match boolsOf xs with | some bs=>.ok (.bl (bs.all id)) | none=>.un
 | _,_=>.un
def isTy:Ty->D->Bool
 | .int,.int _=>true
 | .int,.bl _=>true
 | .bool,.bl _=>true
 | .list,.lst _=>true
 | .tuple,.tup _=>true
 | .str,.str _=>true
 | _,_=>false
def ixN (n:Nat) (i:Int):Option Nat:=if 0<=i then (if i<n then some i.toNat else none) else if -(n:Int)<=i then some (i+n).toNat else none
def atD (xs:List D) (i:Int):R D:=match (ixN xs.length i).bind λj=>xs[j]? with
 | some d=>.ok d
 | none=>.un
def idx2:D->D->R D
 | .lst xs,.int i=>atD xs i
 | .tup xs,.int i=>atD xs i
 | _,_=>.un
def sIx (n d:Nat):Option Int->Nat
 | none=>d
 | some v=>if v<0 then (v+(n:Int)).toNat else min v.toNat n
def cut {α:Type} (xs:List α) (lo hi:Option Int):List α:=(xs.drop (sIx xs.length 0 lo)).take (sIx xs.length xs.length hi-sIx xs.length 0 lo)
def bound:List D->R (Option Int)
 | []=>.ok none
 | [.int i]=>.ok (some i)
 | _=>.un
def cutD (lo hi:Option Int):D->R D
 | .lst xs=>.ok (.lst (cut xs lo hi))
 | .tup xs=>.ok (.tup (cut xs lo hi))
 | _=>.un
def rise5 (ns:List Int):Bool:=decide (ns.Pairwise (· < ·))&&ns.all λx=>decide (0<=x)&&decide (x<5)
def ssetD:D->R D
 | .tup xs=>match intsOf xs with
  | some ns=>if rise5 ns then .ok (.lst xs) else .un
  | none=>.un
 | _=>.un
def zipD:List D->List D->List D
 | x::xs,y::ys=>.tup [x,y]::zipD xs ys
 | _,_=>[]
def zip2:D->D->R (List D)
 | .tup xs,.tup ys=>if xs.length=ys.length/\fits xs.length=true then .ok (zipD xs ys) else .un
 | _,_=>.un
def findD (x:D):List D->Option Nat
 | []=>none
 | y::r=>if eqD y x then some 0 else (findD x r).map (· + 1)
def countD (x:D) (xs:List D):Nat:=(xs.filter λy=>eqD y x).length
def meth1:M1->D->D->R D
 | .index,.lst xs,x=>if lo 9 x then match findD x xs with | some j=>.ok (.int j) | none=>.un else .un
 | .index,.tup xs,x=>if lo 9 x then match findD x xs with | some j=>.ok (.int j) | none=>.un else .un
 | .count,o,x=>if lo 9 x then match seqOf o with
  | some xs=>.ok (.int (countD x xs))
  | none=>.un
  else .un
 | _,_,_=>.un
def mapR (f:D->R (Option D)):List D->R (List D)
 | []=>.ok []
 | x::r=>f x >>= λy=>mapR f r >>= λys=>.ok (match y with | some y=>y::ys | none=>ys)
def enumD (k:Nat):List D->List D
 | []=>[]
 | x::r=>.tup [.int k,x]::enumD (k+1) r
def tgt (two:Bool) (d:D):R Env:=if two then
  match d with | .tup [a,b]=>.ok [some (a,false),some (b,false)] | _=>.un
 else .ok [some (d,false)]
def rangeD (n:Int):List D:=(List.range n.toNat).map λ(i:Nat)=>D.int (i:Int)
def repD:D->D->R D
 | x,.int n=>if noL x&&decide (0<=n)&&fits n.toNat then .ok (.lst (List.replicate n.toNat x)) else .un
 | _,_=>.un
def rngD (t:Bool):D->R D
 | .int n=>if 0<=n/\n<=(line:Int) then .ok (if t then .tup (rangeD n) else .lst (rangeD n)) else .un
 | _=>.un
def dixD:Option (Option (D × Bool))->D->R D
 | some (some (.dct kvs,_)),.int k=>match kvs.lookup k with
  | some v=>.ok (.int v)
  | none=>.un
 | _,_=>.un
structure VT where
 v:R D
 t:R Bool
def vt (r:R D):VT:=⟨r,r >>= truth⟩
section
variable (C:Str->List D->R D)
mutual
def e2:Ex->Env->VT
 | .var i,ρ=>vt (match ρ[i]? with | some (some (d,_))=>if isDc d then .un else .ok d | _=>.un)
 | .int i,_=>vt (.ok (.int i))
 | .bl b,_=>vt (.ok (.bl b))
 | .non,_=>vt (.ok .non)
 | .str x,_=>vt (.ok (.str x))
 | .op o a b,ρ=>vt ((e2 a ρ).v >>= λx=>(e2 b ρ).v >>= λy=>op2 o x y)
 | .chn o o' a b c,ρ=>vt ((e2 a ρ).v >>= λx=>(e2 b ρ).v >>= λy=>op2 o x y >>= λz=>
   match z with
   | .bl true=>(e2 c ρ).v >>= λw=>op2 o' y w
   | .bl false=>.ok (.bl false)
   | _=>.un)
 | .isn neg a,ρ=>vt ((e2 a ρ).v >>= λx=>.ok (.bl (isNon x != neg)))
 | .ist a,ρ=>vt ((e2 a ρ).v >>= λx=>match x with | .bl b=>.ok (.bl b) | _=>.un)
 | .and a b,ρ=>⟨(e2 a ρ).v >>= λx=>match x with
   | .bl true=>(e2 b ρ).v
   | .bl false=>.ok (.bl false)
   | _=>.un,(e2 a ρ).t >>= λk=>if k then (e2 b ρ).t else .ok false⟩
 | .or a b,ρ=>⟨(e2 a ρ).v >>= λx=>match x with
   | .bl true=>.ok (.bl true)
   | .bl false=>(e2 b ρ).v
   | _=>.un,(e2 a ρ).t >>= λk=>if k then .ok true else (e2 b ρ).t⟩
 | .not a,ρ=>⟨(e2 a ρ).v >>= λx=>match x with | .bl b=>.ok (.bl (!b)) | _=>.un,(e2 a ρ).t >>= λk=>.ok (!k)⟩
 | .ife c a b,ρ=>vt ((e2 c ρ).t >>= λk=>if k then (e2 a ρ).v else (e2 b ρ).v)
 | .call f as,ρ=>vt (evs as ρ >>= λxs=>C f xs)
 | .b1 f a,ρ=>vt ((e2 a ρ).v >>= λx=>call1 f x)
 | .ins t a,ρ=>vt ((e2 a ρ).v >>= λx=>.ok (.bl (isTy t x)))
 | .idx a b,ρ=>vt ((e2 a ρ).v >>= λx=>(e2 b ρ).v >>= λy=>idx2 x y)
 | .slc a lo hi,ρ=>vt ((e2 a ρ).v >>= λx=>evs lo ρ >>= λl=>bound l >>= λl=>evs hi ρ >>= λh=>bound h >>= λh=>cutD l h x)
 | .m1 m o a,ρ=>vt ((e2 o ρ).v >>= λx=>(e2 a ρ).v >>= λy=>meth1 m x y)
 | .tup as,ρ=>vt (evs as ρ >>= λxs=>if fits xs.length then .ok (.tup xs) else .un)
 | .lst as,ρ=>vt (evs as ρ >>= λxs=>if fits xs.length then .ok (.lst xs) else .un)
 | .comp two elt it ifs,ρ=>vt (evI it ρ >>= λxs=>
   mapR (λd=>tgt two d >>= λe=>tsts ifs (ρ++e) >>= λk=>
    if k then (e2 elt (ρ++e)).v >>= λy=>.ok (some y) else .ok none) xs >>= λys=>.ok (.lst ys))
 | .rep a b,ρ=>vt ((e2 a ρ).v >>= λx=>(e2 b ρ).v >>= λy=>repD x y)
 | .rngL t a,ρ=>vt ((e2 a ρ).v >>= λx=>rngD t x)
 | .cst i,_=>vt (match csts[i]? with | some p=>.ok p.2 | none=>.un)
 | .dix i a,ρ=>vt ((e2 a ρ).v >>= λx=>dixD ρ[i]? x)
 | .cald f i a,ρ=>vt ((e2 a ρ).v >>= λx=>match ρ[i]? with
  | some (some (.dct kvs,_))=>C f [.dct kvs,x]
  | _=>.un)
 | .sset a,ρ=>vt ((e2 a ρ).v >>= λx=>ssetD x)
def evs:Exs->Env->R (List D)
 | .nil,_=>.ok []
 | .cons a r,ρ=>(e2 a ρ).v >>= λx=>evs r ρ >>= λxs=>.ok (x::xs)
def evI:It->Env->R (List D)
 | .seq a,ρ=>(e2 a ρ).v >>= λx=>match seqOf x with | some xs=>if fits xs.length then .ok xs else .un | none=>.un
 | .rng a,ρ=>(e2 a ρ).v >>= λx=>match x with | .int n=>if -(line:Int)<=n/\n<=(line:Int) then .ok (rangeD n) else .un | _=>.un
 | .enu a,ρ=>(e2 a ρ).v >>= λx=>match seqOf x with | some xs=>if fits xs.length then .ok (enumD 0 xs) else .un | none=>.un
 | .zip a b,ρ=>(e2 a ρ).v >>= λx=>(e2 b ρ).v >>= λy=>zip2 x y
def tsts:Exs->Env->R Bool
 | .nil,_=>.ok true
 | .cons a r,ρ=>(e2 a ρ).t >>= λk=>if k then tsts r ρ else .ok false
end
def ev (e:Ex) (ρ:Env):R D:=(e2 C e ρ).v
def tst (e:Ex) (ρ:Env):R Bool:=(e2 C e ρ).t
variable {C} (ρ:Env)
theorem ev_var (i:Nat):ev C (.var i) ρ=(match ρ[i]? with | some (some (d,_))=>if isDc d then .un else .ok d | _=>.un):=rfl
theorem ev_str (x:Str):ev C (.str x) ρ=.ok (.str x):=rfl
theorem ev_op (o:Op) (a b:Ex):ev C (.op o a b) ρ=(ev C a ρ >>= λx=>ev C b ρ >>= λy=>op2 o x y):=rfl
theorem ev_chn (o o':Op) (a b c:Ex):ev C (.chn o o' a b c) ρ=(ev C a ρ >>= λx=>ev C b ρ >>= λy=>op2 o x y >>= λz=>
   match z with
   | .bl true=>ev C c ρ >>= λw=>op2 o' y w
   | .bl false=>.ok (.bl false)
   | _=>.un):=rfl
theorem ev_isn (neg:Bool) (a:Ex):ev C (.isn neg a) ρ=(ev C a ρ >>= λx=>.ok (.bl (isNon x != neg))):=rfl
theorem ev_ist (a:Ex):ev C (.ist a) ρ=(ev C a ρ >>= λx=>match x with | .bl b=>.ok (.bl b) | _=>.un):=rfl
theorem ev_and (a b:Ex):ev C (.and a b) ρ=(ev C a ρ >>= λx=>match x with | .bl true=>ev C b ρ | .bl false=>.ok (.bl false) | _=>.un):=rfl
theorem ev_or (a b:Ex):ev C (.or a b) ρ=(ev C a ρ >>= λx=>match x with | .bl true=>.ok (.bl true) | .bl false=>ev C b ρ | _=>.un):=rfl
theorem ev_not (a:Ex):ev C (.not a) ρ=(ev C a ρ >>= λx=>match x with | .bl b=>.ok (.bl (!b)) | _=>.un):=rfl
theorem ev_ife (c a b:Ex):ev C (.ife c a b) ρ=(tst C c ρ >>= λk=>if k then ev C a ρ else ev C b ρ):=rfl
theorem ev_call (f:Str) (as:Exs):ev C (.call f as) ρ=(evs C as ρ >>= λxs=>C f xs):=rfl
theorem ev_b1 (f:B1) (a:Ex):ev C (.b1 f a) ρ=(ev C a ρ >>= λx=>call1 f x):=rfl
theorem ev_ins (t:Ty) (a:Ex):ev C (.ins t a) ρ=(ev C a ρ >>= λx=>.ok (.bl (isTy t x))):=rfl
theorem ev_idx (a b:Ex):ev C (.idx a b) ρ=(ev C a ρ >>= λx=>ev C b ρ >>= λy=>idx2 x y):=rfl
theorem ev_slc (a:Ex) (lo hi:Exs):ev C (.slc a lo hi) ρ=(ev C a ρ >>= λx=>evs C lo ρ >>= λl=>bound l >>= λl=>evs C hi ρ >>= λh=>bound h >>= λh=>cutD l h x):=rfl
theorem ev_m1 (m:M1) (o a:Ex):ev C (.m1 m o a) ρ=(ev C o ρ >>= λx=>ev C a ρ >>= λy=>meth1 m x y):=rfl
theorem ev_tup (as:Exs):ev C (.tup as) ρ=(evs C as ρ >>= λxs=>if fits xs.length then .ok (.tup xs) else .un):=rfl
theorem ev_lst (as:Exs):ev C (.lst as) ρ=(evs C as ρ >>= λxs=>if fits xs.length then .ok (.lst xs) else .un):=rfl
theorem ev_comp (two:Bool) (elt:Ex) (it:It) (ifs:Exs):ev C (.comp two elt it ifs) ρ=(evI C it ρ >>= λxs=>
   mapR (λd=>tgt two d >>= λe=>tsts C ifs (ρ++e) >>= λk=>
    if k then ev C elt (ρ++e) >>= λy=>.ok (some y) else .ok none) xs >>= λys=>.ok (.lst ys)):=rfl
theorem ev_rep (a b:Ex):ev C (.rep a b) ρ=(ev C a ρ >>= λx=>ev C b ρ >>= λy=>repD x y):=rfl
theorem ev_rngL (t:Bool) (a:Ex):ev C (.rngL t a) ρ=(ev C a ρ >>= λx=>rngD t x):=rfl
theorem ev_cst (i:Nat):ev C (.cst i) ρ=(match csts[i]? with | some p=>.ok p.2 | none=>.un):=rfl
theorem evs_nil:evs C .nil ρ=.ok []:=rfl
theorem ev_dix (i:Nat) (a:Ex):ev C (.dix i a) ρ=(ev C a ρ >>= λx=>dixD ρ[i]? x):=rfl
theorem ev_cald (f:Str) (i:Nat) (a:Ex):ev C (.cald f i a) ρ=(ev C a ρ >>= λx=>match ρ[i]? with | some (some (.dct kvs,_))=>C f [.dct kvs,x] | _=>.un):=rfl
theorem ev_sset (a:Ex):ev C (.sset a) ρ=(ev C a ρ >>= λx=>ssetD x):=rfl
theorem evs_cons (a:Ex) (r:Exs):evs C (.cons a r) ρ=(ev C a ρ >>= λx=>evs C r ρ >>= λxs=>.ok (x::xs)):=rfl
theorem evI_seq (a:Ex):evI C (.seq a) ρ=(ev C a ρ >>= λx=>match seqOf x with | some xs=>if fits xs.length then .ok xs else .un | none=>.un):=rfl
theorem evI_rng (a:Ex):evI C (.rng a) ρ=(ev C a ρ >>= λx=>match x with | .int n=>if -(line:Int)<=n/\n<=(line:Int) then .ok (rangeD n) else .un | _=>.un):=rfl
theorem evI_enu (a:Ex):evI C (.enu a) ρ=(ev C a ρ >>= λx=>match seqOf x with | some xs=>if fits xs.length then .ok (enumD 0 xs) else .un | none=>.un):=rfl
theorem evI_zip (a b:Ex):evI C (.zip a b) ρ=(ev C a ρ >>= λx=>ev C b ρ >>= λy=>zip2 x y):=rfl
theorem tsts_cons (a:Ex) (r:Exs):tsts C (.cons a r) ρ=(tst C a ρ >>= λk=>if k then tsts C r ρ else .ok false):=rfl
theorem tst_and (a b:Ex):tst C (.and a b) ρ=(tst C a ρ >>= λk=>if k then tst C b ρ else .ok false):=rfl
theorem tst_or (a b:Ex):tst C (.or a b) ρ=(tst C a ρ >>= λk=>if k then .ok true else tst C b ρ):=rfl
theorem tst_not (a:Ex):tst C (.not a) ρ=(tst C a ρ >>= λk=>.ok (!k)):=rfl
def plainT:Ex->Bool
 | .and _ _=>false
 | .or _ _=>false
 | .not _=>false
 | _=>true
theorem tst_plain {e:Ex} (h:plainT e=true):tst C e ρ=(ev C e ρ >>= truth):=by
 cases e <;> first | rfl | cases h
end
inductive Hm where
 | ists (j:Nat) (cs:List Str) | cat (j:Nat) (cs:List Str) | atI (j k:Nat) | rets (cs:List Str)
mutual
inductive Sm where
 | asg (i:Nat) (e:Ex)
 | unp (i j:Nat) (e:Ex)
 | app (i:Nat) (e:Ex)
 | set (i:Nat) (k v:Ex)
 | exp (e:Ex)
 | ret (e:Ex)
 | ife (c:Ex) (a b:Sms)
 | for1 (i:Nat) (it:It) (b:Sms)
 | for2 (i j:Nat) (it:It) (b:Sms)
 | whl (c:Ex) (b:Sms)
 | retK (mx:Bool) (a b:Ex)
 | asgD (i:Nat) (f:Str) (as:Exs) (a:Ex)
 | pop0 (j i:Nat) (k:Ex)
 | asgN (i:Nat) (es:Exs)
 | rse (c:Str)
 | rsI (c:Str) (e:Ex)
 | tryN (b:Sms) (xK c:Str)
 | tryH (b:Sms) (i:Nat) (n xF:Str) (us:List Str) (hs:List Hm)
 | dcl (i j:Nat) (it:It) (e:Ex)
 | appX (i:Nat) (e:Ex)
 | bad
inductive Sms where
 | nil | cons (a:Sm) (r:Sms)
end
mutual
def hasK:Sm->Bool
 | .retK _ _ _=>true
 | .ife _ a b=>hasKs a||hasKs b
 | .for1 _ _ b=>hasKs b
 | .for2 _ _ _ b=>hasKs b
 | .whl _ b=>hasKs b
 | .tryN b _ _=>hasKs b
 | .tryH b _ _ _ _ _=>hasKs b
 | _=>false
def hasKs:Sms->Bool
 | .nil=>false
 | .cons a r=>hasK a||hasKs r
end
def keysR (f:D->R D):List D->R (List Int)
 | []=>.ok []
 | x::r=>f x >>= λk=>match k with
  | .int k=>keysR f r >>= λks=>.ok (k::ks)
  | _=>.un
def bestK:Option (Int × Int)->List (Int × Int)->Option (Int × Int)
 | b,[]=>b
 | none,p::r=>bestK (some p) r
 | some q,p::r=>bestK (some (if q.1<p.1 then p else q)) r
def insK (p:Int × D):List (Int × D)->List (Int × D)
 | []=>[p]
 | q::r=>if p.1<=q.1 then p::q::r else q::insK p r
def sortK:List (Int × D)->List (Int × D)
 | []=>[]
 | p::r=>insK p (sortK r)
def likeK (l:List (Int × D)):Prop:=∀ p ∈ l,∀ q ∈ l,p.1=q.1->p=q
open Classical in
def pickK (mx:Bool) (ks:List Int) (ds:List D):R D:=
 if mx then match intsOf ds with
  | some gs=>match bestK none (ks.zip gs) with
   | some q=>.ok (.int q.2)
   | none=>.un
  | none=>.un
 else if ds.length<64/\likeK (ks.zip ds) then .ok (.lst ((sortK (ks.zip ds)).map (·.2))) else .un
mutual
def vars:Ex->List Nat
 | .var i=>[i]
 | .op _ a b=>vars a++vars b
 | .chn _ _ a b c=>vars a++vars b++vars c
 | .isn _ a=>vars a
 | .ist a=>vars a
 | .and a b=>vars a++vars b
 | .or a b=>vars a++vars b
 | .not a=>vars a
 | .ife c a b=>vars c++vars a++vars b
 | .call _ as=>varss as
 | .b1 _ a=>vars a
 | .ins _ a=>vars a
 | .idx a b=>vars a++vars b
 | .slc a lo hi=>vars a++varss lo++varss hi
 | .m1 _ o a=>vars o++vars a
 | .tup as=>varss as
 | .lst as=>varss as
 | .comp _ elt it ifs=>vars elt++varsI it++varss ifs
 | .rep a b=>vars a++vars b
 | .rngL _ a=>vars a
 | .cst _=>[]
 | .dix _ a=>vars a
 | .cald _ _ a=>vars a
 | .sset a=>vars a
 | .int _=>[]
 | .bl _=>[]
 | .non=>[]
 | .str _=>[]
def varss:Exs->List Nat
 | .nil=>[]
 | .cons a r=>vars a++varss r
def varsI:It->List Nat
 | .seq a=>vars a
 | .rng a=>vars a
 | .enu a=>vars a
 | .zip a b=>vars a++vars b
end
def holdsI:It->List Nat
 | .rng _=>[]
 | .seq a=>vars a
 | .enu a=>vars a
 | .zip a b=>vars a++vars b
def former:Ex->Bool
 | .lst _=>true
 | .comp _ _ _ _=>true
 | .b1 .list _=>true
 | .b1 .sorted _=>true
 | .op .add _ _=>true
 | .op .mul _ _=>true
 | .slc _ _ _=>true
 | .rep _ _=>true
 | .rngL _ _=>true
 | _=>false
def flatL:D->Bool
 | .lst ds=>noLs ds
 | _=>false
def owns (e:Ex) (d:D):Bool:=former e&&flatL d
def unown (vs:List Nat) (ρ:Env):Env:=ρ.mapIdx λi s=>if vs.contains i then s.map λp=>(p.1,false) else s
def give (e:Ex) (ρ:Env) (i:Nat) (d:D):Env:=
 if noL d then ρ.set i (some (d,false)) else if owns e d then ρ.set i (some (d,true)) else (unown (vars e) ρ).set i (some (d,false))
mutual
def allF:Sm->Nat->Bool
 | .ret e,k=>k==1&&former e
 | .ife _ a b,k=>allFs a k&&allFs b k
 | .for1 _ _ b,k=>allFs b k
 | .for2 _ _ _ b,k=>allFs b k
 | .whl _ b,k=>allFs b k
 | .retK _ _ _,_=>false
 | .tryN _ _ _,_=>false
 | .tryH _ _ _ _ _ _,_=>false
 | _,_=>true
def allFs:Sms->Nat->Bool
 | .nil,_=>true
 | .cons a r,k=>allF a k&&allFs r k
end
def nestB:Exs->List D->Bool
 | .nil,_=>true
 | .cons e r,d::ds=>(noL d||(former e&&flatL d))&&nestB r ds
 | _,_=>false
def deepB (vs:List Nat) (ρ:Env) (d:D):Bool:=(vs.all λv=>match ρ[v]? with | some (some (d',_))=>noL d' | _=>true)&&match d with | .lst ds=>ds.all flatL | _=>false
inductive Fl where
 | nx (ρ:Env) | rt (d:D)
def forR (f:D->Env->R Fl):List D->Env->R Fl
 | [],ρ=>.ok (.nx ρ)
 | x::r,ρ=>f x ρ >>= λk=>match k with
  | .nx ρ'=>forR f r ρ'
  | .rt d=>.ok (.rt d)
def whR (c:Env->R Bool) (f:Env->R Fl):Nat->Env->R Fl
 | 0,_=>.un
 | n+1,ρ=>c ρ >>= λk=>if k then f ρ >>= λz=>match z with
   | .nx ρ'=>whR c f n ρ'
   | .rt d=>.ok (.rt d)
  else .ok (.nx ρ)
abbrev Xl:=Str × Option D
def kinB (c k:Str):Bool:=k==c||k==("ValueError" : Str)
def kinD (c:Str) (cs:List Str):List D:=cs.map λk=>.bl (kinB c k)
def exH (l:Xl):List Hm->Env->R Fl
 | [],ρ=>.ok (.nx ρ)
 | .rets cs::_,_=>if fits cs.length then .ok (.rt (.lst (kinD l.1 cs))) else .un
 | .ists j cs::r,ρ=>if fits cs.length then exH l r (ρ.set j (some (.lst (kinD l.1 cs),true))) else .un
 | .cat j cs::r,ρ=>match ρ[j]? with
  | some (some (.lst xs,_))=>if noLs xs&&fits cs.length&&fits (xs.length+cs.length) then exH l r (ρ.set j (some (.lst (xs++kinD l.1 cs),true))) else .un
  | _=>.un
 | .atI j k::r,ρ=>match ρ[j]? with
  | some (some (.lst (.bl true::_),_))=>match l.2 with
   | some d=>exH l r (ρ.set k (some (d,false)))
   | none=>.un
  | some (some (.lst (.bl false::_),_))=>exH l r ρ
  | _=>.un
def dcR (f:Int->Env->R D) (i j:Nat):List D->Env->List (Int × Int)->R Env
 | [],ρ,kvs=>.ok (ρ.set i (some (.dct kvs,false)))
 | .int k::r,ρ,kvs=>match kvs.lookup k with
  | some _=>.un
  | none=>f k ρ >>= λx=>match x with
   | .int v=>if fits (kvs.length+1) then dcR f i j r (ρ.set j (some (.int k,false))) (kvs++[(k,v)]) else .un
   | _=>.un
 | _,_,_=>.un
def xCall:Ex->Option (Str × Exs)
 | .call f as=>some (f,as)
 | .b1 .len e=>xCall e
 | .op _ e _=>xCall e
 | _=>none
section
variable (C:Str->List D->R D)
def xE (e:Ex) (ρ:Env):Option Xl:=match xCall e with
 | some (f,as)=>match evs C as ρ with
  | .ok vs=>match C f vs with
   | .xn c d=>some (c,d)
   | _=>none
  | _=>none
 | none=>none
mutual
def exm:Sm->Env->R Fl
 | .asg i e,ρ=>ev C e ρ >>= λd=>.ok (.nx (give e ρ i d))
 | .unp i j e,ρ=>ev C e ρ >>= λd=>match d with
  | .tup [a,b]=>if noL a&&noL b then .ok (.nx ((ρ.set i (some (a,false))).set j (some (b,false)))) else .ok (.nx (((unown (vars e) ρ).set i (some (a,false))).set j (some (b,false))))
  | _=>.un
 | .app i e,ρ=>match ρ[i]? with
  | some (some (.lst xs,true))=>ev C e ρ >>= λd=>if noL d&&fits (xs.length+1) then .ok (.nx (ρ.set i (some (.lst (xs++[d]),true)))) else .un
  | _=>.un
 | .set i k v,ρ=>ev C v ρ >>= λd=>match ρ[i]? with
  | some (some (.lst xs,true))=>ev C k ρ >>= λq=>match q with
   | .int n=>match ixN xs.length n with
    | some j=>if noL d&&noLs xs then .ok (.nx (ρ.set i (some (.lst (xs.set j d),true)))) else .un
    | none=>.un
   | _=>.un
  | _=>.un
 | .exp e,ρ=>ev C e ρ >>= λ_=>.ok (.nx ρ)
 | .ret e,ρ=>ev C e ρ >>= λd=>.ok (.rt d)
 | .ife c a b,ρ=>tst C c ρ >>= λk=>if k then exs a ρ else exs b ρ
 | .for1 i it b,ρ=>evI C it ρ >>= λxs=>forR (λx ρ=>exs b (ρ.set i (some (x,false)))) xs (unown (holdsI it) ρ)
 | .for2 i j it b,ρ=>evI C it ρ >>= λxs=>forR (λx ρ=>match x with
   | .tup [u,v]=>exs b ((ρ.set i (some (u,false))).set j (some (v,false)))
   | _=>.un) xs (unown (holdsI it) ρ)
 | .whl c b,ρ=>whR (λρ=>tst C c ρ) (λρ=>exs b ρ) 1000 ρ
 | .retK mx a b,ρ=>ev C a ρ >>= λd=>match d with
  | .lst ds=>keysR (λx=>ev C b (ρ++[some (x,false)])) ds >>= λks=>pickK mx ks ds >>= λr=>.ok (.rt r)
  | _=>.un
 | .asgD i f as a,ρ=>ev C (.comp false (.call f as) (.rng a) .nil) ρ >>= λd=>if deepB (vars (.comp false (.call f as) (.rng a) .nil)) ρ d then .ok (.nx (ρ.set i (some (d,true)))) else .un
 | .pop0 j i k,ρ=>match ρ[i]? with
  | some (some (.lst xs,true))=>ev C k ρ >>= λq=>match q with
   | .int n=>match ixN xs.length n with
    | some m=>match xs[m]? with
     | some (.lst (y::ys))=>if noL y&&noLs ys&&xs.all flatL then .ok (.nx ((ρ.set i (some (.lst (xs.set m (.lst ys)),true))).set j (some (y,false)))) else .un
     | _=>.un
    | none=>.un
   | _=>.un
  | _=>.un
 | .asgN i es,ρ=>evs C es ρ >>= λds=>if fits ds.length&&nestB es ds&&!(ds.all flatL) then .ok (.nx (ρ.set i (some (.lst ds,true)))) else .un
 | .rsI _ _,_=>.un
 | .dcl i j it e,ρ=>evI C it (ρ.set i none) >>= λds=>dcR (λk ρ=>ev C e (ρ.set j (some (.int k,false)))) i j ds (unown (holdsI it) (ρ.set i none)) [] >>= λρ'=>.ok (.nx ρ')
 | .appX i e,ρ=>match ρ[i]? with
  | some (some (.lst xs,true))=>ev C e ρ >>= λd=>if xs.all flatL&&former e&&flatL d&&fits (xs.length+1) then .ok (.nx (ρ.set i (some (.lst (xs++[d]),true)))) else .un
  | _=>.un
 | .tryN b _ _,ρ=>exs b ρ
 | .tryH b _ _ _ us hs,ρ=>match exs b ρ with
  | .ok fl=>.ok fl
  | _=>match xs b ρ with
   | some l=>if us.contains l.1 then exH l hs (List.replicate ρ.length none) else .un
   | none=>.un
 | .rse _,_=>.un
 | .bad,_=>.un
def exs:Sms->Env->R Fl
 | .nil,ρ=>.ok (.nx ρ)
 | .cons a r,ρ=>exm a ρ >>= λk=>match k with
  | .nx ρ'=>exs r ρ'
  | .rt d=>.ok (.rt d)
def xm:Sm->Env->Option Xl
 | .rse c,_=>some (c,none)
 | .rsI c e,ρ=>match ev C e ρ with
  | .ok d=>if noL d then some (c,some d) else none
  | _=>none
 | .tryN b k c,ρ=>match xs b ρ with
  | some (x,some _)=>if x=k then some (c,none) else none
  | _=>none
 | .asg _ e,ρ=>xE C e ρ
 | .exp e,ρ=>xE C e ρ
 | .ret e,ρ=>xE C e ρ
 | .ife c a b,ρ=>match tst C c ρ with
  | .ok k=>if k then xs a ρ else xs b ρ
  | _=>none
 | _,_=>none
def xs:Sms->Env->Option Xl
 | .nil,_=>none
 | .cons a r,ρ=>match xm a ρ with
  | some c=>some c
  | none=>match exm a ρ with
   | .ok (.nx ρ')=>xs r ρ'
   | _=>none
end
end
structure Fn where
 ps:Nat
 n:Nat
 body:Sms
abbrev Tab:=List (Str × Fn)
def startE (fn:Fn) (ds:List D):Env:=(ds.map λd=>some (d,false))++List.replicate (fn.n-ds.length) none
def run (T:Tab):Nat->Str->List D->R D
 | 0,_,_=>.un
 | n+1,f,ds=>match T.lookup f with
  | some fn=>if ds.length=fn.ps then match exs (run T n) fn.body (startE fn ds) with
    | .ok k=>match k with
     | .nx _=>.ok .non
     | .rt d=>.ok d
    | _=>match xs (run T n) fn.body (startE fn ds) with
     | some c=>.xn c.1 c.2
     | none=>.un
   else .un
  | none=>.un
mutual
def rsM:Sm->List Str
 | .rse c=>[c]
 | .rsI c _=>[c]
 | .tryN b k c=>k::c::rsMs b
 | .tryH b _ _ _ us _=>us++rsMs b
 | .ife _ a b=>rsMs a++rsMs b
 | .for1 _ _ b=>rsMs b
 | .for2 _ _ _ b=>rsMs b
 | .whl _ b=>rsMs b
 | _=>[]
def rsMs:Sms->List Str
 | .nil=>[]
 | .cons a r=>rsM a++rsMs r
end
def xnT (T:Tab):List Str:=T.flatMap λp=>rsMs p.2.body
mutual
def tryB:Sm->Bool
 | .exp _=>true
 | .asg _ _=>true
 | .ife _ a b=>tryBs a&&tryBs b
 | _=>false
def tryBs:Sms->Bool
 | .nil=>true
 | .cons a r=>tryB a&&tryBs r
end
def okH:Hm->Bool
 | .ists _ cs=>cs.all λk=>xkin.contains k||k==("ValueError" : Str)
 | .cat _ cs=>cs.all λk=>xkin.contains k||k==("ValueError" : Str)
 | .rets cs=>cs.all λk=>xkin.contains k||k==("ValueError" : Str)
 | .atI _ _=>true
mutual
def okD (T:Tab):Sm->Bool
 | .asgD _ _ _ _=>false
 | .pop0 _ _ _=>false
 | .asgN _ _=>false
 | .unp _ _ _=>false
 | .rsI _ _=>false
 | .tryN _ _ _=>false
 | .ife _ a b=>okDs T a&&okDs T b
 | .for1 _ _ b=>okDs T b
 | .for2 _ _ _ b=>okDs T b
 | .whl _ b=>okDs T b
 | .rse c=>(xnT T).contains c&&!(c==("BadFair" : Str))
 | .tryH b _ _ xF us hs=>xF==("FairError" : Str)&&us.all (λc=>(xnT T).contains c)&&okDs T b&&tryBs b&&hs.all okH
 | _=>true
def okDs (T:Tab):Sms->Bool
 | .nil=>true
 | .cons a r=>okD T a&&okDs T r
end
end
end Lf
namespace Lf
open PySem (Str Scope NameKind Expr Stmt Comprehension)
def visB (sc:Scope) (x:Str):Bool:=match sc.names.lookup x with
 | some .local=>true
 | some .cell=>true
 | some .free=>true
 | _=>false
def locB (sc:Scope) (x:Str):Bool:=match sc.names.lookup x with
 | some .local=>true
 | some .cell=>true
 | _=>false
def globB (sc:Scope) (x:Str):Bool:=sc.names.lookup x==some .globalImplicit
def within (inner sc:Scope):Scope:=
 { inner with names:=inner.names.map λ(n,k)=>if (k==.free&&sc.kind==.function&&sc.names.lookup n==some .cell) then (n,.cell) else (n,k) }
def dummy (n:Nat):Str:=⟨(List.replicate (n+1) 35).toArray⟩
def inner (N xs:List Str):List Str:=N.map (λy=>if xs.contains y then dummy N.length else y)++xs
def compOk (inner sc:Scope) (N xs:List Str):Bool:=
 inner.kind==.function&&sc.kind==.function&&inner.names.all (λy=>y.2 != .cell||xs.contains y.1)&&xs.all (λx=>inner.names.lookup x==some .local||inner.names.lookup x==some .cell)
  && inner.names.all (λy=>y.2 != .local||inner.names.lookup y.1==some .local&&(xs.contains y.1||!N.contains y.1))
  && inner.names.all (λy=>y.2 != .free||visB sc y.1&&sc.names.lookup y.1 != some .local&&!xs.contains y.1)
  && !visB (within inner sc) (dummy N.length)
def lamOk (scope sc:Scope) (N:List Str) (x:Str):Bool:=
 scope.kind==.function&&!scope.isCoroutine&&!scope.isGenerator&&scope.names.all (λy=>y.2 != .cell)&&scope.names.lookup x==some .local
  && scope.names.all (λy=>y.2 != .local||y.1==x)&&scope.names.all (λy=>y.2 != .free||visB sc y.1&&sc.names.lookup y.1 != some .local)&&!N.contains x
def opB:Op->Option PySem.Operator
 | .add=>some .Add
 | .sub=>some .Sub
 | .mul=>some .Mult
 | .mod=>some .Mod
 | _=>none
def opC:Op->Option PySem.CmpOp
 | .eq=>some .Eq
 | .ne=>some .NotEq
 | .lt=>some .Lt
 | .le=>some .LtE
 | .gt=>some .Gt
 | .ge=>some .GtE
 | .isin=>some .In
 | .notin=>some .NotIn
 | _=>none
def b1N:B1->Str
 | .len => "len"
 | .tuple => "tuple"
 | .list => "list"
 | .sorted => "sorted"
 | .int => "int"
 | .any => "any"
 | .all => "all"
def m1N:M1->Str
 | .index => "index"
 | .count => "count"
def tyN:Ty->Str
 | .int => "int"
 | .bool => "bool"
 | .list => "list"
 | .tuple => "tuple"
 | .str => "str"
def testB:Ex->Bool
 | .ife _ _ _=>false
 | .and a b=>testB a&&testB b
 | .or a b=>testB a&&testB b
 | .not a=>testB a
 | _=>true
def gAsg:Stmt->Option (Expr × Expr × PySem.Pos)
 | .Assign [t] v p=>some (t,v,p)
 | _=>none
def gRet:Stmt->Option (Expr × PySem.Pos)
 | .Return (some v) p=>some (v,p)
 | _=>none
def gCall:Expr->Option (Expr × List Expr × List PySem.Keyword × PySem.Pos)
 | .Call f as ks p=>some (f,as,ks,p)
 | _=>none
def gAttr:Expr->Option (Expr × Str × PySem.Pos)
 | .Attribute o m p=>some (o,m,p)
 | _=>none
def gSub:Expr->Option (Expr × Expr × PySem.Pos)
 | .Subscript o k p=>some (o,k,p)
 | _=>none
def gNm:Expr->Option (Str × PySem.Pos)
 | .Name x p=>some (x,p)
 | _=>none
def gLam:Expr->Option (PySem.Arguments × Expr × Scope × PySem.Pos)
 | .Lambda a b s p=>some (a,b,s,p)
 | _=>none
def g1 {α:Type}:List α->Option α
 | [a]=>some a
 | _=>none
def g0 {α:Type}:List α->Option Unit
 | []=>some ()
 | _=>none
theorem none_some {α:Type} {P:Prop} {q:α} (h:none=some q):P:=nomatch h
theorem gAsg_of {s:Stmt} {q:Expr × Expr × PySem.Pos} (h:gAsg s=some q):s=.Assign [q.1] q.2.1 q.2.2:=by
 cases s with
 | Assign ts v p=>
  cases ts with
  | nil=>exact none_some h
  | cons t r=>
   cases r with
   | nil=>cases h; rfl
   | cons _ _=>exact none_some h
 | _=>exact none_some h
theorem gCall_of {e:Expr} {q:Expr × List Expr × List PySem.Keyword × PySem.Pos} (h:gCall e=some q):e=.Call q.1 q.2.1 q.2.2.1 q.2.2.2:=by
 cases e with
 | Call f as ks p=>cases h; rfl
 | _=>exact none_some h
theorem gAttr_of {e:Expr} {q:Expr × Str × PySem.Pos} (h:gAttr e=some q):e=.Attribute q.1 q.2.1 q.2.2:=by
 cases e with
 | Attribute o m p=>cases h; rfl
 | _=>exact none_some h
theorem gSub_of {e:Expr} {q:Expr × Expr × PySem.Pos} (h:gSub e=some q):e=.Subscript q.1 q.2.1 q.2.2:=by
 cases e with
 | Subscript o m p=>cases h; rfl
 | _=>exact none_some h
theorem gNm_of {e:Expr} {q:Str × PySem.Pos} (h:gNm e=some q):e=.Name q.1 q.2:=by
 cases e with
 | Name x p=>cases h; rfl
 | _=>exact none_some h
theorem g1_of {α:Type} {l:List α} {a:α} (h:g1 l=some a):l=[a]:=by
 cases l with
 | nil=>exact none_some h
 | cons b r=>
  cases r with
  | nil=>cases h; rfl
  | cons _ _=>exact none_some h
theorem g0_of {α:Type} {l:List α} {u:Unit} (h:g0 l=some u):l=[]:=by
 cases l with
 | nil=>rfl
 | cons _ _=>exact none_some h
def gExpS:Stmt->Option (Expr × PySem.Pos)
 | .Expr v p=>some (v,p)
 | _=>none
def gTup:Expr->Option (List Expr × Nat × PySem.Pos)
 | .Tuple es k p=>some (es,k,p)
 | _=>none
def g2 {α:Type}:List α->Option (α × α)
 | [a,b]=>some (a,b)
 | _=>none
def gFor:Stmt->Option (Expr × Expr × List Stmt × List Stmt × PySem.Pos)
 | .For t i b e p=>some (t,i,b,e,p)
 | _=>none
theorem gExpS_of {s:Stmt} {q:Expr × PySem.Pos} (h:gExpS s=some q):s=.Expr q.1 q.2:=by
 cases s with
 | Expr v p=>cases h; rfl
 | _=>exact none_some h
theorem gTup_of {e:Expr} {q:List Expr × Nat × PySem.Pos} (h:gTup e=some q):e=.Tuple q.1 q.2.1 q.2.2:=by
 cases e with
 | Tuple es k p=>cases h; rfl
 | _=>exact none_some h
theorem g2_of {α:Type} {l:List α} {q:α × α} (h:g2 l=some q):l=[q.1,q.2]:=by
 cases l with
 | nil=>exact none_some h
 | cons b r=>
  cases r with
  | nil=>exact none_some h
  | cons c r=>
   cases r with
   | nil=>cases h; rfl
   | cons _ _=>exact none_some h
theorem gFor_of {s:Stmt} {q:Expr × Expr × List Stmt × List Stmt × PySem.Pos} (h:gFor s=some q):s=.For q.1 q.2.1 q.2.2.1 q.2.2.2.1 q.2.2.2.2:=by
 cases s with
 | For t i b e p=>cases h; rfl
 | _=>exact none_some h
structure PopQ where
 x:Str
 px:PySem.Pos
 l:Str
 p:PySem.Pos
 k:Expr
 sp:PySem.Pos
 m:Str
 p':PySem.Pos
 v:Expr
 q:PySem.Pos
 pos:PySem.Pos
def gPop (s:Stmt):Option PopQ:=
 (gAsg s).bind λa=>(gNm a.1).bind λx=>(gCall a.2.1).bind λc=>(gAttr c.1).bind λt=>(gSub t.1).bind λu=>(gNm u.1).bind λl=>(g1 c.2.1).bind λv=>(g0 c.2.2.1).bind λ_=>some ⟨x.1,x.2,l.1,l.2,u.2.1,u.2.2,t.2.1,t.2.2,v,c.2.2.2,a.2.2⟩
theorem bind_of {α β:Type} {o:Option α} {f:α->Option β} {b:β} (h:o.bind f=some b):∃ a,o=some a/\f a=some b:=by
 cases o with
 | none=>exact none_some h
 | some a=>exact⟨a,rfl,h⟩
structure AppQ where
 x:Str
 p:PySem.Pos
 m:Str
 p':PySem.Pos
 v:Expr
 q:PySem.Pos
 pos:PySem.Pos
def gApp (s:Stmt):Option AppQ:=
 (gExpS s).bind λa=>(gCall a.1).bind λc=>(gAttr c.1).bind λt=>(gNm t.1).bind λx=>(g1 c.2.1).bind λv=>(g0 c.2.2.1).bind λ_=>some ⟨x.1,x.2,t.2.1,t.2.2,v,c.2.2.2,a.2⟩
theorem gApp_of {s:Stmt} {z:AppQ} (h:gApp s=some z):s=.Expr (.Call (.Attribute (.Name z.x z.p) z.m z.p') [z.v] [] z.q) z.pos:=by
 unfold gApp at h
 obtain⟨a,h1,h⟩:=bind_of h
 obtain⟨c,h2,h⟩:=bind_of h
 obtain⟨t,h3,h⟩:=bind_of h
 obtain⟨x,h4,h⟩:=bind_of h
 obtain⟨v,h5,h⟩:=bind_of h
 obtain⟨_,h6,h⟩:=bind_of h
 cases h
 rw[gExpS_of h1,gCall_of h2,gAttr_of h3,gNm_of h4,g1_of h5,g0_of h6]
structure SetQ where
 x:Str
 p:PySem.Pos
 k:Expr
 sp:PySem.Pos
 v:Expr
 pos:PySem.Pos
def gSet (s:Stmt):Option SetQ:=
 (gAsg s).bind λa=>(gSub a.1).bind λu=>(gNm u.1).bind λx=>some ⟨x.1,x.2,u.2.1,u.2.2,a.2.1,a.2.2⟩
theorem gSet_of {s:Stmt} {z:SetQ} (h:gSet s=some z):s=.Assign [.Subscript (.Name z.x z.p) z.k z.sp] z.v z.pos:=by
 unfold gSet at h
 obtain⟨a,h1,h⟩:=bind_of h
 obtain⟨u,h2,h⟩:=bind_of h
 obtain⟨x,h3,h⟩:=bind_of h
 cases h
 rw[gAsg_of h1,gSub_of h2,gNm_of h3]
structure UnpQ where
 x:Str
 px:PySem.Pos
 y:Str
 py:PySem.Pos
 k:Nat
 tp:PySem.Pos
 v:Expr
 pos:PySem.Pos
def gUnp (s:Stmt):Option UnpQ:=
 (gAsg s).bind λa=>(gTup a.1).bind λt=>(g2 t.1).bind λr=>(gNm r.1).bind λx=>(gNm r.2).bind λy=>some ⟨x.1,x.2,y.1,y.2,t.2.1,t.2.2,a.2.1,a.2.2⟩
structure ForQ where
 x:Str
 px:PySem.Pos
 y:Str
 py:PySem.Pos
 k:Nat
 tp:PySem.Pos
 it:Expr
 b:List Stmt
 pos:PySem.Pos
def gFor2 (s:Stmt):Option ForQ:=
 (gFor s).bind λa=>(gTup a.1).bind λt=>(g2 t.1).bind λr=>(gNm r.1).bind λx=>(gNm r.2).bind λy=>(g0 a.2.2.2.1).bind λ_=>some ⟨x.1,x.2,y.1,y.2,t.2.1,t.2.2,a.2.1,a.2.2.1,a.2.2.2.2⟩
theorem gFor2_of {s:Stmt} {z:ForQ} (h:gFor2 s=some z):s=.For (.Tuple [.Name z.x z.px,.Name z.y z.py] z.k z.tp) z.it z.b [] z.pos:=by
 unfold gFor2 at h
 obtain⟨a,h1,h⟩:=bind_of h
 obtain⟨t,h2,h⟩:=bind_of h
 obtain⟨r,h3,h⟩:=bind_of h
 obtain⟨x,h4,h⟩:=bind_of h
 obtain⟨y,h5,h⟩:=bind_of h
 obtain⟨_,h6,h⟩:=bind_of h
 cases h
 rw[gFor_of h1,gTup_of h2,g2_of h3,gNm_of h4,gNm_of h5,g0_of h6]
structure RetQ where
 f:Str
 pf:PySem.Pos
 a:Expr
 k:Str
 x:Str
 ap:PySem.Pos
 b:Expr
 isc:Scope
 lp:PySem.Pos
 kp:PySem.Pos
 cp:PySem.Pos
 pos:PySem.Pos
def gArgs (a:PySem.Arguments):Option (Str × PySem.Pos):=match a with
 | ⟨po,as,va,ko,kd,kw,df⟩=>(g0 po).bind λ_=>(g1 as).bind λy=>match y.annotation,va,kw with
  | none,none,none=>(g0 ko).bind λ_=>(g0 kd).bind λ_=>(g0 df).bind λ_=>some (y.arg,y.pos)
  | _,_,_=>none
def gRetK (s:Stmt):Option RetQ:=
 (gRet s).bind λr=>(gCall r.1).bind λc=>(gNm c.1).bind λf=>(g1 c.2.1).bind λa=>(g1 c.2.2.1).bind λk=>(gLam k.value).bind λl=>(gArgs l.1).bind λx=>k.arg.bind λkn=>some ⟨f.1,f.2,a,kn,x.1,x.2,l.2.1,l.2.2.1,l.2.2.2,k.pos,c.2.2.2,r.2⟩
def gCn (e:Expr):Option (Str × PySem.Pos × List Expr × PySem.Pos):=
 (gCall e).bind λc=>(gNm c.1).bind λf=>(g0 c.2.2.1).bind λ_=>some (f.1,f.2,c.2.1,c.2.2.2)
theorem gCn_of {e:Expr} {q:Str × PySem.Pos × List Expr × PySem.Pos} (h:gCn e=some q):e=.Call (.Name q.1 q.2.1) q.2.2.1 [] q.2.2.2:=by
 unfold gCn at h
 obtain⟨c,h1,h⟩:=bind_of h
 obtain⟨f,h2,h⟩:=bind_of h
 obtain⟨_,h3,h⟩:=bind_of h
 cases h
 rw[gCall_of h1,gNm_of h2,g0_of h3]
def gC1 (e:Expr):Option (Str × PySem.Pos × Expr × PySem.Pos):=
 (gCn e).bind λc=>(g1 c.2.2.1).bind λx=>some (c.1,c.2.1,x,c.2.2.2)
theorem gC1_of {e:Expr} {q:Str × PySem.Pos × Expr × PySem.Pos} (h:gC1 e=some q):e=.Call (.Name q.1 q.2.1) [q.2.2.1] [] q.2.2.2:=by
 unfold gC1 at h
 obtain⟨c,h1,h⟩:=bind_of h
 obtain⟨f,h2,h⟩:=bind_of h
 cases h
 rw[gCn_of h1,g1_of h2]
def gCons {α:Type}:List α->Option (α × List α)
 | a::r=>some (a,r)
 | _=>none
theorem gCons_of {α:Type} {l:List α} {q:α × List α} (h:gCons l=some q):l=q.1::q.2:=by
 cases l with
 | nil=>exact none_some h
 | cons b r=>cases h; rfl
def gCS (e:Expr):Option (Str × PySem.Pos × Expr × List Expr × PySem.Pos):=
 (gCn e).bind λc=>(gCons c.2.2.1).bind λx=>some (c.1,c.2.1,x.1,x.2,c.2.2.2)
theorem gCS_of {e:Expr} {q:Str × PySem.Pos × Expr × List Expr × PySem.Pos} (h:gCS e=some q):e=.Call (.Name q.1 q.2.1) (q.2.2.1::q.2.2.2.1) [] q.2.2.2.2:=by
 unfold gCS at h
 obtain⟨c,h1,h⟩:=bind_of h
 obtain⟨f,h2,h⟩:=bind_of h
 cases h
 rw[gCn_of h1,gCons_of h2]
def gIns (e:Expr):Option (Str × PySem.Pos × Expr × Str × PySem.Pos × PySem.Pos):=
 (gCn e).bind λc=>(g2 c.2.2.1).bind λx=>(gNm x.2).bind λy=>some (c.1,c.2.1,x.1,y.1,y.2,c.2.2.2)
theorem gIns_of {e:Expr} {q:Str × PySem.Pos × Expr × Str × PySem.Pos × PySem.Pos} (h:gIns e=some q):e=.Call (.Name q.1 q.2.1) [q.2.2.1,.Name q.2.2.2.1 q.2.2.2.2.1] [] q.2.2.2.2.2:=by
 unfold gIns at h
 obtain⟨c,h1,h⟩:=bind_of h
 obtain⟨f,h2,h⟩:=bind_of h
 obtain⟨y,h3,h⟩:=bind_of h
 cases h
 rw[gCn_of h1,g2_of h2,gNm_of h3]
def gMet (e:Expr):Option (Expr × Str × PySem.Pos × Expr × PySem.Pos):=
 (gCall e).bind λc=>(gAttr c.1).bind λt=>(g1 c.2.1).bind λx=>(g0 c.2.2.1).bind λ_=>some (t.1,t.2.1,t.2.2,x,c.2.2.2)
theorem gMet_of {e:Expr} {q:Expr × Str × PySem.Pos × Expr × PySem.Pos} (h:gMet e=some q):e=.Call (.Attribute q.1 q.2.1 q.2.2.1) [q.2.2.2.1] [] q.2.2.2.2:=by
 unfold gMet at h
 obtain⟨c,h1,h⟩:=bind_of h
 obtain⟨t,h2,h⟩:=bind_of h
 obtain⟨x,h3,h⟩:=bind_of h
 obtain⟨_,h4,h⟩:=bind_of h
 cases h
 rw[gCall_of h1,gAttr_of h2,g1_of h3,g0_of h4]
def gRL (e:Expr):Option (Str × PySem.Pos × (Str × PySem.Pos × Expr × PySem.Pos) × PySem.Pos):=
 (gC1 e).bind λc=>(gC1 c.2.2.1).bind λd=>some (c.1,c.2.1,d,c.2.2.2)
theorem gRL_of {e:Expr} {q:Str × PySem.Pos × (Str × PySem.Pos × Expr × PySem.Pos) × PySem.Pos} (h:gRL e=some q):e=.Call (.Name q.1 q.2.1) [.Call (.Name q.2.2.1.1 q.2.2.1.2.1) [q.2.2.1.2.2.1] [] q.2.2.1.2.2.2] [] q.2.2.2:=by
 unfold gRL at h
 obtain⟨c,h1,h⟩:=bind_of h
 obtain⟨d,h2,h⟩:=bind_of h
 cases h
 rw[gC1_of h1,gC1_of h2]
def gC2 (e:Expr):Option (Str × PySem.Pos × Expr × Expr × PySem.Pos):=
 (gCn e).bind λc=>(g2 c.2.2.1).bind λx=>some (c.1,c.2.1,x.1,x.2,c.2.2.2)
theorem gC2_of {e:Expr} {q:Str × PySem.Pos × Expr × Expr × PySem.Pos} (h:gC2 e=some q):e=.Call (.Name q.1 q.2.1) [q.2.2.1,q.2.2.2.1] [] q.2.2.2.2:=by
 unfold gC2 at h
 obtain⟨c,h1,h⟩:=bind_of h
 obtain⟨f,h2,h⟩:=bind_of h
 cases h
 rw[gCn_of h1,g2_of h2]
def gCmp:Expr->Option (Expr × List PySem.CmpOp × List Expr × PySem.Pos)
 | .Compare a o b p=>some (a,o,b,p)
 | _=>none
theorem gCmp_of {e:Expr} {q:Expr × List PySem.CmpOp × List Expr × PySem.Pos} (h:gCmp e=some q):e=.Compare q.1 q.2.1 q.2.2.1 q.2.2.2:=by
 cases e with
 | Compare a o b p=>cases h; rfl
 | _=>exact none_some h
def gCon:Expr->Option (PySem.Const × Nat × PySem.Pos)
 | .Constant c k p=>some (c,k,p)
 | _=>none
theorem gCon_of {e:Expr} {q:PySem.Const × Nat × PySem.Pos} (h:gCon e=some q):e=.Constant q.1 q.2.1 q.2.2:=by
 cases e with
 | Constant a o b=>cases h; rfl
 | _=>exact none_some h
def gChn (e:Expr):Option (Expr × (PySem.CmpOp × PySem.CmpOp) × (Expr × Expr) × PySem.Pos):=
 (gCmp e).bind λc=>(g2 c.2.1).bind λo=>(g2 c.2.2.1).bind λb=>some (c.1,o,b,c.2.2.2)
theorem gChn_of {e:Expr} {q:Expr × (PySem.CmpOp × PySem.CmpOp) × (Expr × Expr) × PySem.Pos} (h:gChn e=some q):e=.Compare q.1 [q.2.1.1,q.2.1.2] [q.2.2.1.1,q.2.2.1.2] q.2.2.2:=by
 unfold gChn at h
 obtain⟨c,h1,h⟩:=bind_of h
 obtain⟨o,h2,h⟩:=bind_of h
 obtain⟨b,h3,h⟩:=bind_of h
 cases h
 rw[gCmp_of h1,g2_of h2,g2_of h3]
def gIs (e:Expr):Option (Expr × PySem.CmpOp × (PySem.Const × Nat × PySem.Pos) × PySem.Pos):=
 (gCmp e).bind λc=>(g1 c.2.1).bind λo=>(g1 c.2.2.1).bind λb=>(gCon b).bind λk=>some (c.1,o,k,c.2.2.2)
theorem gIs_of {e:Expr} {q:Expr × PySem.CmpOp × (PySem.Const × Nat × PySem.Pos) × PySem.Pos} (h:gIs e=some q):e=.Compare q.1 [q.2.1] [.Constant q.2.2.1.1 q.2.2.1.2.1 q.2.2.1.2.2] q.2.2.2:=by
 unfold gIs at h
 obtain⟨c,h1,h⟩:=bind_of h
 obtain⟨o,h2,h⟩:=bind_of h
 obtain⟨b,h3,h⟩:=bind_of h
 obtain⟨k,h4,h⟩:=bind_of h
 cases h
 rw[gCmp_of h1,g1_of h2,g1_of h3,gCon_of h4]
def gLC:Expr->Option (Expr × List Comprehension × Scope × PySem.Pos)
 | .ListComp a g s p=>some (a,g,s,p)
 | _=>none
theorem gLC_of {e:Expr} {q:Expr × List Comprehension × Scope × PySem.Pos} (h:gLC e=some q):e=.ListComp q.1 q.2.1 q.2.2.1 q.2.2.2:=by
 cases e with
 | ListComp a o b p=>cases h; rfl
 | _=>exact none_some h
def gComp (e:Expr):Option (Expr × Comprehension × Scope × PySem.Pos):=
 (gLC e).bind λc=>(g1 c.2.1).bind λg=>some (c.1,g,c.2.2.1,c.2.2.2)
theorem gComp_of {e:Expr} {q:Expr × Comprehension × Scope × PySem.Pos} (h:gComp e=some q):e=.ListComp q.1 [q.2.1] q.2.2.1 q.2.2.2:=by
 unfold gComp at h
 obtain⟨c,h1,h⟩:=bind_of h
 obtain⟨g,h2,h⟩:=bind_of h
 cases h
 rw[gLC_of h1,g1_of h2]
def gT2 (e:Expr):Option ((Str × PySem.Pos) × (Str × PySem.Pos) × Nat × PySem.Pos):=
 (gTup e).bind λt=>(g2 t.1).bind λr=>(gNm r.1).bind λx=>(gNm r.2).bind λy=>some (x,y,t.2.1,t.2.2)
theorem gT2_of {e:Expr} {q:(Str × PySem.Pos) × (Str × PySem.Pos) × Nat × PySem.Pos} (h:gT2 e=some q):e=.Tuple [.Name q.1.1 q.1.2,.Name q.2.1.1 q.2.1.2] q.2.2.1 q.2.2.2:=by
 unfold gT2 at h
 obtain⟨t,h1,h⟩:=bind_of h
 obtain⟨r,h2,h⟩:=bind_of h
 obtain⟨x,h3,h⟩:=bind_of h
 obtain⟨y,h4,h⟩:=bind_of h
 cases h
 rw[gTup_of h1,g2_of h2,gNm_of h3,gNm_of h4]
def isV (i:Nat) (sc:Scope) (N:List Str) (e:Expr):Bool:=match e with
 | .Name x _=>N[i]?==some x&&visB sc x&&(x==("__debug__" : Str))==false&&(x==("__classdict__" : Str))==false
 | _=>false
mutual
def isE:Ex->Scope->List Str->Expr->Bool
 | .var i,sc,N,e=>match e with
  | .Name x _=>N[i]?==some x&&visB sc x&&(x==("__debug__" : Str))==false&&(x==("__classdict__" : Str))==false
  | _=>false
 | .int i,_,_,e=>match e with
  | .Constant (.int j) _ _=>i==j
  | .UnaryOp .USub (.Constant (.int j) _ _) _=>i==-j
  | _=>false
 | .bl b,_,_,e=>match e with
  | .Constant (.bool c) _ _=>b==c
  | _=>false
 | .non,_,_,e=>match e with
  | .Constant .none _ _=>true
  | _=>false
 | .str x,_,_,e=>match e with
  | .Constant (.str y) _ _=>x==y
  | _=>false
 | .op o a b,sc,N,e=>match e with
  | .BinOp a' o' b' _=>opB o==some o'&&isE a sc N a'&&isE b sc N b'
  | .Compare a' [o'] [b'] _=>opC o==some o'&&isE a sc N a'&&isE b sc N b'
  | _=>false
 | .chn o o' a b c,sc,N,e=>match gChn e with
  | some q=>opC o==some q.2.1.1&&opC o'==some q.2.1.2&&isE a sc N q.1&&isE b sc N q.2.2.1.1&&isE c sc N q.2.2.1.2
  | none=>false
 | .isn neg a,sc,N,e=>match gIs e with
  | some q=>q.2.1==(if neg then .IsNot else .Is)&&q.2.2.1.1==.none&&isE a sc N q.1
  | none=>false
 | .ist a,sc,N,e=>match gIs e with
  | some q=>q.2.1==.Is&&q.2.2.1.1==.bool true&&isE a sc N q.1
  | none=>false
 | .and a b,sc,N,e=>match e with
  | .BoolOp .And [x,y] _=>isE a sc N x&&isE b sc N y
  | .BoolOp .And (x::y::z::r) pos=>isE a sc N x&&isE b sc N (.BoolOp .And (y::z::r) pos)
  | _=>false
 | .or a b,sc,N,e=>match e with
  | .BoolOp .Or [x,y] _=>isE a sc N x&&isE b sc N y
  | .BoolOp .Or (x::y::z::r) pos=>isE a sc N x&&isE b sc N (.BoolOp .Or (y::z::r) pos)
  | _=>false
 | .not a,sc,N,e=>match e with
  | .UnaryOp .Not x _=>isE a sc N x
  | _=>false
 | .ife c a b,sc,N,e=>match e with
  | .IfExp c' a' b' _=>testB c&&isE c sc N c'&&isE a sc N a'&&isE b sc N b'
  | _=>false
 | .call f as,sc,N,e=>match gCS e with
  | some q=>f==q.1&&globB sc q.1&&(q.1==("__debug__" : Str))==false&&isEs as sc N (q.2.2.1::q.2.2.2.1)
  | none=>false
 | .b1 f a,sc,N,e=>match gC1 e with
  | some q=>b1N f==q.1&&globB sc q.1&&isE a sc N q.2.2.1
  | none=>false
 | .ins t a,sc,N,e=>match gIns e with
  | some q=>q.1==("isinstance" : Str)&&globB sc q.1&&q.2.2.2.1==tyN t&&globB sc q.2.2.2.1&&isE a sc N q.2.2.1
  | none=>false
 | .idx a b,sc,N,e=>match e with
  | .Subscript a' b' _=>isE a sc N a'&&isE b sc N b'
  | _=>false
 | .slc a lo hi,sc,N,e=>match e with
  | .Subscript a' (.Slice l h none _) _=>isE a sc N a'&&isO lo sc N l&&isO hi sc N h
  | _=>false
 | .m1 m o a,sc,N,e=>match gMet e with
  | some q=>(q.2.2.1.endLine==q.2.2.2.2.line)&&m1N m==q.2.1&&isE o sc N q.1&&isE a sc N q.2.2.2.1
  | none=>false
 | .tup as,sc,N,e=>match e with
  | .Tuple es _ _=>isEs as sc N es
  | _=>false
 | .lst as,sc,N,e=>match e with
  | .List es _=>isEs as sc N es
  | _=>false
 | .comp two elt it ifs,sc,N,e=>match gComp e with
  | some ⟨elt',⟨tg,iter,ifs',k⟩,isc,_⟩=>k==0&&match two with
   | false=>match gNm tg with
    | some q=>compOk isc sc N [q.1]&&decide (inner N [q.1]).Nodup&&isI it sc N tg iter&&isTs ifs (within isc sc) (inner N [q.1]) ifs'&&isE elt (within isc sc) (inner N [q.1]) elt'
    | none=>false
   | true=>match gT2 tg with
    | some q=>compOk isc sc N [q.1.1,q.2.1.1]&&decide (inner N [q.1.1,q.2.1.1]).Nodup&&isI it sc N tg iter&&isTs ifs (within isc sc) (inner N [q.1.1,q.2.1.1]) ifs'&&isE elt (within isc sc) (inner N [q.1.1,q.2.1.1]) elt'
    | none=>false
  | none=>false
 | .rep a b,sc,N,e=>match e with
  | .BinOp (.List [x] _) .Mult n _=>isE a sc N x&&isE b sc N n
  | _=>false
 | .rngL t a,sc,N,e=>match gRL e with
  | some q=>q.1==(if t then ("tuple" : Str) else "list")&&globB sc q.1&&q.2.2.1.1==("range" : Str)&&globB sc q.2.2.1.1&&isE a sc N q.2.2.1.2.2.1
  | none=>false
 | .cst i,sc,_,e=>match e with
  | .Name x _=>(match csts[i]? with | some p=>p.1==x | none=>false)&&globB sc x&&(x==("__debug__" : Str))==false
  | _=>false
 | .dix i a,sc,N,e=>match e with
  | .Subscript a' b' _=>isV i sc N a'&&isE a sc N b'
  | _=>false
 | .cald f i a,sc,N,e=>match gCS e with
  | some q=>f==q.1&&globB sc q.1&&(q.1==("__debug__" : Str))==false&&isV i sc N q.2.2.1&&(match q.2.2.2.1 with | [z]=>isE a sc N z | _=>false)
  | none=>false
 | .sset a,sc,N,e=>match gRL e with
  | some q=>q.1==("sorted" : Str)&&globB sc q.1&&q.2.2.1.1==("set" : Str)&&globB sc q.2.2.1.1&&isE a sc N q.2.2.1.2.2.1
  | none=>false
def isEs:Exs->Scope->List Str->List Expr->Bool
 | .nil,_,_,es=>match es with
  | []=>true
  | _=>false
 | .cons a r,sc,N,es=>match es with
  | x::xs=>isE a sc N x&&isEs r sc N xs
  | _=>false
def isO:Exs->Scope->List Str->Option Expr->Bool
 | .nil,_,_,o=>match o with
  | none=>true
  | _=>false
 | .cons a .nil,sc,N,o=>match o with
  | some x=>isE a sc N x
  | none=>false
 | _,_,_,_=>false
def isTs:Exs->Scope->List Str->List Expr->Bool
 | .nil,_,_,es=>match es with
  | []=>true
  | _=>false
 | .cons a r,sc,N,es=>match es with
  | x::xs=>testB a&&isE a sc N x&&isTs r sc N xs
  | _=>false
def isI:It->Scope->List Str->Expr->Expr->Bool
 | .seq a,sc,N,_,e=>isE a sc N e
 | .rng a,sc,N,_,e=>match gC1 e with
  | some q=>q.1==("range" : Str)&&globB sc q.1&&isE a sc N q.2.2.1
  | none=>false
 | .enu a,sc,N,tg,e=>match gC1 e with
  | some q=>(gTup tg).isSome&&q.1==("enumerate" : Str)&&globB sc q.1&&isE a sc N q.2.2.1
  | none=>false
 | .zip a b,sc,N,tg,e=>match gC2 e with
  | some q=>(gTup tg).isSome&&q.1==("zip" : Str)&&globB sc q.1&&isE a sc N q.2.2.1&&isE b sc N q.2.2.2.1
  | none=>false
end
section
variable {sc:Scope} {N:List Str} {e:Expr}
theorem iv_call {f:Str} {as:Exs} (h:isE (.call f as) sc N e=true):∃ g p x es q,e=.Call (.Name g p) (x::es) [] q/\(f==g&&globB sc g&&(g==("__debug__" : Str))==false&&isEs as sc N (x::es))=true:=by
 unfold isE at h
 cases z:gCS e with
 | none=>rw[z] at h; cases h
 | some q=>rw[z] at h; exact⟨_,_,_,_,_,gCS_of z,h⟩
theorem iv_b1 {f:B1} {a:Ex} (h:isE (.b1 f a) sc N e=true):∃ g p x q,e=.Call (.Name g p) [x] [] q/\(b1N f==g&&globB sc g&&isE a sc N x)=true:=by
 unfold isE at h
 cases z:gC1 e with
 | none=>rw[z] at h; cases h
 | some q=>rw[z] at h; exact⟨_,_,_,_,gC1_of z,h⟩
theorem iv_ins {t:Ty} {a:Ex} (h:isE (.ins t a) sc N e=true):∃ g p x y r q,e=.Call (.Name g p) [x,.Name y r] [] q/\(g==("isinstance" : Str)&&globB sc g&&y==tyN t&&globB sc y&&isE a sc N x)=true:=by
 unfold isE at h
 cases z:gIns e with
 | none=>rw[z] at h; cases h
 | some q=>rw[z] at h; exact⟨_,_,_,_,_,_,gIns_of z,h⟩
theorem iv_m1 {m:M1} {o a:Ex} (h:isE (.m1 m o a) sc N e=true):∃ o' m' p x q,e=.Call (.Attribute o' m' p) [x] [] q/\((p.endLine==q.line)&&m1N m==m'&&isE o sc N o'&&isE a sc N x)=true:=by
 unfold isE at h
 cases z:gMet e with
 | none=>rw[z] at h; cases h
 | some q=>rw[z] at h; exact⟨_,_,_,_,_,gMet_of z,h⟩
theorem iv_rngL {t:Bool} {a:Ex} (h:isE (.rngL t a) sc N e=true):∃ g p r p' x q' q,e=.Call (.Name g p) [.Call (.Name r p') [x] [] q'] [] q/\(g==(if t then ("tuple" : Str) else "list")&&globB sc g&&r==("range" : Str)&&globB sc r&&isE a sc N x)=true:=by
 unfold isE at h
 cases z:gRL e with
 | none=>rw[z] at h; cases h
 | some q=>rw[z] at h; exact⟨_,_,_,_,_,_,_,gRL_of z,h⟩
theorem iv_cald {f:Str} {i:Nat} {a:Ex} (h:isE (.cald f i a) sc N e=true):∃ g p y z pos,e=.Call (.Name g p) [y,z] [] pos/\(f==g&&globB sc g&&(g==("__debug__" : Str))==false&&isV i sc N y&&isE a sc N z)=true:=by
 unfold isE at h
 cases q:gCS e with
 | none=>rw[q] at h; cases h
 | some w=>
  rw[q] at h
  obtain⟨g,p,y,ys,pos⟩:=w
  simp only at h
  cases ys with
  | nil=>simp at h
  | cons z r=>
   cases r with
   | nil=>exact⟨g,p,y,z,pos,gCS_of q,h⟩
   | cons _ _=>simp at h
theorem iv_dix {i:Nat} {a:Ex} (h:isE (.dix i a) sc N e=true):∃ y z pos,e=.Subscript y z pos/\isV i sc N y=true/\isE a sc N z=true:=by
 unfold isE at h
 split at h
 ·rw[Bool.and_eq_true] at h
  exact⟨_,_,_,rfl,h⟩
 ·cases h
theorem iv_sset {a:Ex} (h:isE (.sset a) sc N e=true):∃ g p r p' x q' q,e=.Call (.Name g p) [.Call (.Name r p') [x] [] q'] [] q/\(g==("sorted" : Str)&&globB sc g&&r==("set" : Str)&&globB sc r&&isE a sc N x)=true:=by
 unfold isE at h
 cases z:gRL e with
 | none=>rw[z] at h; cases h
 | some q=>rw[z] at h; exact⟨_,_,_,_,_,_,_,gRL_of z,h⟩
theorem iv_zip {a b:Ex} {tg:Expr} (h:isI (.zip a b) sc N tg e=true):∃ es n t g p x y q,tg=.Tuple es n t/\e=.Call (.Name g p) [x,y] [] q/\(g==("zip" : Str)&&globB sc g&&isE a sc N x&&isE b sc N y)=true:=by
 unfold isI at h
 cases z:gC2 e with
 | none=>rw[z] at h; cases h
 | some q=>
  rw[z] at h
  cases y:gTup tg with
  | none=>rw[y] at h; cases h
  | some t=>rw[y] at h; exact⟨_,_,_,_,_,_,_,_,gTup_of y,gC2_of z,h⟩
theorem iv_chn {o o':Op} {a b c:Ex} (h:isE (.chn o o' a b c) sc N e=true):∃ a' p p' b' c' q,e=.Compare a' [p,p'] [b',c'] q/\(opC o==some p&&opC o'==some p'&&isE a sc N a'&&isE b sc N b'&&isE c sc N c')=true:=by
 unfold isE at h
 cases z:gChn e with
 | none=>rw[z] at h; cases h
 | some q=>rw[z] at h; exact⟨_,_,_,_,_,_,gChn_of z,h⟩
theorem iv_isn {neg:Bool} {a:Ex} (h:isE (.isn neg a) sc N e=true):∃ a' o k p q,e=.Compare a' [o] [.Constant .none k p] q/\(o==(if neg then .IsNot else .Is)&&isE a sc N a')=true:=by
 unfold isE at h
 cases z:gIs e with
 | none=>rw[z] at h; cases h
 | some q=>
  rw[z] at h
  simp only[Bool.and_eq_true,beq_iff_eq] at h
  obtain⟨⟨h1,h2⟩,h3⟩:=h
  exact⟨_,_,_,_,_,h2 ▸ gIs_of z,by rw[h1,h3,beq_self_eq_true]; rfl⟩
theorem iv_ist {a:Ex} (h:isE (.ist a) sc N e=true):∃ a' k p q,e=.Compare a' [.Is] [.Constant (.bool true) k p] q/\isE a sc N a'=true:=by
 unfold isE at h
 cases z:gIs e with
 | none=>rw[z] at h; cases h
 | some q=>
  rw[z] at h
  simp only[Bool.and_eq_true,beq_iff_eq] at h
  obtain⟨⟨h1,h2⟩,h3⟩:=h
  exact⟨_,_,_,_,h1 ▸ h2 ▸ gIs_of z,h3⟩
theorem iv_comp {two:Bool} {elt:Ex} {it:It} {ifs:Exs} (h:isE (.comp two elt it ifs) sc N e=true):∃ a g s p,e=.ListComp a g s p:=by
 unfold isE at h
 cases z:gComp e with
 | none=>rw[z] at h; cases h
 | some q=>exact⟨_,_,_,_,gComp_of z⟩
theorem iv_rng {a:Ex} {tg:Expr} (h:isI (.rng a) sc N tg e=true):∃ g p x q,e=.Call (.Name g p) [x] [] q/\(g==("range" : Str)&&globB sc g&&isE a sc N x)=true:=by
 unfold isI at h
 cases z:gC1 e with
 | none=>rw[z] at h; cases h
 | some q=>rw[z] at h; exact⟨_,_,_,_,gC1_of z,h⟩
theorem iv_enu {a:Ex} {tg:Expr} (h:isI (.enu a) sc N tg e=true):∃ es n t g p x q,tg=.Tuple es n t/\e=.Call (.Name g p) [x] [] q/\(g==("enumerate" : Str)&&globB sc g&&isE a sc N x)=true:=by
 unfold isI at h
 cases z:gC1 e with
 | none=>rw[z] at h; cases h
 | some q=>
  rw[z] at h
  cases y:gTup tg with
  | none=>rw[y] at h; cases h
  | some t=>rw[y] at h; exact⟨_,_,_,_,_,_,_,gTup_of y,gC1_of z,h⟩
end
def noTup:Ex->Bool
 | .tup _=>false
 | _=>true
def noCmp:Ex->Bool
 | .comp _ _ _ _=>false
 | _=>true
def putB (sc:Scope) (N:List Str) (i:Nat) (x:Str):Bool:=N[i]?==some x&&locB sc x
def gRse (s:Stmt):Option (Str × PySem.Pos × Str × Nat × PySem.Pos × PySem.Pos × PySem.Pos):=match s with
 | .Raise (some v) none p=>(gC1 v).bind λc=>(gCon c.2.2.1).bind λk=>match k.1 with
  | .str m=>some (c.1,c.2.1,m,k.2.1,k.2.2,c.2.2.2,p)
  | _=>none
 | _=>none
theorem gRse_of {s:Stmt} {q:Str × PySem.Pos × Str × Nat × PySem.Pos × PySem.Pos × PySem.Pos} (h:gRse s=some q):s=.Raise (some (.Call (.Name q.1 q.2.1) [.Constant (.str q.2.2.1) q.2.2.2.1 q.2.2.2.2.1] [] q.2.2.2.2.2.1)) none q.2.2.2.2.2.2:=by
 cases s with
 | Raise v c p=>
  cases v with
  | none=>exact none_some h
  | some v=>
   cases c with
   | some c=>exact none_some h
   | none=>
    have h':((gC1 v).bind λc=>(gCon c.2.2.1).bind λk=>match k.1 with
     | .str m=>some (c.1,c.2.1,m,k.2.1,k.2.2,c.2.2.2,p)
     | _=>none)=some q:=h
    obtain⟨c,h1,h'⟩:=bind_of h'
    obtain⟨k,h2,h'⟩:=bind_of h'
    obtain⟨kc,kn,kp⟩:=k
    cases kc with
    | str m=>
     cases h'
     rw[gC1_of h1,gCon_of h2]
    | _=>exact none_some h'
 | _=>exact none_some h
def gLst:Expr->Option (List Expr × PySem.Pos)
 | .List es p=>some (es,p)
 | _=>none
theorem gLst_of {e:Expr} {q:List Expr × PySem.Pos} (h:gLst e=some q):e=.List q.1 q.2:=by
 cases e with
 | List es p=>cases h; rfl
 | _=>exact none_some h
def gTry0:Stmt->Option (List Stmt × List PySem.ExceptHandler × List Stmt × List Stmt × PySem.Pos)
 | .Try b h o f p=>some (b,h,o,f,p)
 | _=>none
theorem gTry0_of {s:Stmt} {q:List Stmt × List PySem.ExceptHandler × List Stmt × List Stmt × PySem.Pos} (h:gTry0 s=some q):s=.Try q.1 q.2.1 q.2.2.1 q.2.2.2.1 q.2.2.2.2:=by
 cases s with
 | Try b h o f p=>cases h; rfl
 | _=>exact none_some h
def gRsI (s:Stmt):Option (Str × PySem.Pos × Expr × PySem.Pos × PySem.Pos):=match s with
 | .Raise (some v) none p=>(gC1 v).bind λc=>some (c.1,c.2.1,c.2.2.1,c.2.2.2,p)
 | _=>none
def gRsN (s:Stmt):Option ((Str × PySem.Pos × Str × Nat × PySem.Pos × PySem.Pos × PySem.Pos) × Nat × PySem.Pos):=match s with
 | .Raise v (some (.Constant .none k2 p2)) p=>(gRse (.Raise v none p)).bind λq=>some (q,k2,p2)
 | _=>none
def gHdN:PySem.ExceptHandler->Option (Expr × List Stmt × PySem.Pos)
 | .ExceptHandler (some t) none b p=>some (t,b,p)
 | _=>none
def gHdA:PySem.ExceptHandler->Option (Expr × Str × List Stmt × PySem.Pos)
 | .ExceptHandler (some t) (some n) b p=>some (t,n,b,p)
 | _=>none
theorem gHdA_of {s:PySem.ExceptHandler} {q:Expr × Str × List Stmt × PySem.Pos} (h:gHdA s=some q):s=.ExceptHandler (some q.1) (some q.2.1) q.2.2.1 q.2.2.2:=by
 cases s with
 | ExceptHandler t n b p=>
  cases t with
  | none=>exact none_some h
  | some t=>
   cases n with
   | none=>exact none_some h
   | some n=>cases h; rfl
structure TryN where
 b:List Stmt
 x:Str
 p0:PySem.Pos
 r:(Str × PySem.Pos × Str × Nat × PySem.Pos × PySem.Pos × PySem.Pos) × Nat × PySem.Pos
 hp:PySem.Pos
 tp:PySem.Pos
def gTryN (s:Stmt):Option TryN:=
 (gTry0 s).bind λt=>(g1 t.2.1).bind λh=>(g0 t.2.2.1).bind λ_=>(g0 t.2.2.2.1).bind λ_=>(gHdN h).bind λh=>(gNm h.1).bind λx=>(g1 h.2.1).bind λr=>(gRsN r).bind λr=>some ⟨t.1,x.1,x.2,r,h.2.2,t.2.2.2.2⟩
structure TryH where
 b:List Stmt
 x:Str
 p0:PySem.Pos
 n:Str
 hb:List Stmt
 hp:PySem.Pos
 tp:PySem.Pos
def gTryH (s:Stmt):Option TryH:=
 (gTry0 s).bind λt=>(g1 t.2.1).bind λh=>(g0 t.2.2.1).bind λ_=>(g0 t.2.2.2.1).bind λ_=>(gHdA h).bind λh=>(gNm h.1).bind λx=>some ⟨t.1,x.1,x.2,h.2.1,h.2.2.1,h.2.2.2,t.2.2.2.2⟩
theorem gTryH_of {s:Stmt} {q:TryH} (h:gTryH s=some q):s=.Try q.b [.ExceptHandler (some (.Name q.x q.p0)) (some q.n) q.hb q.hp] [] [] q.tp:=by
 unfold gTryH at h
 obtain⟨t,h1,h⟩:=bind_of h
 obtain⟨hd,h2,h⟩:=bind_of h
 obtain⟨_,h3,h⟩:=bind_of h
 obtain⟨_,h4,h⟩:=bind_of h
 obtain⟨hh,h5,h⟩:=bind_of h
 obtain⟨x,h6,h⟩:=bind_of h
 cases h
 rw[gTry0_of h1,g1_of h2,g0_of h3,g0_of h4,gHdA_of h5,gNm_of h6]
def isIs (n:Str) (sc:Scope):List Str->List Expr->Bool
 | [],[]=>true
 | c::cs,e::es=>(match gIns e with
  | some q=>q.1==("isinstance" : Str)&&q.2.2.2.1==c&&globB sc c&&(c==("__debug__" : Str))==false&&(match gNm q.2.2.1 with | some y=>y.1==n | none=>false)
  | none=>false)&&isIs n sc cs es
 | _,_=>false
def isIL (n:Str) (sc:Scope) (cs:List Str) (e:Expr):Bool:=match gLst e with
 | some q=>isIs n sc cs q.1
 | none=>false
structure AtQ where
 t:Expr
 x:Str
 px:PySem.Pos
 n:Str
 pn:PySem.Pos
 f:Str
 pf:PySem.Pos
 pa:PySem.Pos
 pi:PySem.Pos
def Hj (i:Nat):Hm->Bool
 | .ists j _=>j != i
 | .cat j _=>j != i
 | .rets _=>true
 | .atI j k=>j != i&&k != i
def isH (n:Str) (sc:Scope) (N:List Str):Hm->Stmt->Bool
 | .ists _ _,_=>false
 | .cat _ _,_=>false
 | .atI _ _,_=>false
 | .rets cs,s=>match s with
  | .Return (some v) _=>isIL n sc cs v
  | _=>false
def isHs (n:Str) (sc:Scope) (N:List Str):List Hm->List Stmt->Bool
 | [],[]=>true
 | h::hs,s::ss=>isH n sc N h s&&isHs n sc N hs ss
 | _,_=>false
structure DclQ where
 x:Str
 px:PySem.Pos
 dp:PySem.Pos
 ap:PySem.Pos
 y:Str
 py:PySem.Pos
 it:Expr
 x':Str
 p1:PySem.Pos
 k:Expr
 sp:PySem.Pos
 v:Expr
 bp:PySem.Pos
 fp:PySem.Pos
def gDic:Expr->Option PySem.Pos
 | .Dict ks vs p=>(g0 ks).bind λ_=>(g0 vs).bind λ_=>some p
 | _=>none
theorem gDic_of {e:Expr} {q:PySem.Pos} (h:gDic e=some q):e=.Dict [] [] q:=by
 cases e with
 | Dict ks vs p=>
  obtain⟨_,h1,h⟩:=bind_of (show ((g0 ks).bind λ_=>(g0 vs).bind λ_=>some p)=some q from h)
  obtain⟨_,h2,h⟩:=bind_of h
  cases h
  rw[g0_of h1,g0_of h2]
 | _=>exact none_some h
def gDcl (s t:Stmt):Option DclQ:=
 (gAsg s).bind λa=>(gNm a.1).bind λx=>(gDic a.2.1).bind λdp=>(gFor t).bind λf=>(gNm f.1).bind λy=>(g1 f.2.2.1).bind λb=>(gAsg b).bind λc=>(gSub c.1).bind λu=>(gNm u.1).bind λz=>(g0 f.2.2.2.1).bind λ_=>some ⟨x.1,x.2,dp,a.2.2,y.1,y.2,f.2.1,z.1,z.2,u.2.1,u.2.2,c.2.1,c.2.2,f.2.2.2.2⟩
theorem gDcl_of {s t:Stmt} {q:DclQ} (h:gDcl s t=some q):s=.Assign [.Name q.x q.px] (.Dict [] [] q.dp) q.ap/\t=.For (.Name q.y q.py) q.it [.Assign [.Subscript (.Name q.x' q.p1) q.k q.sp] q.v q.bp] [] q.fp:=by
 unfold gDcl at h
 obtain⟨a,h1,h⟩:=bind_of h
 obtain⟨x,h2,h⟩:=bind_of h
 obtain⟨dp,h3,h⟩:=bind_of h
 obtain⟨f,h4,h⟩:=bind_of h
 obtain⟨y,h5,h⟩:=bind_of h
 obtain⟨b,h6,h⟩:=bind_of h
 obtain⟨c,h7,h⟩:=bind_of h
 obtain⟨u,h8,h⟩:=bind_of h
 obtain⟨z,h9,h⟩:=bind_of h
 obtain⟨w,h10,h⟩:=bind_of h
 cases h
 rw[gAsg_of h1,gNm_of h2,gDic_of h3,gFor_of h4,gNm_of h5,g1_of h6,gAsg_of h7,gSub_of h8,gNm_of h9,g0_of h10]
 exact⟨rfl,rfl⟩
def isDcl (a:Sm) (sc:Scope) (N:List Str) (s t:Stmt):Bool:=match a with
 | .dcl i j it e=>(match gDcl s t with
  | some q=>putB sc N i q.x&&putB sc N j q.y&&isI it sc N (.Name q.y q.py) q.it&&isV i sc N (.Name q.x' q.p1)&&isV j sc N q.k&&isE e sc N q.v&&noCmp e&&i != j
  | none=>false)
 | _=>false
mutual
def isS:Sm->Scope->List Str->Stmt->Bool
 | .asg i e,sc,N,s=>match s with
  | .Assign [.Name x _] v _=>putB sc N i x&&isE e sc N v
  | _=>false
 | .unp i j e,sc,N,s=>match gUnp s with
  | some q=>putB sc N i q.x&&putB sc N j q.y&&isE e sc N q.v&&noTup e
  | none=>false
 | .app i e,sc,N,s=>match gApp s with
  | some q=>(q.p'.endLine==q.q.line)&&q.m==("append" : Str)&&isE (.var i) sc N (.Name q.x q.p)&&isE e sc N q.v
  | none=>false
 | .set i k v,sc,N,s=>match gSet s with
  | some q=>isE (.var i) sc N (.Name q.x q.p)&&isE k sc N q.k&&isE v sc N q.v&&noCmp v
  | none=>false
 | .exp e,sc,N,s=>match s with
  | .Expr v _=>isE e sc N v&&noCmp e
  | _=>false
 | .ret e,sc,N,s=>match s with
  | .Return (some v) _=>isE e sc N v
  | _=>false
 | .ife c a b,sc,N,s=>match s with
  | .If c' a' b' _=>testB c&&isE c sc N c'&&isSs a sc N a'&&isSs b sc N b'
  | _=>false
 | .for1 i it b,sc,N,s=>match s with
  | .For (.Name x p) iter body [] _=>putB sc N i x&&isI it sc N (.Name x p) iter&&isSs b sc N body
  | _=>false
 | .for2 i j it b,sc,N,s=>match gFor2 s with
  | some q=>putB sc N i q.x&&putB sc N j q.y&&isI it sc N (.Tuple [.Name q.x q.px,.Name q.y q.py] q.k q.tp) q.it&&isSs b sc N q.b
  | none=>false
 | .whl c b,sc,N,s=>match s with
  | .While c' body [] _=>testB c&&isE c sc N c'&&isSs b sc N body
  | _=>false
 | .retK mx a b,sc,N,s=>match gRetK s with
  | some q=>(q.f==if mx then ("max" : Str) else ("sorted" : Str))&&globB sc q.f&&q.k==("key" : Str)&&lamOk q.isc sc N q.x&&isE a sc N q.a&&isE b q.isc (N++[q.x]) q.b
  | none=>false
 | .asgD i f as a,sc,N,s=>match s with
  | .Assign [.Name x _] v _=>putB sc N i x&&isE (.comp false (.call f as) (.rng a) .nil) sc N v
  | _=>false
 | .pop0 j i k,sc,N,s=>match gPop s with
  | some q=>putB sc N j q.x&&(q.p'.endLine==q.q.line)&&q.m==("pop" : Str)&&isE (.var i) sc N (.Name q.l q.p)&&isE k sc N q.k&&isE (.int 0) sc N q.v&&i != j
  | none=>false
 | .asgN i es,sc,N,s=>match s with
  | .Assign [.Name x _] v _=>putB sc N i x&&isE (.lst es) sc N v
  | _=>false
 | .rse c,sc,_,s=>match gRse s with
  | some q=>c==q.1&&globB sc q.1&&(q.1==("__debug__" : Str))==false
  | none=>false
 | .rsI c e,sc,N,s=>match gRsI s with
  | some q=>c==q.1&&globB sc q.1&&(q.1==("__debug__" : Str))==false&&isE e sc N q.2.2.1
  | none=>false
 | .tryN b k c,sc,N,s=>match gTryN s with
  | some q=>k==q.x&&globB sc k&&(k==("__debug__" : Str))==false&&c==q.r.1.1&&globB sc c&&(c==("__debug__" : Str))==false&&isSs b sc N q.b
  | none=>false
 | .tryH b i n xF _ hs,sc,N,s=>match gTryH s with
  | some q=>n==q.n&&N[i]?==some n&&sc.names.lookup n==some .local&&(n==("__debug__" : Str))==false&&(n==("__classdict__" : Str))==false&&xF==q.x&&globB sc xF&&(xF==("__debug__" : Str))==false
    && globB sc "isinstance" && !hs.isEmpty&&hs.all (Hj i)&&isHs n sc N hs q.hb&&isSs b sc N q.b
  | none=>false
 | .dcl _ _ _ _,_,_,_=>false
 | .appX i e,sc,N,s=>match gApp s with
  | some q=>(q.p'.endLine==q.q.line)&&q.m==("append" : Str)&&isE (.var i) sc N (.Name q.x q.p)&&isE e sc N q.v
  | none=>false
 | .bad,_,_,_=>true
def isSs:Sms->Scope->List Str->List Stmt->Bool
 | .nil,_,_,ss=>match ss with
  | []=>true
  | _=>false
 | .cons a r,sc,N,ss=>match ss with
  | x::xs=>(isS a sc N x&&isSs r sc N xs)
    || (match xs with | y::ys=>isDcl a sc N x y&&isSs r sc N ys | []=>false)
  | _=>false
end
def scopeB (N ps:List Str) (sc:Scope):Bool:=
 sc.kind==.function&&sc.isCoroutine==false&&sc.isGenerator==false&&decide N.Nodup&&N.take ps.length==ps
  && ps.all (locB sc)&&sc.names.all (λy=>y.2 != .free)
end Lf
namespace Lf
open PySem PySem.Spec PyProof.Rows L2
abbrev Frag:=PySem.W.Frag
def SqF (K:Frag) (H:Hp) (a:Addr) (xs:List V):Prop:=
 (∃ o,H a=some (.frz o (.lst xs))) \/
  ∃ (o:Obj) (its:Array Value) (n:Nat),K.lookup a=some o/\o.cls=.type "list" /\ o.dict=none/\o.data=.seq its n/\its.size<=sizeLine/\Vals xs its.toList
mutual
def Rep (K:Frag) (H:Hp):D->V->List Addr->Prop
 | .non,v,F=>v=.non/\F=[]
 | .bl b,v,F=>v=.bl b/\F=[]
 | .int i,v,F=>v=.int i/\F=[]
 | .str x,v,F=>v=.str x/\F=[]
 | .tup ds,v,F=>∃ a vs,v=.ref a/\SqT K H a vs/\Reps K H ds vs F
 | .dct _,_,_=>False
 | .lst ds,v,F=>∃ a vs F',v=.ref a/\Reps K H ds vs F'/\((H a=some (.lst vs)/\F=a::F')\/(SqF K H a vs/\F=F'))
def Reps (K:Frag) (H:Hp):List D->List V->List Addr->Prop
 | [],vs,F=>vs=[]/\F=[]
 | d::ds,vs,F=>∃ v r F1 F2,vs=v::r/\F=F1++F2/\Rep K H d v F1/\Reps K H ds r F2
end
section
variable {K:Frag} {H H':Hp}
theorem SqF.seq {a:Addr} {xs:List V} (h:SqF K H a xs):SqL K H a xs:=by
 rcases h with⟨o,h⟩ | h
 ·exact .inl (.inr ⟨o,h⟩)
 ·exact .inr h
def Kp (S:Addr->Prop) (H H':Hp):Prop:=(∀ b o,H b=some o->¬ S b->H' b=some o)/\∀ b,S b->(∃ xs,H b=some (.lst xs))\/∃ l,H b=some (.dK l)
theorem Kp.tup {S:Addr->Prop} (k:Kp S H H') {a:Addr} {xs:List V} (h:SqT K H a xs):SqT K H' a xs:=by
 rcases h with(h | ⟨o,h⟩) | h
 ·exact .inl (.inl (k.1 _ _ h λz=>by rcases k.2 _ z with⟨ys,e⟩ | ⟨ys,e⟩ <;> (rw[h] at e; cases e)))
 ·exact .inl (.inr ⟨o,k.1 _ _ h λz=>by rcases k.2 _ z with⟨ys,e⟩ | ⟨ys,e⟩ <;> (rw[h] at e; cases e)⟩)
 ·exact .inr h
theorem Kp.frz {S:Addr->Prop} (k:Kp S H H') {a:Addr} {xs:List V} (h:SqF K H a xs):SqF K H' a xs:=by
 rcases h with⟨o,h⟩ | h
 ·exact .inl ⟨o,k.1 _ _ h λz=>by rcases k.2 _ z with⟨ys,e⟩ | ⟨ys,e⟩ <;> (rw[h] at e; cases e)⟩
 ·exact .inr h
theorem Kp.of_same (h:Same H H'):Kp (λ_=>False) H H':=⟨λb o e _=>h b o e,λ_ z=>z.elim⟩
mutual
theorem Rep.keep {S:Addr->Prop} (k:Kp S H H'):∀ {d:D} {v:V} {F:List Addr},Rep K H d v F->(∀ a ∈ F,¬ S a)->Rep K H' d v F
 | .non,_,_,h,_=>h
 | .bl _,_,_,h,_=>h
 | .int _,_,_,h,_=>h
 | .str _,_,_,h,_=>h
 | .dct _,_,_,h,_=>h
 | .tup ds,v,F,h,n=>by
  obtain⟨a,vs,e,hq,r⟩:=h
  exact⟨a,vs,e,k.tup hq,Reps.keep k r n⟩
 | .lst ds,v,F,h,n=>by
  obtain⟨a,vs,F',e,r,q⟩:=h
  rcases q with⟨q,z⟩ | ⟨q,z⟩
  ·subst z
   exact⟨a,vs,F',e,Reps.keep k r λb hb=>n b (List.mem_cons_of_mem _ hb),.inl ⟨k.1 _ _ q (n a List.mem_cons_self),rfl⟩⟩
  ·subst z
   exact⟨a,vs,_,e,Reps.keep k r n,.inr ⟨k.frz q,rfl⟩⟩
theorem Reps.keep {S:Addr->Prop} (k:Kp S H H'):∀ {ds:List D} {vs:List V} {F:List Addr},Reps K H ds vs F->(∀ a ∈ F,¬ S a)->Reps K H' ds vs F
 | [],_,_,h,_=>h
 | d::ds,vs,F,h,n=>by
  obtain⟨v,r,F1,F2,e1,e2,h1,h2⟩:=h
  subst e2
  exact⟨v,r,F1,F2,e1,rfl,Rep.keep k h1 λa ha=>n a (List.mem_append_left _ ha),Reps.keep k h2 λa ha=>n a (List.mem_append_right _ ha)⟩
end
theorem Rep.same (s:Same H H') {d:D} {v:V} {F:List Addr} (h:Rep K H d v F):Rep K H' d v F:=h.keep (.of_same s) λ_ _ z=>z
theorem Reps.same (s:Same H H') {d:List D} {v:List V} {F:List Addr} (h:Reps K H d v F):Reps K H' d v F:=h.keep (.of_same s) λ_ _ z=>z
mutual
theorem Rep.lists:∀ {d:D} {v:V} {F:List Addr},Rep K H d v F->∀ a ∈ F,∃ xs,H a=some (.lst xs)
 | .non,_,_,h,a,ha=>by obtain⟨_,rfl⟩:=h; cases ha
 | .bl _,_,_,h,a,ha=>by obtain⟨_,rfl⟩:=h; cases ha
 | .int _,_,_,h,a,ha=>by obtain⟨_,rfl⟩:=h; cases ha
 | .str _,_,_,h,a,ha=>by obtain⟨_,rfl⟩:=h; cases ha
 | .dct _,_,_,h,a,ha=>h.elim
 | .tup ds,v,F,h,a,ha=>by
  obtain⟨_,vs,_,_,r⟩:=h
  exact Reps.lists r a ha
 | .lst ds,v,F,h,a,ha=>by
  obtain⟨b,vs,F',_,r,q⟩:=h
  rcases q with⟨q,rfl⟩ | ⟨q,rfl⟩
  ·rcases List.mem_cons.mp ha with rfl | ha
   ·exact⟨vs,q⟩
   ·exact Reps.lists r a ha
  ·exact Reps.lists r a ha
theorem Reps.lists:∀ {ds:List D} {vs:List V} {F:List Addr},Reps K H ds vs F->∀ a ∈ F,∃ xs,H a=some (.lst xs)
 | [],_,_,h,a,ha=>by obtain⟨_,rfl⟩:=h; cases ha
 | d::ds,vs,F,h,a,ha=>by
  obtain⟨v,r,F1,F2,_,rfl,h1,h2⟩:=h
  rcases List.mem_append.mp ha with ha | ha
  ·exact Rep.lists h1 a ha
  ·exact Reps.lists h2 a ha
end
mutual
theorem Rep.noL:∀ {d:D} {v:V} {F:List Addr},Rep K H d v F->noL d=true->F=[]
 | .non,_,_,h,_=>h.2
 | .bl _,_,_,h,_=>h.2
 | .int _,_,_,h,_=>h.2
 | .str _,_,_,h,_=>h.2
 | .dct _,_,_,h,_=>h.elim
 | .tup ds,v,F,h,n=>by
  obtain⟨_,vs,_,_,r⟩:=h
  exact Reps.noL r (by simpa [Lf.noL] using n)
 | .lst ds,v,F,h,n=>by simp[Lf.noL] at n
theorem Reps.noL:∀ {ds:List D} {vs:List V} {F:List Addr},Reps K H ds vs F->noLs ds=true->F=[]
 | [],_,_,h,_=>h.2
 | d::ds,vs,F,h,n=>by
  obtain⟨v,r,F1,F2,_,rfl,h1,h2⟩:=h
  simp[noLs] at n
  rw[Rep.noL h1 n.1,Reps.noL h2 n.2]
  rfl
end
theorem Reps.length:∀ {ds:List D} {vs:List V} {F:List Addr},Reps K H ds vs F->ds.length=vs.length
 | [],_,_,h=>by obtain⟨rfl,_⟩:=h; rfl
 | d::ds,vs,F,h=>by
  obtain⟨v,r,F1,F2,rfl,_,_,h2⟩:=h
  simp[Reps.length h2]
theorem Reps.get:∀ {ds:List D} {vs:List V} {F:List Addr} {i:Nat} {d:D},Reps K H ds vs F->ds[i]?=some d->∃ v F1,vs[i]?=some v/\Rep K H d v F1/\∀ a ∈ F1,a ∈ F
 | [],_,_,_,_,_,e=>by simp at e
 | d::ds,vs,F,0,x,h,e=>by
  obtain⟨v,r,F1,F2,rfl,rfl,h1,_⟩:=h
  simp at e
  subst e
  exact⟨v,F1,rfl,h1,λa ha=>List.mem_append_left _ ha⟩
 | d::ds,vs,F,i+1,x,h,e=>by
  obtain⟨v,r,F1,F2,rfl,rfl,_,h2⟩:=h
  obtain⟨v',F',e',r',s'⟩:=Reps.get (i:=i) h2 (by simpa using e)
  exact⟨v',F',by simpa using e',r',λa ha=>List.mem_append_right _ (s' a ha)⟩
theorem Reps.append:∀ {ds es:List D} {vs ws:List V} {F G:List Addr},Reps K H ds vs F->Reps K H es ws G->Reps K H (ds++es) (vs++ws) (F++G)
 | [],_,_,_,_,_,h,g=>by obtain⟨rfl,rfl⟩:=h; exact g
 | d::ds,es,vs,ws,F,G,h,g=>by
  obtain⟨v,r,F1,F2,rfl,rfl,h1,h2⟩:=h
  exact⟨v,r++ws,F1,F2++G,rfl,by rw[List.append_assoc],h1,Reps.append h2 g⟩
theorem Reps.nil:Reps K H [] [] []:=⟨rfl,rfl⟩
theorem Reps.cons {d:D} {ds:List D} {v:V} {vs:List V} {F G:List Addr} (h:Rep K H d v F) (g:Reps K H ds vs G):Reps K H (d::ds) (v::vs) (F++G):=⟨v,vs,F,G,rfl,rfl,h,g⟩
theorem Reps.one {d:D} {v:V} {F:List Addr} (h:Rep K H d v F):Reps K H [d] [v] F:=by
 have:=Reps.cons h (Reps.nil (K:=K) (H:=H))
 rwa [List.append_nil] at this
theorem Reps.drop:∀ {ds:List D} {vs:List V} {F:List Addr} (n:Nat),Reps K H ds vs F->∃ G,Reps K H (ds.drop n) (vs.drop n) G/\∀ a ∈ G,a ∈ F
 | ds,vs,F,0,h=>⟨F,h,λ_ z=>z⟩
 | [],vs,F,n+1,h=>by obtain⟨rfl,rfl⟩:=h; exact⟨[],⟨rfl,rfl⟩,λ_ z=>z⟩
 | d::ds,vs,F,n+1,h=>by
  obtain⟨v,r,F1,F2,rfl,rfl,h1,h2⟩:=h
  obtain⟨G,g,s⟩:=Reps.drop n h2
  exact⟨G,g,λa ha=>List.mem_append_right _ (s a ha)⟩
theorem Reps.take:∀ {ds:List D} {vs:List V} {F:List Addr} (n:Nat),Reps K H ds vs F->∃ G,Reps K H (ds.take n) (vs.take n) G/\∀ a ∈ G,a ∈ F
 | ds,vs,F,0,h=>⟨[],⟨rfl,rfl⟩,λ_ z=>nomatch z⟩
 | [],vs,F,n+1,h=>by obtain⟨rfl,rfl⟩:=h; exact⟨[],⟨rfl,rfl⟩,λ_ z=>z⟩
 | d::ds,vs,F,n+1,h=>by
  obtain⟨v,r,F1,F2,rfl,rfl,h1,h2⟩:=h
  obtain⟨G,g,s⟩:=Reps.take n h2
  refine⟨F1++G,.cons h1 g,λa ha=>?_⟩
  rcases List.mem_append.mp ha with ha | ha
  ·exact List.mem_append_left _ ha
  ·exact List.mem_append_right _ (s a ha)
theorem Reps.cut {ds:List D} {vs:List V} {F:List Addr} (lo hi:Option Int) (h:Reps K H ds vs F):∃ G,Reps K H (Lf.cut ds lo hi) (L2.cutV vs lo hi) G/\∀ a ∈ G,a ∈ F:=by
 have e:ds.length=vs.length:=h.length
 have e1:∀ n d o,Lf.sIx n d o=HT.sIx n d o:=λn d o=>by cases o <;> rfl
 unfold Lf.cut L2.cutV
 rw[e,e1,e1]
 obtain⟨G,g,s⟩:=h.drop (HT.sIx vs.length 0 lo)
 obtain⟨G',g',s'⟩:=g.take (HT.sIx vs.length vs.length hi-HT.sIx vs.length 0 lo)
 exact⟨G',g',λa ha=>s a (s' a ha)⟩
theorem Reps.set:∀ {ds:List D} {vs:List V} {F G:List Addr} {d:D} {v:V} (n:Nat),Reps K H ds vs F->Rep K H d v G->∃ F',Reps K H (ds.set n d) (vs.set n v) F'/\∀ a ∈ F',a ∈ F\/a ∈ G
 | [],vs,F,G,d,v,n,h,g=>by obtain⟨rfl,rfl⟩:=h; exact⟨[],⟨rfl,rfl⟩,λ_ z=>nomatch z⟩
 | x::ds,vs,F,G,d,v,0,h,g=>by
  obtain⟨w,r,F1,F2,rfl,rfl,h1,h2⟩:=h
  refine⟨G++F2,.cons g h2,λa ha=>?_⟩
  rcases List.mem_append.mp ha with ha | ha
  ·exact .inr ha
  ·exact .inl (List.mem_append_right _ ha)
 | x::ds,vs,F,G,d,v,n+1,h,g=>by
  obtain⟨w,r,F1,F2,rfl,rfl,h1,h2⟩:=h
  obtain⟨F',h',s'⟩:=Reps.set n h2 g
  refine⟨F1++F',.cons h1 h',λa ha=>?_⟩
  rcases List.mem_append.mp ha with ha | ha
  ·exact .inl (List.mem_append_left _ ha)
  ·exact(s' a ha).imp (λz=>List.mem_append_right _ z) id
theorem Rep.seq {d:D} {ds:List D} {v:V} {F:List Addr} (h:Rep K H d v F) (e:seqOf d=some ds):∃ a vs F',v=.ref a/\Reps K H ds vs F'/\(SqL K H a vs\/SqT K H a vs)/\∀ b ∈ F',b ∈ F:=by
 cases d with
 | lst xs=>
  cases e
  obtain⟨a,vs,F',rfl,r,q⟩:=h
  rcases q with⟨q,rfl⟩ | ⟨q,rfl⟩
  ·exact⟨a,vs,F',rfl,r,.inl (.of q),λb hb=>List.mem_cons_of_mem _ hb⟩
  ·exact⟨a,vs,_,rfl,r,.inl q.seq,λ_ z=>z⟩
 | tup xs=>
  cases e
  obtain⟨a,vs,rfl,q,r⟩:=h
  exact⟨a,vs,F,rfl,r,.inr q,λ_ z=>z⟩
 | _=>cases e
theorem Rep.lst_ {ds:List D} {v:V} {F:List Addr} (h:Rep K H (.lst ds) v F):∃ a vs F',v=.ref a/\Reps K H ds vs F'/\SqL K H a vs/\(∀ b ∈ F',b ∈ F):=by
 obtain⟨a,vs,F',rfl,r,q⟩:=h
 rcases q with⟨q,rfl⟩ | ⟨q,rfl⟩
 ·exact⟨a,vs,F',rfl,r,.of q,λb hb=>List.mem_cons_of_mem _ hb⟩
 ·exact⟨a,vs,_,rfl,r,q.seq,λ_ z=>z⟩
theorem Rep.new_lst {H:Hp} {p:Addr} {ds:List D} {vs:List V} {F:List Addr} (hp:H p=none) (h:Reps K H ds vs F):Rep K (upd H p (.lst vs)) (.lst ds) (.ref p) (p::F):=
 ⟨p,vs,F,rfl,h.same λb o e=>by rw[upd_ne (ne_of_none e hp)]; exact e,.inl ⟨upd_same,rfl⟩⟩
theorem Rep.new_tup {H:Hp} {p:Addr} {ds:List D} {vs:List V} {F:List Addr} (hp:H p=none) (h:Reps K H ds vs F):Rep K (upd H p (.tup vs)) (.tup ds) (.ref p) F:=
 ⟨p,vs,rfl,.of upd_same,h.same λb o e=>by rw[upd_ne (ne_of_none e hp)]; exact e⟩
theorem same_upd {H:Hp} {p:Addr} {o:HO} (hp:H p=none):Same H (upd H p o):=λb u e=>by rw[upd_ne (ne_of_none e hp)]; exact e
end
def dcK (kvs:List (Int × Int)):List (Key × V):=kvs.map λp=>(.inl p.1,.int p.2)
def RepS (K:Frag) (H:Hp) (d:D) (v:V) (F:List Addr):Prop:=Rep K H d v F
 \/ (∃ kvs a,d=.dct kvs/\v=.ref a/\H a=some (.dK (dcK kvs))/\F=[])
 \/ False
section
variable {K:Frag} {H H':Hp} {d:D} {v:V} {F:List Addr}
theorem Rep.S (h:Rep K H d v F):RepS K H d v F:=.inl h
theorem RepS.keep {S:Addr->Prop} (h:RepS K H d v F) (k:Kp S H H') (n:∀ a ∈ F,¬ S a) (hl:∀ b,S b->∃ xs,H b=some (.lst xs)):RepS K H' d v F:=by
 rcases h with h | h
 ·exact .inl (h.keep k n)
 ·rcases h with⟨kvs,a,e1,e2,e3,e4⟩ | h
  ·exact .inr (.inl ⟨kvs,a,e1,e2,k.1 _ _ e3 (λz=>by obtain⟨ys,e⟩:=hl _ z; rw[e3] at e; cases e),e4⟩)
  all_goals exact h.elim
theorem RepS.same (s:Same H H') (h:RepS K H d v F):RepS K H' d v F:=h.keep (.of_same s) (λ_ _ z=>z) λ_ z=>z.elim
theorem RepS.lists (h:RepS K H d v F):∀ a ∈ F,∃ xs,H a=some (.lst xs):=by
 rcases h with h | h
 ·exact h.lists
 ·rcases h with⟨kvs,a,e1,e2,e3,e4⟩ | h
  ·rw[e4]; exact λ_ z=>nomatch z
  all_goals exact h.elim
theorem RepS.rep (h:RepS K H d v F) (hd:isDc d=false):Rep K H d v F:=by
 rcases h with h | h
 ·exact h
 ·rcases h with⟨kvs,a,e1,e2,e3,e4⟩ | h
  ·rw[e1] at hd; cases hd
  all_goals exact h.elim
end
def RepsS (K:Frag) (H:Hp):List D->List V->List Addr->Prop
 | [],vs,F=>vs=[]/\F=[]
 | d::ds,vs,F=>∃ v r F1 F2,vs=v::r/\F=F1++F2/\RepS K H d v F1/\RepsS K H ds r F2
theorem Reps.S {K:Frag} {H:Hp}:∀ {ds:List D} {vs:List V} {F:List Addr},Reps K H ds vs F->RepsS K H ds vs F
 | [],_,_,h=>h
 | d::ds,vs,F,h=>by
  obtain⟨v,r,F1,F2,e1,e2,h1,h2⟩:=h
  exact⟨v,r,F1,F2,e1,e2,h1.S,h2.S⟩
theorem RepsS.length {K:Frag} {H:Hp}:∀ {ds:List D} {vs:List V} {F:List Addr},RepsS K H ds vs F->ds.length=vs.length
 | [],_,_,h=>by obtain⟨rfl,_⟩:=h; rfl
 | d::ds,vs,F,h=>by
  obtain⟨v,r,F1,F2,rfl,_,_,h2⟩:=h
  simp[RepsS.length h2]
structure VR (K:Frag) (H:Hp) (σ:L2.St) (ρ:Env) (Fs:Nat->List Addr):Prop where
 len:σ.length=ρ.length
 val:∀ i d o,ρ[i]?=some (some (d,o))->∃ v,σ[i]?=some (some v)/\RepS K H d v (Fs i)
theorem VR.more {K:Frag} {H H':Hp} {σ:L2.St} {ρ:Env} {Fs:Nat->List Addr} (S:VR K H σ ρ Fs) (s:Same H H'):VR K H' σ ρ Fs:=
 ⟨S.len,λi d o e=>by obtain⟨v,h1,h2⟩:=S.val i d o e; exact⟨v,h1,h2.same s⟩⟩
def deepIs (K:Frag) (H:Hp):List D->List V->List Addr->Prop
 | [],vs,G=>vs=[]/\G=[]
 | d::ds,vs,G=>∃ es a ws r G',d=.lst es/\vs=.ref a::r/\G=a::G'/\H a=some (.lst ws)/\Reps K H es ws []/\a ∉ G'/\deepIs K H ds r G'
theorem deep_nil {K:Frag} {H:Hp}:deepIs K H [] [] []:=⟨rfl,rfl⟩
theorem deepIs.keep' {K:Frag} {H H':Hp}:∀ {ds:List D} {vs:List V} {G:List Addr},deepIs K H ds vs G->(∀ a ∈ G,∀ ws,H a=some (.lst ws)->H' a=some (.lst ws))->(∀ es ws,Reps K H es ws []->Reps K H' es ws [])->deepIs K H' ds vs G
 | [],_,_,h,_,_=>h
 | d::ds,_,_,hD,k1,k2=>by
  obtain⟨es,a,ws,r,G',e1,e2,e3,e4,e5,e6,e7⟩:=hD
  subst e3
  exact⟨es,a,ws,r,G',e1,e2,rfl,k1 a List.mem_cons_self ws e4,k2 _ _ e5,e6,e7.keep' (λb hb=>k1 b (List.mem_cons_of_mem _ hb)) k2⟩
theorem deepIs.same {K:Frag} {H H':Hp} {ds:List D} {vs:List V} {G:List Addr} (h:deepIs K H ds vs G) (s:Same H H'):deepIs K H' ds vs G:=h.keep' (λa _ ws e=>s _ _ e) λes ws r=>r.same s
theorem reps_upd0 {K:Frag} {H:Hp} {a:Addr} {xs ys:List V} (ha:H a=some (.lst xs)) {es:List D} {ws:List V} (r:Reps K H es ws []):Reps K (upd H a (.lst ys)) es ws []:=
 r.keep (S:=λb=>b=a) ⟨λb o e n=>by rw[upd_ne n]; exact e,λb z=>by rw[z]; exact .inl ⟨xs,ha⟩⟩ (λ_ z=>nomatch z)
theorem deepIs.upd {K:Frag} {H:Hp} {a:Addr} {xs ys:List V} (ha:H a=some (.lst xs)) {ds:List D} {vs:List V} {G:List Addr} (h:deepIs K H ds vs G) (hn:∀ b ∈ G,b ≠ a):deepIs K (L2.upd H a (.lst ys)) ds vs G:=
 h.keep' (λb hb ws e=>by rw[upd_ne (hn b hb)]; exact e) λes ws r=>reps_upd0 ha r
theorem deepIs.snoc {K:Frag} {H:Hp}:∀ {ds:List D} {vs:List V} {G:List Addr} {es:List D} {ws:List V} {a:Addr},deepIs K H ds vs G->Reps K H es ws []->H a=some (.lst ws)->a ∉ G->deepIs K H (ds++[.lst es]) (vs++[.ref a]) (G++[a])
 | [],_,_,es,ws,a,⟨e1,e2⟩,r,ha,hn=>by
  subst e1; subst e2
  exact⟨es,a,ws,[],[],rfl,rfl,rfl,ha,r,by simp,rfl,rfl⟩
 | d::ds,_,_,es,ws,a,hD,r,ha,hn=>by
  obtain⟨es',b,ws',r',G',e1,e2,e3,e4,e5,e6,e7⟩:=hD
  subst e2; subst e3
  rw[List.mem_cons,not_or] at hn
  refine⟨es',b,ws',r'++[.ref a],G'++[a],e1,rfl,rfl,e4,e5,?_,e7.snoc r ha hn.2⟩
  intro z
  rcases List.mem_append.mp z with z | z
  ·exact e6 z
  ·exact hn.1 ((by simpa using z:b=a).symm)
structure SR (K:Frag) (B:Hp) (Al:Addr->Prop) (H:Hp) (σ:L2.St) (ρ:Env) (Fs:Nat->List Addr):Prop extends VR K H σ ρ Fs where
 al:∀ i d o,ρ[i]?=some (some (d,o))->∀ a ∈ Fs i,Al a
 own:∀ i d,ρ[i]?=some (some (d,true))->(Fs i).Nodup/\(∀ a ∈ Fs i,B a=none)/\(∀ j d' o',j ≠ i->ρ[j]?=some (some (d',o'))->∀ a ∈ Fs i,a ∉ Fs j)/\∃ a F vs,Fs i=a::F/\σ[i]?=some (some (.ref a))/\H a=some (.lst vs)
 same:Same B H
 fr:∀ a,B a=none->Al a
 deep:∀ i ds,ρ[i]?=some (some (.lst ds,true))->ds.all flatL=true->∃ a F vs,Fs i=a::F/\σ[i]?=some (some (.ref a))/\H a=some (.lst vs)/\deepIs K H ds vs F
theorem SR.more {K:Frag} {B:Hp} {Al:Addr->Prop} {H H':Hp} {σ:L2.St} {ρ:Env} {Fs:Nat->List Addr} (S:SR K B Al H σ ρ Fs) (s:Same H H'):SR K B Al H' σ ρ Fs:=
 ⟨S.toVR.more s,S.al,λi d h=>by obtain⟨p1,p2,p3,a,F,vs,q1,q2,q3⟩:=S.own i d h; exact⟨p1,p2,p3,a,F,vs,q1,q2,s _ _ q3⟩,S.same.trans s,S.fr,λi ds h z=>by obtain⟨a,F,vs,q1,q2,q3,q4⟩:=S.deep i ds h z; exact⟨a,F,vs,q1,q2,s _ _ q3,q4.same s⟩⟩
def Src (ρ:Env) (Fs:Nat->List Addr) (H:Hp) (vs:List Nat) (F:List Addr):Prop:=∀ a ∈ F,H a=none\/∃ i ∈ vs,(∃ d o,ρ[i]?=some (some (d,o)))/\a ∈ Fs i
theorem Src.mono {ρ:Env} {Fs:Nat->List Addr} {H H':Hp} {vs ws:List Nat} {F G:List Addr} (h:Src ρ Fs H' vs F) (s:Same H H') (hv:∀ i ∈ vs,i ∈ ws) (hF:∀ a ∈ G,a ∈ F):Src ρ Fs H ws G:=λa ha=>by
 rcases h a (hF a ha) with e | ⟨i,hi,e⟩
 ·exact .inl (s.free e)
 ·exact .inr ⟨i,hv i hi,e⟩
theorem Src.app {ρ:Env} {Fs:Nat->List Addr} {H:Hp} {vs:List Nat} {F G:List Addr} (h:Src ρ Fs H vs F) (g:Src ρ Fs H vs G):Src ρ Fs H vs (F++G):=λa ha=>
 (List.mem_append.mp ha).elim (h a) (g a)
theorem Src.nil {ρ:Env} {Fs:Nat->List Addr} {H:Hp} {vs:List Nat}:Src ρ Fs H vs []:=λa ha=>nomatch ha
theorem Src.new {ρ:Env} {Fs:Nat->List Addr} {H:Hp} {vs:List Nat} {F:List Addr} {p:Addr} (hp:H p=none) (h:Src ρ Fs H vs F):Src ρ Fs H vs (p::F):=λa ha=>
 (List.mem_cons.mp ha).elim (λe=>.inl (e ▸ hp)) (h a)
def VQ (K:Frag) (ρ:Env) (Fs:Nat->List Addr) (H:Hp) (vs:List Nat) (fm:Bool) (d:D) (Q:VK):Prop:=
 ∀ v H' F,Same H H'->Rep K H' d v F->Src ρ Fs H vs F->(fm=true->∀ ds,d=.lst ds->∃ a F',F=a::F'/\H a=none)->Q v H'
section
variable (K:Frag) (C:Str->List D->R D)
def tE (p:Ex):TE:=λσ H Q=>∃ ρ Fs d,VR K H σ ρ Fs/\ev C p ρ=.ok d/\VQ K ρ Fs H (vars p) (former p) d Q
def tEm (fm:Bool) (p:Ex):TE:=λσ H Q=>∃ ρ Fs d,VR K H σ ρ Fs/\ev C p ρ=.ok d/\VQ K ρ Fs H (vars p) fm d Q
def tT (p:Ex):TT:=λσ H Q=>∃ ρ Fs b,VR K H σ ρ Fs/\tst C p ρ=.ok b/\∀ H',Same H H'->Q b H'
def tA (ps:Exs):TA:=λσ H Q=>∃ ρ Fs ds,VR K H σ ρ Fs/\evs C ps ρ=.ok ds/\∀ vs H' F,Same H H'->Reps K H' ds vs F->Src ρ Fs H (varss ps) F->Q vs H'
end
section
variable {X:Cx} {pins:List (Addr × Obj)} {σ:L2.St} {H:Hp} {s:Shared}
theorem no_both (I:Inv X pins σ H s) {a:Addr} {xs ys:List V} (h:SqL X.K H a xs) (g:SqT X.K H a ys):False:=by
 obtain⟨its,r,⟨o,n,e,c,_⟩,_⟩:=I.list h
 obtain⟨o',e',c',_⟩:=I.tupObj g
 rw[e] at e'
 cases e'
 rw[c] at c'
 exact absurd c' (by decide)
mutual
theorem Rep.det (I:Inv X pins σ H s):∀ {d d':D} {v:V} {F F':List Addr},Rep X.K H d v F->Rep X.K H d' v F'->d=d'
 | .dct _,_,_,_,_,h,_=>h.elim
 | .non,d',v,F,F',h,g=>by
  obtain⟨rfl,_⟩:=h
  cases d' with
  | non=>rfl
  | bl b=>obtain⟨z,_⟩:=g; cases z
  | int b=>obtain⟨z,_⟩:=g; cases z
  | str b=>obtain⟨z,_⟩:=g; cases z
  | dct _=>exact g.elim
  | tup xs=>obtain⟨_,_,z,_⟩:=g; cases z
  | lst xs=>obtain⟨_,_,_,z,_⟩:=g; cases z
 | .bl _,d',v,F,F',h,g=>by
  obtain⟨rfl,_⟩:=h
  cases d' with
  | non=>obtain⟨z,_⟩:=g; cases z
  | bl b=>obtain⟨z,_⟩:=g; cases z; rfl
  | int b=>obtain⟨z,_⟩:=g; cases z
  | str b=>obtain⟨z,_⟩:=g; cases z
  | dct _=>exact g.elim
  | tup xs=>obtain⟨_,_,z,_⟩:=g; cases z
  | lst xs=>obtain⟨_,_,_,z,_⟩:=g; cases z
 | .int _,d',v,F,F',h,g=>by
  obtain⟨rfl,_⟩:=h
  cases d' with
  | non=>obtain⟨z,_⟩:=g; cases z
  | bl b=>obtain⟨z,_⟩:=g; cases z
  | int b=>obtain⟨z,_⟩:=g; cases z; rfl
  | str b=>obtain⟨z,_⟩:=g; cases z
  | dct _=>exact g.elim
  | tup xs=>obtain⟨_,_,z,_⟩:=g; cases z
  | lst xs=>obtain⟨_,_,_,z,_⟩:=g; cases z
 | .str _,d',v,F,F',h,g=>by
  obtain⟨rfl,_⟩:=h
  cases d' with
  | non=>obtain⟨z,_⟩:=g; cases z
  | bl b=>obtain⟨z,_⟩:=g; cases z
  | int b=>obtain⟨z,_⟩:=g; cases z
  | str b=>obtain⟨z,_⟩:=g; cases z; rfl
  | dct _=>exact g.elim
  | tup xs=>obtain⟨_,_,z,_⟩:=g; cases z
  | lst xs=>obtain⟨_,_,_,z,_⟩:=g; cases z
 | .tup ds,d',v,F,F',h,g=>by
  obtain⟨a,vs,rfl,q,r⟩:=h
  cases d' with
  | non=>obtain⟨z,_⟩:=g; cases z
  | bl b=>obtain⟨z,_⟩:=g; cases z
  | int b=>obtain⟨z,_⟩:=g; cases z
  | str b=>obtain⟨z,_⟩:=g; cases z
  | dct _=>exact g.elim
  | tup xs=>
   obtain⟨b,ws,z,q',r'⟩:=g
   cases z
   obtain rfl:=I.tuple_inj q q'
   rw[Reps.det I r r']
  | lst xs=>
   obtain⟨b,ws,F2,z,r',q'⟩:=g.lst_
   cases z
   exact(no_both I q'.1 q).elim
 | .lst ds,d',v,F,F',h,g=>by
  obtain⟨a,vs,F1,rfl,r,q,_⟩:=h.lst_
  cases d' with
  | non=>obtain⟨z,_⟩:=g; cases z
  | bl b=>obtain⟨z,_⟩:=g; cases z
  | int b=>obtain⟨z,_⟩:=g; cases z
  | str b=>obtain⟨z,_⟩:=g; cases z
  | dct _=>exact g.elim
  | tup xs=>
   obtain⟨b,ws,z,q',r'⟩:=g
   cases z
   exact(no_both I q q').elim
  | lst xs=>
   obtain⟨b,ws,F2,z,r',q',_⟩:=g.lst_
   cases z
   obtain rfl:=I.list_inj q q'
   rw[Reps.det I r r']
theorem Reps.det (I:Inv X pins σ H s):∀ {ds ds':List D} {vs:List V} {F F':List Addr},Reps X.K H ds vs F->Reps X.K H ds' vs F'->ds=ds'
 | [],ds',vs,F,F',h,g=>by
  obtain⟨rfl,_⟩:=h
  cases ds' with
  | nil=>rfl
  | cons d ds'=>obtain⟨_,_,_,_,z,_⟩:=g; cases z
 | d::ds,ds',vs,F,F',h,g=>by
  obtain⟨v,r,F1,F2,rfl,_,h1,h2⟩:=h
  cases ds' with
  | nil=>obtain⟨z,_⟩:=g; cases z
  | cons d' ds'=>
   obtain⟨v',r',F1',F2',z,_,g1,g2⟩:=g
   cases z
   rw[Rep.det I h1 g1,Reps.det I h2 g2]
end
theorem eqDs_range:∀ (xs ys:List D),xs.length=ys.length->eqDs xs ys=(List.range xs.length).all λj=>eqD (xs.getD j .non) (ys.getD j .non)
 | [],[],_=>rfl
 | [],_::_,h=>by simp at h
 | _::_,[],h=>by simp at h
 | x::xs,y::ys,h=>by
  have ih:=eqDs_range xs ys (by simpa using h)
  rw[List.length_cons,List.range_succ_eq_map,List.all_cons,List.all_map]
  show (eqD x y&&eqDs xs ys)=_
  rw[ih]
  rfl
theorem eqDs_ne:∀ (xs ys:List D),xs.length ≠ ys.length->eqDs xs ys=false
 | [],[],h=>absurd rfl h
 | [],_::_,_=>rfl
 | _::_,[],_=>rfl
 | x::xs,y::ys,h=>by
  show (eqD x y&&eqDs xs ys)=false
  rw[eqDs_ne xs ys (by simpa using h),Bool.and_false]
mutual
theorem eqD_self:∀ d:D,eqD d d=true
 | .non=>rfl
 | .bl b=>by simp[eqD]
 | .int i=>by simp[eqD]
 | .str x=>by simp[eqD]
 | .dct x=>by simp[eqD]
 | .tup xs=>by simp only[eqD]; exact eqDs_self xs
 | .lst xs=>by simp only[eqD]; exact eqDs_self xs
theorem eqDs_self:∀ ds:List D,eqDs ds ds=true
 | []=>rfl
 | d::ds=>by simp only[eqDs]; rw[eqD_self d,eqDs_self ds]; rfl
end
theorem and_len (xs ys:List D):((List.range (min xs.length ys.length)).all (λj=>eqD (xs.getD j .non) (ys.getD j .non))&&xs.length==ys.length)=eqDs xs ys:=by
 by_cases h:xs.length=ys.length
 ·rw[<- h,Nat.min_self,beq_self_eq_true,Bool.and_true,eqDs_range _ _ h]
 ·rw[eqDs_ne _ _ h,beq_eq_false_iff_ne.mpr h,Bool.and_false]
theorem getD_of {ds:List D} {j:Nat} {d:D} (h:ds[j]?=some d):ds.getD j .non=d:=by
 rw[List.getD_eq_getElem?_getD,h]; rfl
def bothSeq:D->D->Bool
 | .tup _,.tup _=>true
 | .lst _,.lst _=>true
 | _,_=>false
theorem mixed_eq (I:Inv X pins σ H s) (A:Around) (d d':D) (v v':V) (F F':List Addr) (u u':Value) (hu:A.units<cLine) (hd:bothSeq d d'=false) (h:Rep X.K H d v F) (g:Rep X.K H d' v' F') (r:RelV v u) (r':RelV v' u') :
  SeqAt.RcAt A s u u' (eqD d d')/\SeqAt.EqAt A s u u' (eqD d d'):=by
 cases d with
 | tup xs=>
  obtain⟨a,vs,rfl,q,_⟩:=h
  cases r
  obtain⟨its,rv,p,_⟩:=I.tuple q
  cases d' with
  | non=>obtain⟨rfl,_⟩:=g; cases r'; exact⟨SeqAt.RcAt.tuple_none p hu,SeqAt.EqAt.tuple_none p hu⟩
  | bl b=>obtain⟨rfl,_⟩:=g; cases r'; exact⟨SeqAt.RcAt.tuple_bool b p hu,SeqAt.EqAt.tuple_bool b p hu⟩
  | int b=>obtain⟨rfl,_⟩:=g; obtain⟨t,rfl⟩:=r'; exact⟨SeqAt.RcAt.tuple_int b t p hu,SeqAt.EqAt.tuple_int b t p hu⟩
  | str b=>obtain⟨rfl,_⟩:=g; obtain⟨t,rfl⟩:=r'; exact⟨SeqAt.RcAt.tuple_str b t p hu,SeqAt.EqAt.tuple_str b t p hu⟩
  | dct _=>exact g.elim
  | lst ys=>
   obtain⟨b,ws,F2,rfl,_,q',_⟩:=g.lst_
   cases r'
   obtain⟨its2,_,p2,_⟩:=I.list q'
   exact⟨SeqAt.RcAt.tuple_list p p2.isList hu,SeqAt.EqAt.tuple_list p p2.isList hu⟩
  | tup ys=>cases hd
 | lst xs=>
  obtain⟨a,vs,F1,rfl,_,q,_⟩:=h.lst_
  cases r
  obtain⟨its,rv,p,_⟩:=I.list q
  cases d' with
  | non=>obtain⟨rfl,_⟩:=g; cases r'; exact⟨SeqAt.RcAt.list_none p.isList hu,SeqAt.EqAt.list_none p.isList hu⟩
  | bl b=>obtain⟨rfl,_⟩:=g; cases r'; exact⟨SeqAt.RcAt.list_bool b p.isList hu,SeqAt.EqAt.list_bool b p.isList hu⟩
  | int b=>obtain⟨rfl,_⟩:=g; obtain⟨t,rfl⟩:=r'; exact⟨SeqAt.RcAt.list_int b t p.isList hu,SeqAt.EqAt.list_int b t p.isList hu⟩
  | str b=>obtain⟨rfl,_⟩:=g; obtain⟨t,rfl⟩:=r'; exact⟨SeqAt.RcAt.list_str b t p.isList hu,SeqAt.EqAt.list_str b t p.isList hu⟩
  | dct _=>exact g.elim
  | tup ys=>
   obtain⟨b,ws,rfl,q',_⟩:=g
   cases r'
   obtain⟨its2,_,p2,_⟩:=I.tuple q'
   exact⟨SeqAt.RcAt.list_tuple p.isList p2 hu,SeqAt.EqAt.list_tuple p.isList p2 hu⟩
  | lst ys=>cases hd
 | non=>
  obtain⟨rfl,_⟩:=h
  cases r
  cases d' with
  | non=>obtain⟨rfl,_⟩:=g; cases r'; exact⟨SeqAt.RcAt.none_none,SeqAt.EqAt.same _⟩
  | bl b=>obtain⟨rfl,_⟩:=g; cases r'; exact⟨SeqAt.RcAt.none_bool b,SeqAt.EqAt.none_bool b⟩
  | int b=>obtain⟨rfl,_⟩:=g; obtain⟨t,rfl⟩:=r'; exact⟨SeqAt.RcAt.none_int b t,SeqAt.EqAt.none_int b t⟩
  | str b=>obtain⟨rfl,_⟩:=g; obtain⟨t,rfl⟩:=r'; exact⟨SeqAt.RcAt.none_str b t,SeqAt.EqAt.none_str b t⟩
  | dct _=>exact g.elim
  | tup ys=>
   obtain⟨b,ws,rfl,q',_⟩:=g
   cases r'
   obtain⟨its2,_,p2,_⟩:=I.tuple q'
   exact⟨SeqAt.RcAt.none_tuple p2 hu,SeqAt.EqAt.none_tuple p2 hu⟩
  | lst ys=>
   obtain⟨b,ws,F2,rfl,_,q',_⟩:=g.lst_
   cases r'
   obtain⟨its2,_,p2,_⟩:=I.list q'
   exact⟨SeqAt.RcAt.none_list p2.isList hu,SeqAt.EqAt.none_list p2.isList hu⟩
 | bl c=>
  obtain⟨rfl,_⟩:=h
  cases r
  cases d' with
  | non=>obtain⟨rfl,_⟩:=g; cases r'; exact⟨SeqAt.RcAt.bool_none c,SeqAt.EqAt.bool_none c⟩
  | bl b=>obtain⟨rfl,_⟩:=g; cases r'; exact⟨SeqAt.RcAt.bool_bool c b,SeqAt.EqAt.bool_bool c b⟩
  | int b=>obtain⟨rfl,_⟩:=g; obtain⟨t,rfl⟩:=r'; exact⟨SeqAt.RcAt.bool_int c b t,SeqAt.EqAt.bool_int c b t⟩
  | str b=>obtain⟨rfl,_⟩:=g; obtain⟨t,rfl⟩:=r'; exact⟨SeqAt.RcAt.bool_str c b t,SeqAt.EqAt.bool_str c b t⟩
  | dct _=>exact g.elim
  | tup ys=>
   obtain⟨b,ws,rfl,q',_⟩:=g
   cases r'
   obtain⟨its2,_,p2,_⟩:=I.tuple q'
   exact⟨SeqAt.RcAt.bool_tuple c p2 hu,SeqAt.EqAt.bool_tuple c p2 hu⟩
  | lst ys=>
   obtain⟨b,ws,F2,rfl,_,q',_⟩:=g.lst_
   cases r'
   obtain⟨its2,_,p2,_⟩:=I.list q'
   exact⟨SeqAt.RcAt.bool_list c p2.isList hu,SeqAt.EqAt.bool_list c p2.isList hu⟩
 | int c=>
  obtain⟨rfl,_⟩:=h
  obtain⟨t0,rfl⟩:=r
  cases d' with
  | non=>obtain⟨rfl,_⟩:=g; cases r'; exact⟨SeqAt.RcAt.int_none c t0,SeqAt.EqAt.int_none c t0⟩
  | bl b=>obtain⟨rfl,_⟩:=g; cases r'; exact⟨SeqAt.RcAt.int_bool c t0 b,SeqAt.EqAt.int_bool c t0 b⟩
  | int b=>obtain⟨rfl,_⟩:=g; obtain⟨t,rfl⟩:=r'; exact⟨SeqAt.RcAt.int_int c t0 b t,SeqAt.EqAt.int_int c t0 b t⟩
  | str b=>obtain⟨rfl,_⟩:=g; obtain⟨t,rfl⟩:=r'; exact⟨SeqAt.RcAt.int_str c t0 b t,SeqAt.EqAt.int_str c t0 b t⟩
  | dct _=>exact g.elim
  | tup ys=>
   obtain⟨b,ws,rfl,q',_⟩:=g
   cases r'
   obtain⟨its2,_,p2,_⟩:=I.tuple q'
   exact⟨SeqAt.RcAt.int_tuple c t0 p2 hu,SeqAt.EqAt.int_tuple c t0 p2 hu⟩
  | lst ys=>
   obtain⟨b,ws,F2,rfl,_,q',_⟩:=g.lst_
   cases r'
   obtain⟨its2,_,p2,_⟩:=I.list q'
   exact⟨SeqAt.RcAt.int_list c t0 p2.isList hu,SeqAt.EqAt.int_list c t0 p2.isList hu⟩
 | dct _=>exact h.elim
 | str c=>
  obtain⟨rfl,_⟩:=h
  obtain⟨t0,rfl⟩:=r
  cases d' with
  | non=>obtain⟨rfl,_⟩:=g; cases r'; exact⟨SeqAt.RcAt.str_none c t0,SeqAt.EqAt.str_none c t0⟩
  | bl b=>obtain⟨rfl,_⟩:=g; cases r'; exact⟨SeqAt.RcAt.str_bool c t0 b,SeqAt.EqAt.str_bool c t0 b⟩
  | int b=>obtain⟨rfl,_⟩:=g; obtain⟨t,rfl⟩:=r'; exact⟨SeqAt.RcAt.str_int c t0 b t,SeqAt.EqAt.str_int c t0 b t⟩
  | str b=>obtain⟨rfl,_⟩:=g; obtain⟨t,rfl⟩:=r'; exact⟨SeqAt.RcAt.str_str c t0 b t,SeqAt.EqAt.str_str c t0 b t⟩
  | dct _=>exact g.elim
  | tup ys=>
   obtain⟨b,ws,rfl,q',_⟩:=g
   cases r'
   obtain⟨its2,_,p2,_⟩:=I.tuple q'
   exact⟨SeqAt.RcAt.str_tuple c t0 p2 hu,SeqAt.EqAt.str_tuple c t0 p2 hu⟩
  | lst ys=>
   obtain⟨b,ws,F2,rfl,_,q',_⟩:=g.lst_
   cases r'
   obtain⟨its2,_,p2,_⟩:=I.list q'
   exact⟨SeqAt.RcAt.str_list c t0 p2.isList hu,SeqAt.EqAt.str_list c t0 p2.isList hu⟩
theorem rc_D (I:Inv X pins σ H s):∀ (n:Nat) (A:Around) (d d':D) (v v':V) (F F':List Addr) (u u':Value),A.units+n<cLine->(lo n d||lo n d')=true->Rep X.K H d v F->Rep X.K H d' v' F'->RelV v u->RelV v' u' ->
  SeqAt.RcAt A s u u' (eqD d d')/\SeqAt.EqAt A s u u' (eqD d d'):=by
 intro n
 induction n with
 | zero=>
  intro A d d' v v' F F' u u' hu hl h g r r'
  refine mixed_eq I A d d' v v' F F' u u' (by omega) ?_ h g r r'
  cases d <;> cases d' <;> first | rfl | cases hl
 | succ n ih=>
  intro A d d' v v' F F' u u' hu hl h g r r'
  have items:∀ (xs ys:List D) (vs ws:List V) (G G':List Addr) (its its2:List Value),(xs.all (lo n)||ys.all (lo n))=true->Reps X.K H xs vs G->Reps X.K H ys ws G'->Vals vs its->Vals ws its2 ->
    ∀ j (h1:j<its.toArray.size) (h2:j<its2.toArray.size),SeqAt.EqAt A.in1 s its.toArray[j] its2.toArray[j] (eqD (xs.getD j .non) (ys.getD j .non)):=by
   intro xs ys vs ws G G' its its2 hal hr hg hv hw j h1 h2
   have l1:=hr.length
   have l2:=hg.length
   have l3:=hv.length
   have l4:=hw.length
   have b1:j<xs.length:=by simp at h1; omega
   have b2:j<ys.length:=by simp at h2; omega
   obtain⟨v1,G1,e1,p1,_⟩:=hr.get (List.getElem?_eq_getElem b1)
   obtain⟨v2,G2,e2,p2,_⟩:=hg.get (List.getElem?_eq_getElem b2)
   obtain⟨u1,f1,q1⟩:=hv.get e1
   obtain⟨u2,f2,q2⟩:=hw.get e2
   rw[getD_of (List.getElem?_eq_getElem b1),getD_of (List.getElem?_eq_getElem b2)]
   have a1:its.toArray[j]=u1:=by
    have:its[j]?=some its[j]:=List.getElem?_eq_getElem (by simpa using h1)
    rw[this] at f1
    simpa using f1
   have a2:its2.toArray[j]=u2:=by
    have:its2[j]?=some its2[j]:=List.getElem?_eq_getElem (by simpa using h2)
    rw[this] at f2
    simpa using f2
   rw[a1,a2]
   refine(ih A.in1 _ _ _ _ _ _ _ _ (by show A.units+1+n<cLine; omega) ?_ p1 p2 q1 q2).2
   rw[Bool.or_eq_true] at hal |-
   exact hal.imp (λz=>List.all_eq_true.mp z _ (List.getElem_mem b1)) (λz=>List.all_eq_true.mp z _ (List.getElem_mem b2))
  by_cases hb:bothSeq d d'=false
  ·exact mixed_eq I A d d' v v' F F' u u' (by omega) hb h g r r'
  cases d with
  | tup xs=>
   cases d' with
   | tup ys=>
    have hal:(xs.all (lo n)||ys.all (lo n))=true:=hl
    obtain⟨a,vs,rfl,q,hr⟩:=h
    cases r
    obtain⟨its,rv,p,_⟩:=I.tuple q
    obtain⟨b,ws,rfl,q',hg⟩:=g
    cases r'
    obtain⟨its2,rv2,p2,_⟩:=I.tuple q'
    have e:((List.range (min its.toArray.size its2.toArray.size)).all (λj=>eqD (xs.getD j .non) (ys.getD j .non))&&its.toArray.size==its2.toArray.size)=eqD (.tup xs) (.tup ys):=by
     have l1:=hr.length
     have l2:=hg.length
     have l3:=rv.length
     have l4:=rv2.length
     have e1:its.toArray.size=xs.length:=by simp; omega
     have e2:its2.toArray.size=ys.length:=by simp; omega
     rw[e1,e2,and_len]
     rfl
    have rc:=SeqAt.RcAt.tuples (A:=A) (e:=λj=>eqD (xs.getD j .non) (ys.getD j .non)) p p2 (by omega) (items xs ys vs ws _ _ its its2 hal hr hg rv rv2)
    rw[e] at rc
    refine⟨rc,?_⟩
    by_cases hab:a=b
    ·subst hab
     obtain rfl:=I.tuple_inj q q'
     obtain rfl:=Reps.det I hr hg
     rw[eqD_self]
     exact SeqAt.EqAt.same _
    ·exact SeqAt.EqAt.of_refs hab rc
   | _=>exact absurd rfl hb
  | lst xs=>
   cases d' with
   | lst ys=>
    have hal:(xs.all (lo n)||ys.all (lo n))=true:=hl
    obtain⟨a,vs,F1,rfl,hr,q,_⟩:=h.lst_
    cases r
    obtain⟨its,rv,p,_⟩:=I.list q
    obtain⟨b,ws,F2,rfl,hg,q',_⟩:=g.lst_
    cases r'
    obtain⟨its2,rv2,p2,_⟩:=I.list q'
    have l1:=hr.length
    have l2:=hg.length
    have l3:=rv.length
    have l4:=rv2.length
    have e1:its.toArray.size=xs.length:=by simp; omega
    have e2:its2.toArray.size=ys.length:=by simp; omega
    have rc:SeqAt.RcAt A s (.ref a) (.ref b) (eqD (.lst xs) (.lst ys)):=by
     show SeqAt.RcAt A s (.ref a) (.ref b) (eqDs xs ys)
     by_cases hs:its.toArray.size=its2.toArray.size
     ·have rc:=SeqAt.RcAt.lists (A:=A) (e:=λj=>eqD (xs.getD j .non) (ys.getD j .non)) p.isList p2.isList hs (by omega) (items xs ys vs ws _ _ its its2 hal hr hg rv rv2)
      rw[e1] at rc
      rw[eqDs_range _ _ (by omega)]
      exact rc
     ·rw[eqDs_ne _ _ (by omega)]
      exact SeqAt.RcAt.lists_lengths p.isList p2.isList (by simpa using hs) (by omega)
    refine⟨rc,?_⟩
    by_cases hab:a=b
    ·subst hab
     obtain rfl:=I.list_inj q q'
     obtain rfl:=Reps.det I hr hg
     rw[eqD_self]
     exact SeqAt.EqAt.same _
    ·exact SeqAt.EqAt.of_refs hab rc
   | _=>exact absurd rfl hb
  | _=>cases d' <;> exact absurd rfl hb
theorem mixed_ne (I:Inv X pins σ H s) (A:Around) (d d':D) (v v':V) (F F':List Addr) (u u':Value) (hu:A.units<cLine) (hd:bothSeq d d'=false) (h:Rep X.K H d v F) (g:Rep X.K H d' v' F') (r:RelV v u) (r':RelV v' u') :
  SeqAt.RcNeAt A s u u' (!eqD d d'):=by
 cases d with
 | tup xs=>
  obtain⟨a,vs,rfl,q,_⟩:=h
  cases r
  obtain⟨its,rv,p,_⟩:=I.tuple q
  cases d' with
  | non=>obtain⟨rfl,_⟩:=g; cases r'; exact SeqAt.RcNeAt.tuple_none p hu
  | bl b=>obtain⟨rfl,_⟩:=g; cases r'; exact SeqAt.RcNeAt.tuple_bool b p hu
  | int b=>obtain⟨rfl,_⟩:=g; obtain⟨t,rfl⟩:=r'; exact SeqAt.RcNeAt.tuple_int b t p hu
  | str b=>obtain⟨rfl,_⟩:=g; obtain⟨t,rfl⟩:=r'; exact SeqAt.RcNeAt.tuple_str b t p hu
  | dct _=>exact g.elim
  | lst ys=>
   obtain⟨b,ws,F2,rfl,_,q',_⟩:=g.lst_
   cases r'
   obtain⟨its2,_,p2,_⟩:=I.list q'
   exact SeqAt.RcNeAt.tuple_list p p2.isList hu
  | tup ys=>cases hd
 | lst xs=>
  obtain⟨a,vs,F1,rfl,_,q,_⟩:=h.lst_
  cases r
  obtain⟨its,rv,p,_⟩:=I.list q
  cases d' with
  | non=>obtain⟨rfl,_⟩:=g; cases r'; exact SeqAt.RcNeAt.list_none p.isList hu
  | bl b=>obtain⟨rfl,_⟩:=g; cases r'; exact SeqAt.RcNeAt.list_bool b p.isList hu
  | int b=>obtain⟨rfl,_⟩:=g; obtain⟨t,rfl⟩:=r'; exact SeqAt.RcNeAt.list_int b t p.isList hu
  | str b=>obtain⟨rfl,_⟩:=g; obtain⟨t,rfl⟩:=r'; exact SeqAt.RcNeAt.list_str b t p.isList hu
  | dct _=>exact g.elim
  | tup ys=>
   obtain⟨b,ws,rfl,q',_⟩:=g
   cases r'
   obtain⟨its2,_,p2,_⟩:=I.tuple q'
   exact SeqAt.RcNeAt.list_tuple p.isList p2 hu
  | lst ys=>cases hd
 | non=>
  obtain⟨rfl,_⟩:=h
  cases r
  cases d' with
  | non=>obtain⟨rfl,_⟩:=g; cases r'; exact SeqAt.RcNeAt.none_none
  | bl b=>obtain⟨rfl,_⟩:=g; cases r'; exact SeqAt.RcNeAt.none_bool b
  | int b=>obtain⟨rfl,_⟩:=g; obtain⟨t,rfl⟩:=r'; exact SeqAt.RcNeAt.none_int b t
  | str b=>obtain⟨rfl,_⟩:=g; obtain⟨t,rfl⟩:=r'; exact SeqAt.RcNeAt.none_str b t
  | dct _=>exact g.elim
  | tup ys=>
   obtain⟨b,ws,rfl,q',_⟩:=g
   cases r'
   obtain⟨its2,_,p2,_⟩:=I.tuple q'
   exact SeqAt.RcNeAt.none_tuple p2 hu
  | lst ys=>
   obtain⟨b,ws,F2,rfl,_,q',_⟩:=g.lst_
   cases r'
   obtain⟨its2,_,p2,_⟩:=I.list q'
   exact SeqAt.RcNeAt.none_list p2.isList hu
 | bl c=>
  obtain⟨rfl,_⟩:=h
  cases r
  cases d' with
  | non=>obtain⟨rfl,_⟩:=g; cases r'; exact SeqAt.RcNeAt.bool_none c
  | bl b=>obtain⟨rfl,_⟩:=g; cases r'; exact SeqAt.RcNeAt.bool_bool c b
  | int b=>obtain⟨rfl,_⟩:=g; obtain⟨t,rfl⟩:=r'; exact SeqAt.RcNeAt.bool_int c b t
  | str b=>obtain⟨rfl,_⟩:=g; obtain⟨t,rfl⟩:=r'; exact SeqAt.RcNeAt.bool_str c b t
  | dct _=>exact g.elim
  | tup ys=>
   obtain⟨b,ws,rfl,q',_⟩:=g
   cases r'
   obtain⟨its2,_,p2,_⟩:=I.tuple q'
   exact SeqAt.RcNeAt.bool_tuple c p2 hu
  | lst ys=>
   obtain⟨b,ws,F2,rfl,_,q',_⟩:=g.lst_
   cases r'
   obtain⟨its2,_,p2,_⟩:=I.list q'
   exact SeqAt.RcNeAt.bool_list c p2.isList hu
 | int c=>
  obtain⟨rfl,_⟩:=h
  obtain⟨t0,rfl⟩:=r
  cases d' with
  | non=>obtain⟨rfl,_⟩:=g; cases r'; exact SeqAt.RcNeAt.int_none c t0
  | bl b=>obtain⟨rfl,_⟩:=g; cases r'; exact SeqAt.RcNeAt.int_bool c t0 b
  | int b=>obtain⟨rfl,_⟩:=g; obtain⟨t,rfl⟩:=r'; exact SeqAt.RcNeAt.int_int c t0 b t
  | str b=>obtain⟨rfl,_⟩:=g; obtain⟨t,rfl⟩:=r'; exact SeqAt.RcNeAt.int_str c t0 b t
  | dct _=>exact g.elim
  | tup ys=>
   obtain⟨b,ws,rfl,q',_⟩:=g
   cases r'
   obtain⟨its2,_,p2,_⟩:=I.tuple q'
   exact SeqAt.RcNeAt.int_tuple c t0 p2 hu
  | lst ys=>
   obtain⟨b,ws,F2,rfl,_,q',_⟩:=g.lst_
   cases r'
   obtain⟨its2,_,p2,_⟩:=I.list q'
   exact SeqAt.RcNeAt.int_list c t0 p2.isList hu
 | dct _=>exact h.elim
 | str c=>
  obtain⟨rfl,_⟩:=h
  obtain⟨t0,rfl⟩:=r
  cases d' with
  | non=>obtain⟨rfl,_⟩:=g; cases r'; exact SeqAt.RcNeAt.str_none c t0
  | bl b=>obtain⟨rfl,_⟩:=g; cases r'; exact SeqAt.RcNeAt.str_bool c t0 b
  | int b=>obtain⟨rfl,_⟩:=g; obtain⟨t,rfl⟩:=r'; exact SeqAt.RcNeAt.str_int c t0 b t
  | str b=>obtain⟨rfl,_⟩:=g; obtain⟨t,rfl⟩:=r'; exact SeqAt.RcNeAt.str_str c t0 b t
  | dct _=>exact g.elim
  | tup ys=>
   obtain⟨b,ws,rfl,q',_⟩:=g
   cases r'
   obtain⟨its2,_,p2,_⟩:=I.tuple q'
   exact SeqAt.RcNeAt.str_tuple c t0 p2 hu
  | lst ys=>
   obtain⟨b,ws,F2,rfl,_,q',_⟩:=g.lst_
   cases r'
   obtain⟨its2,_,p2,_⟩:=I.list q'
   exact SeqAt.RcNeAt.str_list c t0 p2.isList hu
theorem ne_D (I:Inv X pins σ H s) (A:Around) (d d':D) (v v':V) (F F':List Addr) (u u':Value) (hu:A.units+12<cLine) (hl:lo 9 d=true) (h:Rep X.K H d v F) (g:Rep X.K H d' v' F') (r:RelV v u) (r':RelV v' u'):SeqAt.RcNeAt A s u u' (!eqD d d'):=by
 by_cases hb:bothSeq d d'=false
 ·exact mixed_ne I A d d' v v' F F' u u' (by omega) hb h g r r'
 have items:∀ (xs ys:List D) (vs ws:List V) (G G':List Addr) (its its2:List Value),xs.all (lo 8)=true->Reps X.K H xs vs G->Reps X.K H ys ws G'->Vals vs its->Vals ws its2 ->
   ∀ j (h1:j<its.toArray.size) (h2:j<its2.toArray.size),SeqAt.EqAt A.in1 s its.toArray[j] its2.toArray[j] (eqD (xs.getD j .non) (ys.getD j .non)):=by
  intro xs ys vs ws G G' its its2 hal hr hg hv hw j h1 h2
  have l1:=hr.length
  have l2:=hg.length
  have l3:=hv.length
  have l4:=hw.length
  have b1:j<xs.length:=by simp at h1; omega
  have b2:j<ys.length:=by simp at h2; omega
  obtain⟨v1,G1,e1,p1,_⟩:=hr.get (List.getElem?_eq_getElem b1)
  obtain⟨v2,G2,e2,p2,_⟩:=hg.get (List.getElem?_eq_getElem b2)
  obtain⟨u1,f1,q1⟩:=hv.get e1
  obtain⟨u2,f2,q2⟩:=hw.get e2
  rw[getD_of (List.getElem?_eq_getElem b1),getD_of (List.getElem?_eq_getElem b2)]
  have a1:its.toArray[j]=u1:=by
   have:its[j]?=some its[j]:=List.getElem?_eq_getElem (by simpa using h1)
   rw[this] at f1
   simpa using f1
  have a2:its2.toArray[j]=u2:=by
   have:its2[j]?=some its2[j]:=List.getElem?_eq_getElem (by simpa using h2)
   rw[this] at f2
   simpa using f2
  rw[a1,a2]
  refine(rc_D I 8 A.in1 _ _ _ _ _ _ _ _ (by show A.units+1+8<cLine; omega) ?_ p1 p2 q1 q2).2
  rw[Bool.or_eq_true]
  exact .inl (List.all_eq_true.mp hal _ (List.getElem_mem b1))
 cases d with
 | tup xs=>
  cases d' with
  | tup ys=>
   obtain⟨a,vs,rfl,q,rr⟩:=h
   obtain⟨b,ws,rfl,q',rr'⟩:=g
   cases r
   cases r'
   obtain⟨its,rv,p,_⟩:=I.tuple q
   obtain⟨its2,rv2,p2,_⟩:=I.tuple q'
   have:=SeqAt.RcNeAt.tuples p p2 (by omega) (items xs ys vs ws _ _ its its2 hl rr rr' rv rv2)
   have l1:=rr.length
   have l2:=rr'.length
   have l3:=rv.length
   have l4:=rv2.length
   have e:=and_len xs ys
   simp only[List.size_toArray,<- l3,<- l4,<- l1,<- l2] at this
   rw[e] at this
   exact this
  | _=>exact absurd rfl hb
 | lst xs=>
  cases d' with
  | lst ys=>
   obtain⟨a,vs,F1,rfl,rr,q,_⟩:=h.lst_
   obtain⟨b,ws,F2,rfl,rr',q',_⟩:=g.lst_
   cases r
   cases r'
   obtain⟨its,rv,p,_⟩:=I.list q
   obtain⟨its2,rv2,p2,_⟩:=I.list q'
   have l1:=rr.length
   have l2:=rr'.length
   have l3:=rv.length
   have l4:=rv2.length
   by_cases hz:xs.length=ys.length
   ·have:=SeqAt.RcNeAt.lists p.isList p2.isList (by simp; omega) (by omega) (items xs ys vs ws _ _ its its2 hl rr rr' rv rv2)
    simp only[List.size_toArray,<- l3,<- l1] at this
    rw[<- eqDs_range _ _ hz] at this
    exact this
   ·have:=SeqAt.RcNeAt.lists_lengths (A:=A) p.isList p2.isList (by simp; omega) (by omega)
    have e:eqD (.lst xs) (.lst ys)=false:=eqDs_ne _ _ hz
    rw[e]
    exact this
  | _=>exact absurd rfl hb
 | _=>exact absurd (by cases d' <;> rfl) hb
end
theorem line_le:line<=sizeLine:=by rw[sizeLine_eq,line_eq]; decide
theorem fits_le {n:Nat} (h:fits n=true):n<=sizeLine:=Nat.le_trans (of_decide_eq_true h) line_le
def rO (K:Frag) (o:Op):R2:=λx y H Q=>∃ d1 d2 F1 F2 d,Rep K H d1 x F1/\Rep K H d2 y F2/\op2 o d1 d2=.ok d /\
 ∀ v H' F,Same H H'->Rep K H' d v F->(∀ a ∈ F,H a=none\/a ∈ F1\/a ∈ F2)->((o=.add\/o=.mul)->∀ ds,d=.lst ds->∃ a F',F=a::F'/\H a=none)->Q v H'
section
variable {X:Cx}
theorem rep_int {K:Frag} {H:Hp} {i:Int}:Rep K H (.int i) (.int i) []:=⟨rfl,rfl⟩
theorem rep_bl {K:Frag} {H:Hp} {i:Bool}:Rep K H (.bl i) (.bl i) []:=⟨rfl,rfl⟩
theorem cat_lists {pins:List (Addr × Obj)} {σ:L2.St} {H:Hp} {s:Shared} {l b:Addr} {xs ys:List V} {Q:VK} {E:Value->Shared->Prop} (I:Inv X pins σ H s) (hl:SqL X.K H l xs) (hb:SqL X.K H b ys) (hz:xs.length+ys.length<=sizeLine)
  (q:∀ p,H p=none->Q (.ref p) (upd H p (.lst (xs++ys)))):wpAny (model X.prog X.w) X.A (binaryOp .Add (.ref l) (.ref b)) (EP X pins σ Q) E s:=by
 obtain⟨its,r,p,_⟩:=I.list hl
 obtain⟨its2,r2,p2,_⟩:=I.list hb
 have l1:=r.length
 have l2:=r2.length
 obtain⟨⟨cls,dd,data,sl⟩,ho,hc,n,hd⟩:=p.isList
 obtain⟨⟨cls2,dd2,data2,sl2⟩,ho2,hc2,n2,hd2⟩:=p2.isList
 simp only at hc hd hc2 hd2
 subst hc hd hc2 hd2
 have e:its.toArray++its2.toArray=(its++its2).toArray:=by simp
 refine concat_meets ⟨_,ho,rfl⟩ ⟨_,ho2,rfl⟩ noFill_list_add seq_list_add PySem.F.slot_list_add PySem.F.entry_list_add (PySem.F.args_list_add_2 _ _)
  (list_addW l b its.toArray its2.toArray n n2 dd dd2 sl sl2 (by rw[List.size_toArray,List.size_toArray]; omega)) ⟨ho,ho2,?_⟩
 rw[e]
 exact⟨.ref _,_,I.lnew (t':=s.toks) (r.append r2) (by rw[List.length_append]; omega),rfl,q _ I.fresh⟩
theorem cat_tups {pins:List (Addr × Obj)} {σ:L2.St} {H:Hp} {s:Shared} {l b:Addr} {xs ys:List V} {Q:VK} {E:Value->Shared->Prop} (I:Inv X pins σ H s) (hl:SqT X.K H l xs) (hb:SqT X.K H b ys) (hz:xs.length+ys.length<=sizeLine)
  (q0:xs=[]->Q (.ref b) H) (q1:ys=[]->Q (.ref l) H) (q:∀ p,H p=none->Q (.ref p) (upd H p (.tup (xs++ys)))):wpAny (model X.prog X.w) X.A (binaryOp .Add (.ref l) (.ref b)) (EP X pins σ Q) E s:=by
 obtain⟨its,r,p,_⟩:=I.tuple hl
 obtain⟨its2,r2,p2,_⟩:=I.tuple hb
 have l1:=r.length
 have l2:=r2.length
 obtain⟨⟨cls,dd,data,sl⟩,ho,hc,n,hd⟩:=id p
 obtain⟨⟨cls2,dd2,data2,sl2⟩,ho2,hc2,n2,hd2⟩:=id p2
 simp only at hc hd hc2 hd2
 subst hc hd hc2 hd2
 have e:its.toArray++its2.toArray=(its++its2).toArray:=by simp
 by_cases h1:xs=[]
 ·have:its=[]:=List.eq_nil_of_length_eq_zero (by rw[<- l1,h1]; rfl)
  exact concat_meets ⟨_,ho,rfl⟩ ⟨_,ho2,rfl⟩ noFill_tuple_add seq_tuple_add PySem.F.slot_tuple_add PySem.F.entry_tuple_add (PySem.F.args_tuple_add_2 _ _)
   (tuple_addW0 l b its.toArray its2.toArray n n2 dd dd2 sl sl2 (by simp[this])) ⟨ho,ho2,⟨.ref b,H,I,rfl,q0 h1⟩⟩
 ·have h1':its ≠ []:=λz=>h1 (List.eq_nil_of_length_eq_zero (by rw[l1,z]; rfl))
  by_cases h2:ys=[]
  ·have:its2=[]:=List.eq_nil_of_length_eq_zero (by rw[<- l2,h2]; rfl)
   exact concat_meets ⟨_,ho,rfl⟩ ⟨_,ho2,rfl⟩ noFill_tuple_add seq_tuple_add PySem.F.slot_tuple_add PySem.F.entry_tuple_add (PySem.F.args_tuple_add_2 _ _)
    (tuple_addW1 l b its.toArray its2.toArray n n2 dd dd2 sl sl2 (by simpa using h1') (by simp[this])) ⟨ho,ho2,⟨.ref l,H,I,rfl,q1 h2⟩⟩
  ·have h2':its2 ≠ []:=λz=>h2 (List.eq_nil_of_length_eq_zero (by rw[l2,z]; rfl))
   refine concat_meets ⟨_,ho,rfl⟩ ⟨_,ho2,rfl⟩ noFill_tuple_add seq_tuple_add PySem.F.slot_tuple_add PySem.F.entry_tuple_add (PySem.F.args_tuple_add_2 _ _)
    (tuple_addW2 l b its.toArray its2.toArray n n2 dd dd2 sl sl2 (by simpa using h1') (by simpa using h2') (by rw[List.size_toArray,List.size_toArray]; omega)) ⟨ho,ho2,?_⟩
   rw[e]
   refine⟨.ref _,_,I.laid (t':=s.toks) (λb u e=>Heap.get?_push_of_some _ e) (Nat.le_refl _) ?_,rfl,q _ I.fresh⟩
   exact⟨by rw[List.length_append]; omega,⟨_,r.append r2,IsTup.new _ _⟩,λo q=>by rw[Heap.get?_push_size _ rfl] at q; cases q; rfl⟩
theorem o_add:OpR X (binaryOp .Add) (rO X.K .add):=by
 intro pins s σ H x y v u Q I rx ry h
 obtain⟨d1,d2,F1,F2,d,h1,h2,e,k⟩:=h
 cases d1 with
 | int a=>
  cases d2 with
  | int b=>
   cases e
   obtain⟨rfl,rfl⟩:=h1
   obtain⟨rfl,rfl⟩:=h2
   exact op_add pins s σ H _ _ v u Q I rx ry ⟨a,b,rfl,rfl,k _ _ _ (Same.refl _) rep_int (λ_ z=>nomatch z) (λ_ ds z=>by cases z)⟩
  | _=>cases e
 | lst a=>
  cases d2 with
  | lst b=>
   have e':(if fits (a.length+b.length) then R.ok (D.lst (a++b)) else .un)=.ok d:=e
   split at e'
   ·rename_i hf
    cases e'
    obtain⟨l,vs,G1,rfl,r1,q1,s1⟩:=h1.lst_
    obtain⟨m,ws,G2,rfl,r2,q2,s2⟩:=h2.lst_
    cases rx
    cases ry
    have l1:=r1.length
    have l2:=r2.length
    have hz:=fits_le hf
    refine cat_lists I q1 q2 (by omega) λp hp=>k _ _ _ (same_upd hp) (Rep.new_lst hp (r1.append r2)) (λc hc=>?_) (λ_ ds _=>⟨_,_,rfl,hp⟩)
    rcases List.mem_cons.mp hc with rfl | hc
    ·exact .inl hp
    ·exact .inr ((List.mem_append.mp hc).imp (s1 c) (s2 c))
   ·cases e'
  | _=>cases e
 | tup a=>
  cases d2 with
  | tup b=>
   have e':(if fits (a.length+b.length) then R.ok (D.tup (a++b)) else .un)=.ok d:=e
   split at e'
   ·rename_i hf
    cases e'
    obtain⟨l,vs,rfl,q1,r1⟩:=id h1
    obtain⟨m,ws,rfl,q2,r2⟩:=id h2
    cases rx
    cases ry
    have l1:=r1.length
    have l2:=r2.length
    have hz:=fits_le hf
    refine cat_tups I q1 q2 (by omega) (λz=>?_) (λz=>?_) λp hp=>k _ _ _ (same_upd hp) (Rep.new_tup hp (r1.append r2)) (λc hc=>.inr (List.mem_append.mp hc)) (λ_ ds z=>by cases z)
    ·subst z
     have:a=[]:=List.eq_nil_of_length_eq_zero (by rw[l1]; rfl)
     subst this
     exact k _ _ _ (Same.refl _) h2 (λc hc=>.inr (.inr hc)) (λ_ ds z=>by cases z)
    ·subst z
     have:b=[]:=List.eq_nil_of_length_eq_zero (by rw[l2]; rfl)
     subst this
     rw[List.append_nil] at k
     exact k _ _ _ (Same.refl _) h1 (λc hc=>.inr (.inl hc)) (λ_ ds z=>by cases z)
   ·cases e'
  | _=>cases e
 | _=>cases d2 <;> cases e
theorem o_sub:OpR X (binaryOp .Sub) (rO X.K .sub):=by
 intro pins s σ H x y v u Q I rx ry h
 obtain⟨d1,d2,F1,F2,d,h1,h2,e,k⟩:=h
 cases d1 with
 | int a=>
  cases d2 with
  | int b=>
   cases e
   obtain⟨rfl,rfl⟩:=h1
   obtain⟨rfl,rfl⟩:=h2
   exact op_sub pins s σ H _ _ v u Q I rx ry ⟨a,b,rfl,rfl,k _ _ _ (Same.refl _) rep_int (λ_ z=>nomatch z) (λ_ ds z=>by cases z)⟩
  | _=>cases e
 | _=>cases d2 <;> cases e
theorem small_iff {a:Int} (h:small a=true) : -(2 ^ 64)<a/\a<2 ^ 64:=by
 unfold small at h
 rw[big_eq] at h
 rw[Bool.and_eq_true] at h
 exact⟨of_decide_eq_true h.1,of_decide_eq_true h.2⟩
theorem o_mul:OpR X (binaryOp .Mult) (rO X.K .mul):=by
 intro pins s σ H x y v u Q I rx ry h
 obtain⟨d1,d2,F1,F2,d,h1,h2,e,k⟩:=h
 cases d1 with
 | int a=>
  cases d2 with
  | int b=>
   have e':(if small a||small b then R.ok (D.int (a*b)) else .un)=.ok d:=e
   split at e'
   ·rename_i hs
    cases e'
    obtain⟨rfl,rfl⟩:=h1
    obtain⟨rfl,rfl⟩:=h2
    refine op_mul pins s σ H _ _ v u Q I rx ry ⟨a,b,rfl,rfl,?_,k _ _ _ (Same.refl _) rep_int (λ_ z=>nomatch z) (λ_ ds z=>by cases z)⟩
    rcases Bool.or_eq_true _ _ ▸ hs with z | z
    ·exact .inl (small_iff z)
    ·exact .inr (small_iff z)
   ·cases e'
  | _=>cases e
 | str a=>
  cases d2 with
  | int n=>
   have e':(if decide (1<=a.length)&&decide (1<=n)&&fits (a.length*n.toNat) then R.ok (D.str (repT n.toNat a)) else .un)=.ok d:=e
   split at e'
   ·rename_i hf
    cases e'
    simp only[Bool.and_eq_true] at hf
    obtain⟨⟨f1,f2⟩,f3⟩:=hf
    obtain⟨rfl,rfl⟩:=h1
    obtain⟨rfl,rfl⟩:=h2
    obtain⟨t,rfl⟩:=rx
    obtain⟨t',rfl⟩:=ry
    exact op_smul I (of_decide_eq_true f1) (of_decide_eq_true f2) (fits_le f3) (k _ _ _ (Same.refl _) ⟨rfl,rfl⟩ (λ_ z=>nomatch z) (λ_ ds z=>by cases z))
   ·cases e'
  | _=>cases e
 | _=>cases d2 <;> cases e
theorem o_mod:OpR X (binaryOp .Mod) (rO X.K .mod):=by
 intro pins s σ H x y v u Q I rx ry h
 obtain⟨d1,d2,F1,F2,d,h1,h2,e,k⟩:=h
 cases d1 with
 | int a=>
  cases d2 with
  | int b=>
   have e':(if 0<b then R.ok (D.int (a % b)) else .un)=.ok d:=e
   split at e'
   ·rename_i hs
    cases e'
    obtain⟨rfl,rfl⟩:=h1
    obtain⟨rfl,rfl⟩:=h2
    exact op_mod pins s σ H _ _ v u Q I rx ry ⟨a,b,rfl,rfl,hs,k _ _ _ (Same.refl _) rep_int (λ_ z=>nomatch z) (λ_ ds z=>by cases z)⟩
   ·cases e'
  | _=>cases e
 | _=>cases d2 <;> cases e
theorem o_eq (hu:X.A.units+20<cLine):OpR X (compareOp .Eq) (rO X.K .eq):=by
 intro pins s σ H x y v u Q I rx ry h
 obtain⟨d1,d2,F1,F2,d,h1,h2,e,k⟩:=h
 have e':(if lo 9 d1 then R.ok (D.bl (eqD d1 d2)) else .un)=.ok d:=by
  cases d1 <;> cases d2 <;> exact e
 split at e'
 ·rename_i hl
  cases e'
  refine(rc_D I 9 X.A d1 d2 x y F1 F2 v u (by omega) (by rw[hl]; rfl) h1 h2 rx ry).1 X.prog X.w X.xe _ ⟨.bl _,H,I,rfl,?_⟩
  exact k _ _ _ (Same.refl _) rep_bl (λ_ z=>nomatch z) (λ_ ds z=>by cases z)
 ·cases e'
theorem o_ne (hu:X.A.units+20<cLine):OpR X (compareOp .NotEq) (rO X.K .ne):=by
 intro pins s σ H x y v u Q I rx ry h
 obtain⟨d1,d2,F1,F2,d,h1,h2,e,k⟩:=h
 have e':(if lo 9 d1 then R.ok (D.bl (!eqD d1 d2)) else .un)=.ok d:=by
  cases d1 <;> cases d2 <;> exact e
 split at e'
 ·rename_i hl
  cases e'
  refine ne_D I X.A d1 d2 x y F1 F2 v u (by omega) hl h1 h2 rx ry X.prog X.w X.xe _ ⟨.bl _,H,I,rfl,?_⟩
  exact k _ _ _ (Same.refl _) rep_bl (λ_ z=>nomatch z) (λ_ ds z=>by cases z)
 ·cases e'
theorem o_int {o:Op} {c:CmpOp} {p:Int->Int->Bool} (ho:OpR X (compareOp c) (rI0 λi j=>.bl (p i j))) (h0:∀ a b,op2 o (.int a) (.int b)=.ok (.bl (p a b))) (h1:∀ d1 d2 d,op2 o d1 d2=.ok d->∃ a b,d1=.int a/\d2=.int b)
  (hn:¬ (o=.add\/o=.mul)):OpR X (compareOp c) (rO X.K o):=by
 intro pins s σ H x y v u Q I rx ry h
 obtain⟨d1,d2,F1,F2,d,h1',h2,e,k⟩:=h
 obtain⟨a,b,rfl,rfl⟩:=h1 _ _ _ e
 rw[h0] at e
 cases e
 obtain⟨rfl,rfl⟩:=h1'
 obtain⟨rfl,rfl⟩:=h2
 exact ho pins s σ H _ _ v u Q I rx ry ⟨a,b,rfl,rfl,k _ _ _ (Same.refl _) rep_bl (λ_ z=>nomatch z) (λz=>absurd z hn)⟩
theorem o_lt:OpR X (compareOp .Lt) (rO X.K .lt):=o_int op_lt (λ_ _=>rfl) (λd1 d2 d e=>by cases d1 <;> cases d2 <;> first | exact⟨_,_,rfl,rfl⟩ | cases e) (by decide)
theorem o_le:OpR X (compareOp .LtE) (rO X.K .le):=o_int op_le (λ_ _=>rfl) (λd1 d2 d e=>by cases d1 <;> cases d2 <;> first | exact⟨_,_,rfl,rfl⟩ | cases e) (by decide)
theorem o_gt:OpR X (compareOp .Gt) (rO X.K .gt):=o_int op_gt (λ_ _=>rfl) (λd1 d2 d e=>by cases d1 <;> cases d2 <;> first | exact⟨_,_,rfl,rfl⟩ | cases e) (by decide)
theorem o_ge:OpR X (compareOp .GtE) (rO X.K .ge):=o_int op_ge (λ_ _=>rfl) (λd1 d2 d e=>by cases d1 <;> cases d2 <;> first | exact⟨_,_,rfl,rfl⟩ | cases e) (by decide)
def hitV (K:Frag) (H:Hp) (x:D) (u:Value):Bool:=@decide (∃ v d F,RelV v u/\Rep K H d v F/\eqD d x=true) (Classical.propDecidable _)
theorem hitV_of {pins:List (Addr × Obj)} {σ:L2.St} {H:Hp} {s:Shared} (I:Inv X pins σ H s) {x d:D} {v:V} {F:List Addr} {u:Value} (r:RelV v u) (h:Rep X.K H d v F):hitV X.K H x u=eqD d x:=by
 unfold hitV
 cases e:eqD d x with
 | true=>exact @decide_eq_true _ (Classical.propDecidable _) ⟨v,d,F,r,h,e⟩
 | false=>
  refine @decide_eq_false _ (Classical.propDecidable _) ?_
  rintro ⟨v',d',F',r',h',e'⟩
  obtain rfl:=r.inj r'
  obtain rfl:=Rep.det I h h'
  rw[e] at e'
  cases e'
theorem hit_any {pins:List (Addr × Obj)} {σ:L2.St} {H:Hp} {s:Shared} (I:Inv X pins σ H s) {x:D}:∀ {ds:List D} {vs:List V} {F:List Addr} {us:List Value},Reps X.K H ds vs F->Vals vs us->us.any (hitV X.K H x)=inD x ds
 | [],_,_,_,h,.nil=>rfl
 | [],_,_,_,h,.cons _ _=>by obtain⟨z,_⟩:=h; cases z
 | d::ds,_,_,_,h,.nil=>by obtain⟨_,_,_,_,z,_⟩:=h; cases z
 | d::ds,_,_,_,h,.cons r t=>by
  obtain⟨v,w,F1,F2,z,_,h1,h2⟩:=h
  cases z
  rw[List.any_cons,hitV_of I r h1,hit_any I h2 t]
  rfl
theorem hit_at {pins:List (Addr × Obj)} {σ:L2.St} {H:Hp} {s:Shared} (I:Inv X pins σ H s) {x:D} {y:V} {G:List Addr} {u:Value} (A:Around) (hu:A.units+20<cLine) (hx:lo 9 x=true) (hy:Rep X.K H x y G) (ru:RelV y u) :
  ∀ {ds:List D} {vs:List V} {F:List Addr} {us:List Value},Reps X.K H ds vs F->Vals vs us->∀ w ∈ us,SeqAt.EqAt A s w u (hitV X.K H x w)
 | [],_,_,_,h,.nil,w,hw=>nomatch hw
 | [],_,_,_,h,.cons _ _,w,hw=>by obtain⟨z,_⟩:=h; cases z
 | d::ds,_,_,_,h,.nil,w,hw=>nomatch hw
 | d::ds,_,_,_,h,.cons r t,w,hw=>by
  obtain⟨v,ws,F1,F2,z,_,h1,h2⟩:=h
  cases z
  rcases List.mem_cons.mp hw with rfl | hw
  ·rw[hitV_of I r h1]
   exact(rc_D I 9 A d x _ y F1 G _ u (by omega) (by rw[hx,Bool.or_true]) h1 hy r ru).2
  ·exact hit_at I A hu hx hy ru h2 t w hw
end
def ShP (k:Nat) (B:Hp) (d:D) (F:List Addr):Prop:=
 if k=1 then ∀ ds,d=.lst ds->∃ a F',F=a::F'/\B a=none
 else True
theorem ShP.mono {k:Nat} {B B':Hp} {d:D} {F:List Addr} (s:Same B B') (h:ShP k B' d F):ShP k B d F:=by
 unfold ShP at h |-
 split
 ·rename_i e
  rw[if_pos e] at h
  intro ds z
  obtain⟨a,F',h1,h2⟩:=h ds z
  exact⟨a,F',h1,s.free h2⟩
 ·rename_i e
  rw[if_neg e] at h
  all_goals trivial
theorem ShP.non {k:Nat} {B:Hp} {F:List Addr}:ShP k B .non F:=by
 unfold ShP
 by_cases h:k=1
 ·rw[if_pos h]; intro ds z; cases z
 ·rw[if_neg h]
  all_goals trivial
def XD (K:Frag) (H:Hp) (d:Option D) (dx:Option Addr):Prop:=match d with
 | none=>dx=none
 | some d=>∃ x u,dx=some x/\H x=some (.xd [("at",u)])/\Rep K H d u []
theorem XD.same {K:Frag} {H H':Hp} {d:Option D} {dx:Option Addr} (h:XD K H d dx) (s:Same H H'):XD K H' d dx:=by
 cases d with
 | none=>exact h
 | some d=>
  obtain⟨x,u,e1,e2,e3⟩:=h
  exact⟨x,u,e1,s _ _ e2,e3.same s⟩
theorem XD.xd {K:Frag} {H:Hp} {d:Option D} {dx:Option Addr} (h:XD K H d dx):∀ x,dx=some x->∃ fs,H x=some (.xd fs):=λx e=>by
 cases d with
 | none=>
  have h':dx=none:=h
  rw[h'] at e
  cases e
 | some d=>
  obtain⟨y,u,e1,e2,e3⟩:=h
  rw[e1] at e
  cases e
  exact⟨_,e2⟩
def spF (mg:Str->Option Value) (tb:Hp->Prop) (fr:Nat->Bool) (K:Frag) (C:Str->List D->R D) (f:Str):Sp:=λvs H Q E=>tb H/\((∃ ds F d,RepsS K H ds vs F/\C f ds=.ok d /\
 ∀ v H' G,Same H H'->Rep K H' d v G->(∀ a ∈ G,H a=none\/a ∈ F)->(∀ k,fr k=true->ShP k H d G)->Q v H') \/
 ∃ ds F c dd,RepsS K H ds vs F/\C f ds=.xn c dd/\∀ v dx H',mg c=some v->Same H H'->XD K H' dd dx->E v dx H')
structure XCok (K:Frag) (mg:Str->Option Value) (base:Heap) (c:Str):Prop where
 ex:∃ C CF,mg c=some (.ref C)/\mg "FairError" = some (.ref CF)/\((c ≠ "BadFair" -> OwnCls c C veM "ValueError.__new__" mg base)/\(c = "BadFair" -> OwnI c C K mg base/\PySem.W.exmOne K (.ref C) (.ref C)=some true))/\PySem.W.exmOne K (.ref C) (.ref CF)=some true/\PySem.W.subIn K (.ref C) (.type "ValueError")=some true/\mg "ValueError" = none/\ClX K C/\∀ k ∈ xkin,∃ Ck,mg k=some (.ref Ck)/\PySem.W.kitOne K (.ref C) (.ref Ck)=some (k==c)
def EW (K:Frag) (mg:Str->Option Value) (W:Xl->Hp->Prop):XK:=λv dx H'=>∃ l:Xl,mg l.1=some v/\XD K H' l.2 dx/\W l H'
def blts:List Str:=["len","tuple","list","sorted","int","max","any","all","isinstance","range","enumerate","bool","str","reversed","zip","set"]
def Tb (T:Tab) (K:Frag) (mg:Str->Option Value) (H:Hp):Prop:=∀ f fn a oc od fd sl c P,T.lookup f=some fn->hasKs fn.body=true->mg f=some (.ref a)->K.lookup a=some ⟨oc,od,.func fd,sl⟩->fd.code=.ref c->PySem.W.codeHdIn K c P=true ->
 ∃ more,H P=some (.tbl (#[.str ((f++(".<locals>." : Str))++("<lambda>" : Str)) 0]++more))
theorem Tb.same {T:Tab} {K:Frag} {mg:Str->Option Value} {H H':Hp} (h:Tb T K mg H) (s:Same H H'):Tb T K mg H':=λf fn a oc od fd sl c P e1 e2 e3 e4 e5 e6=>by
 obtain⟨m,z⟩:=h f fn a oc od fd sl c P e1 e2 e3 e4 e5 e6
 exact⟨m,s _ _ z⟩
structure CstOk (K:Frag) (mg:Str->Option Value) (x:Str) (d:D):Prop where
 ex:∃ u v,mg x=some u/\RelV v u/\∀ H,Rep K H d v []
structure Md (T:Tab) (n:Nat) (X:Cx):Prop where
 calm:X.calm=true
 nd:X.N.Nodup
 room:Room (2*n+4) X.A
 fn:∀ f fn,T.lookup f=some fn->∃ a fd ps,X.mg f=some (.ref a)/\PySem.W.keepIn X.K (.ref a)=true/\Binds X.K fd ps []/\FnOk X.prog X.w X.K X.mg X.base (CXx X.prog X.w) (2*n+4) a fd ps (spF X.mg (Tb T X.K X.mg) (allFs fn.body) X.K (run T n) f)
 tb:Tb T X.K X.mg X.H₀
 blt:∀ x ∈ blts,X.mg x=none
 xc:∀ c ∈ xnT T,XCok X.K X.mg X.base c
 cs:∀ p ∈ csts,CstOk X.K X.mg p.1 p.2
theorem Md.tbI {T:Tab} {n:Nat} {X:Cx} (M:Md T n X) {pins:List (Addr × Obj)} {σ:L2.St} {H:Hp} {s:Shared} (I:Inv X pins σ H s):Tb T X.K X.mg H:=λf fn a oc od fd sl c P e1 e2 e3 e4 e5 e6=>by
 obtain⟨m,z⟩:=M.tb f fn a oc od fd sl c P e1 e2 e3 e4 e5 e6
 obtain⟨m',z'⟩:=I.base.tbls _ _ z
 exact⟨m++m',by rw[z',Array.append_assoc]⟩
theorem Md.hu {T:Tab} {n:Nat} {X:Cx} (M:Md T n X):X.A.units+40<cLine:=by have:=M.room.units; omega
section
variable {X:Cx}
theorem pm {e:Expr} {t t':TE} (h:PE X e t) (k:∀ σ H Q,t' σ H Q->t σ H Q):PE X e t':=λpins s σ H Q I q=>h pins s σ H Q I (k σ H Q q)
theorem pmI {e:Expr} {t t':TE} (h:PE X e t) (k:∀ pins s σ H Q,Inv X pins σ H s->t' σ H Q->t σ H Q):PE X e t':=λpins s σ H Q I q=>h pins s σ H Q I (k pins s σ H Q I q)
theorem tm {e:Expr} {t t':TT} (h:PT X e t) (k:∀ σ H Q,t' σ H Q->t σ H Q):PT X e t':=λpins s σ H Q I q=>h pins s σ H Q I (k σ H Q q)
theorem wm {e:Expr} {t t':TT} (h:PW X e t) (k:∀ σ H Q,t' σ H Q->t σ H Q):PW X e t':=λw pins s σ H Q I q=>h w pins s σ H Q I (k σ H Q q)
theorem am {e:List Expr} {t t':TA} (h:PA X e t) (k:∀ σ H Q,t' σ H Q->t σ H Q):PA X e t':=λpos pins s σ H Q I q=>h pos pins s σ H Q I (k σ H Q q)
variable {C:Str->List D->R D} {i:Nat} {x:Str} {pos:Pos} {e a b c:Expr} {p q r:Ex}
theorem s_var (h:isE (.var i) X.env.scope X.N e=true):PE X e (tE X.K C (.var i)):=by
 unfold isE at h
 split at h
 ·rename_i y p
  simp only[Bool.and_eq_true,beq_iff_eq] at h
  obtain⟨⟨⟨h1,h2⟩,h3⟩,h4⟩:=h
  refine pm (pe_var h1 ?_ h3 h4) λσ H Q h=>?_
  ·unfold visB at h2
   split at h2
   ·rename_i z; exact .inl z
   ·rename_i z; exact .inr (.inl z)
   ·rename_i z; exact .inr (.inr z)
   ·cases h2
  ·obtain⟨ρ,Fs,d,S,he,k⟩:=h
   rw[ev_var] at he
   split at he
   ·rename_i d' o e'
    split at he
    ·cases he
    rename_i hd
    cases he
    obtain⟨v,hv,r⟩:=S.val i _ o e'
    exact⟨v,hv,k v H (Fs i) (Same.refl _) (r.rep (by simpa using hd)) (λa ha=>.inr ⟨i,by simp[vars],⟨_,_,e'⟩,ha⟩) (λz=>by cases z)⟩
   ·cases he
 ·cases h
theorem s_int {n:Int} (h:isE (.int n) X.env.scope X.N e=true):PE X e (tE X.K C (.int n)):=by
 unfold isE at h
 split at h
 ·simp only[beq_iff_eq] at h
  subst h
  refine pm pe_int λσ H Q h=>?_
  obtain⟨ρ,Fs,d,S,he,k⟩:=h
  cases he
  exact k _ _ _ (Same.refl _) rep_int Src.nil (λz=>by cases z)
 ·simp only[beq_iff_eq] at h
  subst h
  refine pm (pe_un un_neg pe_int) λσ H Q h=>?_
  obtain⟨ρ,Fs,d,S,he,k⟩:=h
  cases he
  exact⟨_,rfl,k _ _ _ (Same.refl _) rep_int Src.nil (λz=>by cases z)⟩
 ·cases h
theorem s_bl {n:Bool} (h:isE (.bl n) X.env.scope X.N e=true):PE X e (tE X.K C (.bl n)):=by
 unfold isE at h
 split at h
 ·simp only[beq_iff_eq] at h
  subst h
  refine pm pe_bl λσ H Q h=>?_
  obtain⟨ρ,Fs,d,S,he,k⟩:=h
  cases he
  exact k _ _ _ (Same.refl _) rep_bl Src.nil (λz=>by cases z)
 ·cases h
theorem s_non (h:isE .non X.env.scope X.N e=true):PE X e (tE X.K C .non):=by
 unfold isE at h
 split at h
 ·refine pm pe_non λσ H Q h=>?_
  obtain⟨ρ,Fs,d,S,he,k⟩:=h
  cases he
  exact k _ _ _ (Same.refl _) ⟨rfl,rfl⟩ Src.nil (λz=>by cases z)
 ·cases h
theorem s_str {n:Str} (h:isE (.str n) X.env.scope X.N e=true):PE X e (tE X.K C (.str n)):=by
 unfold isE at h
 split at h
 ·simp only[beq_iff_eq] at h
  subst h
  refine pm pe_str λσ H Q h=>?_
  obtain⟨ρ,Fs,d,S,he,k⟩:=h
  cases he
  exact k _ _ _ (Same.refl _) ⟨rfl,rfl⟩ Src.nil (λz=>by cases z)
 ·cases h
theorem o_bin {o:Op} {o':Operator} (h:opB o=some o'):OpR X (binaryOp o') (rO X.K o):=by
 cases o <;> cases h
 ·exact o_add
 ·exact o_sub
 ·exact o_mul
 ·exact o_mod
theorem in_of {neg:Bool} {op:CmpOp} {o:Op} (hu:X.A.units+40<cLine) (hn:¬ (o=.add\/o=.mul)) (he:∀ d1 d2 d,op2 o d1 d2=.ok d->∃ xs,seqOf d2=some xs/\lo 9 d1=true/\d=.bl (if neg then !inD d1 xs else inD d1 xs))
  (hl:∀ (l:Addr) (items:Array Value) (x:Value) (s:Shared) (Q:Value->Shared->Prop) (e:Value->Bool),s.heap.IsList l items->(∀ y,y ∈ items->SeqAt.EqAt X.A.in1 s y x (e y))->Q (.bool (if neg then !items.any e else items.any e)) s->wpAny (model X.prog X.w) X.A (compareOp op x (.ref l)) Q X.xe s)
  (ht:∀ (l:Addr) (items:Array Value) (x:Value) (s:Shared) (Q:Value->Shared->Prop) (e:Value->Bool),s.heap.IsTuple l items->(∀ y,y ∈ items->SeqAt.EqAt X.A.in1 s y x (e y))->Q (.bool (if neg then !items.any e else items.any e)) s->wpAny (model X.prog X.w) X.A (compareOp op x (.ref l)) Q X.xe s) :
  OpR X (compareOp op) (rO X.K o):=by
 intro pins s σ H x y v u Q I rx ry h
 obtain⟨d1,d2,F1,F2,d,h1,h2,e,k⟩:=h
 obtain⟨xs,e1,e2,rfl⟩:=he _ _ _ e
 have hu':X.A.in1.units+20<cLine:=by
  show X.A.units+1+20<cLine
  omega
 obtain⟨l,vs,F',rfl,r,hq,_⟩:=h2.seq e1
 cases ry
 rcases hq with hq | hq
 ·obtain⟨its,rv,p,_⟩:=I.list hq
  refine hl l its.toArray v s _ (hitV X.K H d1) p.isList (λw hw=>hit_at I X.A.in1 hu' e2 h1 rx r rv w (by simpa using hw)) ⟨.bl _,H,I,?_,k _ _ _ (Same.refl _) rep_bl (λ_ z=>nomatch z) (λz=>absurd z hn)⟩
  rw[show its.toArray.any (hitV X.K H d1)=its.any (hitV X.K H d1) by simp,hit_any I r rv]
  rfl
 ·obtain⟨its,rv,p,_⟩:=I.tuple hq
  refine ht l its.toArray v s _ (hitV X.K H d1) p (λw hw=>hit_at I X.A.in1 hu' e2 h1 rx r rv w (by simpa using hw)) ⟨.bl _,H,I,?_,k _ _ _ (Same.refl _) rep_bl (λ_ z=>nomatch z) (λz=>absurd z hn)⟩
  rw[show its.toArray.any (hitV X.K H d1)=its.any (hitV X.K H d1) by simp,hit_any I r rv]
  rfl
theorem o_in (hu:X.A.units+40<cLine):OpR X (compareOp .In) (rO X.K .isin):=by
 refine in_of (neg:=false) hu (by decide) (λd1 d2 d h=>?_) (λl items x s Q e h1 h2 q=>SeqAt.in_listAt e h1 h2 q) (λl items x s Q e h1 h2 q=>SeqAt.in_tupleAt e h1 h2 q)
 cases d2 with
 | lst xs=>
  have h':(if lo 9 d1 then R.ok (D.bl (inD d1 xs)) else .un)=.ok d:=by cases d1 <;> exact h
  split at h'
  ·rename_i z; cases h'; exact⟨xs,rfl,z,rfl⟩
  ·cases h'
 | tup xs=>
  have h':(if lo 9 d1 then R.ok (D.bl (inD d1 xs)) else .un)=.ok d:=by cases d1 <;> exact h
  split at h'
  ·rename_i z; cases h'; exact⟨xs,rfl,z,rfl⟩
  ·cases h'
 | _=>cases d1 <;> cases h
theorem o_notin (hu:X.A.units+40<cLine):OpR X (compareOp .NotIn) (rO X.K .notin):=by
 refine in_of (neg:=true) hu (by decide) (λd1 d2 d h=>?_) (λl items x s Q e h1 h2 q=>SeqAt.notIn_listAt e h1 h2 q) (λl items x s Q e h1 h2 q=>SeqAt.notIn_tupleAt e h1 h2 q)
 cases d2 with
 | lst xs=>
  have h':(if lo 9 d1 then R.ok (D.bl (!inD d1 xs)) else .un)=.ok d:=by cases d1 <;> exact h
  split at h'
  ·rename_i z; cases h'; exact⟨xs,rfl,z,rfl⟩
  ·cases h'
 | tup xs=>
  have h':(if lo 9 d1 then R.ok (D.bl (!inD d1 xs)) else .un)=.ok d:=by cases d1 <;> exact h
  split at h'
  ·rename_i z; cases h'; exact⟨xs,rfl,z,rfl⟩
  ·cases h'
 | _=>cases d1 <;> cases h
theorem o_cmp (hu:X.A.units+40<cLine) {o:Op} {o':CmpOp} (h:opC o=some o'):OpR X (compareOp o') (rO X.K o):=by
 cases o <;> cases h
 ·exact o_eq (by omega)
 ·exact o_ne (by omega)
 ·exact o_lt
 ·exact o_le
 ·exact o_gt
 ·exact o_ge
 ·exact o_in hu
 ·exact o_notin hu
theorem two_of {K:Frag} {ρ:Env} {Fs:Nat->List Addr} {σ:L2.St} {H:Hp} {d1 d2:D} {R:V->V->Hp->Prop} (S:VR K H σ ρ Fs) (h1:ev C p ρ=.ok d1) (h2:ev C q ρ=.ok d2)
  (k:∀ v1 v2 H2 F1 F2,Same H H2->Rep K H2 d1 v1 F1->Rep K H2 d2 v2 F2->Src ρ Fs H (vars p++vars q) F1->Src ρ Fs H (vars p++vars q) F2->R v1 v2 H2):tE K C p σ H λv1 H1=>tE K C q σ H1 λv2 H2=>R v1 v2 H2:=
 ⟨ρ,Fs,d1,S,h1,λv1 H1 F1 s1 r1 c1 _=>⟨ρ,Fs,d2,S.more s1,h2,λv2 H2 F2 s2 r2 c2 _=>k v1 v2 H2 F1 F2 (s1.trans s2) (r1.same s2) r2
  (c1.mono (Same.refl _) (λi hi=>List.mem_append_left _ hi) λ_ z=>z) (c2.mono s1 (λi hi=>List.mem_append_right _ hi) λ_ z=>z)⟩⟩
theorem src_of {ρ:Env} {Fs:Nat->List Addr} {H H2:Hp} {vs:List Nat} {F1 F2 F:List Addr} (s:Same H H2) (c1:Src ρ Fs H vs F1) (c2:Src ρ Fs H vs F2) (h:∀ a ∈ F,H2 a=none\/a ∈ F1\/a ∈ F2):Src ρ Fs H vs F:=λa ha=>by
 rcases h a ha with z | z | z
 ·exact .inl (s.free z)
 ·exact c1 a z
 ·exact c2 a z
theorem in_op {o:Op} {σ:L2.St} {H:Hp} {Q:VK} (h:tE X.K C (.op o p q) σ H Q):tOp (rO X.K o) (tE X.K C p) (tE X.K C q) σ H Q:=by
 obtain⟨ρ,Fs,d,S,he,k⟩:=h
 rw[ev_op] at he
 obtain⟨d1,h1,he⟩:=R.bind_eq_ok he
 obtain⟨d2,h2,he⟩:=R.bind_eq_ok he
 refine two_of S h1 h2 λv1 v2 H2 F1 F2 s r1 r2 c1 c2=>⟨d1,d2,F1,F2,d,r1,r2,he,λv H' F s' r' c' f'=>k v H' F (s.trans s') r' ?_ λz ds e=>?_⟩
 ·exact src_of s c1 c2 c'
 ·obtain⟨a,F',e1,e2⟩:=f' (by cases o <;> first | exact .inl rfl | exact .inr rfl | cases z) ds e
  exact⟨a,F',e1,s.free e2⟩
theorem s_op {o:Op} (hu:X.A.units+40<cLine) (h:isE (.op o p q) X.env.scope X.N e=true)
  (hp:∀ e,isE p X.env.scope X.N e=true->PE X e (tE X.K C p)) (hq:∀ e,isE q X.env.scope X.N e=true->PE X e (tE X.K C q)) (hb:∀ o e,isE q X.env.scope X.N e=true->behindInMarks o e=false):PE X e (tE X.K C (.op o p q)):=by
 unfold isE at h
 split at h
 ·simp only[Bool.and_eq_true,beq_iff_eq] at h
  exact pm (pe_op (o_bin h.1.1) (hp _ h.1.2) (hq _ h.2)) λσ H Q h=>in_op h
 ·simp only[Bool.and_eq_true,beq_iff_eq] at h
  exact pm (pe_cmpR (o_cmp hu h.1.1) (hp _ h.1.2) (hq _ h.2) (hb _ _ h.2)) λσ H Q h=>in_op h
 ·cases h
theorem if_bl {c:Bool} {b:Bool} {d:D} (e:(if c=true then (.ok (.bl b):R D) else .un)=.ok d):∃ k,d=.bl k:=by
 cases c
 ·cases e
 ·cases e; exact⟨_,rfl⟩
theorem op2_bl {o:Op} {o':CmpOp} (h:opC o=some o') {d1 d2 d:D} (e:op2 o d1 d2=.ok d):∃ k,d=.bl k:=by
 cases o <;> cases h
 case eq=>exact if_bl e
 case ne=>exact if_bl e
 case isin=>cases d2 <;> first | exact if_bl e | (cases e; done)
 case notin=>cases d2 <;> first | exact if_bl e | (cases e; done)
 all_goals (cases d1 <;> first | (cases e; done) | (cases d2 <;> first | (cases e; done) | (cases e; exact⟨_,rfl⟩)))
theorem s_chn {o o':Op} (hu:X.A.units+40<cLine) (h:isE (.chn o o' p q r) X.env.scope X.N e=true)
  (hp:∀ e,isE p X.env.scope X.N e=true->PE X e (tE X.K C p)) (hq:∀ e,isE q X.env.scope X.N e=true->PE X e (tE X.K C q)) (hr:∀ e,isE r X.env.scope X.N e=true->PE X e (tE X.K C r)) (hb:∀ o e,isE r X.env.scope X.N e=true->behindInMarks o e=false):PE X e (tE X.K C (.chn o o' p q r)):=by
 obtain⟨_,_,_,_,_,_,rfl,h'⟩:=iv_chn h; clear h; have h:=h'
 ·simp only[Bool.and_eq_true,beq_iff_eq] at h
  obtain⟨⟨⟨⟨h1,h2⟩,h3⟩,h4⟩,h5⟩:=h
  refine pm (pe_chain (o_cmp hu h1) (o_cmp hu h2) (hp _ h3) (hq _ h4) (hr _ h5) (hb _ _ h5)) λσ H Q h=>?_
  obtain⟨ρ,Fs,d,S,he,k⟩:=h
  rw[ev_chn] at he
  obtain⟨d1,g1,he⟩:=R.bind_eq_ok he
  obtain⟨d2,g2,he⟩:=R.bind_eq_ok he
  obtain⟨d3,g3,he⟩:=R.bind_eq_ok he
  refine two_of S g1 g2 λv1 v2 H2 F1 F2 s r1 r2 c1 c2=>⟨d1,d2,F1,F2,d3,r1,r2,g3,λv H' F s' r' c' f'=>?_⟩
  obtain⟨b,rfl⟩:=op2_bl h1 g3
  obtain⟨rfl,_⟩:=r'
  refine⟨b,rfl,?_⟩
  cases b with
  | false=>
   cases he
   rw[if_neg Bool.false_ne_true]
   exact k _ _ _ (s.trans s') rep_bl Src.nil (λz=>by cases z)
  | true=>
   rw[if_pos rfl]
   obtain⟨d4,g4,he⟩:=R.bind_eq_ok he
   refine⟨ρ,Fs,d4,(S.more s).more s',g4,λv4 H4 F4 s4 r4 c4 _=>⟨d2,d4,F2,F4,d,(r2.same s').same s4,r4,he,λv5 H5 F5 s5 r5 c5 f5=>?_⟩⟩
   obtain⟨b',rfl⟩:=op2_bl h2 he
   obtain⟨rfl,rfl⟩:=r5
   exact k _ _ _ (s.trans (s'.trans (s4.trans s5))) rep_bl Src.nil (λz=>by cases z)
theorem s_isn {neg:Bool} (h:isE (.isn neg p) X.env.scope X.N e=true) (hp:∀ e,isE p X.env.scope X.N e=true->PE X e (tE X.K C p)):PE X e (tE X.K C (.isn neg p)):=by
 obtain⟨_,_,_,_,_,rfl,h'⟩:=iv_isn h; clear h; have h:=h'
 ·simp only[Bool.and_eq_true,beq_iff_eq] at h
  obtain⟨h1,h2⟩:=h
  have key:∀ {K:Frag} {H:Hp} {d:D} {v:V} {F:List Addr},Rep K H d v F->decide (v=.non)=isNon d:=λ{K H d v F} r=>by
   cases d with
   | non=>obtain⟨rfl,_⟩:=r; rfl
   | bl b=>obtain⟨rfl,_⟩:=r; rfl
   | int b=>obtain⟨rfl,_⟩:=r; rfl
   | str b=>obtain⟨rfl,_⟩:=r; rfl
   | dct _=>exact r.elim
   | tup xs=>obtain⟨_,_,rfl,_⟩:=r; rfl
   | lst xs=>obtain⟨_,_,_,rfl,_⟩:=r; rfl
  cases neg with
  | false=>
   subst h1
   refine pm (pe_cmp (pc_isN (hp _ h2))) λσ H Q h=>?_
   obtain⟨ρ,Fs,d,S,he,k⟩:=h
   rw[ev_isn] at he
   obtain⟨d1,g1,he⟩:=R.bind_eq_ok he
   cases he
   refine⟨ρ,Fs,d1,S,g1,λv1 H1 F1 s1 r1 c1 _=>?_⟩
   show Q (V.bl (decide (v1=V.non))) H1
   rw[key r1]
   exact k (.bl (isNon d1)) H1 [] s1 ⟨by cases d1 <;> rfl,rfl⟩ Src.nil (λz=>by cases z)
  | true=>
   subst h1
   refine pm (pe_cmp (pc_notN (hp _ h2))) λσ H Q h=>?_
   obtain⟨ρ,Fs,d,S,he,k⟩:=h
   rw[ev_isn] at he
   obtain⟨d1,g1,he⟩:=R.bind_eq_ok he
   cases he
   refine⟨ρ,Fs,d1,S,g1,λv1 H1 F1 s1 r1 c1 _=>?_⟩
   show Q (V.bl (!decide (v1=V.non))) H1
   rw[key r1]
   exact k (.bl (!isNon d1)) H1 [] s1 ⟨by cases d1 <;> rfl,rfl⟩ Src.nil (λz=>by cases z)
theorem op_isT:OpR X (compareOp .Is) (λx y H Q=>∃ b,x=.bl b/\y=.bl true/\Q (.bl b) H):=by
 intro pins s σ H x y v u Q I rx ry h
 obtain⟨b,rfl,rfl,q⟩:=h
 cases rx
 cases ry
 refine wpAny_is_plain (by cases b <;> rfl) ⟨.bl b,H,I,?_,q⟩
 cases b <;> rfl
theorem s_ist (h:isE (.ist p) X.env.scope X.N e=true) (hp:∀ e,isE p X.env.scope X.N e=true->PE X e (tE X.K C p)):PE X e (tE X.K C (.ist p)):=by
 obtain⟨_,_,_,_,rfl,h'⟩:=iv_ist h; clear h; have h:=h'
 ·refine pm (pe_cmpR op_isT (hp _ h) pe_bl rfl) λσ H Q h=>?_
  obtain⟨ρ,Fs,d,S,he,k⟩:=h
  rw[ev_ist] at he
  obtain⟨d1,g1,he⟩:=R.bind_eq_ok he
  refine⟨ρ,Fs,d1,S,g1,λv1 H1 F1 s1 r1 c1 _=>?_⟩
  cases d1 with
  | bl b=>
   cases he
   obtain⟨rfl,_⟩:=r1
   exact⟨b,rfl,rfl,k _ _ _ s1 rep_bl Src.nil (λz=>by cases z)⟩
  | _=>cases he
end
def plainX:Expr->Bool
 | .Starred _ _=>false
 | .Set _ _ _=>false
 | .Slice _ _ _ _=>false
 | .Call _ [] _ _=>false
 | _=>true
theorem plain_of {p:Ex} {sc:Scope} {N:List Str} {e:Expr} (h:isE p sc N e=true):plainX e=true:=by
 cases p <;> first | (obtain⟨_,_,_,_,_,rfl,_⟩:=iv_cald h; rfl) | (obtain⟨_,_,_,rfl,_⟩:=iv_dix h; rfl) | (obtain⟨_,_,_,_,_,rfl,_⟩:=iv_call h; rfl) | (obtain⟨_,_,_,_,rfl,_⟩:=iv_b1 h; rfl) | (obtain⟨_,_,_,_,_,_,rfl,_⟩:=iv_ins h; rfl) | (obtain⟨_,_,_,_,_,rfl,_⟩:=iv_m1 h; rfl) | (obtain⟨_,_,_,_,_,_,_,rfl,_⟩:=iv_rngL h; rfl) | (obtain⟨_,_,_,_,_,_,_,rfl,_⟩:=iv_sset h; rfl) | (obtain⟨_,_,_,_,_,_,_,_,_,_,rfl,_⟩:=iv_revL h; rfl) | (obtain⟨_,_,_,_,rfl,_⟩:=iv_jn h; rfl) | (obtain⟨_,_,_,_,rfl,_⟩:=iv_spl h; rfl) | (obtain⟨_,_,_,_,_,_,rfl,_⟩:=iv_chn h; rfl) | (obtain⟨_,_,_,_,_,rfl,_⟩:=iv_isn h; rfl) | (obtain⟨_,_,_,_,rfl,_⟩:=iv_ist h; rfl) | (obtain⟨_,_,_,_,rfl⟩:=iv_comp h; rfl) | (unfold isE at h; split at h <;> first | rfl | cases h)
theorem star_of {e:Expr} (h:plainX e=true) (es:List Expr) (env:PySem.Env):starEach (e::es) env=(false,eval e env)::starEach es env:=by
 cases e <;> first | rfl | cases h
theorem behind_of {e:Expr} (h:plainX e=true) (o:CmpOp):behindInMarks o e=false:=by
 cases e <;> first | rfl | cases h
theorem ix_of {e:Expr} (h:plainX e=true):PlainIx e:=by
 intro o i
 cases e <;> first | rfl | cases h
theorem fold_of {e:Expr} (h:plainX e=true) (env:PySem.Env) (x:Value):foldedSetIterable e env x=pure x:=by
 cases e <;> first | rfl | cases h
theorem attr_of {e:Expr} (h:plainX e=true) (name:Str) (env:PySem.Env):attributeBase e name env (eval e env)=eval e env:=by
 cases e with
 | Call f as kw pos=>
  cases as with
  | nil=>cases h
  | cons a r=>cases f <;> rfl
 | _=>rfl
theorem stars_of {sc:Scope} {N:List Str} (env:PySem.Env) (pos:Pos):∀ {ps:Exs} {es:List Expr},isEs ps sc N es=true->(backTo pos (starEach es env)).any (·.1)=false
 | .nil,es,h=>by
  unfold isEs at h
  split at h
  ·rfl
  ·cases h
 | .cons p r,es,h=>by
  unfold isEs at h
  split at h
  ·rename_i x xs
   rw[Bool.and_eq_true] at h
   rw[star_of (plain_of h.1)]
   have:=stars_of env pos h.2
   show (false||(backTo pos (starEach xs env)).any (·.1))=false
   rw[this]
   rfl
  ·cases h
section
variable {X:Cx} {C:Str->List D->R D} {pos:Pos} {e:Expr} {p q r:Ex}
theorem and_in {σ:L2.St} {H:Hp} {Q:VK} (h:tE X.K C (.and p q) σ H Q):tAndV (tE X.K C p) (tE X.K C q) σ H Q:=by
 obtain⟨ρ,Fs,d,S,he,k⟩:=h
 rw[ev_and] at he
 obtain⟨d1,g1,he⟩:=R.bind_eq_ok he
 refine⟨ρ,Fs,d1,S,g1,λv1 H1 F1 s1 r1 c1 _=>?_⟩
 cases d1 with
 | bl b=>
  obtain⟨rfl,_⟩:=r1
  refine⟨b,rfl,?_⟩
  cases b with
  | true=>
   rw[if_pos rfl]
   exact⟨ρ,Fs,d,S.more s1,he,λv H' F s' r c f=>k v H' F (s1.trans s') r (c.mono s1 (λi hi=>List.mem_append_right _ hi) λ_ z=>z) (λz=>by cases z)⟩
  | false=>
   cases he
   rw[if_neg Bool.false_ne_true]
   exact k _ _ _ s1 rep_bl Src.nil (λz=>by cases z)
 | _=>cases he
theorem or_in {σ:L2.St} {H:Hp} {Q:VK} (h:tE X.K C (.or p q) σ H Q):tOrV (tE X.K C p) (tE X.K C q) σ H Q:=by
 obtain⟨ρ,Fs,d,S,he,k⟩:=h
 rw[ev_or] at he
 obtain⟨d1,g1,he⟩:=R.bind_eq_ok he
 refine⟨ρ,Fs,d1,S,g1,λv1 H1 F1 s1 r1 c1 _=>?_⟩
 cases d1 with
 | bl b=>
  obtain⟨rfl,_⟩:=r1
  refine⟨b,rfl,?_⟩
  cases b with
  | false=>
   rw[if_neg Bool.false_ne_true]
   exact⟨ρ,Fs,d,S.more s1,he,λv H' F s' r c f=>k v H' F (s1.trans s') r (c.mono s1 (λi hi=>List.mem_append_right _ hi) λ_ z=>z) (λz=>by cases z)⟩
  | true=>
   cases he
   rw[if_pos rfl]
   exact k _ _ _ s1 rep_bl Src.nil (λz=>by cases z)
 | _=>cases he
theorem s_and (h:isE (.and p q) X.env.scope X.N e=true) (hp:∀ e,isE p X.env.scope X.N e=true->PE X e (tE X.K C p)) (hq:∀ e,isE q X.env.scope X.N e=true->PE X e (tE X.K C q)):PE X e (tE X.K C (.and p q)):=by
 unfold isE at h
 split at h
 ·rw[Bool.and_eq_true] at h
  exact pm (pe_and (hp _ h.1) (pe_one (hq _ h.2))) λσ H Q h=>and_in h
 ·rw[Bool.and_eq_true] at h
  exact pm (pe_and (hp _ h.1) (hq _ h.2)) λσ H Q h=>and_in h
 ·cases h
theorem s_or (h:isE (.or p q) X.env.scope X.N e=true) (hp:∀ e,isE p X.env.scope X.N e=true->PE X e (tE X.K C p)) (hq:∀ e,isE q X.env.scope X.N e=true->PE X e (tE X.K C q)):PE X e (tE X.K C (.or p q)):=by
 unfold isE at h
 split at h
 ·rw[Bool.and_eq_true] at h
  exact pm (pe_or (hp _ h.1) (pe_one (hq _ h.2))) λσ H Q h=>or_in h
 ·rw[Bool.and_eq_true] at h
  exact pm (pe_or (hp _ h.1) (hq _ h.2)) λσ H Q h=>or_in h
 ·cases h
theorem s_not (h:isE (.not p) X.env.scope X.N e=true) (hp:∀ e,isE p X.env.scope X.N e=true->PE X e (tE X.K C p)):PE X e (tE X.K C (.not p)):=by
 unfold isE at h
 split at h
 ·refine pm (pe_not (hp _ h)) λσ H Q h=>?_
  obtain⟨ρ,Fs,d,S,he,k⟩:=h
  rw[ev_not] at he
  obtain⟨d1,g1,he⟩:=R.bind_eq_ok he
  refine⟨ρ,Fs,d1,S,g1,λv1 H1 F1 s1 r1 c1 _=>?_⟩
  cases d1 with
  | bl b=>
   cases he
   obtain⟨rfl,_⟩:=r1
   exact⟨b,rfl,k _ _ _ s1 rep_bl Src.nil (λz=>by cases z)⟩
  | _=>cases he
 ·cases h
theorem s_ife (h:isE (.ife p q r) X.env.scope X.N e=true) (hp:∀ e,testB p=true->isE p X.env.scope X.N e=true->PT X e (tT X.K C p)) (hq:∀ e,isE q X.env.scope X.N e=true->PE X e (tE X.K C q)) (hr:∀ e,isE r X.env.scope X.N e=true->PE X e (tE X.K C r)):PE X e (tE X.K C (.ife p q r)):=by
 unfold isE at h
 split at h
 ·simp only[Bool.and_eq_true] at h
  obtain⟨⟨⟨h1,h2⟩,h3⟩,h4⟩:=h
  refine pm (pe_ifExp (hp _ h1 h2) (hq _ h3) (hr _ h4)) λσ H Q h=>?_
  obtain⟨ρ,Fs,d,S,he,k⟩:=h
  rw[ev_ife] at he
  obtain⟨b,g1,he⟩:=R.bind_eq_ok he
  refine⟨ρ,Fs,b,S,g1,λH1 s1=>?_⟩
  cases b with
  | true=>
   rw[if_pos rfl]
   rw[if_pos rfl] at he
   exact⟨ρ,Fs,d,S.more s1,he,λv H' F s' r c f=>k v H' F (s1.trans s') r (c.mono s1 (λi hi=>by simp[vars,hi]) λ_ z=>z) (λz=>by cases z)⟩
  | false=>
   rw[if_neg Bool.false_ne_true]
   rw[if_neg Bool.false_ne_true] at he
   exact⟨ρ,Fs,d,S.more s1,he,λv H' F s' r c f=>k v H' F (s1.trans s') r (c.mono s1 (λi hi=>by simp[vars,hi]) λ_ z=>z) (λz=>by cases z)⟩
 ·cases h
theorem a_nil:PA X [] (tA X.K C .nil):=am pa_nil λσ H Q h=>by
 obtain⟨ρ,Fs,ds,S,he,k⟩:=h
 cases he
 exact k _ _ _ (Same.refl _) Reps.nil Src.nil
theorem a_cons {ps:Exs} {es:List Expr} (hs:plainX e=true) (hp:PE X e (tE X.K C p)) (hr:PA X es (tA X.K C ps)):PA X (e::es) (tA X.K C (.cons p ps)):=by
 refine am (pa_cons hp hr (star_of hs _ _)) λσ H Q h=>?_
 obtain⟨ρ,Fs,ds,S,he,k⟩:=h
 rw[evs_cons] at he
 obtain⟨d1,g1,he⟩:=R.bind_eq_ok he
 obtain⟨ds',g2,he⟩:=R.bind_eq_ok he
 cases he
 refine⟨ρ,Fs,d1,S,g1,λv1 H1 F1 s1 r1 c1 _=>⟨ρ,Fs,ds',S.more s1,g2,λvs H2 F2 s2 r2 c2=>?_⟩⟩
 refine k _ _ _ (s1.trans s2) (.cons (r1.same s2) r2) (.app (c1.mono (Same.refl _) (λi hi=>?_) λ_ z=>z) (c2.mono s1 (λi hi=>?_) λ_ z=>z))
 ·exact List.mem_append_left _ hi
 ·exact List.mem_append_right _ hi
theorem s_tup {ps:Exs} (h:isE (.tup ps) X.env.scope X.N e=true) (hp:∀ es,isEs ps X.env.scope X.N es=true->PA X es (tA X.K C ps)):PE X e (tE X.K C (.tup ps)):=by
 unfold isE at h
 split at h
 ·refine pm (pe_tup (hp _ h)) λσ H Q h=>?_
  obtain⟨ρ,Fs,d,S,he,k⟩:=h
  rw[ev_tup] at he
  obtain⟨ds,g1,he⟩:=R.bind_eq_ok he
  split at he
  ·rename_i hf
   cases he
   refine⟨ρ,Fs,ds,S,g1,λvs H1 F1 s1 r1 c1=>⟨by rw[<- r1.length]; exact fits_le hf,λp hp=>?_⟩⟩
   exact k _ _ _ (s1.trans (same_upd hp)) (Rep.new_tup hp r1) c1 (λz=>by cases z)
  ·cases he
 ·cases h
theorem s_lst {ps:Exs} (h:isE (.lst ps) X.env.scope X.N e=true) (hp:∀ es,isEs ps X.env.scope X.N es=true->PA X es (tA X.K C ps)):PE X e (tE X.K C (.lst ps)):=by
 unfold isE at h
 split at h
 ·refine pm (pe_lst (hp _ h)) λσ H Q h=>?_
  obtain⟨ρ,Fs,d,S,he,k⟩:=h
  rw[ev_lst] at he
  obtain⟨ds,g1,he⟩:=R.bind_eq_ok he
  split at he
  ·rename_i hf
   cases he
   refine⟨ρ,Fs,ds,S,g1,λvs H1 F1 s1 r1 c1=>⟨by rw[<- r1.length]; exact fits_le hf,λp hp=>?_⟩⟩
   exact k _ _ _ (s1.trans (same_upd hp)) (Rep.new_lst hp r1) (Src.new (s1.free hp) c1) (λ_ ds _=>⟨_,_,rfl,s1.free hp⟩)
  ·cases he
 ·cases h
theorem gl_of {x:Str} (h:globB X.env.scope x=true):Gl X x:=by
 unfold globB at h
 exact beq_iff_eq.mp h
theorem run_some {T:Tab} {n:Nat} {f:Str} {ds:List D} {d:D} (h:run T n f ds=.ok d):∃ fn,T.lookup f=some fn:=by
 cases n with
 | zero=>cases h
 | succ n=>
  unfold run at h
  cases e:T.lookup f with
  | none=>rw[e] at h; cases h
  | some fn=>exact⟨fn,rfl⟩
theorem s_callK {T:Tab} {n:Nat} {f:Str} {ps:Exs} (M:Md T n X) {fn:Fn} (e':T.lookup f=some fn) (h:isE (.call f ps) X.env.scope X.N e=true) (hp:∀ es,isEs ps X.env.scope X.N es=true->PA X es (tA X.K (run T n) ps)) :
  PE X e (λσ H Q=>∃ ρ Fs ds d,VR X.K H σ ρ Fs/\evs (run T n) ps ρ=.ok ds/\run T n f ds=.ok d/\∀ v H' F,Same H H'->Rep X.K H' d v F->Src ρ Fs H (varss ps) F->(∀ k,allFs fn.body k=true->ShP k H d F)->Q v H'):=by
 obtain⟨g,_,y,ys,_,rfl,h'⟩:=iv_call h; clear h; have h:=h'
 ·simp only[Bool.and_eq_true,beq_iff_eq] at h
  obtain⟨⟨⟨rfl,h2⟩,h3⟩,h4⟩:=h
  obtain⟨a,fd,pn,m1,m2,m3,m4⟩:=M.fn f fn e'
  have hy:plainX y=true/\∃ q qs,ps=.cons q qs/\isEs qs X.env.scope X.N ys=true:=by
   cases ps with
   | nil=>unfold isEs at h4; cases h4
   | cons q qs=>
    unfold isEs at h4
    rw[Bool.and_eq_true] at h4
    exact⟨plain_of h4.1,q,qs,rfl,h4.2⟩
  obtain⟨hy,q,qs,rfl,hys⟩:=hy
  refine pmI (pe_call m4 M.room (gl_of h2) m1 m2 m3 .nil passX0 (hp _ h4) h3 (star_of hy _ _) (stars_of _ _ hys)) λpins s σ H Q I h=>?_
  obtain⟨ρ,Fs,ds,d,S,g1,he,k⟩:=h
  refine⟨ρ,Fs,ds,S,g1,λvs H1 F1 s1 r1 c1=>?_⟩
  show spF X.mg (Tb T X.K X.mg) (allFs fn.body) X.K (run T n) f (vs++[]) H1 Q E0
  rw[List.append_nil]
  refine⟨(M.tbI I).same s1,.inl ⟨ds,F1,d,r1.S,he,λv H' G s' r' c' fr=>k v H' G (s1.trans s') r' (λb hb=>?_) (λk z=>(fr k z).mono s1)⟩⟩
  rcases c' b hb with z | z
  ·exact .inl (s1.free z)
  ·exact c1 b z
theorem s_call {T:Tab} {n:Nat} {f:Str} {ps:Exs} (M:Md T n X) (h:isE (.call f ps) X.env.scope X.N e=true) (hp:∀ es,isEs ps X.env.scope X.N es=true->PA X es (tA X.K (run T n) ps)):PE X e (tE X.K (run T n) (.call f ps)):=by
 cases e':T.lookup f with
 | none=>
  intro pins s σ H Q I h
  obtain⟨ρ,Fs,d,S,he,k⟩:=h
  rw[ev_call] at he
  obtain⟨ds,g1,he⟩:=R.bind_eq_ok he
  obtain⟨fn,e''⟩:=run_some he
  rw[e'] at e''
  cases e''
 | some fn=>
  refine pm (s_callK M e' h hp) λσ H Q h=>?_
  obtain⟨ρ,Fs,d,S,he,k⟩:=h
  rw[ev_call] at he
  obtain⟨ds,g1,he⟩:=R.bind_eq_ok he
  exact⟨ρ,Fs,ds,d,S,g1,he,λv H' F s r c _=>k v H' F s r c λz=>by cases z⟩
def tEX (K:Frag) (C:Str->List D->R D) (p:Ex) (W:Xl->Hp->Prop):TE:=λσ H _=>∃ ρ Fs c,VR K H σ ρ Fs/\xE C p ρ=some c/\∀ H',Same H H'->W c H'
theorem s_callX {T:Tab} {n:Nat} {f:Str} {ps:Exs} {W:Xl->Hp->Prop} (M:Md T n X) (hP:Passes (CXx X.prog X.w) X (EW X.K X.mg W)) (h:isE (.call f ps) X.env.scope X.N e=true) (hp:∀ es,isEs ps X.env.scope X.N es=true->PA X es (tA X.K (run T n) ps)):PE X e (tEX X.K (run T n) (.call f ps) W):=by
 obtain⟨g,_,y,ys,_,rfl,h'⟩:=iv_call h; clear h; have h:=h'
 ·simp only[Bool.and_eq_true,beq_iff_eq] at h
  obtain⟨⟨⟨rfl,h2⟩,h3⟩,h4⟩:=h
  have key:∀ {ρ:Env} {c:Xl},xE (run T n) (.call f ps) ρ=some c->∃ ds,evs (run T n) ps ρ=.ok ds/\run T n f ds=.xn c.1 c.2:=λ{ρ c} hx=>by
   have hx':(match evs (run T n) ps ρ with | .ok vs=>(match run T n f vs with | .xn c d=>some (c,d) | _=>none) | _=>none)=some c:=hx
   cases e1:evs (run T n) ps ρ with
   | ok ds=>
    rw[e1] at hx'
    simp only at hx'
    cases e2:run T n f ds with
    | xn c' dd=>rw[e2] at hx'; cases hx'; exact⟨ds,rfl,e2⟩
    | ok d=>rw[e2] at hx'; cases hx'
    | un=>rw[e2] at hx'; cases hx'
   | xn _ _=>rw[e1] at hx'; cases hx'
   | un=>rw[e1] at hx'; cases hx'
  cases e:T.lookup f with
  | none=>
   intro pins s σ H Q I h
   obtain⟨ρ,Fs,c,S,he,k⟩:=h
   obtain⟨ds,_,he⟩:=key he
   cases n with
   | zero=>cases he
   | succ n=>unfold run at he; rw[e] at he; cases he
  | some fn=>
   obtain⟨a,fd,pn,m1,m2,m3,m4⟩:=M.fn f fn e
   have hy:plainX y=true/\∃ q qs,ps=.cons q qs/\isEs qs X.env.scope X.N ys=true:=by
    cases ps with
    | nil=>unfold isEs at h4; cases h4
    | cons q qs=>
     unfold isEs at h4
     rw[Bool.and_eq_true] at h4
     exact⟨plain_of h4.1,q,qs,rfl,h4.2⟩
   obtain⟨hy,q,qs,rfl,hys⟩:=hy
   refine pmI (pe_call m4 M.room (gl_of h2) m1 m2 m3 .nil hP (hp _ h4) h3 (star_of hy _ _) (stars_of _ _ hys)) λpins s σ H Q I h=>?_
   obtain⟨ρ,Fs,c,S,he,k⟩:=h
   obtain⟨ds,g1,he⟩:=key he
   refine⟨ρ,Fs,ds,S,g1,λvs H1 F1 s1 r1 c1=>?_⟩
   show spF X.mg (Tb T X.K X.mg) (allFs fn.body) X.K (run T n) f (vs++[]) H1 Q (EW X.K X.mg W)
   rw[List.append_nil]
   exact⟨(M.tbI I).same s1,.inr ⟨ds,F1,c.1,c.2,r1.S,he,λv dx H' e s' xd=>⟨c,e,xd,k H' (s1.trans s')⟩⟩⟩
theorem at_of {K:Frag} {H:Hp} {ds:List D} {vs:List V} {F:List Addr} {i:Int} {d:D} (r:Reps K H ds vs F) (h:atD ds i=.ok d):∃ v F1,atI vs i=some v/\Rep K H d v F1/\∀ a ∈ F1,a ∈ F:=by
 unfold atD at h
 split at h
 ·rename_i d' e
  cases h
  have e2:Lf.ixN ds.length i=L2.ixN vs.length i:=by rw[r.length]; rfl
  cases e1:Lf.ixN ds.length i with
  | none=>rw[e1] at e; cases e
  | some j=>
   rw[e1] at e
   obtain⟨v,F1,g1,g2,g3⟩:=r.get (show ds[j]?=some _ from e)
   refine⟨v,F1,?_,g2,g3⟩
   unfold atI
   rw[<- e2,e1]
   exact g1
 ·cases h
theorem s_idx (h:isE (.idx p q) X.env.scope X.N e=true) (hp:∀ e,isE p X.env.scope X.N e=true->PE X e (tE X.K C p)) (hq:∀ e,isE q X.env.scope X.N e=true->PE X e (tE X.K C q)):PE X e (tE X.K C (.idx p q)):=by
 unfold isE at h
 split at h
 ·rw[Bool.and_eq_true] at h
  refine pm (pe_ix ix_seq (hp _ h.1) (hq _ h.2) (ix_of (plain_of h.2))) λσ H Q h=>?_
  obtain⟨ρ,Fs,d,S,he,k⟩:=h
  rw[ev_idx] at he
  obtain⟨d1,g1,he⟩:=R.bind_eq_ok he
  obtain⟨d2,g2,he⟩:=R.bind_eq_ok he
  refine two_of S g1 g2 λv1 v2 H2 F1 F2 s r1 r2 c1 c2=>?_
  cases d2 with
  | int i=>
   obtain⟨rfl,_⟩:=r2
   cases d1 with
   | lst xs=>
    obtain⟨a,vs,F',rfl,rr,hq,hs⟩:=r1.lst_
    obtain⟨v,G,e1,e2,e3⟩:=at_of rr he
    exact .inl ⟨a,vs,i,v,rfl,rfl,hq,e1,k v H2 G s e2 (c1.mono (Same.refl _) (λ_ z=>z) λb hb=>hs b (e3 b hb)) (λz=>by cases z)⟩
   | tup xs=>
    obtain⟨a,vs,rfl,hq,rr⟩:=r1
    obtain⟨v,G,e1,e2,e3⟩:=at_of rr he
    exact .inr (.inl ⟨a,vs,i,v,rfl,rfl,hq,e1,k v H2 G s e2 (c1.mono (Same.refl _) (λ_ z=>z) e3) (λz=>by cases z)⟩)
   | _=>cases he
  | _=>cases d1 <;> cases he
 ·cases h
def tP (K:Frag) (C:Str->List D->R D) (ps:Exs):TO:=λσ H Q=>∃ ρ Fs ds o,VR K H σ ρ Fs/\evs C ps ρ=.ok ds/\bound ds=.ok o/\∀ H',Same H H'->Q o H'
theorem s_part {ps:Exs} {o:Option Expr} (h:isO ps X.env.scope X.N o=true) (hp:∀ p e,ps=.cons p .nil->isE p X.env.scope X.N e=true->PE X e (tE X.K C p)):PO X o (tP X.K C ps):=by
 unfold isO at h
 split at h
 ·split at h
  ·intro pins s σ H Q I h
   obtain⟨ρ,Fs,ds,o,S,he,hb,k⟩:=h
   cases he
   cases hb
   exact po_none pins s σ H Q I (k H (Same.refl _))
  ·cases h
 ·rename_i p
  split at h
  ·intro pins s σ H Q I h'
   obtain⟨ρ,Fs,ds,o,S,he,hb,k⟩:=h'
   rw[evs_cons,evs_nil] at he
   obtain⟨d,g1,he⟩:=R.bind_eq_ok he
   cases he
   cases d with
   | int i=>
    cases hb
    refine po_some (hp _ _ rfl h) pins s σ H Q I ⟨ρ,Fs,_,S,g1,λv H1 F s1 r1 _ _=>?_⟩
    obtain⟨rfl,_⟩:=r1
    exact⟨i,rfl,k H1 s1⟩
   | _=>cases hb
  ·cases h
 ·cases h
theorem s_slc {lo hi:Exs} (h:isE (.slc p lo hi) X.env.scope X.N e=true) (hp:∀ e,isE p X.env.scope X.N e=true->PE X e (tE X.K C p))
  (hl:∀ o,isO lo X.env.scope X.N o=true->PO X o (tP X.K C lo)) (hh:∀ o,isO hi X.env.scope X.N o=true->PO X o (tP X.K C hi)):PE X e (tE X.K C (.slc p lo hi)):=by
 unfold isE at h
 split at h
 ·simp only[Bool.and_eq_true] at h
  refine pm (pe_slice (sl_list.or (sl_tup.or sl_tupW)) (hp _ h.1.1) (hl _ h.1.2) (hh _ h.2)) λσ H Q h=>?_
  obtain⟨ρ,Fs,d,S,he,k⟩:=h
  rw[ev_slc] at he
  obtain⟨d1,g1,he⟩:=R.bind_eq_ok he
  obtain⟨l1,g2,he⟩:=R.bind_eq_ok he
  obtain⟨o1,g3,he⟩:=R.bind_eq_ok he
  obtain⟨l2,g4,he⟩:=R.bind_eq_ok he
  obtain⟨o2,g5,he⟩:=R.bind_eq_ok he
  refine⟨ρ,Fs,d1,S,g1,λv1 H1 F1 s1 r1 c1 _=>⟨ρ,Fs,l1,o1,S.more s1,g2,g3,λH2 s2=>⟨ρ,Fs,l2,o2,(S.more s1).more s2,g4,g5,λH3 s3=>?_⟩⟩⟩
  cases d1 with
  | lst xs=>
   cases he
   have r1':=(r1.same s2).same s3
   obtain⟨a,vs,F',rfl,rr,hq,hs⟩:=r1'.lst_
   obtain⟨G,g,gs⟩:=rr.cut o1 o2
   have s13:=s1.trans (s2.trans s3)
   refine .inl ⟨a,vs,rfl,hq,λp hp=>k _ _ _ (s13.trans (same_upd hp)) (Rep.new_lst hp g) (Src.new (s13.free hp) (c1.mono (Same.refl _) (λi hi=>?_) λb hb=>hs b (gs b hb))) (λ_ ds _=>⟨_,_,rfl,s13.free hp⟩)⟩
   simp[vars,hi]
  | tup xs=>
   cases he
   have r1':=(r1.same s2).same s3
   obtain⟨a,vs,rfl,hq,rr⟩:=r1'
   have s13:=s1.trans (s2.trans s3)
   have ix:∀ n d o,Lf.sIx n d o=HT.sIx n d o:=λn d o=>by cases o <;> rfl
   by_cases hw:sIx xs.length 0 o1=0/\sIx xs.length xs.length o2=xs.length
   ·have hc:Lf.cut xs o1 o2=xs:=by
     unfold Lf.cut
     rw[hw.1,hw.2,List.drop_zero,Nat.sub_zero,List.take_length]
    rw[hc] at k
    refine .inr (.inr ⟨a,vs,rfl,hq,by rw[<- rr.length,<- ix,<- ix]; exact hw,k _ _ F1 s13 ⟨a,vs,rfl,hq,rr⟩ (c1.mono (Same.refl _) (λi hi=>?_) λ_ z=>z) (λ_ ds z=>by cases z)⟩)
    simp[vars,hi]
   ·obtain⟨G,g,gs⟩:=rr.cut o1 o2
    refine .inr (.inl ⟨a,vs,rfl,hq,by rw[<- rr.length,<- ix,<- ix]; exact hw,λp hp=>k _ _ _ (s13.trans (same_upd hp)) (Rep.new_tup hp g) (c1.mono (Same.refl _) (λi hi=>?_) gs) (λ_ ds z=>by cases z)⟩)
    simp[vars,hi]
  | _=>cases he
 ·cases h
theorem reps_rep {K:Frag} {H:Hp} {d:D} {v:V} (h:Rep K H d v []):∀ n:Nat,Reps K H (List.replicate n d) (List.replicate n [v]).flatten []
 | 0=>⟨rfl,rfl⟩
 | n+1=>by
  have:=Reps.cons h (reps_rep h n)
  simpa [List.replicate_succ] using this
theorem s_rep (h:isE (.rep p q) X.env.scope X.N e=true) (hp:∀ e,isE p X.env.scope X.N e=true->PE X e (tE X.K C p)) (hq:∀ e,isE q X.env.scope X.N e=true->PE X e (tE X.K C q)):PE X e (tE X.K C (.rep p q)):=by
 unfold isE at h
 split at h
 ·rename_i x lp n pos
  simp only[Bool.and_eq_true] at h
  refine pm (pe_op op_rep (pe_lst (pa_cons (hp _ h.1) pa_nil (star_of (plain_of h.1) _ _))) (hq _ h.2)) λσ H Q h=>?_
  obtain⟨ρ,Fs,d,S,he,k⟩:=h
  rw[ev_rep] at he
  obtain⟨d1,g1,he⟩:=R.bind_eq_ok he
  obtain⟨d2,g2,he⟩:=R.bind_eq_ok he
  cases d2 with
  | int m=>
   have he':(if noL d1&&decide (0<=m)&&fits m.toNat then R.ok (D.lst (List.replicate m.toNat d1)) else .un)=.ok d:=he
   split at he'
   ·rename_i hc
    cases he'
    simp only[Bool.and_eq_true] at hc
    obtain⟨⟨c1,c2⟩,c3⟩:=hc
    refine⟨ρ,Fs,d1,S,g1,λv1 H1 F1 s1 r1 _ _=>?_⟩
    have e0:=r1.noL c1
    subst e0
    refine⟨by rw[sizeLine_eq]; simp,λl hl=>⟨ρ,Fs,_,(S.more s1).more (same_upd hl),g2,λv2 H2 F2 s2 r2 _ _=>?_⟩⟩
    obtain⟨rfl,rfl⟩:=r2
    have b:0<=m:=of_decide_eq_true c2
    have b2:m.toNat<=line:=of_decide_eq_true c3
    rw[line_eq] at b2
    have hH:H2 l=some (.lst [v1]):=s2 _ _ upd_same
    refine⟨l,m,[v1],rfl,rfl,hH,?_,?_,by have:=fits_le c3; simpa using this,λp hp'=>?_⟩
    ·omega
    ·omega
    ·refine k _ _ [p] (s1.trans ((same_upd hl).trans (s2.trans (same_upd hp')))) (Rep.new_lst hp' (reps_rep ((r1.same (same_upd hl)).same s2) _)) (λa ha=>?_) (λ_ ds _=>⟨_,_,rfl,s1.free ((same_upd hl).free (s2.free hp'))⟩)
     have:a=p:=by simpa using ha
     subst this
     exact .inl (s1.free ((same_upd hl).free (s2.free hp')))
   ·cases he'
  | _=>cases he
 ·cases h
end
theorem lk_dc (k:Int):∀ kvs:List (Int × Int),kvAt (dcK kvs) (.inl k)=(kvs.lookup k).map V.int
 | []=>rfl
 | p::kvs=>by
  obtain⟨a,b⟩:=p
  unfold dcK kvAt
  rw[List.map_cons,List.find?_cons,List.lookup_cons]
  by_cases h:a=k
  ·subst h
   simp
  ·have h1:decide ((Sum.inl a:Key)=.inl k)=false:=decide_eq_false λz=>h (Sum.inl.inj z)
   have h2:(k==a)=false:=beq_false_of_ne (Ne.symm h)
   simp only[h1,h2]
   exact lk_dc k kvs
theorem dix_inv {s:Option (Option (D × Bool))} {x d:D} (h:dixD s x=.ok d):∃ kvs o k v,s=some (some (.dct kvs,o))/\x=.int k/\kvs.lookup k=some v/\d=.int v:=by
 unfold dixD at h
 split at h
 ·rename_i kvs o k
  split at h
  ·rename_i v hv
   cases h
   exact⟨kvs,o,k,v,rfl,rfl,hv,rfl⟩
  ·cases h
 ·cases h
section
variable {X:Cx} {C:Str->List D->R D} {e:Expr} {p:Ex} {i:Nat}
theorem pe_V (h:isV i X.env.scope X.N e=true):PE X e (tVar i)/\plainX e=true:=by
 unfold isV at h
 split at h
 ·simp only[Bool.and_eq_true,beq_iff_eq] at h
  obtain⟨⟨⟨h1,h2⟩,h3⟩,h4⟩:=h
  refine⟨pe_var h1 ?_ h3 h4,rfl⟩
  unfold visB at h2
  split at h2
  ·rename_i z; exact .inl z
  ·rename_i z; exact .inr (.inl z)
  ·rename_i z; exact .inr (.inr z)
  ·cases h2
 ·cases h
theorem dc_of {K:Frag} {H:Hp} {kvs:List (Int × Int)} {v:V} {F:List Addr} (r:RepS K H (.dct kvs) v F):∃ a,v=.ref a/\H a=some (.dK (dcK kvs))/\F=[]:=by
 rcases r with r | ⟨kvs',a,e1,e2,e3,e4⟩ | r
 ·exact r.elim
 ·cases e1
  exact⟨a,e2,e3,e4⟩
 ·exact r.elim
theorem s_dix (h:isE (.dix i p) X.env.scope X.N e=true) (hp:∀ e,isE p X.env.scope X.N e=true->PE X e (tE X.K C p)):PE X e (tE X.K C (.dix i p)):=by
 obtain⟨y,z,pos,rfl,h1,h2⟩:=iv_dix h
 refine pm (pe_ix ix_dk (pe_V h1).1 (hp _ h2) (ix_of (plain_of h2))) λσ H Q h=>?_
 obtain⟨ρ,Fs,d,S,he,k⟩:=h
 rw[ev_dix] at he
 obtain⟨x,g1,he⟩:=R.bind_eq_ok he
 obtain⟨kvs,o,kk,v,e1,rfl,hl,rfl⟩:=dix_inv he
 obtain⟨v0,hv,r⟩:=S.val i _ o e1
 obtain⟨a,rfl,e3,_⟩:=dc_of r
 refine⟨.ref a,hv,⟨ρ,Fs,_,S,g1,λv1 H1 F1 s1 r1 c1 _=>?_⟩⟩
 obtain⟨rfl,rfl⟩:=r1
 exact⟨a,dcK kvs,kk,.int v,rfl,rfl,s1 _ _ e3,by rw[lk_dc,hl]; rfl,k _ _ _ s1 rep_int Src.nil (λz=>by cases z)⟩
theorem s_cald {T:Tab} {n:Nat} {f:Str} (M:Md T n X) (h:isE (.cald f i p) X.env.scope X.N e=true) (hp:∀ e,isE p X.env.scope X.N e=true->PE X e (tE X.K (run T n) p)):PE X e (tE X.K (run T n) (.cald f i p)):=by
 have key:∀ {ρ:Env} {d:D},ev (run T n) (.cald f i p) ρ=.ok d->∃ x kvs o,ev (run T n) p ρ=.ok x/\ρ[i]?=some (some (.dct kvs,o))/\run T n f [.dct kvs,x]=.ok d:=λ{ρ d} he=>by
  rw[ev_cald] at he
  obtain⟨x,g1,he⟩:=R.bind_eq_ok he
  split at he
  ·rename_i kvs o e1
   exact⟨x,kvs,o,g1,e1,he⟩
  ·cases he
 cases e':T.lookup f with
 | none=>
  intro pins s σ H Q I h
  obtain⟨ρ,Fs,d,S,he,k⟩:=h
  obtain⟨x,kvs,o,_,_,he⟩:=key he
  obtain⟨fn,e''⟩:=run_some he
  rw[e'] at e''
  cases e''
 | some fn=>
  obtain⟨g,pp,y,z,pos,rfl,h'⟩:=iv_cald h
  simp only[Bool.and_eq_true,beq_iff_eq] at h'
  obtain⟨⟨⟨⟨rfl,h2⟩,h3⟩,h4⟩,h5⟩:=h'
  obtain⟨a,fd,pn,m1,m2,m3,m4⟩:=M.fn f fn e'
  obtain⟨pv,hy⟩:=pe_V h4
  have hz:=plain_of h5
  have st:(backTo pos (starEach [z] X.env)).any (·.1)=false:=by rw[star_of hz]; rfl
  refine pmI (pe_call m4 M.room (gl_of h2) m1 m2 m3 .nil passX0 (pa_cons pv (pa_cons (hp _ h5) pa_nil (star_of hz _ _)) (star_of hy _ _)) h3 (star_of hy _ _) st) λpins s σ H Q I h=>?_
  obtain⟨ρ,Fs,d,S,he,k⟩:=h
  obtain⟨x,kvs,o,g1,e1,he⟩:=key he
  obtain⟨v0,hv,r⟩:=S.val i _ o e1
  obtain⟨b,rfl,e3,_⟩:=dc_of r
  refine⟨.ref b,hv,⟨ρ,Fs,x,S,g1,λv1 H1 F1 s1 r1 c1 _=>?_⟩⟩
  show spF X.mg (Tb T X.K X.mg) (allFs fn.body) X.K (run T n) f ([.ref b,v1]++[]) H1 Q E0
  rw[List.append_nil]
  refine⟨(M.tbI I).same s1,.inl ⟨[.dct kvs,x],F1,d,⟨.ref b,[v1],[],F1,rfl,rfl,.inr (.inl ⟨kvs,b,rfl,rfl,s1 _ _ e3,rfl⟩),(Reps.one r1).S⟩,he,λv H' G s' r' c' fr=>k v H' G (s1.trans s') r' (λq hq=>?_) (λz=>by cases z)⟩⟩
  rcases c' q hq with z | z
  ·exact .inl (s1.free z)
  ·exact c1 q z
end
section
variable {X:Cx} {C:Str->List D->R D} {pos:Pos} {e:Expr} {p q r:Ex}
def rB (K:Frag) (f:B1):List V->Hp->VK->Prop:=λxs H Q=>∃ x d1 F1 d,xs=[x]/\Rep K H d1 x F1/\call1 f d1=.ok d /\
 ∀ v H' F,Same H H'->Rep K H' d v F->(∀ a ∈ F,H a=none\/a ∈ F1)->((f=.list\/f=.sorted)->∀ ds,d=.lst ds->∃ a F',F=a::F'/\H a=none)->Q v H'
theorem c_len:CallR X (.builtin "len") (rB X.K .len):=by
 intro pins s σ H xs us Q I rv h
 obtain⟨x,d1,F1,d,rfl,h1,e,k⟩:=h
 have key:∀ ds,seqOf d1=some ds->d=.int ds.length->wpAny (model X.prog X.w) X.A (call (.builtin "len") us) (EP X pins σ Q) X.xe s:=λds h2 h3=>by
  subst h3
  obtain⟨a,vs,F',rfl,rr,hq,_⟩:=h1.seq h2
  refine call_len_seq pins s σ H _ us Q I rv ⟨a,vs,rfl,hq,?_⟩
  have:=k (.int ds.length) H [] (Same.refl _) rep_int (λ_ z=>nomatch z) (λ_ ds z=>by cases z)
  rw[rr.length] at this
  exact this
 cases d1 with
 | lst ds=>cases e; exact key ds rfl rfl
 | tup ds=>cases e; exact key ds rfl rfl
 | _=>cases e
theorem c_tuple:CallR X (.type "tuple") (rB X.K .tuple):=by
 intro pins s σ H xs us Q I rv h
 obtain⟨x,d1,F1,d,rfl,h1,e,k⟩:=h
 cases d1 with
 | lst ds=>
  cases e
  obtain⟨a,vs,F',rfl,rr,hq,hs⟩:=h1.lst_
  refine call_tuple_of pins s σ H _ us Q I rv ⟨a,vs,rfl,.inl ⟨hq,λp hp=>?_⟩⟩
  exact k _ _ _ (same_upd hp) (Rep.new_tup hp rr) (λb hb=>.inr (hs b hb)) (λz=>by rcases z with z | z <;> cases z)
 | tup ds=>
  cases e
  obtain⟨a,vs,rfl,hq,rr⟩:=id h1
  refine call_tuple_of pins s σ H _ us Q I rv ⟨a,vs,rfl,.inr ⟨hq,?_⟩⟩
  exact k _ _ _ (Same.refl _) h1 (λb hb=>.inr hb) (λz=>by rcases z with z | z <;> cases z)
 | _=>cases e
theorem c_list:CallR X (.type "list") (rB X.K .list):=by
 intro pins s σ H xs us Q I rv h
 obtain⟨x,d1,F1,d,rfl,h1,e,k⟩:=h
 have key:∀ ds,seqOf d1=some ds->d=.lst ds->wpAny (model X.prog X.w) X.A (call (.type "list") us) (EP X pins σ Q) X.xe s:=λds h2 h3=>by
  subst h3
  obtain⟨a,vs,F',rfl,rr,hq,hs⟩:=h1.seq h2
  refine call_list_of pins s σ H _ us Q I rv ⟨a,vs,rfl,hq,λp hp=>?_⟩
  refine k _ _ _ (same_upd hp) (Rep.new_lst hp rr) (λb hb=>?_) (λ_ ds _=>⟨_,_,rfl,hp⟩)
  rcases List.mem_cons.mp hb with rfl | hb
  ·exact .inl hp
  ·exact .inr (hs b hb)
 cases d1 with
 | lst ds=>cases e; exact key ds rfl rfl
 | tup ds=>cases e; exact key ds rfl rfl
 | _=>cases e
theorem c_int:CallR X (.type "int") (rB X.K .int):=by
 intro pins s σ H xs us Q I rv h
 obtain⟨x,d1,F1,d,rfl,h1,e,k⟩:=h
 cases d1 with
 | bl b=>
  cases e
  obtain⟨rfl,rfl⟩:=h1
  exact call_int1 pins s σ H _ us Q I rv (.inr ⟨b,rfl,k _ _ _ (Same.refl _) rep_int (λ_ z=>nomatch z) (λ_ ds z=>by cases z)⟩)
 | int b=>
  cases e
  obtain⟨rfl,rfl⟩:=h1
  exact call_int1 pins s σ H _ us Q I rv (.inl ⟨b,rfl,k _ _ _ (Same.refl _) rep_int (λ_ z=>nomatch z) (λ_ ds z=>by cases z)⟩)
 | _=>cases e
theorem s_cst {T:Tab} {n i:Nat} (M:Md T n X) (h:isE (.cst i) X.env.scope X.N e=true):PE X e (tE X.K C (.cst i)):=by
 unfold isE at h
 split at h
 ·simp only[Bool.and_eq_true,beq_iff_eq] at h
  obtain⟨⟨h1,h2⟩,h3⟩:=h
  cases e2:csts[i]? with
  | none=>rw[e2] at h1; cases h1
  | some q=>
   rw[e2] at h1
   have h1':=beq_iff_eq.mp h1
   obtain⟨u,v,m1,m2,m3⟩:=(M.cs q (List.mem_of_getElem? e2)).ex
   rw[h1'] at m1
   refine pm (pe_glob (gl_of h2) m1 m2 h3) λσ H Q h=>?_
   obtain⟨ρ,Fs,d,S,he,k⟩:=h
   rw[ev_cst,e2] at he
   cases he
   exact k v H [] (Same.refl _) (m3 H) Src.nil (λz=>by cases z)
 ·cases h
theorem bools_of {K:Frag} {H:Hp}:∀ {ds:List D} {bs:List Bool} {vs:List V} {F:List Addr} {us:List Value},boolsOf ds=some bs->Reps K H ds vs F->Vals vs us->LSm.BoolsAre us bs
 | [],_,_,_,_,e,⟨rfl,rfl⟩,r=>by cases e; cases r; exact .nil
 | .bl b::ds,bs,_,_,_,e,⟨v,vs,F,G,rfl,rfl,h,g⟩,r=>by
  rw[boolsOf] at e
  cases e2:boolsOf ds with
  | none=>rw[e2] at e; cases e
  | some bs'=>
   rw[e2] at e
   cases e
   obtain⟨rfl,rfl⟩:=h
   cases r with
   | cons r1 r2=>cases r1; exact .cons _ (bools_of e2 g r2)
 | .non::_,_,_,_,_,e,_,_=>by cases e
 | .int _::_,_,_,_,_,e,_,_=>by cases e
 | .str _::_,_,_,_,_,e,_,_=>by cases e
 | .tup _::_,_,_,_,_,e,_,_=>by cases e
 | .lst _::_,_,_,_,_,e,_,_=>by cases e
theorem c_any (hA:X.calm=true):CallR X (.builtin "any") (rB X.K .any)/\CallR X (.builtin "all") (rB X.K .all):=by
 constructor
 all_goals
  intro pins s σ H xs us Q I rv h
  obtain⟨x,d1,F1,d,rfl,h1,e,k⟩:=h
  cases d1 with
  | lst ds=>
   obtain⟨a,vs,F',rfl,rr,hq,_⟩:=h1.lst_
   rw[call1] at e
   cases hb:boolsOf ds with
   | none=>rw[hb] at e; cases e
   | some bs=>
    rw[hb] at e
    cases e
    obtain⟨u,rfl,ru⟩:=Vals.one rv
    cases ru
    obtain⟨its,hv,pl,_⟩:=I.list hq
    obtain⟨m,hm,_⟩:=I.loc
    first
     | exact LSm.any_bools (Att.fr_all hm) news_all (I.ok.hd hA) pl.isList (bools_of hb rr hv) λh' tk F N=>⟨.bl _,H,I.walked hm F N,rfl,k _ _ _ (Same.refl _) rep_bl (λ_ z=>nomatch z) (λ_ ds z=>by cases z)⟩
     | exact LSm.all_bools (Att.fr_all hm) news_all (I.ok.hd hA) pl.isList (bools_of hb rr hv) λh' tk F N=>⟨.bl _,H,I.walked hm F N,rfl,k _ _ _ (Same.refl _) rep_bl (λ_ z=>nomatch z) (λ_ ds z=>by cases z)⟩
  | _=>cases e
theorem b1_in {f:B1} {σ:L2.St} {H:Hp} {Q:VK} (h:tE X.K C (.b1 f p) σ H Q):tCB (rB X.K f) (tCons (tE X.K C p) tNil) σ H Q:=by
 obtain⟨ρ,Fs,d,S,he,k⟩:=h
 rw[ev_b1] at he
 obtain⟨d1,g1,he⟩:=R.bind_eq_ok he
 refine⟨ρ,Fs,d1,S,g1,λv1 H1 F1 s1 r1 c1 _=>⟨v1,d1,F1,d,rfl,r1,he,λv H' F s' r' c' f'=>k v H' F (s1.trans s') r' (λa ha=>?_) λz ds e=>?_⟩⟩
 ·rcases c' a ha with z | z
  ·exact .inl (s1.free z)
  ·exact c1 a z
 ·obtain⟨a,F',e1,e2⟩:=f' (by cases f <;> first | exact .inl rfl | exact .inr rfl | cases z) ds e
  exact⟨a,F',e1,s1.free e2⟩
theorem s_b1 {T:Tab} {n:Nat} {f:B1} (M:Md T n X) (hs:CallR X (.builtin "sorted") (rB X.K .sorted)) (h:isE (.b1 f p) X.env.scope X.N e=true) (hp:∀ e,isE p X.env.scope X.N e=true->PE X e (tE X.K C p)):PE X e (tE X.K C (.b1 f p)):=by
 obtain⟨_,_,_,_,rfl,h'⟩:=iv_b1 h; clear h; have h:=h'
 ·simp only[Bool.and_eq_true,beq_iff_eq] at h
  obtain⟨⟨rfl,h2⟩,h3⟩:=h
  have hx:=plain_of h3
  have hg:=gl_of h2
  have hd:∀ f:B1,b1N f ∈ blts:=by intro f; cases f <;> decide +kernel
  have hm:=M.blt _ (hd f)
  have ha:=pa_cons (hp _ h3) pa_nil (star_of hx _ _)
  have b1:bootBuiltins (b1N .len)=some (.builtin "len"):=PySem.boot_len
  have b2:bootBuiltins (b1N .tuple)=some (.type "tuple"):=by decide +kernel
  have b3:bootBuiltins (b1N .list)=some (.type "list"):=by decide +kernel
  have b4:bootBuiltins (b1N .sorted)=some (.builtin "sorted"):=by decide +kernel
  have b5:bootBuiltins (b1N .int)=some (.type "int"):=by decide +kernel
  have b6:bootBuiltins (b1N .any)=some (.builtin "any"):=by decide +kernel
  have b7:bootBuiltins (b1N .all)=some (.builtin "all"):=by decide +kernel
  cases f with
  | len=>exact pm (pe_callB c_len hg hm b1 ha (by decide +kernel) (by decide +kernel) (star_of hx _ _) rfl) λσ H Q h=>b1_in h
  | tuple=>exact pm (pe_callTy c_tuple hg hm b2 ha (by decide +kernel) (by decide +kernel) (star_of hx _ _) rfl) λσ H Q h=>b1_in h
  | list=>exact pm (pe_callTy c_list hg hm b3 ha (by decide +kernel) (by decide +kernel) (star_of hx _ _) rfl) λσ H Q h=>b1_in h
  | sorted=>exact pm (pe_callB hs hg hm b4 ha (by decide +kernel) (by decide +kernel) (star_of hx _ _) rfl) λσ H Q h=>b1_in h
  | int=>exact pm (pe_callTy c_int hg hm b5 ha (by decide +kernel) (by decide +kernel) (star_of hx _ _) rfl) λσ H Q h=>b1_in h
  | any=>exact pm (pe_callB (c_any M.calm).1 hg hm b6 ha (by decide +kernel) (by decide +kernel) (star_of hx _ _) rfl) λσ H Q h=>b1_in h
  | all=>exact pm (pe_callB (c_any M.calm).2 hg hm b7 ha (by decide +kernel) (by decide +kernel) (star_of hx _ _) rfl) λσ H Q h=>b1_in h
def tyS:Ty->String
 | .int => "int"
 | .bool => "bool"
 | .list => "list"
 | .tuple => "tuple"
 | .str => "str"
theorem c_ins {t:Ty}:CallR X (.builtin "isinstance") (λxs H Q=>∃ x d F,xs=[x,.ty (tyS t)]/\Rep X.K H d x F/\Q (.bl (isTy t d)) H):=by
 intro pins s σ H xs us Q I rv h
 obtain⟨x,d,F,rfl,h,k⟩:=h
 obtain⟨u,w,rfl,ru,rw'⟩:=Vals.two rv
 cases rw'
 have fin:∀ tk,EP X pins σ Q (.bool (isTy t d)) { s with toks:=tk }:=λtk=>⟨.bl _,H,I.tok tk,rfl,k⟩
 cases d with
 | non=>obtain⟨rfl,_⟩:=h; cases ru; cases t <;> exact PySem.W.kia_one PySem.W.kitx_none I.kIn True.intro rfl (λz=>nomatch z) fin
 | bl b=>obtain⟨rfl,_⟩:=h; cases ru; cases t <;> exact PySem.W.kia_one PySem.W.kitx_bool I.kIn True.intro rfl (λz=>nomatch z) fin
 | int b=>obtain⟨rfl,_⟩:=h; obtain⟨tk,rfl⟩:=ru; cases t <;> exact PySem.W.kia_one PySem.W.kitx_int I.kIn True.intro rfl (λz=>nomatch z) fin
 | str b=>obtain⟨rfl,_⟩:=h; obtain⟨tk,rfl⟩:=ru; cases t <;> exact PySem.W.kia_one PySem.W.kitx_str I.kIn True.intro rfl (λz=>nomatch z) fin
 | dct _=>exact h.elim
 | tup ds=>
  obtain⟨a,vs,rfl,hq,_⟩:=h
  cases ru
  obtain⟨o,e,c,_⟩:=I.tupObj hq
  cases t <;> exact PySem.W.kia_one PySem.W.kitx_tuple I.kIn ⟨o,e,c⟩ rfl (λz=>nomatch z) fin
 | lst ds=>
  obtain⟨a,vs,F',rfl,_,hq,_⟩:=h.lst_
  cases ru
  obtain⟨its,_,⟨o,n,e,c,_⟩,_⟩:=I.list hq
  cases t <;> exact PySem.W.kia_one PySem.W.kitx_list I.kIn ⟨o,e,c⟩ rfl (λz=>nomatch z) fin
theorem s_ins {T:Tab} {n:Nat} {t:Ty} (M:Md T n X) (h:isE (.ins t p) X.env.scope X.N e=true) (hp:∀ e,isE p X.env.scope X.N e=true->PE X e (tE X.K C p)):PE X e (tE X.K C (.ins t p)):=by
 obtain⟨_,_,_,_,_,_,rfl,h'⟩:=iv_ins h; clear h; have h:=h'
 ·simp only[Bool.and_eq_true,beq_iff_eq] at h
  obtain⟨⟨⟨⟨rfl,h2⟩,rfl⟩,h4⟩,h5⟩:=h
  have hx:=plain_of h5
  have hb:bootBuiltins (tyN t)=some (.type (tyS t)):=by cases t <;> decide +kernel
  have hd:tyN t ∈ blts:=by cases t <;> decide +kernel
  have hty:∀ pos,PE X (.Name (tyN t) pos) (tC (.ty (tyS t))):=λpos=>pe_bltn (gl_of h4) (M.blt _ hd) hb rfl (by cases t <;> decide +kernel) (by cases t <;> decide +kernel)
  have ha:=λpos=>pa_cons (hp _ h5) (pa_cons (hty pos) pa_nil rfl) (star_of hx _ _)
  refine pm (pe_callB (c_ins (t:=t)) (gl_of h2) (M.blt _ (by decide +kernel)) (by decide +kernel) (ha _) (by decide +kernel) (by decide +kernel) (star_of hx _ _) rfl) λσ H Q h=>?_
  obtain⟨ρ,Fs,d,S,he,k⟩:=h
  rw[ev_ins] at he
  obtain⟨d1,g1,he⟩:=R.bind_eq_ok he
  cases he
  exact⟨ρ,Fs,d1,S,g1,λv1 H1 F1 s1 r1 c1 _=>⟨v1,d1,F1,rfl,r1,k _ _ _ s1 rep_bl Src.nil (λz=>by cases z)⟩⟩
theorem count_hit {pins:List (Addr × Obj)} {σ:L2.St} {H:Hp} {s:Shared} (I:Inv X pins σ H s) {x:D}:∀ {ds:List D} {vs:List V} {F:List Addr} {us:List Value},Reps X.K H ds vs F->Vals vs us->us.countP (hitV X.K H x)=countD x ds
 | [],_,_,_,h,.nil=>rfl
 | [],_,_,_,h,.cons _ _=>by obtain⟨z,_⟩:=h; cases z
 | d::ds,_,_,_,h,.nil=>by obtain⟨_,_,_,_,z,_⟩:=h; cases z
 | d::ds,_,_,_,h,.cons r t=>by
  obtain⟨v,w,F1,F2,z,_,h1,h2⟩:=h
  cases z
  rw[List.countP_cons,hitV_of I r h1,count_hit I h2 t]
  unfold countD
  rw[List.filter_cons]
  cases eqD d x <;> simp
theorem find_hit {pins:List (Addr × Obj)} {σ:L2.St} {H:Hp} {s:Shared} (I:Inv X pins σ H s) {x:D}:∀ {ds:List D} {vs:List V} {F:List Addr} {us:List Value} {j:Nat},Reps X.K H ds vs F->Vals vs us->findD x ds=some j ->
  ∃ hj:j<us.length,hitV X.K H x us[j]=true/\∀ m (hm:m<us.length),m<j->hitV X.K H x us[m]=false
 | [],_,_,_,_,h,_,e=>by cases e
 | d::ds,_,_,_,_,h,.nil,e=>by obtain⟨_,_,_,_,z,_⟩:=h; cases z
 | d::ds,_,_,_,j,h,.cons r t,e=>by
  obtain⟨v,w,F1,F2,z,_,h1,h2⟩:=h
  cases z
  unfold findD at e
  split at e
  ·rename_i hx
   cases e
   exact⟨by simp,by simp[hitV_of I r h1,hx],λm _ hm=>by omega⟩
  ·rename_i hx
   cases e1:findD x ds with
   | none=>rw[e1] at e; cases e
   | some i=>
    rw[e1] at e
    cases e
    obtain⟨hj,g1,g2⟩:=find_hit I h2 t e1
    refine⟨by simpa using hj,by simpa using g1,λm hm hlt=>?_⟩
    cases m with
    | zero=>simp[hitV_of I r h1]; simpa using hx
    | succ m=>
     have hlt':m+1<i+1:=hlt
     simpa using g2 m (by simpa using hm) (by omega)
theorem rng_vals {K:Frag} {H:Hp} (n:Nat):Reps K H (rangeD (n:Int)) (rngV n) []:=by
 have:∀ l:List Nat,Reps K H (l.map λ(i:Nat)=>D.int (i:Int)) (l.map λ(i:Nat)=>V.int (i:Int)) []:=by
  intro l
  induction l with
  | nil=>exact⟨rfl,rfl⟩
  | cons a l ih=>exact⟨_,_,[],[],rfl,rfl,⟨rfl,rfl⟩,ih⟩
 have:=this (List.range n)
 simpa [rangeD,rngV] using this
theorem s_rngL {T:Tab} {n:Nat} {t:Bool} (M:Md T n X) (h:isE (.rngL t p) X.env.scope X.N e=true) (hp:∀ e,isE p X.env.scope X.N e=true->PE X e (tE X.K C p)):PE X e (tE X.K C (.rngL t p)):=by
 obtain⟨_,_,_,_,_,_,_,rfl,h'⟩:=iv_rngL h; clear h; have h:=h'
 ·simp only[Bool.and_eq_true,beq_iff_eq] at h
  obtain⟨⟨⟨⟨rfl,h2⟩,rfl⟩,h4⟩,h5⟩:=h
  have hx:=plain_of h5
  have hb:bootBuiltins (if t then ("tuple" : Str) else "list")=some (.type (if t then "tuple" else "list")):=by cases t <;> decide +kernel
  have hd:(if t then ("tuple" : Str) else "list") ∈ blts:=by cases t <;> decide +kernel
  refine pm (pe_rngL (tup:=t) M.calm hb (gl_of h2) (M.blt _ hd) (by cases t <;> decide +kernel) (by cases t <;> decide +kernel) (gl_of h4) (M.blt _ (by decide +kernel)) (pa_cons (hp _ h5) pa_nil (star_of hx _ _)) (star_of hx _ _)) λσ H Q h=>?_
  obtain⟨ρ,Fs,d,S,he,k⟩:=h
  rw[ev_rngL] at he
  obtain⟨d1,g1,he⟩:=R.bind_eq_ok he
  cases d1 with
  | int m=>
   have he':(if 0<=m/\m<=(line:Int) then R.ok (if t then D.tup (rangeD m) else D.lst (rangeD m)) else .un)=.ok d:=he
   split at he'
   ·rename_i hm
    have hl:(line:Int)=1000000:=by rw[line_eq]; rfl
    refine⟨ρ,Fs,_,S,g1,λv1 H1 F1 s1 r1 c1 _=>?_⟩
    obtain⟨rfl,rfl⟩:=r1
    refine⟨m,rfl,hm.1,by omega,λq hq=>?_⟩
    have em:rangeD m=rangeD ((m.toNat:Nat):Int):=by rw[show ((m.toNat:Nat):Int)=m by omega]
    cases t with
    | true=>
     cases he'
     refine k _ _ [] (s1.trans (same_upd hq)) ?_ Src.nil (λ_ ds z=>by cases z)
     rw[if_pos rfl,if_pos rfl,em]
     exact Rep.new_tup hq (rng_vals _)
    | false=>
     cases he'
     refine k _ _ [q] (s1.trans (same_upd hq)) ?_ (Src.new (s1.free hq) Src.nil) (λ_ ds z=>⟨_,_,rfl,s1.free hq⟩)
     rw[if_neg Bool.false_ne_true,if_neg Bool.false_ne_true,em]
     exact Rep.new_lst hq (rng_vals _)
   ·cases he'
  | _=>cases he
def rM (K:Frag) (m:M1) (tup:Bool):V->List V->Hp->VK->Prop:=λo xs H Q=>∃ x d1 d2 F1 F2 ds n,xs=[x]/\Rep K H d1 o F1/\Rep K H d2 x F2/\d1=(if tup then .tup ds else .lst ds)/\meth1 m d1 d2=.ok (.int n)/\Q (.int n) H
theorem meth_int {m:M1} {d1 d2 d:D} (h:meth1 m d1 d2=.ok d):lo 9 d2=true/\∃ ds,seqOf d1=some ds/\(match m with | .index=>∃ j,findD d2 ds=some j/\d=.int j | .count=>d=.int (countD d2 ds)):=by
 cases m with
 | index=>
  cases d1 with
  | lst xs=>
   simp only[meth1] at h
   split at h
   ·rename_i hl
    split at h
    ·rename_i j e2
     cases h
     exact⟨hl,xs,rfl,j,e2,rfl⟩
    ·cases h
   ·cases h
  | tup xs=>
   simp only[meth1] at h
   split at h
   ·rename_i hl
    split at h
    ·rename_i j e2
     cases h
     exact⟨hl,xs,rfl,j,e2,rfl⟩
    ·cases h
   ·cases h
  | _=>cases h
 | count=>
  simp only[meth1] at h
  split at h
  ·rename_i hl
   split at h
   ·rename_i ds e
    cases h
    exact⟨hl,ds,e,rfl⟩
   ·cases h
  ·cases h
theorem mt_lcount (hu:X.A.units+40<cLine):MtR X "list.count" (rM X.K .count false):=by
 intro pins s σ H o xs v us Q I ro rv h
 obtain⟨x,d1,d2,F1,F2,ds,n,rfl,h1,h2,rfl,e,k⟩:=h
 obtain⟨u,rfl,ru⟩:=Vals.one rv
 obtain⟨hl,ds',e1,e2⟩:=meth_int e
 cases e1
 cases e2
 obtain⟨a,vs,F',rfl,rr,hq,_⟩:=h1.lst_
 cases ro
 obtain⟨its,rv',p,_⟩:=I.list hq
 obtain⟨⟨cls,dd,data,sl⟩,ho,hc,n,hd⟩:=p.isList
 simp only at hc hd
 subst hc hd
 refine call_meets PySem.F.slot_list_count ⟨_,ho,rfl⟩ PySem.F.entry_list_count (PySem.F.args_list_count_2 _ _) (SeqAt.list_countAt a its.toArray n dd sl u (hitV X.K H d2)) ⟨ho,λw hw=>hit_at I X.A.in1 (by show X.A.units+1+20<cLine; omega) hl h2 ru rr rv' w (by simpa using hw),?_⟩
 refine⟨.int (countD d2 ds),H,I.tok _,⟨s.toks,?_⟩,k⟩
 rw[<- count_hit I rr rv']
theorem mt_tcount (hu:X.A.units+40<cLine):MtR X "tuple.count" (rM X.K .count true):=by
 intro pins s σ H o xs v us Q I ro rv h
 obtain⟨x,d1,d2,F1,F2,ds,n,rfl,h1,h2,rfl,e,k⟩:=h
 obtain⟨u,rfl,ru⟩:=Vals.one rv
 obtain⟨hl,ds',e1,e2⟩:=meth_int e
 cases e1
 cases e2
 obtain⟨a,vs,rfl,hq,rr⟩:=h1
 cases ro
 obtain⟨its,rv',p,_⟩:=I.tuple hq
 obtain⟨⟨cls,dd,data,sl⟩,ho,hc,n,hd⟩:=p
 simp only at hc hd
 subst hc hd
 refine call_meets PySem.F.slot_tuple_count ⟨_,ho,rfl⟩ PySem.F.entry_tuple_count (PySem.F.args_tuple_count_2 _ _) (SeqAt.tuple_countAt a its.toArray n dd sl u (hitV X.K H d2)) ⟨ho,λw hw=>hit_at I X.A.in1 (by show X.A.units+1+20<cLine; omega) hl h2 ru rr rv' w (by simpa using hw),?_⟩
 refine⟨.int (countD d2 ds),H,I.tok _,⟨s.toks,?_⟩,k⟩
 rw[<- count_hit I rr rv']
theorem mt_lindex (hu:X.A.units+40<cLine):MtR X "list.index" (rM X.K .index false):=by
 intro pins s σ H o xs v us Q I ro rv h
 obtain⟨x,d1,d2,F1,F2,ds,n,rfl,h1,h2,rfl,e,k⟩:=h
 obtain⟨u,rfl,ru⟩:=Vals.one rv
 obtain⟨hl,ds',e1,j,ej,e2⟩:=meth_int e
 cases e1
 cases e2
 obtain⟨a,vs,F',rfl,rr,hq,_⟩:=h1.lst_
 cases ro
 obtain⟨its,rv',p,hz⟩:=I.list hq
 obtain⟨⟨cls,dd,data,sl⟩,ho,hc,n,hd⟩:=p.isList
 simp only at hc hd
 subst hc hd
 obtain⟨hj,g1,g2⟩:=find_hit I rr rv' ej
 have l1:=rv'.length
 have l2:=line63
 refine call_meets PySem.F.slot_list_index ⟨_,ho,rfl⟩ PySem.F.entry_list_index (PySem.F.args_list_index_2 _ _) (SeqAt.list_indexAt a its.toArray n dd sl u (hitV X.K H d2) j (by simpa using hj) (by omega) (by simpa using g1) (λm hm hlt=>by simpa using g2 m (by simpa using hm) hlt))
  ⟨ho,λw hw=>hit_at I X.A.in1 (by show X.A.units+1+20<cLine; omega) hl h2 ru rr rv' w (by simpa using hw),?_⟩
 exact⟨.int j,H,I.tok _,⟨s.toks,rfl⟩,k⟩
theorem mt_tindex (hu:X.A.units+40<cLine):MtR X "tuple.index" (rM X.K .index true):=by
 intro pins s σ H o xs v us Q I ro rv h
 obtain⟨x,d1,d2,F1,F2,ds,n,rfl,h1,h2,rfl,e,k⟩:=h
 obtain⟨u,rfl,ru⟩:=Vals.one rv
 obtain⟨hl,ds',e1,j,ej,e2⟩:=meth_int e
 cases e1
 cases e2
 obtain⟨a,vs,rfl,hq,rr⟩:=h1
 cases ro
 obtain⟨its,rv',p,_⟩:=I.tuple hq
 obtain⟨⟨cls,dd,data,sl⟩,ho,hc,n,hd⟩:=p
 simp only at hc hd
 subst hc hd
 obtain⟨hj,g1,g2⟩:=find_hit I rr rv' ej
 refine call_meets PySem.F.slot_tuple_index ⟨_,ho,rfl⟩ PySem.F.entry_tuple_index (PySem.F.args_tuple_index_2 _ _) (tup_indexAt a its.toArray n dd sl u (hitV X.K H d2) j (by simpa using hj) (by simpa using g1) (λm hm hlt=>by simpa using g2 m (by simpa using hm) hlt))
  ⟨ho,λw hw=>hit_at I X.A.in1 (by show X.A.units+1+20<cLine; omega) hl h2 ru rr rv' w (by simpa using hw),?_⟩
 exact⟨.int j,H,I.tok _,⟨s.toks,rfl⟩,k⟩
end
section
variable {X:Cx} {C:Str->List D->R D} {pos:Pos} {e:Expr} {p q r:Ex}
def plainTX:Expr->Bool
 | .UnaryOp .Not _ _=>false
 | .BoolOp _ _ _=>false
 | .IfExp _ _ _ _=>false
 | .Compare _ _ _ _=>false
 | _=>true
theorem true_of {e:Expr} (h:plainTX e=true) (env:PySem.Env) (whole:Sem Value):isTrue e env whole=(do let v <- whole; standAt e.pos; holding [v] (truthy v)):=by
 cases e with
 | UnaryOp o a pos=>cases o <;> first | rfl | cases h
 | BoolOp _ _ _=>cases h
 | IfExp _ _ _ _=>cases h
 | Compare _ _ _ _=>cases h
 | _=>rfl
theorem truV_of {K:Frag} {H:Hp} {d:D} {v:V} {F:List Addr} {b:Bool} (h:Rep K H d v F) (e:truth d=.ok b):TruV K v H b:=by
 cases d with
 | non=>obtain⟨rfl,_⟩:=h; cases e; rfl
 | bl c=>obtain⟨rfl,_⟩:=h; cases e; rfl
 | int c=>obtain⟨rfl,_⟩:=h; cases e; rfl
 | str c=>cases e
 | dct _=>exact h.elim
 | tup ds=>
  obtain⟨a,vs,rfl,hq,rr⟩:=h
  cases e
  refine .inr (.inl ⟨vs,hq,?_⟩)
  have:=rr.length
  cases ds <;> cases vs <;> first | rfl | (simp at this)
 | lst ds=>
  obtain⟨a,vs,F',rfl,rr,hq,_⟩:=h.lst_
  cases e
  refine .inl ⟨vs,hq,?_⟩
  have:=rr.length
  cases ds <;> cases vs <;> first | rfl | (simp at this)
theorem t_plain (hp:plainT p=true) (hx:plainTX e=true) (h:PE X e (tE X.K C p)):PT X e (tT X.K C p):=by
 refine tm (pt_truth h (true_of hx _)) λσ H Q h=>?_
 obtain⟨ρ,Fs,b,S,he,k⟩:=h
 rw[tst_plain _ hp] at he
 obtain⟨d,g1,he⟩:=R.bind_eq_ok he
 exact⟨ρ,Fs,d,S,g1,λv H' F s r _ _=>⟨b,truV_of r he,k H' s⟩⟩
theorem t_bl (hp:plainT p=true) (hb:∀ ρ d,ev C p ρ=.ok d->∃ b,d=.bl b) {σ:L2.St} {H:Hp} {Q:Bool->Hp->Prop} (h:tT X.K C p σ H Q):tE X.K C p σ H λx H'=>∃ k,x=.bl k/\Q k H':=by
 obtain⟨ρ,Fs,b,S,he,k⟩:=h
 rw[tst_plain _ hp] at he
 obtain⟨d,g1,he⟩:=R.bind_eq_ok he
 obtain⟨c,rfl⟩:=hb ρ d g1
 cases he
 refine⟨ρ,Fs,_,S,g1,λv H' F s r _ _=>?_⟩
 obtain⟨rfl,_⟩:=r
 exact⟨_,rfl,k H' s⟩
end
structure ItOk (K:Frag) (J:L2.It) (H1:Hp) (ds:List D) (F:List Addr):Prop where
 go:∀ i H' S,Kp S H1 H'->(∀ a ∈ F,¬ S a)->i<ds.length->J.go i H'
 yld:∀ i H' x H'' S,Kp S H1 H'->(∀ a ∈ F,¬ S a)->J.yld i H' x H''->∀ d,ds[i]?=some d->Same H' H''/\∃ G,Rep K H'' d x G/\∀ a ∈ G,a ∈ F
 stop:∀ i H' S,Kp S H1 H'->(∀ a ∈ F,¬ S a)->ds.length<=i->J.stop i H'
 lists:∀ a ∈ F,∃ xs,H1 a=some (.lst xs)
def tI (K:Frag) (C:Str->List D->R D) (it:It):TI:=λσ H R=>∃ ρ Fs ds,VR K H σ ρ Fs/\evI C it ρ=.ok ds /\
 ∀ J H1 F,Same H H1->ItOk K J H1 ds F->Src ρ Fs H (holdsI it) F->ds.length<=sizeLine->R J H1
section
variable {X:Cx} {C:Str->List D->R D} {pos:Pos} {e tg:Expr} {p q r:Ex}
theorem it_lst {K:Frag} {H1:Hp} {a:Addr} {ds:List D} {F:List Addr} (h:Rep K H1 (.lst ds) (.ref a) F):ItOk K (Itl K a) H1 ds F where
 go:=λi H' S k n hi=>by
  obtain⟨b,vs,F',e,rr,hq,_⟩:=(h.keep k n).lst_
  cases e
  obtain⟨v,_,g,_⟩:=rr.get (List.getElem?_eq_getElem hi)
  exact⟨vs,v,hq,g⟩
 yld:=λi H' x H'' S k n y d hd=>by
  obtain⟨e,y⟩:=y
  subst e
  obtain⟨b,vs,F',e,rr,hq,hs⟩:=(h.keep k n).lst_
  cases e
  obtain⟨v,G,g1,g2,g3⟩:=rr.get hd
  have:=y vs hq
  rw[g1] at this
  cases this
  exact⟨Same.refl _,G,g2,λb hb=>hs b (g3 b hb)⟩
 stop:=λi H' S k n hi=>by
  obtain⟨b,vs,F',e,rr,hq,_⟩:=(h.keep k n).lst_
  cases e
  exact⟨vs,hq,by rw[<- rr.length]; exact hi⟩
 lists:=h.lists
theorem it_tup {K:Frag} {H1:Hp} {a:Addr} {ds:List D} {F:List Addr} (h:Rep K H1 (.tup ds) (.ref a) F):ItOk K (Itt K a) H1 ds F where
 go:=λi H' S k n hi=>by
  obtain⟨b,vs,e,hq,rr⟩:=h.keep k n
  cases e
  obtain⟨v,_,g,_⟩:=rr.get (List.getElem?_eq_getElem hi)
  exact⟨vs,v,hq,g⟩
 yld:=λi H' x H'' S k n y d hd=>by
  obtain⟨e,y⟩:=y
  subst e
  obtain⟨b,vs,e,hq,rr⟩:=h.keep k n
  cases e
  obtain⟨v,G,g1,g2,g3⟩:=rr.get hd
  have:=y vs hq
  rw[g1] at this
  cases this
  exact⟨Same.refl _,G,g2,g3⟩
 stop:=λi H' S k n hi=>by
  obtain⟨b,vs,e,hq,rr⟩:=h.keep k n
  cases e
  exact⟨vs,hq,by rw[<- rr.length]; exact hi⟩
 lists:=h.lists
theorem range_len (n:Int):(rangeD n).length=n.toNat:=by simp[rangeD]
theorem it_rng {K:Frag} {H1:Hp} {n:Int}:ItOk K (Itr 0 n.toNat) H1 (rangeD n) [] where
 go:=λi H' S k _ hi=>by rw[range_len] at hi; exact hi
 yld:=λi H' x H'' S k _ y d hd=>by
  obtain⟨e,y⟩:=y
  subst e y
  unfold rangeD at hd
  rw[List.getElem?_map] at hd
  cases e:(List.range n.toNat)[i]? with
  | none=>rw[e] at hd; cases hd
  | some j=>
   rw[e] at hd
   cases hd
   have:j=i:=by
    rw[List.getElem?_range] at e
    ·exact(Option.some.inj e).symm
    ·have:=(List.getElem?_eq_some_iff.mp e).1
     simpa using this
   subst this
   exact⟨Same.refl _,[],⟨by simp,rfl⟩,λ_ z=>nomatch z⟩
 stop:=λi H' S k _ hi=>by rw[range_len] at hi; exact hi
 lists:=λ_ z=>nomatch z
theorem enum_len:∀ (xs:List D) (k:Nat),(enumD k xs).length=xs.length
 | [],_=>rfl
 | x::xs,k=>by simp[enumD,enum_len xs]
theorem enum_at:∀ (xs:List D) (k i:Nat) (d:D),(enumD k xs)[i]?=some d->∃ y,xs[i]?=some y/\d=.tup [.int ((k+i:Nat):Int),y]
 | [],_,_,_,e=>by simp[enumD] at e
 | x::xs,k,0,d,e=>by
  simp[enumD] at e
  exact⟨x,rfl,e.symm⟩
 | x::xs,k,i+1,d,e=>by
  obtain⟨y,h1,h2⟩:=enum_at xs (k+1) i d (by simpa [enumD] using e)
  refine⟨y,by simpa using h1,?_⟩
  rw[h2,show k+1+i=k+(i+1) by omega]
theorem it_enu {K:Frag} {J:L2.It} {H1:Hp} {ds:List D} {F:List Addr} (hJ:∀ i H x,J.yld i H x H->True) (h:ItOk K J H1 ds F):ItOk K (Ite J) H1 (enumD 0 ds) F where
 go:=λi H' S k n hi=>h.go i H' S k n (by rw[enum_len] at hi; exact hi)
 yld:=λi H' x H'' S k n y d hd=>by
  obtain⟨T,v,rfl,hT,rfl,hy⟩:=y
  obtain⟨e,h1,rfl⟩:=enum_at ds 0 i d hd
  obtain⟨_,G,r,g⟩:=h.yld i H' v H' S k n hy e h1
  refine⟨same_upd hT,G,Rep.new_tup hT ?_,g⟩
  have:=Reps.cons (K:=K) (H:=H') (show Rep K H' (.int ((0+i:Nat):Int)) (.int i) [] from ⟨by simp,rfl⟩) (Reps.one r)
  simpa using this
 stop:=λi H' S k n hi=>h.stop i H' S k n (by rw[enum_len] at hi; exact hi)
 lists:=h.lists
def isZ (it:It):Bool:=match it with
 | .zip _ _=>true
 | _=>false
theorem s_it {T:Tab} {n:Nat} {it:It} (M:Md T n X) (h:isI it X.env.scope X.N tg e=true) (hp:∀ p e,(it=.seq p\/it=.rng p\/it=.enu p)->isE p X.env.scope X.N e=true->PE X e (tE X.K C p)) (hz:isZ it=false:=by rfl):PI X tg e (tI X.K C it):=by
 intro pins s σ H RR I hw
 obtain⟨ρ,Fs,ds,S,he,k⟩:=hw
 cases it with
 | zip _ _=>cases hz
 | seq p=>
  unfold isI at h
  rw[evI_seq] at he
  obtain⟨d,g1,he⟩:=R.bind_eq_ok he
  have hpe:=hp p e (.inl rfl) h
  cases d with
  | lst xs=>
   simp only[seqOf] at he
   split at he
   ·rename_i hf
    cases he
    refine pi_list hpe pins s σ H RR I ⟨ρ,Fs,_,S,g1,λv H1 F s1 r1 c1 _=>?_⟩
    obtain⟨a,vs,F',rfl,rr,hq,hs⟩:=r1.lst_
    exact⟨a,rfl,⟨vs,hq⟩,k _ _ F s1 (it_lst r1) c1 (fits_le hf)⟩
   ·cases he
  | tup xs=>
   simp only[seqOf] at he
   split at he
   ·rename_i hf
    cases he
    refine pi_tup hpe pins s σ H RR I ⟨ρ,Fs,_,S,g1,λv H1 F s1 r1 c1 _=>?_⟩
    obtain⟨a,vs,rfl,hq,rr⟩:=id r1
    exact⟨a,rfl,⟨vs,hq⟩,k _ _ F s1 (it_tup r1) c1 (fits_le hf)⟩
   ·cases he
  | _=>cases he
 | rng p=>
  obtain⟨_,_,_,_,rfl,h'⟩:=iv_rng h; clear h; have h:=h'
  ·simp only[Bool.and_eq_true,beq_iff_eq] at h
   obtain⟨⟨rfl,h2⟩,h3⟩:=h
   rw[evI_rng] at he
   obtain⟨d,g1,he⟩:=R.bind_eq_ok he
   have hx:=plain_of h3
   cases d with
   | int n=>
    simp only at he
    split at he
    ·rename_i hn
     cases he
     have h0 : -(2 ^ 62)<=n:=by
      have:(line:Int)=1000000:=by rw[line_eq]; rfl
      omega
     ·refine pi_range1 (gl_of h2) (M.blt _ (by decide +kernel)) (pa_cons (hp p _ (.inr (.inl rfl)) h3) pa_nil (star_of hx _ _)) (star_of hx _ _) pins s σ H RR I ⟨ρ,Fs,_,S,g1,λv H1 F s1 r1 c1 _=>?_⟩
      obtain⟨rfl,rfl⟩:=r1
      have:(line:Int)=1000000:=by rw[line_eq]; rfl
      refine⟨n,rfl,h0,by omega,k _ _ [] s1 it_rng Src.nil ?_⟩
      rw[range_len]
      have:=line_le
      have:line=1000000:=line_eq
      omega
    ·cases he
   | _=>cases he
 | enu p=>
  obtain⟨_,_,_,_,_,_,_,rfl,rfl,h'⟩:=iv_enu h; clear h; have h:=h'
  ·simp only[Bool.and_eq_true,beq_iff_eq] at h
   obtain⟨⟨rfl,h2⟩,h3⟩:=h
   rw[evI_enu] at he
   obtain⟨d,g1,he⟩:=R.bind_eq_ok he
   have hx:=plain_of h3
   refine pi_enum (gl_of h2) (M.blt _ (by decide +kernel)) (pa_cons (hp p _ (.inr (.inr rfl)) h3) pa_nil (star_of hx _ _)) (star_of hx _ _) pins s σ H RR I ⟨ρ,Fs,_,S,g1,λv H1 F s1 r1 c1 _=>?_⟩
   cases d with
   | lst xs=>
    simp only[seqOf] at he
    split at he
    ·rename_i hf
     cases he
     obtain⟨a,vs,F',rfl,rr,hq,hs⟩:=r1.lst_
     exact⟨a,rfl,.inl ⟨⟨vs,hq⟩,k _ _ F s1 (it_enu (λ_ _ _ _=>trivial) (it_lst r1)) c1 (by rw[enum_len]; exact fits_le hf)⟩⟩
    ·cases he
   | tup xs=>
    simp only[seqOf] at he
    split at he
    ·rename_i hf
     cases he
     obtain⟨a,vs,rfl,hq,rr⟩:=id r1
     exact⟨a,rfl,.inr ⟨⟨vs,hq⟩,k _ _ F s1 (it_enu (λ_ _ _ _=>trivial) (it_tup r1)) c1 (by rw[enum_len]; exact fits_le hf)⟩⟩
    ·cases he
   | _=>cases he
theorem rep_ints {K:Frag} {H:Hp}:∀ {ds:List D} {ns:List Int} {vs:List V} {F:List Addr},intsOf ds=some ns->Reps K H ds vs F->vs=ns.map V.int/\F=[]
 | [],ns,_,_,e,h=>by
  cases e
  obtain⟨rfl,rfl⟩:=h
  exact⟨rfl,rfl⟩
 | .int i::ds,ns,_,_,e,h=>by
  have e':(intsOf ds).map (i :: ·)=some ns:=e
  obtain⟨ms,e1,rfl⟩:=Option.map_eq_some_iff.mp e'
  obtain⟨x,r,F1,F2,rfl,rfl,h1,h2⟩:=h
  obtain⟨rfl,rfl⟩:=h1
  obtain⟨rfl,rfl⟩:=rep_ints e1 h2
  exact⟨rfl,rfl⟩
 | .non::ds,ns,_,_,e,_=>by cases e
 | .bl _::ds,ns,_,_,e,_=>by cases e
 | .str _::ds,ns,_,_,e,_=>by cases e
 | .tup _::ds,ns,_,_,e,_=>by cases e
 | .lst _::ds,ns,_,_,e,_=>by cases e
theorem zip_len:∀ {xs ys:List D},xs.length=ys.length->(zipD xs ys).length=xs.length
 | [],[],_=>rfl
 | x::xs,y::ys,h=>by simp[zipD,zip_len (Nat.succ.inj h)]
theorem zip_at:∀ {xs ys:List D} {i:Nat} {d:D},(zipD xs ys)[i]?=some d->∃ u v,xs[i]?=some u/\ys[i]?=some v/\d=.tup [u,v]
 | [],_,i,d,e=>by simp[zipD] at e
 | _::_,[],i,d,e=>by simp[zipD] at e
 | x::xs,y::ys,0,d,e=>by
  simp[zipD] at e
  exact⟨x,y,rfl,rfl,e.symm⟩
 | x::xs,y::ys,i+1,d,e=>by
  obtain⟨u,v,h1,h2,h3⟩:=zip_at (xs:=xs) (ys:=ys) (i:=i) (d:=d) (by simpa [zipD] using e)
  exact⟨u,v,by simpa using h1,by simpa using h2,h3⟩
theorem it_zip {K:Frag} {H1:Hp} {a b:Addr} {xs ys:List D} {F G:List Addr} (h1:Rep K H1 (.tup xs) (.ref a) F) (h2:Rep K H1 (.tup ys) (.ref b) G) (hl:xs.length=ys.length):ItOk K (Itz K a b) H1 (zipD xs ys) (F++G) where
 go:=λi H' S k n hi=>by
  rw[zip_len hl] at hi
  exact⟨(it_tup h1).go i H' S k (λc hc=>n c (List.mem_append_left _ hc)) hi,(it_tup h2).go i H' S k (λc hc=>n c (List.mem_append_right _ hc)) (hl ▸ hi)⟩
 yld:=λi H' x H'' S k n y d hd=>by
  obtain⟨T,v,u,rfl,hT,rfl,hy,hu⟩:=y
  obtain⟨e1,e2,q1,q2,rfl⟩:=zip_at hd
  obtain⟨_,G1,r1,g1⟩:=(it_tup h1).yld i H' v H' S k (λc hc=>n c (List.mem_append_left _ hc)) hy e1 q1
  obtain⟨_,G2,r2,g2⟩:=(it_tup h2).yld i H' u H' S k (λc hc=>n c (List.mem_append_right _ hc)) hu e2 q2
  refine⟨same_upd hT,G1++G2,Rep.new_tup hT (Reps.cons r1 (Reps.one r2)),λc hc=>?_⟩
  rcases List.mem_append.mp hc with z | z
  ·exact List.mem_append_left _ (g1 c z)
  ·exact List.mem_append_right _ (g2 c z)
 stop:=λi H' S k n hi=>by
  rw[zip_len hl] at hi
  exact(it_tup h1).stop i H' S k (λc hc=>n c (List.mem_append_left _ hc)) hi
 lists:=λc hc=>(List.mem_append.mp hc).elim (λz=>(it_tup h1).lists c z) λz=>(it_tup h2).lists c z
theorem s_zip {T:Tab} {n:Nat} (M:Md T n X) (h:isI (.zip p q) X.env.scope X.N tg e=true) (hp:∀ e,isE p X.env.scope X.N e=true->PE X e (tE X.K C p)) (hq:∀ e,isE q X.env.scope X.N e=true->PE X e (tE X.K C q)):PI X tg e (tI X.K C (.zip p q)):=by
 intro pins s σ H RR I hw
 obtain⟨ρ,Fs,ds,S,he,k⟩:=hw
 obtain⟨_,_,_,_,_,_,_,_,rfl,rfl,h'⟩:=iv_zip h
 simp only[Bool.and_eq_true,beq_iff_eq] at h'
 obtain⟨⟨⟨rfl,h2⟩,h3⟩,h4⟩:=h'
 rw[evI_zip] at he
 obtain⟨x,g1,he⟩:=R.bind_eq_ok he
 obtain⟨y,g2,he⟩:=R.bind_eq_ok he
 have hx:=plain_of h3
 have hy:=plain_of h4
 refine pi_zip (gl_of h2) (M.blt _ (by decide +kernel)) (pa_cons (hp _ h3) (pa_cons (hq _ h4) pa_nil (star_of hy _ _)) (star_of hx _ _)) (star_of hx _ _) (star_of hy _ _) pins s σ H RR I ?_
 refine⟨ρ,Fs,x,S,g1,λv1 H1 F1 s1 r1 c1 _=>⟨ρ,Fs,y,S.more s1,g2,λv2 H2 F2 s2 r2 c2 _=>?_⟩⟩
 cases x with
 | tup xs=>
  cases y with
  | tup ys=>
   have he':(if xs.length=ys.length/\fits xs.length=true then R.ok (zipD xs ys) else .un)=.ok ds:=he
   split at he'
   ·rename_i hf
    cases he'
    have r1':=r1.same s2
    obtain⟨a,vs,rfl,q1,_⟩:=id r1'
    obtain⟨b,ws,rfl,q2,_⟩:=id r2
    exact⟨a,b,rfl,⟨vs,q1⟩,⟨ws,q2⟩,k _ _ (F1++F2) (s1.trans s2) (it_zip r1' r2 hf.1) ((c1.mono (Same.refl _) (λi hi=>List.mem_append_left _ hi) λ_ z=>z).app (c2.mono s1 (λi hi=>List.mem_append_right _ hi) λ_ z=>z)) (by rw[zip_len hf.1]; exact fits_le hf.2)⟩
   ·cases he'
  | _=>cases he
 | _=>cases he
theorem s_sset {T:Tab} {n:Nat} (M:Md T n X) (h:isE (.sset p) X.env.scope X.N e=true) (hp:∀ e,isE p X.env.scope X.N e=true->PE X e (tE X.K C p)):PE X e (tE X.K C (.sset p)):=by
 obtain⟨_,_,_,_,_,_,_,rfl,h'⟩:=iv_sset h
 simp only[Bool.and_eq_true,beq_iff_eq] at h'
 obtain⟨⟨⟨⟨rfl,h2⟩,rfl⟩,h4⟩,h5⟩:=h'
 have hx:=plain_of h5
 refine pm (pe_sset M.calm (gl_of h2) (M.blt _ (by decide +kernel)) (gl_of h4) (M.blt _ (by decide +kernel)) (pa_cons (hp _ h5) pa_nil (star_of hx _ _)) (star_of hx _ _)) λσ H Q h=>?_
 obtain⟨ρ,Fs,d,S,he,k⟩:=h
 rw[ev_sset] at he
 obtain⟨x,g1,he⟩:=R.bind_eq_ok he
 refine⟨ρ,Fs,x,S,g1,λv1 H1 F1 s1 r1 c1 _=>?_⟩
 cases x with
 | tup xs=>
  have he':(match intsOf xs with | some ns=>(if rise5 ns then R.ok (D.lst xs) else .un) | none=>.un)=.ok d:=he
  cases e2:intsOf xs with
  | none=>rw[e2] at he'; cases he'
  | some ns=>
   rw[e2] at he'
   simp only at he'
   split at he'
   ·rename_i hr
    cases he'
    unfold rise5 at hr
    rw[Bool.and_eq_true] at hr
    have pw:=of_decide_eq_true hr.1
    have hb:∀ n ∈ ns,0<=n/\n<5:=λn hn=>by
     have:=List.all_eq_true.mp hr.2 n hn
     rw[Bool.and_eq_true] at this
     exact⟨of_decide_eq_true this.1,of_decide_eq_true this.2⟩
    have hns:natI (ns.map Int.toNat)=ns:=by
     rw[natI,List.map_map]
     refine(List.map_congr_left λn hn=>?_).trans (List.map_id ns)
     have:=(hb n hn).1
     show ((n.toNat:Nat):Int)=n
     omega
    obtain⟨a,vs,rfl,hq,rr⟩:=id r1
    obtain⟨ev,eF⟩:=rep_ints e2 rr
    refine⟨a,ns.map Int.toNat,rfl,by rw[hns,<- ev]; exact hq,?_,λx hx=>?_,λq hq'=>?_⟩
    ·rw[List.pairwise_map]
     refine pw.imp_of_mem λ{a b} ha hb' hab=>?_
     have:=(hb a ha).1
     have:=(hb b hb').1
     omega
    ·obtain⟨n,hn,rfl⟩:=List.mem_map.mp hx
     have:=hb n hn
     omega
    ·rw[hns,<- ev]
     exact k _ _ (q::F1) (s1.trans (same_upd hq')) (Rep.new_lst hq' rr) (Src.new (s1.free hq') c1) (λz=>by cases z)
   ·cases he'
 | _=>cases he
end
theorem lookup_mapped {g:Str->NameKind->NameKind}:∀ {names:List (Str × NameKind)} {x:Str},(names.map λy=>(y.1,g y.1 y.2)).lookup x=(names.lookup x).map (g x)
 | [],_=>rfl
 | (n,k)::r,x=>by
  rw[List.map_cons,List.lookup_cons,List.lookup_cons]
  cases e:x==n with
  | true=>rw[beq_iff_eq.mp e]; rfl
  | false=>exact lookup_mapped
def inKind (sc:Scope) (n:Str) (k:NameKind):NameKind:=if (k==.free&&sc.kind==.function&&sc.names.lookup n==some .cell) then .cell else k
theorem within_lookup (isc sc:Scope) (x:Str):(within isc sc).names.lookup x=(isc.names.lookup x).map (inKind sc x):=by
 rw[<- lookup_mapped (g:=inKind sc)]
 unfold within
 have:(isc.names.map λy=>(y.1,inKind sc y.1 y.2))=isc.names.map λ(n,k)=>if (k==.free&&sc.kind==.function&&sc.names.lookup n==some .cell) then (n,.cell) else (n,k):=by
  refine List.map_congr_left λy _=>?_
  obtain⟨n,k⟩:=y
  unfold inKind
  dsimp only
  split <;> rfl
 rw[this]
theorem closure_go (env:PySem.Env):∀ (names:List (Str × NameKind)) (acc:List (Str × Addr)),(∀ y ∈ names,y.2=.free->∃ c,env.cells.lookup y.1=some c)->(∀ y ∈ acc,env.cells.lookup y.1=some y.2) ->
  ∃ cl,(forIn names acc λ(x:Str × NameKind) (r:List (Str × Addr))=>match x with | (name,kind)=>if (kind==NameKind.free)=true then do let c <- cellOf env name; pure (ForInStep.yield ((name,c)::r)) else pure (ForInStep.yield r):Sem (List (Str × Addr)))=pure cl /\
   (∀ y ∈ cl,env.cells.lookup y.1=some y.2)/\(∀ y ∈ acc,y ∈ cl)/\(∀ y ∈ names,y.2=.free->∃ c,(y.1,c) ∈ cl)/\∀ y ∈ cl,y ∈ acc\/(y.1,NameKind.free) ∈ names
 | [],acc,_,ha=>⟨acc,by simp,ha,λ_ z=>z,λy hy=>(nomatch hy),λy hy=>.inl hy⟩
 | (n,k)::r,acc,hn,ha=>by
  by_cases hk:k=.free
  ·subst hk
   obtain⟨c,hc⟩:=hn (n,.free) List.mem_cons_self rfl
   obtain⟨cl,e,p1,p2,p3,p4⟩:=closure_go env r ((n,c)::acc) (λy hy=>hn y (List.mem_cons_of_mem _ hy)) (λy hy=>by
    rcases List.mem_cons.mp hy with rfl | hy
    ·exact hc
    ·exact ha y hy)
   refine⟨cl,?_,p1,λy hy=>p2 y (List.mem_cons_of_mem _ hy),λy hy hf=>?_,λy hy=>?_⟩
   ·rw[List.forIn_cons]
    have:cellOf env n=pure c:=by unfold cellOf; rw[hc]
    simp only[this,beq_self_eq_true,if_true]
    exact e
   ·rcases List.mem_cons.mp hy with rfl | hy
    ·exact⟨c,p2 _ List.mem_cons_self⟩
    ·exact p3 y hy hf
   ·rcases p4 y hy with z | z
    ·rcases List.mem_cons.mp z with rfl | z
     ·exact .inr List.mem_cons_self
     ·exact .inl z
    ·exact .inr (List.mem_cons_of_mem _ z)
  ·have hb:(k==NameKind.free)=false:=by simpa using hk
   obtain⟨cl,e,p1,p2,p3,p4⟩:=closure_go env r acc (λy hy=>hn y (List.mem_cons_of_mem _ hy)) ha
   refine⟨cl,?_,p1,p2,λy hy hf=>?_,λy hy=>(p4 y hy).imp_right (List.mem_cons_of_mem _)⟩
   ·rw[List.forIn_cons]
    simp only[hb,Bool.false_eq_true,if_false]
    exact e
   ·rcases List.mem_cons.mp hy with rfl | hy
    ·exact absurd hf hk
    ·exact p3 y hy hf
theorem closure_of (scope:Scope) (env:PySem.Env) (h:∀ y ∈ scope.names,y.2=.free->∃ c,env.cells.lookup y.1=some c) :
  ∃ cl,closureFor scope env=pure cl/\(∀ x c,cl.lookup x=some c->env.cells.lookup x=some c)/\(∀ y ∈ scope.names,y.2=.free->∃ c,cl.lookup y.1=some c)/\∀ x c,cl.lookup x=some c->(x,NameKind.free) ∈ scope.names:=by
 obtain⟨cl,e,p1,_,p3,p4⟩:=closure_go env scope.names [] h (λ_ z=>nomatch z)
 refine⟨cl,?_,λx c hx=>p1 _ (PySem.mem_of_lookup hx),λy hy hf=>?_,λx c hx=>(p4 _ (PySem.mem_of_lookup hx)).resolve_left (λz=>nomatch z)⟩
 ·unfold closureFor
  exact(congrArg (· >>= pure) e).trans (by simp)
 ·obtain⟨c,hc⟩:=p3 y hy hf
  have:(cl.lookup y.1).isSome=true:=by
   rw[Option.isSome_iff_ne_none]
   intro z
   have:=List.lookup_eq_none_iff.mp z _ hc
   simp at this
  obtain⟨c',hc'⟩:=Option.isSome_iff_exists.mp this
  exact⟨c',hc'⟩
section
variable {prog:Program} {w:World} {A:Around} {s:Shared}
abbrev testsOf (ifs:List Expr) (env:PySem.Env) (r:Bool):Sem Bool:=forIn ifs r λc r=>if r=true then do let ok <- isTrue c env (eval c env); pure (ForInStep.yield ok) else pure (ForInStep.yield r)
theorem tests_false {E:Value->Shared->Prop} {env:PySem.Env} {Q:Bool->Shared->Prop}:∀ {ifs:List Expr} {s:Shared},Q false s->wpAny (model prog w) A (testsOf ifs env false) Q E s
 | [],s,h=>wpAny_pure h
 | c::r,s,h=>by
  unfold testsOf
  rw[List.forIn_cons]
  simp only[Bool.false_eq_true,if_false]
  exact tests_false h
theorem loop_comp {RR:Result->Shared->Prop} {elt target iter:Expr} {ifs:List Expr} {scope:Scope} {pos:Pos} {it acc:Value} {env:PySem.Env} (I:Nat->Shared->Prop)
  (turn:∀ n s,I n s->wpAny (model prog w) A (pyNext it) (λr s1=>match r with
   | none=>RR (.ok .next) s1
   | some v=>wpAny (model prog w) A (letOwnedTupleGo target it v) (λ_ s2=>wpAny (model prog w) A (assign target env v) (λ_ s3=>
     wpAny (model prog w) A (testsOf ifs env true) (λok s4=>if ok=true then wpAny (model prog w) A (eval elt env) (λx s5=>
       wpAny (model prog w) A (call (.builtin "list.append") [acc,x]) (λ_ s6=>∃ m,m<n/\I m s6) (λ_ _=>False) s5) (λ_ _=>False) s4
      else ∃ m,m<n/\I m s4) (λ_ _=>False) s3) (λ_ _=>False) s2) (λ_ _=>False) s1) (λ_ _=>False) s)
  (n:Nat) (h:I n s):codeAny (model prog w) A (.compLoop (.ListComp elt [⟨target,iter,ifs,0⟩] scope pos) 0 it acc env) RR s:=by
 have no:∀ {E':Value->Shared->Prop} (e:Value) (s':Shared),False->E' e s':=λ_ _ z=>z.elim
 refine codeAny_loop rfl I (λn s hI=>?_) n h
 refine wpAny_noted ?_
 rw[compTurn_list]
 refine wpAny_bind (wpAny_standAt (wpAny_bind (wpAny_mono (turn n s hI) (λr s1 h1=>?_) no)))
 cases r with
 | none=>exact wpAny_pure h1
 | some v=>
  refine wpAny_bind (wpAny_mono h1 (λ_ s2 h2=>wpAny_bind (wpAny_mono h2 (λ_ s3 h3=>wpAny_bind (wpAny_mono h3 (λok s4 h4=>?_) no)) no)) no)
  cases ok with
  | false=>exact wpAny_pure ⟨rfl,h4⟩
  | true=>exact wpAny_bind (wpAny_bind (wpAny_mono h4 (λx s5 h5=>wpAny_bind (wpAny_mono h5 (λ_ s6 h6=>wpAny_pure (wpAny_pure ⟨rfl,h6⟩)) no)) no))
end
def blk (X:Cx) (xs:List Str) (scope:Scope) (cl:List (Str × Addr)) (B:Addr) (N':List Str) (s₀:Shared) (H₀:Hp) (fp:List Addr) (pins:List (Addr × Obj)):Cx:=
 { X with env:=compEnvC scope cl B X.env,N:=N',s₀:=s₀,H₀:=H₀,outer:=X.stack,stack:=X.stack,ex:=fp,fn:=λx=>xs.contains x,pn:=X.pn++pins,xe:=λ_ _=>False }
theorem Md.blk {T:Tab} {n:Nat} {X:Cx} (M:Md T n X) {xs:List Str} {scope:Scope} {cl:List (Str × Addr)} {B:Addr} {N':List Str} {s₀:Shared} {H₀:Hp} {fp:List Addr} {pins:List (Addr × Obj)} (nd:N'.Nodup) (tb:Tb T X.K X.mg H₀):Md T n (Lf.blk X xs scope cl B N' s₀ H₀ fp pins):=
 ⟨M.calm,nd,M.room,M.fn,tb,M.blt,M.xc,M.cs⟩
section
variable {X:Cx} {pins:List (Addr × Obj)} {σ:L2.St} {H:Hp} {s s':Shared} {scope:Scope} {cl:List (Str × Addr)} {xs:List Str} {fp:List Addr}
theorem compOk_parts {isc sc:Scope} {N xs:List Str} (h:compOk isc sc N xs=true) :
  isc.kind=.function/\sc.kind=.function/\(∀ y ∈ isc.names,y.2=.cell->y.1 ∈ xs)/\(∀ x ∈ xs,isc.names.lookup x=some .local\/isc.names.lookup x=some .cell) /\
  (∀ y ∈ isc.names,y.2=.local->isc.names.lookup y.1=some .local/\(y.1 ∈ xs\/y.1 ∉ N))/\(∀ y ∈ isc.names,y.2=.free->visB sc y.1=true/\sc.names.lookup y.1 ≠ some .local/\y.1 ∉ xs)/\visB (within isc sc) (dummy N.length)=false:=by
 unfold compOk at h
 simp only[Bool.and_eq_true,beq_iff_eq,List.all_eq_true,bne_iff_ne,Bool.or_eq_true,Bool.not_eq_true',List.contains_eq_mem,decide_eq_true_eq,decide_eq_false_iff_not,ne_eq] at h
 obtain⟨⟨⟨⟨⟨⟨h1,h2⟩,h3⟩,h4⟩,h5⟩,h6⟩,h7⟩:=h
 refine⟨h1,h2,λy hy e=>(h3 y hy).resolve_left λz=>z e,h4,λy hy e=>?_,λy hy e=>?_,h7⟩
 ·rcases h5 y hy with z | z
  ·exact absurd e z
  ·exact z
 ·rcases h6 y hy with z | z
  ·exact absurd e z
  ·exact⟨z.1.1,z.1.2,z.2⟩
theorem vis_vis {sc:Scope} {x:Str}:Vis sc x ↔ visB sc x=true:=by
 unfold Vis visB
 constructor
 ·rintro (h | h | h) <;> rw[h]
 ·intro h
  split at h
  ·rename_i z; exact .inl z
  ·rename_i z; exact .inr (.inl z)
  ·rename_i z; exact .inr (.inr z)
  ·cases h
theorem blk_start (I:Inv X pins σ H s) (ok:compOk scope X.env.scope X.N xs=true) {h1:Heap} (hcs:∀ x c,cl.lookup x=some c->(x ∈ xs/\s.heap.objs.size<c/\h1.IsCell c none)\/(x ∉ xs/\X.env.cells.lookup x=some c)) (hci:∀ x y c,cl.lookup x=some c->cl.lookup y=some c->x=y) (hcc:∀ y ∈ scope.names,y.2=.cell->∃ c,cl.lookup y.1=some c) (hf:∀ y ∈ scope.names,y.2=.free->∃ c,cl.lookup y.1=some c)
  (fpo:∀ b ∈ fp,FpOk X pins H b/\b<s.heap.objs.size) {t1:Nat} {m1:Str->Option Value} (hn:h1.Ns s.heap.objs.size m1) (hk:∀ b o,s.heap.get? b=some o->h1.get? b=some o) :
  Inv (blk X xs scope cl s.heap.objs.size (inner X.N xs) s H fp pins) [] (σ++List.replicate xs.length none) H { s with heap:=h1,toks:=t1 }:=by
 obtain⟨k1,k2,k3,k4,k5,k6,k7⟩:=compOk_parts ok
 have hst:∀ b,b<s.heap.objs.size->b ≠ s.heap.objs.size:=λb hb=>Nat.ne_of_lt hb
 have kinds:∀ x,Vis (within scope X.env.scope) x->x ∉ xs->x ∈ X.N->(∃ c,cl.lookup x=some c)/\Vis X.env.scope x/\X.env.scope.names.lookup x ≠ some .local/\((within scope X.env.scope).names.lookup x=some .cell\/(within scope X.env.scope).names.lookup x=some .free):=by
  intro x hv hx hN
  have hlk:∀ k,(within scope X.env.scope).names.lookup x=some k->∃ k0,scope.names.lookup x=some k0/\k=inKind X.env.scope x k0:=λk e=>by
   rw[within_lookup] at e
   cases e0:scope.names.lookup x with
   | none=>rw[e0] at e; cases e
   | some k0=>rw[e0] at e; exact⟨k0,rfl,(Option.some.inj e).symm⟩
  have fin:∀ k0,scope.names.lookup x=some k0->k0=.free->(∃ c,cl.lookup x=some c)/\Vis X.env.scope x/\X.env.scope.names.lookup x ≠ some .local:=λk0 e z=>by
   subst z
   have:=PySem.mem_of_lookup e
   exact⟨hf _ this rfl,vis_vis.mpr (k6 _ this rfl).1,(k6 _ this rfl).2.1⟩
  have isfree:∀ k k0,scope.names.lookup x=some k0->k=inKind X.env.scope x k0->(k=.local\/k=.cell\/k=.free)->k0=.free:=λk k0 e ek hk=>by
   have hm:=PySem.mem_of_lookup e
   cases k0 with
   | free=>rfl
   | «local»=>exact absurd hN (((k5 _ hm rfl).2).resolve_left hx)
   | cell=>exact absurd (k3 _ hm rfl) hx
   | globalExplicit=>
    have:k=.globalExplicit:=by rw[ek]; rfl
    rw[this] at hk; rcases hk with z | z | z <;> cases z
   | globalImplicit=>
    have:k=.globalImplicit:=by rw[ek]; rfl
    rw[this] at hk; rcases hk with z | z | z <;> cases z
  rcases hv with hv | hv | hv
  ·obtain⟨k0,e0,e1⟩:=hlk _ hv
   have z:=isfree _ _ e0 e1 (.inl rfl)
   subst z
   unfold inKind at e1
   split at e1 <;> cases e1
  ·obtain⟨k0,e0,e1⟩:=hlk _ hv
   obtain⟨p1,p2,p3⟩:=fin _ e0 (isfree _ _ e0 e1 (.inr (.inl rfl)))
   exact⟨p1,p2,p3,.inl hv⟩
  ·obtain⟨k0,e0,e1⟩:=hlk _ hv
   obtain⟨p1,p2,p3⟩:=fin _ e0 (isfree _ _ e0 e1 (.inr (.inr rfl)))
   exact⟨p1,p2,p3,.inr hv⟩
 have lenN:σ.length=X.N.length:=I.len
 refine⟨⟨I.ok.mod,k1,I.ok.glob,I.ok.blt,Nat.le_refl _,hci,λx hx=>?_,λx c z e=>?_,I.ok.hd,I.ok.frames,.inl rfl,λb hb=>?_,λb o e=>I.bs b o e,Nat.le_trans I.ok.bsz I.sz,λb o e hb=>?_,λb hb=>?_,I.stack,I.stkFree⟩,
  rfl,I.bare,Un.kept hk,⟨m1,hn,λi x v h1' h2' h3'=>?_⟩,λx c e=>?_,I.hok.fresh (Nat.le_refl _),λx c e=>?_,λp hp=>?_,I.hok.kept hk,?_⟩
 ·-- has
  have hx':(within scope X.env.scope).names.lookup x=some .cell\/(within scope X.env.scope).names.lookup x=some .free:=hx
  have aux:∀ k,(within scope X.env.scope).names.lookup x=some k->(k=.cell\/k=.free)->∃ c,cl.lookup x=some c:=λk e z=>by
   rw[within_lookup] at e
   cases e0:scope.names.lookup x with
   | none=>rw[e0] at e; cases e
   | some k0=>
    rw[e0] at e
    have e':inKind X.env.scope x k0=k:=Option.some.inj e
    have hm:=PySem.mem_of_lookup e0
    cases k0 with
    | free=>exact hf _ hm rfl
    | cell=>exact hcc _ hm rfl
    | «local»=>rw[<- e'] at z; rcases z with z | z <;> cases z
    | globalExplicit=>rw[<- e'] at z; rcases z with z | z <;> cases z
    | globalImplicit=>rw[<- e'] at z; rcases z with z | z <;> cases z
  rcases hx' with hx' | hx'
  ·exact aux _ hx' (.inl rfl)
  ·exact aux _ hx' (.inr rfl)
 ·-- cab
  have z':xs.contains x=true:=z
  have hx:x ∈ xs:=by simpa using z'
  rcases hcs x c e with⟨_,y,_⟩ | ⟨y,_⟩
  ·exact Nat.le_of_lt y
  ·exact absurd hx y
 ·-- exf
  refine⟨hst b (fpo b hb).2,λx c e=>?_⟩
  rcases hcs x c e with⟨_,y,_⟩ | ⟨_,y⟩
  ·exact λz=>absurd (Nat.lt_trans y (by rw[z]; exact(fpo b hb).2)) (Nat.lt_irrefl _)
  ·exact(fpo b hb).1.2.2.2.2.1 x c y
 ·-- noex
  obtain⟨_,_,_,p4,_⟩:=(fpo b hb).1
  rcases p4 with z | z
  ·exact I.ok.noex b o e z
  ·have h0:b<X.base.objs.size:=Heap.lt_size e
   exact absurd (Nat.lt_of_lt_of_le h0 (Nat.le_trans I.ok.bsz z)) (Nat.lt_irrefl _)
 ·-- exfs
  obtain⟨_,p2,p3,_⟩:=(fpo b hb).1
  intro z
  rcases List.mem_cons.mp (I.stkSub b z) with q | q
  ·exact p2 q
  ·exact p3 q
 ·-- loc
  by_cases hi:i<X.N.length
  ·have hσ:σ[i]?=some (some v):=by
    rw[List.getElem?_append_left (by omega)] at h2'
    exact h2'
   have hx0:(X.N.map (λy=>if xs.contains y then dummy X.N.length else y))[i]?=some x:=by
    have:(inner X.N xs)[i]?=some x:=h1'
    unfold inner at this
    rw[List.getElem?_append_left (by simpa using hi)] at this
    exact this
   rw[List.getElem?_map] at hx0
   cases e0:X.N[i]? with
   | none=>rw[e0] at hx0; cases hx0
   | some y=>
    rw[e0] at hx0
    have e1:(if xs.contains y then dummy X.N.length else y)=x:=Option.some.inj hx0
    by_cases hy:xs.contains y=true
    ·rw[if_pos hy] at e1
     subst e1
     have:=vis_vis.mp h3'
     have k7':visB (relabel scope X.env) (dummy X.N.length)=false:=k7
     rw[show (blk X xs scope cl s.heap.objs.size (inner X.N xs) s H fp pins).env.scope=relabel scope X.env from rfl,k7'] at this
     cases this
    ·rw[if_neg hy] at e1
     subst e1
     have hy':y ∉ xs:=by simpa using hy
     obtain⟨⟨c,hcl⟩,p2,p3,p4⟩:=kinds y h3' hy' (List.mem_of_getElem? e0)
     obtain⟨m,_,hl⟩:=I.loc
     obtain⟨u,ru,look⟩:=hl i y v e0 hσ p2
     refine⟨u,ru,.inr ⟨p4,c,hcl,?_⟩⟩
     rcases look with⟨z,_⟩ | ⟨_,c',hc',cell⟩
     ·exact absurd z p3
     ·rcases hcs _ _ hcl with⟨y1,_⟩ | ⟨_,y2⟩
      ·exact absurd y1 hy'
      ·rw[y2] at hc'
       cases hc'
       exact cell.keeps hk
  ·exfalso
   rw[List.getElem?_append_right (by omega),List.getElem?_replicate] at h2'
   split at h2' <;> cases h2'
 ·rcases hcs x c e with⟨_,_,y⟩ | ⟨_,y⟩
  ·exact⟨none,y⟩
  ·obtain⟨v,q⟩:=I.cell x c y
   exact⟨v,q.keeps hk⟩
 ·rcases hcs x c e with⟨_,y,_⟩ | ⟨_,y⟩
  ·exact I.hok.fresh (Nat.le_of_lt y)
  ·exact I.freeC x c y
 ·have hp':p ∈ X.pn++pins:=by
   have:p ∈ (X.pn++pins)++[]:=hp
   rwa [List.append_nil] at this
  obtain⟨q1,q2,q3,q4,q5⟩:=I.pin p hp'
  refine⟨hk _ _ q1,q2,hst _ (Heap.lt_size q1),λz=>?_,q5⟩
  rcases List.mem_cons.mp (I.stkSub _ z) with q | q
  ·exact q3 q
  ·exact q4 q
 ·show (σ++List.replicate xs.length none).length=(inner X.N xs).length
  unfold inner
  simp[lenN]
end
def tgIs (two:Bool) (tg:Expr) (xs:List Str):Prop:=(two=false/\∃ x p,tg=.Name x p/\xs=[x])\/(two=true/\∃ x p y q k pos,tg=.Tuple [.Name x p,.Name y q] k pos/\xs=[x,y])
section
variable {X:Cx} {pins:List (Addr × Obj)} {σ τ:L2.St} {H:Hp} {s:Shared} {xs:List Str} {two:Bool} {tg:Expr} {N:List Str}
theorem set_snoc (σ:L2.St) (t v:Option V):(σ++[t]).set σ.length v=σ++[v]:=by
 rw[List.set_append_right _ _ (Nat.le_refl _),Nat.sub_self]; rfl
theorem tg_ok (ht:tgIs two tg xs) (hc:X.calm=true) (hN:X.N=inner N xs) (nd:X.N.Nodup) (hl:∀ x ∈ xs,Loc X.env.scope x/\X.fn x=true) (hσ:σ.length=N.length) (hτ:τ.length=xs.length) {d:D} {v:V} {G:List Addr} {u:Value} {e:Env}
  (I:Inv X pins (σ++τ) H s) (rv:RelV v u) (r:Rep X.K H d v G) (he:tgt two d=.ok e) :
  wpAny (model X.prog X.w) X.A (assign tg X.env u) (λ_ s'=>∃ (τ':L2.St) (Gs:Nat->List Addr),τ'.length=xs.length/\e.length=xs.length/\Inv X pins (σ++τ') H s'/\∀ (j:Nat) d' o,e[j]?=some (some (d',o))->∃ w,τ'[j]?=some (some w)/\Rep X.K H d' w (Gs j)/\∀ a ∈ Gs j,a ∈ G) X.xe s:=by
 rcases ht with⟨rfl,x,p,rfl,rfl⟩ | ⟨rfl,x,p,y,q,k,pos,rfl,rfl⟩
 ·cases he
  have hi:X.N[N.length]?=some x:=by rw[hN]; simp[inner]
  obtain⟨t,rfl⟩:∃ t,τ=[t]:=by
   match τ,hτ with
   | [t],_=>exact⟨t,rfl⟩
  have hx:=hl x (by simp)
  refine thn (pg_name nd hi hx.1 (.inl hx.2) pins s (σ++[t]) H v u (λσ' H'=>σ'=σ++[some v]/\H'=H) I rv ?_) λ_ s' ⟨σ',H',I',e1,e2⟩=>?_
  ·refine⟨?_,rfl⟩
   rw[<- hσ]
   exact set_snoc σ t (some v)
  ·subst e1 e2
   refine⟨[some v],λ_=>G,rfl,rfl,I',λj d' o e=>?_⟩
   cases j with
   | zero=>cases e; exact⟨v,rfl,r,λ_ z=>z⟩
   | succ j=>simp at e
 ·unfold tgt at he
  rw[if_pos rfl] at he
  split at he
  ·rename_i da db
   cases he
   obtain⟨ad,vs,rfl,hq,rr⟩:=r
   obtain⟨v1,w1,F1,F2,rfl,rfl,r1,rr⟩:=rr
   obtain⟨v2,w2,F3,F4,rfl,rfl,r2,rr⟩:=rr
   obtain⟨rfl,rfl⟩:=rr
   have hi:X.N[N.length]?=some x:=by rw[hN]; simp[inner]
   have hj:X.N[N.length+1]?=some y:=by
    rw[hN]
    unfold inner
    rw[List.getElem?_append_right (by simp)]
    simp
   obtain⟨t,t',rfl⟩:∃ t t',τ=[t,t']:=by
    match τ,hτ with
    | [t,t'],_=>exact⟨t,t',rfl⟩
   have hx:=hl x (by simp)
   have hy:=hl y (by simp)
   have pg:=pg_tup (k:=k) (pos:=pos) hc (pgs_cons (pg_name (pos:=p) nd hi hx.1 (.inl hx.2)) (pgs_cons (pg_name (pos:=q) nd hj hy.1 (.inl hy.2)) pgs_nil))
   refine thn (pg pins s (σ++[t,t']) H _ u (λσ' H'=>σ'=σ++[some v1,some v2]/\H'=H) I rv ?_) λ_ s' ⟨σ',H',I',e1,e2⟩=>?_
   ·refine⟨ad,_,rfl,hq,rfl,v1,_,rfl,v2,_,rfl,rfl,?_,rfl⟩
    rw[<- hσ,List.set_append_right _ _ (Nat.le_refl _),Nat.sub_self,List.set_append_right _ _ (Nat.le_succ _),Nat.succ_sub (Nat.le_refl _),Nat.sub_self]
    rfl
   ·subst e1 e2
    refine⟨[some v1,some v2],λj=>if j=0 then F1 else F3,rfl,rfl,I',λj d' o e=>?_⟩
    match j,e with
    | 0,e=>cases e; exact⟨v1,rfl,r1,λa ha=>List.mem_append_left _ ha⟩
    | 1,e=>cases e; exact⟨v2,rfl,r2,λa ha=>List.mem_append_right _ (List.mem_append_left _ ha)⟩
    | j+2,e=>simp at e
  ·cases he
theorem vr_app {K:Frag} {ρ e:Env} {Fs Gs:Nat->List Addr} (S:VR K H σ ρ Fs) (hl:τ.length=e.length) (h:∀ (j:Nat) d' o,e[j]?=some (some (d',o))->∃ w,τ[j]?=some (some w)/\Rep K H d' w (Gs j)) :
  VR K H (σ++τ) (ρ++e) (λi=>if i < ρ.length then Fs i else Gs (i - ρ.length)):=by
 refine⟨by rw[List.length_append,List.length_append,S.len,hl],λi d o he=>?_⟩
 by_cases hi:i < ρ.length
 ·rw[List.getElem?_append_left hi] at he
  obtain⟨v,h1,h2⟩:=S.val i d o he
  exact⟨v,by rw[List.getElem?_append_left (by rw[S.len]; exact hi)]; exact h1,by simp only[if_pos hi]; exact h2⟩
 ·rw[List.getElem?_append_right (by omega)] at he
  obtain⟨w,h1,h2⟩:=h _ d o he
  exact⟨w,by rw[List.getElem?_append_right (by rw[S.len]; omega),S.len]; exact h1,by simp only[if_neg hi]; exact h2.S⟩
theorem src_app {ρ e:Env} {Fs Gs:Nat->List Addr} {H H':Hp} {vs ws:List Nat} {F G:List Addr} (s:Same H H') (h:Src (ρ++e) (λi=>if i < ρ.length then Fs i else Gs (i - ρ.length)) H' vs F) (hv:∀ i ∈ vs,i ∈ ws) (hG:∀ (j:Nat),(∃ d o,e[j]?=some (some (d,o)))->∀ a ∈ Gs j,a ∈ G) (hs:Src ρ Fs H ws G):Src ρ Fs H ws F:=λa ha=>by
 rcases h a ha with z | ⟨i,hi,⟨d,o,hb⟩,z⟩
 ·exact .inl (s.free z)
 ·by_cases hlt:i < ρ.length
  ·simp only[if_pos hlt] at z
   rw[List.getElem?_append_left hlt] at hb
   exact .inr ⟨i,hv i hi,⟨d,o,hb⟩,z⟩
  ·simp only[if_neg hlt] at z
   rw[List.getElem?_append_right (by omega)] at hb
   exact hs a (hG _ ⟨d,o,hb⟩ a z)
def tTs (K:Frag) (C:Str->List D->R D) (ps:Exs):TT:=λσ H Q=>∃ ρ Fs b,VR K H σ ρ Fs/\tsts C ps ρ=.ok b/\∀ H',Same H H'->Q b H'
def PTs (X:Cx) (es:List Expr) (t:TT):Prop:=
 ∀ (pins:List (Addr × Obj)) (s:Shared) (σ:L2.St) (H:Hp) (Q:Bool->Hp->Prop),Inv X pins σ H s->t σ H Q->wpAny (model X.prog X.w) X.A (testsOf es X.env true) (TP X pins σ Q) X.xe s
theorem ts_nil {C:Str->List D->R D}:PTs X [] (tTs X.K C .nil):=λpins s σ H Q I h=>by
 obtain⟨ρ,Fs,b,S,he,k⟩:=h
 cases he
 exact wpAny_pure ⟨H,I,k H (Same.refl _)⟩
theorem ts_cons {C:Str->List D->R D} {p:Ex} {ps:Exs} {e:Expr} {es:List Expr} (hp:PT X e (tT X.K C p)) (hr:PTs X es (tTs X.K C ps)):PTs X (e::es) (tTs X.K C (.cons p ps)):=λpins s σ H Q I h=>by
 obtain⟨ρ,Fs,b,S,he,k⟩:=h
 rw[tsts_cons] at he
 obtain⟨c,g1,he⟩:=R.bind_eq_ok he
 unfold testsOf
 rw[List.forIn_cons]
 simp only[if_true]
 refine wpAny_bind (wpAny_bind (thn (hp pins s σ H (λc' H'=>c'=c/\Same H H') I ⟨ρ,Fs,c,S,g1,λH' s'=>⟨rfl,s'⟩⟩) λc' s1 ⟨H1,I1,e1,s1'⟩=>wpAny_pure ?_))
 subst e1
 cases c' with
 | true=>
  rw[if_pos rfl] at he
  exact hr pins s1 σ H1 Q I1 ⟨ρ,Fs,b,S.more s1',he,λH' s'=>k H' (s1'.trans s')⟩
 | false=>
  rw[if_neg Bool.false_ne_true] at he
  cases he
  exact tests_false ⟨H1,I1,k H1 s1'⟩
end
theorem mapR_cons_ok {f:D->R (Option D)} {x:D} {r zs:List D} (h:mapR f (x::r)=.ok zs):∃ y ys,f x=.ok y/\mapR f r=.ok ys/\zs=(match y with | some y=>y::ys | none=>ys):=by
 unfold mapR at h
 obtain⟨y,h1,h⟩:=R.bind_eq_ok h
 obtain⟨ys,h2,h⟩:=R.bind_eq_ok h
 cases h
 exact⟨y,ys,h1,h2,rfl⟩
def itemR (C:Str->List D->R D) (two:Bool) (elt:Ex) (ifs:Exs) (ρ:Env) (d:D):R (Option D):=
 tgt two d >>= λe=>tsts C ifs (ρ++e) >>= λk=>if k then ev C elt (ρ++e) >>= λy=>.ok (some y) else .ok none
section
variable {X:Cx} {pins:List (Addr × Obj)} {σ:L2.St} {H:Hp} {s:Shared} {C:Str->List D->R D}
theorem comp_core {T:Tab} {n:Nat} {two:Bool} {tg iter elt':Expr} {ifs':List Expr} {scope:Scope} {pos:Pos} {xs:List Str} {elt:Ex} {ifs:Exs} {ws:List Nat} {fp:List Addr} {it:Addr} {tn:Nat->Heap->Prop} {J:L2.It} {ds ys:List D} {F:List Addr} {ρ:Env} {Fs:Nat->List Addr} {cl:List (Str × Addr)}
  {RR:Value->Addr->Result->Shared->Prop} {E:Value->Shared->Prop} {H0:Hp} {fm:Bool} {DC:Prop} (hDC:DC->fm=true) (sm0:Same H0 H)
  (M:Md T n X) (ht:tgIs two tg xs) (ok:compOk scope X.env.scope X.N xs=true) (nd:(inner X.N xs).Nodup)
  (hT:∀ X',Md T n X'->X'.env.scope=within scope X.env.scope->X'.N=inner X.N xs->PTs X' ifs' (tTs X'.K C ifs)) (hE:∀ X',Md T n X'->X'.env.scope=within scope X.env.scope->X'.N=inner X.N xs->PE X' elt' (tEm X'.K C fm elt))
  (hc:∀ x c,cl.lookup x=some c->X.env.cells.lookup x=some c) (hf:∀ y ∈ scope.names,y.2=.free->∃ c,cl.lookup y.1=some c) (hfr:∀ x c,cl.lookup x=some c->(x,NameKind.free) ∈ scope.names)
  (I:Inv X pins σ H s) (TT:Turn X.prog X.w X.K tg J fp it tn) (st:tn 0 s.heap) (fpo:∀ b ∈ fp,FpOk X pins H b) (io:ItOk X.K J H ds F) (hz:ds.length<=sizeLine)
  (S:VR X.K H σ ρ Fs) (hF:Src ρ Fs H0 ws F) (hw:∀ i ∈ vars elt,i ∈ ws) (hm:mapR (itemR C two elt ifs ρ) ds=.ok ys)
  (fin:∀ D B vs G H' s',Inv X pins σ H' s'->(∃ m,s'.heap.Ns B m)->FpOk X pins H' B->Same H H'->H D=none->H' D=some (.lst vs)->Reps X.K H' ys vs G->(∀ a ∈ G,a ≠ D)->Src ρ Fs H0 ws G->(DC->ys.all flatL=true->deepIs X.K H' ys vs G/\∀ a ∈ G,H0 a=none)->RR (.ref D) B (.ok .next) s') :
  wpAny (model X.prog X.w) X.A (newList []) (λacc s3=>wpAny (model X.prog X.w) X.A (newFunctionEnv scope X.env.globals cl [] X.env.qual none .none (some X.env)) (λcenv s4=>
   codeAny (model X.prog X.w) X.A (.compStart (.ListComp elt' [⟨tg,iter,ifs',0⟩] scope pos) 0 (.ref it) acc { cenv with scope:=relabel scope X.env }) (RR acc cenv.locals) s4) E s3) E s:=by
 obtain⟨k1,k2,k3,k4,k5,k6,k7⟩:=compOk_parts ok
 have fplt:∀ b ∈ fp,b<s.heap.objs.size:=λb hb=>by
  obtain⟨o,e,_⟩:=TT.obj 0 _ st b hb
  exact Heap.lt_size e
 refine wpAny_newList ?_ (Nat.zero_le _)
 have I3:Inv X pins σ (upd H s.heap.objs.size (.lst [])) { s with heap:=s.heap.push { cls:=.type "list",data:=.seq ([]:List Value).toArray },toks:=s.toks }:=I.lnew .nil (Nat.zero_le _)
 have hD:H s.heap.objs.size=none:=I.fresh
 generalize hs3:({ s with heap:=s.heap.push { cls:=.type "list",data:=.seq ([]:List Value).toArray },toks:=s.toks }:Shared)=s3 at I3
 have sz3:s3.heap.objs.size=s.heap.objs.size+1:=by rw[<- hs3]; exact Heap.size_push _ _
 have k3':∀ b o,s.heap.get? b=some o->s3.heap.get? b=some o:=λb o e=>by rw[<- hs3]; exact Heap.get?_push_of_some _ e
 have kin3:∀ b o,s.heap.get? b=some o->b<s3.heap.objs.size:=λb o e=>Heap.lt_size (k3' b o e)
 refine newEnv_cells (λx c e=>by obtain⟨v,o,q,_⟩:=I.cell x c (hc x c e); exact kin3 _ _ q) (λx y c e1 e2=>I.ok.inj x y c (hc _ _ e1) (hc _ _ e2)) (λh1 cs hk1 hns1 cok hcc=>?_)
 have fpo3:∀ b ∈ fp,FpOk X pins (upd H s.heap.objs.size (.lst [])) b/\b<s3.heap.objs.size:=λb hb=>by
  obtain⟨p1,p2⟩:=fpo b hb
  have hne:b ≠ s.heap.objs.size:=Nat.ne_of_lt (fplt b hb)
  refine⟨⟨by rw[upd_ne hne]; exact p1,p2⟩,by rw[sz3]; exact Nat.lt_succ_of_lt (fplt b hb)⟩
 have hcs:∀ x c,cs.lookup x=some c->(x ∈ xs/\s3.heap.objs.size<c/\h1.IsCell c none)\/(x ∉ xs/\X.env.cells.lookup x=some c):=λx c e=>by
  rcases cok.at' x c e with⟨y1,y2,_,y4⟩ | y
  ·exact .inl ⟨k3 _ y1 rfl,y2,y4⟩
  ·exact .inr ⟨(k6 _ (hfr x c y) rfl).2.2,hc x c y⟩
 have I4:=blk_start (t1:=s3.toks) I3 ok hcs cok.inj hcc (λy hy hfr=>by obtain⟨c,e⟩:=hf y hy hfr; exact cok.old y.1 c e) fpo3 hns1 hk1
 generalize hX:blk X xs scope cs s3.heap.objs.size (inner X.N xs) s3 (upd H s.heap.objs.size (.lst [])) fp pins=X' at I4
 have M':Md T n X':=by rw[<- hX]; exact M.blk nd (M.tbI I3)
 have env':X'.env=compEnvC scope cs s3.heap.objs.size X.env:=by rw[<- hX]; rfl
 have sc':X'.env.scope=within scope X.env.scope:=by rw[env']; rfl
 have N':X'.N=inner X.N xs:=by rw[<- hX]; rfl
 have pw:X'.prog=X.prog/\X'.w=X.w/\X'.K=X.K/\X'.A=X.A:=by rw[<- hX]; exact⟨rfl,rfl,rfl,rfl⟩
 obtain⟨pw1,pw2,pw3,pw4⟩:=pw
 have hT':=hT X' M' sc' N'
 have hE':=hE X' M' sc' N'
 have st1:tn 0 h1:=TT.keep 0 _ _ st λb hb o e=>hk1 b o (k3' b o e)
 have fpo':∀ {H':Hp},(∀ b ∈ fp,H' b=none)->∀ b ∈ fp,FpOk X' [] H' b:=λ{H'} hn b hb=>by
  have ef:=I4.ok.exf b (by rw[<- hX]; exact hb)
  have exf:=I4.ok.exfs b (by rw[<- hX]; exact hb)
  refine⟨hn b hb,ef.1,exf,.inl (by rw[<- hX]; exact hb),λx c e=>ef.2 x c e,λp hp=>?_⟩
  have hp':p ∈ X.pn++pins:=by
   have:p ∈ X'.pn++[]:=hp
   rw[List.append_nil,<- hX] at this
   exact this
  exact(fpo b hb).2.2.2.2.2 p hp'
 have locN:∀ x ∈ xs,L2.Loc X'.env.scope x/\X'.fn x=true:=λx hx=>by
  refine⟨?_,by rw[<- hX]; show xs.contains x=true; simpa using hx⟩
  unfold L2.Loc
  rw[sc',within_lookup]
  rcases k4 x hx with z | z
  ·rw[z]; exact .inl rfl
  ·rw[z]; exact .inr rfl
 have loop:∀ s',Inv X' [] (σ++List.replicate xs.length none) (upd H s.heap.objs.size (.lst [])) s'->tn 0 s'.heap ->
   codeAny (model X.prog X.w) X.A (.compLoop (.ListComp elt' [⟨tg,iter,ifs',0⟩] scope pos) 0 (.ref it) (.ref s.heap.objs.size) (compEnvC scope cs s3.heap.objs.size X.env)) (RR (.ref s.heap.objs.size) s3.heap.objs.size) s':=by
  intro s' I' st'
  refine loop_comp (λm s'=>∃ i τ H' vs G done rest,m=ds.length-i/\i<=ds.length/\Inv X' [] (σ++τ) H' s'/\τ.length=xs.length/\tn i s'.heap/\(∀ b ∈ fp,H' b=none)/\Same H H'/\H' s.heap.objs.size=some (.lst vs)/\Reps X.K H' done vs G/\(∀ a ∈ G,a ≠ s.heap.objs.size)/\Src ρ Fs H0 ws G/\(DC->done.all flatL=true->deepIs X.K H' done vs G/\∀ a ∈ G,H0 a=none) /\
   mapR (itemR C two elt ifs ρ) (ds.drop i)=.ok rest/\done++rest=ys/\done.length<=i) ?_ ds.length ⟨0,List.replicate xs.length none,_,[],[],[],ys,rfl,Nat.zero_le _,I',by simp,st',λb hb=>?_,same_upd hD,upd_same,Reps.nil,(λ_ z=>nomatch z),Src.nil,(λ_ _=>⟨deep_nil,λ_ z=>nomatch z⟩),hm,rfl,Nat.zero_le _⟩
  ·rintro m s1 ⟨i,τ,H1,vs,G,done,rest,rfl,hi,I1,lτ,st1,fr1,sm1,hD1,R1,nG,cG,dG,hm1,hys,hdn⟩
   have kp1:Kp (λ_=>False) H H1:=.of_same sm1
   by_cases hlt:i<ds.length
   ·-- one more item
    have dr:ds.drop i=ds[i]::ds.drop (i+1):=List.drop_eq_getElem_cons hlt
    rw[dr] at hm1
    obtain⟨y,rest',hy,hm2,rfl⟩:=mapR_cons_ok hm1
    unfold itemR at hy
    obtain⟨e,he,hy⟩:=R.bind_eq_ok hy
    obtain⟨k,hk,hy⟩:=R.bind_eq_ok hy
    have step:=TT.item X' pw1 pw2 pw3 M'.calm i [] s1 (σ++τ) H1 (λ_ _=>False) I1 (fpo' fr1) st1 (io.go i H1 _ kp1 (λ_ _ z=>z) hlt)
    rw[pw4] at step
    refine thn step λr s2 ⟨u,hr,h2⟩=>?_
    subst hr
    refine thn h2 λ_ s3' ⟨x,H3,J3,rx,yl,st3,fr3⟩=>?_
    obtain⟨sm3,G1,rep1,sub1⟩:=io.yld i H1 x H3 _ kp1 (λ_ _ z=>z) yl ds[i] (List.getElem?_eq_getElem hlt)
    have J3':=J3.pinned (fpo' fr3) (TT.obj _ _ st3)
    rw[<- pw3] at rep1
    have asg:=tg_ok (X:=X') (N:=X.N) ht M'.calm N' M'.nd locN I.len lτ J3' rx rep1 he
    rw[env',pw1,pw2,pw4] at asg
    refine wpAny_mono asg (λ_ s4 h4=>?_) (λ_ _ z=>by rw[<- hX] at z; exact z)
    obtain⟨τ',Gs,lτ',le,I4',hτ⟩:=h4
    have sm13:Same H H3:=sm1.trans sm3
    have S4:VR X'.K H3 (σ++τ') (ρ++e) (λi=>if i < ρ.length then Fs i else Gs (i - ρ.length)):=by
     rw[pw3] at hτ |-
     exact vr_app (S.more sm13) (by rw[lτ',le]) λj d' o ej=>by
      obtain⟨w,a1,a2,_⟩:=hτ j d' o ej
      exact⟨w,a1,a2⟩
    have hG1:∀ (j:Nat),(∃ d o,e[j]?=some (some (d,o)))->∀ a ∈ Gs j,a ∈ F:=λj ⟨d,o,ej⟩ a ha=>by
     obtain⟨w,_,_,a3⟩:=hτ j d o ej
     exact sub1 a (a3 a ha)
    have tst:=hT' _ s4 (σ++τ') H3 (λb H'=>b=k/\Same H3 H') I4' ⟨_,_,k,S4,hk,λH' s'=>⟨rfl,s'⟩⟩
    rw[env',pw1,pw2,pw4] at tst
    refine wpAny_mono tst (λb s5 h5=>?_) (λ_ _ z=>by rw[<- hX] at z; exact z)
    obtain⟨H5,I5,rfl,sm5⟩:=h5
    have back:∀ {σ6:L2.St} {H6:Hp} {s6:Shared},Inv X' ([]++pinsAt fp s3'.heap) σ6 H6 s6->tn (i+1) s6.heap/\∀ b ∈ fp,H6 b=none:=λ{σ6 H6 s6} I6=>
     ⟨TT.keep _ _ _ st3 λb hb o e=>(I6.pin (b,o) (List.mem_append_right _ (List.mem_append_right _ (mem_pinsAt hb e)))).1,λb hb=>by
      obtain⟨o,e,_⟩:=TT.obj _ _ st3 b hb
      exact(I6.pin (b,o) (List.mem_append_right _ (List.mem_append_right _ (mem_pinsAt hb e)))).2.1⟩
    have D5:H5 s.heap.objs.size=some (.lst vs):=sm5 _ _ (sm3 _ _ hD1)
    cases b with
    | false=>
     rw[if_neg Bool.false_ne_true] at hy |-
     cases hy
     obtain⟨b1,b2⟩:=back I5
     exact⟨ds.length-(i+1),by omega,i+1,τ',H5,vs,G,done,rest',rfl,hlt,I5.unpinned,lτ',b1,b2,sm13.trans sm5,D5,(R1.same sm3).same sm5,nG,cG,(λz1 z2=>⟨(dG z1 z2).1.same (sm3.trans sm5),(dG z1 z2).2⟩),hm2,hys,by omega⟩
    | true=>
     rw[if_pos rfl] at hy |-
     obtain⟨z,hz1,hy⟩:=R.bind_eq_ok hy
     cases hy
     have el:=hE' _ s5 (σ++τ') H5 (λv H'=>∃ F5,Same H5 H'/\Rep X'.K H' z v F5/\Src (ρ++e) (λi=>if i < ρ.length then Fs i else Gs (i - ρ.length)) H5 (vars elt) F5/\(fm=true->∀ es,z=.lst es->∃ a F',F5=a::F'/\H5 a=none)) I5
      ⟨_,_,z,S4.more sm5,hz1,λv H' F5 s' r' c' f'=>⟨F5,s',r',c',f'⟩⟩
     rw[env',pw1,pw2,pw4] at el
     refine wpAny_mono el (λxv s6 h6=>?_) (λ_ _ z=>by rw[<- hX] at z; exact z)
     obtain⟨v6,H6,I6,rv6,F5,sm6,rep6,src6,frm6⟩:=h6
     have D6:H6 s.heap.objs.size=some (.lst vs):=sm6 _ _ D5
     have lenv:vs.length<sizeLine:=by have:=R1.length; omega
     have app:=mt_append (X:=X') ([]++pinsAt fp s3'.heap) s6 (σ++τ') H6 (.ref s.heap.objs.size) [v6] (.ref s.heap.objs.size) [xv] (λ_ H'=>H'=upd H6 s.heap.objs.size (.lst (vs++[v6]))) I6 rfl (.cons rv6 .nil)
      ⟨s.heap.objs.size,vs,v6,rfl,rfl,D6,lenv,rfl⟩
     rw[pw1,pw2,pw4] at app
     refine wpAny_mono app (λ_ s7 h7=>?_) (λ_ _ z=>by rw[<- hX] at z; exact z)
     obtain⟨_,H7,I7,_,rfl⟩:=h7
     obtain⟨b1,b2⟩:=back I7
     have smH6:Same H H6:=sm13.trans (sm5.trans sm6)
     have kp7:Kp (λa=>a=s.heap.objs.size) H6 (upd H6 s.heap.objs.size (.lst (vs++[v6]))):=⟨λb o e n=>by rw[upd_ne n]; exact e,λb z=>by rw[z]; exact .inl ⟨vs,D6⟩⟩
     have src7:Src ρ Fs H0 ws F5:=src_app (sm0.trans (sm13.trans sm5)) src6 hw hG1 hF
     have nF5:∀ a ∈ F5,a ≠ s.heap.objs.size:=λa ha e=>by
      subst e
      rcases src6 _ ha with q | ⟨j,_,⟨dj,oj,ej⟩,q⟩
      ·rw[D5] at q; cases q
      ·obtain⟨w,_,rj⟩:=S4.val j dj oj ej
       by_cases hj:j < ρ.length
       ·rw[List.getElem?_append_left hj] at ej
        obtain⟨w',_,rj'⟩:=S.val j dj oj ej
        simp only[if_pos hj] at q
        obtain⟨ys',e'⟩:=rj'.lists _ q
        rw[hD] at e'; cases e'
       ·simp only[if_neg hj] at q
        rw[List.getElem?_append_right (by omega)] at ej
        obtain⟨ys',e'⟩:=io.lists _ (hG1 _ ⟨dj,oj,ej⟩ _ q)
        rw[hD] at e'; cases e'
     rw[pw3] at rep6
     have dG':DC->(done++[z]).all flatL=true->deepIs X.K (upd H6 s.heap.objs.size (.lst (vs++[v6]))) (done++[z]) (vs++[v6]) (G++F5)/\∀ a ∈ G++F5,H0 a=none:=λz1 z2=>by
      rw[List.all_append,Bool.and_eq_true] at z2
      have z3:flatL z=true:=by simpa using z2.2
      have d1:=(dG z1 z2.1).1.same (sm3.trans (sm5.trans sm6))
      have q1:=hDC z1
      cases z with
      | lst es=>
       obtain⟨a0,F0,e0,e1⟩:=frm6 q1 es rfl
       obtain⟨b,ws',F',hv,rr,q⟩:=rep6
       have hF':=rr.noL z3
       subst hF'
       rcases q with⟨q4,q5⟩ | ⟨q4,q5⟩
       ·rw[q5] at e0
        cases e0
        have hbn:a0 ≠ s.heap.objs.size:=nF5 a0 (by rw[q5]; exact List.mem_cons_self)
        subst hv
        rw[q5]
        refine⟨(d1.upd D6 nG).snoc (reps_upd0 D6 rr) (by rw[upd_ne hbn]; exact q4) λhb=>?_,λa ha=>(List.mem_append.mp ha).elim ((dG z1 z2.1).2 a) λha=>?_⟩
        rotate_left
        ·have:a=a0:=by simpa using ha
         subst this
         exact(sm0.trans (sm13.trans sm5)).free e1
        obtain⟨xs',hx'⟩:=R1.lists _ hb
        have:=sm5 _ _ (sm3 _ _ hx')
        rw[e1] at this
        cases this
       ·rw[q5] at e0
        cases e0
      | _=>cases z3
     refine⟨ds.length-(i+1),by omega,i+1,τ',_,vs++[v6],G++F5,done++[z],rest',rfl,hlt,I7.unpinned,lτ',b1,b2,λb o e=>?_,upd_same,
      (((R1.same sm3).same (sm5.trans sm6)).keep kp7 nG).append (Reps.one (rep6.keep kp7 nF5)),λa ha=>(List.mem_append.mp ha).elim (nG a) (nF5 a),cG.app src7,dG',hm2,by rw[List.append_assoc]; exact hys,by simp; omega⟩
     rw[upd_ne (ne_of_none e hD)]
     exact smH6 b o e
   ·-- no more
    have hie:i=ds.length:=by omega
    subst hie
    rw[List.drop_length] at hm1
    cases hm1
    rw[List.append_nil] at hys
    subst hys
    have step:=TT.done X' pw1 pw2 pw3 M'.calm _ [] s1 (σ++τ) H1 (λ_ _=>False) I1 (fpo' fr1) st1 (io.stop _ H1 _ kp1 (λ_ _ z=>z) (Nat.le_refl _))
    rw[pw4] at step
    refine thn step λr s2 ⟨hr,I2⟩=>?_
    subst hr
    subst hX
    have un:Un (frs X.stack) fp H H1 s.heap s2.heap:=(Un.laid k3' (Nat.le_refl _) hD).trans I2.base
    have IX:Inv X pins σ H1 s2:=I.call' (I2.os.trans (by rw[<- hs3]; rfl)) un I2.hok I2.bare λb hb=>by
     obtain⟨p0,p1,p2,p3,p4,p5⟩:=fpo b hb
     exact⟨p3,p1,p4,p5⟩
    obtain⟨mB,nsB,_⟩:=I2.loc
    have hBle:s.heap.objs.size<=s3.heap.objs.size:=by rw[sz3]; exact Nat.le_succ _
    exact fin _ _ vs G H1 s2 IX ⟨mB,nsB⟩ (I.fpOk hBle I2.free) sm1 hD hD1 R1 nG cG dG
  ·rw[upd_ne (Nat.ne_of_lt (fplt b hb))]
   exact(fpo b hb).1
 exact codeAny_compStart_list (loop _ I4 st1) (TT.self _ 0 _ _ _ st1 (loop _ I4 st1))
end
theorem plainI_of {it:It} {sc:Scope} {N:List Str} {tg e:Expr} (h:isI it sc N tg e=true):plainX e=true:=by
 cases it with
 | seq p=>unfold isI at h; exact plain_of h
 | rng p=>obtain⟨_,_,_,_,rfl,_⟩:=iv_rng h; rfl
 | enu p=>obtain⟨_,_,_,_,_,_,_,rfl,rfl,_⟩:=iv_enu h; rfl
 | zip _ _=>obtain⟨_,_,_,_,_,_,_,_,rfl,rfl,_⟩:=iv_zip h; rfl
theorem comp_is {two:Bool} {elt:Ex} {it:It} {ifs:Exs} {sc:Scope} {N:List Str} {e:Expr} (h:isE (.comp two elt it ifs) sc N e=true) :
  ∃ elt' tg iter ifs' isc pos xs,e=.ListComp elt' [⟨tg,iter,ifs',0⟩] isc pos/\tgIs two tg xs/\compOk isc sc N xs=true/\(inner N xs).Nodup/\isI it sc N tg iter=true/\isTs ifs (within isc sc) (inner N xs) ifs'=true/\isE elt (within isc sc) (inner N xs) elt'=true:=by
 unfold isE at h
 cases z:gComp e with
 | none=>rw[z] at h; cases h
 | some q=>
  rw[z] at h
  obtain⟨elt',⟨tg,iter,ifs',k⟩,isc,pos⟩:=q
  have z:=gComp_of z
  simp only[Bool.and_eq_true,beq_iff_eq] at h
  obtain⟨rfl,h⟩:=h
  cases two with
  | false=>
   cases y:gNm tg with
   | none=>rw[y] at h; cases h
   | some q=>
    rw[y] at h
    simp only[Bool.and_eq_true,decide_eq_true_eq] at h
    obtain⟨⟨⟨⟨h1,h2⟩,h3⟩,h4⟩,h5⟩:=h
    exact⟨elt',_,iter,ifs',isc,pos,[q.1],z,.inl ⟨rfl,q.1,q.2,gNm_of y,rfl⟩,h1,h2,h3,h4,h5⟩
  | true=>
   cases y:gT2 tg with
   | none=>rw[y] at h; cases h
   | some q=>
    rw[y] at h
    simp only[Bool.and_eq_true,decide_eq_true_eq] at h
    obtain⟨⟨⟨⟨h1,h2⟩,h3⟩,h4⟩,h5⟩:=h
    exact⟨elt',_,iter,ifs',isc,pos,[q.1.1,q.2.1.1],z,.inr ⟨rfl,_,_,_,_,_,_,gT2_of y,rfl⟩,h1,h2,h3,h4,h5⟩
section
variable {X:Cx} {C:Str->List D->R D} {e:Expr}
theorem comp_run {T:Tab} {n:Nat} {two:Bool} {elt:Ex} {it:It} {ifs:Exs} {elt' tg iter:Expr} {ifs':List Expr} {isc:Scope} {pos:Pos} {xs:List Str} {pins:List (Addr × Obj)} {σ:L2.St} {H:Hp} {s:Shared} {ρ:Env} {Fs:Nat->List Addr} {ys:List D}
  {use:Option (Value->Sem Unit)} {Q:Value->Shared->Prop} {fm:Bool} {DC:Prop} (hDC:DC->fm=true)
  (M:Md T n X) (ht:tgIs two tg xs) (ok:compOk isc X.env.scope X.N xs=true) (nd:(inner X.N xs).Nodup) (hi:isI it X.env.scope X.N tg iter=true)
  (hI:PI X tg iter (tI X.K C it))
  (hT:∀ X',Md T n X'->X'.env.scope=within isc X.env.scope->X'.N=inner X.N xs->PTs X' ifs' (tTs X'.K C ifs)) (hE:∀ X',Md T n X'->X'.env.scope=within isc X.env.scope->X'.N=inner X.N xs->PE X' elt' (tEm X'.K C fm elt))
  (I:Inv X pins σ H s) (S:VR X.K H σ ρ Fs) (he:ev C (.comp two elt it ifs) ρ=.ok (.lst ys))
  (fin:∀ D B vs G H' s',Inv X pins σ H' s'->(∃ m,s'.heap.Ns B m)->FpOk X pins H' B->Same H H'->H D=none->H' D=some (.lst vs)->Reps X.K H' ys vs G->Src ρ Fs H (vars (.comp two elt it ifs)) G->(DC->ys.all flatL=true->(deepIs X.K H' ys vs G/\∀ a ∈ G,H a=none)/\∀ a ∈ G,a ≠ D)->compPost (model X.prog X.w) X.A X.xe use Q (.ref D) B (.ok .next) s') :
  wpAny (model X.prog X.w) X.A (comprehension (.ListComp elt' [⟨tg,iter,ifs',0⟩] isc pos) isc X.env pos' (newList []) false (eval iter X.env) use) Q X.xe s:=by
 obtain⟨k1,k2,k3,k4,k5,k6,k7⟩:=compOk_parts ok
 have hfree:∀ y ∈ isc.names,y.2=.free->∃ c,X.env.cells.lookup y.1=some c:=λy hy hf=>by
  obtain⟨v1,v2,_⟩:=k6 y hy hf
  refine I.ok.has y.1 ?_
  rcases vis_vis.mpr v1 with z | z | z
  ·exact absurd z v2
  ·exact .inl z
  ·exact .inr z
 obtain⟨cl,hclos,hc,hf,hfr⟩:=closure_of isc X.env hfree
 rw[ev_comp] at he
 obtain⟨ds,g1,he⟩:=R.bind_eq_ok he
 obtain⟨ys',g2,he⟩:=R.bind_eq_ok he
 cases he
 refine wpAny_comprehension_free (g:=⟨tg,iter,ifs',0⟩) (gs:=[]) rfl (λx=>fold_of (plainI_of hi) _ x) hclos k1 (λy hy hl=>(k5 y hy hl).1) ?_
 refine thn (hI pins s σ H (λJ H1=>Same H H1/\∃ F,ItOk X.K J H1 ds F/\Src ρ Fs H (holdsI it) F/\ds.length<=sizeLine) I ⟨ρ,Fs,ds,S,g1,λJ H1 F s1 io c1 hz=>⟨s1,F,io,c1,hz⟩⟩) λv s1 h1=>thn h1 λitv s2 h2=>?_
 obtain⟨ia,fp,tn,J,H2,rfl,I2,TT,st2,f2,sm,F,io,c1,hz⟩:=h2
 refine comp_core (ws:=vars (.comp two elt it ifs)) (RR:=λacc B=>compPost (model X.prog X.w) X.A X.xe use Q acc B) (DC:=DC) hDC sm M ht ok nd hT hE hc hf hfr I2 TT st2 f2 io hz (S.more sm) (c1.mono (Same.refl _) (λi hi=>?_) λ_ z=>z) (λi hi=>?_) g2 λD B vs G H' s' I' nsB fB sm' hD hD' rr nG cG dG=>?_
 ·have:i ∈ varsI it:=by cases it <;> first | exact hi | cases hi
  simp[vars,this]
 ·simp[vars,hi]
 ·exact fin D B vs G H' s' I' nsB fB (sm.trans sm') (sm.free hD) hD' rr cG λz1 z2=>⟨dG z1 z2,nG⟩
theorem s_comp {T:Tab} {n:Nat} {two:Bool} {elt:Ex} {it:It} {ifs:Exs} (M:Md T n X) (h:isE (.comp two elt it ifs) X.env.scope X.N e=true)
  (hI:∀ tg e,isI it X.env.scope X.N tg e=true->PI X tg e (tI X.K C it))
  (hT:∀ X',Md T n X'->∀ es,isTs ifs X'.env.scope X'.N es=true->PTs X' es (tTs X'.K C ifs)) (hE:∀ X',Md T n X'->∀ e,isE elt X'.env.scope X'.N e=true->PE X' e (tE X'.K C elt)):PE X e (tE X.K C (.comp two elt it ifs)):=by
 obtain⟨elt',tg,iter,ifs',isc,pos,xs,rfl,ht,ok,nd,h1,h2,h3⟩:=comp_is h
 intro pins s σ H Q I hw
 obtain⟨ρ,Fs,d,S,he,k⟩:=hw
 have hd:∃ ys,d=.lst ys:=by
  have he':=he
  rw[ev_comp] at he'
  obtain⟨ds,g1,he'⟩:=R.bind_eq_ok he'
  obtain⟨ys,g2,he'⟩:=R.bind_eq_ok he'
  cases he'
  exact⟨ys,rfl⟩
 obtain⟨ys,rfl⟩:=hd
 rw[eval_ListComp]
 refine comp_run (use:=none) (fm:=former elt) (DC:=False) (λz=>z.elim) M ht ok nd h1 (hI _ _ h1) (λX' M' e1 e2=>hT X' M' _ (by rw[e1,e2]; exact h2)) (λX' M' e1 e2=>hE X' M' _ (by rw[e1,e2]; exact h3)) I S he ?_
 intro D B vs G H' s' I' ⟨m,nsB⟩ fB sm hD hD' rr cG _
 refine⟨m,nsB,λh' sb=>?_⟩
 obtain⟨b0,b1,b2,b3,b4,b5⟩:=fB
 have I2:Inv X pins σ H' { s' with heap:=h' }:=I'.turned (t':=s'.toks) (λb o hb e=>sb.extBut b o hb e) b0 b1 b3 b4 b5
 exact⟨.ref D,H',I2,rfl,k _ _ _ sm ⟨D,vs,G,rfl,rr,.inl ⟨hD',rfl⟩⟩ (Src.new hD cG) (λ_ ds _=>⟨D,G,rfl,hD⟩)⟩
end
section
variable {X:Cx} {C:Str->List D->R D} {e:Expr} {p q r:Ex}
theorem s_m1 {m:M1} (hu:X.A.units+40<cLine) (h:isE (.m1 m p q) X.env.scope X.N e=true) (hp:∀ e,isE p X.env.scope X.N e=true->PE X e (tE X.K C p)) (hq:∀ e,isE q X.env.scope X.N e=true->PE X e (tE X.K C q)):PE X e (tE X.K C (.m1 m p q)):=by
 obtain⟨o',m',ap,x,cp,rfl,h'⟩:=iv_m1 h; clear h; have h:=h'
 ·simp only[Bool.and_eq_true,beq_iff_eq] at h
  obtain⟨⟨⟨h1,rfl⟩,h3⟩,h4⟩:=h
  have ho:=hp _ h3
  have hx:=plain_of h4
  have ha:=pa_cons (hq _ h4) pa_nil (star_of hx _ _)
  have hbase:∀ name,attributeBase o' name X.env (eval o' X.env)=eval o' X.env:=λname=>attr_of (plain_of h3) name _
  have hfew:((backTo cp (starEach [x] X.env)).all (λx=>!x.1)&&(backToKw cp (keywordEach [] X.env)).all (λx=>x.1.isSome)
   && decide ([x].length+([]:List Keyword).length+(if ([]:List Keyword).isEmpty then 0 else 1)<30))=true:=by rw[star_of hx]; rfl
  have hline:(ap.endLine==cp.line)=true:=by rw[h1]; exact beq_self_eq_true _
  intro pins s σ H Q I hw
  obtain⟨ρ,Fs,d,S,he,k⟩:=hw
  rw[ev_m1] at he
  obtain⟨d1,g1,he⟩:=R.bind_eq_ok he
  obtain⟨d2,g2,he⟩:=R.bind_eq_ok he
  obtain⟨hl,ds,e1,e2⟩:=meth_int he
  have fin:∀ (tup:Bool) (T:String) (j:Int),d1=(if tup then .tup ds else .lst ds)->d=.int j->(∀ v1 H1 F1,Rep X.K H1 d1 v1 F1->tyV X.K T v1 H1) ->
    tBM X.K T (rM X.K m tup) (tE X.K C p) (tCons (tE X.K C q) tNil) σ H Q:=λtup T j ed ed' hty=>
   ⟨ρ,Fs,d1,S,g1,λv1 H1 F1 s1 r1 c1 _=>⟨hty v1 H1 F1 r1,⟨ρ,Fs,d2,S.more s1,g2,λv2 H2 F2 s2 r2 c2 _=>⟨v2,d1,d2,F1,F2,ds,j,rfl,r1.same s2,r2,ed,by rw[he,ed'],by subst ed'; exact k _ _ _ (s1.trans s2) rep_int Src.nil (λz=>by cases z)⟩⟩⟩⟩
  cases m with
  | index=>
   obtain⟨j,ej,rfl⟩:=e2
   cases d1 with
   | lst xs=>
    cases e1
    refine pe_bm PySem.F.plainAttrs_list PySem.F.slot_list_index PySem.F.type_list_index (mt_lindex hu) ho ha (hbase _) hfew hline (star_of hx _ _) rfl pins s σ H Q I (fin false "list" j rfl rfl λv1 H1 F1 r1=>?_)
    obtain⟨a,vs,F',rfl,_,hq',_⟩:=r1.lst_
    exact .inl ⟨rfl,vs,hq'⟩
   | tup xs=>
    cases e1
    refine pe_bm PySem.F.plainAttrs_tuple PySem.F.slot_tuple_index PySem.F.type_tuple_index (mt_tindex hu) ho ha (hbase _) hfew hline (star_of hx _ _) rfl pins s σ H Q I (fin true "tuple" j rfl rfl λv1 H1 F1 r1=>?_)
    obtain⟨a,vs,rfl,hq',_⟩:=r1
    exact .inr (.inl ⟨rfl,vs,hq'⟩)
   | _=>cases e1
  | count=>
   cases d1 with
   | lst xs=>
    cases e1
    refine pe_bm PySem.F.plainAttrs_list PySem.F.slot_list_count PySem.F.type_list_count (mt_lcount hu) ho ha (hbase _) hfew hline (star_of hx _ _) rfl pins s σ H Q I (fin false "list" _ rfl e2 λv1 H1 F1 r1=>?_)
    obtain⟨a,vs,F',rfl,_,hq',_⟩:=r1.lst_
    exact .inl ⟨rfl,vs,hq'⟩
   | tup xs=>
    cases e1
    refine pe_bm PySem.F.plainAttrs_tuple PySem.F.slot_tuple_count PySem.F.type_tuple_count (mt_tcount hu) ho ha (hbase _) hfew hline (star_of hx _ _) rfl pins s σ H Q I (fin true "tuple" _ rfl e2 λv1 H1 F1 r1=>?_)
    obtain⟨a,vs,rfl,hq',_⟩:=r1
    exact .inr (.inl ⟨rfl,vs,hq'⟩)
   | _=>cases e1
def Both (X:Cx) (C:Str->List D->R D) (p:Ex) (e:Expr):Prop:=PE X e (tE X.K C p)/\(testB p=true->PT X e (tT X.K C p)/\∀ op vs pos,e=.BoolOp op vs pos->PW X e (tT X.K C p))
theorem both_plain (hp:plainT p=true) (hx:plainTX e=true) (h:PE X e (tE X.K C p)):Both X C p e:=
 ⟨h,λ_=>⟨t_plain hp hx h,λop vs pos z=>by subst z; cases hx⟩⟩
theorem tand_in {σ:L2.St} {H:Hp} {Q:Bool->Hp->Prop} (h:tT X.K C (.and p q) σ H Q):tAnd (tT X.K C p) (tT X.K C q) σ H Q:=by
 obtain⟨ρ,Fs,b,S,he,k⟩:=h
 rw[tst_and] at he
 obtain⟨c,g1,he⟩:=R.bind_eq_ok he
 refine⟨ρ,Fs,c,S,g1,λH1 s1=>?_⟩
 cases c with
 | true=>rw[if_pos rfl] at he |-; exact⟨ρ,Fs,b,S.more s1,he,λH' s'=>k H' (s1.trans s')⟩
 | false=>rw[if_neg Bool.false_ne_true] at he |-; cases he; exact k H1 s1
theorem tor_in {σ:L2.St} {H:Hp} {Q:Bool->Hp->Prop} (h:tT X.K C (.or p q) σ H Q):tOr (tT X.K C p) (tT X.K C q) σ H Q:=by
 obtain⟨ρ,Fs,b,S,he,k⟩:=h
 rw[tst_or] at he
 obtain⟨c,g1,he⟩:=R.bind_eq_ok he
 refine⟨ρ,Fs,c,S,g1,λH1 s1=>?_⟩
 cases c with
 | false=>rw[if_neg Bool.false_ne_true] at he |-; exact⟨ρ,Fs,b,S.more s1,he,λH' s'=>k H' (s1.trans s')⟩
 | true=>rw[if_pos rfl] at he |-; cases he; exact k H1 s1
theorem both_and (h:isE (.and p q) X.env.scope X.N e=true) (hp:∀ e,isE p X.env.scope X.N e=true->Both X C p e) (hq:∀ e,isE q X.env.scope X.N e=true->Both X C q e):Both X C (.and p q) e:=by
 refine⟨s_and h (λe z=>(hp e z).1) (λe z=>(hq e z).1),λht=>?_⟩
 have ht':testB p=true/\testB q=true:=by simpa [testB] using ht
 have key:PW X e (tT X.K C (.and p q)):=by
  unfold isE at h
  split at h
  ·rw[Bool.and_eq_true] at h
   exact wm (pw_and ((hp _ h.1).2 ht'.1).1 (pw_and1 ((hq _ h.2).2 ht'.2).1)) λσ H Q h=>tand_in h
  ·rw[Bool.and_eq_true] at h
   exact wm (pw_and ((hp _ h.1).2 ht'.1).1 (((hq _ h.2).2 ht'.2).2 _ _ _ rfl)) λσ H Q h=>tand_in h
  ·cases h
 exact⟨key.pt,λ_ _ _ _=>key⟩
theorem both_or (h:isE (.or p q) X.env.scope X.N e=true) (hp:∀ e,isE p X.env.scope X.N e=true->Both X C p e) (hq:∀ e,isE q X.env.scope X.N e=true->Both X C q e):Both X C (.or p q) e:=by
 refine⟨s_or h (λe z=>(hp e z).1) (λe z=>(hq e z).1),λht=>?_⟩
 have ht':testB p=true/\testB q=true:=by simpa [testB] using ht
 have key:PW X e (tT X.K C (.or p q)):=by
  unfold isE at h
  split at h
  ·rw[Bool.and_eq_true] at h
   exact wm (pw_or ((hp _ h.1).2 ht'.1).1 (pw_or1 ((hq _ h.2).2 ht'.2).1)) λσ H Q h=>tor_in h
  ·rw[Bool.and_eq_true] at h
   exact wm (pw_or ((hp _ h.1).2 ht'.1).1 (((hq _ h.2).2 ht'.2).2 _ _ _ rfl)) λσ H Q h=>tor_in h
  ·cases h
 exact⟨key.pt,λ_ _ _ _=>key⟩
theorem both_not (h:isE (.not p) X.env.scope X.N e=true) (hp:∀ e,isE p X.env.scope X.N e=true->Both X C p e):Both X C (.not p) e:=by
 refine⟨s_not h (λe z=>(hp e z).1),λht=>?_⟩
 unfold isE at h
 split at h
 ·refine⟨tm (pt_not ((hp _ h).2 ht).1) λσ H Q h=>?_,λ_ _ _ z=>by cases z⟩
  obtain⟨ρ,Fs,b,S,he,k⟩:=h
  rw[tst_not] at he
  obtain⟨c,g1,he⟩:=R.bind_eq_ok he
  cases he
  exact⟨ρ,Fs,c,S,g1,λH1 s1=>k H1 s1⟩
 ·cases h
theorem both_cmp {t:TE} (hp:plainT p=true) (hb:∀ ρ d,ev C p ρ=.ok d->∃ b,d=.bl b) (h:PE X e (tE X.K C p)) (hin:∀ σ H Q,tE X.K C p σ H Q->t σ H Q) (ht:PT X e (tTest t)) (hx:∀ op vs pos,e ≠ .BoolOp op vs pos):Both X C p e:=
 ⟨h,λ_=>⟨tm ht λσ H Q h=>hin _ _ _ (t_bl hp hb h),λop vs pos z=>absurd z (hx op vs pos)⟩⟩
theorem both_op {o:Op} (hu:X.A.units+40<cLine) (h:isE (.op o p q) X.env.scope X.N e=true)
  (hp:∀ e,isE p X.env.scope X.N e=true->PE X e (tE X.K C p)) (hq:∀ e,isE q X.env.scope X.N e=true->PE X e (tE X.K C q)):Both X C (.op o p q) e:=by
 have hpe:=s_op hu h hp hq (λo e z=>behind_of (plain_of z) o)
 unfold isE at h
 split at h
 ·exact both_plain rfl rfl hpe
 ·simp only[Bool.and_eq_true,beq_iff_eq] at h
  refine both_cmp rfl (λρ d he=>?_) hpe (λσ H Q h=>in_op h) (pt_cmpR (o_cmp hu h.1.1) (hp _ h.1.2) (hq _ h.2) (behind_of (plain_of h.2) _)) (λ_ _ _ z=>by cases z)
  rw[ev_op] at he
  obtain⟨d1,h1,he⟩:=R.bind_eq_ok he
  obtain⟨d2,h2,he⟩:=R.bind_eq_ok he
  exact op2_bl h.1.1 he
 ·cases h
end
section
variable {X:Cx} {C:Str->List D->R D} {e:Expr} {p q r:Ex}
theorem in_chn {o o':Op} {c1 c2:CmpOp} (h1:opC o=some c1) (h2:opC o'=some c2) {σ:L2.St} {H:Hp} {Q:VK} (h:tE X.K C (.chn o o' p q r) σ H Q):tChain (rO X.K o) (rO X.K o') (tE X.K C p) (tE X.K C q) (tE X.K C r) σ H Q:=by
 obtain⟨ρ,Fs,d,S,he,k⟩:=h
 rw[ev_chn] at he
 obtain⟨d1,g1,he⟩:=R.bind_eq_ok he
 obtain⟨d2,g2,he⟩:=R.bind_eq_ok he
 obtain⟨d3,g3,he⟩:=R.bind_eq_ok he
 refine two_of S g1 g2 λv1 v2 H2 F1 F2 s r1 r2 c1 c2=>⟨d1,d2,F1,F2,d3,r1,r2,g3,λv H' F s' r' c' f'=>?_⟩
 obtain⟨b,rfl⟩:=op2_bl h1 g3
 obtain⟨rfl,_⟩:=r'
 refine⟨b,rfl,?_⟩
 cases b with
 | false=>
  cases he
  rw[if_neg Bool.false_ne_true]
  exact k _ _ _ (s.trans s') rep_bl Src.nil (λz=>by cases z)
 | true=>
  rw[if_pos rfl]
  obtain⟨d4,g4,he⟩:=R.bind_eq_ok he
  refine⟨ρ,Fs,d4,(S.more s).more s',g4,λv4 H4 F4 s4 r4 c4 _=>⟨d2,d4,F2,F4,d,(r2.same s').same s4,r4,he,λv5 H5 F5 s5 r5 c5 f5=>?_⟩⟩
  obtain⟨b',rfl⟩:=op2_bl h2 he
  obtain⟨rfl,rfl⟩:=r5
  exact k _ _ _ (s.trans (s'.trans (s4.trans s5))) rep_bl Src.nil (λz=>by cases z)
theorem both_chn {o o':Op} (hu:X.A.units+40<cLine) (h:isE (.chn o o' p q r) X.env.scope X.N e=true)
  (hp:∀ e,isE p X.env.scope X.N e=true->PE X e (tE X.K C p)) (hq:∀ e,isE q X.env.scope X.N e=true->PE X e (tE X.K C q)) (hr:∀ e,isE r X.env.scope X.N e=true->PE X e (tE X.K C r)):Both X C (.chn o o' p q r) e:=by
 have hpe:=s_chn hu h hp hq hr (λo e z=>behind_of (plain_of z) o)
 obtain⟨_,_,_,_,_,_,rfl,h'⟩:=iv_chn h; clear h; have h:=h'
 ·simp only[Bool.and_eq_true,beq_iff_eq] at h
  obtain⟨⟨⟨⟨h1,h2⟩,h3⟩,h4⟩,h5⟩:=h
  refine both_cmp rfl (λρ d he=>?_) hpe (λσ H Q h=>in_chn h1 h2 h) (pt_chain (o_cmp hu h1) (o_cmp hu h2) (hp _ h3) (hq _ h4) (hr _ h5) (behind_of (plain_of h5) _)) (λ_ _ _ z=>by cases z)
  rw[ev_chn] at he
  obtain⟨d1,g1,he⟩:=R.bind_eq_ok he
  obtain⟨d2,g2,he⟩:=R.bind_eq_ok he
  obtain⟨d3,g3,he⟩:=R.bind_eq_ok he
  obtain⟨b,rfl⟩:=op2_bl h1 g3
  cases b with
  | false=>cases he; exact⟨_,rfl⟩
  | true=>
   obtain⟨d4,g4,he⟩:=R.bind_eq_ok he
   exact op2_bl h2 he
theorem both_isn {neg:Bool} (h:isE (.isn neg p) X.env.scope X.N e=true) (hp:∀ e,isE p X.env.scope X.N e=true->PE X e (tE X.K C p)):Both X C (.isn neg p) e:=by
 have hpe:=s_isn h hp
 have hb:∀ ρ d,ev C (.isn neg p) ρ=.ok d->∃ b,d=.bl b:=λρ d he=>by
  rw[ev_isn] at he
  obtain⟨d1,g1,he⟩:=R.bind_eq_ok he
  cases he
  exact⟨_,rfl⟩
 have key:∀ {K:Frag} {H:Hp} {d:D} {v:V} {F:List Addr},Rep K H d v F->decide (v=.non)=isNon d:=λ{K H d v F} r=>by
  cases d with
  | non=>obtain⟨rfl,_⟩:=r; rfl
  | bl b=>obtain⟨rfl,_⟩:=r; rfl
  | int b=>obtain⟨rfl,_⟩:=r; rfl
  | str b=>obtain⟨rfl,_⟩:=r; rfl
  | dct _=>exact r.elim
  | tup xs=>obtain⟨_,_,rfl,_⟩:=r; rfl
  | lst xs=>obtain⟨_,_,_,rfl,_⟩:=r; rfl
 obtain⟨_,_,_,_,_,rfl,h'⟩:=iv_isn h; clear h; have h:=h'
 ·simp only[Bool.and_eq_true,beq_iff_eq] at h
  obtain⟨h1,h2⟩:=h
  cases neg with
  | false=>
   subst h1
   refine⟨hpe,λ_=>⟨tm (pt_cmp (pc_isN (hp _ h2))) λσ H Q h=>?_,λ_ _ _ z=>by cases z⟩⟩
   obtain⟨ρ,Fs,b,S,he,k⟩:=h
   rw[tst_plain _ rfl] at he
   obtain⟨d,g0,he⟩:=R.bind_eq_ok he
   rw[ev_isn] at g0
   obtain⟨d1,g1,g0⟩:=R.bind_eq_ok g0
   cases g0
   cases he
   refine⟨ρ,Fs,d1,S,g1,λv1 H1 F1 s1 r1 c1 _=>⟨decide (v1=.non),rfl,?_⟩⟩
   rw[key r1]
   have:=k H1 s1
   cases h:isNon d1 <;> rw[h] at this <;> exact this
  | true=>
   subst h1
   refine⟨hpe,λ_=>⟨tm (pt_cmp (pc_notN (hp _ h2))) λσ H Q h=>?_,λ_ _ _ z=>by cases z⟩⟩
   obtain⟨ρ,Fs,b,S,he,k⟩:=h
   rw[tst_plain _ rfl] at he
   obtain⟨d,g0,he⟩:=R.bind_eq_ok he
   rw[ev_isn] at g0
   obtain⟨d1,g1,g0⟩:=R.bind_eq_ok g0
   cases g0
   cases he
   refine⟨ρ,Fs,d1,S,g1,λv1 H1 F1 s1 r1 c1 _=>⟨!decide (v1=.non),rfl,?_⟩⟩
   rw[key r1]
   have:=k H1 s1
   cases h:isNon d1 <;> rw[h] at this <;> exact this
theorem both_ist (h:isE (.ist p) X.env.scope X.N e=true) (hp:∀ e,isE p X.env.scope X.N e=true->PE X e (tE X.K C p)):Both X C (.ist p) e:=by
 have hpe:=s_ist h hp
 obtain⟨_,_,_,_,rfl,h'⟩:=iv_ist h; clear h; have h:=h'
 ·refine⟨hpe,λ_=>⟨tm (pt_cmpR op_isT (hp _ h) pe_bl rfl) λσ H Q h=>?_,λ_ _ _ z=>by cases z⟩⟩
  obtain⟨ρ,Fs,b,S,he,k⟩:=h
  rw[tst_plain _ rfl] at he
  obtain⟨d,g0,he⟩:=R.bind_eq_ok he
  rw[ev_ist] at g0
  obtain⟨d1,g1,g0⟩:=R.bind_eq_ok g0
  refine⟨ρ,Fs,d1,S,g1,λv1 H1 F1 s1 r1 c1 _=>?_⟩
  cases d1 with
  | bl c=>
   cases g0
   cases he
   obtain⟨rfl,_⟩:=r1
   exact⟨_,rfl,rfl,_,rfl,k H1 s1⟩
  | _=>cases g0
end
section
variable (T:Tab) (n:Nat)
mutual
theorem sB (hs:∀ X,Md T n X->CallR X (.builtin "sorted") (rB X.K .sorted)):∀ (p:Ex) (X:Cx),Md T n X->∀ e,isE p X.env.scope X.N e=true->Both X (run T n) p e
 | .var i,X,M,e,h=>by
  refine both_plain rfl ?_ (s_var h)
  unfold isE at h; split at h <;> first | rfl | cases h
 | .int i,X,M,e,h=>by
  refine both_plain rfl ?_ (s_int h)
  unfold isE at h; split at h <;> first | rfl | cases h
 | .bl i,X,M,e,h=>by
  refine both_plain rfl ?_ (s_bl h)
  unfold isE at h; split at h <;> first | rfl | cases h
 | .non,X,M,e,h=>by
  refine both_plain rfl ?_ (s_non h)
  unfold isE at h; split at h <;> first | rfl | cases h
 | .str i,X,M,e,h=>by
  refine both_plain rfl ?_ (s_str h)
  unfold isE at h; split at h <;> first | rfl | cases h
 | .op o a b,X,M,e,h=>both_op M.hu h (λe z=>(sB hs a X M e z).1) (λe z=>(sB hs b X M e z).1)
 | .chn o o' a b c,X,M,e,h=>both_chn M.hu h (λe z=>(sB hs a X M e z).1) (λe z=>(sB hs b X M e z).1) (λe z=>(sB hs c X M e z).1)
 | .isn neg a,X,M,e,h=>both_isn h (λe z=>(sB hs a X M e z).1)
 | .ist a,X,M,e,h=>both_ist h (λe z=>(sB hs a X M e z).1)
 | .and a b,X,M,e,h=>both_and h (λe z=>sB hs a X M e z) (λe z=>sB hs b X M e z)
 | .or a b,X,M,e,h=>both_or h (λe z=>sB hs a X M e z) (λe z=>sB hs b X M e z)
 | .not a,X,M,e,h=>both_not h (λe z=>sB hs a X M e z)
 | .ife c a b,X,M,e,h=>⟨s_ife h (λe t z=>((sB hs c X M e z).2 t).1) (λe z=>(sB hs a X M e z).1) (λe z=>(sB hs b X M e z).1),λt=>by cases t⟩
 | .call f as,X,M,e,h=>by
  refine both_plain rfl ?_ (s_call M h (λes z=>sA hs as X M es z))
  obtain⟨_,_,_,_,_,rfl,_⟩:=iv_call h; rfl
 | .b1 f a,X,M,e,h=>by
  refine both_plain rfl ?_ (s_b1 M (hs X M) h (λe z=>(sB hs a X M e z).1))
  obtain⟨_,_,_,_,rfl,_⟩:=iv_b1 h; rfl
 | .ins t a,X,M,e,h=>by
  refine both_plain rfl ?_ (s_ins M h (λe z=>(sB hs a X M e z).1))
  obtain⟨_,_,_,_,_,_,rfl,_⟩:=iv_ins h; rfl
 | .idx a b,X,M,e,h=>by
  refine both_plain rfl ?_ (s_idx h (λe z=>(sB hs a X M e z).1) (λe z=>(sB hs b X M e z).1))
  unfold isE at h; split at h <;> first | rfl | cases h
 | .slc a lo hi,X,M,e,h=>by
  refine both_plain rfl ?_ (s_slc h (λe z=>(sB hs a X M e z).1) (λo z=>s_part z λp e ep z=>?_) (λo z=>s_part z λp e ep z=>?_))
  ·unfold isE at h; split at h <;> first | rfl | cases h
  ·exact sO hs lo X M p e ep z
  ·exact sO hs hi X M p e ep z
 | .m1 m o a,X,M,e,h=>by
  refine both_plain rfl ?_ (s_m1 M.hu h (λe z=>(sB hs o X M e z).1) (λe z=>(sB hs a X M e z).1))
  obtain⟨_,_,_,_,_,rfl,_⟩:=iv_m1 h; rfl
 | .tup as,X,M,e,h=>by
  refine both_plain rfl ?_ (s_tup h (λes z=>sA hs as X M es z))
  unfold isE at h; split at h <;> first | rfl | cases h
 | .lst as,X,M,e,h=>by
  refine both_plain rfl ?_ (s_lst h (λes z=>sA hs as X M es z))
  unfold isE at h; split at h <;> first | rfl | cases h
 | .comp two elt it ifs,X,M,e,h=>by
  refine both_plain rfl ?_ (s_comp M h (λtg e z=>sI hs it X M tg e z) (λX' M' es z=>sTs hs ifs X' M' es z) (λX' M' e z=>(sB hs elt X' M' e z).1))
  obtain⟨_,_,_,_,_,_,_,rfl,_⟩:=comp_is h
  rfl
 | .rngL t a,X,M,e,h=>by
  refine both_plain rfl ?_ (s_rngL M h (λe z=>(sB hs a X M e z).1))
  obtain⟨_,_,_,_,_,_,_,rfl,_⟩:=iv_rngL h; rfl
 | .cst i,X,M,e,h=>by
  refine both_plain rfl ?_ (s_cst M h)
  unfold isE at h; split at h <;> first | rfl | cases h
 | .dix i a,X,M,e,h=>by
  refine both_plain rfl ?_ (s_dix h (λe z=>(sB hs a X M e z).1))
  obtain⟨_,_,_,rfl,_⟩:=iv_dix h; rfl
 | .cald f i a,X,M,e,h=>by
  refine both_plain rfl ?_ (s_cald M h (λe z=>(sB hs a X M e z).1))
  obtain⟨_,_,_,_,_,rfl,_⟩:=iv_cald h; rfl
 | .sset a,X,M,e,h=>by
  refine both_plain rfl ?_ (s_sset M h (λe z=>(sB hs a X M e z).1))
  obtain⟨_,_,_,_,_,_,_,rfl,_⟩:=iv_sset h; rfl
 | .rep a b,X,M,e,h=>by
  refine both_plain rfl ?_ (s_rep h (λe z=>(sB hs a X M e z).1) (λe z=>(sB hs b X M e z).1))
  unfold isE at h; split at h <;> first | rfl | cases h
theorem sA (hs:∀ X,Md T n X->CallR X (.builtin "sorted") (rB X.K .sorted)):∀ (ps:Exs) (X:Cx),Md T n X->∀ es,isEs ps X.env.scope X.N es=true->PA X es (tA X.K (run T n) ps)
 | .nil,X,M,es,h=>by
  unfold isEs at h
  split at h
  ·exact a_nil
  ·cases h
 | .cons a r,X,M,es,h=>by
  unfold isEs at h
  split at h
  ·rw[Bool.and_eq_true] at h
   exact a_cons (plain_of h.1) (sB hs a X M _ h.1).1 (sA hs r X M _ h.2)
  ·cases h
theorem sO (hs:∀ X,Md T n X->CallR X (.builtin "sorted") (rB X.K .sorted)):∀ (ps:Exs) (X:Cx),Md T n X->∀ (p:Ex) e,ps=.cons p .nil->isE p X.env.scope X.N e=true->PE X e (tE X.K (run T n) p)
 | .nil,X,M,p,e,ep,z=>by cases ep
 | .cons a r,X,M,p,e,ep,z=>by
  cases ep
  exact(sB hs a X M e z).1
theorem sTs (hs:∀ X,Md T n X->CallR X (.builtin "sorted") (rB X.K .sorted)):∀ (ps:Exs) (X:Cx),Md T n X->∀ es,isTs ps X.env.scope X.N es=true->PTs X es (tTs X.K (run T n) ps)
 | .nil,X,M,es,h=>by
  unfold isTs at h
  split at h
  ·exact ts_nil
  ·cases h
 | .cons a r,X,M,es,h=>by
  unfold isTs at h
  split at h
  ·simp only[Bool.and_eq_true] at h
   exact ts_cons ((sB hs a X M _ h.1.2).2 h.1.1).1 (sTs hs r X M _ h.2)
  ·cases h
theorem sI (hs:∀ X,Md T n X->CallR X (.builtin "sorted") (rB X.K .sorted)):∀ (it:It) (X:Cx),Md T n X->∀ tg e,isI it X.env.scope X.N tg e=true->PI X tg e (tI X.K (run T n) it)
 | .seq a,X,M,tg,e,h=>s_it M h λp e z h'=>by
  rcases z with z | z | z <;> cases z
  exact(sB hs a X M e h').1
 | .rng a,X,M,tg,e,h=>s_it M h λp e z h'=>by
  rcases z with z | z | z <;> cases z
  exact(sB hs a X M e h').1
 | .zip a b,X,M,tg,e,h=>s_zip M h (λe z=>(sB hs a X M e z).1) (λe z=>(sB hs b X M e z).1)
 | .enu a,X,M,tg,e,h=>s_it M h λp e z h'=>by
  rcases z with z | z | z <;> cases z
  exact(sB hs a X M e h').1
end
end
section
variable {K:Frag} {B:Hp} {Al:Addr->Prop} {H H1:Hp} {σ:L2.St} {ρ:Env} {Fs:Nat->List Addr}
theorem SR.tracked (S:SR K B Al H σ ρ Fs) {i:Nat} {d:D} {o:Bool} (h:ρ[i]?=some (some (d,o))) {a:Addr} (ha:a ∈ Fs i):H a ≠ none:=λz=>by
 obtain⟨v,_,r⟩:=S.val i d o h
 obtain⟨xs,e⟩:=r.lists a ha
 rw[z] at e
 cases e
theorem flat_nil {ds:List D} (h:noLs ds=true) (z:ds.all flatL=true):ds=[]:=by
 cases ds with
 | nil=>rfl
 | cons d ds=>
  have h1:(noL d&&noLs ds)=true:=h
  rw[Bool.and_eq_true] at h1
  rw[List.all_cons,Bool.and_eq_true] at z
  cases d with
  | lst es=>cases h1.1
  | _=>cases z.1
theorem unown_get {vs:List Nat} {ρ:Env} {i:Nat} {d:D} {o:Bool} (h:(unown vs ρ)[i]?=some (some (d,o))):∃ o',ρ[i]?=some (some (d,o'))/\(o=true->o'=true/\i ∉ vs):=by
 unfold unown at h
 rw[List.getElem?_mapIdx] at h
 cases e:ρ[i]? with
 | none=>rw[e] at h; cases h
 | some sl=>
  rw[e] at h
  have h':(if vs.contains i then sl.map λp=>(p.1,false) else sl)=some (d,o):=Option.some.inj h
  split at h'
  ·cases sl with
   | none=>cases h'
   | some p=>
    obtain⟨d',o'⟩:=p
    cases h'
    exact⟨o',rfl,λz=>by cases z⟩
  ·rename_i hc
   subst h'
   exact⟨o,rfl,λz=>⟨z,by simpa using hc⟩⟩
theorem unown_len {vs:List Nat} {ρ:Env}:(unown vs ρ).length=ρ.length:=by simp[unown]
theorem SR.unown (S:SR K B Al H σ ρ Fs) (vs:List Nat):SR K B Al H σ (Lf.unown vs ρ) Fs where
 len:=by rw[unown_len]; exact S.len
 val:=λi d o h=>by
  obtain⟨o',h',_⟩:=unown_get h
  exact S.val i d o' h'
 al:=λi d o h=>by
  obtain⟨o',h',_⟩:=unown_get h
  exact S.al i d o' h'
 own:=λi d h=>by
  obtain⟨o',h',z⟩:=unown_get h
  obtain⟨rfl,_⟩:=z rfl
  obtain⟨p1,p2,p3,p4⟩:=S.own i d h'
  refine⟨p1,p2,λj d' o' hj h2=>?_,p4⟩
  obtain⟨o2,h2',_⟩:=unown_get h2
  exact p3 j d' o2 hj h2'
 same:=S.same
 fr:=S.fr
 deep:=λi ds h z=>by
  obtain⟨o',h',w⟩:=unown_get h
  obtain⟨rfl,_⟩:=w rfl
  exact S.deep i ds h' z
theorem SR.view (S:SR K B Al H σ ρ Fs) {i:Nat} {d:D} {v:V} {F:List Addr} (hi:i < σ.length) (r:Rep K H d v F) (hal:∀ a ∈ F,Al a) (hap:∀ j d',j ≠ i->ρ[j]?=some (some (d',true))->∀ a ∈ Fs j,a ∉ F) :
  SR K B Al H (σ.set i (some v)) (ρ.set i (some (d,false))) (λj=>if j=i then F else Fs j) where
 len:=by rw[List.length_set,List.length_set]; exact S.len
 val:=λj d' o h=>by
  by_cases hj:j=i
  ·subst hj
   rw[List.getElem?_set_self (by rw[<- S.len]; exact hi)] at h
   cases h
   exact⟨v,List.getElem?_set_self hi,by rw[if_pos rfl]; exact r.S⟩
  ·rw[List.getElem?_set_ne (Ne.symm hj)] at h
   obtain⟨w,h1,h2⟩:=S.val j d' o h
   exact⟨w,by rw[List.getElem?_set_ne (Ne.symm hj)]; exact h1,by rw[if_neg hj]; exact h2⟩
 al:=λj d' o h=>by
  by_cases hj:j=i
  ·subst hj
   simp only[if_pos]
   exact hal
  ·rw[List.getElem?_set_ne (Ne.symm hj)] at h
   simp only[if_neg hj]
   exact S.al j d' o h
 own:=λj d' h=>by
  by_cases hj:j=i
  ·subst hj
   rw[List.getElem?_set_self (by rw[<- S.len]; exact hi)] at h
   cases h
  ·rw[List.getElem?_set_ne (Ne.symm hj)] at h
   obtain⟨p1,p2,p3,a,F',vs,q1,q2,q3⟩:=S.own j d' h
   simp only[if_neg hj]
   refine⟨p1,p2,λk d2 o2 hk h2=>?_,a,F',vs,q1,by rw[List.getElem?_set_ne (Ne.symm hj)]; exact q2,q3⟩
   by_cases hki:k=i
   ·simp only[if_pos hki]
    exact hap j d' hj h
   ·simp only[if_neg hki]
    rw[List.getElem?_set_ne (Ne.symm hki)] at h2
    exact p3 k d2 o2 hk h2
 same:=S.same
 fr:=S.fr
 deep:=λj ds h z=>by
  by_cases hj:j=i
  ·subst hj
   rw[List.getElem?_set_self (by rw[<- S.len]; exact hi)] at h
   cases h
  ·rw[List.getElem?_set_ne (Ne.symm hj)] at h
   obtain⟨a,F',vs,q1,q2,q3,q4⟩:=S.deep j ds h z
   simp only[if_neg hj]
   exact⟨a,F',vs,q1,by rw[List.getElem?_set_ne (Ne.symm hj)]; exact q2,q3,q4⟩
theorem SR.mine (S:SR K B Al H σ ρ Fs) {i:Nat} {d:D} {v:V} {F:List Addr} (hi:i < σ.length) (r:Rep K H d v F) (hn:F.Nodup) (hB:∀ a ∈ F,B a=none) (hm:∃ a F0 vs,F=a::F0/\v=.ref a/\H a=some (.lst vs)) (hd:∀ ds,d=.lst ds->ds.all flatL=true->∃ a F0 vs,F=a::F0/\v=.ref a/\H a=some (.lst vs)/\deepIs K H ds vs F0) (hap:∀ j d' o',j ≠ i->ρ[j]?=some (some (d',o'))->∀ a ∈ Fs j,a ∉ F) :
  SR K B Al H (σ.set i (some v)) (ρ.set i (some (d,true))) (λj=>if j=i then F else Fs j) where
 len:=by rw[List.length_set,List.length_set]; exact S.len
 val:=λj d' o h=>by
  by_cases hj:j=i
  ·subst hj
   rw[List.getElem?_set_self (by rw[<- S.len]; exact hi)] at h
   cases h
   exact⟨v,List.getElem?_set_self hi,by rw[if_pos rfl]; exact r.S⟩
  ·rw[List.getElem?_set_ne (Ne.symm hj)] at h
   obtain⟨w,h1,h2⟩:=S.val j d' o h
   exact⟨w,by rw[List.getElem?_set_ne (Ne.symm hj)]; exact h1,by rw[if_neg hj]; exact h2⟩
 al:=λj d' o h=>by
  by_cases hj:j=i
  ·subst hj
   simp only[if_pos]
   exact λa ha=>S.fr a (hB a ha)
  ·rw[List.getElem?_set_ne (Ne.symm hj)] at h
   simp only[if_neg hj]
   exact S.al j d' o h
 own:=λj d' h=>by
  by_cases hj:j=i
  ·subst hj
   simp only[if_pos]
   obtain⟨a,F0,vs,q1,q2,q3⟩:=hm
   refine⟨hn,hB,λk d2 o2 hk h2=>?_,a,F0,vs,q1,by rw[List.getElem?_set_self hi,q2],q3⟩
   simp only[if_neg hk]
   rw[List.getElem?_set_ne (Ne.symm hk)] at h2
   exact λa ha hb=>hap k d2 o2 hk h2 a hb ha
  ·rw[List.getElem?_set_ne (Ne.symm hj)] at h
   obtain⟨p1,p2,p3,a,F',vs,q1,q2,q3⟩:=S.own j d' h
   simp only[if_neg hj]
   refine⟨p1,p2,λk d2 o2 hk h2=>?_,a,F',vs,q1,by rw[List.getElem?_set_ne (Ne.symm hj)]; exact q2,q3⟩
   by_cases hki:k=i
   ·simp only[if_pos hki]
    exact hap j d' true hj h
   ·simp only[if_neg hki]
    rw[List.getElem?_set_ne (Ne.symm hki)] at h2
    exact p3 k d2 o2 hk h2
 same:=S.same
 fr:=S.fr
 deep:=λj ds h z=>by
  by_cases hj:j=i
  ·subst hj
   rw[List.getElem?_set_self (by rw[<- S.len]; exact hi)] at h
   cases h
   simp only[if_pos]
   obtain⟨a,F0,vs,q1,q2,q3,q4⟩:=hd ds rfl z
   exact⟨a,F0,vs,q1,by rw[List.getElem?_set_self hi,q2],q3,q4⟩
  ·rw[List.getElem?_set_ne (Ne.symm hj)] at h
   obtain⟨a,F',vs,q1,q2,q3,q4⟩:=S.deep j ds h z
   simp only[if_neg hj]
   exact⟨a,F',vs,q1,by rw[List.getElem?_set_ne (Ne.symm hj)]; exact q2,q3,q4⟩
theorem SR.give (S:SR K B Al H σ ρ Fs) {i:Nat} {e:Ex} {d:D} {v:V} {F:List Addr} (hi:i < σ.length) (s1:Same H H1) (r:Rep K H1 d v F) (c:Src ρ Fs H (vars e) F)
  (f:former e=true->∀ ds,d=.lst ds->∃ a F',F=a::F'/\H a=none):SR K B Al H1 (σ.set i (some v)) (give e ρ i d) (λj=>if j=i then F else Fs j):=by
 have S1:=S.more s1
 have hal:∀ a ∈ F,Al a:=λa ha=>by
  rcases c a ha with z | ⟨k,_,⟨d',o',hk⟩,z⟩
  ·exact S.fr a (S.same.free z)
  ·exact S.al k d' o' hk a z
 unfold Lf.give
 split
 ·rename_i hnl
  have hF:=r.noL hnl
  subst hF
  exact S1.view hi r hal (λ_ _ _ _ _ _ z=>nomatch z)
 ·split
  ·rename_i hnl how
   unfold owns at how
   rw[Bool.and_eq_true] at how
   cases d with
   | lst ds=>
    have hfl:noLs ds=true:=how.2
    obtain⟨a,F',e1,e2⟩:=f how.1 ds rfl
    obtain⟨b,vs,F2,hv,rr,q⟩:=id r
    have hF2:=rr.noL hfl
    subst hF2
    have hFa:F=[a]/\v=.ref a/\H1 a=some (.lst vs):=by
     rcases q with⟨z0,z⟩ | ⟨_,z⟩
     ·rw[z] at e1 |-; cases e1; exact⟨rfl,hv,z0⟩
     ·rw[z] at e1; cases e1
    obtain⟨hFa,hva,hHa⟩:=hFa
    subst hFa
    refine S1.mine hi r (by simp) (λb hb=>?_) ⟨a,[],vs,rfl,hva,hHa⟩ (λes ee hz=>?_) (λj d' o' _ hj b hb hb'=>?_)
    ·have:b=a:=by simpa using hb
     subst this
     exact S.same.free e2
    ·cases ee
     have hnil:=flat_nil hfl hz
     subst hnil
     obtain⟨rfl,_⟩:=rr
     exact⟨a,[],[],rfl,hva,hHa,rfl,rfl⟩
    ·have:b=a:=by simpa using hb'
     subst this
     exact S.tracked hj hb e2
   | _=>cases how.2
  ·refine(S1.unown (vars e)).view hi r hal λj d' hj h a ha ha'=>?_
   obtain⟨o',h',z⟩:=unown_get h
   obtain⟨rfl,hv⟩:=z rfl
   rcases c a ha' with q | ⟨k,hk,⟨d2,o2,hk2⟩,q⟩
   ·exact S.tracked h' ha q
   ·have hjk:k ≠ j:=λz=>hv (by rw[<- z]; exact hk)
    exact(S.own j d' h').2.2.1 k d2 o2 hjk hk2 a ha q
end
def FQ (K:Frag) (B:Hp) (Al:Addr->Prop) (fm:Nat->Bool) (fl:Fl) (D:Ends):Prop:=
 match fl with
 | .nx ρ'=>∀ σ' H' Fs',SR K B Al H' σ' ρ' Fs'->D.nx σ' H'
 | .rt d=>∀ v H' F,Same B H'->Rep K H' d v F->(∀ a ∈ F,Al a)->(∀ k,fm k=true->ShP k B d F)->D.rt v H'
theorem FQ.of {K:Frag} {B:Hp} {Al:Addr->Prop} {fm fm':Nat->Bool} {fl:Fl} {D:Ends} (k:FQ K B Al fm' fl D) (h:∀ k,fm' k=true->fm k=true):FQ K B Al fm fl D:=by
 cases fl with
 | nx ρ'=>exact k
 | rt d=>exact λv H' F s r al f=>k v H' F s r al λm z=>f m (h m z)
def tS (K:Frag) (C:Str->List D->R D) (st:Sm):TS:=λD σ H=>∃ B Al ρ Fs fl,SR K B Al H σ ρ Fs/\exm C st ρ=.ok fl/\FQ K B Al (allF st) fl D
def tSs (K:Frag) (C:Str->List D->R D) (st:Sms):TS:=λD σ H=>∃ B Al ρ Fs fl,SR K B Al H σ ρ Fs/\exs C st ρ=.ok fl/\FQ K B Al (allFs st) fl D
section
variable {X:Cx} {C:Str->List D->R D} {st:Stmt}
theorem sm' {st:Stmt} {t t':TS} (h:PS X st t) (k:∀ D σ H,t' D σ H->t D σ H):PS X st t':=λpins s σ H D I q=>h pins s σ H D I (k D σ H q)
theorem ssm {st:List Stmt} {t t':TS} (h:PSs X st t) (k:∀ D σ H,t' D σ H->t D σ H):PSs X st t':=λpins s σ H D I q=>h pins s σ H D I (k D σ H q)
theorem put_of {i:Nat} {x:Str} (h:putB X.env.scope X.N i x=true):X.N[i]?=some x/\Loc X.env.scope x:=by
 unfold putB at h
 simp only[Bool.and_eq_true,beq_iff_eq] at h
 refine⟨h.1,?_⟩
 have h2:=h.2
 unfold locB at h2
 split at h2
 ·rename_i z; exact .inl z
 ·rename_i z; exact .inr z
 ·cases h2
theorem ss_nil:PSs X [] (tSs X.K C .nil):=ssm pss_nil λD σ H h=>by
 obtain⟨B,Al,ρ,Fs,fl,S,he,k⟩:=h
 cases he
 exact k _ _ _ S
theorem ss_cons {a:Sm} {r:Sms} {sts:List Stmt} (ha:PS X st (tS X.K C a)) (hr:PSs X sts (tSs X.K C r)):PSs X (st::sts) (tSs X.K C (.cons a r)):=ssm (pss_cons ha hr) λD σ H h=>by
 obtain⟨B,Al,ρ,Fs,fl,S,he,k⟩:=h
 have he':(exm C a ρ >>= λk=>match k with | .nx ρ'=>exs C r ρ' | .rt d=>.ok (.rt d))=.ok fl:=he
 obtain⟨f1,g1,he'⟩:=R.bind_eq_ok he'
 refine⟨B,Al,ρ,Fs,f1,S,g1,?_⟩
 cases f1 with
 | nx ρ'=>exact λσ' H' Fs' S'=>⟨B,Al,ρ',Fs',fl,S',he',k.of λ_ z=>(Bool.and_eq_true_iff.mp z).2⟩
 | rt d=>cases he'; exact k.of λ_ z=>(Bool.and_eq_true_iff.mp z).1
theorem ss_ret {p:Ex} {e:Expr} {pos:Pos} (h:PE X e (tE X.K C p)):PS X (.Return (some e) pos) (tS X.K C (.ret p)):=sm' (ps_ret h) λD σ H h=>by
 obtain⟨B,Al,ρ,Fs,fl,S,he,k⟩:=h
 have he':(ev C p ρ >>= λd=>R.ok (Fl.rt d))=.ok fl:=he
 obtain⟨d,g1,he'⟩:=R.bind_eq_ok he'
 cases he'
 refine⟨ρ,Fs,d,S.toVR,g1,λv H' F s r c f=>k v H' F (S.same.trans s) r (λa ha=>?_) λm z=>?_⟩
 rotate_left
 ·have z':(m==1&&former p)=true:=z
  rw[Bool.and_eq_true,beq_iff_eq] at z'
  obtain⟨rfl,z'⟩:=z'
  unfold ShP
  rw[if_pos rfl]
  intro ds e
  obtain⟨a,F',e1,e2⟩:=f z' ds e
  exact⟨a,F',e1,S.same.free e2⟩
 rcases c a ha with z | ⟨i,_,⟨d',o',hi⟩,z⟩
 ·exact S.fr a (S.same.free z)
 ·exact S.al i d' o' hi a z
theorem ss_if {p:Ex} {a b:Sms} {c:Expr} {as bs:List Stmt} {pos:Pos} (hc:PT X c (tT X.K C p)) (ha:PSs X as (tSs X.K C a)) (hb:PSs X bs (tSs X.K C b)):PS X (.If c as bs pos) (tS X.K C (.ife p a b)):=sm' (ps_if hc ha hb) λD σ H h=>by
 obtain⟨B,Al,ρ,Fs,fl,S,he,k⟩:=h
 have he':(tst C p ρ >>= λk=>if k then exs C a ρ else exs C b ρ)=.ok fl:=he
 obtain⟨b',g1,he'⟩:=R.bind_eq_ok he'
 refine⟨ρ,Fs,b',S.toVR,g1,λH1 s1=>?_⟩
 cases b' with
 | true=>rw[if_pos rfl] at he' |-; exact⟨B,Al,ρ,Fs,fl,S.more s1,he',k.of λ_ z=>(Bool.and_eq_true_iff.mp z).1⟩
 | false=>rw[if_neg Bool.false_ne_true] at he' |-; exact⟨B,Al,ρ,Fs,fl,S.more s1,he',k.of λ_ z=>(Bool.and_eq_true_iff.mp z).2⟩
def notComp:Expr->Bool
 | .ListComp _ _ _ _=>false
 | .SetComp _ _ _ _=>false
 | .DictComp _ _ _ _ _=>false
 | _=>true
theorem noswap {e:Expr} (h:notComp e=true) (t:Option Expr) (l:Nat) (env:PySem.Env):swapsWith e t l env=pure false:=by
 cases e <;> first | rfl | cases h
theorem notComp_of {p:Ex} {sc:Scope} {N:List Str} {e:Expr} (h:isE p sc N e=true) (hp:noCmp p=true):notComp e=true:=by
 cases p <;> first | (exact absurd hp Bool.false_ne_true) | (obtain⟨_,_,_,_,_,rfl,_⟩:=iv_cald h; rfl) | (obtain⟨_,_,_,rfl,_⟩:=iv_dix h; rfl) | (obtain⟨_,_,_,_,_,rfl,_⟩:=iv_call h; rfl) | (obtain⟨_,_,_,_,rfl,_⟩:=iv_b1 h; rfl) | (obtain⟨_,_,_,_,_,_,rfl,_⟩:=iv_ins h; rfl) | (obtain⟨_,_,_,_,_,rfl,_⟩:=iv_m1 h; rfl) | (obtain⟨_,_,_,_,_,_,_,rfl,_⟩:=iv_rngL h; rfl) | (obtain⟨_,_,_,_,_,_,_,rfl,_⟩:=iv_sset h; rfl) | (obtain⟨_,_,_,_,_,_,_,_,_,_,rfl,_⟩:=iv_revL h; rfl) | (obtain⟨_,_,_,_,rfl,_⟩:=iv_jn h; rfl) | (obtain⟨_,_,_,_,rfl,_⟩:=iv_spl h; rfl) | (obtain⟨_,_,_,_,_,_,rfl,_⟩:=iv_chn h; rfl) | (obtain⟨_,_,_,_,_,rfl,_⟩:=iv_isn h; rfl) | (obtain⟨_,_,_,_,rfl,_⟩:=iv_ist h; rfl) | (unfold isE at h; split at h <;> first | rfl | cases h)
theorem ss_exp {p:Ex} {e:Expr} {pos:Pos} (hn:notComp e=true) (h:PE X e (tE X.K C p)):PS X (.Expr e pos) (tS X.K C (.exp p)):=sm' (ps_expr h (noswap hn _ _ _)) λD σ H h=>by
 obtain⟨B,Al,ρ,Fs,fl,S,he,k⟩:=h
 have he':(ev C p ρ >>= λ_=>R.ok (Fl.nx ρ))=.ok fl:=he
 obtain⟨d,g1,he'⟩:=R.bind_eq_ok he'
 cases he'
 exact⟨ρ,Fs,d,S.toVR,g1,λv H' F s r c _=>k _ _ _ (S.more s)⟩
theorem asg_in {i:Nat} {p:Ex} (hi:i<X.N.length) {D:Ends} {σ:L2.St} {H:Hp} (hσ:σ.length=X.N.length) (h:tS X.K C (.asg i p) D σ H):tAsg (tE X.K C p) (gName i) D σ H:=by
 obtain⟨B,Al,ρ,Fs,fl,S,he,k⟩:=h
 have he':(ev C p ρ >>= λd=>R.ok (Fl.nx (give p ρ i d)))=.ok fl:=he
 obtain⟨d,g1,he'⟩:=R.bind_eq_ok he'
 cases he'
 exact⟨ρ,Fs,d,S.toVR,g1,λv H' F s r c f=>k _ _ _ (S.give (by omega) s r c f)⟩
theorem ss_asg {i:Nat} {x:Str} {p:Ex} {e:Expr} {pos pos':Pos} (nd:X.N.Nodup) (hfn:X.fn x=true) (hp:putB X.env.scope X.N i x=true) (hs:swapsWith e (some (.Name x pos')) pos.line X.env=pure false) (h:PE X e (tE X.K C p)):PS X (.Assign [.Name x pos'] e pos) (tS X.K C (.asg i p)):=by
 obtain⟨h1,h2⟩:=put_of hp
 intro pins s σ H D I q
 exact ps_set nd h1 h2 h hs (.inl hfn) pins s σ H D I (asg_in (List.getElem?_eq_some_iff.mp h1).1 I.len q)
theorem SR.wrote {K:Frag} {B:Hp} {Al:Addr->Prop} {H:Hp} {σ:L2.St} {ρ:Env} {Fs:Nat->List Addr} (S:SR K B Al H σ ρ Fs) {i:Nat} {xs ys:List D} {a:Addr} {vs ws:List V} {F:List Addr} (hi:ρ[i]?=some (some (.lst xs,true))) (hv:σ[i]?=some (some (.ref a))) (hF:Fs i=a::F) (ha:H a=some (.lst vs))
  (r:Reps K H ys ws F) (hn:a ∉ F) (hd:ys.all flatL=true->deepIs K (upd H a (.lst ws)) ys ws F):SR K B Al (upd H a (.lst ws)) σ (ρ.set i (some (.lst ys,true))) Fs:=by
 obtain⟨p1,p2,p3,_⟩:=S.own i _ hi
 have hil:i < ρ.length:=(List.getElem?_eq_some_iff.mp hi).1
 have kp:Kp (λb=>b=a) H (upd H a (.lst ws)):=⟨λb o e n=>by rw[upd_ne n]; exact e,λb z=>by rw[z]; exact .inl ⟨vs,ha⟩⟩
 have get:∀ {j d o},(ρ.set i (some (D.lst ys,true)))[j]?=some (some (d,o))->j ≠ i->ρ[j]?=some (some (d,o)):=λh hj=>by
  rw[List.getElem?_set_ne (Ne.symm hj)] at h; exact h
 have anyb:∀ {j d o},(ρ.set i (some (D.lst ys,true)))[j]?=some (some (d,o))->∃ d',ρ[j]?=some (some (d',o)):=λ{j d o} h=>by
  by_cases hj:j=i
  ·subst hj
   rw[List.getElem?_set_self hil] at h
   cases h
   exact⟨_,hi⟩
  ·exact⟨d,get h hj⟩
 refine⟨⟨by rw[List.length_set]; exact S.len,λj d o h=>?_⟩,λj d o h=>?_,λj d h=>?_,λb o e=>?_,S.fr,λj ds h z=>?_⟩
 ·by_cases hj:j=i
  ·subst hj
   rw[List.getElem?_set_self hil] at h
   cases h
   exact⟨.ref a,hv,.inl ⟨a,ws,F,rfl,r.keep kp λb hb z=>hn (by rw[<- z]; exact hb),.inl ⟨upd_same,hF⟩⟩⟩
  ·have h':=get h hj
   obtain⟨v,q1,q2⟩:=S.val j d o h'
   refine⟨v,q1,q2.keep kp (λb hb z=>?_) λb z=>by rw[z]; exact⟨vs,ha⟩⟩
   have:a ∈ Fs i:=by rw[hF]; exact List.mem_cons_self
   exact p3 j d o hj h' a this (by rw[<- z]; exact hb)
 ·obtain⟨d',h'⟩:=anyb h
  exact S.al j d' o h'
 ·obtain⟨d',h'⟩:=anyb h
  obtain⟨q1,q2,q3,b,F',us,w1,w2,w3⟩:=S.own j d' h'
  refine⟨q1,q2,λk d2 o2 hk h2=>?_,?_⟩
  ·obtain⟨d3,h3⟩:=anyb h2
   exact q3 k d3 o2 hk h3
  ·by_cases hb:b=a
   ·exact⟨b,F',ws,w1,w2,by rw[hb]; exact upd_same⟩
   ·exact⟨b,F',us,w1,w2,by rw[upd_ne hb]; exact w3⟩
 ·have hba:b ≠ a:=λz=>by
   subst z
   rw[p2 b (by rw[hF]; exact List.mem_cons_self)] at e
   cases e
  rw[upd_ne hba]
  exact S.same b o e
 ·by_cases hj:j=i
  ·subst hj
   rw[List.getElem?_set_self hil] at h
   cases h
   exact⟨a,F,ws,hF,hv,upd_same,hd z⟩
  ·have h':=get h hj
   obtain⟨b,F',us,w1,w2,w3,w4⟩:=S.deep j ds h' z
   have hai:a ∈ Fs i:=by rw[hF]; exact List.mem_cons_self
   have hnj:a ∉ Fs j:=p3 j _ _ hj h' a hai
   have hba:b ≠ a:=λy=>hnj (by rw[w1,y]; exact List.mem_cons_self)
   exact⟨b,F',us,w1,w2,by rw[upd_ne hba]; exact w3,w4.upd ha λc hc y=>hnj (by rw[w1,<- y]; exact List.mem_cons_of_mem _ hc)⟩
end
def Ctx (K:Frag) (i:Nat) (a:Addr) (l:Xl) (oe:Obj) (σ:L2.St) (H:Hp):Prop:=σ[i]?=some (some (.ref a))/\XD K H l.2 oe.dict
section
variable {K:Frag} {i j:Nat} {a:Addr} {l:Xl} {oe:Obj} {σ:L2.St} {H H':Hp}
theorem Ctx.same (h:Ctx K i a l oe σ H) (s:Same H H'):Ctx K i a l oe σ H':=⟨h.1,h.2.same s⟩
theorem Ctx.set (h:Ctx K i a l oe σ H) (hj:j ≠ i) {v:Option V}:Ctx K i a l oe (σ.set j v) H:=⟨by rw[List.getElem?_set_ne hj]; exact h.1,h.2⟩
theorem reps_kin {c:Str}:∀ cs:List Str,Reps K H (kinD c cs) (cs.map λk=>V.bl (kinB c k)) []
 | []=>Reps.nil
 | k::cs=>Reps.cons (F:=[]) (G:=[]) rep_bl (reps_kin cs)
theorem SR.unk {B:Hp} {Al:Addr->Prop} {ρ:Env} {Fs:Nat->List Addr} (S:SR K B Al H σ ρ Fs) (hi:∀ p,ρ[i]? ≠ some (some p)):SR K B Al H (σ.set i none) ρ Fs:=by
 have ne:∀ {j p},ρ[j]?=some (some p)->(σ.set i none)[j]?=σ[j]?:=λ{j p} e=>by
  rw[List.getElem?_set_ne]
  intro z
  subst z
  exact hi _ e
 refine⟨⟨by rw[List.length_set]; exact S.len,λj d o e=>?_⟩,S.al,λj d e=>?_,S.same,S.fr,λj ds e z=>?_⟩
 ·rw[ne e]; exact S.val j d o e
 ·obtain⟨p1,p2,p3,b,F,vs,q1,q2,q3⟩:=S.own j d e
  exact⟨p1,p2,p3,b,F,vs,q1,by rw[ne e]; exact q2,q3⟩
 ·obtain⟨b,F,vs,q1,q2,q3⟩:=S.deep j ds e z
  exact⟨b,F,vs,q1,by rw[ne e]; exact q2,q3⟩
theorem SR.lost {B:Hp} {Al:Addr->Prop} {n:Nat} (hl:σ.length=n) (s:Same B H) (fr:∀ a,B a=none->Al a):SR K B Al H σ (List.replicate n none) (λ_=>[]):=by
 have no:∀ {j:Nat} {p:D × Bool},(List.replicate n (none:Option (D × Bool)))[j]? ≠ some (some p):=λ{j p} e=>by
  rw[List.getElem?_replicate] at e
  split at e <;> cases e
 exact⟨⟨by rw[List.length_replicate]; exact hl,λj d o e=>absurd e no⟩,λj d o e=>absurd e no,λj d e=>absurd e no,s,fr,λj ds e=>absurd e no⟩
theorem exH_i:∀ {hs:List Hm} {ρ ρ':Env},hs.all (Hj i)=true->(∀ p,ρ[i]? ≠ some (some p))->exH l hs ρ=.ok (.nx ρ')->∀ p,ρ'[i]? ≠ some (some p)
 | [],ρ,ρ',_,h,e=>by cases e; exact h
 | .rets cs::r,ρ,ρ',_,h,e=>by
  have e':(if fits cs.length then R.ok (Fl.rt (.lst (kinD l.1 cs))) else .un)=.ok (.nx ρ'):=e
  split at e' <;> cases e'
 | .ists j cs::r,ρ,ρ',hj,h,e=>by
  rw[List.all_cons,Bool.and_eq_true] at hj
  have e':(if fits cs.length then exH l r (ρ.set j (some (.lst (kinD l.1 cs),true))) else .un)=.ok (.nx ρ'):=e
  split at e'
  ·exact exH_i hj.2 (λp=>by rw[List.getElem?_set_ne (by simpa [Hj] using hj.1)]; exact h p) e'
  ·cases e'
 | .cat j cs::r,ρ,ρ',hj,h,e=>by
  rw[List.all_cons,Bool.and_eq_true] at hj
  unfold exH at e
  split at e
  ·split at e
   ·exact exH_i hj.2 (λp=>by rw[List.getElem?_set_ne (by simpa [Hj] using hj.1)]; exact h p) e
   ·cases e
  ·cases e
 | .atI j k::r,ρ,ρ',hj,h,e=>by
  rw[List.all_cons,Bool.and_eq_true] at hj
  have hk:k ≠ i:=by
   have:=hj.1
   simp[Hj] at this
   exact this.2
  unfold exH at e
  split at e
  ·split at e
   ·exact exH_i hj.2 (λp=>by rw[List.getElem?_set_ne hk]; exact h p) e
   ·cases e
  ·exact exH_i hj.2 h e
  ·cases e
end
section
variable {X:Cx} {pins:List (Addr × Obj)} {a Ca:Addr} {oe:Obj} {va:Array Value} {i:Nat} {n xF:Str} {CF:Addr} {l:Xl} {xe:Value->Shared->Prop}
def KBs (X:Cx) (Ca:Addr) (l:Xl) (cs:List Str):Prop:=∀ k ∈ cs,globB X.env.scope k=true->(k==("__debug__" : Str))=false->KB X Ca k (kinB l.1 k)
theorem pa_is (Z:Hn X i n xF CF) (hc:oe.cls=.ref Ca) (hd:oe.data=.fields va) (Y:ClX X.K Ca):∀ {cs:List Str} {es:List Expr},isIs n X.env.scope cs es=true->KBs (hcx X pins a oe xe) Ca l cs ->
  PA (hcx X pins a oe xe) es (λσ H Q=>Ctx X.K i a l oe σ H/\Q (cs.map λk=>V.bl (kinB l.1 k)) H)
 | [],[],_,_=>λpos pins' s σ H Q I q=>pa_nil pos pins' s σ H Q I q.2
 | [],e::es,h,_=>by simp[isIs] at h
 | c::cs,[],h,_=>by simp[isIs] at h
 | c::cs,e::es,h,kb=>by
  unfold isIs at h
  rw[Bool.and_eq_true] at h
  obtain⟨h1,h2⟩:=h
  cases hq:gIns e with
  | none=>rw[hq] at h1; cases h1
  | some q=>
   rw[hq] at h1
   simp only[Bool.and_eq_true,beq_iff_eq] at h1
   obtain⟨⟨⟨⟨g1,g2⟩,g3⟩,g4⟩,g5⟩:=h1
   cases hy:gNm q.2.2.1 with
   | none=>rw[hy] at g5; cases g5
   | some y=>
    rw[hy] at g5
    have g5':y.1=n:=by simpa using g5
    rw[gIns_of hq,gNm_of hy,g1,g2,g5']
    have e1:=pe_isx (X:=X) (pins:=pins) (a:=a) (xe:=xe) (p1:=q.2.1) (p2:=y.2) (p3:=q.2.2.2.2.1) (p4:=q.2.2.2.2.2) Z hc hd Y (kb c List.mem_cons_self g3 g4)
    have r:=pa_is Z hc hd Y (cs:=cs) (es:=es) h2 λk hk=>kb k (List.mem_cons_of_mem _ hk)
    intro pos pins' s σ H Q I q
    have pc:=pa_cons e1 r
    exact pc pos pins' s σ H Q I ⟨⟨q.1.1,q.1.2.xd⟩,q.1,q.2⟩
theorem pe_isl (Z:Hn X i n xF CF) (hc:oe.cls=.ref Ca) (hd:oe.data=.fields va) (Y:ClX X.K Ca) {cs:List Str} {e:Expr} (h:isIL n X.env.scope cs e=true) (kb:KBs (hcx X pins a oe xe) Ca l cs) :
  PE (hcx X pins a oe xe) e (λσ H Q=>Ctx X.K i a l oe σ H/\fits cs.length=true/\∀ p,H p=none->Q (.ref p) (upd H p (.lst (cs.map λk=>V.bl (kinB l.1 k)))))/\notComp e=true:=by
 unfold isIL at h
 cases hq:gLst e with
 | none=>rw[hq] at h; cases h
 | some q=>
  rw[hq] at h
  rw[gLst_of hq]
  refine⟨λpins' s σ H Q I z=>pe_lst (pa_is Z hc hd Y h kb) pins' s σ H Q I ⟨z.1,?_,z.2.2⟩,rfl⟩
  rw[List.length_map]
  exact fits_le z.2.1
def tH (K:Frag) (i:Nat) (a:Addr) (l:Xl) (oe:Obj) (hs:List Hm):TS:=λD σ H=>∃ B Al ρ Fs fl,SR K B Al H σ ρ Fs/\Ctx K i a l oe σ H/\exH l hs ρ=.ok fl/\FQ K B Al (λ_=>false) fl D
def hmC:Hm->List Str
 | .ists _ cs=>cs
 | .cat _ cs=>cs
 | .rets cs=>cs
 | .atI _ _=>[]
theorem hsS (Z:Hn X i n xF CF) (hfn:∀ x,X.fn x=true) (hc:oe.cls=.ref Ca) (hd:oe.data=.fields va) (Y:ClX X.K Ca):∀ {hs:List Hm} {hb:List Stmt},isHs n X.env.scope X.N hs hb=true->hs.all (Hj i)=true->(∀ h ∈ hs,KBs (hcx X pins a oe xe) Ca l (hmC h)) ->
  PSs (hcx X pins a oe xe) hb (tH X.K i a l oe hs)
 | [],[],_,_,_=>ssm pss_nil λD σ H h=>by
  obtain⟨B,Al,ρ,Fs,fl,S,cx,he,k⟩:=h
  cases he
  exact k _ _ _ S
 | [],_::_,h,_,_=>by simp[isHs] at h
 | _::_,[],h,_,_=>by simp[isHs] at h
 | .rets cs::r,st::sts,h,hj,kb=>by
  unfold isHs at h
  rw[Bool.and_eq_true] at h
  have h1:(match (generalizing:=false) st with | .Return (some v) _=>isIL n X.env.scope cs v | _=>false)=true:=h.1
  split at h1
  ·obtain⟨pe,_⟩:=pe_isl (pins:=pins) (a:=a) (xe:=xe) (l:=l) Z hc hd Y h1 (kb _ List.mem_cons_self)
   refine ssm (pss_cons (ps_ret pe) pss_never) λD σ H q=>?_
   obtain⟨B,Al,ρ,Fs,fl,S,cx,he,k⟩:=q
   have he':(if fits cs.length then R.ok (Fl.rt (.lst (kinD l.1 cs))) else .un)=.ok fl:=he
   split at he'
   ·rename_i hf
    cases he'
    refine⟨cx,hf,λp hp=>?_⟩
    exact k (.ref p) _ [p] (S.same.trans (same_upd hp)) (Rep.new_lst hp (reps_kin cs)) (λb hb=>by rw[List.mem_singleton.mp hb]; exact S.fr p (S.same.free hp)) λm z=>by cases z
   ·cases he'
  ·cases h1
 | .ists _ _::_,_::_,h,_,_=>by unfold isHs at h; rw[Bool.and_eq_true] at h; exact(Bool.false_ne_true h.1).elim
 | .cat _ _::_,_::_,h,_,_=>by unfold isHs at h; rw[Bool.and_eq_true] at h; exact(Bool.false_ne_true h.1).elim
 | .atI _ _::_,_::_,h,_,_=>by unfold isHs at h; rw[Bool.and_eq_true] at h; exact(Bool.false_ne_true h.1).elim
theorem kb_of {K:Frag} {c:Str} (hK:(hcx X pins a oe xe).K=K) (hV:X.mg "ValueError" = none) (sv:PySem.W.subIn K (.ref Ca) (.type "ValueError")=some true) (pr:∀ k ∈ xkin,∃ Ck,X.mg k=some (.ref Ck)/\PySem.W.kitOne K (.ref Ca) (.ref Ck)=some (k==l.1)) {cs:List Str} (h:cs.all (λk=>xkin.contains k||k==("ValueError" : Str))=true):KBs (hcx X pins a oe xe) Ca l cs:=λk hk gk dk=>by
 subst hK
 have z:=List.all_eq_true.mp h k hk
 rcases Bool.or_eq_true_iff.mp z with z | z
 ·obtain⟨Ck,mk,ko⟩:=pr k (by simpa using z)
  have ne:(k==("ValueError" : Str))=false:=beq_false_of_ne λq=>by rw[q,hV] at mk; cases mk
  refine⟨.ref Ck,.ref Ck,λw r=>by cases r; rfl,?_,λpos=>pe_glob (X:=hcx X pins a oe xe) (gl_of (X:=hcx X pins a oe xe) gk) mk rfl dk⟩
  unfold kinB
  rw[ne,Bool.or_false]
  exact ko
 ·obtain rfl:=beq_iff_eq.mp z
  refine⟨.ty "ValueError",.type "ValueError",λw r=>by cases r; rfl,?_,λpos=>pe_bltn (X:=hcx X pins a oe xe) (gl_of (X:=hcx X pins a oe xe) gk) hV (u:=.type "ValueError") (by decide +kernel) rfl⟩
  unfold kinB
  rw[beq_self_eq_true,Bool.or_true]
  exact kit_ve sv
end
theorem ix_lt {n j:Nat} {i:Int} (h:Lf.ixN n i=some j):j<n:=by
 unfold Lf.ixN at h
 split at h
 ·split at h
  ·cases h; omega
  ·cases h
 ·split at h
  ·cases h; omega
  ·cases h
theorem flat_noL {d:D} (h:noL d=true):¬ flatL d=true:=λz=>by
 cases d with
 | lst es=>cases h
 | _=>cases z
section
variable {X:Cx} {C:Str->List D->R D} {st:Stmt}
theorem own_list {pins:List (Addr × Obj)} {σ0:L2.St} {H:Hp} {s:Shared} (I:Inv X pins σ0 H s) {B:Hp} {Al:Addr->Prop} {σ:L2.St} {ρ:Env} {Fs:Nat->List Addr} (S:SR X.K B Al H σ ρ Fs) {i:Nat} {xs:List D} (hi:ρ[i]?=some (some (.lst xs,true))) :
  ∃ a F vs,Fs i=a::F/\σ[i]?=some (some (.ref a))/\H a=some (.lst vs)/\Reps X.K H xs vs F/\a ∉ F:=by
 obtain⟨p1,p2,p3,a,F,vs,q1,q2,q3⟩:=S.own i _ hi
 obtain⟨v,h1,r⟩:=S.val i _ _ hi
 replace r:=r.rep rfl
 rw[q2] at h1
 cases h1
 rw[q1] at r p1
 obtain⟨b,ws,F',e,rr,q⟩:=r
 cases e
 rcases q with⟨z0,z⟩ | ⟨z0,z⟩
 ·rw[q3] at z0
  cases z0
  cases z
  exact⟨a,F,vs,q1,q2,q3,rr,(List.nodup_cons.mp p1).1⟩
 ·exfalso
  rcases z0 with⟨o,z0⟩ | ⟨o,its,n,hk,_⟩
  ·rw[q3] at z0; cases z0
  ·have:=(I.bs a o (I.ok.mod.kin a o hk)).2
   rw[q3] at this; cases this
theorem var_of {i:Nat} {x:Str} {p:Pos} (h:isE (.var i) X.env.scope X.N (.Name x p)=true):PE X (.Name x p) (tVar i)/\X.N[i]?=some x:=by
 unfold isE at h
 simp only[Bool.and_eq_true,beq_iff_eq] at h
 obtain⟨⟨⟨h1,h2⟩,h3⟩,h4⟩:=h
 exact⟨pe_var h1 (vis_vis.mpr h2) h3 h4,h1⟩
theorem ss_app {i:Nat} {x:Str} {e:Ex} {v:Expr} {p ap cp pos:Pos} (hx:isE (.var i) X.env.scope X.N (.Name x p)=true) (hline:(ap.endLine==cp.line)=true) (hv:plainX v=true) (he:PE X v (tE X.K C e)) :
  PS X (.Expr (.Call (.Attribute (.Name x p) "append" ap) [v] [] cp) pos) (tS X.K C (.app i e)):=by
 obtain⟨hvar,_⟩:=var_of hx
 have ha:=pa_cons he pa_nil (star_of hv _ _)
 have hfew:((backTo cp (starEach [v] X.env)).all (λx=>!x.1)&&(backToKw cp (keywordEach [] X.env)).all (λx=>x.1.isSome)
   && decide ([v].length+([]:List Keyword).length+(if ([]:List Keyword).isEmpty then 0 else 1)<30))=true:=by rw[star_of hv]; rfl
 have bm:=pe_bm PySem.F.plainAttrs_list PySem.F.slot_list_append PySem.F.type_list_append mt_append hvar ha rfl hfew hline (star_of hv _ _) rfl
 intro pins s σ H D I q
 refine ps_expr bm rfl pins s σ H D I ?_
 obtain⟨B,Al,ρ,Fs,fl,S,hx',k⟩:=q
 have hx'':(match ρ[i]? with
  | some (some (.lst xs,true))=>ev C e ρ >>= λd=>if noL d&&fits (xs.length+1) then R.ok (Fl.nx (ρ.set i (some (.lst (xs++[d]),true)))) else .un
  | _=>.un)=.ok fl:=hx'
 split at hx''
 ·rename_i xs hi
  obtain⟨d,g1,hx''⟩:=R.bind_eq_ok hx''
  split at hx''
  ·rename_i hl
   rw[Bool.and_eq_true] at hl
   cases hx''
   obtain⟨a,F,vs,q1,q2,q3,rr,q4⟩:=own_list I S hi
   refine⟨.ref a,q2,.inl ⟨rfl,vs,.of q3⟩,⟨ρ,Fs,d,S.toVR,g1,λw H' G s' r c _=>?_⟩⟩
   have lenv:=rr.length
   have hz:=fits_le hl.2
   have eG:=r.noL hl.1
   subst eG
   refine⟨a,vs,w,rfl,rfl,s' _ _ q3,by omega,k _ _ _ ((S.more s').wrote hi q2 q1 (s' _ _ q3) (ws:=vs++[w]) ?_ q4 (λz=>by rw[List.all_append,Bool.and_eq_true] at z; exact absurd (show flatL d=true by simpa using z.2) (flat_noL hl.1)))⟩
   have z:=(rr.same s').append (Reps.one r)
   rw[List.append_nil] at z
   exact z
  ·cases hx''
 ·cases hx''
theorem ss_set {i:Nat} {x:Str} {kx vx:Ex} {k v:Expr} {p sp pos:Pos} (hx:isE (.var i) X.env.scope X.N (.Name x p)=true) (hn:notComp v=true) (hkx:plainX k=true) (hk:PE X k (tE X.K C kx)) (hv:PE X v (tE X.K C vx)) :
  PS X (.Assign [.Subscript (.Name x p) k sp] v pos) (tS X.K C (.set i kx vx)):=by
 obtain⟨hvar,_⟩:=var_of hx
 have pg:=pg_sub (pos:=sp) hvar hk set_list (by intro w; cases k <;> first | rfl | cases hkx)
 intro pins s σ H D I q
 refine ps_asg (pos:=pos) hv pg (by unfold swapsWithSole; exact noswap hn _ _ _) (by cases v <;> rfl) rfl pins s σ H D I ?_
 obtain⟨B,Al,ρ,Fs,fl,S,hx',kk⟩:=q
 have hx'':(ev C vx ρ >>= λd=>match ρ[i]? with
  | some (some (.lst xs,true))=>ev C kx ρ >>= λq=>match q with
   | .int n=>match Lf.ixN xs.length n with
    | some j=>if noL d&&noLs xs then R.ok (Fl.nx (ρ.set i (some (.lst (xs.set j d),true)))) else .un
    | none=>.un
   | _=>.un
  | _=>.un)=.ok fl:=hx'
 obtain⟨d,g1,hx''⟩:=R.bind_eq_ok hx''
 split at hx''
 ·rename_i xs hi
  obtain⟨q,g2,hx''⟩:=R.bind_eq_ok hx''
  split at hx''
  ·rename_i n
   split at hx''
   ·rename_i j hj
    split at hx''
    ·rename_i hl
     cases hx''
     obtain⟨a,F,vs,q1,q2,q3,rr,q4⟩:=own_list I S hi
     refine⟨ρ,Fs,d,S.toVR,g1,λw H' G s' r c _=>⟨.ref a,q2,⟨ρ,Fs,_,(S.more s').toVR,g2,λw2 H2 G2 s2 r2 c2 _=>?_⟩⟩⟩
     obtain⟨rfl,_⟩:=r2
     rw[Bool.and_eq_true] at hl
     have eG:=r.noL hl.1
     subst eG
     have eF:=rr.noL hl.2
     subst eF
     have lenv:=rr.length
     obtain⟨F',rr',sub⟩:=((rr.same s').same s2).set j (r.same s2)
     have q3':=s2 _ _ (s' _ _ q3)
     refine⟨a,vs,n,j,rfl,rfl,q3',by rw[<- lenv]; exact hj,?_⟩
     have hF:F'=[]:=by
      cases F' with
      | nil=>rfl
      | cons b _=>rcases sub b List.mem_cons_self with z | z <;> cases z
     subst hF
     exact kk _ _ _ (((S.more s').more s2).wrote hi q2 q1 q3' rr' q4 (λz=>absurd (List.all_eq_true.mp z d (List.mem_set (ix_lt hj) d)) (flat_noL hl.1)))
    ·cases hx''
   ·cases hx''
  ·cases hx''
 ·cases hx''
end
section
variable {K:Frag} {B:Hp} {Al:Addr->Prop} {H:Hp} {σ:L2.St} {ρ:Env} {Fs:Nat->List Addr} {i:Nat}
theorem SR.lose (S:SR K B Al H σ ρ Fs) (i:Nat):SR K B Al H σ (ρ.set i none) Fs:=by
 have bk:∀ {j p},(ρ.set i none)[j]?=some (some p)->ρ[j]?=some (some p):=λ{j p} h=>by
  rw[List.getElem?_set] at h
  split at h
  ·split at h <;> cases h
  ·exact h
 exact⟨⟨by rw[List.length_set]; exact S.len,λj d o h=>S.val j d o (bk h)⟩,λj d o h=>S.al j d o (bk h),λj d h=>by
  obtain⟨p1,p2,p3,p4⟩:=S.own j d (bk h)
  exact⟨p1,p2,λk d' o' hk h'=>p3 k d' o' hk (bk h'),p4⟩,S.same,S.fr,λj ds h=>S.deep j ds (bk h)⟩
theorem SR.write0 (S:SR K B Al H σ ρ Fs) {a:Addr} {vs ws:List V} (ha:H a=some (.lst vs)) (hB:B a=none) (hn:∀ j p,ρ[j]?=some (some p)->a ∉ Fs j):SR K B Al (upd H a (.lst ws)) σ ρ Fs:=by
 have kp:Kp (λb=>b=a) H (upd H a (.lst ws)):=⟨λb o e n=>by rw[upd_ne n]; exact e,λb z=>by rw[z]; exact .inl ⟨vs,ha⟩⟩
 refine⟨⟨S.len,λj d o h=>?_⟩,S.al,λj d h=>?_,λb o e=>?_,S.fr,λj ds h z=>?_⟩
 ·obtain⟨v,q1,q2⟩:=S.val j d o h
  exact⟨v,q1,q2.keep kp (λb hb z=>hn j _ h (by rw[<- z]; exact hb)) λb z=>by rw[z]; exact⟨vs,ha⟩⟩
 ·obtain⟨q1,q2,q3,b,F',us,w1,w2,w3⟩:=S.own j d h
  have hb:b ≠ a:=λz=>hn j _ h (by rw[w1,z]; exact List.mem_cons_self)
  exact⟨q1,q2,q3,b,F',us,w1,w2,by rw[upd_ne hb]; exact w3⟩
 ·have hba:b ≠ a:=λz=>by subst z; rw[hB] at e; cases e
  rw[upd_ne hba]
  exact S.same b o e
 ·obtain⟨b,F',us,w1,w2,w3,w4⟩:=S.deep j ds h z
  have hba:b ≠ a:=λy=>hn j _ h (by rw[w1,y]; exact List.mem_cons_self)
  exact⟨b,F',us,w1,w2,by rw[upd_ne hba]; exact w3,w4.upd ha λc hc y=>hn j _ h (by rw[w1,<- y]; exact List.mem_cons_of_mem _ hc)⟩
theorem set_back {α:Type}:∀ {l:List α} {i:Nat} {x:α},l[i]?=some x->l.set i x=l
 | [],_,_,h=>by simp at h
 | y::l,0,x,h=>by simp at h; subst h; rfl
 | y::l,i+1,x,h=>by
  show y::l.set i x=y::l
  rw[set_back (by simpa using h)]
end
section
variable {K:Frag} {B:Hp} {Al:Addr->Prop} {H H1:Hp} {σ:L2.St} {ρ:Env} {Fs:Nat->List Addr}
def hold (B H1:Hp) (F:List Addr):Hp:=λa=>if a ∈ F then H1 a else match H1 a with
 | some (.lst _)=>B a
 | o=>o
theorem hold_in {F:List Addr} {a:Addr} (h:a ∈ F):hold B H1 F a=H1 a:=if_pos h
theorem hold_lst {F:List Addr} {a:Addr} {xs:List V} (h:a ∉ F) (e:H1 a=some (.lst xs)):hold B H1 F a=B a:=by
 unfold hold
 rw[if_neg h,e]
theorem hold_oth {F:List Addr} {a:Addr} (e:∀ xs,H1 a ≠ some (.lst xs)):hold B H1 F a=H1 a:=by
 unfold hold
 split
 ·rfl
 ·split
  ·rename_i xs z; exact absurd z (e xs)
  ·rfl
theorem hold_same {F:List Addr} (s:Same B H1):Same (hold B H1 F) H1:=λa o e=>by
 by_cases h:a ∈ F
 ·rw[hold_in h] at e; exact e
 ·by_cases hl:∃ xs,H1 a=some (.lst xs)
  ·obtain⟨xs,z⟩:=hl
   rw[hold_lst h z] at e
   exact s a o e
  ·rw[hold_oth λxs z=>hl ⟨xs,z⟩] at e
   exact e
theorem same_hold {F:List Addr} (s:Same B H1):Same B (hold B H1 F):=λa o e=>by
 by_cases h:a ∈ F
 ·rw[hold_in h]; exact s a o e
 ·by_cases hl:∃ xs,H1 a=some (.lst xs)
  ·obtain⟨xs,z⟩:=hl
   rw[hold_lst h z]
   exact e
  ·rw[hold_oth λxs z=>hl ⟨xs,z⟩]
   exact s a o e
theorem hold_kp {F:List Addr} {H':Hp} (s:Same (hold B H1 F) H'):Kp (λa=>a ∉ F/\∃ xs,H1 a=some (.lst xs)) H1 H':=
 ⟨λb o e n=>by
  refine s b o ?_
  by_cases h:b ∈ F
  ·rw[hold_in h]; exact e
  ·rw[hold_oth λxs z=>n ⟨h,xs,z⟩]; exact e,λb z=>.inl z.2⟩
theorem SR.held (S:SR K B Al H1 σ ρ Fs) {F:List Addr} (hl:∀ a ∈ F,∃ xs,H1 a=some (.lst xs)) (hap:∀ j d',ρ[j]?=some (some (d',true))->∀ a ∈ Fs j,a ∉ F):SR K (hold B H1 F) Al H1 σ ρ Fs where
 toVR:=S.toVR
 al:=S.al
 own:=λi d h=>by
  obtain⟨p1,p2,p3,p4⟩:=S.own i d h
  refine⟨p1,λa ha=>?_,p3,p4⟩
  obtain⟨v,_,r⟩:=S.val i d true h
  obtain⟨xs,e⟩:=r.lists a ha
  rw[hold_lst (hap i d h a ha) e]
  exact p2 a ha
 same:=hold_same S.same
 deep:=S.deep
 fr:=λa e=>by
  by_cases h:a ∈ F
  ·rw[hold_in h] at e
   obtain⟨xs,z⟩:=hl a h
   rw[z] at e; cases e
  ·by_cases hx:∃ xs,H1 a=some (.lst xs)
   ·obtain⟨xs,z⟩:=hx
    rw[hold_lst h z] at e
    exact S.fr a e
   ·rw[hold_oth λxs z=>hx ⟨xs,z⟩] at e
    exact S.fr a (S.same.free e)
theorem SR.unheld {B':Hp} (S:SR K B' Al H1 σ ρ Fs) (s:Same B B') (hf:∀ a,B a=none->Al a):SR K B Al H1 σ ρ Fs where
 toVR:=S.toVR
 deep:=S.deep
 al:=S.al
 own:=λi d h=>by
  obtain⟨p1,p2,p3,p4⟩:=S.own i d h
  exact⟨p1,λa ha=>s.free (p2 a ha),p3,p4⟩
 same:=s.trans S.same
 fr:=hf
end
theorem give_len {e:Ex} {ρ:Env} {i:Nat} {d:D}:(give e ρ i d).length=ρ.length:=by
 unfold give
 split
 ·simp
 ·split
  ·simp
  ·simp[unown_len]
theorem forR_len {f:D->Env->R Fl} (hf:∀ d ρ ρ',f d ρ=.ok (.nx ρ')->ρ'.length=ρ.length):∀ {xs:List D} {ρ ρ':Env},forR f xs ρ=.ok (.nx ρ')->ρ'.length=ρ.length
 | [],ρ,ρ',h=>by cases h; rfl
 | x::r,ρ,ρ',h=>by
  have h':(f x ρ >>= λk=>match k with | .nx ρ'=>forR f r ρ' | .rt d=>.ok (.rt d))=.ok (.nx ρ'):=h
  obtain⟨k,h1,h'⟩:=R.bind_eq_ok h'
  cases k with
  | nx ρ1=>rw[forR_len hf h',hf _ _ _ h1]
  | rt d=>cases h'
theorem whR_len {c:Env->R Bool} {f:Env->R Fl} (hf:∀ ρ ρ',f ρ=.ok (.nx ρ')->ρ'.length=ρ.length):∀ {n:Nat} {ρ ρ':Env},whR c f n ρ=.ok (.nx ρ')->ρ'.length=ρ.length
 | 0,ρ,ρ',h=>by cases h
 | n+1,ρ,ρ',h=>by
  have h':(c ρ >>= λk=>if k then f ρ >>= λz=>match z with | .nx ρ'=>whR c f n ρ' | .rt d=>.ok (.rt d) else .ok (.nx ρ))=.ok (.nx ρ'):=h
  obtain⟨k,h1,h'⟩:=R.bind_eq_ok h'
  cases k with
  | false=>rw[if_neg Bool.false_ne_true] at h'; cases h'; rfl
  | true=>
   rw[if_pos rfl] at h'
   obtain⟨z,h2,h'⟩:=R.bind_eq_ok h'
   cases z with
   | nx ρ1=>rw[whR_len hf h',hf _ _ h2]
   | rt d=>cases h'
theorem dcR_len {f:Int->Env->R D} {i j:Nat}:∀ {ds:List D} {ρ ρ':Env} {kvs:List (Int × Int)},dcR f i j ds ρ kvs=.ok ρ'->ρ'.length=ρ.length
 | [],ρ,ρ',kvs,h=>by cases h; simp
 | d::ds,ρ,ρ',kvs,h=>by
  cases d with
  | int k=>
   unfold dcR at h
   split at h
   ·cases h
   ·obtain⟨x,_,h⟩:=R.bind_eq_ok h
    split at h
    ·split at h
     ·rw[dcR_len h,List.length_set]
     ·cases h
    ·cases h
  | _=>cases h
theorem exH_len {l:Xl}:∀ {hs:List Hm} {ρ ρ':Env},exH l hs ρ=.ok (.nx ρ')->ρ'.length=ρ.length
 | [],ρ,ρ',e=>by cases e; rfl
 | .rets cs::r,ρ,ρ',e=>by
  unfold exH at e
  split at e <;> cases e
 | .ists j cs::r,ρ,ρ',e=>by
  unfold exH at e
  split at e
  ·rw[exH_len e,List.length_set]
  ·cases e
 | .cat j cs::r,ρ,ρ',e=>by
  unfold exH at e
  split at e
  ·split at e
   ·rw[exH_len e,List.length_set]
   ·cases e
  ·cases e
 | .atI j k::r,ρ,ρ',e=>by
  unfold exH at e
  split at e
  ·split at e
   ·rw[exH_len e,List.length_set]
   ·cases e
  ·exact exH_len e
  ·cases e
mutual
theorem exm_len {C:Str->List D->R D}:∀ {st:Sm} {ρ ρ':Env},exm C st ρ=.ok (.nx ρ')->ρ'.length=ρ.length
 | .asg i e,ρ,ρ',h=>by
  have h':(ev C e ρ >>= λd=>R.ok (Fl.nx (give e ρ i d)))=.ok (.nx ρ'):=h
  obtain⟨d,_,h'⟩:=R.bind_eq_ok h'
  cases h'
  exact give_len
 | .unp i j e,ρ,ρ',h=>by
  simp only[exm] at h
  obtain⟨d,_,h⟩:=R.bind_eq_ok h
  split at h
  ·split at h
   ·cases h; simp
   ·cases h; simp[unown_len]
  ·cases h
 | .app i e,ρ,ρ',h=>by
  simp only[exm] at h
  split at h
  ·obtain⟨d,_,h⟩:=R.bind_eq_ok h
   split at h
   ·cases h; simp
   ·cases h
  ·cases h
 | .set i k v,ρ,ρ',h=>by
  simp only[exm] at h
  obtain⟨d,_,h⟩:=R.bind_eq_ok h
  split at h
  ·obtain⟨q,_,h⟩:=R.bind_eq_ok h
   split at h
   ·split at h
    ·split at h
     ·cases h; simp
     ·cases h
    ·cases h
   ·cases h
  ·cases h
 | .exp e,ρ,ρ',h=>by
  simp only[exm] at h
  obtain⟨d,_,h⟩:=R.bind_eq_ok h
  cases h; rfl
 | .ret e,ρ,ρ',h=>by
  simp only[exm] at h
  obtain⟨d,_,h⟩:=R.bind_eq_ok h
  cases h
 | .ife c a b,ρ,ρ',h=>by
  simp only[exm] at h
  obtain⟨k,_,h⟩:=R.bind_eq_ok h
  split at h
  ·exact exs_len h
  ·exact exs_len h
 | .for1 i it b,ρ,ρ',h=>by
  simp only[exm] at h
  obtain⟨xs,_,h⟩:=R.bind_eq_ok h
  rw[forR_len (λd ρ ρ' h=>by rw[exs_len h]; simp) h,unown_len]
 | .for2 i j it b,ρ,ρ',h=>by
  simp only[exm] at h
  obtain⟨xs,_,h⟩:=R.bind_eq_ok h
  rw[forR_len (λd ρ ρ' h=>?_) h,unown_len]
  split at h
  ·rw[exs_len h]; simp
  ·cases h
 | .whl c b,ρ,ρ',h=>by
  simp only[exm] at h
  exact whR_len (λρ ρ' h=>exs_len h) h
 | .retK mx a b,ρ,ρ',h=>by
  simp only[exm] at h
  obtain⟨d,_,h⟩:=R.bind_eq_ok h
  cases d with
  | lst ds=>
   obtain⟨ks,_,h⟩:=R.bind_eq_ok h
   obtain⟨r,_,h⟩:=R.bind_eq_ok h
   cases h
  | _=>cases h
 | .asgD i f as a,ρ,ρ',h=>by
  simp only[exm] at h
  obtain⟨d,_,h⟩:=R.bind_eq_ok h
  split at h
  ·cases h
   rw[List.length_set]
  ·cases h
 | .pop0 j i k,ρ,ρ',h=>by
  simp only[exm] at h
  split at h
  ·obtain⟨q,_,h⟩:=R.bind_eq_ok h
   split at h
   ·split at h
    ·split at h
     ·split at h
      ·cases h
       rw[List.length_set,List.length_set]
      ·cases h
     ·cases h
    ·cases h
   ·cases h
  ·cases h
 | .asgN i es,ρ,ρ',h=>by
  simp only[exm] at h
  obtain⟨d,_,h⟩:=R.bind_eq_ok h
  split at h
  ·cases h
   rw[List.length_set]
  ·cases h
 | .rse _,ρ,ρ',h=>by simp only[exm] at h; cases h
 | .rsI _ _,ρ,ρ',h=>by simp only[exm] at h; cases h
 | .appX i e,ρ,ρ',h=>by
  simp only[exm] at h
  split at h
  ·obtain⟨d,_,h⟩:=R.bind_eq_ok h
   split at h
   ·cases h; simp
   ·cases h
  ·cases h
 | .dcl i j it e,ρ,ρ',h=>by
  simp only[exm] at h
  obtain⟨ds,_,h⟩:=R.bind_eq_ok h
  obtain⟨ρ2,h1,h⟩:=R.bind_eq_ok h
  cases h
  rw[dcR_len h1,unown_len,List.length_set]
 | .tryN b _ _,ρ,ρ',h=>by
  simp only[exm] at h
  exact exs_len h
 | .tryH b _ _ _ us hs,ρ,ρ',h=>by
  simp only[exm] at h
  split at h
  ·rename_i e
   cases h
   exact exs_len e
  ·split at h
   ·split at h
    ·rw[exH_len h,List.length_replicate]
    ·cases h
   ·cases h
 | .bad,ρ,ρ',h=>by simp only[exm] at h; cases h
theorem exs_len {C:Str->List D->R D}:∀ {st:Sms} {ρ ρ':Env},exs C st ρ=.ok (.nx ρ')->ρ'.length=ρ.length
 | .nil,ρ,ρ',h=>by simp only[exs] at h; cases h; rfl
 | .cons a r,ρ,ρ',h=>by
  simp only[exs] at h
  obtain⟨k,h1,h⟩:=R.bind_eq_ok h
  cases k with
  | nx ρ1=>rw[exs_len h,exm_len h1]
  | rt d=>cases h
end
section
variable {X:Cx} {C:Str->List D->R D}
theorem for_core {tg iter:Expr} {body:List Stmt} {it:It} {b:Sms} {g:TG} {pos:Pos} (f:D->Env->R Fl) (hlen:∀ d ρ ρ',f d ρ=.ok (.nx ρ')->ρ'.length=ρ.length) (hpo:PassesOwn (model X.prog X.w) X.A X.env X.xe) (hc:X.calm=true) (hx:plainX iter=true)
  (hi:PI X tg iter (tI X.K C it)) (hg:PG X tg g) (hb:PSs X body (tSs X.K C b))
  (turn:∀ {B:Hp} {Al:Addr->Prop} {H:Hp} {σ:L2.St} {ρ:Env} {Fs:Nat->List Addr} {d:D} {x:V} {G:List Addr} {fl:Fl} {Dn:Ends},σ.length=X.N.length->SR X.K B Al H σ ρ Fs->Rep X.K H d x G->(∀ a ∈ G,Al a)->(∀ j d',ρ[j]?=some (some (d',true))->∀ a ∈ Fs j,a ∉ G)->f d ρ=.ok fl->FQ X.K B Al (allFs b) fl Dn->g x σ H λσ2 H2=>tSs X.K C b Dn σ2 H2) :
  ∀ (pins:List (Addr × Obj)) (s:Shared) (σ:L2.St) (H:Hp) (Dn:Ends),Inv X pins σ H s->(∃ B Al ρ Fs fl ds,SR X.K B Al H σ ρ Fs/\evI C it ρ=.ok ds/\forR f ds (unown (holdsI it) ρ)=.ok fl/\FQ X.K B Al (allFs b) fl Dn) ->
   wpAny (model X.prog X.w) X.A (exec (.For tg iter body [] pos) X.env) (SP X pins Dn) X.xe s:=by
 intro pins s σ H Dn I h
 refine ps_for hpo hc hi hg hb (λx=>fold_of hx _ x) pins s σ H Dn I ?_
 obtain⟨B,Al,ρ,Fs,fl,ds,S,g1,g2,k⟩:=h
 refine⟨ρ,Fs,ds,S.toVR,g1,λJ H1 F s1 io c1 hz=>?_⟩
 have hal:∀ a ∈ F,Al a:=λa ha=>by
  rcases c1 a ha with z | ⟨i,_,⟨d',o',hi⟩,z⟩
  ·exact S.fr a (S.same.free z)
  ·exact S.al i d' o' hi a z
 have hap:∀ j d',(unown (holdsI it) ρ)[j]?=some (some (d',true))->∀ a ∈ Fs j,a ∉ F:=λj d' h a ha ha'=>by
  obtain⟨o',h',z⟩:=unown_get h
  obtain⟨rfl,hv⟩:=z rfl
  rcases c1 a ha' with q | ⟨i,hi,⟨d2,o2,hi2⟩,q⟩
  ·exact S.tracked h' ha q
  ·have:i ≠ j:=λz=>hv (by rw[<- z]; exact hi)
   exact(S.own j d' h').2.2.1 i d2 o2 this hi2 a ha q
 have S0:SR X.K (hold B H1 F) Al H1 σ (unown (holdsI it) ρ) Fs:=((S.more s1).unown (holdsI it)).held io.lists hap
 have sB:Same B (hold B H1 F):=same_hold (S.same.trans s1)
 refine⟨λi m σ' H'=>m=ds.length-i/\i<=ds.length/\σ'.length=X.N.length/\∃ ρ' Fs',SR X.K (hold B H1 F) Al H' σ' ρ' Fs'/\forR f (ds.drop i) ρ'=.ok fl,⟨ds.length,rfl,Nat.zero_le _,I.len,_,_,S0,g2⟩,?_⟩
 rintro i m σ' H' ⟨rfl,hi',hl,ρ',Fs',S',hf⟩
 have kp:=hold_kp S'.same
 by_cases hlt:i<ds.length
 ·refine .inr ⟨io.go i H' _ kp (λa ha z=>z.1 ha) hlt,λσ2 H2=>σ2.length=X.N.length/\∃ ρ2 Fs2,SR X.K (hold B H1 F) Al H2 σ2 ρ2 Fs2/\forR f (ds.drop (i+1)) ρ2=.ok fl,λσ2 H2 ⟨l2,ρ2,Fs2,S2,h2⟩=>⟨ds.length-(i+1),by omega,rfl,hlt,l2,ρ2,Fs2,S2,h2⟩,λx H2 y=>?_⟩
  obtain⟨sm,G,rep,sub⟩:=io.yld i H' x H2 _ kp (λa ha z=>z.1 ha) y ds[i] (List.getElem?_eq_getElem hlt)
  rw[List.drop_eq_getElem_cons hlt] at hf
  have hf':(f ds[i] ρ' >>= λk=>match k with | .nx ρ''=>forR f (ds.drop (i+1)) ρ'' | .rt d=>.ok (.rt d))=.ok fl:=hf
  obtain⟨f1,h1,hf'⟩:=R.bind_eq_ok hf'
  refine turn hl (S'.more sm) rep (λa ha=>hal a (sub a ha)) (λj d' h a ha ha'=>?_) h1 ?_
  ·have e1:=(S'.own j d' h).2.1 a ha
   rw[hold_in (sub a ha')] at e1
   obtain⟨xs,z⟩:=io.lists a (sub a ha')
   rw[z] at e1; cases e1
  ·cases f1 with
   | nx ρ2=>exact λσ2 H3 Fs2 S2=>⟨by rw[S2.len,hlen _ _ _ h1,<- S'.len]; exact hl,ρ2,Fs2,S2,hf'⟩
   | rt d=>
    cases hf'
    exact λv H3 F3 sB' r3 a3 f3=>k v H3 F3 (sB.trans sB') r3 a3 λm z=>(f3 m z).mono sB
 ·have hie:i=ds.length:=by omega
  subst hie
  rw[List.drop_length] at hf
  cases hf
  exact .inl ⟨io.stop _ H' _ kp (λa ha z=>z.1 ha) (Nat.le_refl _),k _ _ _ (S'.unheld sB S.fr)⟩
theorem ss_for1 {i:Nat} {x:Str} {it:It} {b:Sms} {iter:Expr} {body:List Stmt} {p pos:Pos} (hpo:PassesOwn (model X.prog X.w) X.A X.env X.xe) (hc:X.calm=true) (nd:X.N.Nodup) (hfn:X.fn x=true) (hp:putB X.env.scope X.N i x=true) (hx:plainX iter=true)
  (hi:PI X (.Name x p) iter (tI X.K C it)) (hb:PSs X body (tSs X.K C b)):PS X (.For (.Name x p) iter body [] pos) (tS X.K C (.for1 i it b)):=by
 obtain⟨h1,h2⟩:=put_of hp
 intro pins s σ H Dn I h
 refine for_core (λx ρ=>exs C b (ρ.set i (some (x,false)))) (λd ρ ρ' h=>by rw[exs_len h]; simp) hpo hc hx hi (pg_name nd h1 h2 (.inl hfn)) hb ?_ pins s σ H Dn I ?_
 ·intro B Al H σ ρ Fs d x G fl Dn hl S r hal hap hf k
  exact⟨B,Al,_,_,fl,S.view (by rw[hl]; exact(List.getElem?_eq_some_iff.mp h1).1) r hal (λj d' hj h=>hap j d' h),hf,k⟩
 ·obtain⟨B,Al,ρ,Fs,fl,S,he,k⟩:=h
  simp only[exm] at he
  obtain⟨ds,g1,g2⟩:=R.bind_eq_ok he
  exact⟨B,Al,ρ,Fs,fl,ds,S,g1,g2,k⟩
theorem ss_for2 {i j:Nat} {x y:Str} {it:It} {b:Sms} {iter:Expr} {body:List Stmt} {p q pt pos:Pos} {kt:Nat} (hpo:PassesOwn (model X.prog X.w) X.A X.env X.xe) (hc:X.calm=true) (nd:X.N.Nodup) (hfx:X.fn x=true) (hfy:X.fn y=true) (hxp:putB X.env.scope X.N i x=true) (hyp:putB X.env.scope X.N j y=true) (hx:plainX iter=true)
  (hi:PI X (.Tuple [.Name x p,.Name y q] kt pt) iter (tI X.K C it)) (hb:PSs X body (tSs X.K C b)):PS X (.For (.Tuple [.Name x p,.Name y q] kt pt) iter body [] pos) (tS X.K C (.for2 i j it b)):=by
 obtain⟨h1,h2⟩:=put_of hxp
 obtain⟨h3,h4⟩:=put_of hyp
 have pg:=pg_tup (k:=kt) (pos:=pt) hc (pgs_cons (pg_name (pos:=p) nd h1 h2 (.inl hfx)) (pgs_cons (pg_name (pos:=q) nd h3 h4 (.inl hfy)) pgs_nil))
 intro pins s σ H Dn I h
 refine for_core (λx ρ=>match x with | .tup [u,v]=>exs C b ((ρ.set i (some (u,false))).set j (some (v,false))) | _=>.un) (λd ρ ρ' h=>?_) hpo hc hx hi pg hb ?_ pins s σ H Dn I ?_
 ·split at h
  ·rw[exs_len h]; simp
  ·cases h
 ·intro B Al H σ ρ Fs d w G fl Dn hl S r hal hap hf k
  split at hf
  ·rename_i da db
   obtain⟨ad,vs,rfl,hq,rr⟩:=r
   obtain⟨v1,w1,F1,F2,rfl,rfl,r1,rr⟩:=rr
   obtain⟨v2,w2,F3,F4,rfl,rfl,r2,rr⟩:=rr
   obtain⟨rfl,rfl⟩:=rr
   have li:i < σ.length:=by rw[hl]; exact(List.getElem?_eq_some_iff.mp h1).1
   have lj:j < σ.length:=by rw[hl]; exact(List.getElem?_eq_some_iff.mp h3).1
   have S1:=S.view li r1 (λa ha=>hal a (List.mem_append_left _ ha)) (λj d' hj h a ha ha'=>hap j d' h a ha (List.mem_append_left _ ha'))
   refine⟨ad,_,rfl,hq,rfl,v1,_,rfl,v2,_,rfl,rfl,B,Al,_,_,fl,S1.view (by rw[List.length_set]; exact lj) r2 (λa ha=>hal a (List.mem_append_right _ (List.mem_append_left _ ha))) (λm d' hm h a ha ha'=>?_),hf,k⟩
   by_cases hmi:m=i
   ·subst hmi
    rw[List.getElem?_set_self (by rw[<- S.len]; exact li)] at h
    cases h
   ·rw[List.getElem?_set_ne (Ne.symm hmi)] at h
    simp only[if_neg hmi] at ha
    exact hap m d' h a ha (List.mem_append_right _ (List.mem_append_left _ ha'))
  ·cases hf
 ·obtain⟨B,Al,ρ,Fs,fl,S,he,k⟩:=h
  simp only[exm] at he
  obtain⟨ds,g1,g2⟩:=R.bind_eq_ok he
  exact⟨B,Al,ρ,Fs,fl,ds,S,g1,g2,k⟩
theorem ss_while {c:Expr} {body:List Stmt} {p:Ex} {b:Sms} {pos:Pos} (hpo:PassesOwn (model X.prog X.w) X.A X.env X.xe) (hc:PT X c (tT X.K C p)) (hb:PSs X body (tSs X.K C b)):PS X (.While c body [] pos) (tS X.K C (.whl p b)):=sm' (ps_while hpo hc hb) λDn σ H h=>by
 obtain⟨B,Al,ρ,Fs,fl,S,he,k⟩:=h
 simp only[exm] at he
 refine⟨λm σ' H'=>∃ ρ' Fs',SR X.K B Al H' σ' ρ' Fs'/\whR (λρ=>tst C p ρ) (λρ=>exs C b ρ) m ρ'=.ok fl,⟨1000,ρ,Fs,S,he⟩,?_⟩
 rintro m σ' H' ⟨ρ',Fs',S',hw⟩
 cases m with
 | zero=>cases hw
 | succ m=>
  have hw':(tst C p ρ' >>= λk=>if k then exs C b ρ' >>= λz=>match z with | .nx ρ''=>whR (λρ=>tst C p ρ) (λρ=>exs C b ρ) m ρ'' | .rt d=>.ok (.rt d) else .ok (.nx ρ'))=.ok fl:=hw
  obtain⟨t,g1,hw'⟩:=R.bind_eq_ok hw'
  refine⟨ρ',Fs',t,S'.toVR,g1,λH1 s1=>?_⟩
  cases t with
  | false=>
   rw[if_neg Bool.false_ne_true] at hw' |-
   cases hw'
   exact k _ _ _ (S'.more s1)
  | true=>
   rw[if_pos rfl] at hw' |-
   obtain⟨z,g2,hw'⟩:=R.bind_eq_ok hw'
   refine⟨λσ2 H2=>∃ ρ2 Fs2,SR X.K B Al H2 σ2 ρ2 Fs2/\whR (λρ=>tst C p ρ) (λρ=>exs C b ρ) m ρ2=.ok fl,λσ2 H2 ⟨ρ2,Fs2,S2,h2⟩=>⟨m,Nat.lt_succ_self _,ρ2,Fs2,S2,h2⟩,B,Al,ρ',Fs',z,S'.more s1,g2,?_⟩
   cases z with
   | nx ρ2=>exact λσ2 H2 Fs2 S2=>⟨ρ2,Fs2,S2,hw'⟩
   | rt d=>cases hw'; exact k.of (λ_ z=>z)
end
section
variable {X:Cx} {T:Tab} {n:Nat}
end
theorem deepIs.reps {K:Frag} {H:Hp}:∀ {ds:List D} {vs:List V} {G:List Addr},deepIs K H ds vs G->Reps K H ds vs G
 | [],_,_,h=>h
 | d::ds,_,_,hD=>by
  obtain⟨es,a,ws,r,G',e1,e2,e3,e4,e5,e6,e7⟩:=hD
  subst e1; subst e2; subst e3
  exact⟨.ref a,r,[a],G',rfl,rfl,⟨a,ws,[],rfl,e5,.inl ⟨e4,rfl⟩⟩,e7.reps⟩
theorem deepIs.at {K:Frag} {H:Hp}:∀ {ds:List D} {vs:List V} {G:List Addr} {m:Nat} {d:D},deepIs K H ds vs G->ds[m]?=some d->∃ es b ws,d=.lst es/\vs[m]?=some (.ref b)/\b ∈ G/\H b=some (.lst ws)/\Reps K H es ws []
 | [],_,_,m,d,_,e=>by simp at e
 | d0::ds,_,_,0,d,hD,e=>by
  obtain⟨es,a,ws,r,G',e1,e2,e3,e4,e5,e6,e7⟩:=hD
  subst e2; subst e3
  have:d0=d:=by simpa using e
  subst this
  exact⟨es,a,ws,e1,rfl,List.mem_cons_self,e4,e5⟩
 | d0::ds,_,_,m+1,d,hD,e=>by
  obtain⟨es,a,ws,r,G',e1,e2,e3,e4,e5,e6,e7⟩:=hD
  subst e2; subst e3
  obtain⟨es',b,ws',h1,h2,h3,h4,h5⟩:=e7.at (m:=m) (d:=d) (by simpa using e)
  exact⟨es',b,ws',h1,by simpa using h2,List.mem_cons_of_mem _ h3,h4,h5⟩
theorem deepIs.set {K:Frag} {H:Hp}:∀ {ds:List D} {vs:List V} {G:List Addr} {m:Nat} {b:Addr} {xs ws':List V} {es':List D},deepIs K H ds vs G->vs[m]?=some (.ref b)->H b=some (.lst xs)->Reps K H es' ws' []->deepIs K (L2.upd H b (.lst ws')) (ds.set m (.lst es')) vs G
 | [],_,_,m,b,xs,ws',es',⟨h1,h2⟩,e,_,_=>by subst h1; simp at e
 | d0::ds,_,_,0,b,xs,ws',es',hD,e,hb,rr=>by
  obtain⟨es,a,ws,r,G',e1,e2,e3,e4,e5,e6,e7⟩:=hD
  subst e2; subst e3
  have:a=b:=by simpa using e
  subst this
  exact⟨es',a,ws',r,G',rfl,rfl,rfl,upd_same,reps_upd0 hb rr,e6,e7.upd hb λc hc z=>e6 (z ▸ hc)⟩
 | d0::ds,_,_,m+1,b,xs,ws',es',hD,e,hb,rr=>by
  obtain⟨es,a,ws,r,G',e1,e2,e3,e4,e5,e6,e7⟩:=hD
  subst e2; subst e3
  have hm:r[m]?=some (.ref b):=by simpa using e
  have hbG:b ∈ G':=by
   have hl:∃ d,ds[m]?=some d:=by
    have l1:=e7.reps.length
    have:=(List.getElem?_eq_some_iff.mp hm).1
    exact⟨_,List.getElem?_eq_getElem (by omega)⟩
   obtain⟨d,hd⟩:=hl
   obtain⟨_,b',_,_,h2,h3,_⟩:=e7.at hd
   rw[hm] at h2
   cases h2
   exact h3
  have hab:a ≠ b:=λz=>e6 (z ▸ hbG)
  exact⟨es,a,ws,r,G',e1,rfl,rfl,by rw[upd_ne hab]; exact e4,reps_upd0 hb e5,e6,e7.set hm hb rr⟩
section
variable {X:Cx} {C:Str->List D->R D}
end
section
variable {K:Frag} {B:Hp} {Al:Addr->Prop} {H:Hp} {σ:L2.St} {ρ:Env} {Fs:Nat->List Addr} {i:Nat}
theorem SR.setU (S:SR K B Al H σ ρ Fs) (hi:∀ p,ρ[i]? ≠ some (some p)) (w:Option V):SR K B Al H (σ.set i w) ρ Fs:=by
 have ne:∀ {j p},ρ[j]?=some (some p)->(σ.set i w)[j]?=σ[j]?:=λ{j p} e=>by
  rw[List.getElem?_set_ne]
  intro z
  subst z
  exact hi _ e
 refine⟨⟨by rw[List.length_set]; exact S.len,λj d o e=>?_⟩,S.al,λj d e=>?_,S.same,S.fr,λj ds e z=>?_⟩
 ·rw[ne e]; exact S.val j d o e
 ·obtain⟨p1,p2,p3,b,F,vs,q1,q2,q3⟩:=S.own j d e
  exact⟨p1,p2,p3,b,F,vs,q1,by rw[ne e]; exact q2,q3⟩
 ·obtain⟨b,F,vs,q1,q2,q3⟩:=S.deep j ds e z
  exact⟨b,F,vs,q1,by rw[ne e]; exact q2,q3⟩
theorem SR.viewD (S:SR K B Al H σ ρ Fs) {p:Addr} {kvs:List (Int × Int)} (hv:σ[i]?=some (some (.ref p))) (hp:H p=some (.dK (dcK kvs))):SR K B Al H σ (ρ.set i (some (.dct kvs,false))) (λj=>if j=i then [] else Fs j):=by
 have hil:i < ρ.length:=by rw[<- S.len]; exact(List.getElem?_eq_some_iff.mp hv).1
 have self:(ρ.set i (some (D.dct kvs,false)))[i]?=some (some (.dct kvs,false)):=List.getElem?_set_self hil
 have oth:∀ {j},j ≠ i->(ρ.set i (some (D.dct kvs,false)))[j]?=ρ[j]?:=λhj=>List.getElem?_set_ne (Ne.symm hj)
 refine⟨⟨by rw[List.length_set]; exact S.len,λj d o e=>?_⟩,λj d o e a ha=>?_,λj d e=>?_,S.same,S.fr,λj ds e z=>?_⟩
 ·by_cases hj:j=i
  ·subst hj
   rw[self] at e
   cases e
   exact⟨.ref p,hv,.inr (.inl ⟨kvs,p,rfl,rfl,hp,by simp⟩)⟩
  ·rw[oth hj] at e
   simp only[if_neg hj]
   exact S.val j d o e
 ·by_cases hj:j=i
  ·simp only[if_pos hj] at ha
   cases ha
  ·rw[oth hj] at e
   simp only[if_neg hj] at ha
   exact S.al j d o e a ha
 ·by_cases hj:j=i
  ·subst hj
   rw[self] at e
   cases e
  ·rw[oth hj] at e
   obtain⟨p1,p2,p3,p4⟩:=S.own j d e
   simp only[if_neg hj]
   refine⟨p1,p2,λk d' o' hk e' a ha=>?_,p4⟩
   by_cases hki:k=i
   ·simp[hki]
   ·rw[oth hki] at e'
    simp only[if_neg hki]
    exact p3 k d' o' hk e' a ha
 ·by_cases hj:j=i
  ·subst hj
   rw[self] at e
   cases e
  ·rw[oth hj] at e
   simp only[if_neg hj]
   exact S.deep j ds e z
end
def del (H:Hp) (p:Addr):Hp:=λb=>if b=p then none else H b
theorem del_self {H:Hp} {p:Addr}:del H p p=none:=if_pos rfl
theorem del_ne {H:Hp} {p b:Addr} (h:b ≠ p):del H p b=H b:=if_neg h
theorem same_del {H H':Hp} {p:Addr} (s:Same H H') (hp:H p=none):Same H (del H' p):=λb o e=>by
 rw[del_ne (ne_of_none e hp)]
 exact s b o e
theorem del_same {H:Hp} {p:Addr}:Same (del H p) H:=λb o e=>by
 by_cases h:b=p
 ·rw[h,del_self] at e; cases e
 ·rw[del_ne h] at e; exact e
theorem del_mono {H H':Hp} {p:Addr} (s:Same H H'):Same (del H p) (del H' p):=λb o e=>by
 by_cases h:b=p
 ·rw[h,del_self] at e; cases e
 ·rw[del_ne h] at e |-
  exact s b o e
theorem del_free {H:Hp} {p b:Addr} (e:H b=none):del H p b=none:=by
 by_cases h:b=p
 ·rw[h,del_self]
 ·rw[del_ne h]; exact e
theorem upd_del {H:Hp} {p:Addr} {o:HO}:del (upd H p o) p=del H p:=by
 funext b
 by_cases h:b=p
 ·rw[h,del_self,del_self]
 ·rw[del_ne h,del_ne h,upd_ne h]
section
variable {X:Cx} {C:Str->List D->R D}
theorem dcR_cons {f:Int->Env->R D} {i j:Nat} {d:D} {ds:List D} {ρ ρ':Env} {kvs:List (Int × Int)} (h:dcR f i j (d::ds) ρ kvs=.ok ρ'):∃ k v,d=.int k/\kvs.lookup k=none/\f k ρ=.ok (.int v)/\fits (kvs.length+1)=true/\dcR f i j ds (ρ.set j (some (.int k,false))) (kvs++[(k,v)])=.ok ρ':=by
 cases d with
 | int k=>
  unfold dcR at h
  split at h
  ·cases h
  ·rename_i hl
   obtain⟨x,hx,h⟩:=R.bind_eq_ok h
   split at h
   ·rename_i v
    split at h
    ·rename_i hf
     exact⟨k,v,rfl,hl,hx,hf,h⟩
    ·cases h
   ·cases h
 | _=>cases h
theorem dcK_snoc (kvs:List (Int × Int)) (k v:Int):dcK kvs++[(.inl k,.int v)]=dcK (kvs++[(k,v)]):=by
 unfold dcK
 rw[List.map_append]
 rfl
theorem ss_dclG (hc:X.calm=true) (nd:X.N.Nodup) (hpo:PassesOwn (model X.prog X.w) X.A X.env X.xe) (hfn:∀ x,X.fn x=true) {i j:Nat} {it:It} {e:Ex} {s0 t0:Stmt} {rest:List Stmt} {u:TS} (h:isDcl (.dcl i j it e) X.env.scope X.N s0 t0=true)
  (hI:∀ tg e',isI it X.env.scope X.N tg e'=true->PI X tg e' (tI X.K C it)) (hE:∀ e',isE e X.env.scope X.N e'=true->PE X e' (tE X.K C e)) (hr:PSs X rest u) :
  PSs X (s0::t0::rest) (λD σ H=>∃ B Al ρ Fs ρ',SR X.K B Al H σ ρ Fs/\exm C (.dcl i j it e) ρ=.ok (.nx ρ')/\∀ σ' H' Fs',SR X.K B Al H' σ' ρ' Fs'->u D σ' H'):=by
 have h':(match gDcl s0 t0 with
  | some q=>putB X.env.scope X.N i q.x&&putB X.env.scope X.N j q.y&&isI it X.env.scope X.N (.Name q.y q.py) q.it&&isV i X.env.scope X.N (.Name q.x' q.p1)&&isV j X.env.scope X.N q.k&&isE e X.env.scope X.N q.v&&noCmp e&&i != j
  | none=>false)=true:=h
 cases hq:gDcl s0 t0 with
 | none=>rw[hq] at h'; cases h'
 | some q=>
  rw[hq] at h'
  simp only[Bool.and_eq_true,bne_iff_ne,ne_eq] at h'
  obtain⟨⟨⟨⟨⟨⟨⟨k1,k2⟩,k3⟩,k4⟩,k5⟩,k6⟩,k7⟩,k8⟩:=h'
  obtain⟨e1,e2⟩:=gDcl_of hq
  obtain⟨p1,p2⟩:=put_of k1
  obtain⟨p3,p4⟩:=put_of k2
  obtain⟨pk,hkx⟩:=pe_V k5
  have hnv:notComp q.v=true:=notComp_of k6 k7
  have pb:=pss_one (ps_asg (pos:=q.bp) (hE _ k6) (pg_sub (pos:=q.sp) (pe_V k4).1 pk set_dk (by intro w; cases hk:q.k <;> first | rfl | (rw[hk] at hkx; cases hkx))) (by unfold swapsWithSole; exact noswap hnv _ _ _) (by cases q.v <;> rfl) rfl)
  rw[e1,e2]
  intro pins s σ H D I z
  refine pss_cons (ps_set nd p1 p2 pe_dk0 (noswap rfl _ _ _) (.inl (hfn _))) (pss_cons (t:=λD σ1 H1=>∃ B Al ρ0 Fs ρ' p,SR X.K B Al (del H1 p) σ1 ρ0 Fs/\H1 p=some (.dK [])/\σ1[i]?=some (some (.ref p))/\(∀ w,ρ0[i]? ≠ some (some w))/\(evI C it ρ0 >>= λds=>dcR (λk ρ=>ev C e (ρ.set j (some (.int k,false)))) i j ds (unown (holdsI it) ρ0) [])=.ok ρ'/\∀ σ' H' Fs',SR X.K B Al H' σ' ρ' Fs'->D.nx σ' H') ?_ hr) pins s σ H D I ?_
  ·intro pins s σ H Dn I hh
   obtain⟨B,Al,ρ,Fs,ρ',p,S,hp,hv,hno,he,k⟩:=hh
   obtain⟨ds,g1,g2⟩:=R.bind_eq_ok he
   refine ps_for hpo hc (hI _ _ k3) (pg_name nd p3 p4 (.inl (hfn _))) pb (λx=>fold_of (plainI_of k3) _ x) pins s σ H Dn I ?_
   refine⟨ρ,Fs,ds,(S.more del_same).toVR,g1,λJ H1 F s1 io c1 hz=>?_⟩
   have hp1:H1 p=some (.dK []):=s1 _ _ hp
   have S1:SR X.K B Al (del H1 p) σ ρ Fs:=S.more (del_mono s1)
   have hFp:∀ a ∈ F,a ≠ p:=λa ha z=>by
    obtain⟨xs,w⟩:=io.lists a ha
    rw[z,hp1] at w
    cases w
   have hal:∀ a ∈ F,Al a:=λa ha=>by
    rcases c1 a ha with z | ⟨i,_,⟨d',o',hi⟩,z⟩
    ·exact S.fr a (S.same.free (del_free z))
    ·exact S.al i d' o' hi a z
   have hap:∀ j d',(unown (holdsI it) ρ)[j]?=some (some (d',true))->∀ a ∈ Fs j,a ∉ F:=λj d' h a ha ha'=>by
    obtain⟨o',h',z⟩:=unown_get h
    obtain⟨rfl,hv⟩:=z rfl
    rcases c1 a ha' with q | ⟨i,hi,⟨d2,o2,hi2⟩,q⟩
    ·exact S.tracked h' ha (del_free q)
    ·have:i ≠ j:=λz=>hv (by rw[<- z]; exact hi)
     exact(S.own j d' h').2.2.1 i d2 o2 this hi2 a ha q
   have S0:SR X.K (hold B (del H1 p) F) Al (del H1 p) σ (unown (holdsI it) ρ) Fs:=(S1.unown (holdsI it)).held (λa ha=>by rw[del_ne (hFp a ha)]; exact io.lists a ha) hap
   have sB:Same B (hold B (del H1 p) F):=same_hold S1.same
   have hno':∀ w,(unown (holdsI it) ρ)[i]? ≠ some (some w):=λw z=>by
    obtain⟨d,o⟩:=w
    obtain⟨o',h',_⟩:=unown_get z
    exact hno _ h'
   refine⟨λm n' σ' H'=>n'=ds.length-m/\m<=ds.length/\σ'.length=X.N.length/\σ'[i]?=some (some (.ref p))/\∃ ρ1 Fs1 kvs,SR X.K (hold B (del H1 p) F) Al (del H' p) σ' ρ1 Fs1/\H' p=some (.dK (dcK kvs))/\(∀ w,ρ1[i]? ≠ some (some w))/\dcR (λk ρ=>ev C e (ρ.set j (some (.int k,false)))) i j (ds.drop m) ρ1 kvs=.ok ρ',⟨ds.length,rfl,Nat.zero_le _,I.len,hv,_,_,[],S0,hp1,hno',g2⟩,?_⟩
   rintro m n' σ' H' ⟨rfl,hm,hl,hv',ρ1,Fs1,kvs,S',hp',hn1,hf⟩
   have kp:Kp (λa=>(a ∉ F/\∃ xs,del H1 p a=some (.lst xs))\/a=p) H1 H':=⟨λb o eb nb=>by
    have hb:b ≠ p:=λz=>nb (.inr z)
    have w:=(hold_kp S'.same).1 b o (by rw[del_ne hb]; exact eb) (λz=>nb (.inl z))
    rwa [del_ne hb] at w,λb z=>by
    rcases z with⟨_,xs,w⟩ | rfl
    ·exact .inl ⟨xs,del_same _ _ w⟩
    ·exact .inr ⟨_,hp1⟩⟩
   have hF:∀ a ∈ F,¬ ((a ∉ F/\∃ xs,del H1 p a=some (.lst xs))\/a=p):=λa ha z=>by
    rcases z with z | z
    ·exact z.1 ha
    ·exact hFp a ha z
   by_cases hlt:m<ds.length
   ·refine .inr ⟨io.go m H' _ kp hF hlt,λσ2 H2=>σ2.length=X.N.length/\σ2[i]?=some (some (.ref p))/\∃ ρ1 Fs1 kvs,SR X.K (hold B (del H1 p) F) Al (del H2 p) σ2 ρ1 Fs1/\H2 p=some (.dK (dcK kvs))/\(∀ w,ρ1[i]? ≠ some (some w))/\dcR (λk ρ=>ev C e (ρ.set j (some (.int k,false)))) i j (ds.drop (m+1)) ρ1 kvs=.ok ρ',λσ2 H2 ⟨l2,v2,z2⟩=>⟨ds.length-(m+1),by omega,rfl,hlt,l2,v2,z2⟩,λx H2 y=>?_⟩
    obtain⟨sm,G,rep,sub⟩:=io.yld m H' x H2 _ kp hF y ds[m] (List.getElem?_eq_getElem hlt)
    rw[List.drop_eq_getElem_cons hlt] at hf
    obtain⟨k',v,ek,hlk,hfk,hft,hf'⟩:=dcR_cons hf
    rw[ek] at rep
    obtain⟨rfl,rfl⟩:=rep
    have jl:j < σ'.length:=by rw[hl]; exact(List.getElem?_eq_some_iff.mp p3).1
    have S2:=(S'.more (del_mono sm)).view (i:=j) (d:=.int k') (v:=.int k') (F:=[]) jl rep_int (λ_ z=>nomatch z) (λ_ _ _ _ _ _ z=>nomatch z)
    have v2:(σ'.set j (some (V.int k')))[i]?=some (some (.ref p)):=by rw[List.getElem?_set_ne (Ne.symm k8)]; exact hv'
    have vj:(σ'.set j (some (V.int k')))[j]?=some (some (.int k')):=List.getElem?_set_self jl
    refine⟨_,_,.int v,(S2.more del_same).toVR,hfk,λw H3 G3 s3 r3 c3 _=>?_⟩
    obtain⟨rfl,_⟩:=r3
    refine⟨.ref p,v2,⟨.int k',vj,⟨p,dcK kvs,k',rfl,rfl,s3 _ _ (sm _ _ hp'),by rw[lk_dc,hlk]; rfl,?_,?_⟩⟩⟩
    ·have:=fits_le hft
     unfold dcK
     rw[List.length_map]
     omega
    ·refine⟨by rw[List.length_set]; exact hl,v2,_,(λq=>if q=j then [] else Fs1 q),kvs++[(k',v)],?_,?_,λw z=>?_,hf'⟩
     ·rw[upd_del]
      exact S2.more (del_mono s3)
     ·rw[upd_same,dcK_snoc]
     ·rw[List.getElem?_set_ne (Ne.symm k8)] at z
      exact hn1 w z
   ·have hie:m=ds.length:=by omega
    subst hie
    rw[List.drop_length] at hf
    cases hf
    exact .inl ⟨io.stop _ H' _ kp hF (Nat.le_refl _),k _ _ _ (((S'.more del_same).unheld sB S.fr).viewD hv' hp')⟩
  ·obtain⟨B,Al,ρ,Fs,ρ',S,hx,k⟩:=z
   simp only[exm] at hx
   obtain⟨ds,g1,hx⟩:=R.bind_eq_ok hx
   obtain⟨ρ2,g2,hx⟩:=R.bind_eq_ok hx
   cases hx
   intro p hp
   have hno:∀ w,(ρ.set i none)[i]? ≠ some (some w):=λw z=>by
    rw[List.getElem?_set] at z
    simp only[if_true] at z
    split at z <;> cases z
   refine⟨B,Al,ρ.set i none,Fs,ρ',p,?_,upd_same,?_,hno,by rw[g1]; exact g2,k⟩
   ·rw[upd_del]
    exact((S.lose i).setU hno _).more (same_del (Same.refl _) hp)
   ·rw[List.getElem?_set_self]
    rw[I.len]
    exact(List.getElem?_eq_some_iff.mp p1).1
end
theorem flat_oneX {K:Frag} {H:Hp} {d:D} {v:V} {F:List Addr} (r:Rep K H d v F) (hf:flatL d=true) {a:Addr} {F':List Addr} (e:F=a::F'):F'=[]:=by
 cases d with
 | lst es=>
  obtain⟨b,vs,F0,rfl,rr,q⟩:=r
  have:=rr.noL hf
  subst this
  rcases q with⟨_,q⟩ | ⟨_,q⟩
  ·rw[e] at q; cases q; rfl
  ·rw[e] at q; cases q
 | _=>cases hf
section
variable {X:Cx} {C:Str->List D->R D}
theorem ss_appX {i:Nat} {x:Str} {e:Ex} {v:Expr} {p ap cp pos:Pos} (hx:isE (.var i) X.env.scope X.N (.Name x p)=true) (hline:(ap.endLine==cp.line)=true) (hv:plainX v=true) (he:PE X v (tE X.K C e)) :
  PS X (.Expr (.Call (.Attribute (.Name x p) "append" ap) [v] [] cp) pos) (tS X.K C (.appX i e)):=by
 obtain⟨hvar,_⟩:=var_of hx
 have ha:=pa_cons he pa_nil (star_of hv _ _)
 have hfew:((backTo cp (starEach [v] X.env)).all (λx=>!x.1)&&(backToKw cp (keywordEach [] X.env)).all (λx=>x.1.isSome)
   && decide ([v].length+([]:List Keyword).length+(if ([]:List Keyword).isEmpty then 0 else 1)<30))=true:=by rw[star_of hv]; rfl
 have bm:=pe_bm PySem.F.plainAttrs_list PySem.F.slot_list_append PySem.F.type_list_append mt_append hvar ha rfl hfew hline (star_of hv _ _) rfl
 intro pins s σ H D I q
 refine ps_expr bm rfl pins s σ H D I ?_
 obtain⟨B,Al,ρ,Fs,fl,S,hx',k⟩:=q
 simp only[exm] at hx'
 split at hx'
 ·rename_i xs hi
  obtain⟨d,g1,hx'⟩:=R.bind_eq_ok hx'
  split at hx'
  ·rename_i hl
   simp only[Bool.and_eq_true] at hl
   obtain⟨⟨⟨l1,l2⟩,l3⟩,l4⟩:=hl
   cases hx'
   obtain⟨a,F,vs,q1,q2,q3,dp⟩:=S.deep i xs hi l1
   obtain⟨p1,p2,p3,_⟩:=S.own i _ hi
   rw[q1] at p1
   have hai:a ∈ Fs i:=by rw[q1]; exact List.mem_cons_self
   have hil:i < σ.length:=(List.getElem?_eq_some_iff.mp q2).1
   refine⟨.ref a,q2,.inl ⟨rfl,vs,.of q3⟩,⟨ρ,Fs,d,S.toVR,g1,λw H' G s' r c f=>?_⟩⟩
   cases d with
   | lst es=>
    obtain⟨b,G',eG,hb⟩:=f l2 es rfl
    have hG:=flat_oneX r l3 eG
    subst hG
    subst eG
    obtain⟨b',ws,F0,rfl,rr,qq⟩:=r
    have hF0:=rr.noL l3
    subst hF0
    have hbb:H' b=some (.lst ws)/\b'=b:=by
     rcases qq with⟨z1,z2⟩ | ⟨z1,z2⟩
     ·cases z2; exact⟨z1,rfl⟩
     ·cases z2
    obtain⟨hb',rfl⟩:=hbb
    have lenv:=dp.reps.length
    have hz:=fits_le l4
    have nb:∀ c ∈ Fs i,c ≠ b':=λc hc z=>S.tracked hi hc (by rw[z]; exact hb)
    have hnF:b' ∉ F:=λz=>nb b' (by rw[q1]; exact List.mem_cons_of_mem _ z) rfl
    have hna:a ≠ b':=nb a hai
    refine⟨a,vs,.ref b',rfl,rfl,s' _ _ q3,by omega,?_⟩
    have ha':H' a=some (.lst vs):=s' _ _ q3
    have S1:=((S.more s').lose i).write0 (ws:=vs++[.ref b']) ha' (p2 a hai) λj pp h=>by
     rw[List.getElem?_set] at h
     split at h
     ·split at h <;> cases h
     ·rename_i hne
      exact p3 j pp.1 pp.2 (Ne.symm hne) h a hai
    have bk:∀ {j pp},(ρ.set i none)[j]?=some (some pp)->ρ[j]?=some (some pp):=λ{j pp} h=>by
     rw[List.getElem?_set] at h
     split at h
     ·split at h <;> cases h
     ·exact h
    have dp1:deepIs X.K (upd H' a (.lst (vs++[.ref b']))) (xs++[.lst es]) (vs++[.ref b']) (F++[b']):=((dp.same s').snoc rr hb' hnF).upd ha' λc hc z=>by
     rcases List.mem_append.mp hc with hc | hc
     ·rw[z] at hc
      exact(List.nodup_cons.mp p1).1 hc
     ·rw[List.mem_singleton.mp hc] at z
      exact hna z.symm
    have nd:(a::(F++[b'])).Nodup:=by
     refine List.nodup_cons.mpr ⟨λz=>?_,?_⟩
     ·rcases List.mem_append.mp z with z | z
      ·exact(List.nodup_cons.mp p1).1 z
      ·exact hna (List.mem_singleton.mp z)
     ·rw[List.nodup_append]
      refine⟨(List.nodup_cons.mp p1).2,by simp,λc hc d hd z=>?_⟩
      rw[List.mem_singleton.mp hd] at z
      rw[z] at hc
      exact hnF hc
    have hB:∀ c ∈ a::(F++[b']),B c=none:=λc hc=>by
     rcases List.mem_cons.mp hc with rfl | hc
     ·exact p2 _ hai
     ·rcases List.mem_append.mp hc with hc | hc
      ·exact p2 c (by rw[q1]; exact List.mem_cons_of_mem _ hc)
      ·rw[List.mem_singleton.mp hc]; exact S.same.free hb
    have S2:=S1.mine (i:=i) (d:=.lst (xs++[.lst es])) (v:=.ref a) (F:=a::(F++[b'])) hil ⟨a,_,F++[b'],rfl,dp1.reps,.inl ⟨upd_same,rfl⟩⟩ nd hB ⟨a,F++[b'],_,rfl,rfl,upd_same⟩ (λds ee _=>by cases ee; exact⟨a,F++[b'],_,rfl,rfl,upd_same,dp1⟩) λj d' o' hj h c hc hc'=>by
     have h':=bk h
     rcases List.mem_cons.mp hc' with rfl | hc'
     ·exact p3 j d' o' hj h' _ hai hc
     ·rcases List.mem_append.mp hc' with hc' | hc'
      ·exact p3 j d' o' hj h' c (by rw[q1]; exact List.mem_cons_of_mem _ hc') hc
      ·exact S.tracked h' hc (by rw[List.mem_singleton.mp hc']; exact hb)
    rw[set_back q2,List.set_set] at S2
    exact k _ _ _ S2
   | _=>cases l3
  ·cases hx'
 ·cases hx'
end
section
variable {X:Cx} {C:Str->List D->R D}
theorem ss_asgC {T:Tab} {n:Nat} {i:Nat} {x:Str} {two:Bool} {elt:Ex} {it:It} {ifs:Exs} {e:Expr} {pos pos':Pos} (M:Md T n X) (hfn:X.fn x=true) (hp:putB X.env.scope X.N i x=true) (h:isE (.comp two elt it ifs) X.env.scope X.N e=true) (hsw:swapsWith e (some (.Name x pos')) pos.line X.env=pure true)
  (hI:∀ tg e,isI it X.env.scope X.N tg e=true->PI X tg e (tI X.K C it))
  (hT:∀ X',Md T n X'->∀ es,isTs ifs X'.env.scope X'.N es=true->PTs X' es (tTs X'.K C ifs)) (hE:∀ X',Md T n X'->∀ e,isE elt X'.env.scope X'.N e=true->PE X' e (tE X'.K C elt)):PS X (.Assign [.Name x pos'] e pos) (tS X.K C (.asg i (.comp two elt it ifs))):=by
 obtain⟨h1,h2⟩:=put_of hp
 obtain⟨elt',tg,iter,ifs',isc,cpos,xs,rfl,ht,ok,nd,k1,k2,k3⟩:=comp_is h
 intro pins s σ H Dn I q
 obtain⟨B,Al,ρ,Fs,fl,S,hx,k⟩:=q
 simp only[exm] at hx
 obtain⟨d,g1,hx⟩:=R.bind_eq_ok hx
 cases hx
 have hd:∃ ys,d=.lst ys:=by
  have he':=g1
  rw[ev_comp] at he'
  obtain⟨ds,_,he'⟩:=R.bind_eq_ok he'
  obtain⟨ys,_,he'⟩:=R.bind_eq_ok he'
  cases he'
  exact⟨ys,rfl⟩
 obtain⟨ys,rfl⟩:=hd
 rw[exec_Assign_Name_used _ _ _ _ hsw]
 refine wpAny_bind (wpAny_standAt (wpAny_bind ?_))
 show wpAny (model X.prog X.w) X.A (comprehension (.ListComp elt' [⟨tg,iter,ifs',0⟩] isc cpos) isc X.env _ (newList []) false (eval iter X.env) (some (assign (.Name x pos') X.env)) >>= λ_=>pure ()) _ X.xe s
 refine wpAny_bind (wpAny_mono (comp_run (use:=some (assign (.Name x pos') X.env)) (Q:=λ_ s'=>SP X pins Dn .next s') (fm:=former elt) (DC:=False) (λz=>z.elim) M ht ok nd k1 (hI _ _ k1) (λX' M' e1 e2=>hT X' M' _ (by rw[e1,e2]; exact k2)) (λX' M' e1 e2=>hE X' M' _ (by rw[e1,e2]; exact k3)) I S.toVR g1 ?_) (λ_ s' hq=>wpAny_pure (wpAny_pure hq)) λ_ _ z=>z)
 intro D' Bf vs G H' s' I' ⟨m,nsB⟩ fB sm hD hD' rr cG _
 obtain⟨b0,b1,b2,b3,b4,b5⟩:=fB
 show wpAny (model X.prog X.w) X.A (assign (.Name x pos') X.env (.ref D')) _ X.xe s'
 refine wpAny_assign_Name (store_ok2 I' M.nd h1 h2 (v:=.ref D') rfl (λs'' I'' ⟨a,sb,ha⟩=>⟨m,?_,λh' sb'=>?_⟩) (.inl hfn))
 ·refine nsB.sameBut sb ?_
  rintro rfl
  rcases ha with z | z
  ·exact b1 z
  ·exact b4 _ _ z rfl
 ·have I2:Inv X pins (σ.set i (some (.ref D'))) H' { s'' with heap:=h' }:=I''.turned (t':=s''.toks) (λb o hb e=>sb'.extBut b o hb e) b0 b1 b3 b4 b5
  refine⟨_,H',I2,k _ _ _ (S.give (F:=D'::G) (by rw[I.len]; exact(List.getElem?_eq_some_iff.mp h1).1) sm ⟨D',vs,G,rfl,rr,.inl ⟨hD',rfl⟩⟩ (Src.new hD cG) (λ_ ds _=>⟨D',G,rfl,hD⟩))⟩
end
section
variable (T:Tab) (n:Nat)
structure LamAt (X:Cx) (c P:Addr):Prop where
 code:X.env.code=.ref c
 hd:PySem.W.codeHdIn X.K c P=true
 ne:mainGlobals ≠ P
 bt:X.base.BuiltinsAt X.mg P
def LamX (n:Nat) (X:Cx):Prop:=Room (2*n+4+1) X.A/\∃ c P,LamAt X c P/\∃ more,X.H₀ P=some (.tbl (#[.str (X.env.qual++("<lambda>" : Str)) 0]++more))
def KS (T:Tab) (n:Nat) (X:Cx):Prop:=∀ mx e b st,isS (.retK mx e b) X.env.scope X.N st=true->PS X st (tS X.K (run T n) (.retK mx e b))
structure Df (X:Cx):Prop where
 fn:∀ x,X.fn x=true
 stk:X.stack=X.env::X.outer
 frm:X.env.frame=some X.env.locals
structure RaiseOk (X:Cx) (W:Xl->Hp->Prop):Prop where
 mr:∀ pins σ H s h' e Ca c oe vs,X.mg c=some (.ref Ca)->Inv X pins σ H s->(∀ b o,s.heap.get? b=some o->h'.get? b=some o)->s.heap.get? e=none->h'.get? e=some oe->oe.cls=.ref Ca->oe.dict=none->oe.data=.fields vs->vs[1]?=some .none->W (c,none) H->X.xe (.ref e) { s with heap:=h' }
 mkI:∀ pins σ H s s' e t dx Ca c v u d,X.mg c=some (.ref Ca)->Inv X pins σ H s->s'.os=s.os->AllBare s'.gens->Un (frs X.stack) [] H H s.heap s'.heap->HOk X.prog X.w H s'.heap->s.heap.get? e=none->s'.heap.get? e=some { cls:=.ref Ca,dict:=some dx,data:=.fields #[.ref t,.none,.none,.none,.bool false,.none] }->RelV v u ->
  s'.heap.Ns1 dx (λy=>if y = "at" then some u else none)->s.heap.get? dx=none->Rep X.K H d v []->(∀ H',Same H H'->W (c,some d) H')->X.xe (.ref e) s'
 po:∀ hd,PassesOwnAt (model X.prog X.w) (X.A.mark hd) X.A X.env X.xe
 pw:PassesOwn (model X.prog X.w) X.A X.env X.xe
def tX (K:Frag) (C:Str->List D->R D) (a:Sm) (W:Xl->Hp->Prop):TS:=λ_ σ H=>∃ B Al ρ Fs c,SR K B Al H σ ρ Fs/\xm C a ρ=some c/\∀ H',Same B H'->W c H'
def tXs (K:Frag) (C:Str->List D->R D) (a:Sms) (W:Xl->Hp->Prop):TS:=λ_ σ H=>∃ B Al ρ Fs c,SR K B Al H σ ρ Fs/\xs C a ρ=some c/\∀ H',Same B H'->W c H'
theorem PS_nox {X:Cx} {st:Stmt} {t:TS} (h:PS X.nox st t):PS X st t:=λpins s σ H D I hw=>
 wpAny_mono (h pins s σ H D (I.wish _) hw) (λ_ _ q=>q.unwish) λ_ _ z=>False.elim z
mutual
theorem tryB_K:∀ {a:Sm},tryB a=true->hasK a=false
 | .exp _,_=>rfl
 | .ife _ a b,h=>by
  have h':(tryBs a&&tryBs b)=true:=h
  rw[Bool.and_eq_true] at h'
  show (hasKs a||hasKs b)=false
  rw[tryBs_K h'.1,tryBs_K h'.2]
  rfl
 | .asg _ _,_=>rfl
 | .unp _ _ _,h=>by cases h
 | .app _ _,h=>by cases h
 | .set _ _ _,h=>by cases h
 | .ret _,h=>by cases h
 | .for1 _ _ _,h=>by cases h
 | .for2 _ _ _ _,h=>by cases h
 | .whl _ _,h=>by cases h
 | .retK _ _ _,h=>by cases h
 | .asgD _ _ _ _,h=>by cases h
 | .pop0 _ _ _,h=>by cases h
 | .asgN _ _,h=>by cases h
 | .rse _,h=>by cases h
 | .rsI _ _,h=>by cases h
 | .dcl _ _ _ _,h=>by cases h
 | .appX _ _,h=>by cases h
 | .tryN _ _ _,h=>by cases h
 | .tryH _ _ _ _ _ _,h=>by cases h
 | .bad,h=>by cases h
theorem tryBs_K:∀ {a:Sms},tryBs a=true->hasKs a=false
 | .nil,_=>rfl
 | .cons a r,h=>by
  have h':(tryB a&&tryBs r)=true:=h
  rw[Bool.and_eq_true] at h'
  show (hasK a||hasKs r)=false
  rw[tryB_K h'.1,tryBs_K h'.2]
  rfl
end
theorem sXE (hs:∀ X,Md T n X->CallR X (.builtin "sorted") (rB X.K .sorted)) {W:Xl->Hp->Prop}:∀ (p:Ex) (X:Cx),Md T n X->Passes (CXx X.prog X.w) X (EW X.K X.mg W)->∀ e,isE p X.env.scope X.N e=true->PE X e (tEX X.K (run T n) p W)
 | .call f as,X,M,hP,e,h=>s_callX M hP h λes z=>sA T n hs as X M es z
 | .b1 .len a,X,M,hP,e,h=>by
  obtain⟨_,_,_,_,rfl,h'⟩:=iv_b1 h
  simp only[Bool.and_eq_true,beq_iff_eq] at h'
  obtain⟨⟨rfl,h2⟩,h3⟩:=h'
  have hx:=plain_of h3
  have hd:b1N .len ∈ blts:=by decide +kernel
  exact pm (pe_callB c_len (gl_of h2) (M.blt _ hd) PySem.boot_len (pa_cons (sXE hs a X M hP _ h3) pa_nil (star_of hx _ _)) (by decide +kernel) (by decide +kernel) (star_of hx _ _) rfl) λσ H Q h=>h
 | .op o a b,X,M,hP,e,h=>by
  unfold isE at h
  split at h
  ·simp only[Bool.and_eq_true,beq_iff_eq] at h
   exact pm (pe_op (o_bin h.1.1) (sXE hs a X M hP _ h.1.2) (sB T n hs b X M _ h.2).1) λσ H Q h=>h
  ·simp only[Bool.and_eq_true,beq_iff_eq] at h
   exact pm (pe_cmpR (o_cmp M.hu h.1.1) (sXE hs a X M hP _ h.1.2) (sB T n hs b X M _ h.2).1 (behind_of (plain_of h.2) _)) λσ H Q h=>h
  ·cases h
 | .var _,X,M,hP,e,h=>λ_ _ _ _ _ _ ⟨_,_,_,_,z,_⟩=>by cases z
 | .int _,X,M,hP,e,h=>λ_ _ _ _ _ _ ⟨_,_,_,_,z,_⟩=>by cases z
 | .bl _,X,M,hP,e,h=>λ_ _ _ _ _ _ ⟨_,_,_,_,z,_⟩=>by cases z
 | .non,X,M,hP,e,h=>λ_ _ _ _ _ _ ⟨_,_,_,_,z,_⟩=>by cases z
 | .str _,X,M,hP,e,h=>λ_ _ _ _ _ _ ⟨_,_,_,_,z,_⟩=>by cases z
 | .chn _ _ _ _ _,X,M,hP,e,h=>λ_ _ _ _ _ _ ⟨_,_,_,_,z,_⟩=>by cases z
 | .isn _ _,X,M,hP,e,h=>λ_ _ _ _ _ _ ⟨_,_,_,_,z,_⟩=>by cases z
 | .ist _,X,M,hP,e,h=>λ_ _ _ _ _ _ ⟨_,_,_,_,z,_⟩=>by cases z
 | .and _ _,X,M,hP,e,h=>λ_ _ _ _ _ _ ⟨_,_,_,_,z,_⟩=>by cases z
 | .or _ _,X,M,hP,e,h=>λ_ _ _ _ _ _ ⟨_,_,_,_,z,_⟩=>by cases z
 | .not _,X,M,hP,e,h=>λ_ _ _ _ _ _ ⟨_,_,_,_,z,_⟩=>by cases z
 | .ife _ _ _,X,M,hP,e,h=>λ_ _ _ _ _ _ ⟨_,_,_,_,z,_⟩=>by cases z
 | .b1 .tuple _,X,M,hP,e,h=>λ_ _ _ _ _ _ ⟨_,_,_,_,z,_⟩=>by cases z
 | .b1 .list _,X,M,hP,e,h=>λ_ _ _ _ _ _ ⟨_,_,_,_,z,_⟩=>by cases z
 | .b1 .sorted _,X,M,hP,e,h=>λ_ _ _ _ _ _ ⟨_,_,_,_,z,_⟩=>by cases z
 | .b1 .int _,X,M,hP,e,h=>λ_ _ _ _ _ _ ⟨_,_,_,_,z,_⟩=>by cases z
 | .b1 .any _,X,M,hP,e,h=>λ_ _ _ _ _ _ ⟨_,_,_,_,z,_⟩=>by cases z
 | .b1 .all _,X,M,hP,e,h=>λ_ _ _ _ _ _ ⟨_,_,_,_,z,_⟩=>by cases z
 | .ins _ _,X,M,hP,e,h=>λ_ _ _ _ _ _ ⟨_,_,_,_,z,_⟩=>by cases z
 | .idx _ _,X,M,hP,e,h=>λ_ _ _ _ _ _ ⟨_,_,_,_,z,_⟩=>by cases z
 | .slc _ _ _,X,M,hP,e,h=>λ_ _ _ _ _ _ ⟨_,_,_,_,z,_⟩=>by cases z
 | .m1 _ _ _,X,M,hP,e,h=>λ_ _ _ _ _ _ ⟨_,_,_,_,z,_⟩=>by cases z
 | .tup _,X,M,hP,e,h=>λ_ _ _ _ _ _ ⟨_,_,_,_,z,_⟩=>by cases z
 | .lst _,X,M,hP,e,h=>λ_ _ _ _ _ _ ⟨_,_,_,_,z,_⟩=>by cases z
 | .comp _ _ _ _,X,M,hP,e,h=>λ_ _ _ _ _ _ ⟨_,_,_,_,z,_⟩=>by cases z
 | .rep _ _,X,M,hP,e,h=>λ_ _ _ _ _ _ ⟨_,_,_,_,z,_⟩=>by cases z
 | .rngL _ _,X,M,hP,e,h=>λ_ _ _ _ _ _ ⟨_,_,_,_,z,_⟩=>by cases z
 | .cst _,X,M,hP,e,h=>λ_ _ _ _ _ _ ⟨_,_,_,_,z,_⟩=>by cases z
 | .dix _ _,X,M,hP,e,h=>λ_ _ _ _ _ _ ⟨_,_,_,_,z,_⟩=>by cases z
 | .cald _ _ _,X,M,hP,e,h=>λ_ _ _ _ _ _ ⟨_,_,_,_,z,_⟩=>by cases z
 | .sset _,X,M,hP,e,h=>λ_ _ _ _ _ _ ⟨_,_,_,_,z,_⟩=>by cases z
theorem xE_cmp {C:Str->List D->R D} {p:Ex} {ρ:Env} {c:Xl} (h:xE C p ρ=some c):noCmp p=true:=by
 cases p <;> first | rfl | cases h
theorem tryXH {X:Cx} (hfn:Df X) {i:Nat} {n' xF:Str} {CF:Addr} (Z:Hn X i n' xF CF) (M:Md T n X) {pins:List (Addr × Obj)} {σ:L2.St} {H:Hp} {s:Shared} (I:Inv X pins σ H s)
  {B:Hp} {Al:Addr->Prop} {ρ:Env} {Fs:Nat->List Addr} (S:SR X.K B Al H σ ρ Fs) {Dn:Ends} {fl:Fl} (k:FQ X.K B Al (λ_=>false) fl Dn) {b:Sms} {body:List Stmt} {l:Xl} {us:List Str} {hs:List Hm} {b₀:Stmt} {hb:List Stmt} (eF:xF = "FairError") (hl:l.1 ∈ us) (hu:∀ c ∈ us,c ∈ xnT T)
  (hk1:hs.all okH=true) (hk2:hs.all (Hj i)=true) (hk3:isHs n' X.env.scope X.N hs (b₀::hb)=true) (hx:exH l hs (List.replicate ρ.length none)=.ok fl)
  (hbd:∀ (pn:List (Addr × Obj)) (xe:Value->Shared->Prop),Passes (CXx X.prog X.w) { X with pn:=pn,xe:=xe } (EW X.K X.mg λc H'=>c=l/\Same B H')->PSs { X with pn:=pn,xe:=xe } body (tXs X.K (run T n) b λc H'=>c=l/\Same B H'))
  (e:xs (run T n) b ρ=some l) {p0 hp tp:Pos} :
  wpAny (model X.prog X.w) X.A (exec (.Try body [.ExceptHandler (some (.Name xF p0)) (some n') (b₀::hb) hp] [] [] tp) X.env) (SP X pins Dn) X.xe s:=by
 refine try_raise I (E:=EW X.K X.mg λc H'=>c=l/\Same B H') (λσ2 H2 s2 e s' I2 h2=>caughtG Z I2 h2 λv dx H1 hE=>?_) hbd ⟨B,Al,ρ,Fs,l,S,e,λH' sm=>⟨rfl,sm⟩⟩
 obtain⟨c',mc,xd,rfl,sm⟩:=hE
 obtain⟨CK,CF',c1,c2,c3,c4,c5,c6,c7,c8⟩:=(M.xc _ (hu _ hl)).ex
 have hv:v=.ref CK:=Option.some.inj (mc.symm.trans c1)
 subst eF
 have hCF:CF'=CF:=by
  have z:=c2.symm.trans Z.mF
  cases z
  rfl
 subst hCF
 refine⟨CK,hv,c4,λa oe va hc hdx hda=>⟨tH X.K i a c' oe hs,hsS Z hfn.fn hc hda c7 hk3 hk2 (λh hh=>?_),?_⟩⟩
 ·have hok:=List.all_eq_true.mp hk1 h hh
  cases h with
  | ists j cs=>exact kb_of (c:=c'.1) rfl c6 c5 c8 hok
  | cat j cs=>exact kb_of (c:=c'.1) rfl c6 c5 c8 hok
  | rets cs=>exact kb_of (c:=c'.1) rfl c6 c5 c8 hok
  | atI j k=>exact λk hk=>nomatch hk
 ·have li:i < σ2.length:=by
   rw[I2.len]
   exact(List.getElem?_eq_some_iff.mp Z.at').1
  have ls:σ2.length=ρ.length:=by rw[I2.len,<- I.len]; exact S.len
  have no:∀ p:D × Bool,(List.replicate ρ.length (none:Option (D × Bool)))[i]? ≠ some (some p):=λp z=>by
   rw[List.getElem?_replicate] at z
   split at z <;> cases z
  refine⟨B,Al,_,_,fl,SR.lost (by rw[List.length_set]; exact ls) sm S.fr,⟨by simp[li],by rw[hdx]; exact xd⟩,hx,?_⟩
  cases fl with
  | nx ρ'=>exact λσ' H' Fs' S'=>k _ _ _ (S'.unk (exH_i hk2 no hx))
  | rt d=>exact k
mutual
theorem sS (hs:∀ X,Md T n X->CallR X (.builtin "sorted") (rB X.K .sorted)):∀ (a:Sm) (X:Cx),Md T n X->Df X->PassesOwn (model X.prog X.w) X.A X.env X.xe->(hasK a=true->KS T n X)->okD T a=true->∀ st,isS a X.env.scope X.N st=true->PS X st (tS X.K (run T n) a)
 | .asg i e,X,M,hfn,hpo,hk,hd,st,h=>by
  unfold isS at h
  split at h
  ·rename_i x px v pos
   rw[Bool.and_eq_true] at h
   obtain⟨h1,h2⟩:=h
   by_cases hc:notComp v=true
   ·exact ss_asg M.nd (hfn.fn x) h1 (noswap hc _ _ _) (sB T n hs e X M v h2).1
   ·have he:∃ two elt it ifs,e=.comp two elt it ifs:=by
     cases e with
     | comp two elt it ifs=>exact⟨two,elt,it,ifs,rfl⟩
     | _=>exact absurd (notComp_of h2 rfl) hc
    obtain⟨two,elt,it,ifs,rfl⟩:=he
    obtain⟨elt',tg,iter,ifs',isc,cpos,xs,rfl,_⟩:=comp_is h2
    have hsw:∃ b,swapsWith (.ListComp elt' [⟨tg,iter,ifs',0⟩] isc cpos) (some (.Name x px)) pos.line X.env=pure b:=⟨_,rfl⟩
    obtain⟨b,hsw⟩:=hsw
    cases b with
    | false=>exact ss_asg M.nd (hfn.fn x) h1 hsw (sB T n hs _ X M _ h2).1
    | true=>exact ss_asgC M (hfn.fn x) h1 h2 hsw (λtg e z=>sI T n hs it X M tg e z) (λX' M' es z=>sTs T n hs ifs X' M' es z) (λX' M' e z=>(sB T n hs elt X' M' e z).1)
  ·cases h
 | .unp _ _ _,X,M,hfn,hpo,hk,hd,st,h=>by cases hd
 | .app i e,X,M,hfn,hpo,hk,hd,st,h=>by
  unfold isS at h
  cases hq:gApp st with
  | some q=>
   rw[hq] at h
   simp only[Bool.and_eq_true,beq_iff_eq] at h
   obtain⟨⟨⟨h1,h2⟩,h3⟩,h4⟩:=h
   rw[gApp_of hq,h2]
   exact ss_app h3 (by rw[h1]; exact beq_self_eq_true _) (plain_of h4) (sB T n hs e X M _ h4).1
  | none=>rw[hq] at h; cases h
 | .set i k v,X,M,hfn,hpo,hk,hd,st,h=>by
  unfold isS at h
  cases hq:gSet st with
  | some q=>
   rw[hq] at h
   simp only[Bool.and_eq_true] at h
   obtain⟨⟨⟨h1,h2⟩,h3⟩,h4⟩:=h
   rw[gSet_of hq]
   exact ss_set h1 (notComp_of h3 h4) (plain_of h2) (sB T n hs k X M _ h2).1 (sB T n hs v X M _ h3).1
  | none=>rw[hq] at h; cases h
 | .exp e,X,M,hfn,hpo,hk,hd,st,h=>by
  unfold isS at h
  split at h
  ·rw[Bool.and_eq_true] at h
   exact ss_exp (notComp_of h.1 h.2) (sB T n hs e X M _ h.1).1
  ·cases h
 | .ret e,X,M,hfn,hpo,hk,hd,st,h=>by
  unfold isS at h
  split at h
  ·exact ss_ret (sB T n hs e X M _ h).1
  ·cases h
 | .ife c a b,X,M,hfn,hpo,hk,hd,st,h=>by
  unfold isS at h
  split at h
  ·simp only[Bool.and_eq_true] at h
   obtain⟨⟨⟨h1,h2⟩,h3⟩,h4⟩:=h
   exact ss_if ((sB T n hs c X M _ h2).2 h1).1 (sSs hs a X M hfn hpo (λz=>hk (by show (hasKs a||hasKs b)=true; rw[z]; rfl)) (Bool.and_eq_true_iff.mp hd).1 _ h3) (sSs hs b X M hfn hpo (λz=>hk (by show (hasKs a||hasKs b)=true; rw[z,Bool.or_true])) (Bool.and_eq_true_iff.mp hd).2 _ h4)
  ·cases h
 | .for1 i it b,X,M,hfn,hpo,hk,hd,st,h=>by
  unfold isS at h
  split at h
  ·simp only[Bool.and_eq_true] at h
   obtain⟨⟨h1,h2⟩,h3⟩:=h
   exact ss_for1 hpo M.calm M.nd (hfn.fn _) h1 (plainI_of h2) (sI T n hs it X M _ _ h2) (sSs hs b X M hfn hpo (λz=>hk z) hd _ h3)
  ·cases h
 | .for2 i j it b,X,M,hfn,hpo,hk,hd,st,h=>by
  unfold isS at h
  cases hq:gFor2 st with
  | some q=>
   rw[hq] at h
   simp only[Bool.and_eq_true] at h
   obtain⟨⟨⟨h1,h2⟩,h3⟩,h4⟩:=h
   rw[gFor2_of hq]
   exact ss_for2 hpo M.calm M.nd (hfn.fn _) (hfn.fn _) h1 h2 (plainI_of h3) (sI T n hs it X M _ _ h3) (sSs hs b X M hfn hpo (λz=>hk z) hd _ h4)
  | none=>rw[hq] at h; cases h
 | .whl c b,X,M,hfn,hpo,hk,hd,st,h=>by
  unfold isS at h
  split at h
  ·simp only[Bool.and_eq_true] at h
   obtain⟨⟨h1,h2⟩,h3⟩:=h
   exact ss_while hpo ((sB T n hs c X M _ h2).2 h1).1 (sSs hs b X M hfn hpo (λz=>hk z) hd _ h3)
  ·cases h
 | .retK mx e b,X,M,hfn,hpo,hk,hd,st,h=>hk rfl mx e b st h
 | .asgD _ _ _ _,X,M,hfn,hpo,hk,hd,st,h=>by cases hd
 | .pop0 _ _ _,X,M,hfn,hpo,hk,hd,st,h=>by cases hd
 | .asgN _ _,X,M,hfn,hpo,hk,hd,st,h=>by cases hd
 | .rse _,X,M,hfn,hpo,hk,hd,st,h=>by
  intro pins s σ H Dn I q
  obtain⟨B,Al,ρ,Fs,fl,S,hx,k⟩:=q
  simp only[exm] at hx
  cases hx
 | .dcl _ _ _ _,X,M,hfn,hpo,hk,hd,st,h=>by unfold isS at h; cases h
 | .appX i e,X,M,hfn,hpo,hk,hd,st,h=>by
  unfold isS at h
  cases hq:gApp st with
  | some q=>
   rw[hq] at h
   simp only[Bool.and_eq_true,beq_iff_eq] at h
   obtain⟨⟨⟨h1,h2⟩,h3⟩,h4⟩:=h
   rw[gApp_of hq,h2]
   exact ss_appX h3 (by rw[h1]; exact beq_self_eq_true _) (plain_of h4) (sB T n hs e X M _ h4).1
  | none=>rw[hq] at h; cases h
 | .rsI _ _,X,M,hfn,hpo,hk,hd,st,h=>by
  intro pins s σ H Dn I q
  obtain⟨B,Al,ρ,Fs,fl,S,hx,k⟩:=q
  simp only[exm] at hx
  cases hx
 | .tryN _ _ _,X,M,hfn,hpo,hk,hd,st,h=>by cases hd
 | .tryH b i n' xF us hms,X,M,hfn,hpo,hk,hd,st,h=>by
  unfold isS at h
  cases hq:gTryH st with
  | none=>rw[hq] at h; cases h
  | some q=>
   rw[hq] at h
   simp only[Bool.and_eq_true,beq_iff_eq] at h
   obtain⟨⟨⟨⟨⟨⟨⟨⟨⟨⟨⟨⟨h1,h2⟩,h3⟩,h4⟩,h5⟩,h6⟩,h7⟩,h8⟩,h9⟩,h10⟩,h11⟩,h12⟩,h13⟩:=h
   have hd':(xF==("FairError" : Str)&&us.all (λc=>(xnT T).contains c)&&okDs T b&&tryBs b&&hms.all okH)=true:=hd
   simp only[Bool.and_eq_true,beq_iff_eq] at hd'
   obtain⟨⟨⟨⟨d1,d2⟩,d3⟩,d4⟩,d5⟩:=hd'
   have hu:∀ c ∈ us,c ∈ xnT T:=λc hc=>by simpa using List.all_eq_true.mp d2 c hc
   have nK:=tryBs_K d4
   have hne:∃ b₀ hb,q.hb=b₀::hb:=by
    cases e:q.hb with
    | cons b₀ hb=>exact⟨b₀,hb,rfl⟩
    | nil=>
     rw[e] at h12
     cases hms with
     | nil=>cases h10
     | cons h hs=>simp[isHs] at h12
   obtain⟨b₀,hb,ehb⟩:=hne
   rw[ehb] at h12
   rw[gTryH_of hq,ehb,<- h1,<- h6]
   intro pins s σ H Dn I qq
   obtain⟨B,Al,ρ,Fs,fl,S,hx,k⟩:=qq
   simp only[exm] at hx
   have k':FQ X.K B Al (λ_=>false) fl Dn:=k.of λ_ z=>by cases z
   have go:∀ l,xs (run T n) b ρ=some l->us.contains l.1=true->exH l hms (List.replicate ρ.length none)=.ok fl->wpAny (model X.prog X.w) X.A (exec (.Try q.b [.ExceptHandler (some (.Name xF q.p0)) (some n') (b₀::hb) q.hp] [] [] q.tp) X.env) (SP X pins Dn) X.xe s:=λl e2 el ex=>by
    have hl:l.1 ∈ us:=by simpa using el
    obtain⟨CK,CF,c1,c2,_⟩:=(M.xc _ (hu _ hl)).ex
    have Z:Hn X i n' xF CF:=⟨M.nd,h2,h3,h4,h5,gl_of h7,h8,by rw[d1]; exact c2,gl_of h9,M.blt _ (by decide +kernel),hfn.stk,hfn.frm⟩
    exact tryXH T n hfn Z M I S k' d1 hl hu d5 h11 h12 ex (λpn xe hP=>xSs hs b { X with pn:=pn,xe:=xe } { M with } { hfn with } (λz=>by rw[nK] at z; cases z) d3 _ hP (.inl d4) _ h13) e2
   cases e1:exs (run T n) b ρ with
   | ok fl'=>
    rw[e1] at hx
    cases hx
    exact try_ok (sSs hs b X.nox { M with } { hfn with } PassesOwn.never (λz=>by rw[nK] at z; cases z) d3 _ h13) pins s σ H Dn I ⟨B,Al,ρ,Fs,fl,S,e1,k.of λ_ z=>by cases z⟩
   | xn _ _=>
    rw[e1] at hx
    simp only at hx
    cases e2:xs (run T n) b ρ with
    | none=>rw[e2] at hx; cases hx
    | some l=>
     rw[e2] at hx
     simp only at hx
     split at hx
     ·rename_i el
      exact go l e2 el hx
     ·cases hx
   | un=>
    rw[e1] at hx
    simp only at hx
    cases e2:xs (run T n) b ρ with
    | none=>rw[e2] at hx; cases hx
    | some l=>
     rw[e2] at hx
     simp only at hx
     split at hx
     ·rename_i el
      exact go l e2 el hx
     ·cases hx
 | .bad,X,M,hfn,hpo,hk,hd,st,h=>by
  intro pins s σ H Dn I q
  obtain⟨B,Al,ρ,Fs,fl,S,hx,k⟩:=q
  simp only[exm] at hx
  cases hx
theorem sSs (hs:∀ X,Md T n X->CallR X (.builtin "sorted") (rB X.K .sorted)):∀ (a:Sms) (X:Cx),Md T n X->Df X->PassesOwn (model X.prog X.w) X.A X.env X.xe->(hasKs a=true->KS T n X)->okDs T a=true->∀ sts,isSs a X.env.scope X.N sts=true->PSs X sts (tSs X.K (run T n) a)
 | .nil,X,M,hfn,hpo,hk,hd,sts,h=>by
  unfold isSs at h
  split at h
  ·exact ss_nil
  ·cases h
 | .cons a r,X,M,hfn,hpo,hk,hd,sts,h=>by
  unfold isSs at h
  split at h
  ·rename_i x0 xs0
   rcases Bool.or_eq_true_iff.mp h with h | h
   case inr=>
    split at h
    ·rename_i y0 ys0
     rw[Bool.and_eq_true] at h
     cases a with
     | dcl i j it e=>
      have hr:=sSs hs r X M hfn hpo (λz=>hk (by show (hasK _||hasKs r)=true; rw[z,Bool.or_true])) (Bool.and_eq_true_iff.mp hd).2 _ h.2
      refine ssm (ss_dclG (C:=run T n) M.calm M.nd hpo hfn.fn h.1 (λtg e' z=>sI T n hs it X M tg e' z) (λe' z=>(sB T n hs e X M e' z).1) hr) λD σ H q=>?_
      obtain⟨B,Al,ρ,Fs,fl,S,hx,k⟩:=q
      simp only[exs] at hx
      obtain⟨z,h1,hx⟩:=R.bind_eq_ok hx
      cases z with
      | nx ρ'=>exact⟨B,Al,ρ,Fs,ρ',S,h1,λσ' H' Fs' S'=>⟨B,Al,ρ',Fs',fl,S',hx,k.of λm w=>by rw[show allFs (.cons (.dcl i j it e) r) m=(allF (.dcl i j it e) m&&allFs r m) from rfl,Bool.and_eq_true] at w; exact w.2⟩⟩
      | rt d=>
       simp only[exm] at h1
       obtain⟨_,_,h1⟩:=R.bind_eq_ok h1
       obtain⟨_,_,h1⟩:=R.bind_eq_ok h1
       cases h1
     | _=>cases h.1
    ·cases h
   rw[Bool.and_eq_true] at h
   exact ss_cons (sS hs a X M hfn hpo (λz=>hk (by show (hasK a||hasKs r)=true; rw[z]; rfl)) (Bool.and_eq_true_iff.mp hd).1 _ h.1) (sSs hs r X M hfn hpo (λz=>hk (by show (hasK a||hasKs r)=true; rw[z,Bool.or_true])) (Bool.and_eq_true_iff.mp hd).2 _ h.2)
  ·cases h
theorem xS (hs:∀ X,Md T n X->CallR X (.builtin "sorted") (rB X.K .sorted)):∀ (a:Sm) (X:Cx),Md T n X->Df X->(hasK a=true->KS T n X.nox)->okD T a=true->∀ W,Passes (CXx X.prog X.w) X (EW X.K X.mg W)->(tryB a=true\/RaiseOk X W)->∀ st,isS a X.env.scope X.N st=true->PS X st (tX X.K (run T n) a W)
 | .rse c,X,M,hfn,hk,hd,W,hP,hR,st,h=>by
  unfold isS at h
  cases hq:gRse st with
  | none=>rw[hq] at h; cases h
  | some q=>
   rw[hq] at h
   simp only[Bool.and_eq_true,beq_iff_eq] at h
   obtain⟨⟨h1,h2⟩,h3⟩:=h
   have hd':((xnT T).contains c&&!(c==("BadFair" : Str)))=true:=hd
   rw[Bool.and_eq_true,Bool.not_eq_true',beq_eq_false_iff_ne] at hd'
   obtain⟨C,CF,c1,c2,c3,_⟩:=(M.xc c (by simpa using hd'.1)).ex
   have hR':RaiseOk X W:=hR.elim (λz=>by cases z) id
   rw[gRse_of hq]
   rw[<- h1] at h2 h3 |-
   exact sm' (ps_raise (W:=λH=>W (c,none) H) (c3.1 hd'.2) (gl_of h2) h3 M.calm λpins σ H s h' e vs I mk hw=>by
    obtain⟨t,he,_,_⟩:=mk.there
    exact hR'.mr pins σ H s h' e C c _ _ c1 I mk.keeps mk.new he rfl rfl rfl rfl hw) λD σ H h=>by
    obtain⟨B,Al,ρ,Fs,c',S,hx,k⟩:=h
    cases hx
    exact k H S.same
 | .rsI _ _,X,M,hfn,hk,hd,W,hP,hR,st,h=>by cases hd
 | .tryN _ _ _,X,M,hfn,hk,hd,W,hP,hR,st,h=>by cases hd
 | .asg i e,X,M,hfn,hk,hd,W,hP,hR,st,h=>by
  unfold isS at h
  split at h
  ·rename_i x px v pos
   rw[Bool.and_eq_true] at h
   obtain⟨p1,p2⟩:=put_of h.1
   intro pins s σ H D I q
   obtain⟨B,Al,ρ,Fs,c,S,hx,k⟩:=q
   exact ps_set M.nd p1 p2 (sXE T n hs e X M hP _ h.2) (noswap (notComp_of h.2 (xE_cmp hx)) _ _ _) (.inl (hfn.fn _)) pins s σ H D I (show tEX X.K (run T n) e W σ H (λ_ _=>True) from ⟨ρ,Fs,c,S.toVR,hx,λH' s=>k H' (S.same.trans s)⟩)
  ·cases h
 | .exp e,X,M,hfn,hk,hd,W,hP,hR,st,h=>by
  unfold isS at h
  split at h
  ·rw[Bool.and_eq_true] at h
   exact sm' (ps_expr (sXE T n hs e X M hP _ h.1) (noswap (notComp_of h.1 h.2) _ _ _)) λD σ H h=>by
    obtain⟨B,Al,ρ,Fs,c,S,hx,k⟩:=h
    exact⟨ρ,Fs,c,S.toVR,hx,λH' s=>k H' (S.same.trans s)⟩
  ·cases h
 | .ret e,X,M,hfn,hk,hd,W,hP,hR,st,h=>by
  unfold isS at h
  split at h
  ·exact sm' (ps_ret (sXE T n hs e X M hP _ h)) λD σ H h=>by
    obtain⟨B,Al,ρ,Fs,c,S,hx,k⟩:=h
    exact⟨ρ,Fs,c,S.toVR,hx,λH' s=>k H' (S.same.trans s)⟩
  ·cases h
 | .ife c a b,X,M,hfn,hk,hd,W,hP,hR,st,h=>by
  unfold isS at h
  split at h
  ·simp only[Bool.and_eq_true] at h
   obtain⟨⟨⟨h1,h2⟩,h3⟩,h4⟩:=h
   have hRa:tryBs a=true\/RaiseOk X W:=hR.imp (λz=>(Bool.and_eq_true_iff.mp z).1) id
   have hRb:tryBs b=true\/RaiseOk X W:=hR.imp (λz=>(Bool.and_eq_true_iff.mp z).2) id
   exact sm' (ps_if ((sB T n hs c X M _ h2).2 h1).1 (xSs hs a X M hfn (λz=>hk (by show (hasKs a||hasKs b)=true; rw[z]; rfl)) (Bool.and_eq_true_iff.mp hd).1 W hP hRa _ h3) (xSs hs b X M hfn (λz=>hk (by show (hasKs a||hasKs b)=true; rw[z,Bool.or_true])) (Bool.and_eq_true_iff.mp hd).2 W hP hRb _ h4)) λD σ H h=>by
    obtain⟨B,Al,ρ,Fs,cc,S,hx,k⟩:=h
    have hx':(match tst (run T n) c ρ with | .ok k=>(if k then xs (run T n) a ρ else xs (run T n) b ρ) | _=>none)=some cc:=hx
    cases e1:tst (run T n) c ρ with
    | ok kk=>
     rw[e1] at hx'
     simp only at hx'
     refine⟨ρ,Fs,kk,S.toVR,e1,λH1 s1=>?_⟩
     cases kk with
     | true=>rw[if_pos rfl] at hx' |-; exact⟨B,Al,ρ,Fs,cc,S.more s1,hx',k⟩
     | false=>rw[if_neg Bool.false_ne_true] at hx' |-; exact⟨B,Al,ρ,Fs,cc,S.more s1,hx',k⟩
    | xn _ _=>rw[e1] at hx'; cases hx'
    | un=>rw[e1] at hx'; cases hx'
  ·cases h
 | .unp _ _ _,X,M,hfn,hk,hd,W,hP,hR,st,h=>λ_ _ _ _ _ _ ⟨_,_,_,_,_,_,z,_⟩=>by cases z
 | .app _ _,X,M,hfn,hk,hd,W,hP,hR,st,h=>λ_ _ _ _ _ _ ⟨_,_,_,_,_,_,z,_⟩=>by cases z
 | .set _ _ _,X,M,hfn,hk,hd,W,hP,hR,st,h=>λ_ _ _ _ _ _ ⟨_,_,_,_,_,_,z,_⟩=>by cases z
 | .for1 _ _ _,X,M,hfn,hk,hd,W,hP,hR,st,h=>λ_ _ _ _ _ _ ⟨_,_,_,_,_,_,z,_⟩=>by cases z
 | .for2 _ _ _ _,X,M,hfn,hk,hd,W,hP,hR,st,h=>λ_ _ _ _ _ _ ⟨_,_,_,_,_,_,z,_⟩=>by cases z
 | .dcl _ _ _ _,X,M,hfn,hk,hd,W,hP,hR,st,h=>λ_ _ _ _ _ _ ⟨_,_,_,_,_,_,z,_⟩=>by cases z
 | .appX _ _,X,M,hfn,hk,hd,W,hP,hR,st,h=>λ_ _ _ _ _ _ ⟨_,_,_,_,_,_,z,_⟩=>by cases z
 | .whl _ _,X,M,hfn,hk,hd,W,hP,hR,st,h=>λ_ _ _ _ _ _ ⟨_,_,_,_,_,_,z,_⟩=>by cases z
 | .retK _ _ _,X,M,hfn,hk,hd,W,hP,hR,st,h=>λ_ _ _ _ _ _ ⟨_,_,_,_,_,_,z,_⟩=>by cases z
 | .asgD _ _ _ _,X,M,hfn,hk,hd,W,hP,hR,st,h=>λ_ _ _ _ _ _ ⟨_,_,_,_,_,_,z,_⟩=>by cases z
 | .pop0 _ _ _,X,M,hfn,hk,hd,W,hP,hR,st,h=>λ_ _ _ _ _ _ ⟨_,_,_,_,_,_,z,_⟩=>by cases z
 | .asgN _ _,X,M,hfn,hk,hd,W,hP,hR,st,h=>λ_ _ _ _ _ _ ⟨_,_,_,_,_,_,z,_⟩=>by cases z
 | .tryH _ _ _ _ _ _,X,M,hfn,hk,hd,W,hP,hR,st,h=>λ_ _ _ _ _ _ ⟨_,_,_,_,_,_,z,_⟩=>by cases z
 | .bad,X,M,hfn,hk,hd,W,hP,hR,st,h=>λ_ _ _ _ _ _ ⟨_,_,_,_,_,_,z,_⟩=>by cases z
theorem xSs (hs:∀ X,Md T n X->CallR X (.builtin "sorted") (rB X.K .sorted)):∀ (a:Sms) (X:Cx),Md T n X->Df X->(hasKs a=true->KS T n X.nox)->okDs T a=true->∀ W,Passes (CXx X.prog X.w) X (EW X.K X.mg W)->(tryBs a=true\/RaiseOk X W)->∀ sts,isSs a X.env.scope X.N sts=true->PSs X sts (tXs X.K (run T n) a W)
 | .nil,X,M,hfn,hk,hd,W,hP,hR,sts,h=>λ_ _ _ _ _ _ ⟨_,_,_,_,_,_,z,_⟩=>by cases z
 | .cons a r,X,M,hfn,hk,hd,W,hP,hR,sts,h=>by
  unfold isSs at h
  split at h
  ·rename_i x0 xs0
   rcases Bool.or_eq_true_iff.mp h with h | h
   case inr=>
    split at h
    ·rename_i y0 ys0
     rw[Bool.and_eq_true] at h
     cases a with
     | dcl i j it e=>
      have hRr:tryBs r=true\/RaiseOk X W:=hR.elim (λz=>by cases z) .inr
      have hR':RaiseOk X W:=hR.elim (λz=>by cases z) id
      have hr:=xSs hs r X M hfn (λz=>hk (by show (hasK _||hasKs r)=true; rw[z,Bool.or_true])) (Bool.and_eq_true_iff.mp hd).2 W hP hRr _ h.2
      refine ssm (ss_dclG (C:=run T n) M.calm M.nd hR'.pw hfn.fn h.1 (λtg e' z=>sI T n hs it X M tg e' z) (λe' z=>(sB T n hs e X M e' z).1) hr) λD σ H q=>?_
      obtain⟨B,Al,ρ,Fs,c,S,hx,k⟩:=q
      have hx':(match exm (run T n) (.dcl i j it e) ρ with | .ok (.nx ρ')=>xs (run T n) r ρ' | _=>none)=some c:=hx
      split at hx'
      ·rename_i ρ' e1
       exact⟨B,Al,ρ,Fs,ρ',S,e1,λσ' H' Fs' S'=>⟨B,Al,ρ',Fs',c,S',hx',k⟩⟩
      ·cases hx'
     | _=>cases h.1
    ·cases h
   rw[Bool.and_eq_true] at h
   have ka:hasK a=true->KS T n X.nox:=λz=>hk (by show (hasK a||hasKs r)=true; rw[z]; rfl)
   have kr:hasKs r=true->KS T n X.nox:=λz=>hk (by show (hasK a||hasKs r)=true; rw[z,Bool.or_true])
   have da:=(Bool.and_eq_true_iff.mp hd).1
   have dr:=(Bool.and_eq_true_iff.mp hd).2
   have hRa:tryB a=true\/RaiseOk X W:=hR.imp (λz=>(Bool.and_eq_true_iff.mp z).1) id
   have hRr:tryBs r=true\/RaiseOk X W:=hR.imp (λz=>(Bool.and_eq_true_iff.mp z).2) id
   have xa:=xS hs a X M hfn ka da W hP hRa _ h.1
   have oa:=PS_nox (sS hs a X.nox { M with } { hfn with } PassesOwn.never ka da _ h.1)
   have xr:=xSs hs r X M hfn kr dr W hP hRr _ h.2
   intro pins s σ H D I q
   obtain⟨B,Al,ρ,Fs,c,S,hx,k⟩:=q
   have hx':(match xm (run T n) a ρ with | some c=>some c | none=>(match exm (run T n) a ρ with | .ok (.nx ρ')=>xs (run T n) r ρ' | _=>none))=some c:=hx
   cases e1:xm (run T n) a ρ with
   | some c'=>
    rw[e1] at hx'
    cases hx'
    exact pss_cons xa (pss_never (X:=X)) pins s σ H D I ⟨B,Al,ρ,Fs,c,S,e1,k⟩
   | none=>
    rw[e1] at hx'
    simp only at hx'
    cases e2:exm (run T n) a ρ with
    | ok fl=>
     rw[e2] at hx'
     cases fl with
     | nx ρ'=>exact pss_cons oa xr pins s σ H D I ⟨B,Al,ρ,Fs,.nx ρ',S,e2,λσ' H' Fs' S'=>⟨B,Al,ρ',Fs',c,S',hx',k⟩⟩
     | rt d=>cases hx'
    | xn _ _=>rw[e2] at hx'; cases hx'
    | un=>rw[e2] at hx'; cases hx'
  ·cases h
end
end
theorem reps_split {K:Frag} {H:Hp}:∀ {ds:List D} {vs:List V} {F:List Addr},RepsS K H ds vs F->∃ Fs:Nat->List Addr,∀ i d,ds[i]?=some d->∃ v,vs[i]?=some v/\RepS K H d v (Fs i)/\∀ a ∈ Fs i,a ∈ F
 | [],vs,F,h=>⟨λ_=>[],λi d e=>by simp at e⟩
 | d::ds,vs,F,h=>by
  obtain⟨v,r,F1,F2,rfl,rfl,h1,h2⟩:=h
  obtain⟨Fs,hF⟩:=reps_split h2
  refine⟨λi=>match i with | 0=>F1 | i+1=>Fs i,λi d' e=>?_⟩
  cases i with
  | zero=>simp at e; subst e; exact⟨v,rfl,h1,λa ha=>List.mem_append_left _ ha⟩
  | succ i=>
   obtain⟨w,q1,q2,q3⟩:=hF i d' (by simpa using e)
   exact⟨w,by simpa using q1,q2,λa ha=>List.mem_append_right _ (q3 a ha)⟩
def Kept (P:Program) (w:World) (K:Frag) (mg:Str->Option Value) (base:Heap) (T:Tab) (n:Nat):Prop:=
 ∀ f fn,T.lookup f=some fn->∃ a fd ps,mg f=some (.ref a)/\PySem.W.keepIn K (.ref a)=true/\Binds K fd ps []/\FnOk P w K mg base (CXx P w) (2*n+4) a fd ps (spF mg (Tb T K mg) (allFs fn.body) K (run T n) f)
def LamK (K:Frag) (mg:Str->Option Value) (base:Heap) (fd:FuncData):Prop:=∃ c P,fd.code=.ref c/\PySem.W.codeHdIn K c P=true/\mainGlobals ≠ P/\base.BuiltinsAt mg P
section
variable {P:Program} {w:World} {K:Frag} {mg:Str->Option Value} {base:Heap} {T:Tab}
theorem fn_step {n:Nat} {f:Str} {fn:Fn} {st:Stmt} {a:Addr} {fd:FuncData} {N ps:List Str} (hs:∀ X,Md T n X->CallR X (.builtin "sorted") (rB X.K .sorted)) (hb:∀ x ∈ blts,mg x=none) (hxc:∀ c ∈ xnT T,XCok K mg base c) (hcs:∀ p ∈ csts,CstOk K mg p.1 p.2) (kept:Kept P w K mg base T n) (hm:mg f=some (.ref a)) (hK:hasKs fn.body=true->(∀ X,Md T n X->LamX n X->KS T n X)/\LamK K mg base fd) (hD:okDs T fn.body=true) (e:T.lookup f=some fn)
  (F:Fun K f f st a fd) (S:FnScope N ps (defScope st)) (h1:ps.length=fn.ps) (h2:N.length=fn.n) (h3:isSs fn.body (defScope st) N (defBody st)=true):FnOk P w K mg base (CXx P w) (2*(n+1)+4) a fd ps (spF mg (Tb T K mg) (allFs fn.body) K (run T (n+1)) f):=by
 have runs:∀ {ds d},run T (n+1) f ds=.ok d->ds.length=fn.ps/\∃ fl,exs (run T n) fn.body (startE fn ds)=.ok fl/\d=(match fl with | .nx _=>.non | .rt d=>d):=λ{ds d} h=>by
  unfold run at h
  rw[e] at h
  simp only at h
  split at h
  ·rename_i hl
   cases g:exs (run T n) fn.body (startE fn ds) with
   | ok fl=>
    rw[g] at h
    refine⟨hl,fl,rfl,?_⟩
    cases fl <;> (cases h; rfl)
   | xn _ _=>
    rw[g] at h
    simp only at h
    cases q:xs (run T n) fn.body (startE fn ds) <;> (rw[q] at h; cases h)
   | un=>
    rw[g] at h
    simp only at h
    cases q:xs (run T n) fn.body (startE fn ds) <;> (rw[q] at h; cases h)
  ·cases h
 have runx:∀ {ds c dd},run T (n+1) f ds=.xn c dd->ds.length=fn.ps/\xs (run T n) fn.body (startE fn ds)=some (c,dd):=λ{ds c dd} h=>by
  unfold run at h
  rw[e] at h
  simp only at h
  split at h
  ·rename_i hl
   refine⟨hl,?_⟩
   cases g:exs (run T n) fn.body (startE fn ds) with
   | ok fl=>rw[g] at h; cases fl <;> cases h
   | xn _ _=>
    rw[g] at h
    simp only at h
    cases q:xs (run T n) fn.body (startE fn ds) with
    | none=>rw[q] at h; cases h
    | some c'=>rw[q] at h; cases h; rfl
   | un=>
    rw[g] at h
    simp only at h
    cases q:xs (run T n) fn.body (startE fn ds) with
    | none=>rw[q] at h; cases h
    | some c'=>rw[q] at h; cases h; rfl
  ·cases h
 obtain⟨oc,od,kV,doc,pm,an,cdv,ct,osl,rfl,lk,hcd⟩:=F.ex
 show FnOk P w K mg base (CXx P w) (2*n+4+1+1) a _ ps _
 refine fn_of lk hcd S (λvs H Q E h=>?_) λA outer s H vs Q E hr h=>?_
 ·rcases h.2 with⟨ds,F',d,r,hr,_⟩ | ⟨ds,F',c,dd,r,hr,_⟩
  ·rw[<- r.length,(runs hr).1,h1]
  ·rw[<- r.length,(runx hr).1,h1]
 ·obtain⟨htb,h⟩:=h
  have st0:∀ {ds:List D} {F':List Addr},RepsS K H ds vs F'->ds.length=fn.ps->∃ Fs,SR K H (λa=>H a=none\/a ∈ F') H (L2.start N vs) (startE fn ds) Fs:=λ{ds F'} r hl=>by
   obtain⟨Fs,hF⟩:=reps_split r
   have lv:=r.length
   have get:∀ i d o,(startE fn ds)[i]?=some (some (d,o))->ds[i]?=some d/\o=false:=λi d o e=>by
    unfold startE at e
    by_cases hi:i<ds.length
    ·rw[List.getElem?_append_left (by simpa using hi),List.getElem?_map] at e
     cases q:ds[i]? with
     | none=>rw[q] at e; cases e
     | some d'=>rw[q] at e; cases e; exact⟨rfl,rfl⟩
    ·rw[List.getElem?_append_right (by simpa using hi),List.getElem?_replicate] at e
     split at e <;> cases e
   refine⟨Fs,⟨⟨?_,λi d o e=>?_⟩,λi d o e a ha=>?_,λi d e=>?_,Same.refl _,λa z=>.inl z,λi ds e _=>?_⟩⟩
   ·show (L2.start N vs).length=(startE fn ds).length
    unfold L2.start startE
    simp only[List.length_append,List.length_map,List.length_replicate]
    omega
   ·obtain⟨q,_⟩:=get i d o e
    obtain⟨v,q1,q2,_⟩:=hF i d q
    refine⟨v,?_,q2⟩
    unfold L2.start
    rw[List.getElem?_append_left (by rw[List.length_map]; exact(List.getElem?_eq_some_iff.mp q1).1),List.getElem?_map,q1]
    rfl
   ·obtain⟨q,_⟩:=get i d o e
    obtain⟨v,_,_,q3⟩:=hF i d q
    exact .inr (q3 a ha)
   ·obtain⟨_,q⟩:=get i d true e
    cases q
   ·obtain⟨_,q⟩:=get i _ true e
    cases q
  have M0:Md T n (cxOf (CXx P w) P w K mg base N f (defScope st) a cdv A outer s H E).nox:=⟨rfl,S.nd,hr.mono (Nat.le_succ _),kept,htb,hb,hxc,hcs⟩
  have ks:hasKs fn.body=true->KS T n (cxOf (CXx P w) P w K mg base N f (defScope st) a cdv A outer s H E).nox:=λhk=>by
   obtain⟨k1,c,Pt,k2,k3,k4,k5⟩:=hK hk
   exact k1 _ M0 ⟨hr,c,Pt,⟨k2,k3,k4,k5⟩,htb f fn a _ _ _ _ c Pt e hk hm lk k2 k3⟩
  rcases h with⟨ds,F',d,r,hrun,k⟩ | ⟨ds,F',c,dd,r,hrun,k⟩
  ·obtain⟨hl,fl,g,rfl⟩:=runs hrun
   obtain⟨Fs,SS⟩:=st0 r hl
   refine⟨tSs K (run T n) fn.body,(sSs T n hs fn.body (cxOf (CXx P w) P w K mg base N f (defScope st) a cdv A outer s H E).nox M0 ⟨λ_=>rfl,rfl,rfl⟩ PassesOwn.never ks hD _ h3).nox,?_⟩
   refine⟨H,λa=>H a=none\/a ∈ F',startE fn ds,Fs,fl,SS,g,?_⟩
   cases fl with
   | nx ρ'=>exact λσ' H' Fs' S'=>k .non H' [] S'.same ⟨rfl,rfl⟩ (λ_ z=>nomatch z) (λ_ _=>ShP.non)
   | rt d=>exact λv H' F2 sm rr al fr=>k v H' F2 sm rr al fr
  ·obtain⟨hl,hx⟩:=runx hrun
   obtain⟨Fs,SS⟩:=st0 r hl
   refine⟨tXs K (run T n) fn.body (λl H'=>∀ v dx,mg l.1=some v->XD K H' l.2 dx->E v dx H'),xSs T n hs fn.body (cxOf (CXx P w) P w K mg base N f (defScope st) a cdv A outer s H E) { M0 with } ⟨λ_=>rfl,rfl,rfl⟩ ks hD _ (λpins σ H s e s' I h=>?_) (.inr ?_) _ h3,?_⟩
   ·obtain⟨a,C,a0,Tb,H',x1,x2,x3,x4,x5,x6,x7,x8,⟨l,mc,xd,q⟩⟩:=h
    exact pass_def pins σ H s e s' I ⟨a,C,a0,Tb,H',x1,x2,x3,x4,x5,x6,x7,x8,q _ _ mc xd⟩
   ·refine { mr:=λpins σ H s h' e Ca c oe vs mc I k nw he hc hd hdat h1 hw=>xe_madeG I k nw he hc hd hdat h1 (hw _ _ mc rfl),mkI:=?_,po:=?_,pw:=?_ }
    ·exact λpins σ H s s' e t dx Ca c v u d mc I os bare un ok ne he ru ns nx rp hw=>xe_madeI I os bare un ok ne he ru ns nx (hw _ (same_upd (I.hok.none nx)) _ _ mc ⟨dx,v,rfl,upd_same,rp.same (same_upd (I.hok.none nx))⟩)
    ·exact λhd=>PassesOwnAt.leaving
    ·exact PassesOwn.leaving
   ·exact⟨H,λa=>H a=none\/a ∈ F',startE fn ds,Fs,(c,dd),SS,hx,λH' sm v dx mv xd=>k v dx H' mv sm xd⟩
structure Lnk (K:Frag) (mg:Str->Option Value) (f:Str) (fn:Fn) (st:Stmt) (N ps:List Str):Prop where
 ex:∃ a fd,mg f=some (.ref a)/\Fun K f f st a fd/\Binds K fd ps []
 sc:FnScope N ps (defScope st)
 ps:ps.length=fn.ps
 n:N.length=fn.n
 is:isSs fn.body (defScope st) N (defBody st)=true
theorem kept_all (hs:∀ n X,Md T n X->CallR X (.builtin "sorted") (rB X.K .sorted)) (hb:∀ x ∈ blts,mg x=none) (hxc:∀ c ∈ xnT T,XCok K mg base c) (hcs:∀ p ∈ csts,CstOk K mg p.1 p.2) (hK:∀ f fn a fd,T.lookup f=some fn->mg f=some (.ref a)->(∃ st,Fun K f f st a fd)->hasKs fn.body=true->(∀ n X,Md T n X->LamX n X->KS T n X)/\LamK K mg base fd) (hD:∀ f fn,T.lookup f=some fn->okDs T fn.body=true) (L:∀ f fn,T.lookup f=some fn->∃ st N ps,Lnk K mg f fn st N ps):∀ n,Kept P w K mg base T n
 | 0=>λf fn e=>by
  obtain⟨st,N,ps,⟨a,fd,m1,F,bd⟩,_⟩:=L f fn e
  refine⟨a,fd,ps,m1,F.kp,bd,⟨λvs H Q E h=>?_,λA outer s H args us vs Q E _ _ _ _ h=>?_⟩⟩
  ·rcases h.2 with⟨ds,F',d,r,hr,_⟩ | ⟨ds,F',c,dd,r,hr,_⟩ <;> cases hr
  ·rcases h.2 with⟨ds,F',d,r,hr,_⟩ | ⟨ds,F',c,dd,r,hr,_⟩ <;> cases hr
 | n+1=>λf fn e=>by
  obtain⟨st,N,ps,⟨a,fd,m1,F,bd⟩,sc,q1,q2,q3⟩:=L f fn e
  exact⟨a,fd,ps,m1,F.kp,bd,fn_step (hs n) hb hxc hcs (kept_all hs hb hxc hcs hK hD L n) m1 (λhk=>by
   obtain⟨k1,k2⟩:=hK f fn a fd e m1 ⟨st,F⟩ hk
   exact⟨k1 n,k2⟩) (hD f fn e) e F sc q1 q2 q3⟩
end
end Lf
namespace Lf
theorem ltP_iff {p q:Int × Int}:ltP p q=true ↔ p.1<q.1\/(p.1=q.1/\p.2<q.2):=by
 unfold ltP
 simp
theorem ltP_irr (p:Int × Int):ltP p p=false:=by
 rw[Bool.eq_false_iff]
 intro h
 rw[ltP_iff] at h
 omega
theorem ltP_tr {p q r:Int × Int} (h:ltP p q=true) (g:ltP q r=true):ltP p r=true:=by
 rw[ltP_iff] at h g |-
 omega
theorem ltP_tot {p q:Int × Int} (h:p ≠ q):ltP p q=true\/ltP q p=true:=by
 rw[ltP_iff,ltP_iff]
 obtain⟨a,b⟩:=p
 obtain⟨c,d⟩:=q
 have:a ≠ c\/b ≠ d:=by
  by_cases z:a=c
  ·by_cases y:b=d
   ·exact absurd (by rw[z,y]) h
   ·exact .inr y
  ·exact .inl z
 simp only
 omega
theorem insP_perm (x:Int × Int):∀ l,(insP x l).Perm (x::l)
 | []=>.refl _
 | y::r=>by
  unfold insP
  split
  ·exact((insP_perm x r).cons y).trans (.swap x y r)
  ·exact .refl _
theorem sortP_perm:∀ l,(sortP l).Perm l
 | []=>.refl _
 | x::r=>(insP_perm x _).trans ((sortP_perm r).cons x)
theorem insP_pw {x:Int × Int}:∀ {l},l.Pairwise (λa b=>ltP a b=true)->(∀ y ∈ l,x ≠ y)->(insP x l).Pairwise (λa b=>ltP a b=true)
 | [],_,_=>by simp[insP]
 | y::r,h,n=>by
  obtain⟨h1,h2⟩:=List.pairwise_cons.mp h
  unfold insP
  split
  ·rename_i hy
   refine List.pairwise_cons.mpr ⟨λz hz=>?_,insP_pw h2 λw hw=>n w (List.mem_cons_of_mem _ hw)⟩
   rcases List.mem_cons.mp ((insP_perm x r).mem_iff.mp hz) with rfl | hz
   ·exact hy
   ·exact h1 z hz
  ·rename_i hy
   have hxy:ltP x y=true:=by
    rcases ltP_tot (n y List.mem_cons_self) with z | z
    ·exact z
    ·exact absurd z hy
   refine List.pairwise_cons.mpr ⟨λz hz=>?_,h⟩
   rcases List.mem_cons.mp hz with rfl | hz
   ·exact hxy
   ·exact ltP_tr hxy (h1 z hz)
theorem sortP_pw:∀ {l:List (Int × Int)},l.Nodup->(sortP l).Pairwise (λa b=>ltP a b=true)
 | [],_=>List.Pairwise.nil
 | x::r,h=>by
  obtain⟨h1,h2⟩:=List.nodup_cons.mp h
  exact insP_pw (sortP_pw h2) λy hy e=>h1 (by rw[e]; exact(sortP_perm r).mem_iff.mp hy)
theorem sortP_uniq {l l':List (Int × Int)} (h:l.Nodup) (hp:l'.Perm l) (hs:l'.Pairwise (λa b=>ltP a b=true)):l'=sortP l:=
 List.Perm.eq_of_pairwise (le:=λa b=>ltP a b=true) (λa b _ _ h1 h2=>by have:=ltP_tr h1 h2; rw[ltP_irr] at this; cases this) hs (sortP_pw h) (hp.trans (sortP_perm l).symm)
theorem insI_perm (x:Int):∀ l,(insI x l).Perm (x::l)
 | []=>.refl _
 | y::r=>by
  unfold insI
  split
  ·exact .refl _
  ·exact((insI_perm x r).cons y).trans (.swap x y r)
theorem sortI_perm:∀ l,(sortI l).Perm l
 | []=>.refl _
 | x::r=>(insI_perm x _).trans ((sortI_perm r).cons x)
theorem insI_pw {x:Int}:∀ {l:List Int},l.Pairwise (·<=·)->(insI x l).Pairwise (·<=·)
 | [],_=>by simp[insI]
 | y::r,h=>by
  obtain⟨h1,h2⟩:=List.pairwise_cons.mp h
  unfold insI
  split
  ·rename_i hy
   refine List.pairwise_cons.mpr ⟨λz hz=>?_,h⟩
   rcases List.mem_cons.mp hz with rfl | hz
   ·exact hy
   ·exact Int.le_trans hy (h1 z hz)
  ·rename_i hy
   refine List.pairwise_cons.mpr ⟨λz hz=>?_,insI_pw h2⟩
   rcases List.mem_cons.mp ((insI_perm x r).mem_iff.mp hz) with rfl | hz
   ·omega
   ·exact h1 z hz
theorem sortI_pw:∀ {l:List Int},(sortI l).Pairwise (·<=·)
 | []=>List.Pairwise.nil
 | x::r=>insI_pw sortI_pw
theorem sortI_uniq {l l':List Int} (hp:l'.Perm l) (hs:l'.Pairwise (·<=·)):l'=sortI l:=
 List.Perm.eq_of_pairwise (λa b _ _ h1 h2=>Int.le_antisymm h1 h2) hs sortI_pw (hp.trans (sortI_perm l).symm)
theorem nodup_inj {α:Type} {l:List α} (h:l.Nodup) {i j:Nat} (hi:i<l.length) (hj:j<l.length) (e:l[i]=l[j]):i=j:=by
 have h':=List.pairwise_iff_getElem.mp h
 rcases Nat.lt_trichotomy i j with z | z | z
 ·exact absurd e (h' i j hi hj z)
 ·exact z
 ·exact absurd e.symm (h' j i hj hi z)
end Lf
namespace Lf
open PySem PySem.Spec PyProof.Rows L2
section
variable (ps:List (Int × Int))
def keyAt (i:Nat):Int × Int:=ps.getD i (0,0)
def rankOf (i:Nat):Nat:=((List.range ps.length).filter λj=>ltP (keyAt ps j) (keyAt ps i)).length
variable {ps}
theorem filter_len_le {α:Type} {p q:α->Bool}:∀ {l:List α},(∀ a ∈ l,p a=true->q a=true)->(l.filter p).length<=(l.filter q).length
 | [],_=>Nat.le_refl _
 | a::l,h=>by
  have ih:=filter_len_le (l:=l) λb hb=>h b (List.mem_cons_of_mem _ hb)
  rw[List.filter_cons,List.filter_cons]
  cases hp:p a with
  | true=>rw[h a List.mem_cons_self hp]; simpa using ih
  | false=>cases q a <;> simp <;> omega
theorem filter_len_lt {α:Type} {p q:α->Bool}:∀ {l:List α},(∀ a ∈ l,p a=true->q a=true)->(∃ a ∈ l,q a=true/\p a=false)->(l.filter p).length<(l.filter q).length
 | [],_,⟨a,ha,_⟩=>nomatch ha
 | a::l,h,⟨b,hb,h1,h2⟩=>by
  have hl:∀ b ∈ l,p b=true->q b=true:=λb hb=>h b (List.mem_cons_of_mem _ hb)
  rw[List.filter_cons,List.filter_cons]
  rcases List.mem_cons.mp hb with rfl | hb
  ·rw[h1,h2]
   have:=filter_len_le hl
   simp
   omega
  ·have ih:=filter_len_lt hl ⟨b,hb,h1,h2⟩
   cases hp:p a with
   | true=>rw[h a List.mem_cons_self hp]; simpa using ih
   | false=>cases q a <;> simp <;> omega
theorem rank_cmp (hn:ps.Nodup) {i j:Nat} (hi:i<ps.length) (hj:j<ps.length):decide (rankOf ps i<rankOf ps j)=ltP (keyAt ps i) (keyAt ps j):=by
 cases h:ltP (keyAt ps i) (keyAt ps j) with
 | true=>
  refine decide_eq_true (filter_len_lt (λk _ hk=>ltP_tr hk h) ⟨i,List.mem_range.mpr hi,h,ltP_irr _⟩)
 | false=>
  refine decide_eq_false (Nat.not_lt.mpr (filter_len_le λk _ hk=>?_))
  by_cases he:keyAt ps i=keyAt ps j
  ·rw[he]; exact hk
  ·rcases ltP_tot he with z | z
   ·rw[h] at z; cases z
   ·exact ltP_tr hk z
theorem key_inj (hn:ps.Nodup) {i j:Nat} (hi:i<ps.length) (hj:j<ps.length) (h:keyAt ps i=keyAt ps j):i=j:=by
 have e1:keyAt ps i=ps[i]:=by simp[keyAt,hi]
 have e2:keyAt ps j=ps[j]:=by simp[keyAt,hj]
 rw[e1,e2] at h
 exact nodup_inj hn hi hj h
theorem good_sorted (hn:ps.Nodup) {p:Array Nat} (hp:isP ps.length p) (h3:upTo (λi=>(rankOf ps i:Int)) p ps.length):p.toList.Perm (List.range ps.length)/\p.toList.map (keyAt ps)=sortP ps:=by
 have h1:p.toList.length=ps.length:=by rw[hp.length_eq,List.length_range]
 refine⟨hp,?_⟩
 have gd:∀ i,p.getD i 0=p.toList.getD i 0:=λi=>by simp[List.getD_eq_getElem?_getD]
 have hlt:∀ i,i<ps.length->p.toList.getD i 0<ps.length:=λi hi=>by rw[<- gd]; exact hp.at hi
 have hnd:p.toList.Nodup:=hp.nodup_iff.mpr List.nodup_range
 have step:∀ i,i+1<ps.length->ltP (keyAt ps (p.toList.getD i 0)) (keyAt ps (p.toList.getD (i+1) 0))=true:=λi hi=>by
  have a:rankOf ps (p.toList.getD i 0)<=rankOf ps (p.toList.getD (i+1) 0):=by
   have:=h3 i (i+1) (by omega) hi
   simp only[kp,gd] at this
   omega
  have b:=rank_cmp hn (hlt (i+1) hi) (hlt i (by omega))
  rw[decide_eq_false (Nat.not_lt.mpr a)] at b
  have ne:keyAt ps (p.toList.getD i 0) ≠ keyAt ps (p.toList.getD (i+1) 0):=λe=>by
   have:=key_inj hn (hlt i (by omega)) (hlt (i+1) hi) e
   rw[List.getD_eq_getElem?_getD,List.getD_eq_getElem?_getD,List.getElem?_eq_getElem (by omega),List.getElem?_eq_getElem (by omega)] at this
   have:=nodup_inj hnd (by omega) (by omega) (show p.toList[i]=p.toList[i+1] from this)
   omega
  rcases ltP_tot ne with z | z
  ·exact z
  ·rw[z] at b; cases b
 refine sortP_uniq hn ?_ ?_
 ·have:=hp.map (keyAt ps)
  have e:(List.range ps.length).map (keyAt ps)=ps:=by
   refine List.ext_getElem (by simp) λi h1 h2=>?_
   simp[keyAt,h2]
  rw[e] at this
  exact this
 ·rw[List.pairwise_iff_getElem]
  have all:∀ d i,i+d+1<ps.length->ltP (keyAt ps (p.toList.getD i 0)) (keyAt ps (p.toList.getD (i+d+1) 0))=true:=by
   intro d
   induction d with
   | zero=>intro i hi; exact step i hi
   | succ d ih=>intro i hi; exact ltP_tr (ih i (by omega)) (step (i+d+1) hi)
  intro i j hi hj hij
  rw[List.length_map] at hi hj
  have:=all (j-i-1) i (by omega)
  rw[show i+(j-i-1)+1=j by omega,List.getD_eq_getElem?_getD,List.getD_eq_getElem?_getD,List.getElem?_eq_getElem hi,List.getElem?_eq_getElem hj] at this
  simpa using this
end
section
variable {prog:Program} {w:World} {A:Around} {E:Value->Shared->Prop} {s:Shared}
theorem one_le:(1:Nat)<=sizeLine:=by rw[sizeLine_eq]; decide
theorem sort_one {a:Addr} {v:Value} {n:Nat} {P:PySem.Fin->Shared->Prop} (ho:s.heap.get? a=some (seqObj "list" [v].toArray n)) (h:P (.done (.ret .none)) { s with heap:=sortedHeap s.heap a [v] #[v] }) :
  wpAny (model prog w) A (Builtin.«list.sort» ⟨[.ref a],[]⟩) P E s:=by
 rw[list_sort_plain]
 have la:a<s.heap.objs.size:=Heap.lt_size ho
 refine wpAny_bind (listItems_at ho rfl (wpAny_bind (listUpdate_at ho rfl ?_ one_le (Nat.zero_le _))))
 obtain⟨e1,q1⟩:∃ e1,(s.heap.update a (Obj.mapSeq λ_=>#[])).get? a=some (seqObj "list" #[] e1):=⟨_,get?_update_seq ho (λ_=>#[])⟩
 refine wpAny_bind (seqEpoch_at q1 rfl (wpAny_bind (wpAny_newTuple (wpAny_bind (wpAny_newList (wpAny_holding ?_) (Nat.zero_le _))) one_le)))
 have q6:(((s.heap.update a (Obj.mapSeq λ_=>#[])).push (seqObj "tuple" [v].toArray 0)).push (seqObj "list" #[] 0)).get? a=some (seqObj "list" #[] e1):=
  (Heap.get?_push_ne _ _ _ (by rw[size_push',Heap.size_update]; exact Nat.ne_of_lt (Nat.lt_succ_of_lt la))).trans ((Heap.get?_push_ne _ _ _ (by rw[Heap.size_update]; exact Nat.ne_of_lt la)).trans q1)
 show wpAny (model prog w) A _ P E { s with heap:=((s.heap.update a (Obj.mapSeq λ_=>#[])).push (seqObj "tuple" [v].toArray 0)).push (seqObj "list" #[] 0) }
 dsimp only
 have harr:(arrOf (SortSt.mk' general' ([v].toArray.zip [v].toArray) #[] 7 none)).map (·.2)=#[v]:=by
  show ([v].toArray.zip [v].toArray).map (·.2)=#[v]
  simp
 have h2:[v].toArray.size<2:=Nat.lt_succ_self 1
 rw[if_pos h2,if_pos h2]
 refine wpAny_bind (wpAny_pure ?_)
 rw[StateT.run_pure]
 refine wpAny_bind (wpAny_pure ?_)
 dsimp only
 refine wpAny_bind (seqEpoch_at q6 rfl (wpAny_bind (listUpdate_at q6 rfl ?_ (Nat.zero_le _) (by rw[harr]; exact Nat.le_succ_of_le one_le))))
 simp only[bne_self_eq_false,Bool.false_eq_true,if_false]
 rw[harr]
 exact wpAny_pure h
theorem sorted_one {l:Addr} {v:Value} {Q:Value->Shared->Prop} (hl:s.heap.IsList l [v].toArray) (h:Q (.ref (s.heap.objs.size+1)) { s with heap:=sortedAll s.heap [v] #[v] }):wpAny (model prog w) A (call (.builtin "sorted") [.ref l]) Q E s:=by
 refine Calls.call_function_entry kind_sorted plain_sorted entry_sorted (args_sorted1 _) ?_
 unfold Builtin.«sorted»
 refine wpAny_bind (m:=checkCount "sorted" 1 1 _) (wpAny_pure (wpAny_bind (collect_list hl (wpAny_bind (wpAny_newList ?_ one_le)) one_le)))
 have e1:((s.heap.push (seqObj "list" #[] 0)).update s.heap.objs.size (Obj.mapSeq (·++[v].toArray))).objs.size=s.heap.objs.size+1:=(Heap.size_update _ _ _).trans (size_push' _ _)
 have e2:(((s.heap.push (seqObj "list" #[] 0)).update s.heap.objs.size (Obj.mapSeq (·++[v].toArray))).push (seqObj "list" [v].toArray 0)).get? (s.heap.objs.size+1)=some (seqObj "list" [v].toArray 0):=by rw[<- e1]; exact Heap.get?_push_size _ rfl
 show wpAny _ _ _ _ _ { s with heap:=((s.heap.push (seqObj "list" #[] 0)).update s.heap.objs.size (Obj.mapSeq (·++[v].toArray))).push (seqObj "list" [v].toArray 0) }
 rw[e1]
 exact wpAny_bind (wpAny_holding (wpAny_call_entry slot_list_sort ⟨_,e2,rfl⟩ entry_list_sort (sort_one e2 ⟨_,rfl,wpAny_pure ⟨_,rfl,h⟩⟩) (args_list_sort _)))
end
section
variable {X:Cx} {pins:List (Addr × Obj)} {σ:L2.St} {H:Hp} {s:Shared}
theorem sorted_fin (I:Inv X pins σ H s) {vs:List Value} {out:List Value} {ys:List V} {Q:VK} (hv:Vals ys out) (hz:ys.length<=sizeLine) (k:∀ p,H p=none->Q (.ref p) (upd H p (.lst ys))):EP X pins σ Q (.ref (s.heap.objs.size+1)) { s with heap:=sortedAll s.heap vs out.toArray }:=by
 obtain⟨e,he⟩:=sortedAll_at s.heap vs out.toArray
 refine⟨.ref _,_,I.laid (t':=s.toks) (λb o q=>sortedAll_old q) (Nat.le_succ _) ?_,rfl,k _ (I.hok.fresh (Nat.le_succ _))⟩
 exact⟨hz,out,e,hv,he⟩
theorem ints_of {K:Frag} {H:Hp}:∀ {ds:List D} {ns:List Int} {vs:List V} {F:List Addr} {us:List Value},intsOf ds=some ns->Reps K H ds vs F->Vals vs us->IntsAre us ns
 | [],ns,_,_,_,e,h,v=>by
  cases e
  obtain⟨rfl,_⟩:=h
  cases v
  exact .nil
 | .int i::ds,ns,_,_,_,e,h,v=>by
  have e':(intsOf ds).map (i :: ·)=some ns:=e
  obtain⟨ms,e1,rfl⟩:=Option.map_eq_some_iff.mp e'
  obtain⟨x,r,F1,F2,rfl,_,h1,h2⟩:=h
  obtain⟨rfl,_⟩:=h1
  cases v with
  | cons q t=>
   obtain⟨tk,rfl⟩:=q
   exact .cons _ _ (ints_of e1 h2 t)
 | .non::ds,ns,_,_,_,e,_,_=>by cases e
 | .bl _::ds,ns,_,_,_,e,_,_=>by cases e
 | .str _::ds,ns,_,_,_,e,_,_=>by cases e
 | .tup _::ds,ns,_,_,_,e,_,_=>by cases e
 | .lst _::ds,ns,_,_,_,e,_,_=>by cases e
theorem reps_ints {K:Frag} {H:Hp}:∀ (ns:List Int),Reps K H (ns.map .int) (ns.map V.int) []
 | []=>⟨rfl,rfl⟩
 | n::ns=>⟨_,_,[],[],rfl,rfl,⟨rfl,rfl⟩,reps_ints ns⟩
theorem vals_of_ints:∀ {us:List Value} {ns:List Int},IntsAre us ns->Vals (ns.map V.int) us
 | _,_,.nil=>.nil
 | _,_,.cons n t h=>.cons ⟨t,rfl⟩ (vals_of_ints h)
theorem ints_len:∀ {ds:List D} {ns:List Int},intsOf ds=some ns->ns.length=ds.length
 | [],ns,e=>by cases e; rfl
 | .int i::ds,ns,e=>by
  have e':(intsOf ds).map (i :: ·)=some ns:=e
  obtain⟨ms,e1,rfl⟩:=Option.map_eq_some_iff.mp e'
  simp[ints_len e1]
 | .non::ds,ns,e=>by cases e
 | .bl _::ds,ns,e=>by cases e
 | .str _::ds,ns,e=>by cases e
 | .tup _::ds,ns,e=>by cases e
 | .lst _::ds,ns,e=>by cases e
theorem pairs_eq:∀ {ds:List D} {ps:List (Int × Int)},Lf.pairsOf ds=some ps->ds=ps.map pairD
 | [],ps,e=>by cases e; rfl
 | d::ds,ps,e=>by
  unfold Lf.pairsOf at e
  split at e
  ·cases ‹_::_=[]›
  ·rename_i i j r z
   cases z
   obtain⟨qs,e1,rfl⟩:=Option.map_eq_some_iff.mp e
   rw[pairs_eq e1]
   rfl
  ·cases e
theorem pair_key {ps:List (Int × Int)} {i:Nat} (h:i<ps.length):(ps.map pairD)[i]?=some (pairD (keyAt ps i)):=by
 rw[List.getElem?_map,List.getElem?_eq_getElem h]
 simp[keyAt,h]
end
section
variable {X:Cx} {pins:List (Addr × Obj)} {σ:L2.St} {H:Hp} {s:Shared}
theorem obj_get {P:Program} {w:World} {h:Heap} {a:Addr} {o:HO} (x:ObjOk P w H h a o):∃ ob,h.get? a=some ob:=by
 cases o with
 | lst xs=>obtain⟨_,_,_,_,e⟩:=x; exact⟨_,e⟩
 | tup xs=>obtain⟨_,⟨_,_,ob,e,_⟩,_⟩:=x; exact⟨ob,e⟩
 | dK kvs=>obtain⟨_,_,_,_,ob,_,_,e,_⟩:=x; exact⟨ob,e⟩
 | dT kvs=>obtain⟨_,_,_,_,ob,_,_,e,_⟩:=x; exact⟨ob,e⟩
 | set S n=>obtain⟨ob,_,_,_,e,_⟩:=x; exact⟨ob,e⟩
 | ins C dx fs=>obtain⟨_,_,_,e,_⟩:=x; exact⟨_,e⟩
 | own y=>exact x
 | xd fs=>obtain⟨_,⟨ob,_,_,e,_⟩,_⟩:=x; exact⟨ob,e⟩
 | rng lo hi=>obtain⟨_,_,_,e⟩:=x; exact⟨_,e⟩
 | frz ob u=>obtain⟨e,_⟩:=x; exact⟨_,e⟩
 | tbl ps=>obtain⟨_,e,_⟩:=x; exact⟨_,e⟩
 | met f y=>exact⟨_,(show h.get? a=some _ from x)⟩
 | ext φ=>obtain⟨_,⟨ob,e⟩,_⟩:=x; exact⟨ob,e⟩
theorem free_of (I:Inv X pins σ H s) {a:Addr} (ne:∀ b u,s.heap.get? b=some u->b ≠ a):H a=none:=by
 cases e:H a with
 | none=>rfl
 | some o=>
  obtain⟨ob,q⟩:=obj_get (I.hok a o e)
  exact absurd rfl (ne a ob q)
theorem laidF (I:Inv X pins σ H s) {a:Addr} {o:HO} {h':Heap} {t':Nat} (k:∀ b u,b ≠ X.env.locals->s.heap.get? b=some u->h'.get? b=some u) (ns:∀ m,s.heap.Ns X.env.locals m->h'.Ns X.env.locals m) (ne:∀ b u,s.heap.get? b=some u->b ≠ a) (new:ObjOk X.prog X.w (upd H a o) h' a o) :
  Inv X pins σ (upd H a o) { s with heap:=h',toks:=t' }:=by
 have hn:H a=none:=free_of I ne
 have trk:∀ b u,H b=some u->b ≠ X.env.locals:=λb u e z=>by rw[z,I.free] at e; cases e
 refine I.step (g':=s.gens) (d':=s.drawn) (ch:=[]) (λb hb=>nomatch hb) (λb u hL _ _ e _=>k b u hL e) (λb u hL _ _ e _=>⟨u.slots,k b u hL e⟩) (λb u _ e n=>by rw[upd_ne (ne b u e)]; exact n) (λb u _ e=>?_)
  (λb xs e=>by rw[upd_ne (ne_of_none e hn)]; exact e) (λb u v e=>by rw[upd_ne (ne_of_none e hn)]; exact e) (λb ps e=>⟨#[],by rw[upd_ne (ne_of_none e hn),e]; simp⟩) ns (λb u e=>?_) I.bare
 ·by_cases hL:b=X.env.locals
  ·subst hL
   obtain⟨m,hm,_⟩:=I.loc
   obtain⟨o',_,_,ho',_⟩:=ns m hm
   exact⟨o',ho'⟩
  ·exact⟨u,k b u hL e⟩
 ·by_cases hb:b=a
  ·subst hb
   rw[upd_same] at e
   cases e
   exact new
  ·rw[upd_ne hb] at e
   refine(I.hok b u e).stay (λc v hc q=>k c v ?_ q) (λc q=>by rw[upd_ne (ne_of_none q hn)]; exact q) (λc xs q=>by rw[upd_ne (ne_of_none q hn)]; exact q) (λc o u q=>by rw[upd_ne (ne_of_none q hn)]; exact q)
   rcases hc with z | z
   ·rw[z]; exact trk b u e
   ·exact trk c _ z
theorem ns_uniq {h:Heap} {a:Addr} {m m':Str->Option Value} (n:h.Ns a m) (n':h.Ns a m'):m=m':=by
 obtain⟨o,es,ep,ho,hd,_,hm⟩:=n
 obtain⟨o',es',ep',ho',hd',_,hm'⟩:=n'
 rw[ho] at ho'
 cases ho'
 rw[hd] at hd'
 cases hd'
 funext x
 rw[<- hm x,<- hm' x]
theorem pair_obj (I:Inv X pins σ H s) {i j:Int} {v:V} {F:List Addr} {u:Value} (r:Rep X.K H (pairD (i,j)) v F) (rv:RelV v u) :
  ∃ b o n t t',u=.ref b/\s.heap.get? b=some o/\o.cls=.type "tuple" /\ o.data=.seq #[.int i t,.int j t'] n/\b ≠ X.env.locals:=by
 obtain⟨b,vs,rfl,hq,rr⟩:=r
 obtain⟨v1,w1,F1,F2,rfl,_,r1,rr⟩:=rr
 obtain⟨v2,w2,F3,F4,rfl,_,r2,rr⟩:=rr
 obtain⟨rfl,_⟩:=rr
 obtain⟨rfl,_⟩:=r1
 obtain⟨rfl,_⟩:=r2
 cases rv
 obtain⟨its,rv,⟨o,e,c,n,hd⟩,_⟩:=I.tuple hq
 obtain⟨u1,u2,rfl,⟨t,rfl⟩,⟨t',rfl⟩⟩:=Vals.two rv
 refine⟨b,o,n,t,t',rfl,e,c,hd,λz=>?_⟩
 obtain⟨m,⟨o',es,ep,ho',hd',_⟩,_⟩:=I.loc
 rw[<- z,e] at ho'
 cases ho'
 rw[hd] at hd'
 cases hd'
theorem lt_pairs {prog:Program} {w:World} {A:Around} {E:Value->Shared->Prop} {s:Shared} {x y:Addr} {ox oy:Obj} {n k:Nat} {i j i' j':Int} {t t' u u':Tok} {Q:Bool->Shared->Prop} (hx:s.heap.get? x=some ox) (dx:ox.data=.seq #[.int i t,.int j t'] n) (hy:s.heap.get? y=some oy) (dy:oy.data=.seq #[.int i' u,.int j' u'] k)
  (h:Q (ltP (i,j) (i',j')) s):wpAny (model prog w) A (keyLt' (tuples' true) (.ref x) (.ref y)) Q E s:=by
 refine PySem.W.kat_lt hx dx hy dy ?_
 show PySem.W.KatLex prog w A true (decide (2<2)) Q [(.int i t,.int i' u),(.int j t',.int j' u')] 0 s
 refine PySem.W.kat_cons (SeqAt.EqAt.int_int i t i' u prog w _ _ ?_)
 by_cases e:i=i'
 ·have hb:(i==i')=true:=beq_iff_eq.mpr e
  rw[hb]
  refine PySem.W.kat_yes (PySem.W.kat_cons (SeqAt.EqAt.int_int j t' j' u' prog w _ _ ?_))
  by_cases e2:j=j'
  ·have hb2:(j==j')=true:=beq_iff_eq.mpr e2
   rw[hb2]
   refine PySem.W.kat_yes (PySem.W.kat_nil ?_)
   subst e e2
   rw[ltP_irr] at h
   exact h
  ·have hb2:(j==j')=false:=beq_eq_false_iff_ne.mpr e2
   rw[hb2]
   refine PySem.W.kat_no ?_
   show wpAny (model prog w) A (oneLt' false (.int j t') (.int j' u')) Q _ s
   refine PySem.W.kat_one _ _ (lt_int ?_)
   show Q (decide (j<j')) s
   have:ltP (i,j) (i',j')=decide (j<j'):=by
    subst e
    unfold ltP
    simp
   rw[<- this]
   exact h
 ·have hb:(i==i')=false:=beq_eq_false_iff_ne.mpr e
  rw[hb]
  refine PySem.W.kat_no ?_
  show wpAny (model prog w) A (oneLt' true (.int i t) (.int i' u)) Q _ s
  refine oneLt_int ?_
  have:ltP (i,j) (i',j')=decide (i<i'):=by
   unfold ltP
   simp[e]
  rw[<- this]
  exact h
theorem val_at {us:List Value} {i:Nat} {u:Value} (h:us[i]?=some u):us.getD i Value.none=u:=by
 rw[List.getD_eq_getElem?_getD,h]; rfl
theorem reps_pick {K:Frag} {H:Hp} {ds:List D} {vs:List V} {F:List Addr} {us:List Value} (r:Reps K H ds vs F) (rv:Vals vs us):∀ (p:List Nat),(∀ i ∈ p,i<ds.length)->∃ ws G,Reps K H (p.map λi=>ds.getD i .non) ws G/\Vals ws (p.map λi=>us.getD i Value.none)/\∀ a ∈ G,a ∈ F
 | [],_=>⟨[],[],⟨rfl,rfl⟩,.nil,λ_ z=>nomatch z⟩
 | i::p,h=>by
  obtain⟨ws,G,q1,q2,q3⟩:=reps_pick r rv p λj hj=>h j (List.mem_cons_of_mem _ hj)
  have hi:=h i List.mem_cons_self
  obtain⟨v,F1,e1,r1,s1⟩:=r.get (List.getElem?_eq_getElem hi)
  obtain⟨u,e2,ru⟩:=rv.get e1
  refine⟨v::ws,F1++G,?_,?_,λa ha=>(List.mem_append.mp ha).elim (s1 a) (q3 a)⟩
  ·rw[List.map_cons,getD_of (List.getElem?_eq_getElem hi)]
   exact .cons r1 q1
  ·rw[List.map_cons,val_at e2]
   exact .cons ru q2
theorem c_sorted:CallR X (.builtin "sorted") (rB X.K .sorted):=by
 intro pins s σ H xs us Q I rv h
 obtain⟨x,d1,F1,d,rfl,h1,e,k⟩:=h
 cases d1 with
 | lst ds=>
  have e':(sortD ds >>= λys=>R.ok (D.lst ys))=.ok d:=e
  obtain⟨ys,g1,e'⟩:=R.bind_eq_ok e'
  cases e'
  obtain⟨a,vs,F',rfl,rr,hq,hs⟩:=h1.lst_
  obtain⟨u0,rfl,ru⟩:=Vals.one rv
  cases ru
  obtain⟨its,rv',p,hz⟩:=I.list hq
  have l1:=rr.length
  have l2:=rv'.length
  unfold sortD at g1
  split at g1
  ·rename_i h64
   split at g1
   ·rename_i ns hn
    cases g1
    have ii:=ints_of hn rr rv'
    refine sorted_ints p.isList ii (by omega) λout ns' hi hp hs'=>?_
    have e1:=sortI_uniq hp hs'
    subst e1
    have len:(sortI ns).length=ds.length:=by rw[(sortI_perm ns).length_eq,ints_len hn]
    have:=sorted_fin (vs:=its) (Q:=Q) I (vals_of_ints hi) (by rw[List.length_map]; omega) λq hq=>k _ _ _ (same_upd hq) (Rep.new_lst hq (reps_ints _)) (λb hb=>by
     have:b=q:=by simpa using hb
     subst this
     exact .inl hq) (λ_ ds _=>⟨_,_,rfl,hq⟩)
    simpa using this
   ·split at g1
    ·rename_i ps hps
     split at g1
     ·rename_i hnd
      cases g1
      have hds:=pairs_eq hps
      have lps:ps.length=ds.length:=by rw[hds,List.length_map]
      have last:∀ (q:Addr) (ws:List V) (G:List Addr) (H':Hp),Same H H'->H q=none->H' q=some (.lst ws)->Reps X.K H' ((sortP ps).map pairD) ws G->(∀ b ∈ G,b ∈ F')->Q (.ref q) H':=λq ws G H' sm hq hq' rr' sub=>
       k _ _ (q::G) sm ⟨q,ws,G,rfl,rr',.inl ⟨hq',rfl⟩⟩ (λb hb=>(List.mem_cons.mp hb).elim (λz=>.inl (z ▸ hq)) λz=>.inr (hs b (sub b z))) (λ_ ds _=>⟨_,_,rfl,hq⟩)
      by_cases h2:2<=ps.length
      ·obtain⟨m,hm,_⟩:=I.loc
       have N0:=news_all (g:=Att.noObjs s.heap) (h:=s.heap) (L:=X.env.locals)
       have inN:∀ b o,b ≠ X.env.locals->s.heap.get? b=some o->(b,o) ∈ allNews (Att.noObjs s.heap) s.heap X.env.locals:=λb o hL ho=>mem_allNews hL (Att.noObjs_get _ _) ho
       refine PySem.W.kat_sorted (Att.fr_all hm) N0 p.isList (by omega) (by omega) λD e1 h' F2 N2 hlt=>?_
       have obj:∀ i,i<ps.length->∃ b o n t t',its.getD i Value.none=.ref b/\h'.get? b=some o/\o.cls=.type "tuple" /\ o.data=.seq #[.int (keyAt ps i).1 t,.int (keyAt ps i).2 t'] n:=λi hi=>by
        have hdi:ds[i]?=some (pairD (keyAt ps i)):=by rw[hds]; exact pair_key hi
        obtain⟨v,G,ev,rep,_⟩:=rr.get hdi
        obtain⟨u,eu,ru⟩:=rv'.get ev
        obtain⟨b,o,n,t,t',rfl,q1,q2,q3,q4⟩:=pair_obj I (i:=(keyAt ps i).1) (j:=(keyAt ps i).2) rep ru
        exact⟨b,o,n,t,t',val_at eu,(N2 (b,o) (List.mem_cons_of_mem _ (inN b o q4 q1))).1,q2,q3⟩
       have tups:∀ (l:List Nat),(∀ i ∈ l,i<ps.length)->∃ fs,PySem.W.KatTups h' (l.map λi=>its.getD i Value.none) fs/\fs.length=l.length/\∀ v ∈ fs,∃ i t,v=Value.int i t:=by
        intro l
        induction l with
        | nil=>exact λ_=>⟨[],PySem.W.KatTups.nil,rfl,λ_ z=>nomatch z⟩
        | cons i l ih=>
         intro hl
         obtain⟨fs,q1,q2,q3⟩:=ih λj hj=>hl j (List.mem_cons_of_mem _ hj)
         obtain⟨b,o,n,t,t',w1,w2,w3,w4⟩:=obj i (hl i List.mem_cons_self)
         refine⟨.int (keyAt ps i).1 t::fs,?_,by simp[q2],λv hv=>?_⟩
         ·rw[List.map_cons,w1]
          exact PySem.W.KatTups.cons w2 w3 w4 rfl q1
         ·rcases List.mem_cons.mp hv with rfl | hv
          ·exact⟨_,_,rfl⟩
          ·exact q3 v hv
       obtain⟨fs,t1,t2,t3⟩:=tups (List.range its.length) λi hi=>by
        have:=List.mem_range.mp hi
        omega
       have eits:(List.range its.length).map (λi=>its.getD i Value.none)=its:=by
        refine List.ext_getElem (by simp) λi w1 w2=>?_
        simp[w2]
       rw[eits] at t1
       refine PySem.W.kat_kind (T:=.type "int") t1 (by rw[t2,List.length_range]; omega) (λv hv=>?_) rfl ?_
       ·obtain⟨i,t,rfl⟩:=t3 v hv
        intro A' Q' E' s' hk' q'
        exact wpAny_typeOf (typeIs_int s' i t) q'
       ·show (PySem.W.kas_sort its.length).kasWp _ _ _
        have hn5:its.length=ps.length:=by omega
        rw[hn5]
        refine pwN_wp (n:=ps.length) (ans:=ansK λi=>(rankOf ps i:Int)) (λi j hi hj C hC=>?_) (λq hq=>?_) _ (sort_ok (by omega))
        ·obtain⟨b,o,n,t,t',w1,w2,w3,w4⟩:=obj i hi
         obtain⟨b2,o2,n2,t2,t2',y1,y2,y3,y4⟩:=obj j hj
         show wpAny (model X.prog X.w) X.A.in1.in1 (keyLt' (tuples' (Value.type "int" != Value.type "tuple")) (its.getD i Value.none) (its.getD j Value.none)) C _ _
         rw[w1,y1]
         refine lt_pairs (s:={ s with heap:=h' }) w2 w4 y2 y4 ?_
         have e:ltP (keyAt ps i) (keyAt ps j)=ansK (λi=>(rankOf ps i:Int)) i j:=by
          rw[<- rank_cmp hnd hi hj]
          simp
         rw[e]
         exact hC
        ·obtain⟨hperm,hsort⟩:=good_sorted hnd hq.1 hq.2
         have hin:∀ i ∈ q.toList,i<ds.length:=λi hi=>by
          rw[<- lps]
          exact List.mem_range.mp (hperm.mem_iff.mp hi)
         obtain⟨ws,G,w1,w2,w3⟩:=reps_pick rr rv' q.toList hin
         have eds:(q.toList.map λi=>ds.getD i .non)=(sortP ps).map pairD:=by
          rw[<- hsort,List.map_map]
          refine List.map_congr_left λi hi=>?_
          have:=hin i hi
          rw[getD_of (d:=pairD (keyAt ps i)) (by rw[hds]; exact pair_key (by omega))]
          rfl
         rw[eds] at w1
         refine PySem.W.KasFin.intro F2 N2 (.head λq hq=>Nat.ne_of_lt (hlt q hq)) λh'' c F3 N3=>?_
         have hD:∀ b u,s.heap.get? b=some u->b ≠ D:=λb u e z=>by
          subst z
          have:=hlt _ (inN b u (N2 _ List.mem_cons_self).2.1 e)
          exact Nat.lt_irrefl _ this
         have hf:=free_of I hD
         have J:Inv X pins σ (upd H D (.lst ws)) { s with heap:=h'',toks:=s.toks }:=laidF I (λb u hL e=>(N3 (b,u) (List.mem_cons_of_mem _ (inN b u hL e))).1) (λm' hm'=>by rw[ns_uniq hm' hm]; exact F3.ns) hD
          ⟨by rw[w2.length]; simp; have:=hperm.length_eq; simp at this; omega,_,c,w2,(N3 _ List.mem_cons_self).1⟩
         exact⟨.ref D,_,J,rfl,last D ws G _ (same_upd hf) hf upd_same (w1.same (same_upd hf)) w3⟩
      ·have h0:ps.length ≠ 0:=λz=>by
        have:ds=[]:=List.eq_nil_of_length_eq_zero (by omega)
        subst this
        rename_i hno
        cases hno
       obtain⟨q,rfl⟩:∃ q,ps=[q]:=by
        match ps,h2,h0 with
        | [q],_,_=>exact⟨q,rfl⟩
        | [],_,h0=>exact absurd rfl h0
        | _::_::_,h2,_=>exact absurd (by simp) h2
       obtain⟨v,rfl⟩:∃ v,its=[v]:=by
        match its,(show its.length=1 by simp at lps; omega) with
        | [v],_=>exact⟨v,rfl⟩
       have e1:ds=[pairD q]:=hds
       subst e1
       refine sorted_one p.isList ?_
       have:=sorted_fin (vs:=[v]) (out:=[v]) (ys:=vs) (Q:=Q) I rv' hz λr hr=>last r vs F' _ (same_upd hr) hr upd_same (rr.same (same_upd hr)) (λ_ z=>z)
       exact this
     ·cases g1
    ·cases g1
  ·cases g1
 | tup ds=>
  have e':(match intsOf ds with | some ns=>(if ds.length<64 then R.ok (D.lst ((sortI ns).map .int)) else .un) | none=>.un)=.ok d:=e
  cases e2:intsOf ds with
  | none=>rw[e2] at e'; cases e'
  | some ns=>
   rw[e2] at e'
   simp only at e'
   split at e'
   ·rename_i h64
    cases e'
    obtain⟨a,vs,rfl,hq,rr⟩:=id h1
    obtain⟨u0,rfl,ru⟩:=Vals.one rv
    cases ru
    obtain⟨its,rv',p,hz⟩:=I.tuple hq
    have l1:=rr.length
    have l2:=rv'.length
    have ii:=ints_of e2 rr rv'
    refine sorted_by (vs:=its) (ns:=ns) (λ{Q'} z=>collect_tup p (by omega) λh' hle hk=>z its h' s.toks (List.Perm.refl _) hle hk) (λvs' hp=>ints_perm ii hp) (by omega) λq h2 tk n out ns' hle hk he hi hp hs'=>?_
    have e1:=sortI_uniq hp hs'
    subst e1
    have len:(sortI ns).length=ds.length:=by rw[(sortI_perm ns).length_eq,ints_len e2]
    have hqn:=I.hok.fresh hle
    exact⟨.ref q,_,I.sorted hle hk he hi (by rw[len,sizeLine_eq]; omega),rfl,k _ _ _ (same_upd hqn) (Rep.new_lst hqn (reps_ints _)) (λb hb=>by
     have:b=q:=by simpa using hb
     subst this
     exact .inl hqn) (λ_ ds _=>⟨_,_,rfl,hqn⟩)⟩
   ·cases e'
 | _=>cases e
end
theorem scope_of {N ps:List Str} {sc:Scope} (h:scopeB N ps sc=true):FnScope N ps sc:=by
 unfold scopeB at h
 simp only[Bool.and_eq_true,beq_iff_eq,decide_eq_true_eq,List.all_eq_true,bne_iff_ne,ne_eq] at h
 obtain⟨⟨⟨⟨⟨⟨h1,h2⟩,h3⟩,h4⟩,h5⟩,h6⟩,h7⟩:=h
 refine⟨h1,h2,h3,h4,h5,λx hx=>?_,h7⟩
 have:=h6 x hx
 unfold locB at this
 split at this
 ·rename_i z; exact .inl z
 ·rename_i z; exact .inr z
 ·cases this
def chk (fn:Fn) (st:Stmt) (N ps:List Str):Bool:=scopeB N ps (defScope st)&&ps.length==fn.ps&&N.length==fn.n&&isSs fn.body (defScope st) N (defBody st)
structure Lk (K:Frag) (mg:Str->Option Value) (f:Str) (fn:Fn) (st:Stmt) (N ps:List Str):Prop where
 ex:∃ a fd,mg f=some (.ref a)/\Fun K f f st a fd/\∀ us:List Value,us.length=ps.length->bindArgs fd ⟨us,[]⟩=pure (ps.zip us)
 ck:chk fn st N ps=true
theorem Lk.lnk {K:Frag} {mg:Str->Option Value} {f:Str} {fn:Fn} {st:Stmt} {N ps:List Str} (L:Lk K mg f fn st N ps):Lnk K mg f fn st N ps:=by
 obtain⟨a,fd,m,F,b⟩:=L.ex
 have c:=L.ck
 unfold chk at c
 simp only[Bool.and_eq_true,beq_iff_eq] at c
 obtain⟨⟨⟨c1,c2⟩,c3⟩,c4⟩:=c
 exact⟨⟨a,fd,m,F,.all b⟩,scope_of c1,c2,c3,c4⟩
theorem lk_mk {K:Frag} {h:Heap} {mg:Str->Option Value} {f:Str} {fn:Fn} {st:Stmt} {N ps:List Str} {a:Addr} {oc kV dc pm cd ct:Value} {od an:Option Addr} {sl:Array (Option Value)} (X:K.In h) (G:h.Ns mainGlobals mg)
  (ea:PySem.W.nsIn K mainGlobals f=some (some (.ref a))) (el:K.lookup a=some ⟨oc,od,.func (PySem.W.fnOf f f (defArgs st) (defBody st) (defScope st) .none kV dc pm an cd ct),sl⟩) (ec:PySem.W.codeIn K cd f=true) (ek:PySem.W.keepIn K (.ref a)=true)
  (hb:∀ (kV dc pm:Value) (an:Option Addr) (cd ct:Value) (us:List Value),us.length=ps.length->bindArgs (PySem.W.fnOf f f (defArgs st) (defBody st) (defScope st) .none kV dc pm an cd ct) ⟨us,[]⟩=pure (ps.zip us)) (hc:chk fn st N ps=true):Lk K mg f fn st N ps:=
 ⟨⟨a,_,PySem.W.mg_of X G ea,fun_mk el ec ek,hb kV dc pm an cd ct⟩,hc⟩
theorem len1 {α:Type} {P:List α->Prop} (h:∀ a,P [a]):∀ us:List α,us.length=1->P us
 | [a],_=>h a
theorem len2 {α:Type} {P:List α->Prop} (h:∀ a b,P [a,b]):∀ us:List α,us.length=2->P us
 | [a,b],_=>h a b
theorem len3 {α:Type} {P:List α->Prop} (h:∀ a b c,P [a,b,c]):∀ us:List α,us.length=3->P us
 | [a,b,c],_=>h a b c
theorem len4 {α:Type} {P:List α->Prop} (h:∀ a b c d,P [a,b,c,d]):∀ us:List α,us.length=4->P us
 | [a,b,c,d],_=>h a b c d
theorem bind1 {f:Str} {ar:Arguments} {bd:List Stmt} {sc:Scope} {ps:List Str} (hp:ps.length=1) (h:∀ (kV dc pm:Value) (an:Option Addr) (cd ct:Value) (a:Value),bindArgs (PySem.W.fnOf f f ar bd sc .none kV dc pm an cd ct) ⟨[a],[]⟩=pure (ps.zip [a])):∀ (kV dc pm:Value) (an:Option Addr) (cd ct:Value) (us:List Value),us.length=ps.length->bindArgs (PySem.W.fnOf f f ar bd sc .none kV dc pm an cd ct) ⟨us,[]⟩=pure (ps.zip us):=λkV dc pm an cd ct us hl=>by
 rw[hp] at hl
 exact len1 (P:=λus=>bindArgs (PySem.W.fnOf f f ar bd sc .none kV dc pm an cd ct) ⟨us,[]⟩=pure (ps.zip us)) (h kV dc pm an cd ct) us hl
theorem bind2 {f:Str} {ar:Arguments} {bd:List Stmt} {sc:Scope} {ps:List Str} (hp:ps.length=2) (h:∀ (kV dc pm:Value) (an:Option Addr) (cd ct:Value) (a b:Value),bindArgs (PySem.W.fnOf f f ar bd sc .none kV dc pm an cd ct) ⟨[a,b],[]⟩=pure (ps.zip [a,b])):∀ (kV dc pm:Value) (an:Option Addr) (cd ct:Value) (us:List Value),us.length=ps.length->bindArgs (PySem.W.fnOf f f ar bd sc .none kV dc pm an cd ct) ⟨us,[]⟩=pure (ps.zip us):=λkV dc pm an cd ct us hl=>by
 rw[hp] at hl
 exact len2 (P:=λus=>bindArgs (PySem.W.fnOf f f ar bd sc .none kV dc pm an cd ct) ⟨us,[]⟩=pure (ps.zip us)) (h kV dc pm an cd ct) us hl
theorem bind3 {f:Str} {ar:Arguments} {bd:List Stmt} {sc:Scope} {ps:List Str} (hp:ps.length=3) (h:∀ (kV dc pm:Value) (an:Option Addr) (cd ct:Value) (a b c:Value),bindArgs (PySem.W.fnOf f f ar bd sc .none kV dc pm an cd ct) ⟨[a,b,c],[]⟩=pure (ps.zip [a,b,c])):∀ (kV dc pm:Value) (an:Option Addr) (cd ct:Value) (us:List Value),us.length=ps.length->bindArgs (PySem.W.fnOf f f ar bd sc .none kV dc pm an cd ct) ⟨us,[]⟩=pure (ps.zip us):=λkV dc pm an cd ct us hl=>by
 rw[hp] at hl
 exact len3 (P:=λus=>bindArgs (PySem.W.fnOf f f ar bd sc .none kV dc pm an cd ct) ⟨us,[]⟩=pure (ps.zip us)) (h kV dc pm an cd ct) us hl
theorem bind4 {f:Str} {ar:Arguments} {bd:List Stmt} {sc:Scope} {ps:List Str} (hp:ps.length=4) (h:∀ (kV dc pm:Value) (an:Option Addr) (cd ct:Value) (a b c d:Value),bindArgs (PySem.W.fnOf f f ar bd sc .none kV dc pm an cd ct) ⟨[a,b,c,d],[]⟩=pure (ps.zip [a,b,c,d])):∀ (kV dc pm:Value) (an:Option Addr) (cd ct:Value) (us:List Value),us.length=ps.length->bindArgs (PySem.W.fnOf f f ar bd sc .none kV dc pm an cd ct) ⟨us,[]⟩=pure (ps.zip us):=λkV dc pm an cd ct us hl=>by
 rw[hp] at hl
 exact len4 (P:=λus=>bindArgs (PySem.W.fnOf f f ar bd sc .none kV dc pm an cd ct) ⟨us,[]⟩=pure (ps.zip us)) (h kV dc pm an cd ct) us hl
def Lks (K:Frag) (mg:Str->Option Value) (T:Tab):Prop:=∀ f fn,T.lookup f=some fn->∃ st N ps,Lk K mg f fn st N ps
theorem lk_nil {K:Frag} {mg:Str->Option Value}:Lks K mg []:=λf fn e=>by cases e
theorem lk_cons {K:Frag} {mg:Str->Option Value} {f:Str} {fn:Fn} {st:Stmt} {N ps:List Str} {T:Tab} (h:Lk K mg f fn st N ps) (t:Lks K mg T):Lks K mg ((f,fn)::T):=λg gn e=>by
 rw[List.lookup_cons] at e
 cases q:g==f with
 | true=>
  rw[q] at e
  cases e
  have:=beq_iff_eq.mp q
  subst this
  exact⟨st,N,ps,h⟩
 | false=>
  rw[q] at e
  exact t g gn e
theorem own_mk {K:Frag} {base:Heap} {mg:Str->Option Value} {x:Str} {C:Addr} {bmB:List Value} {newId:String} (X:K.In base) (G:base.Ns mainGlobals mg) (e:PySem.W.nsIn K mainGlobals x=some (some (.ref C))) (q:PySem.W.excIn K C bmB newId=true):OwnCls x C bmB newId mg base:=by
 refine⟨PySem.W.mg_of X G e,?_⟩
 unfold PySem.W.excIn at q
 split at q
 ·rename_i dd cd sl ho
  split at q
  ·rename_i C' bm k0 k1 k2 k3 n k5 hm hs
   simp only[Bool.and_eq_true,beq_iff_eq,Bool.not_eq_true'] at q
   obtain⟨⟨⟨⟨⟨rfl,rfl⟩,hdel⟩,ht⟩,hok⟩,hni⟩:=q
   obtain⟨nm,bs,mro,ns,qn,hd,sn,sub,ab,col,del⟩:=cd
   dsimp only at hm hdel hok hni
   subst hm hdel
   have hsl:sl=#[k0,k1,k2,k3,some (.builtin n),k5]:=by
    obtain⟨l⟩:=sl
    simp only at hs
    rw[hs]
   subst hsl
   exact⟨bm,ns,nm,qn,bs,hd,sn,sub,ab,col,dd,k0,k1,k2,k3,k5,_,X _ _ ho,.of_isNs (PySem.W.isNs_of_in X hok),PySem.W.nsMap_none_of_in X hok hni,PySem.W.tail_of_in X ht⟩
  ·cases q
 ·cases q
structure XC1 (K:Frag) (mg:Str->Option Value) (c:Str) (C:Addr):Prop where
 ex:∃ CF,mg "FairError" = some (.ref CF)/\PySem.W.exmOne K (.ref C) (.ref CF)=some true
 sv:PySem.W.subIn K (.ref C) (.type "ValueError")=some true
 ve:mg "ValueError" = none
 cl:ClX K C
 pr:∀ k ∈ xkin,∃ Ck,mg k=some (.ref Ck)/\PySem.W.kitOne K (.ref C) (.ref Ck)=some (k==c)
theorem xp_nil {P:Str->Prop}:∀ k ∈ ([]:List Str),P k:=λ_ z=>nomatch z
theorem xp_cons {P:Str->Prop} {k:Str} {r:List Str} (h:P k) (t:∀ k ∈ r,P k):∀ y ∈ k::r,P y:=λy hy=>by
 rcases List.mem_cons.mp hy with rfl | hy
 ·exact h
 ·exact t y hy
theorem xp_self {K:Frag} {h:Heap} {mg:Str->Option Value} {c:Str} {C:Addr} (X:K.In h) (G:h.Ns mainGlobals mg) (e:PySem.W.nsIn K mainGlobals c=some (some (.ref C))):∃ Ck,mg c=some (.ref Ck)/\PySem.W.kitOne K (.ref C) (.ref Ck)=some (c==c):=
 ⟨C,PySem.W.mg_of X G e,by rw[beq_self_eq_true]; exact kit_self⟩
theorem xp_not {K:Frag} {h:Heap} {mg:Str->Option Value} {c k:Str} {C Ck:Addr} (X:K.In h) (G:h.Ns mainGlobals mg) (ne:(k==c)=false) (e:PySem.W.nsIn K mainGlobals k=some (some (.ref Ck))) (nr:(Value.ref C==Value.ref Ck)=false) (h1:PySem.W.hasDictIn K Ck=true) (h2:PySem.W.typeIn K (.ref Ck)=some (.type "type")) (h3:PySem.W.subIn K (.ref C) (.ref Ck)=some false):∃ Ck,mg k=some (.ref Ck)/\PySem.W.kitOne K (.ref C) (.ref Ck)=some (k==c):=
 ⟨Ck,PySem.W.mg_of X G e,by rw[ne]; exact kit_ref nr h1 h2 h3⟩
theorem xc1_mk {K:Frag} {h:Heap} {mg:Str->Option Value} {c:Str} {C CF:Addr} (X:K.In h) (G:h.Ns mainGlobals mg) (e3:PySem.W.nsIn K mainGlobals "FairError" = some (some (.ref CF))) (e4:PySem.W.exmOne K (.ref C) (.ref CF)=some true) (e5:PySem.W.subIn K (.ref C) (.type "ValueError")=some true) (e6:PySem.W.nsIn K mainGlobals "ValueError" = some none)
  (ga:PySem.W.findIn K (.ref C) "__getattribute__" = some (some (.builtin "BaseException.__getattribute__"))) (hk:PySem.W.findIn K (.ref C) "__getattr__" = some none) (mb:PySem.W.mroIn K C (.type "BaseException")=some true) (hd:PySem.W.hasDictIn K C=true) (ha:PySem.W.findIn K (.ref C) "__class__" = some (some (.builtin "object.__class__")))
  (hn:PySem.W.specialIn K (.builtin "object.__class__") "__get__" = some (some (.builtin "getset_descriptor.__get__"))) (ht:PySem.W.takesIn K (.builtin "object.__class__")=some true) (mo:PySem.W.mroIn K C (.type "object")=some true) (na:PySem.W.findIn K (.ref C) "at" = some none)
  (pr:∀ k ∈ xkin,∃ Ck,mg k=some (.ref Ck)/\PySem.W.kitOne K (.ref C) (.ref Ck)=some (k==c)):XC1 K mg c C:=
 ⟨⟨CF,PySem.W.mg_of X G e3,e4⟩,e5,PySem.W.mg_none_of X G e6,{ ga:=ga,hk:=hk,mb:=mb,hd:=hd,ha:=ha,hn:=hn,htk:=ht,mo:=mo,na:=na },pr⟩
theorem xc_mk {K:Frag} {mg:Str->Option Value} {c:Str} {C:Addr} (ne:(c==("BadFair" : Str))=false) (e1:PySem.W.nsIn K mainGlobals c=some (some (.ref C))) (e2:PySem.W.excIn K C [.type "ValueError",.type "Exception",.type "BaseException",.type "object"] "ValueError.__new__" = true) (Z:XC1 K mg c C) :
  ∀ base:Heap,K.In base->base.Ns mainGlobals mg->XCok K mg base c:=λ_ X G=>by
 obtain⟨CF,z1,z2⟩:=Z.ex
 exact⟨C,CF,PySem.W.mg_of X G e1,z1,⟨λ_=>own_mk X G e1 e2,λz=>absurd z (beq_eq_false_iff_ne.mp ne)⟩,z2,Z.sv,Z.ve,Z.cl,Z.pr⟩
def XCs (K:Frag) (mg:Str->Option Value) (T:Tab):Prop:=∀ base:Heap,K.In base->base.Ns mainGlobals mg->∀ c ∈ xnT T,XCok K mg base c
theorem xcs_of {K:Frag} {mg:Str->Option Value} {T:Tab} (l:List Str) (h:(xnT T).all (λc=>l.contains c)=true) (t:∀ c ∈ l,∀ base:Heap,K.In base->base.Ns mainGlobals mg->XCok K mg base c):XCs K mg T:=λbase X G c hc=>
 t c (by simpa using List.all_eq_true.mp h c hc) base X G
theorem xc_nil {K:Frag} {mg:Str->Option Value}:∀ c ∈ ([]:List Str),∀ base:Heap,K.In base->base.Ns mainGlobals mg->XCok K mg base c:=λ_ z=>nomatch z
theorem xc_cons {K:Frag} {mg:Str->Option Value} {c:Str} {r:List Str} (h:∀ base:Heap,K.In base->base.Ns mainGlobals mg->XCok K mg base c) (t:∀ c ∈ r,∀ base:Heap,K.In base->base.Ns mainGlobals mg->XCok K mg base c) :
  ∀ d ∈ c::r,∀ base:Heap,K.In base->base.Ns mainGlobals mg->XCok K mg base d:=λd hd=>by
 rcases List.mem_cons.mp hd with rfl | hd
 ·exact h
 ·exact t d hd
def CSs (K:Frag) (mg:Str->Option Value):Prop:=∀ p ∈ csts,CstOk K mg p.1 p.2
theorem cs_nil {K:Frag} {mg:Str->Option Value}:∀ p ∈ ([]:List (Str × D)),CstOk K mg p.1 p.2:=λ_ z=>nomatch z
theorem cs_cons {K:Frag} {mg:Str->Option Value} {p:Str × D} {r:List (Str × D)} (h:CstOk K mg p.1 p.2) (t:∀ p ∈ r,CstOk K mg p.1 p.2):∀ q ∈ p::r,CstOk K mg q.1 q.2:=λq hq=>by
 rcases List.mem_cons.mp hq with rfl | hq
 ·exact h
 ·exact t q hq
theorem cs_int {K:Frag} {h:Heap} {mg:Str->Option Value} {x:Str} {i:Int} {t:Tok} (X:K.In h) (G:h.Ns mainGlobals mg) (e:PySem.W.nsIn K mainGlobals x=some (some (.int i t))):CstOk K mg x (.int i):=
 ⟨_,.int i,PySem.W.mg_of X G e,⟨t,rfl⟩,λ_=>⟨rfl,rfl⟩⟩
def spO (fr:Nat->Bool) (K:Frag) (C:Str->List D->R D) (f:Str):Sp:=λvs H Q _=>∃ ds F d,RepsS K H ds vs F/\C f ds=.ok d /\
 ∀ v H' G,Same H H'->Rep K H' d v G->(∀ a ∈ G,H a=none\/a ∈ F)->(∀ k,fr k=true->ShP k H d G)->Q v H'
theorem cx_no {P:Program} {w:World} {l:List PySem.Env} {H:Hp} {s s':Shared} {e:Value} (h:CXx P w l H s (λ_ _ _=>False) e s'):False:=by
 obtain⟨_,_,_,_,_,_,_,_,_,_,_,_,_,z⟩:=h
 exact z
def bltsNone (mg:Str->Option Value):Prop:=∀ x ∈ blts,mg x=none
theorem okT_of {T:Tab} (h:T.all (λp=>okDs T p.2.body)=true):∀ f fn,T.lookup f=some fn->okDs T fn.body=true:=λf fn e=>List.all_eq_true.mp h _ (PySem.mem_of_lookup e)
theorem walk {l:PySem.W.OpenLaw} {q:Program} {loose:List Str} {XP:(Str->Option Value)->Heap->Prop} {YP:World->Heap->Prop} {d:DefRec} {K:Params->Frag} (T:Tab) {fnL:Fn} {stL:Stmt} {NL:List Str} {x:Str} (hn:l.most=some 63) (hdf:d.params.defaults=[]) (hd:d.name=("law" : Str))
  (hY:∀ (w:World) (h:Heap),YP w h->(K w.params).In h) (e:T.lookup ("law" : Str)=some fnL)
  (noK:T.all (λp=>!hasKs p.2.body)=true) (okT:T.all (λp=>okDs T p.2.body)=true)
  (hrun:∀ ns:List Int,ns.length<=63->run T 40 "law" [.lst (ns.map .int)]=.ok (.bl true))
  (F:∀ (w:World) (mg:Str->Option Value) (h:Heap),(K w.params).In h->h.Ns mainGlobals mg->Lks (K w.params) mg T/\Lk (K w.params) mg "law" fnL stL NL [x]/\bltsNone mg/\XCs (K w.params) mg T/\CSs (K w.params) mg) :
  PySem.W.WalkO q loose XP YP l.row.toRowW d [] (λf vs=>PySem.call f vs):=by
 refine L2.walk_of (n:=63) (k:=84) (x:=x) (CX:=λw=>CXx l.prog w) (sp:=λw=>spO (allFs fnL.body) (K w.params) (run T 40) "law") hn (by decide) hdf ⟨rfl,by decide,by decide⟩ hY (λw mg fa h KX G hmg=>?_) (λw H a ns hl hO hS=>?_) λ_ _ _ _ _ z=>cx_no z
 ·obtain⟨L,⟨⟨a,fd,m,Fn',b⟩,ck⟩,bn,xc,cs⟩:=F w mg h KX G
  rw[hd,m] at hmg
  cases hmg
  refine⟨fd,λs u=>.of_eq (b [u] rfl),λbase KX' G'=>?_⟩
  unfold chk at ck
  simp only[Bool.and_eq_true,beq_iff_eq] at ck
  obtain⟨⟨⟨c1,c2⟩,c3⟩,c4⟩:=ck
  have LN:∀ f fn,T.lookup f=some fn->∃ st N ps,Lnk (K w.params) mg f fn st N ps:=λf fn e=>by
   obtain⟨st,N,ps,z⟩:=L f fn e
   exact⟨st,N,ps,z.lnk⟩
  have no:∀ f fn,T.lookup f=some fn->hasKs fn.body=true->False:=λf fn e h=>by
   have:=List.all_eq_true.mp noK _ (PySem.mem_of_lookup e)
   rw[h] at this
   cases this
  refine(fn_step (n:=39) (λX M=>c_sorted) bn (xc base KX' G') cs (kept_all (λn X M=>c_sorted) bn (xc base KX' G') cs (λf fn _ _ e _ _ h=>(no f fn e h).elim) (okT_of okT) LN 39) m (λh=>(no _ _ e h).elim) (okT_of okT _ _ e) e Fn' (scope_of c1) c2 c3 c4).imp λvs H Q E h=>⟨λf fn _ _ _ _ _ _ _ e h=>(no f fn e h).elim,.inl h⟩
 ·refine⟨[.lst (ns.map .int)],[],.bl true,Reps.S ?_,hrun ns hl,λv H' G s r c _=>?_⟩
  ·refine⟨_,_,[],[],rfl,rfl,⟨a,ns.map V.int,[],rfl,reps_ints ns,.inr ⟨?_,rfl⟩⟩,rfl,rfl⟩
   rcases hS with(hS | hS) | hS
   ·rcases hO a with z | ⟨o,xs,z⟩
    ·rw[z] at hS; cases hS
    ·rw[z] at hS; cases hS
   ·exact .inl hS
   ·exact .inr hS
  ·obtain⟨rfl,_⟩:=r
   rfl
def stAt (P:Program) (j:Nat):Stmt:=P.main.body.getD j (.Pass ⟨0,0,0,0⟩)
end Lf
namespace Lf
theorem bn_nil {mg:PySem.Str->Option PySem.Value}:∀ x ∈ ([]:List PySem.Str),mg x=none:=λ_ z=>nomatch z
theorem bn_cons {mg:PySem.Str->Option PySem.Value} {x:PySem.Str} {r:List PySem.Str} (h:mg x=none) (t:∀ y ∈ r,mg y=none):∀ y ∈ x::r,mg y=none:=λy hy=>by
 rcases List.mem_cons.mp hy with rfl | hy
 ·exact h
 ·exact t y hy
end Lf
namespace Lf
open PySem (Str)
def f_is_number_below:Fn:=⟨2,2,(.cons (.ret (.and (.ins .int (.var 0)) (.and (.not (.ins .bool (.var 0))) (.chn .le .lt (.int 0) (.var 0) (.var 1))))) .nil)⟩
def fL_cell:Fn:=⟨2,2,(.cons (.ife (.op .lt (.var 1) (.b1 .len (.var 0))) (.cons (.ret (.idx (.var 0) (.var 1))) .nil) .nil) (.cons (.ret (.int 0)) .nil))⟩
def fL_mix:Fn:=⟨3,3,(.cons (.ret (.op .mod (.op .mod (.op .mul (.var 0) (.int 48271)) (.var 1)) (.var 2))) .nil)⟩
def fL_some:Fn:=⟨3,5,(.cons (.asg 3 (.comp false (.tup (.cons (.call "_law_mix" (.cons (.op .add (.var 0) (.op .mul (.op .mul (.int 29) (.var 5)) (.var 5))) (.cons (.int 9931) (.cons (.int 997) .nil)))) (.cons (.var 5) .nil))) (.rng (.var 1)) .nil)) (.cons (.asg 4 (.comp false (.idx (.var 5) (.int 1)) (.seq (.b1 .sorted (.var 3))) .nil)) (.cons (.ife (.var 2) (.cons (.ret (.b1 .tuple (.var 4))) .nil) .nil) (.cons (.ret (.b1 .tuple (.slc (.var 4) .nil (.cons (.call "_law_mix" (.cons (.var 0) (.cons (.int 9941) (.cons (.op .add (.var 1) (.int 1)) .nil)))) .nil)))) .nil))))⟩
def f_are_unlike_numbers_below:Fn:=⟨2,4,(.cons (.ife (.not (.ins .tuple (.var 0))) (.cons (.ret (.bl false)) .nil) .nil) (.cons (.for2 2 3 (.enu (.var 0)) (.cons (.ife (.or (.not (.call "is_number_below" (.cons (.var 3) (.cons (.var 1) .nil)))) (.op .isin (.var 3) (.slc (.var 0) .nil (.cons (.var 2) .nil)))) (.cons (.ret (.bl false)) .nil) .nil) .nil)) (.cons (.ret (.bl true)) .nil)))⟩
def f_has_each_number_below:Fn:=⟨2,2,(.cons (.ret (.and (.call "are_unlike_numbers_below" (.cons (.var 0) (.cons (.var 1) .nil))) (.op .eq (.b1 .len (.var 0)) (.var 1)))) .nil)⟩
def f_is_market:Fn:=⟨1,1,(.cons (.ife (.or (.not (.ins .tuple (.var 0))) (.not (.chn .le .le (.int 1) (.b1 .len (.var 0)) (.cst 0)))) (.cons (.ret (.bl false)) .nil) .nil) (.cons (.ret (.b1 .all (.comp false (.call "has_each_number_below" (.cons (.var 1) (.cons (.b1 .len (.var 0)) .nil))) (.seq (.var 0)) .nil))) .nil))⟩
def f_checked_market:Fn:=⟨1,1,(.cons (.ife (.not (.call "is_market" (.cons (.var 0) .nil))) (.cons (.rse "BadMarket") .nil) .nil) (.cons (.ret (.var 0)) .nil))⟩
def f_checked_deal:Fn:=⟨2,2,(.cons (.ife (.not (.call "has_each_number_below" (.cons (.var 1) (.cons (.b1 .len (.var 0)) .nil)))) (.cons (.rse "BadLodging") .nil) .nil) (.cons (.ret (.var 1)) .nil))⟩
def f_liked_best:Fn:=⟨3,3,(.cons (.ret (.idx (.comp false (.var 3) (.seq (.idx (.var 0) (.var 2))) (.cons (.op .isin (.var 3) (.var 1)) .nil)) (.int 0))) .nil)⟩
def f_stands_in_a_ring:Fn:=⟨2,4,(.cons (.asg 2 (.lst .nil)) (.cons (.asg 3 (.dix 0 (.var 1))) (.cons (.whl (.op .notin (.var 3) (.var 2)) (.cons (.app 2 (.var 3)) (.cons (.asg 3 (.dix 0 (.var 3))) .nil))) (.cons (.ret (.op .isin (.var 1) (.var 2))) .nil))))⟩
def f_pairs_by_round:Fn:=⟨1,6,(.cons (.asg 1 (.rngL false (.b1 .len (.var 0)))) (.cons (.asg 2 (.lst .nil)) (.cons (.whl (.op .gt (.b1 .len (.var 1)) (.int 0)) (.cons (.dcl 3 4 (.seq (.var 1)) (.call "liked_best" (.cons (.var 0) (.cons (.var 1) (.cons (.var 4) .nil))))) (.cons (.appX 2 (.comp false (.tup (.cons (.var 6) (.cons (.dix 3 (.var 6)) .nil))) (.seq (.var 1)) (.cons (.cald "stands_in_a_ring" 3 (.var 6)) .nil))) (.cons (.asg 5 (.comp true (.var 6) (.seq (.idx (.var 2) (.int (-1)))) .nil)) (.cons (.asg 1 (.comp false (.var 6) (.seq (.var 1)) (.cons (.op .notin (.var 6) (.var 5)) .nil))) .nil))))) (.cons (.ret (.var 2)) .nil))))⟩
def f_fair_deal:Fn:=⟨1,5,(.cons (.exp (.call "checked_market" (.cons (.var 0) .nil))) (.cons (.asg 1 (.rep .non (.b1 .len (.var 0)))) (.cons (.for1 2 (.seq (.call "pairs_by_round" (.cons (.var 0) .nil))) (.cons (.for2 3 4 (.seq (.var 2)) (.cons (.set 1 (.var 3) (.var 4)) .nil)) .nil)) (.cons (.ret (.b1 .tuple (.var 1))) .nil))))⟩
def f_breakers:Fn:=⟨2,3,(.cons (.exp (.call "checked_market" (.cons (.var 0) .nil))) (.cons (.exp (.call "checked_deal" (.cons (.var 0) (.cons (.var 1) .nil)))) (.cons (.for1 2 (.seq (.call "pairs_by_round" (.cons (.var 0) .nil))) (.cons (.ife (.b1 .any (.comp true (.op .ne (.idx (.var 1) (.var 3)) (.var 4)) (.seq (.var 2)) .nil)) (.cons (.ret (.tup (.cons (.b1 .tuple (.comp true (.var 3) (.seq (.var 2)) .nil)) (.cons (.b1 .tuple (.comp true (.var 4) (.seq (.var 2)) .nil)) .nil)))) .nil) .nil) .nil)) (.cons (.ret .non) .nil))))⟩
def fL_market:Fn:=⟨2,3,(.cons (.asg 2 (.op .add (.int 1) (.op .mod (.call "_law_cell" (.cons (.var 0) (.cons (.var 1) .nil))) (.int 5)))) (.cons (.ret (.b1 .tuple (.comp false (.call "_law_some" (.cons (.op .add (.call "_law_cell" (.cons (.var 0) (.cons (.op .add (.op .add (.var 1) (.int 1)) (.var 3)) .nil))) (.op .mul (.op .mul (.int 11) (.var 3)) (.var 3))) (.cons (.var 2) (.cons (.bl true) .nil)))) (.rng (.var 2)) .nil))) .nil))⟩
def fL_deal:Fn:=⟨1,8,(.cons (.asg 1 (.rngL false (.b1 .len (.var 0)))) (.cons (.asg 2 (.b1 .list (.var 1))) (.cons (.whl (.var 1) (.cons (.dcl 3 4 (.seq (.var 1)) (.idx (.comp false (.var 8) (.seq (.idx (.var 0) (.var 4))) (.cons (.op .isin (.var 8) (.var 1)) .nil)) (.int 0))) (.cons (.asg 5 (.idx (.var 1) (.int (-1)))) (.cons (.for1 6 (.rng (.b1 .len (.var 1))) (.cons (.asg 5 (.dix 3 (.var 5))) .nil)) (.cons (.asg 7 (.lst (.cons (.var 5) .nil))) (.cons (.whl (.op .ne (.dix 3 (.idx (.var 7) (.int (-1)))) (.var 5)) (.cons (.app 7 (.dix 3 (.idx (.var 7) (.int (-1))))) .nil)) (.cons (.for1 4 (.seq (.var 7)) (.cons (.set 2 (.var 4) (.dix 3 (.var 4))) .nil)) (.cons (.asg 1 (.comp false (.var 8) (.seq (.var 1)) (.cons (.op .notin (.var 8) (.var 7)) .nil))) .nil)))))))) (.cons (.ret (.b1 .tuple (.var 2))) .nil))))⟩
def fL_told:Fn:=⟨2,3,(.cons (.tryH (.cons (.exp (.call "breakers" (.cons (.var 0) (.cons (.var 1) .nil)))) .nil) 2 "e" "FairError" ["BadLodging"] [.rets ["BadLodging","ValueError"]]) (.cons (.ret (.lst .nil)) .nil))⟩
def fL_breaks:Fn:=⟨4,9,(.cons (.ife (.or (.op .ne (.b1 .sorted (.var 2)) (.b1 .sorted (.var 3))) (.not (.var 2))) (.cons (.ret (.bl false)) .nil) .nil) (.cons (.asg 4 (.int 0)) (.cons (.for2 5 6 (.zip (.var 2) (.var 3)) (.cons (.asg 7 (.m1 .index (.idx (.var 0) (.var 5)) (.var 6))) (.cons (.asg 8 (.m1 .index (.idx (.var 0) (.var 5)) (.idx (.var 1) (.var 5)))) (.cons (.ife (.op .gt (.var 7) (.var 8)) (.cons (.ret (.bl false)) .nil) .nil) (.cons (.asg 4 (.op .add (.var 4) (.b1 .int (.op .lt (.var 7) (.var 8))))) .nil))))) (.cons (.ret (.op .gt (.var 4) (.int 0))) .nil))))⟩
def law_k14:Fn:=⟨1,8,(.cons (.asg 1 (.call "_law_market" (.cons (.var 0) (.cons (.int 3) .nil)))) (.cons (.asg 2 (.b1 .len (.var 1))) (.cons (.asg 3 (.call "_law_some" (.cons (.call "_law_cell" (.cons (.var 0) (.cons (.int 0) .nil))) (.cons (.var 2) (.cons (.bl true) .nil))))) (.cons (.ife (.op .eq (.op .mod (.call "_law_cell" (.cons (.var 0) (.cons (.int 0) .nil))) (.int 4)) (.int 0)) (.cons (.asg 3 (.call "_law_deal" (.cons (.var 1) .nil))) .nil) .nil) (.cons (.asg 4 (.call "breakers" (.cons (.var 1) (.cons (.var 3) .nil)))) (.cons (.ife (.op .ne (.isn false (.var 4)) (.op .eq (.var 3) (.call "_law_deal" (.cons (.var 1) .nil)))) (.cons (.ret (.bl false)) .nil) .nil) (.cons (.asg 5 (.lst (.cons (.slc (.var 3) (.cons (.int 1) .nil) .nil) (.cons (.op .add (.var 3) (.tup (.cons (.int 0) .nil))) (.cons (.b1 .list (.var 3)) (.cons .non (.cons (.op .add (.slc (.var 3) (.cons (.int 1) .nil) .nil) (.tup (.cons (.var 2) .nil))) (.cons (.op .add (.slc (.var 3) (.cons (.int 1) .nil) .nil) (.tup (.cons (.int (-1)) .nil))) (.cons (.op .add (.slc (.var 3) (.cons (.int 1) .nil) .nil) (.tup (.cons (.bl true) .nil))) .nil))))))))) (.cons (.asg 5 (.op .add (.var 5) (.lst (.cons (.op .add (.slc (.var 3) (.cons (.int 1) .nil) .nil) (.tup (.cons .non .nil))) (.cons (.op .add (.slc (.var 3) (.cons (.int 1) .nil) .nil) (.tup (.cons (.str "0") .nil))) (.cons (.op .add (.slc (.var 3) (.cons (.int 1) .nil) .nil) (.tup (.cons (.lst (.cons (.int 0) .nil)) .nil))) (.cons (.op .mul (.str "0") (.var 2)) .nil))))))) (.cons (.ife (.op .ne (.call "_law_told" (.cons (.var 1) (.cons (.idx (.var 5) (.op .mod (.call "_law_cell" (.cons (.var 0) (.cons (.int 1) .nil))) (.int 11))) .nil))) (.lst (.cons (.bl true) (.cons (.bl true) .nil)))) (.cons (.ret (.bl false)) .nil) .nil) (.cons (.asg 6 (.call "_law_some" (.cons (.call "_law_cell" (.cons (.var 0) (.cons (.int 1) .nil))) (.cons (.var 2) (.cons (.bl false) .nil))))) (.cons (.asg 7 (.op .add (.slc (.var 6) (.cons (.op .mod (.call "_law_cell" (.cons (.var 0) (.cons (.int 2) .nil))) (.int 5)) .nil) .nil) (.slc (.var 6) .nil (.cons (.op .mod (.call "_law_cell" (.cons (.var 0) (.cons (.int 2) .nil))) (.int 5)) .nil)))) (.cons (.ife (.isn false (.var 4)) (.cons (.ret (.and (.not (.call "_law_breaks" (.cons (.var 1) (.cons (.var 3) (.cons (.var 6) (.cons (.var 7) .nil)))))) (.op .eq (.call "fair_deal" (.cons (.var 1) .nil)) (.var 3)))) .nil) .nil) (.cons (.ife (.or (.not (.ins .tuple (.var 4))) (.or (.op .ne (.b1 .len (.var 4)) (.int 2)) (.not (.ins .tuple (.idx (.var 4) (.int 0)))))) (.cons (.ret (.bl false)) .nil) .nil) (.cons (.ife (.op .ne (.b1 .list (.idx (.var 4) (.int 0))) (.sset (.idx (.var 4) (.int 0)))) (.cons (.ret (.bl false)) .nil) .nil) (.cons (.ret (.and (.ins .tuple (.idx (.var 4) (.int 1))) (.call "_law_breaks" (.cons (.var 1) (.cons (.var 3) (.cons (.idx (.var 4) (.int 0)) (.cons (.idx (.var 4) (.int 1)) .nil))))))) .nil)))))))))))))))⟩
def T_k14:Tab:=("is_number_below",f_is_number_below)::("are_unlike_numbers_below",f_are_unlike_numbers_below)::("has_each_number_below",f_has_each_number_below)::("is_market",f_is_market)::("checked_market",f_checked_market)::("checked_deal",f_checked_deal)::("liked_best",f_liked_best)::("stands_in_a_ring",f_stands_in_a_ring)::("pairs_by_round",f_pairs_by_round)::("fair_deal",f_fair_deal)::("breakers",f_breakers)::("_law_cell",fL_cell)::("_law_mix",fL_mix)::("_law_some",fL_some)::("_law_market",fL_market)::("_law_deal",fL_deal)::("_law_told",fL_told)::("_law_breaks",fL_breaks)::("law",law_k14)::[]
end Lf
namespace Lp
open Lf
open PySem (Str)
section
variable {C:Str->List D->R D} (ρ:Env)
@[simp] theorem v_var (i:Nat):ev C (.var i) ρ=(match ρ[i]? with | some (some (d,_))=>if isDc d then .un else .ok d | _=>.un):=(rfl)
@[simp] theorem dc_non:isDc .non=false:=rfl
@[simp] theorem dc_int (i:Int):isDc (.int i)=false:=rfl
@[simp] theorem dc_bl (i:Bool):isDc (.bl i)=false:=rfl
@[simp] theorem dc_str (i:Str):isDc (.str i)=false:=rfl
@[simp] theorem dc_tup (i:List D):isDc (.tup i)=false:=rfl
@[simp] theorem dc_lst (i:List D):isDc (.lst i)=false:=rfl
theorem v_is {C:Str->List D->R D} {ρ:Env} {i:Nat} {d:D} {b:Bool} (h:ρ[i]?=some (some (d,b))) (hd:isDc d=false):ev C (.var i) ρ=.ok d:=by rw[v_var,h]; simp[hd]
@[simp] theorem v_int (i:Int):ev C (.int i) ρ=.ok (.int i):=(rfl)
@[simp] theorem v_bl (b:Bool):ev C (.bl b) ρ=.ok (.bl b):=(rfl)
@[simp] theorem v_non:ev C .non ρ=.ok .non:=(rfl)
@[simp] theorem v_op (o:Op) (a b:Ex):ev C (.op o a b) ρ=(ev C a ρ >>= λx=>ev C b ρ >>= λy=>op2 o x y):=(rfl)
@[simp] theorem v_chn (o o':Op) (a b c:Ex):ev C (.chn o o' a b c) ρ=(ev C a ρ >>= λx=>ev C b ρ >>= λy=>op2 o x y >>= λz=>
   match z with
   | .bl true=>ev C c ρ >>= λw=>op2 o' y w
   | .bl false=>.ok (.bl false)
   | _=>.un):=(rfl)
@[simp] theorem v_isn (neg:Bool) (a:Ex):ev C (.isn neg a) ρ=(ev C a ρ >>= λx=>.ok (.bl (isNon x != neg))):=(rfl)
@[simp] theorem v_ist (a:Ex):ev C (.ist a) ρ=(ev C a ρ >>= λx=>match x with | .bl b=>.ok (.bl b) | _=>.un):=(rfl)
@[simp] theorem v_and (a b:Ex):ev C (.and a b) ρ=(ev C a ρ >>= λx=>match x with | .bl true=>ev C b ρ | .bl false=>.ok (.bl false) | _=>.un):=(rfl)
@[simp] theorem v_not (a:Ex):ev C (.not a) ρ=(ev C a ρ >>= λx=>match x with | .bl b=>.ok (.bl (!b)) | _=>.un):=(rfl)
@[simp] theorem v_call (f:Str) (as:Exs):ev C (.call f as) ρ=(evs C as ρ >>= λxs=>C f xs):=(rfl)
@[simp] theorem v_b1 (f:B1) (a:Ex):ev C (.b1 f a) ρ=(ev C a ρ >>= λx=>call1 f x):=(rfl)
@[simp] theorem v_ins (t:Ty) (a:Ex):ev C (.ins t a) ρ=(ev C a ρ >>= λx=>.ok (.bl (isTy t x))):=(rfl)
@[simp] theorem v_idx (a b:Ex):ev C (.idx a b) ρ=(ev C a ρ >>= λx=>ev C b ρ >>= λy=>idx2 x y):=(rfl)
@[simp] theorem v_slc (a:Ex) (lo hi:Exs):ev C (.slc a lo hi) ρ=(ev C a ρ >>= λx=>evs C lo ρ >>= λl=>bound l >>= λl=>evs C hi ρ >>= λh=>bound h >>= λh=>cutD l h x):=(rfl)
@[simp] theorem v_m1 (m:M1) (o a:Ex):ev C (.m1 m o a) ρ=(ev C o ρ >>= λx=>ev C a ρ >>= λy=>meth1 m x y):=(rfl)
@[simp] theorem v_tup (as:Exs):ev C (.tup as) ρ=(evs C as ρ >>= λxs=>if fits xs.length then .ok (.tup xs) else .un):=(rfl)
@[simp] theorem v_lst (as:Exs):ev C (.lst as) ρ=(evs C as ρ >>= λxs=>if fits xs.length then .ok (.lst xs) else .un):=(rfl)
@[simp] theorem v_rep (a b:Ex):ev C (.rep a b) ρ=(ev C a ρ >>= λx=>ev C b ρ >>= λy=>repD x y):=(rfl)
@[simp] theorem v_rngL (t:Bool) (a:Ex):ev C (.rngL t a) ρ=(ev C a ρ >>= λx=>rngD t x):=(rfl)
@[simp] theorem vs_nil:evs C .nil ρ=.ok []:=(rfl)
@[simp] theorem vs_cons (a:Ex) (r:Exs):evs C (.cons a r) ρ=(ev C a ρ >>= λx=>evs C r ρ >>= λxs=>.ok (x::xs)):=(rfl)
@[simp] theorem t_or (a b:Ex):tst C (.or a b) ρ=(tst C a ρ >>= λk=>if k then .ok true else tst C b ρ):=(rfl)
@[simp] theorem t_not (a:Ex):tst C (.not a) ρ=(tst C a ρ >>= λk=>.ok (!k)):=(rfl)
@[simp] theorem t_var (i:Nat):tst C (.var i) ρ=(ev C (.var i) ρ >>= truth):=(rfl)
@[simp] theorem t_op (o:Op) (a b:Ex):tst C (.op o a b) ρ=(ev C (.op o a b) ρ >>= truth):=(rfl)
@[simp] theorem t_isn (neg:Bool) (a:Ex):tst C (.isn neg a) ρ=(ev C (.isn neg a) ρ >>= truth):=(rfl)
@[simp] theorem t_call (f:Str) (as:Exs):tst C (.call f as) ρ=(ev C (.call f as) ρ >>= truth):=(rfl)
@[simp] theorem t_ins (t:Ty) (a:Ex):tst C (.ins t a) ρ=(ev C (.ins t a) ρ >>= truth):=(rfl)
@[simp] theorem ts_nil':tsts C .nil ρ=.ok true:=(rfl)
@[simp] theorem ts_cons' (a:Ex) (r:Exs):tsts C (.cons a r) ρ=(tst C a ρ >>= λk=>if k then tsts C r ρ else .ok false):=(rfl)
@[simp] theorem i_seq (a:Ex):evI C (.seq a) ρ=(ev C a ρ >>= λx=>match seqOf x with | some xs=>if fits xs.length then .ok xs else .un | none=>.un):=(rfl)
@[simp] theorem i_rng (a:Ex):evI C (.rng a) ρ=(ev C a ρ >>= λx=>match x with | .int n=>if -(line:Int)<=n/\n<=(line:Int) then .ok (rangeD n) else .un | _=>.un):=(rfl)
@[simp] theorem i_enu (a:Ex):evI C (.enu a) ρ=(ev C a ρ >>= λx=>match seqOf x with | some xs=>if fits xs.length then .ok (enumD 0 xs) else .un | none=>.un):=(rfl)
@[simp] theorem x_nil:exs C .nil ρ=.ok (.nx ρ):=(rfl)
@[simp] theorem x_cons (a:Sm) (r:Sms):exs C (.cons a r) ρ=(exm C a ρ >>= λk=>match k with | .nx ρ'=>exs C r ρ' | .rt d=>.ok (.rt d)):=(rfl)
@[simp] theorem m_asg (i:Nat) (e:Ex):exm C (.asg i e) ρ=(ev C e ρ >>= λd=>.ok (.nx (give e ρ i d))):=(rfl)
@[simp] theorem m_ret (e:Ex):exm C (.ret e) ρ=(ev C e ρ >>= λd=>.ok (.rt d)):=(rfl)
@[simp] theorem m_ife (c:Ex) (a b:Sms):exm C (.ife c a b) ρ=(tst C c ρ >>= λk=>if k then exs C a ρ else exs C b ρ):=(rfl)
@[simp] theorem m_app (i:Nat) (e:Ex):exm C (.app i e) ρ=(match ρ[i]? with
  | some (some (.lst xs,true))=>ev C e ρ >>= λd=>if noL d&&fits (xs.length+1) then .ok (.nx (ρ.set i (some (.lst (xs++[d]),true)))) else .un
  | _=>.un):=(rfl)
@[simp] theorem m_for1 (i:Nat) (it:It) (b:Sms):exm C (.for1 i it b) ρ=(evI C it ρ >>= λxs=>forR (λx ρ=>exs C b (ρ.set i (some (x,false)))) xs (unown (holdsI it) ρ)):=(rfl)
end
theorem x_nx {C:Str->List D->R D} {ρ ρ':Env} {a:Sm} {r:Sms} (h:exm C a ρ=.ok (.nx ρ')):exs C (.cons a r) ρ=exs C r ρ':=by rw[x_cons,h]; rfl
theorem x_rt {C:Str->List D->R D} {ρ:Env} {d:D} {a:Sm} {r:Sms} (h:exm C a ρ=.ok (.rt d)):exs C (.cons a r) ρ=.ok (.rt d):=by rw[x_cons,h]; rfl
theorem x_asg {C:Str->List D->R D} {ρ:Env} {d:D} {i:Nat} {e:Ex} {r:Sms} (h:ev C e ρ=.ok d):exs C (.cons (.asg i e) r) ρ=exs C r (give e ρ i d):=x_nx (by rw[m_asg,h]; rfl)
theorem x_ret {C:Str->List D->R D} {ρ:Env} {d:D} {e:Ex} {r:Sms} (h:ev C e ρ=.ok d):exs C (.cons (.ret e) r) ρ=.ok (.rt d):=x_rt (by rw[m_ret,h]; rfl)
theorem x_if {C:Str->List D->R D} {ρ:Env} {k:Bool} {c:Ex} {a b r:Sms} (h:tst C c ρ=.ok k):exs C (.cons (.ife c a b) r) ρ=(exs C (if k then a else b) ρ >>= λk=>match k with | .nx ρ'=>exs C r ρ' | .rt d=>.ok (.rt d)):=by rw[x_cons,m_ife,h]; cases k <;> rfl
@[simp] theorem g_plain {ρ:Env} {e:Ex} {i:Nat} {d:D} (h:noL d=true):give e ρ i d=ρ.set i (some (d,false)):=by rw[give,if_pos h]
@[simp] theorem g_own {ρ:Env} {e:Ex} {i:Nat} {xs:List D} (h:noLs xs=true) (hf:former e=true):give e ρ i (.lst xs)=ρ.set i (some (.lst xs,true)):=by rw[give,if_neg (by simp[noL]),if_pos (by simp[owns,hf,flatL,h])]
theorem x_as {C:Str->List D->R D} {ρ:Env} {d:D} {i:Nat} {e:Ex} {r:Sms} (h:ev C e ρ=.ok d) (hn:noL d=true):exs C (.cons (.asg i e) r) ρ=exs C r (ρ.set i (some (d,false))):=(x_asg h).trans (by rw[g_plain hn])
theorem x_ow {C:Str->List D->R D} {ρ:Env} {xs:List D} {i:Nat} {e:Ex} {r:Sms} (h:ev C e ρ=.ok (.lst xs)) (hn:noLs xs=true) (hf:former e=true):exs C (.cons (.asg i e) r) ρ=exs C r (ρ.set i (some (.lst xs,true))):=(x_asg h).trans (by rw[g_own hn hf])
theorem x_then {C:Str->List D->R D} {ρ:Env} {c:Ex} {a b r:Sms} (h:tst C c ρ=.ok true):exs C (.cons (.ife c a b) r) ρ=(exs C a ρ >>= λk=>match k with | .nx ρ'=>exs C r ρ' | .rt d=>.ok (.rt d)):=x_if h
theorem x_else {C:Str->List D->R D} {ρ:Env} {c:Ex} {a b r:Sms} (h:tst C c ρ=.ok false):exs C (.cons (.ife c a b) r) ρ=(exs C b ρ >>= λk=>match k with | .nx ρ'=>exs C r ρ' | .rt d=>.ok (.rt d)):=x_if h
theorem x_thenN {C:Str->List D->R D} {ρ ρ':Env} {c:Ex} {a b r:Sms} (h:tst C c ρ=.ok true) (h':exs C a ρ=.ok (.nx ρ')):exs C (.cons (.ife c a b) r) ρ=exs C r ρ':=(x_then h).trans (by rw[h']; rfl)
theorem x_skip {C:Str->List D->R D} {ρ:Env} {c:Ex} {a r:Sms} (h:tst C c ρ=.ok false):exs C (.cons (.ife c a .nil) r) ρ=exs C r ρ:=(x_else h).trans (by simp)
theorem x_retif {C:Str->List D->R D} {ρ:Env} {c e:Ex} {d:D} {a b r:Sms} (h:tst C c ρ=.ok true) (h':ev C e ρ=.ok d):exs C (.cons (.ife c (.cons (.ret e) a) b) r) ρ=.ok (.rt d):=(x_then h).trans (by rw[x_ret h']; rfl)
@[simp] theorem n_non:noL .non=true:=(rfl)
@[simp] theorem n_str (i:Str):noL (.str i)=true:=(rfl)
@[simp] theorem n_tup (xs:List D):noL (.tup xs)=noLs xs:=(rfl)
@[simp] theorem n_lst (xs:List D):noL (.lst xs)=false:=(rfl)
@[simp] theorem n_nil:noLs []=true:=(rfl)
@[simp] theorem n_cons (x:D) (xs:List D):noLs (x::xs)=(noL x&&noLs xs):=(rfl)
@[simp] theorem tr_bl (b:Bool):truth (.bl b)=.ok b:=(rfl)
theorem fits_of {n:Nat} (h:n<=1000000):fits n=true:=decide_eq_true (by rw[line_eq]; exact h)
@[simp] theorem fits0:fits 0=true:=fits_of (by decide)
@[simp] theorem fits1:fits 1=true:=fits_of (by decide)
@[simp] theorem fits2:fits 2=true:=fits_of (by decide)
theorem run_rt {T:Tab} {f:Str} {fn:Fn} {ds:List D} {d:D} {n:Nat} (e:T.lookup f=some fn) (h:ds.length=fn.ps) (hx:exs (run T n) fn.body (startE fn ds)=.ok (.rt d)):run T (n+1) f ds=.ok d:=by
 conv=>lhs; unfold run
 rw[e]
 simp only[h,if_true,hx]
theorem run_xn {T:Tab} {f:Str} {fn:Fn} {ds:List D} {c:Str} {o:Option D} {n:Nat} (e:T.lookup f=some fn) (h:ds.length=fn.ps) (hx:∀ k,exs (run T n) fn.body (startE fn ds) ≠ .ok k) (hc:xs (run T n) fn.body (startE fn ds)=some (c,o)):run T (n+1) f ds=.xn c o:=by
 conv=>lhs; unfold run
 rw[e]
 simp only[h,if_true]
 cases q:exs (run T n) fn.body (startE fn ds) with
 | ok k=>exact absurd q (hx k)
 | xn _ _=>simp only[hc]
 | un=>simp only[hc]
abbrev nD (n:Nat):D:=.int (n:Int)
def nsD (l:List Nat):List D:=l.map nD
def below (d:D) (e:Int):Bool:=match d with
 | .int i=>decide (0<=i)&&decide (i<e)
 | _=>false
@[simp] theorem o_lt (a b:Int):op2 .lt (.int a) (.int b)=.ok (.bl (decide (a<b))):=(rfl)
@[simp] theorem o_le (a b:Int):op2 .le (.int a) (.int b)=.ok (.bl (decide (a<=b))):=(rfl)
theorem r_below {T:Tab} (h:T.lookup ("is_number_below" : Str)=some f_is_number_below) (n:Nat) (d:D) (e:Int) (hd:isDc d=false:=by rfl):run T (n+1) "is_number_below" [d,.int e]=.ok (.bl (below d e)):=by
 refine run_rt h rfl ?_
 cases d <;> try (cases hd; done)
 all_goals simp[f_is_number_below,startE,isTy,below]
 rename_i i
 by_cases h0:0<=i <;> simp[h0]
theorem mapR_map {α:Type} {f:D->R (Option D)} {k:α->D} {g:α->Option D}:∀ {l:List α},(∀ a ∈ l,f (k a)=.ok (g a))->mapR f (l.map k)=.ok (l.filterMap g)
 | [],_=>rfl
 | a::l,h=>by
  rw[List.map_cons,mapR,h a (List.mem_cons_self ..),R.bind_ok,mapR_map λb hb=>h b (List.mem_cons_of_mem _ hb),R.bind_ok]
  cases e:g a <;> simp[List.filterMap_cons,e]
theorem mapR_all {α β:Type} {f:D->R (Option D)} {k:α->D} {k':β->D} {g:α->β} {l:List α} (h:∀ a ∈ l,f (k a)=.ok (some (k' (g a)))):mapR f (l.map k)=.ok ((l.map g).map k'):=by
 rw[mapR_map (g:=λa=>some (k' (g a))) h]
 simp[List.filterMap_eq_map']
theorem mapR_filter {α:Type} {f:D->R (Option D)} {k:α->D} {p:α->Bool} {l:List α} (h:∀ a ∈ l,f (k a)=.ok (if p a then some (k a) else none)):mapR f (l.map k)=.ok ((l.filter p).map k):=by
 rw[mapR_map h]
 congr 1
 clear h
 induction l with
 | nil=>rfl
 | cons a l ih=>cases e:p a <;> simp[List.filterMap_cons,e,ih]
theorem forR_ok {f:D->Env->R Fl} (I:Nat->Env->Prop) {xs:List D} {ρ:Env} (h0:I 0 ρ) (hs:∀ k x ρ,xs[k]?=some x->I k ρ->∃ ρ',f x ρ=.ok (.nx ρ')/\I (k+1) ρ'):∃ ρ',forR f xs ρ=.ok (.nx ρ')/\I xs.length ρ':=by
 induction xs generalizing I ρ with
 | nil=>exact⟨ρ,rfl,h0⟩
 | cons x r ih=>
  obtain⟨ρ1,e1,i1⟩:=hs 0 x ρ rfl h0
  obtain⟨ρ2,e2,i2⟩:=ih (λk=>I (k+1)) i1 λk y ρ e i=>hs (k+1) y ρ (by simpa using e) i
  exact⟨ρ2,by rw[forR,e1]; exact e2,i2⟩
theorem forR_or {f:D->Env->R Fl} (I:Nat->Env->Prop) (Q:D->Prop) {xs:List D} {ρ:Env} (h0:I 0 ρ) (hs:∀ k x ρ,xs[k]?=some x->I k ρ->(∃ ρ',f x ρ=.ok (.nx ρ')/\I (k+1) ρ')\/∃ d,f x ρ=.ok (.rt d)/\Q d):(∃ ρ',forR f xs ρ=.ok (.nx ρ')/\I xs.length ρ')\/∃ d,forR f xs ρ=.ok (.rt d)/\Q d:=by
 induction xs generalizing I ρ with
 | nil=>exact .inl ⟨ρ,rfl,h0⟩
 | cons x r ih=>
  rcases hs 0 x ρ rfl h0 with⟨ρ1,e1,i1⟩ | ⟨d,e1,q⟩
  ·rcases ih (λk=>I (k+1)) i1 λk y ρ e i=>hs (k+1) y ρ (by simpa using e) i with⟨ρ2,e2,i2⟩ | ⟨d,e2,q⟩
   ·exact .inl ⟨ρ2,by rw[forR,e1]; exact e2,i2⟩
   ·exact .inr ⟨d,by rw[forR,e1]; exact e2,q⟩
  ·exact .inr ⟨d,by rw[forR,e1]; rfl,q⟩
theorem rangeD_nat (n:Nat):rangeD (n:Int)=(List.range n).map nD:=by simp[rangeD,nD]
theorem evI_rng_nat {C:Str->List D->R D} {a:Ex} {ρ:Env} {n:Nat} (h:ev C a ρ=.ok (nD n)) (hn:n<=1000000):evI C (.rng a) ρ=.ok ((List.range n).map nD):=by
 rw[i_rng,h,R.bind_ok]
 simp only[nD]
 rw[if_pos (by rw[line_eq]; omega),<- rangeD_nat]
theorem atD_nat {xs:List D} {i:Nat} (h:i<xs.length):atD xs (i:Int)=.ok xs[i]:=by
 simp[atD,ixN,h]
theorem noLs_iff {xs:List D}:noLs xs=true ↔ ∀ x ∈ xs,noL x=true:=by
 induction xs with
 | nil=>simp[noLs]
 | cons x r ih=>simp[noLs,ih]
theorem noLs_map {α:Type} {k:α->D} (l:List α) (h:∀ a,noL (k a)=true):noLs (l.map k)=true:=noLs_iff.2 λx hx=>by
 obtain⟨a,_,rfl⟩:=List.mem_map.1 hx
 exact h a
@[simp] theorem noL_nsD (l:List Nat):noLs (nsD l)=true:=noLs_map l λ_=>rfl
@[simp] theorem nsD_length (l:List Nat):(nsD l).length=l.length:=by simp[nsD]
theorem inD_nat {n:Nat} {l:List Nat}:inD (nD n) (nsD l)=decide (n ∈ l):=by
 induction l with
 | nil=>simp[inD,nsD]
 | cons a l ih=>
  simp only[inD,nsD,List.map_cons,List.any_cons] at ih |-
  rw[ih]
  by_cases h:n=a <;> simp[eqD,h]
  intro h'
  exact absurd h'.symm (by omega)
@[simp] theorem lo_int (n:Nat) (i:Int):lo n (.int i)=true:=by cases n <;> rfl
theorem lo_map {α:Type} {k:α->D} {n:Nat} (l:List α) (h:∀ a,lo n (k a)=true):(l.map k).all (lo n)=true:=List.all_eq_true.2 λx hx=>by
 obtain⟨a,_,rfl⟩:=List.mem_map.1 hx
 exact h a
theorem lo_nsD (n:Nat) (l:List Nat):(nsD l).all (lo n)=true:=lo_map l λ_=>lo_int n _
@[simp] theorem o_add (a b:Int):op2 .add (.int a) (.int b)=.ok (.int (a+b)):=(rfl)
@[simp] theorem o_mul (a b:Int) (h:small a=true):op2 .mul (.int a) (.int b)=.ok (.int (a*b)):=(if_pos (by rw[h]; rfl))
theorem o_mul' (a b:Int) (h:small b=true):op2 .mul (.int a) (.int b)=.ok (.int (a*b)):=(if_pos (by rw[h,Bool.or_true]))
@[simp] theorem o_mod (a b:Int) (h:0<b):op2 .mod (.int a) (.int b)=.ok (.int (a % b)):=if_pos h
@[simp] theorem o_eq (a b:D) (h:lo 9 a=true):op2 .eq a b=.ok (.bl (eqD a b)):=if_pos h
@[simp] theorem o_ne (a b:D) (h:lo 9 a=true):op2 .ne a b=.ok (.bl (!eqD a b)):=by
 have:op2 .ne a b=if lo 9 a then .ok (.bl (!eqD a b)) else .un:=by cases a <;> rfl
 rw[this,h]; rfl
theorem e_int (a b:Int):eqD (.int a) (.int b)=(a==b):=(rfl)
theorem e_bl (a b:Bool):eqD (.bl a) (.bl b)=(a==b):=(rfl)
@[simp] theorem o_gt (a b:Int):op2 .gt (.int a) (.int b)=.ok (.bl (decide (b<a))):=(rfl)
@[simp] theorem o_inl (a:D) (xs:List D) (h:lo 9 a=true):op2 .isin a (.lst xs)=.ok (.bl (inD a xs)):=if_pos h
@[simp] theorem o_int (a:D) (xs:List D) (h:lo 9 a=true):op2 .isin a (.tup xs)=.ok (.bl (inD a xs)):=if_pos h
@[simp] theorem o_nil (a:D) (xs:List D) (h:lo 9 a=true):op2 .notin a (.lst xs)=.ok (.bl (!inD a xs)):=if_pos h
@[simp] theorem o_catt (a b:List D) (h:a.length+b.length<=1000000):op2 .add (.tup a) (.tup b)=.ok (.tup (a++b)):=if_pos (fits_of h)
@[simp] theorem c_len (a:List D):call1 .len (.lst a)=.ok (.int a.length):=(rfl)
@[simp] theorem c_lent (a:List D):call1 .len (.tup a)=.ok (.int a.length):=(rfl)
@[simp] theorem c_tup (a:List D):call1 .tuple (.lst a)=.ok (.tup a):=(rfl)
@[simp] theorem x_idx (xs:List D) (i:Int):idx2 (.lst xs) (.int i)=atD xs i:=(rfl)
@[simp] theorem x_idxt (xs:List D) (i:Int):idx2 (.tup xs) (.int i)=atD xs i:=(rfl)
@[simp] theorem small29:small 29=true:=by simp[small,big_eq]
@[simp] theorem smallM:small 48271=true:=by simp[small,big_eq]
@[simp] theorem o_mulM (a:Int):op2 .mul (.int a) (.int 48271)=.ok (.int (a*48271)):=o_mul' _ _ smallM
theorem small_nat {n:Nat} (h:n<=1000000):small (n:Int)=true:=by simp[small,big_eq]; omega
@[simp] theorem o_mulN (a:Int) (d:Nat) (h:d<=1000000):op2 .mul (.int a) (.int (d:Int))=.ok (.int (a*(d:Int))):=o_mul' _ _ (small_nat h)
def cell (ns:List Int) (k:Int):Int:=ns.getD k.toNat 0
theorem r_cell {T:Tab} (h:T.lookup ("_law_cell" : Str)=some fL_cell) (n:Nat) (ns:List Int) (k:Int) (h0:0<=k):run T (n+1) "_law_cell" [.lst (ns.map .int),.int k]=.ok (.int (cell ns k)):=by
 refine run_rt h rfl ?_
 simp only[fL_cell,startE,cell]
 obtain⟨k,rfl⟩:=Int.eq_ofNat_of_zero_le h0
 by_cases hk:k<ns.length
 ·simp[hk,atD_nat]
 ·simp[hk]
def mix (c p m:Int):Int:=c*48271 % p % m
theorem r_mix {T:Tab} (h:T.lookup ("_law_mix" : Str)=some fL_mix) (n:Nat) (c p m:Int) (hp:0<p) (hm:0<m):run T (n+1) "_law_mix" [.int c,.int p,.int m]=.ok (.int (mix c p m)):=by
 refine run_rt h rfl ?_
 simp[fL_mix,startE,hp,hm,mix]
theorem mix_nat {c p m:Int} (hm:0<m):∃ k:Nat,mix c p m=(k:Int)/\(k:Int)<m:=by
 have h1:=Int.emod_nonneg (c*48271 % p) (by omega:m ≠ 0)
 have h2:=Int.emod_lt_of_pos (c*48271 % p) hm
 exact⟨(mix c p m).toNat,by unfold mix; omega,by unfold mix; omega⟩
theorem pairsOf_map (ps:List (Int × Int)):pairsOf (ps.map pairD)=some ps:=by
 induction ps with
 | nil=>rfl
 | cons p ps ih=>simp[pairsOf,pairD] at ih |-; simp[ih]
theorem sortD_pairs {ps:List (Int × Int)} (hn:ps.Nodup) (hl:ps.length<64):sortD (ps.map pairD)=.ok ((sortP ps).map pairD):=by
 unfold sortD
 rw[if_pos (by simp; omega)]
 cases ps with
 | nil=>rfl
 | cons p r=>
  have:intsOf ((p::r).map pairD)=none:=rfl
  simp only[this,pairsOf_map]
  rw[if_pos hn]
theorem intsOf_nat (l:List Int):intsOf (l.map .int)=some l:=by
 induction l with
 | nil=>rfl
 | cons a l ih=>simp[intsOf,ih]
structure Some1 (l:List Nat) (many:Nat) (full:Bool):Prop where
 nd:l.Nodup
 lt:∀ x ∈ l,x<many
 full:full=true->l.Perm (List.range many)
@[simp] theorem v_comp {C:Str->List D->R D} (ρ:Env) (two:Bool) (elt:Ex) (it:It) (ifs:Exs):ev C (.comp two elt it ifs) ρ=(evI C it ρ >>= λxs=>
   mapR (λd=>tgt two d >>= λe=>tsts C ifs (ρ++e) >>= λk=>
    if k then ev C elt (ρ++e) >>= λy=>.ok (some y) else .ok none) xs >>= λys=>.ok (.lst ys)):=(rfl)
@[simp] theorem tgt1 (d:D):tgt false d=.ok [some (d,false)]:=(rfl)
theorem r_some {T:Tab} (hm:T.lookup ("_law_mix" : Str)=some fL_mix) (h:T.lookup ("_law_some" : Str)=some fL_some) (n:Nat) (c:Int) (many:Nat) (hy:many<=5) (full:Bool) :
  ∃ l,Some1 l many full/\run T (n+2) "_law_some" [.int c,nD many,.bl full]=.ok (.tup (nsD l)):=by
 let ps:List (Int × Int):=(List.range many).map λ(k:Nat)=>(mix (c+29*(k:Int)*(k:Int)) 9931 997,(k:Int))
 have hn:ps.Nodup:=List.Pairwise.map _ (λa b h e=>h (by simp at e; omega)) (List.nodup_range (n:=many))
 have hp:=sortP_perm ps
 let l:List Nat:=(sortP ps).map λp=>p.2.toNat
 have hl:l.Perm (List.range many):=by
  have:=hp.map λp=>p.2.toNat
  refine this.trans ?_
  simp[ps,Function.comp_def]
 have hl2:(sortP ps).map (λp=>D.int p.2)=nsD l:=by
  simp only[l,nsD,List.map_map]
  refine List.map_congr_left λp hp'=>?_
  have:=hp.mem_iff.1 hp'
  simp only[ps,List.mem_map] at this
  obtain⟨k,_,rfl⟩:=this
  simp[nD]
 have hr:(List.range many).map nD=nsD (List.range many):=rfl
 have hc1:∀ k ∈ List.range many,k<=1000000:=λk hk=>by have:=List.mem_range.1 hk; omega
 have f1:noLs (ps.map pairD)=true:=noLs_map _ λ_=>rfl
 have f2:sortD (ps.map pairD)=.ok ((sortP ps).map pairD):=sortD_pairs hn (by simp[ps]; omega)
 have f3:fits (sortP ps).length=true:=fits_of (by simp[hp.length_eq,ps]; omega)
 have f4:noLs (nsD l)=true:=noL_nsD l
 have f5:∀ p ∈ sortP ps,0<=p.2:=λp hp'=>by
  have:=hp.mem_iff.1 hp'
  simp only[ps,List.mem_map] at this
  obtain⟨k,_,rfl⟩:=this
  simp
 have w1:(sortP ps).map pairD=(sortP ps).map pairD:=rfl
 have go:∀ d,exs (run T (n+1)) (.cons (.ife (.var 2) (.cons (.ret (.b1 .tuple (.var 4))) .nil) .nil) (.cons (.ret (.b1 .tuple (.slc (.var 4) .nil (.cons (.call "_law_mix" (.cons (.var 0) (.cons (.int 9941) (.cons (.op .add (.var 1) (.int 1)) .nil)))) .nil)))) .nil)) [some (.int c,false),some (nD many,false),some (.bl full,false),some (.lst (ps.map pairD),true),some (.lst (nsD l),true)]=.ok (.rt d)->run T (n+2) "_law_some" [.int c,nD many,.bl full]=.ok d:=by
  intro d hd
  refine run_rt h rfl ?_
  refine(x_ow (xs:=ps.map pairD) ?_ f1 rfl).trans ?_
  ·rw[v_comp,evI_rng_nat (n:=many) (by simp[startE]) (by omega),R.bind_ok,mapR_all (k':=pairD) (g:=λ(k:Nat)=>(mix (c+29*(k:Int)*(k:Int)) 9931 997,(k:Int))) (h:=?_)]
   ·rfl
   ·intro d hd
    simp[startE,fL_some,hc1 d hd,r_mix hm,pairD]
  refine(x_ow (xs:=nsD l) ?_ f4 rfl).trans hd
  simp[startE,fL_some,call1,f2,seqOf,f3]
  rw[mapR_all (k':=D.int) (g:=λp=>p.2) (h:=?_)]
  ·simp[<- hl2,Function.comp_def]
  ·intro p hp'
   simp[pairD,atD,ixN]
 cases full with
 | true=>
  refine⟨l,⟨hl.nodup_iff.2 List.nodup_range,λx hx=>List.mem_range.1 (hl.mem_iff.1 hx),λ_=>hl⟩,go _ (x_retif rfl rfl)⟩
 | false=>
  obtain⟨k,hk,_⟩:=mix_nat (c:=c) (p:=9941) (m:=(many:Int)+1) (by omega)
  refine⟨l.take k,⟨(hl.nodup_iff.2 List.nodup_range).sublist (List.take_sublist ..),λx hx=>List.mem_range.1 (hl.mem_iff.1 (List.mem_of_mem_take hx)),λh=>by cases h⟩,go _ ((x_skip rfl).trans (x_ret ?_))⟩
  simp[r_mix hm,show (0:Int)<(many:Int)+1 by omega,bound,hk,cutD,cut,sIx]
  rw[if_neg (by omega)]
  simp[nsD]
end Lp
namespace Mt
variable (pr:Nat->List Nat)
def best (left:List Nat) (i:Nat):Nat:=((pr i).filter λh=>left.contains h).headD 0
def minus (left R:List Nat):List Nat:=left.filter λi=>!R.contains i
variable {pr}
theorem mem_minus {l R:List Nat} {i:Nat}:i ∈ minus l R ↔ i ∈ l/\i ∉ R:=by simp[minus]
theorem minus_nodup {l R:List Nat} (h:l.Nodup):(minus l R).Nodup:=h.filter _
theorem minus_sub {l R:List Nat}:∀ i ∈ minus l R,i ∈ l:=λi h=>(mem_minus.1 h).1
theorem minus_len {l R:List Nat} (hR:R ≠ []) (hs:∀ i ∈ R,i ∈ l):(minus l R).length<l.length:=by
 cases R with
 | nil=>exact absurd rfl hR
 | cons x R=>
  have hx:x ∈ l:=hs x List.mem_cons_self
  have h1:=List.length_filter_lt_length_iff_exists (p:=λi=>!(x::R).contains i) (l:=l)
  exact h1.2 ⟨x,hx,by simp⟩
structure Wish (pr:Nat->List Nat) (left:List Nat):Prop where
 all:∀ i ∈ left,∀ h ∈ left,h ∈ pr i
theorem Wish.minus {left:List Nat} (W:Wish pr left) (R:List Nat):Wish pr (minus left R):=⟨λi hi h hh=>W.all i (minus_sub _ hi) h (minus_sub _ hh)⟩
theorem head_best {l:List Nat} {p:Nat->Bool} {h:Nat} (hh:h ∈ l) (hp:p h=true):(l.filter p).headD 0 ∈ l/\p ((l.filter p).headD 0)=true/\l.idxOf ((l.filter p).headD 0)<=l.idxOf h:=by
 induction l with
 | nil=>cases hh
 | cons a l ih=>
  cases e:p a with
  | true=>
   have:((a::l).filter p).headD 0=a:=by rw[List.filter_cons_of_pos e]; rfl
   rw[this]
   exact⟨List.mem_cons_self,e,by simp⟩
  | false=>
   have:((a::l).filter p).headD 0=(l.filter p).headD 0:=by rw[List.filter_cons_of_neg (by simp[e])]
   rw[this]
   have hne:h ≠ a:=λz=>by rw[z,e] at hp; cases hp
   have hh':h ∈ l:=by
    rcases List.mem_cons.1 hh with z | z
    ·exact absurd z hne
    ·exact z
   obtain⟨i1,i2,i3⟩:=ih hh'
   have hna:(l.filter p).headD 0 ≠ a:=λz=>by rw[z,e] at i2; cases i2
   refine⟨List.mem_cons_of_mem _ i1,i2,?_⟩
   rw[List.idxOf_cons,List.idxOf_cons]
   have c1:(a==(l.filter p).headD 0)=false:=by simpa using Ne.symm hna
   have c2:(a==h)=false:=by simpa using Ne.symm hne
   rw[c1,c2]
   simpa using i3
theorem best_in {left:List Nat} (W:Wish pr left) {i:Nat} (hi:i ∈ left):best pr left i ∈ left:=by
 have:=(head_best (l:=pr i) (p:=λh=>left.contains h) (W.all i hi i hi) (by simpa using hi)).2.1
 simpa [best] using this
theorem best_le {left:List Nat} (W:Wish pr left) {i h:Nat} (hi:i ∈ left) (hh:h ∈ left):(pr i).idxOf (best pr left i)<=(pr i).idxOf h:=
 (head_best (l:=pr i) (p:=λh=>left.contains h) (W.all i hi h hh) (by simpa using hh)).2.2
theorem idx_inj {l:List Nat} {a b:Nat} (ha:a ∈ l) (h:l.idxOf a=l.idxOf b):a=b:=by
 have h1:=List.getElem_idxOf (List.idxOf_lt_length_of_mem ha)
 have hb:l.idxOf b<l.length:=by rw[<- h]; exact List.idxOf_lt_length_of_mem ha
 have h2:=List.getElem_idxOf hb
 rw[<- h1,<- h2]
 simp only[h]
theorem best_sub {left l':List Nat} (W:Wish pr left) {i:Nat} (hs:∀ x ∈ l',x ∈ left) (hi:i ∈ l') (hb:best pr left i ∈ l'):best pr l' i=best pr left i:=by
 have W':Wish pr l':=⟨λi hi h hh=>W.all i (hs i hi) h (hs h hh)⟩
 have a:=best_le W' hi hb
 have b:=best_le W (hs i hi) (hs _ (best_in W' hi))
 exact idx_inj (W.all i (hs i hi) _ (hs _ (best_in W' hi))) (Nat.le_antisymm a b)
theorem onto {L:List Nat} {f:Nat->Nat} (hn:L.Nodup) (hc:∀ i ∈ L,f i ∈ L) (hj:∀ i ∈ L,∀ j ∈ L,f i=f j->i=j) {y:Nat} (hy:y ∈ L):∃ z ∈ L,f z=y:=by
 refine Classical.byContradiction λno=>?_
 have hm:(L.map f).Nodup:=by
  rw[List.nodup_iff_pairwise_ne,List.pairwise_map]
  exact hn.imp_of_mem λ{a b} ha hb hab z=>hab (hj a ha b hb z)
 have hs:L.map f ⊆ L.erase y:=λx hx=>by
  obtain⟨z,hz,rfl⟩:=List.mem_map.1 hx
  exact(List.mem_erase_of_ne λe=>no ⟨z,hz,e⟩).2 (hc z hz)
 have:=hm.length_le_of_subset hs
 rw[List.length_map,List.length_erase_of_mem hy] at this
 have:=List.length_pos_of_mem hy
 omega
structure Ring (pr:Nat->List Nat) (left R:List Nat) (f:Nat->Nat):Prop where
 nd:R.Nodup
 sub:∀ i ∈ R,i ∈ left
 bst:∀ i ∈ R,f i=best pr left i
 cls:∀ i ∈ R,f i ∈ R
 inj:∀ i ∈ R,∀ j ∈ R,f i=f j->i=j
inductive TTC (pr:Nat->List Nat):List Nat->(Nat->Nat)->Prop
 | nil {f:Nat->Nat}:TTC pr [] f
 | step {left R:List Nat} {f:Nat->Nat}:R ≠ []->Ring pr left R f->TTC pr (minus left R) f->TTC pr left f
theorem rest_closed {R T:List Nat} {f:Nat->Nat} (hn:R.Nodup) (hc:∀ i ∈ R,f i ∈ R) (hj:∀ i ∈ R,∀ j ∈ R,f i=f j->i=j) (hT:∀ i ∈ R,i ∈ T->f i ∈ T):∀ i ∈ R,i ∉ T->f i ∉ T:=λi hi hiT hf=>by
 obtain⟨z,hz,e⟩:=onto (L:=R.filter λx=>T.contains x) (f:=f) (hn.filter _) (λx hx=>by
  obtain⟨a,b⟩:=List.mem_filter.1 hx
  exact List.mem_filter.2 ⟨hc x a,by simpa using hT x a (by simpa using b)⟩) (λx hx y hy=>hj x (List.mem_filter.1 hx).1 y (List.mem_filter.1 hy).1) (y:=f i) (List.mem_filter.2 ⟨hc i hi,by simpa using hf⟩)
 obtain⟨a,b⟩:=List.mem_filter.1 hz
 have:=hj z a i hi e
 subst this
 exact hiT (by simpa using b)
theorem minus2 {left A B C D:List Nat} (h:∀ i,(i ∈ A\/i ∈ B) ↔ (i ∈ C\/i ∈ D)):minus (minus left A) B=minus (minus left C) D:=by
 unfold minus
 rw[List.filter_filter,List.filter_filter]
 refine List.filter_congr λi _=>?_
 have:=h i
 by_cases a:i ∈ A <;> by_cases b:i ∈ B <;> by_cases c:i ∈ C <;> by_cases d:i ∈ D <;> simp[a,b,c,d] at this |-
theorem minus_nil (l:List Nat):minus l []=l:=by simp[minus]
theorem TTC.rem {left:List Nat} {g:Nat->Nat} (h:TTC pr left g):Wish pr left->∀ {R:List Nat} {f:Nat->Nat},Ring pr left R f->(∀ i ∈ R,g i=f i)/\TTC pr (minus left R) g:=by
 induction h with
 | nil=>
  intro W R f hR
  have:R=[]:=by
   cases R with
   | nil=>rfl
   | cons x R=>exact absurd (hR.sub x List.mem_cons_self) (by simp)
  subst this
  exact⟨λ_ z=>(nomatch z),.nil⟩
 | @step left S g hS0 hS ht ih=>
  intro W R f hR
  have eqg:∀ i ∈ R,i ∈ S->g i=f i:=λi a b=>by rw[hS.bst i b,hR.bst i a]
  have c1:∀ i ∈ R,i ∉ S->f i ∉ S:=rest_closed hR.nd hR.cls hR.inj λi a b=>by rw[<- eqg i a b]; exact hS.cls i b
  have c2:∀ i ∈ S,i ∉ R->g i ∉ R:=rest_closed hS.nd hS.cls hS.inj λi a b=>by rw[eqg i b a]; exact hR.cls i b
  have r1:Ring pr (minus left S) (minus R S) f:=by
   refine⟨minus_nodup hR.nd,λi hi=>?_,λi hi=>?_,λi hi=>?_,λi hi j hj=>hR.inj i (minus_sub _ hi) j (minus_sub _ hj)⟩
   ·obtain⟨a,b⟩:=mem_minus.1 hi
    exact mem_minus.2 ⟨hR.sub i a,b⟩
   ·obtain⟨a,b⟩:=mem_minus.1 hi
    rw[hR.bst i a]
    refine(best_sub W minus_sub (mem_minus.2 ⟨hR.sub i a,b⟩) ?_).symm
    rw[<- hR.bst i a]
    exact mem_minus.2 ⟨hR.sub _ (hR.cls i a),c1 i a b⟩
   ·obtain⟨a,b⟩:=mem_minus.1 hi
    exact mem_minus.2 ⟨hR.cls i a,c1 i a b⟩
  obtain⟨e1,t1⟩:=ih (W.minus S) r1
  refine⟨λi hi=>?_,?_⟩
  ·by_cases hs:i ∈ S
   ·exact eqg i hi hs
   ·exact e1 i (mem_minus.2 ⟨hi,hs⟩)
  ·have e2:minus (minus left S) (minus R S)=minus (minus left R) (minus S R):=minus2 λi=>by
    simp only[mem_minus]
    by_cases a:i ∈ S <;> by_cases b:i ∈ R <;> simp[a,b]
   rw[e2] at t1
   by_cases hz:minus S R=[]
   ·rw[hz,minus_nil] at t1
    exact t1
   ·refine .step hz ⟨minus_nodup hS.nd,λi hi=>?_,λi hi=>?_,λi hi=>?_,λi hi j hj=>hS.inj i (minus_sub _ hi) j (minus_sub _ hj)⟩ t1
    ·obtain⟨a,b⟩:=mem_minus.1 hi
     exact mem_minus.2 ⟨hS.sub i a,b⟩
    ·obtain⟨a,b⟩:=mem_minus.1 hi
     rw[hS.bst i a]
     refine(best_sub W minus_sub (mem_minus.2 ⟨hS.sub i a,b⟩) ?_).symm
     rw[<- hS.bst i a]
     exact mem_minus.2 ⟨hS.sub _ (hS.cls i a),c2 i a b⟩
    ·obtain⟨a,b⟩:=mem_minus.1 hi
     exact mem_minus.2 ⟨hS.cls i a,c2 i a b⟩
theorem TTC.uniq {left:List Nat} {f g:Nat->Nat} (h:TTC pr left f):Wish pr left->TTC pr left g->∀ i ∈ left,f i=g i:=by
 induction h with
 | nil=>exact λ_ _ i z=>nomatch z
 | @step left R f h0 hR ht ih=>
  intro W hg i hi
  obtain⟨e,t⟩:=hg.rem W hR
  by_cases hr:i ∈ R
  ·exact(e i hr).symm
  ·exact ih (W.minus R) t i (mem_minus.2 ⟨hi,hr⟩)
theorem TTC.core {left:List Nat} {f:Nat->Nat} (h:TTC pr left f):Wish pr left->∀ {S:List Nat} {g:Nat->Nat},S.Nodup->(∀ i ∈ S,i ∈ left)->(∀ i ∈ S,g i ∈ S)->(∀ i ∈ S,∀ j ∈ S,g i=g j->i=j)->(∀ i ∈ S,(pr i).idxOf (g i)<=(pr i).idxOf (f i))->∀ i ∈ S,g i=f i:=by
 induction h with
 | nil=>exact λ_ _ _ _ hs _ _ _ i hi=>absurd (hs i hi) (by simp)
 | @step left R f h0 hR ht ih=>
  intro W S g nd hs hc hj hb i hi
  have e1:∀ i ∈ S,i ∈ R->g i=f i:=λi a b=>by
   have h1:=hb i a
   have h2:=best_le W (hs i a) (hs _ (hc i a))
   rw[<- hR.bst i b] at h2
   exact idx_inj (W.all i (hs i a) _ (hs _ (hc i a))) (Nat.le_antisymm h1 h2)
  have c1:=rest_closed nd hc hj (T:=R) λi a b=>by rw[e1 i a b]; exact hR.cls i b
  by_cases hr:i ∈ R
  ·exact e1 i hi hr
  ·exact ih (W.minus R) (S:=minus S R) (minus_nodup nd) (λi hi=>mem_minus.2 ⟨hs i (minus_sub _ hi),(mem_minus.1 hi).2⟩) (λi hi=>mem_minus.2 ⟨hc i (minus_sub _ hi),c1 i (minus_sub _ hi) (mem_minus.1 hi).2⟩) (λi hi j hj'=>hj i (minus_sub _ hi) j (minus_sub _ hj')) (λi hi=>hb i (minus_sub _ hi)) i (mem_minus.2 ⟨hi,hr⟩)
end Mt
namespace Mt
def it (g:Nat->Nat):Nat->Nat->Nat
 | 0,x=>x
 | n+1,x=>g (it g n x)
variable {g:Nat->Nat}
theorem it_add (a:Nat):∀ (b x:Nat),it g (b+a) x=it g b (it g a x)
 | 0,x=>by rw[Nat.zero_add]; rfl
 | b+1,x=>by
  rw[show b+1+a=b+a+1 by omega]
  show g (it g (b+a) x)=g (it g b (it g a x))
  rw[it_add a b x]
theorem it_s (n x:Nat):it g (n+1) x=it g n (g x):=it_add 1 n x
def onR (g:Nat->Nat) (o:Nat):Prop:=∃ p,it g (p+1) o=o
theorem onR_g {o:Nat} (h:onR g o):onR g (g o):=by
 obtain⟨p,e⟩:=h
 refine⟨p,?_⟩
 rw[<- it_s]
 show g (it g (p+1) o)=g o
 rw[e]
theorem onR_it {o:Nat} (h:onR g o):∀ n,onR g (it g n o)
 | 0=>h
 | n+1=>onR_g (onR_it h n)
theorem it_mul {o p:Nat} (e:it g p o=o):∀ q,it g (q*p) o=o
 | 0=>by rw[Nat.zero_mul]; rfl
 | q+1=>by rw[Nat.succ_mul,it_add,e,it_mul e q]
theorem onR_inj {i j:Nat} (hi:onR g i) (hj:onR g j) (h:g i=g j):i=j:=by
 obtain⟨p,a⟩:=hi
 obtain⟨q,b⟩:=hj
 have a':=it_mul a (q+1)
 have b':=it_mul b (p+1)
 rw[Nat.mul_comm] at b'
 obtain⟨k,hk⟩:∃ k,(q+1)*(p+1)=k+1:=⟨(q+1)*(p+1)-1,(Nat.sub_add_cancel (Nat.mul_pos (Nat.succ_pos q) (Nat.succ_pos p))).symm⟩
 rw[hk,it_s] at a' b'
 rw[<- a',<- b',h]
theorem it_inj {i j:Nat} (hi:onR g i) (hj:onR g j):∀ n,it g n i=it g n j->i=j
 | 0,h=>h
 | n+1,h=>it_inj hi hj n (onR_inj (onR_it hi n) (onR_it hj n) h)
theorem it_mem {L:List Nat} (hc:∀ i ∈ L,g i ∈ L) {o:Nat} (ho:o ∈ L):∀ n,it g n o ∈ L
 | 0=>ho
 | n+1=>hc _ (it_mem hc ho n)
theorem nodup_it {o:Nat} {n:Nat} (h:∀ a b,a<b->b<n->it g a o ≠ it g b o):((List.range n).map λs=>it g s o).Nodup:=by
 rw[List.nodup_iff_pairwise_ne,List.pairwise_map]
 refine(List.pairwise_lt_range (n:=n)).imp_of_mem λ{a b} ha hb hab=>h a b hab (List.mem_range.1 hb)
theorem onR_far {L:List Nat} (hc:∀ i ∈ L,g i ∈ L) {o:Nat} (ho:o ∈ L):onR g (it g L.length o):=by
 refine Classical.byContradiction λno=>?_
 have hn:((List.range (L.length+1)).map λs=>it g s o).Nodup:=nodup_it λa b hab hb e=>no (by
  have:onR g (it g a o):=⟨b-a-1,by rw[show b-a-1+1=b-a by omega,<- it_add,show b-a+a=b by omega,e]⟩
  have:=onR_it this (L.length-a)
  rwa [<- it_add,show L.length-a+a=L.length by omega] at this)
 have:=hn.length_le_of_subset (l₂:=L) λx hx=>by
  obtain⟨s,_,rfl⟩:=List.mem_map.1 hx
  exact it_mem hc ho s
 simp at this
 omega
theorem walk_all {o t:Nat} (h:it g (t+1) o ∈ (List.range t).map λs=>it g (s+1) o):∀ s,it g (s+1) o ∈ (List.range t).map λs=>it g (s+1) o
 | 0=>by
  cases t with
  | zero=>simp at h
  | succ t=>exact List.mem_map.2 ⟨0,List.mem_range.2 (by omega),rfl⟩
 | s+1=>by
  obtain⟨k,hk,e⟩:=List.mem_map.1 (walk_all h s)
  have hk:=List.mem_range.1 hk
  have e2:it g (s+1+1) o=it g (k+1+1) o:=congrArg g e.symm
  rw[e2]
  rcases Nat.lt_or_ge (k+1) t with z | z
  ·exact List.mem_map.2 ⟨k+1,List.mem_range.2 z,rfl⟩
  ·have:k+1=t:=by omega
   rw[this]
   exact h
theorem walk_iff {o t:Nat} (h:it g (t+1) o ∈ (List.range t).map λs=>it g (s+1) o):o ∈ ((List.range t).map λs=>it g (s+1) o) ↔ onR g o:=by
 refine⟨λq=>?_,λ⟨p,e⟩=>?_⟩
 ·obtain⟨s,_,e⟩:=List.mem_map.1 q
  exact⟨s,e⟩
 ·have:=walk_all h p
  rwa [e] at this
variable {pr:Nat->List Nat}
theorem Ring.of_on {left R:List Nat} (hn:R.Nodup) (hs:∀ i ∈ R,i ∈ left) (ho:∀ i ∈ R,onR (best pr left) i) (hc:∀ i ∈ R,best pr left i ∈ R):Ring pr left R (best pr left):=
 ⟨hn,hs,λ_ _=>rfl,hc,λi hi j hj=>onR_inj (ho i hi) (ho j hj)⟩
theorem ring_all {left R:List Nat} (W:Wish pr left) (hn:left.Nodup) (h0:left ≠ []) (p:Nat->Bool) (hp:∀ i ∈ left,(p i=true ↔ onR (best pr left) i)):left.filter p ≠ []/\Ring pr left (left.filter p) (best pr left):=by
 have hc:∀ i ∈ left,best pr left i ∈ left:=λi hi=>best_in W hi
 refine⟨λz=>?_,Ring.of_on (hn.filter _) (λi hi=>(List.mem_filter.1 hi).1) (λi hi=>?_) (λi hi=>?_)⟩
 ·cases left with
  | nil=>exact h0 rfl
  | cons a l=>
   have h1:=onR_far hc (List.mem_cons_self (a:=a) (l:=l))
   have h2:=it_mem hc (List.mem_cons_self (a:=a) (l:=l)) (a::l).length
   exact absurd (List.mem_filter.2 ⟨h2,(hp _ h2).2 h1⟩) (by rw[z]; simp)
 ·obtain⟨a,b⟩:=List.mem_filter.1 hi
  exact(hp i a).1 b
 ·obtain⟨a,b⟩:=List.mem_filter.1 hi
  exact List.mem_filter.2 ⟨hc i a,(hp _ (hc i a)).2 (onR_g ((hp i a).1 b))⟩
theorem walk_nd {o t:Nat} (ho:onR g o) (h:∀ s,s<t->it g (s+1) o ≠ o):((List.range (t+1)).map λs=>it g s o).Nodup:=
 nodup_it λa b hab hb e=>h (b-a-1) (by omega) (by
  rw[show b-a-1+1=b-a by omega]
  have:it g a (it g (b-a) o)=it g a o:=by rw[<- it_add,show a+(b-a)=b by omega,e]
  exact it_inj (onR_it ho _) ho a this)
theorem ring_one {left:List Nat} (W:Wish pr left) {o t:Nat} (hl:o ∈ left) (ho:onR (best pr left) o) (h:∀ s,s<t->it (best pr left) (s+1) o ≠ o) (he:it (best pr left) (t+1) o=o):Ring pr left ((List.range (t+1)).map λs=>it (best pr left) s o) (best pr left):=by
 have hc:∀ i ∈ left,best pr left i ∈ left:=λi hi=>best_in W hi
 refine Ring.of_on (walk_nd ho h) (λi hi=>?_) (λi hi=>?_) (λi hi=>?_)
 ·obtain⟨s,_,rfl⟩:=List.mem_map.1 hi
  exact it_mem hc hl s
 ·obtain⟨s,_,rfl⟩:=List.mem_map.1 hi
  exact onR_it ho s
 ·obtain⟨s,hs,rfl⟩:=List.mem_map.1 hi
  have hs:=List.mem_range.1 hs
  show it (best pr left) (s+1) o ∈ _
  rcases Nat.lt_or_ge s t with z | z
  ·exact List.mem_map.2 ⟨s+1,List.mem_range.2 (by omega),rfl⟩
  ·have:s=t:=by omega
   rw[this,he]
   exact List.mem_map.2 ⟨0,List.mem_range.2 (by omega),rfl⟩
theorem Ring.congr {left R:List Nat} {f h:Nat->Nat} (r:Ring pr left R f) (e:∀ i ∈ R,h i=f i):Ring pr left R h:=
 ⟨r.nd,r.sub,λi hi=>(e i hi).trans (r.bst i hi),λi hi=>by rw[e i hi]; exact r.cls i hi,λi hi j hj=>by rw[e i hi,e j hj]; exact r.inj i hi j hj⟩
theorem TTC.congr {left:List Nat} {f:Nat->Nat} (t:TTC pr left f):∀ {h:Nat->Nat},(∀ i ∈ left,h i=f i)->TTC pr left h:=by
 induction t with
 | nil=>exact λ_=>.nil
 | @step left R f h0 r t ih=>exact λ{h} e=>.step h0 (r.congr λi hi=>e i (r.sub i hi)) (ih λi hi=>e i (minus_sub i hi))
inductive Rounds (pr:Nat->List Nat):List Nat->List (List (Nat × Nat))->Prop
 | nil:Rounds pr [] []
 | step {left R:List Nat} {rs:List (List (Nat × Nat))}:R ≠ []->R.Sublist left->Ring pr left R (best pr left)->Rounds pr (minus left R) rs->Rounds pr left (R.map (λo=>(o,best pr left o))::rs)
theorem Rounds.deal {left:List Nat} {rs:List (List (Nat × Nat))} (h:Rounds pr left rs):∃ f,TTC pr left f/\(∀ r ∈ rs,∀ p ∈ r,p.1 ∈ left/\p.2=f p.1)/\∀ o ∈ left,∃ r ∈ rs,(o,f o) ∈ r:=by
 induction h with
 | nil=>exact⟨id,.nil,λ_ z=>(nomatch z),λ_ z=>(nomatch z)⟩
 | @step left R rs h0 _ r t ih=>
  obtain⟨f,t1,t2,t3⟩:=ih
  refine⟨λo=>if o ∈ R then best pr left o else f o,.step h0 (r.congr λi hi=>if_pos hi) (t1.congr λi hi=>if_neg (mem_minus.1 hi).2),λq hq p hp=>?_,λo ho=>?_⟩
  ·rcases List.mem_cons.1 hq with rfl | hq
   ·obtain⟨o,ho,rfl⟩:=List.mem_map.1 hp
    exact⟨r.sub o ho,(if_pos ho).symm⟩
   ·obtain⟨a,b⟩:=t2 q hq p hp
    exact⟨minus_sub _ a,b.trans (if_neg (mem_minus.1 a).2).symm⟩
  ·by_cases hR:o ∈ R
   ·exact⟨_,List.mem_cons_self,List.mem_map.2 ⟨o,hR,Prod.ext rfl (if_pos hR).symm⟩⟩
   ·obtain⟨q,hq,e⟩:=t3 o (mem_minus.2 ⟨ho,hR⟩)
    exact⟨q,List.mem_cons_of_mem _ hq,(Prod.ext rfl (if_neg hR):(o,if o ∈ R then best pr left o else f o)=(o,f o)) ▸ e⟩
end Mt
namespace Lp
open Lf
open PySem (Str)
def mkD (M:List (List Nat)):D:=.tup (M.map λw=>.tup (nsD w))
def prM (M:List (List Nat)) (i:Nat):List Nat:=M.getD i []
structure GoodM (M:List (List Nat)):Prop where
 l1:1<=M.length
 l5:M.length<=5
 w:∀ w ∈ M,w.Perm (List.range M.length)
theorem prM_mem {M:List (List Nat)} {i:Nat} (h:i<M.length):prM M i ∈ M:=by
 unfold prM
 rw[List.getD_eq_getElem?_getD,List.getElem?_eq_getElem h]
 exact List.getElem_mem h
theorem GoodM.pr {M:List (List Nat)} (G:GoodM M) {i:Nat} (h:i<M.length):(prM M i).Perm (List.range M.length):=G.w _ (prM_mem h)
theorem GoodM.len {M:List (List Nat)} (G:GoodM M) {i:Nat} (h:i<M.length):(prM M i).length=M.length:=by
 have:=(G.pr h).length_eq
 rwa [List.length_range] at this
theorem GoodM.wish {M:List (List Nat)} (G:GoodM M) {left:List Nat} (hl:∀ i ∈ left,i<M.length):Mt.Wish (prM M) left:=⟨λi hi h hh=>(G.pr (hl i hi)).mem_iff.2 (List.mem_range.2 (hl h hh))⟩
def kvG (g:Nat->Nat) (l:List Nat):List (Int × Int):=l.map λ(k:Nat)=>((k:Int),(g k:Int))
theorem kv_look {g:Nat->Nat} {k:Nat}:∀ {l:List Nat},k ∈ l->(kvG g l).lookup (k:Int)=some (g k:Int)
 | a::l,h=>by
  show (((a:Int),(g a:Int))::kvG g l).lookup (k:Int)=_
  rw[List.lookup_cons]
  by_cases e:k=a
  ·subst e
   simp
  ·have:((k:Int)==(a:Int))=false:=by simp; omega
   rw[this]
   exact kv_look ((List.mem_cons.1 h).resolve_left e)
theorem kv_none {g:Nat->Nat} {k:Nat}:∀ {l:List Nat},k ∉ l->(kvG g l).lookup (k:Int)=none
 | [],_=>rfl
 | a::l,h=>by
  show (((a:Int),(g a:Int))::kvG g l).lookup (k:Int)=_
  rw[List.mem_cons,not_or] at h
  rw[List.lookup_cons]
  have:((k:Int)==(a:Int))=false:=by simp; omega
  rw[this]
  exact kv_none h.2
section
variable {C:Str->List D->R D} {ρ:Env}
theorem v_dix {i k:Nat} {e:Ex} {b:Bool} {g:Nat->Nat} {l:List Nat} (h:ρ[i]?=some (some (.dct (kvG g l),b))) (he:ev C e ρ=.ok (nD k)) (hk:k ∈ l):ev C (.dix i e) ρ=.ok (nD (g k)):=by
 rw[ev_dix,he,R.bind_ok,h]
 show (match (kvG g l).lookup (k:Int) with | some v=>R.ok (D.int v) | none=>.un)=_
 rw[kv_look hk]
theorem dcR_nat {f:Int->Env->R D} {i j:Nat} {g:Nat->Nat} {L:List Nat} (P:Env->Prop) (hP:∀ ρ k,P ρ->P (ρ.set j (some (nD k,false)))) (hf:∀ ρ k,k ∈ L->P ρ->f (k:Int) ρ=.ok (nD (g k))) :
  ∀ (l m:List Nat) (ρ:Env),(∀ k ∈ l,k ∈ L)->(m++l).Nodup->(m++l).length<=1000000->P ρ->∃ ρ',P ρ'/\dcR f i j (nsD l) ρ (kvG g m)=.ok (ρ'.set i (some (.dct (kvG g (m++l)),false)))
 | [],m,ρ,_,_,_,p=>⟨ρ,p,by rw[List.append_nil]; rfl⟩
 | k::l,m,ρ,hl,hn,hz,p=>by
  have hk:k ∉ m:=λz=>(List.nodup_append.1 hn).2.2 k z k List.mem_cons_self rfl
  obtain⟨ρ',p',e⟩:=dcR_nat P hP hf l (m++[k]) (ρ.set j (some (nD k,false))) (λx hx=>hl x (List.mem_cons_of_mem _ hx)) (by rw[List.append_assoc]; exact hn) (by rw[List.append_assoc]; exact hz) (hP ρ k p)
  refine⟨ρ',p',?_⟩
  show (match (kvG g m).lookup (k:Int) with
   | some _=>R.un
   | none=>f (k:Int) ρ >>= λx=>match x with
    | .int v=>if fits ((kvG g m).length+1) then dcR f i j (nsD l) (ρ.set j (some (.int k,false))) (kvG g m++[((k:Int),v)]) else .un
    | _=>.un)=_
  rw[kv_none hk]
  show (f (k:Int) ρ >>= _)=_
  rw[hf ρ k (hl k List.mem_cons_self) p,R.bind_ok]
  have hz':(kvG g m).length+1<=1000000:=by
   rw[List.length_append,List.length_cons] at hz
   unfold kvG
   rw[List.length_map]
   omega
  show (if fits ((kvG g m).length+1) then dcR f i j (nsD l) (ρ.set j (some (.int k,false))) (kvG g m++[((k:Int),(g k:Int))]) else .un)=_
  rw[if_pos (fits_of hz')]
  have:kvG g m++[((k:Int),(g k:Int))]=kvG g (m++[k]):=by simp[kvG]
  rw[this,e,List.append_assoc]
  rfl
theorem seq_row {M:List (List Nat)} {a b:Ex} {o:Nat} (G:GoodM M) (ha:ev C a ρ=.ok (mkD M)) (hb:ev C b ρ=.ok (nD o)) (ho:o<M.length):evI C (.seq (.idx a b)) ρ=.ok (nsD (prM M o)):=by
 have hl:=G.len ho
 have h5:=G.l5
 have e:(M.map λw=>D.tup (nsD w))[o]?=some (.tup (nsD (prM M o))):=by
  rw[List.getElem?_map,prM,List.getD_eq_getElem?_getD,List.getElem?_eq_getElem ho]
  rfl
 have hz:fits (nsD (prM M o)).length=true:=fits_of (by rw[nsD_length]; omega)
 obtain⟨hlt,e'⟩:=List.getElem?_eq_some_iff.1 e
 rw[i_seq,v_idx,ha,R.bind_ok,hb,R.bind_ok,mkD,x_idxt,atD_nat hlt,e',R.bind_ok]
 simp only[seqOf]
 rw[if_pos hz]
theorem v_best {M:List (List Nat)} {a b:Ex} {o v:Nat} {left:List Nat} {fl:Bool} (G:GoodM M) (ha:ev C a ρ=.ok (mkD M)) (hb:ev C b ρ=.ok (nD o)) (hl:∀ i ∈ left,i<M.length) (ho:o ∈ left) (hv:ρ.length=v) (h1:ρ[1]?=some (some (.lst (nsD left),fl))) :
  ev C (.idx (.comp false (.var v) (.seq (.idx a b)) (.cons (.op .isin (.var v) (.var 1)) .nil)) (.int 0)) ρ=.ok (nD (Mt.best (prM M) left o)):=by
 have h1':1 < ρ.length:=(List.getElem?_eq_some_iff.1 h1).1
 rw[v_idx,v_comp,seq_row G ha hb (hl o ho),R.bind_ok,nsD,mapR_filter (p:=λh=>left.contains h) (h:=?_),R.bind_ok,R.bind_ok,v_int,R.bind_ok,x_idx]
 ·have hm:o ∈ (prM M o).filter λh=>left.contains h:=List.mem_filter.2 ⟨(G.wish hl).all o ho o ho,by simpa using ho⟩
  show atD (((prM M o).filter λh=>left.contains h).map nD) 0=.ok (nD (((prM M o).filter λh=>left.contains h).headD 0))
  cases q:(prM M o).filter λh=>left.contains h with
  | nil=>rw[q] at hm; cases hm
  | cons x r=>
   rw[List.map_cons]
   exact(atD_nat (i:=0) (xs:=nD x::r.map nD) (Nat.succ_pos _)).trans rfl
 ·intro h hh
  subst hv
  have e1:(ρ++[some (nD h,false)])[ρ.length]?=some (some (nD h,false)):=by simp
  have e2:(ρ++[some (nD h,false)])[1]?=some (some (.lst (nsD left),fl)):=by rw[List.getElem?_append_left h1',h1]
  rw[tgt1,R.bind_ok,ts_cons',t_op,v_op,v_is e1 rfl,R.bind_ok,v_is e2 rfl,R.bind_ok,o_inl _ _ (lo_int _ _),inD_nat]
  by_cases q:h ∈ left <;> simp[q]
end
theorem r_liked {T:Tab} {M:List (List Nat)} (hT:T.lookup ("liked_best" : Str)=some f_liked_best) (G:GoodM M) (n o:Nat) {left:List Nat} (hl:∀ i ∈ left,i<M.length) (ho:o ∈ left):run T (n+1) "liked_best" [mkD M,.lst (nsD left),nD o]=.ok (nD (Mt.best (prM M) left o)):=by
 refine run_rt hT rfl (x_ret ?_)
 exact v_best (fl:=false) G (v_is rfl rfl) (v_is rfl rfl) hl ho rfl rfl
theorem wh_ok {c:Env->R Bool} {f:Env->R Fl} (I:Nat->Env->Prop) (P:Env->Prop) (hs:∀ m ρ,I m ρ->(c ρ=.ok false/\P ρ)\/(c ρ=.ok true/\∃ ρ' m',f ρ=.ok (.nx ρ')/\m'<m/\I m' ρ')):∀ (k m:Nat) (ρ:Env),m<k->I m ρ->∃ ρ',whR c f k ρ=.ok (.nx ρ')/\P ρ'
 | 0,m,ρ,h,_=>absurd h (Nat.not_lt_zero _)
 | k+1,m,ρ,h,hI=>by
  rcases hs m ρ hI with⟨h1,h2⟩ | ⟨h1,ρ',m',h2,h3,h4⟩
  ·refine⟨ρ,?_,h2⟩
   show (c ρ >>= λk'=>if k' then f ρ >>= λz=>match z with | .nx ρ'=>whR c f k ρ' | .rt d=>.ok (.rt d) else .ok (.nx ρ))=_
   rw[h1]
   rfl
  ·obtain⟨ρ'',e,hp⟩:=wh_ok I P hs k m' ρ' (by omega) h4
   refine⟨ρ'',?_,hp⟩
   show (c ρ >>= λk'=>if k' then f ρ >>= λz=>match z with | .nx ρ'=>whR c f k ρ' | .rt d=>.ok (.rt d) else .ok (.nx ρ))=_
   rw[h1,R.bind_ok,if_pos rfl,h2,R.bind_ok]
   exact e
theorem m_whl {C:Str->List D->R D} {ρ:Env} (c:Ex) (b:Sms):exm C (.whl c b) ρ=whR (λρ=>tst C c ρ) (λρ=>exs C b ρ) 1000 ρ:=(rfl)
theorem x_whlE {C:Str->List D->R D} {ρ:Env} {c:Ex} {b:Sms} (I:Nat->Env->Prop) {m:Nat} (hm:m<1000) (h0:I m ρ) (P:Env->Prop)
  (hs:∀ m ρ,I m ρ->(tst C c ρ=.ok false/\P ρ)\/(tst C c ρ=.ok true/\∃ ρ' m',exs C b ρ=.ok (.nx ρ')/\m'<m/\I m' ρ')):∃ ρ',P ρ'/\∀ r,exs C (.cons (.whl c b) r) ρ=exs C r ρ':=by
 obtain⟨ρ',e,hp⟩:=wh_ok I P hs 1000 m ρ hm h0
 exact⟨ρ',hp,λr=>x_nx ((m_whl c b).trans e)⟩
theorem x_app {C:Str->List D->R D} {ρ:Env} {i:Nat} {e:Ex} {r:Sms} {xs:List D} {d:D} (hi:ρ[i]?=some (some (.lst xs,true))) (he:ev C e ρ=.ok d) (h1:noL d=true) (h2:xs.length+1<=1000000) :
  exs C (.cons (.app i e) r) ρ=exs C r (ρ.set i (some (.lst (xs++[d]),true))):=by
 refine x_nx ?_
 rw[m_app,hi]
 simp only[he,R.bind_ok,h1,fits_of h2,Bool.and_self,if_true]
def pas (g:Nat->Nat) (o t:Nat):List Nat:=(List.range t).map λs=>Mt.it g (s+1) o
theorem pas_s (g:Nat->Nat) (o t:Nat):pas g o (t+1)=pas g o t++[Mt.it g (t+1) o]:=by
 unfold pas
 rw[List.range_succ,List.map_append]
 rfl
theorem pas_len (g:Nat->Nat) (o t:Nat):(pas g o t).length=t:=by simp[pas]
theorem nsD_app (a b:List Nat):nsD (a++b)=nsD a++nsD b:=List.map_append
theorem r_ring {T:Tab} (hT:T.lookup ("stands_in_a_ring" : Str)=some f_stands_in_a_ring) {g:Nat->Nat} {l:List Nat} (hc:∀ i ∈ l,g i ∈ l) (h5:l.length<=5) (n:Nat) {o:Nat} (ho:o ∈ l) :
  ∃ b,run T (n+1) "stands_in_a_ring" [.dct (kvG g l),nD o]=.ok (.bl b)/\(b=true ↔ Mt.onR g o):=by
 let E:Nat->Env:=λt=>[some (.dct (kvG g l),false),some (nD o,false),some (.lst (nsD (pas g o t)),true),some (nD (Mt.it g (t+1) o),false)]
 have mem:∀ t,Mt.it g t o ∈ l:=λt=>Mt.it_mem hc ho t
 obtain⟨ρ',⟨t,ht,rfl⟩,hx⟩:=x_whlE (C:=run T n) (ρ:=E 0) (c:=.op .notin (.var 3) (.var 2)) (b:=.cons (.app 2 (.var 3)) (.cons (.asg 3 (.dix 0 (.var 3))) .nil))
  (λm ρ=>∃ t,t<=l.length/\m=l.length-t/\(pas g o t).Nodup/\ρ=E t) (m:=l.length) (by omega) ⟨0,by omega,rfl,List.nodup_nil,rfl⟩ (λρ=>∃ t,Mt.it g (t+1) o ∈ pas g o t/\ρ=E t) (by
   rintro m ρ ⟨t,t1,rfl,t2,rfl⟩
   have et:tst (run T n) (.op .notin (.var 3) (.var 2)) (E t)=.ok (!decide (Mt.it g (t+1) o ∈ pas g o t)):=by
    rw[t_op,v_op,v_is (i:=3) (d:=nD (Mt.it g (t+1) o)) rfl rfl,R.bind_ok,v_is (i:=2) (d:=.lst (nsD (pas g o t))) rfl rfl,R.bind_ok,o_nil _ _ (lo_int _ _),inD_nat]
    rfl
   by_cases q:Mt.it g (t+1) o ∈ pas g o t
   ·refine .inl ⟨?_,t,q,rfl⟩
    rw[et,decide_eq_true q]
    rfl
   ·have nd:(pas g o (t+1)).Nodup:=by
     rw[pas_s]
     exact List.nodup_append.2 ⟨t2,List.pairwise_singleton _ _,λa ha b hb e=>q (by rw[List.mem_singleton] at hb; rw[<- hb,<- e]; exact ha)⟩
    have hlen:t+1<=l.length:=by
     have:=nd.length_le_of_subset (l₂:=l) λx hx=>by
      obtain⟨s,_,rfl⟩:=List.mem_map.1 hx
      exact mem (s+1)
     rwa [pas_len] at this
    refine .inr ⟨by rw[et,decide_eq_false q]; rfl,E (t+1),l.length-(t+1),?_,by omega,t+1,hlen,rfl,nd,rfl⟩
    rw[x_app (i:=2) (xs:=nsD (pas g o t)) (d:=nD (Mt.it g (t+1) o)) rfl (v_is rfl rfl) rfl (by rw[nsD_length,pas_len]; omega)]
    rw[x_as (d:=nD (Mt.it g (t+1+1) o)) (v_dix (l:=l) (g:=g) (k:=Mt.it g (t+1) o) rfl (v_is rfl rfl) (mem _)) rfl,x_nil]
    show R.ok (Fl.nx [some (.dct (kvG g l),false),some (nD o,false),some (.lst (nsD (pas g o t)++[nD (Mt.it g (t+1) o)]),true),some (nD (Mt.it g (t+1+1) o),false)])=_
    rw[show nsD (pas g o t)++[nD (Mt.it g (t+1) o)]=nsD (pas g o (t+1)) from by rw[pas_s,nsD_app]; rfl])
 refine⟨decide (o ∈ pas g o t),run_rt hT rfl ?_,?_⟩
 ·refine(x_ow (xs:=[]) (by simp) rfl rfl).trans ((x_as (d:=nD (g o)) (v_dix (l:=l) (g:=g) (k:=o) rfl (v_is rfl rfl) ho) rfl).trans ((hx _).trans (x_ret ?_)))
  rw[v_op,v_is (i:=1) (d:=nD o) rfl rfl,R.bind_ok,v_is (i:=2) (d:=.lst (nsD (pas g o t))) rfl rfl,R.bind_ok,o_inl _ _ (lo_int _ _),inD_nat]
 ·rw[decide_eq_true_iff]
  exact Mt.walk_iff ht
theorem mapR_fm {α:Type} {f:D->R (Option D)} {k k':α->D} {p:α->Bool} {l:List α} (h:∀ a ∈ l,f (k a)=.ok (if p a then some (k' a) else none)):mapR f (l.map k)=.ok ((l.filter p).map k'):=by
 rw[mapR_map h]
 congr 1
 clear h
 induction l with
 | nil=>rfl
 | cons a l ih=>cases e:p a <;> simp[List.filterMap_cons,e,ih]
theorem atD_last (xs:List D) (d:D):atD (xs++[d]) (-1)=.ok d:=by
 have h1:ixN (xs++[d]).length (-1)=some xs.length:=by
  unfold ixN
  rw[if_neg (by omega),if_pos (by rw[List.length_append,List.length_singleton]; omega),List.length_append,List.length_singleton]
  congr 1
  omega
 unfold atD
 rw[h1]
 simp
open Classical in
def onB (g:Nat->Nat) (o:Nat):Bool:=decide (Mt.onR g o)
theorem onB_iff {g:Nat->Nat} {o:Nat}:onB g o=true ↔ Mt.onR g o:=by
 unfold onB
 exact @decide_eq_true_iff _ (Classical.propDecidable _)
theorem r_ringB {T:Tab} (hT:T.lookup ("stands_in_a_ring" : Str)=some f_stands_in_a_ring) {g:Nat->Nat} {l:List Nat} (hc:∀ i ∈ l,g i ∈ l) (h5:l.length<=5) (n:Nat) {o:Nat} (ho:o ∈ l) :
  run T (n+1) "stands_in_a_ring" [.dct (kvG g l),nD o]=.ok (.bl (onB g o)):=by
 obtain⟨b,e,h⟩:=r_ring hT hc h5 n ho
 rw[e]
 have:b=onB g o:=by
  rw[Bool.eq_iff_iff,h,onB_iff]
 rw[this]
def pairN (p:Nat × Nat):D:=.tup [nD p.1,nD p.2]
def roundD (r:List (Nat × Nat)):D:=.lst (r.map pairN)
theorem flat_round (r:List (Nat × Nat)):flatL (roundD r)=true:=noLs_map r λ_=>rfl
theorem flat_rounds (rs:List (List (Nat × Nat))):(rs.map roundD).all flatL=true:=List.all_eq_true.2 λd hd=>by
 obtain⟨r,_,rfl⟩:=List.mem_map.1 hd
 exact flat_round r
abbrev eP (M:List (List Nat)) (left:List Nat) (fl:Bool) (rs:List (List (Nat × Nat))) (x y z:Option (D × Bool)):Env:=[some (mkD M,false),some (.lst (nsD left),fl),some (.lst (rs.map roundD),true),x,y,z]
def bodyP:Sms:=.cons (.dcl 3 4 (.seq (.var 1)) (.call "liked_best" (.cons (.var 0) (.cons (.var 1) (.cons (.var 4) .nil))))) (.cons (.appX 2 (.comp false (.tup (.cons (.var 6) (.cons (.dix 3 (.var 6)) .nil))) (.seq (.var 1)) (.cons (.cald "stands_in_a_ring" 3 (.var 6)) .nil))) (.cons (.asg 5 (.comp true (.var 6) (.seq (.idx (.var 2) (.int (-1)))) .nil)) (.cons (.asg 1 (.comp false (.var 6) (.seq (.var 1)) (.cons (.op .notin (.var 6) (.var 5)) .nil))) .nil)))
theorem x_dcl {C:Str->List D->R D} {ρ ρ':Env} {i j:Nat} {it:It} {e:Ex} {r:Sms} {ds:List D} (h1:evI C it (ρ.set i none)=.ok ds) (h2:dcR (λk ρ=>ev C e (ρ.set j (some (.int k,false)))) i j ds (unown (holdsI it) (ρ.set i none)) []=.ok ρ'):exs C (.cons (.dcl i j it e) r) ρ=exs C r ρ':=by
 refine x_nx ?_
 show (evI C it (ρ.set i none) >>= λds=>dcR (λk ρ=>ev C e (ρ.set j (some (.int k,false)))) i j ds (unown (holdsI it) (ρ.set i none)) [] >>= λρ'=>R.ok (Fl.nx ρ'))=_
 rw[h1,R.bind_ok,h2,R.bind_ok]
theorem x_appX {C:Str->List D->R D} {ρ:Env} {i:Nat} {e:Ex} {r:Sms} {xs:List D} {d:D} (hi:ρ[i]?=some (some (.lst xs,true))) (he:ev C e ρ=.ok d) (h1:xs.all flatL=true) (hf:former e=true) (h3:flatL d=true) (h2:xs.length+1<=1000000) :
  exs C (.cons (.appX i e) r) ρ=exs C r (ρ.set i (some (.lst (xs++[d]),true))):=by
 refine x_nx ?_
 show (match ρ[i]? with
  | some (some (.lst xs,true))=>ev C e ρ >>= λd=>if xs.all flatL&&former e&&flatL d&&fits (xs.length+1) then R.ok (Fl.nx (ρ.set i (some (.lst (xs++[d]),true)))) else .un
  | _=>.un)=_
 rw[hi]
 show (ev C e ρ >>= _)=_
 rw[he,R.bind_ok,h1,hf,h3,fits_of h2]
 rfl
theorem seq_var {C:Str->List D->R D} {ρ:Env} {i:Nat} {xs:List D} {b:Bool} (h:ρ[i]?=some (some (.lst xs,b))) (hz:xs.length<=1000000):evI C (.seq (.var i)) ρ=.ok xs:=by
 rw[i_seq,v_is h rfl,R.bind_ok]
 exact if_pos (fits_of hz)
structure Deals (T:Tab):Prop where
 liked:T.lookup ("liked_best" : Str)=some f_liked_best
 ring:T.lookup ("stands_in_a_ring" : Str)=some f_stands_in_a_ring
 pairs:T.lookup ("pairs_by_round" : Str)=some f_pairs_by_round
theorem x_round {T:Tab} {M:List (List Nat)} (U:Deals T) (G:GoodM M) (n:Nat) {left:List Nat} {fl:Bool} {rs:List (List (Nat × Nat))} {x y z:Option (D × Bool)} (hl:∀ i ∈ left,i<M.length) (hn:left.Nodup) (h5:left.length<=5) (hr:rs.length<=5) :
  ∃ x' y' z',exs (run T (n+1)) bodyP (eP M left fl rs x y z)=.ok (.nx (eP M (Mt.minus left (left.filter (onB (Mt.best (prM M) left)))) true (rs++[(left.filter (onB (Mt.best (prM M) left))).map λo=>(o,Mt.best (prM M) left o)]) x' y' z')):=by
 have W:=G.wish hl
 have hc:∀ i ∈ left,Mt.best (prM M) left i ∈ left:=λi hi=>Mt.best_in W hi
 generalize hg:Mt.best (prM M) left=g at hc |-
 have hzl:(nsD left).length<=1000000:=by rw[nsD_length]; omega
 obtain⟨ρ',⟨y',rfl⟩,e1⟩:=dcR_nat (f:=λk ρ=>ev (run T (n+1)) (.call "liked_best" (.cons (.var 0) (.cons (.var 1) (.cons (.var 4) .nil)))) (ρ.set 4 (some (.int k,false)))) (i:=3) (j:=4) (g:=g) (L:=left)
  (λρ=>∃ y',ρ=eP M left false rs none y' z) (λρ k ⟨y',e⟩=>⟨some (nD k,false),by rw[e]; rfl⟩) (λρ k hk ⟨y',e⟩=>by
   subst e
   show ev (run T (n+1)) (.call "liked_best" (.cons (.var 0) (.cons (.var 1) (.cons (.var 4) .nil)))) (eP M left false rs none (some (nD k,false)) z)=_
   rw[v_call,vs_cons,v_is (i:=0) (d:=mkD M) rfl rfl,R.bind_ok,vs_cons,v_is (i:=1) (d:=.lst (nsD left)) rfl rfl,R.bind_ok,vs_cons,v_is (i:=4) (d:=nD k) rfl rfl,R.bind_ok,vs_nil,R.bind_ok,R.bind_ok,R.bind_ok,R.bind_ok,r_liked U.liked G n k hl hk,hg]) left [] (eP M left false rs none y z) (λk hk=>hk) hn (by simpa using Nat.le_trans h5 (by decide)) ⟨y,rfl⟩
 rw[List.nil_append] at e1
 have d1:∀ r,exs (run T (n+1)) (.cons (.dcl 3 4 (.seq (.var 1)) (.call "liked_best" (.cons (.var 0) (.cons (.var 1) (.cons (.var 4) .nil))))) r) (eP M left fl rs x y z)=exs (run T (n+1)) r (eP M left false rs (some (.dct (kvG g left),false)) y' z):=λr=>
  x_dcl (ds:=nsD left) (seq_var (i:=1) (b:=fl) rfl hzl) e1
 generalize hR:left.filter (onB g)=Rg
 have hRl:Rg.length<=left.length:=by rw[<- hR]; exact List.length_filter_le _ _
 have e2:ev (run T (n+1)) (.comp false (.tup (.cons (.var 6) (.cons (.dix 3 (.var 6)) .nil))) (.seq (.var 1)) (.cons (.cald "stands_in_a_ring" 3 (.var 6)) .nil)) (eP M left false rs (some (.dct (kvG g left),false)) y' z)=.ok (roundD (Rg.map λo=>(o,g o))):=by
  rw[v_comp,seq_var (i:=1) (xs:=nsD left) (b:=false) rfl hzl,R.bind_ok,nsD,mapR_fm (p:=onB g) (k':=λo=>pairN (o,g o)) (h:=?_),R.bind_ok,hR,roundD,List.map_map]
  ·rfl
  ·intro o ho
   have q0:∀ e:Env,(eP M left false rs (some (.dct (kvG g left),false)) y' z++[some (nD o,false)])[6]?=some (some (nD o,false)):=λ_=>rfl
   rw[tgt1,R.bind_ok,ts_cons']
   rw[show tst (run T (n+1)) (.cald "stands_in_a_ring" 3 (.var 6)) (eP M left false rs (some (.dct (kvG g left),false)) y' z++[some (nD o,false)])=.ok (onB g o) from by
    rw[tst_plain _ rfl,ev_cald,v_is (q0 []) rfl,R.bind_ok]
    show (run T (n+1) "stands_in_a_ring" [.dct (kvG g left),nD o] >>= truth)=_
    rw[r_ringB U.ring hc h5 n ho]
    rfl]
   rw[R.bind_ok]
   cases onB g o with
   | false=>rfl
   | true=>
    rw[if_pos rfl,ts_nil',R.bind_ok,if_pos rfl,v_tup,vs_cons,v_is (q0 []) rfl,R.bind_ok,vs_cons,v_dix (g:=g) (l:=left) (k:=o) (b:=false) rfl (v_is (q0 []) rfl) ho,R.bind_ok,vs_nil,R.bind_ok,R.bind_ok,R.bind_ok]
    rw[if_pos (by exact fits2)]
    rfl
 refine⟨some (.dct (kvG g left),false),y',some (.lst (nsD Rg),true),?_⟩
 rw[bodyP,d1,x_appX (i:=2) (xs:=rs.map roundD) rfl e2 (flat_rounds rs) rfl (flat_round _) (by rw[List.length_map]; omega)]
 have e3:ev (run T (n+1)) (.comp true (.var 6) (.seq (.idx (.var 2) (.int (-1)))) .nil) [some (mkD M,false),some (.lst (nsD left),false),some (.lst (rs.map roundD++[roundD (Rg.map λo=>(o,g o))]),true),some (.dct (kvG g left),false),y',z]=.ok (.lst (nsD Rg)):=by
  have q:evI (run T (n+1)) (.seq (.idx (.var 2) (.int (-1)))) [some (mkD M,false),some (.lst (nsD left),false),some (.lst (rs.map roundD++[roundD (Rg.map λo=>(o,g o))]),true),some (.dct (kvG g left),false),y',z]=.ok (Rg.map λo=>pairN (o,g o)):=by
   rw[i_seq,v_idx,v_is (i:=2) (d:=.lst (rs.map roundD++[roundD (Rg.map λo=>(o,g o))])) rfl rfl,R.bind_ok,v_int,R.bind_ok,x_idx,atD_last,R.bind_ok]
   show (if fits ((Rg.map λo=>(o,g o)).map pairN).length then R.ok ((Rg.map λo=>(o,g o)).map pairN) else .un)=_
   rw[if_pos (fits_of (by simp only[List.length_map]; omega)),List.map_map]
   rfl
  rw[v_comp,q,R.bind_ok,mapR_all (k':=nD) (g:=λo=>o) (h:=?_),R.bind_ok,List.map_id']
  ·rfl
  ·intro o _
   rfl
 show exs (run T (n+1)) (.cons (.asg 5 (.comp true (.var 6) (.seq (.idx (.var 2) (.int (-1)))) .nil)) _) [some (mkD M,false),some (.lst (nsD left),false),some (.lst (rs.map roundD++[roundD (Rg.map λo=>(o,g o))]),true),some (.dct (kvG g left),false),y',z]=_
 rw[x_ow e3 (noL_nsD Rg) rfl]
 show exs (run T (n+1)) (.cons (.asg 1 (.comp false (.var 6) (.seq (.var 1)) (.cons (.op .notin (.var 6) (.var 5)) .nil))) .nil) [some (mkD M,false),some (.lst (nsD left),false),some (.lst (rs.map roundD++[roundD (Rg.map λo=>(o,g o))]),true),some (.dct (kvG g left),false),y',some (.lst (nsD Rg),true)]=_
 have e4:ev (run T (n+1)) (.comp false (.var 6) (.seq (.var 1)) (.cons (.op .notin (.var 6) (.var 5)) .nil)) [some (mkD M,false),some (.lst (nsD left),false),some (.lst (rs.map roundD++[roundD (Rg.map λo=>(o,g o))]),true),some (.dct (kvG g left),false),y',some (.lst (nsD Rg),true)]=.ok (.lst (nsD (Mt.minus left Rg))):=by
  rw[v_comp,seq_var (i:=1) (xs:=nsD left) (b:=false) rfl hzl,R.bind_ok,nsD,mapR_filter (p:=λi=>!Rg.contains i) (h:=?_),R.bind_ok]
  ·rfl
  ·intro o ho
   rw[tgt1,R.bind_ok,ts_cons',t_op,v_op,v_is (i:=6) (d:=nD o) rfl rfl,R.bind_ok,v_is (i:=5) (d:=.lst (nsD Rg)) rfl rfl,R.bind_ok,o_nil _ _ (lo_int _ _),inD_nat]
   by_cases q:o ∈ Rg <;> simp[q]
 rw[x_ow e4 (noL_nsD _) rfl,x_nil,eP,List.map_append]
 rfl
end Lp
namespace Mt
theorem len_sub {l R:List Nat} (hn:R.Nodup) (hs:∀ i ∈ R,i ∈ l):R.length<=l.length:=hn.length_le_of_subset hs
theorem Rounds.small {pr:Nat->List Nat} {left:List Nat} {rs:List (List (Nat × Nat))} (h:Rounds pr left rs):rs.length<=left.length/\∀ r ∈ rs,r.length<=left.length:=by
 induction h with
 | nil=>exact⟨Nat.le_refl _,λ_ z=>(nomatch z)⟩
 | @step left R rs h0 _ r t ih=>
  have h1:=minus_len h0 r.sub
  refine⟨by rw[List.length_cons]; omega,λq hq=>?_⟩
  rcases List.mem_cons.1 hq with rfl | hq
  ·rw[List.length_map]
   exact len_sub r.nd r.sub
  ·have:=ih.2 q hq
   omega
end Mt
namespace Lp
open Lf
open PySem (Str)
theorem v_len {C:Str->List D->R D} {ρ:Env} {e:Ex} {xs:List D} (h:ev C e ρ=.ok (.lst xs)\/ev C e ρ=.ok (.tup xs)):ev C (.b1 .len e) ρ=.ok (nD xs.length):=by
 rw[v_b1]
 rcases h with h | h <;> rw[h] <;> rfl
theorem mk_len {C:Str->List D->R D} {ρ:Env} {e:Ex} {M:List (List Nat)} (h:ev C e ρ=.ok (mkD M)):ev C (.b1 .len e) ρ=.ok (nD M.length):=by
 have:=v_len (C:=C) (ρ:=ρ) (e:=e) (xs:=M.map λw=>D.tup (nsD w)) (.inr h)
 rwa [List.length_map] at this
theorem v_rngN {C:Str->List D->R D} {ρ:Env} {e:Ex} {m:Nat} (h:ev C e ρ=.ok (nD m)) (hm:m<=1000000):ev C (.rngL false e) ρ=.ok (.lst (nsD (List.range m))):=by
 rw[v_rngL,h,R.bind_ok]
 show (if 0<=(m:Int)/\(m:Int)<=(line:Int) then R.ok (if false=true then D.tup (rangeD (m:Int)) else D.lst (rangeD (m:Int))) else .un)=_
 rw[if_pos (by rw[line_eq]; omega),rangeD_nat]
 rfl
theorem r_pairs {T:Tab} {M:List (List Nat)} (U:Deals T) (G:GoodM M) (n:Nat):∃ rs,Mt.Rounds (prM M) (List.range M.length) rs/\run T (n+2) "pairs_by_round" [mkD M]=.ok (.lst (rs.map roundD)):=by
 have g5:=G.l5
 obtain⟨ρ',⟨rs,left,fl,x,y,z,hrs,rfl⟩,hx⟩:=x_whlE (C:=run T (n+1)) (ρ:=eP M (List.range M.length) true [] none none none) (c:=.op .gt (.b1 .len (.var 1)) (.int 0)) (b:=bodyP)
  (λm ρ=>∃ left fl rs0 x y z,m=left.length/\left.Nodup/\(∀ i ∈ left,i<M.length)/\rs0.length+left.length<=5/\(∀ rs,Mt.Rounds (prM M) left rs->Mt.Rounds (prM M) (List.range M.length) (rs0++rs))/\ρ=eP M left fl rs0 x y z)
  (m:=M.length) (by omega) ⟨_,_,[],_,_,_,by rw[List.length_range],List.nodup_range,λi hi=>List.mem_range.1 hi,by rw[List.length_range]; exact(Nat.zero_add _).symm ▸ g5,λrs h=>h,rfl⟩
  (λρ=>∃ rs left fl x y z,Mt.Rounds (prM M) (List.range M.length) rs/\ρ=eP M left fl rs x y z) (by
   rintro m ρ ⟨left,fl,rs0,x,y,z,rfl,hn,hl,h5,hr,rfl⟩
   have et:tst (run T (n+1)) (.op .gt (.b1 .len (.var 1)) (.int 0)) (eP M left fl rs0 x y z)=.ok (decide ((0:Int)<(left.length:Int))):=by
    rw[t_op,v_op,v_len (xs:=nsD left) (.inl (v_is rfl rfl)),R.bind_ok,v_int,R.bind_ok,o_gt,nsD_length]
    rfl
   cases hc:left with
   | nil=>
    subst hc
    exact .inl ⟨et,rs0,[],fl,x,y,z,by have:=hr [] .nil; rwa [List.append_nil] at this,rfl⟩
   | cons a l=>
    have h0:left ≠ []:=by rw[hc]; simp
    rw[<- hc]
    have hp:0<left.length:=List.length_pos_iff.2 h0
    obtain⟨x',y',z',e⟩:=x_round (x:=x) (y:=y) (z:=z) (fl:=fl) U G n (rs:=rs0) hl hn (by omega) (by omega)
    obtain⟨r1,r2⟩:=Mt.ring_all (R:=[]) (G.wish hl) hn h0 (onB (Mt.best (prM M) left)) λi _=>onB_iff
    have hlt:=Mt.minus_len r1 r2.sub
    refine .inr ⟨by rw[et,decide_eq_true (by omega)],_,_,e,hlt,_,_,_,_,_,_,rfl,Mt.minus_nodup hn,λi hi=>hl i (Mt.minus_sub i hi),by rw[List.length_append,List.length_singleton]; omega,λrs h=>?_,rfl⟩
    rw[List.append_assoc]
    exact hr _ (.step r1 List.filter_sublist r2 h))
 refine⟨rs,hrs,run_rt U.pairs rfl ?_⟩
 refine(x_ow (xs:=nsD (List.range M.length)) (v_rngN (mk_len (v_is rfl rfl)) (by omega)) (noL_nsD _) rfl).trans ((x_ow (xs:=[]) (by simp) rfl rfl).trans ((hx _).trans (x_ret (v_is rfl rfl))))
theorem x_set {C:Str->List D->R D} {ρ:Env} {i:Nat} {k v:Ex} {r:Sms} {xs:List D} {d:D} {n:Nat} (hv:ev C v ρ=.ok d) (hi:ρ[i]?=some (some (.lst xs,true))) (hk:ev C k ρ=.ok (nD n)) (hn:n<xs.length) (h1:noL d=true) (h2:noLs xs=true) :
  exs C (.cons (.set i k v) r) ρ=exs C r (ρ.set i (some (.lst (xs.set n d),true))):=by
 refine x_nx ?_
 have:exm C (.set i k v) ρ=(ev C v ρ >>= λd=>match ρ[i]? with
  | some (some (.lst xs,true))=>ev C k ρ >>= λq=>match q with
   | .int n=>match ixN xs.length n with
    | some j=>if noL d&&noLs xs then .ok (.nx (ρ.set i (some (.lst (xs.set j d),true)))) else .un
    | none=>.un
   | _=>.un
  | _=>.un):=rfl
 rw[this,hv,R.bind_ok,hi]
 show (ev C k ρ >>= _)=_
 rw[hk,R.bind_ok]
 show (match ixN xs.length (n:Int) with | some j=>if noL d&&noLs xs then R.ok (Fl.nx (ρ.set i (some (.lst (xs.set j d),true)))) else .un | none=>.un)=_
 have hx:ixN xs.length (n:Int)=some n:=by
  unfold ixN
  rw[if_pos (by omega),if_pos (by omega),Int.toNat_natCast]
 rw[hx]
 exact if_pos (by rw[h1,h2]; rfl)
structure Dealt (n:Nat) (f:Nat->Nat) (S:Nat->Prop) (ds:List D):Prop where
 len:ds.length=n
 no:noLs ds=true
 at_:∀ o,S o->ds[o]?=some (nD (f o))
theorem Dealt.set {n:Nat} {f:Nat->Nat} {S S':Nat->Prop} {ds:List D} (h:Dealt n f S ds) {o:Nat} (ho:o<n) (hS:∀ i,S' i->S i\/i=o):Dealt n f S' (ds.set o (nD (f o))):=by
 refine⟨by rw[List.length_set]; exact h.len,noLs_iff.2 λx hx=>?_,λi hi=>?_⟩
 ·rcases List.mem_or_eq_of_mem_set hx with q | rfl
  ·exact noLs_iff.1 h.no x q
  ·rfl
 ·by_cases e:o=i
  ·subst e
   rw[List.getElem?_set_self (by rw[h.len]; exact ho)]
  ·rw[List.getElem?_set_ne e]
   exact h.at_ i ((hS i hi).resolve_right λz=>e z.symm)
theorem Dealt.all {n:Nat} {f:Nat->Nat} {S:Nat->Prop} {ds:List D} (h:Dealt n f S ds) (hS:∀ o,o<n->S o):ds=nsD ((List.range n).map f):=by
 refine List.ext_getElem? λo=>?_
 rcases Nat.lt_or_ge o n with z | z
 ·rw[h.at_ o (hS o z),nsD,List.getElem?_map,List.getElem?_map,List.getElem?_range z]
  rfl
 ·rw[List.getElem?_eq_none (by rw[h.len]; exact z),List.getElem?_eq_none (by simpa [nsD] using z)]
theorem x_for1 {C:Str->List D->R D} {ρ ρ':Env} {i:Nat} {it:It} {b r:Sms} {xs:List D} (hI:evI C it ρ=.ok xs) (hf:forR (λx ρ=>exs C b (ρ.set i (some (x,false)))) xs (unown (holdsI it) ρ)=.ok (.nx ρ')):exs C (.cons (.for1 i it b) r) ρ=exs C r ρ':=x_nx (by rw[m_for1,hI,R.bind_ok]; exact hf)
theorem x_for2 {C:Str->List D->R D} {ρ ρ':Env} {i j:Nat} {it:It} {b r:Sms} {xs:List D} (hI:evI C it ρ=.ok xs) (hf:forR (λx ρ=>match x with
   | .tup [u,v]=>exs C b ((ρ.set i (some (u,false))).set j (some (v,false)))
   | _=>.un) xs (unown (holdsI it) ρ)=.ok (.nx ρ')):exs C (.cons (.for2 i j it b) r) ρ=exs C r ρ':=by
 refine x_nx ?_
 show (evI C it ρ >>= _)=_
 rw[hI,R.bind_ok]
 exact hf
abbrev eF (M:List (List Nat)) (ds:List D) (x y z:Option (D × Bool)):Env:=[some (mkD M,false),some (.lst ds,true),x,y,z]
theorem take_in {α:Type} {l:List α} {k:Nat} {a:α} (h:l[k]?=some a):l.take (k+1)=l.take k++[a]:=by
 rw[List.take_add_one,h]
 rfl
theorem deal_in {C:Str->List D->R D} {M:List (List Nat)} {n:Nat} {f:Nat->Nat} {S:Nat->Prop} {r:List (Nat × Nat)} (hr:∀ p ∈ r,p.1<n/\p.2=f p.1) (h5:r.length<=5) {ds:List D} {y z:Option (D × Bool)} (h:Dealt n f S ds) :
  ∃ ds' x' y' z',exs C (.cons (.for2 3 4 (.seq (.var 2)) (.cons (.set 1 (.var 3) (.var 4)) .nil)) .nil) (eF M ds (some (roundD r,false)) y z)=.ok (.nx (eF M ds' x' y' z'))/\Dealt n f (λo=>S o\/(o,f o) ∈ r) ds':=by
 obtain⟨ρ',e,ds',x',y',z',rfl,hd⟩:=forR_ok (f:=λx ρ=>match x with
   | .tup [u,v]=>exs C (.cons (.set 1 (.var 3) (.var 4)) .nil) ((ρ.set 3 (some (u,false))).set 4 (some (v,false)))
   | _=>.un) (λk ρ=>∃ ds' x' y' z',ρ=eF M ds' x' y' z'/\Dealt n f (λo=>S o\/(o,f o) ∈ r.take k) ds') (xs:=r.map pairN) (ρ:=eF M ds (some (roundD r,false)) y z) ⟨ds,_,_,_,rfl,h.len,h.no,λo ho=>h.at_ o (ho.resolve_right λq=>by simp at q)⟩ (by
  rintro k x ρ hx ⟨ds',x',y',z',rfl,hd⟩
  rw[List.getElem?_map] at hx
  obtain⟨p,hp,rfl⟩:=Option.map_eq_some_iff.1 hx
  obtain⟨h1,h2⟩:=hr p (List.mem_of_getElem? hp)
  refine⟨eF M (ds'.set p.1 (nD (f p.1))) x' (some (nD p.1,false)) (some (nD p.2,false)),?_,_,_,_,_,rfl,hd.set h1 λi hi=>?_⟩
  ·show exs C (.cons (.set 1 (.var 3) (.var 4)) .nil) (eF M ds' x' (some (nD p.1,false)) (some (nD p.2,false)))=_
   rw[x_set (n:=p.1) (d:=nD p.2) (xs:=ds') (v_is rfl rfl) rfl (v_is rfl rfl) (by rw[hd.len]; exact h1) rfl hd.no,x_nil,<- h2]
   rfl
  ·rw[take_in hp,List.mem_append,List.mem_singleton] at hi
   rcases hi with q | q | q
   ·exact .inl (.inl q)
   ·exact .inl (.inr q)
   ·exact .inr (congrArg Prod.fst q))
 refine⟨ds',x',y',z',?_,?_⟩
 ·rw[x_for2 (xs:=r.map pairN) (seq_var (i:=2) (b:=false) rfl (by rw[List.length_map]; omega)) e,x_nil]
 ·rwa [List.length_map,List.take_length] at hd
structure Fairs (T:Tab):Prop extends Deals T where
 fair:T.lookup ("fair_deal" : Str)=some f_fair_deal
theorem r_fair {T:Tab} {M:List (List Nat)} (U:Fairs T) (G:GoodM M) (n:Nat) (hk:run T (n+2) "checked_market" [mkD M]=.ok (mkD M)):∃ f,Mt.TTC (prM M) (List.range M.length) f/\run T (n+3) "fair_deal" [mkD M]=.ok (.tup (nsD ((List.range M.length).map f))):=by
 have g5:=G.l5
 obtain⟨rs,hrs,er⟩:=r_pairs U.toDeals G n
 obtain⟨s1,s2⟩:=hrs.small
 rw[List.length_range] at s1 s2
 obtain⟨f,t1,t2,t3⟩:=hrs.deal
 refine⟨f,t1,run_rt U.fair rfl ?_⟩
 obtain⟨ρ',e,ds',x',y',z',rfl,hd⟩:=forR_ok (f:=λx ρ=>exs (run T (n+2)) (.cons (.for2 3 4 (.seq (.var 2)) (.cons (.set 1 (.var 3) (.var 4)) .nil)) .nil) (ρ.set 2 (some (x,false)))) (λk ρ=>∃ ds' x' y' z',ρ=eF M ds' x' y' z'/\Dealt M.length f (λo=>∃ r ∈ rs.take k,(o,f o) ∈ r) ds') (xs:=rs.map roundD) (ρ:=eF M (List.replicate M.length .non) none none none)
  ⟨_,_,_,_,rfl,List.length_replicate,noLs_iff.2 λx hx=>by rw[List.eq_of_mem_replicate hx]; rfl,λo ⟨r,hr,_⟩=>by simp at hr⟩ (by
   rintro k x ρ hx ⟨ds',x',y',z',rfl,hd⟩
   rw[List.getElem?_map] at hx
   obtain⟨r,hr,rfl⟩:=Option.map_eq_some_iff.1 hx
   have hm:=List.mem_of_getElem? hr
   obtain⟨ds2,x2,y2,z2,e2,h2⟩:=deal_in (C:=run T (n+2)) (M:=M) (y:=y') (z:=z') (r:=r) (λp hp=>⟨List.mem_range.1 (t2 r hm p hp).1,(t2 r hm p hp).2⟩) (by have:=s2 r hm; omega) hd
   refine⟨_,e2,ds2,x2,y2,z2,rfl,h2.len,h2.no,λo ⟨q,hq,ho⟩=>h2.at_ o ?_⟩
   rw[take_in hr,List.mem_append,List.mem_singleton] at hq
   rcases hq with hq | rfl
   ·exact .inl ⟨q,hq,ho⟩
   ·exact .inr ho)
 rw[List.length_map,List.take_length] at hd
 have ea:=hd.all λo ho=>t3 o (List.mem_range.2 ho)
 have e1:exs (run T (n+2)) f_fair_deal.body (startE f_fair_deal [mkD M])=exs (run T (n+2)) (.cons (.asg 1 (.rep .non (.b1 .len (.var 0)))) (.cons (.for1 2 (.seq (.call "pairs_by_round" (.cons (.var 0) .nil))) (.cons (.for2 3 4 (.seq (.var 2)) (.cons (.set 1 (.var 3) (.var 4)) .nil)) .nil)) (.cons (.ret (.b1 .tuple (.var 1))) .nil))) [some (mkD M,false),none,none,none,none]:=by
  refine x_nx ?_
  show (ev (run T (n+2)) (.call "checked_market" (.cons (.var 0) .nil)) [some (mkD M,false),none,none,none,none] >>= _)=_
  rw[v_call,vs_cons,v_is (i:=0) (d:=mkD M) rfl rfl,R.bind_ok,vs_nil,R.bind_ok,R.bind_ok,hk,R.bind_ok]
  rfl
 rw[e1]
 refine(x_ow (xs:=List.replicate M.length .non) ?_ (noLs_iff.2 λx hx=>by rw[List.eq_of_mem_replicate hx]; rfl) rfl).trans ?_
 ·rw[v_rep,v_non,R.bind_ok,mk_len (v_is (i:=0) rfl rfl),R.bind_ok]
  show (if noL .non&&decide (0<=(M.length:Int))&&fits (M.length:Int).toNat then R.ok (D.lst (List.replicate (M.length:Int).toNat .non)) else .un)=_
  rw[Int.toNat_natCast,fits_of (by omega),decide_eq_true (by omega)]
  rfl
 refine(x_for1 (xs:=rs.map roundD) ?_ e).trans (x_ret ?_)
 ·rw[i_seq,v_call,vs_cons,v_is (i:=0) (d:=mkD M) rfl rfl,R.bind_ok,vs_nil,R.bind_ok,R.bind_ok,er,R.bind_ok]
  exact if_pos (fits_of (by rw[List.length_map]; omega))
 ·rw[v_b1,v_is (i:=1) (d:=.lst ds') rfl rfl,R.bind_ok,ea]
  rfl
abbrev eL (M:List (List Nat)) (left:List Nat) (fl:Bool) (ds:List D) (x3 x4 x5 x6 x7:Option (D × Bool)):Env:=[some (mkD M,false),some (.lst (nsD left),fl),some (.lst ds,true),x3,x4,x5,x6,x7]
def likeL:Ex:=.idx (.comp false (.var 8) (.seq (.idx (.var 0) (.var 4))) (.cons (.op .isin (.var 8) (.var 1)) .nil)) (.int 0)
def bodyL:Sms:=(.cons (.dcl 3 4 (.seq (.var 1)) likeL) (.cons (.asg 5 (.idx (.var 1) (.int (-1)))) (.cons (.for1 6 (.rng (.b1 .len (.var 1))) (.cons (.asg 5 (.dix 3 (.var 5))) .nil)) (.cons (.asg 7 (.lst (.cons (.var 5) .nil))) (.cons (.whl (.op .ne (.dix 3 (.idx (.var 7) (.int (-1)))) (.var 5)) (.cons (.app 7 (.dix 3 (.idx (.var 7) (.int (-1))))) .nil)) (.cons (.for1 4 (.seq (.var 7)) (.cons (.set 2 (.var 4) (.dix 3 (.var 4))) .nil)) (.cons (.asg 1 (.comp false (.var 8) (.seq (.var 1)) (.cons (.op .notin (.var 8) (.var 7)) .nil))) .nil)))))))
def rg (g:Nat->Nat) (o t:Nat):List Nat:=(List.range (t+1)).map λs=>Mt.it g s o
theorem rg_s (g:Nat->Nat) (o t:Nat):rg g o t=((List.range t).map λs=>Mt.it g s o)++[Mt.it g t o]:=by
 unfold rg
 rw[List.range_succ,List.map_append]
 rfl
theorem rg_t (g:Nat->Nat) (o t:Nat):rg g o (t+1)=rg g o t++[Mt.it g (t+1) o]:=rg_s g o (t+1)
theorem rg_len (g:Nat->Nat) (o t:Nat):(rg g o t).length=t+1:=by simp[rg]
theorem v_last {C:Str->List D->R D} {ρ:Env} {i:Nat} {l:List Nat} {a:Nat} {b:Bool} (h:ρ[i]?=some (some (.lst (nsD (l++[a])),b))):ev C (.idx (.var i) (.int (-1))) ρ=.ok (nD a):=by
 rw[v_idx,v_is h rfl,R.bind_ok,v_int,R.bind_ok,x_idx,nsD_app]
 exact atD_last _ _
theorem x_lround {C:Str->List D->R D} {M:List (List Nat)} {f:Nat->Nat} (G:GoodM M) {left:List Nat} {fl:Bool} {ds:List D} {x3 x4 x5 x6 x7:Option (D × Bool)} (hl:∀ i ∈ left,i<M.length) (hn:left.Nodup) (h0:left ≠ []) (ht:Mt.TTC (prM M) left f) (hd:Dealt M.length f (λo=>o<M.length/\o ∉ left) ds) :
  ∃ Rg ds' x3' x4' x5' x6' x7',exs C bodyL (eL M left fl ds x3 x4 x5 x6 x7)=.ok (.nx (eL M (Mt.minus left Rg) true ds' x3' x4' x5' x6' x7'))/\Rg ≠ []/\Mt.Ring (prM M) left Rg (Mt.best (prM M) left)/\Dealt M.length f (λo=>o<M.length/\o ∉ Mt.minus left Rg) ds':=by
 have W:=G.wish hl
 have g5:=G.l5
 have h5:left.length<=5:=by
  have:=Mt.len_sub (l:=List.range M.length) hn λi hi=>List.mem_range.2 (hl i hi)
  rw[List.length_range] at this
  omega
 have hzl:(nsD left).length<=1000000:=by rw[nsD_length]; omega
 have hc:∀ i ∈ left,Mt.best (prM M) left i ∈ left:=λi hi=>Mt.best_in W hi
 have one:=λo t (hl:o ∈ left) ho h he=>Mt.ring_one (pr:=prM M) W (o:=o) (t:=t) hl ho h he
 have rem:=λR=>@Mt.TTC.rem (prM M) left f ht W R (Mt.best (prM M) left)
 have vb:∀ ρ k,k ∈ left->(∃ y',ρ=eL M left false ds none y' x5 x6 x7)->ev C likeL (ρ.set 4 (some (.int (k:Nat),false)))=.ok (nD (Mt.best (prM M) left k)):=by
  rintro ρ k hk ⟨y',rfl⟩
  exact v_best (fl:=false) (v:=8) (ρ:=eL M left false ds none (some (nD k,false)) x5 x6 x7) G (v_is rfl rfl) (v_is rfl rfl) hl hk rfl rfl
 generalize hg:Mt.best (prM M) left=g at hc one rem vb |-
 obtain⟨ρ',⟨y',rfl⟩,e1⟩:=dcR_nat (f:=λk ρ=>ev C likeL (ρ.set 4 (some (.int k,false)))) (i:=3) (j:=4) (g:=g) (L:=left)
  (λρ=>∃ y',ρ=eL M left false ds none y' x5 x6 x7) (λρ k ⟨y',e⟩=>⟨some (nD k,false),by rw[e]; rfl⟩) (λρ k hk h=>vb ρ k hk h) left [] (eL M left false ds none x4 x5 x6 x7) (λk hk=>hk) hn (by simpa using Nat.le_trans h5 (by decide)) ⟨x4,rfl⟩
 rw[List.nil_append] at e1
 let dd:Option (D × Bool):=some (.dct (kvG g left),false)
 have hd1:left=left.dropLast++[left.getLast h0]:=(List.dropLast_concat_getLast h0).symm
 have ha:left.getLast h0 ∈ left:=List.getLast_mem h0
 generalize left.getLast h0=a at hd1 ha
 have mem:∀ k,Mt.it g k a ∈ left:=λk=>Mt.it_mem hc ha k
 obtain⟨ρ2,e2,x6',rfl⟩:=forR_ok (f:=λx ρ=>exs C (.cons (.asg 5 (.dix 3 (.var 5))) .nil) (ρ.set 6 (some (x,false)))) (λk ρ=>∃ x6,ρ=eL M left false ds dd y' (some (nD (Mt.it g k a),false)) x6 x7) (xs:=(List.range left.length).map nD) (ρ:=eL M left false ds dd y' (some (nD a,false)) x6 x7) ⟨_,rfl⟩ (by
  rintro k x ρ hx ⟨x6,rfl⟩
  refine⟨_,?_,some (x,false),rfl⟩
  refine(x_as (d:=nD (Mt.it g (k+1) a)) (v_dix (g:=g) (l:=left) (k:=Mt.it g k a) (b:=false) rfl (v_is rfl rfl) (mem k)) rfl).trans ?_
  rw[x_nil]
  rfl)
 rw[List.length_map,List.length_range] at e2
 have ho:=Mt.onR_far hc ha
 have hol:=mem left.length
 generalize Mt.it g left.length a=o at e2 ho hol
 have memo:∀ k,Mt.it g k o ∈ left:=λk=>Mt.it_mem hc hol k
 let E:Nat->Env:=λt=>eL M left false ds dd y' (some (nD o,false)) x6' (some (.lst (nsD (rg g o t)),true))
 have tl:∀ t,(∀ s,s<t->Mt.it g (s+1) o ≠ o)->t+1<=left.length:=λt h=>by
  have:=Mt.len_sub (l:=left) (Mt.walk_nd ho h) λx hx=>by
   obtain⟨s,_,rfl⟩:=List.mem_map.1 hx
   exact memo s
  rwa [List.length_map,List.length_range] at this
 have ed:∀ t,ev C (.dix 3 (.idx (.var 7) (.int (-1)))) (E t)=.ok (nD (Mt.it g (t+1) o)):=λt=>
  v_dix (g:=g) (l:=left) (k:=Mt.it g t o) (b:=false) rfl (v_last (l:=(List.range t).map λs=>Mt.it g s o) (b:=true) (by rw[<- rg_s]; rfl)) (memo t)
 obtain⟨ρ3,⟨t,t1,t2,rfl⟩,e3⟩:=x_whlE (C:=C) (ρ:=E 0) (c:=.op .ne (.dix 3 (.idx (.var 7) (.int (-1)))) (.var 5)) (b:=.cons (.app 7 (.dix 3 (.idx (.var 7) (.int (-1))))) .nil)
  (λm ρ=>∃ t,m=left.length-t/\(∀ s,s<t->Mt.it g (s+1) o ≠ o)/\ρ=E t) (m:=left.length) (by omega) ⟨0,rfl,λs hs=>absurd hs (Nat.not_lt_zero _),rfl⟩ (λρ=>∃ t,(∀ s,s<t->Mt.it g (s+1) o ≠ o)/\Mt.it g (t+1) o=o/\ρ=E t) (by
   rintro m ρ ⟨t,rfl,t1,rfl⟩
   have hlt:=tl t t1
   have et:tst C (.op .ne (.dix 3 (.idx (.var 7) (.int (-1)))) (.var 5)) (E t)=.ok (!((Mt.it g (t+1) o:Int)==(o:Int))):=by
    rw[t_op,v_op,ed t,R.bind_ok,v_is (i:=5) (d:=nD o) rfl rfl,R.bind_ok,o_ne _ _ (lo_int _ _),e_int]
    rfl
   by_cases q:Mt.it g (t+1) o=o
   ·exact .inl ⟨by rw[et,q]; simp,t,t1,q,rfl⟩
   ·have t1':∀ s,s<t+1->Mt.it g (s+1) o ≠ o:=λs hs=>by
     rcases Nat.lt_or_ge s t with z | z
     ·exact t1 s z
     ·rw[show s=t by omega]
      exact q
    refine .inr ⟨by rw[et]; simp; omega,E (t+1),left.length-(t+1),?_,by omega,t+1,rfl,t1',rfl⟩
    rw[x_app (xs:=nsD (rg g o t)) (d:=nD (Mt.it g (t+1) o)) rfl (ed t) rfl (by rw[nsD_length,rg_len]; omega),x_nil]
    show R.ok (Fl.nx (eL M left false ds dd y' (some (nD o,false)) x6' (some (.lst (nsD (rg g o t)++[nD (Mt.it g (t+1) o)]),true))))=_
    rw[show nsD (rg g o t)++[nD (Mt.it g (t+1) o)]=nsD (rg g o (t+1)) from by rw[rg_t,nsD_app]; rfl])
 have hR:Mt.Ring (prM M) left (rg g o t) g:=one o t hol ho t1 t2
 have hRl:=rg_len g o t
 have htl:=tl t t1
 obtain⟨f1,f2⟩:=rem _ hR
 generalize hRg:rg g o t=Rg at hR hRl f1 f2
 obtain⟨ρ4,e4,ds',x4',rfl,hd'⟩:=forR_ok (f:=λx ρ=>exs C (.cons (.set 2 (.var 4) (.dix 3 (.var 4))) .nil) (ρ.set 4 (some (x,false)))) (λk ρ=>∃ ds' x4',ρ=eL M left false ds' dd x4' (some (nD o,false)) x6' (some (.lst (nsD Rg),false))/\Dealt M.length f (λi=>(i<M.length/\i ∉ left)\/i ∈ Rg.take k) ds') (xs:=nsD Rg) (ρ:=eL M left false ds dd y' (some (nD o,false)) x6' (some (.lst (nsD Rg),false))) ⟨ds,_,rfl,hd.len,hd.no,λi hi=>hd.at_ i (hi.resolve_right λq=>by simp at q)⟩ (by
  rintro k x ρ hx ⟨ds',x4',rfl,hd'⟩
  rw[nsD,List.getElem?_map] at hx
  obtain⟨p,hp,rfl⟩:=Option.map_eq_some_iff.1 hx
  have hpR:=List.mem_of_getElem? hp
  have hpl:=hR.sub p hpR
  refine⟨eL M left false (ds'.set p (nD (f p))) dd (some (nD p,false)) (some (nD o,false)) x6' (some (.lst (nsD Rg),false)),?_,_,_,rfl,hd'.set (hl p hpl) λi hi=>?_⟩
  ·show exs C (.cons (.set 2 (.var 4) (.dix 3 (.var 4))) .nil) (eL M left false ds' dd (some (nD p,false)) (some (nD o,false)) x6' (some (.lst (nsD Rg),false)))=_
   rw[x_set (n:=p) (d:=nD (g p)) (xs:=ds') (v_dix (g:=g) (l:=left) (k:=p) (b:=false) rfl (v_is rfl rfl) hpl) rfl (v_is rfl rfl) (by rw[hd'.len]; exact hl p hpl) rfl hd'.no,x_nil,f1 p hpR]
   rfl
  ·rw[take_in hp,List.mem_append,List.mem_singleton] at hi
   rcases hi with q | q | q
   ·exact .inl (.inl q)
   ·exact .inl (.inr q)
   ·exact .inr q)
 rw[nsD_length,List.take_length] at hd'
 have e5:ev C (.comp false (.var 8) (.seq (.var 1)) (.cons (.op .notin (.var 8) (.var 7)) .nil)) (eL M left false ds' dd x4' (some (nD o,false)) x6' (some (.lst (nsD Rg),false)))=.ok (.lst (nsD (Mt.minus left Rg))):=by
  rw[v_comp,seq_var (i:=1) (xs:=nsD left) (b:=false) rfl hzl,R.bind_ok,show nsD left=left.map nD from rfl,mapR_filter (p:=λi=>!Rg.contains i) (h:=?_),R.bind_ok]
  ·rfl
  ·intro i hi
   rw[tgt1,R.bind_ok,ts_cons',t_op,v_op,v_is (i:=8) (d:=nD i) rfl rfl,R.bind_ok,v_is (i:=7) (d:=.lst (nsD Rg)) rfl rfl,R.bind_ok,o_nil _ _ (lo_int _ _),inD_nat]
   by_cases q:i ∈ Rg <;> simp[q]
 refine⟨Rg,ds',dd,x4',some (nD o,false),x6',some (.lst (nsD Rg),false),?_,λz=>by rw[z] at hRl; simp at hRl,hR,hd'.len,hd'.no,λi ⟨i1,i2⟩=>hd'.at_ i ?_⟩
 ·rw[bodyL,x_dcl (ds:=nsD left) (seq_var (i:=1) (b:=fl) rfl hzl) e1]
  refine(x_as (d:=nD a) (v_last (l:=left.dropLast) (a:=a) (b:=false) (by rw[<- hd1]; rfl)) rfl).trans ?_
  refine(x_for1 (evI_rng_nat (n:=left.length) (by have:=v_len (C:=C) (ρ:=eL M left false ds dd y' (some (nD a,false)) x6 x7) (e:=.var 1) (xs:=nsD left) (.inl (v_is rfl rfl)); rwa [nsD_length] at this) (by omega)) e2).trans ?_
  refine(x_ow (xs:=nsD (rg g o 0)) ?_ (noL_nsD _) rfl).trans ?_
  ·rw[v_lst,vs_cons,v_is (i:=5) (d:=nD o) rfl rfl,R.bind_ok,vs_nil,R.bind_ok,R.bind_ok]
   exact if_pos fits1
  refine(e3 _).trans ?_
  rw[show E t=eL M left false ds dd y' (some (nD o,false)) x6' (some (.lst (nsD Rg),true)) from by rw[<- hRg]]
  refine(x_for1 (xs:=nsD Rg) (seq_var (i:=7) (b:=true) rfl (by rw[nsD_length]; omega)) e4).trans ?_
  rw[x_ow e5 (noL_nsD _) rfl,x_nil]
  rfl
 ·by_cases q:i ∈ Rg
  ·exact .inr q
  ·exact .inl ⟨i1,λz=>i2 (Mt.mem_minus.2 ⟨z,q⟩)⟩
theorem r_ldeal {T:Tab} {M:List (List Nat)} {f:Nat->Nat} (hT:T.lookup ("_law_deal" : Str)=some fL_deal) (G:GoodM M) (n:Nat) (ht:Mt.TTC (prM M) (List.range M.length) f):run T (n+1) "_law_deal" [mkD M]=.ok (.tup (nsD ((List.range M.length).map f))):=by
 have g5:=G.l5
 obtain⟨ρ',⟨fl,ds,x3,x4,x5,x6,x7,hd,rfl⟩,hx⟩:=x_whlE (C:=run T n) (ρ:=eL M (List.range M.length) true (nsD (List.range M.length)) none none none none none) (c:=.var 1) (b:=bodyL)
  (λm ρ=>∃ left fl ds x3 x4 x5 x6 x7,m=left.length/\left.Nodup/\(∀ i ∈ left,i<M.length)/\Mt.TTC (prM M) left f/\Dealt M.length f (λo=>o<M.length/\o ∉ left) ds/\ρ=eL M left fl ds x3 x4 x5 x6 x7) (m:=M.length) (by omega)
  ⟨_,_,_,_,_,_,_,_,by rw[List.length_range],List.nodup_range,λi hi=>List.mem_range.1 hi,ht,⟨by simp,noL_nsD _,λo ho=>absurd (List.mem_range.2 ho.1) ho.2⟩,rfl⟩
  (λρ=>∃ fl ds x3 x4 x5 x6 x7,Dealt M.length f (λo=>o<M.length) ds/\ρ=eL M [] fl ds x3 x4 x5 x6 x7) (by
   rintro m ρ ⟨left,fl,ds,x3,x4,x5,x6,x7,rfl,hn,hl,ht,hd,rfl⟩
   have et:tst (run T n) (.var 1) (eL M left fl ds x3 x4 x5 x6 x7)=.ok (!(nsD left).isEmpty):=by
    rw[t_var,v_is (i:=1) (d:=.lst (nsD left)) rfl rfl,R.bind_ok]
    rfl
   cases hc:left with
   | nil=>
    subst hc
    exact .inl ⟨et,fl,ds,x3,x4,x5,x6,x7,⟨hd.len,hd.no,λo ho=>hd.at_ o ⟨ho,by simp⟩⟩,rfl⟩
   | cons a l=>
    have h0:left ≠ []:=by rw[hc]; simp
    rw[<- hc]
    obtain⟨Rg,ds',y3,y4,y5,y6,y7,e,r0,r1,r2⟩:=x_lround (C:=run T n) (fl:=fl) (x3:=x3) (x4:=x4) (x5:=x5) (x6:=x6) (x7:=x7) G hl hn h0 ht hd
    refine .inr ⟨by rw[et,hc]; rfl,_,_,e,Mt.minus_len r0 r1.sub,_,_,_,_,_,_,_,_,rfl,Mt.minus_nodup hn,λi hi=>hl i (Mt.minus_sub i hi),(ht.rem (G.wish hl) r1).2,r2,rfl⟩)
 refine run_rt hT rfl ?_
 refine(x_ow (xs:=nsD (List.range M.length)) (v_rngN (mk_len (v_is rfl rfl)) (by omega)) (noL_nsD _) rfl).trans ((x_ow (xs:=nsD (List.range M.length)) ?_ (noL_nsD _) rfl).trans ((hx _).trans (x_ret ?_)))
 ·rw[v_b1,v_is (i:=1) (d:=.lst (nsD (List.range M.length))) rfl rfl,R.bind_ok]
  rfl
 ·rw[v_b1,v_is (i:=2) (d:=.lst ds) rfl rfl,R.bind_ok,hd.all λo ho=>ho]
  rfl
section
variable {C:Str->List D->R D} {i j:Nat} {ρ:Env} {b r:Sms} {K:R Fl}
theorem m_for2' {it:It}:exm C (.for2 i j it b) ρ=(evI C it ρ >>= λxs=>forR (λx ρ=>match x with
   | .tup [u,v]=>exs C b ((ρ.set i (some (u,false))).set j (some (v,false)))
   | _=>.un) xs (unown (holdsI it) ρ)):=(rfl)
theorem enum_get:∀ (ds:List D) (k n:Nat) (x:D),(enumD n ds)[k]?=some x->∃ y,ds[k]?=some y/\x=.tup [nD (n+k),y]
 | [],_,_,_,e=>by simp[enumD] at e
 | d::ds,0,n,x,e=>⟨d,rfl,by simpa [enumD] using e.symm⟩
 | d::ds,k+1,n,x,e=>by
  obtain⟨y,h1,h2⟩:=enum_get ds k (n+1) x (by simpa [enumD] using e)
  exact⟨y,by simpa using h1,by rw[h2,show n+1+k=n+(k+1) by omega]⟩
theorem enum_length:∀ (ds:List D) (n:Nat),(enumD n ds).length=ds.length
 | [],_=>rfl
 | d::ds,n=>by simp[enumD,enum_length ds]
theorem x_enuO {a:Ex} {ds:List D} (I:Nat->Env->Prop) (hI:ev C a ρ=.ok (.tup ds)\/ev C a ρ=.ok (.lst ds)) (hz:ds.length<=1000000) (h0:I 0 (unown (vars a) ρ))
  (hs:∀ k y ρ,ds[k]?=some y->I k ρ->(∃ ρ',exs C b ((ρ.set i (some (nD k,false))).set j (some (y,false)))=.ok (.nx ρ')/\I (k+1) ρ')\/∃ d,exs C b ((ρ.set i (some (nD k,false))).set j (some (y,false)))=.ok (.rt d)/\K=.ok (.rt d))
  (hr:∀ ρ',I ds.length ρ'->exs C r ρ'=K):exs C (.cons (.for2 i j (.enu a) b) r) ρ=K:=by
 have e0:evI C (.enu a) ρ=.ok (enumD 0 ds):=by
  rw[i_enu]
  rcases hI with h | h <;> rw[h] <;> simp[seqOf,fits_of hz]
 have hs':∀ k x ρ,(enumD 0 ds)[k]?=some x->I k ρ->(∃ ρ',(match x with | .tup [u,v]=>exs C b ((ρ.set i (some (u,false))).set j (some (v,false))) | _=>.un)=.ok (.nx ρ')/\I (k+1) ρ')\/∃ d,(match x with | .tup [u,v]=>exs C b ((ρ.set i (some (u,false))).set j (some (v,false))) | _=>.un)=.ok (.rt d)/\K=.ok (.rt d):=by
  intro k x ρ hx hk
  obtain⟨y,h1,rfl⟩:=enum_get ds k 0 x hx
  simp only[Nat.zero_add]
  exact hs k y ρ h1 hk
 rcases forR_or (f:=λx ρ=>match x with | .tup [u,v]=>exs C b ((ρ.set i (some (u,false))).set j (some (v,false))) | _=>.un) I (λd=>K=.ok (.rt d)) h0 hs' with⟨ρ',e,h⟩ | ⟨d,e,h⟩
 ·rw[enum_length] at h
  exact(x_nx (by rw[m_for2',e0,R.bind_ok]; exact e)).trans (hr ρ' h)
 ·rw[h]
  exact x_rt (by rw[m_for2',e0,R.bind_ok]; exact e)
end
open Classical in
def unlikeB (xs:List D) (m:Nat):Bool:=decide (∀ (k:Nat) (d:D),xs[k]?=some d->below d m=true/\inD d (xs.take k)=false)
theorem unlike_iff {xs:List D} {m:Nat}:unlikeB xs m=true ↔ ∀ (k:Nat) (d:D),xs[k]?=some d->below d m=true/\inD d (xs.take k)=false:=by
 unfold unlikeB
 exact @decide_eq_true_iff _ (Classical.propDecidable _)
theorem cut_tupD {l:List D} {k:Nat} (h:k<l.length):cutD none (some (k:Int)) (.tup l)=.ok (.tup (l.take k)):=by
 show R.ok (D.tup (cut l none (some (k:Int))))=_
 congr 2
 unfold cut sIx
 simp only[List.drop_zero,Nat.sub_zero]
 rw[if_neg (by omega),Int.toNat_natCast,Nat.min_eq_left (by omega)]
theorem below_int {d:D} {m:Int} (h:below d m=true):∃ i,d=.int i:=by
 cases d with
 | int i=>exact⟨i,rfl⟩
 | _=>cases h
structure Nums (T:Tab):Prop where
 below:T.lookup ("is_number_below" : Str)=some f_is_number_below
 unlike:T.lookup ("are_unlike_numbers_below" : Str)=some f_are_unlike_numbers_below
 each:T.lookup ("has_each_number_below" : Str)=some f_has_each_number_below
 market:T.lookup ("is_market" : Str)=some f_is_market
 checked:T.lookup ("checked_market" : Str)=some f_checked_market
theorem r_unlikeD {T:Tab} (U:Nums T) (n:Nat) (l:List D) (m:Nat) (hz:l.length<=1000000) (hd:∀ d ∈ l,isDc d=false):run T (n+2) "are_unlike_numbers_below" [.tup l,nD m]=.ok (.bl (unlikeB l m)):=by
 refine run_rt U.unlike rfl ?_
 refine(x_skip (by simp[startE,f_are_unlike_numbers_below,isTy])).trans ?_
 refine x_enuO (ds:=l) (λk ρ=>(∀ (i:Nat) (d:D),i<k->l[i]?=some d->Lp.below d m=true/\inD d (l.take i)=false)/\∃ x y,ρ=[some (.tup l,false),some (nD m,false),x,y]) (.inl (by simp[startE])) hz ⟨λi d hi=>absurd hi (Nat.not_lt_zero _),none,none,rfl⟩ ?_ ?_
 ·rintro k d ρ hy ⟨hw,x,y',rfl⟩
  have hk:=(List.getElem?_eq_some_iff.1 hy).1
  have hdc:=hd d (List.mem_of_getElem? hy)
  have hb:=r_below U.below n d m hdc
  have hf:¬ (Lp.below d m=true/\inD d (l.take k)=false)->unlikeB l m=false:=λz=>Bool.eq_false_iff.2 λq=>z (unlike_iff.1 q k d hy)
  by_cases q:Lp.below d m=true
  ·obtain⟨i,rfl⟩:=below_int q
   rw[q] at hb
   by_cases q2:inD (.int i) (l.take k)=false
   ·refine .inl ⟨_,x_skip ?_,λj d' hj e=>?_,some (nD k,false),some (.int i,false),rfl⟩
    ·simp[hb,bound,cut_tupD hk,q2]
    ·rcases Nat.lt_or_ge j k with z | z
     ·exact hw j d' z e
     ·have:j=k:=by omega
      subst this
      rw[hy] at e
      cases e
      exact⟨q,q2⟩
   ·refine .inr ⟨.bl false,x_retif ?_ (by simp),by rw[hf λz=>q2 z.2]⟩
    have q3:inD (.int i) (l.take k)=true:=by simpa using q2
    simp[hb,bound,cut_tupD hk,q3]
  ·refine .inr ⟨.bl false,x_retif ?_ (by simp),by rw[hf λz=>q z.1]⟩
   have q':Lp.below d m=false:=by simpa using q
   rw[q'] at hb
   simp[hb,hdc]
 ·rintro ρ' ⟨hw,x,y,rfl⟩
  have:unlikeB l m=true:=unlike_iff.2 λk d e=>hw k d (List.getElem?_eq_some_iff.1 e).1 e
  rw[this]
  exact x_ret (by simp)
def eB (m:Nat):D->Bool
 | .tup l=>unlikeB l m&&decide (l.length=m)
 | _=>false
def fine:D->Prop
 | .tup l=>l.length<=1000000/\∀ d ∈ l,isDc d=false
 | .dct _=>False
 | _=>True
theorem fine.dc {d:D} (h:fine d):isDc d=false:=by cases d <;> first | rfl | cases h
theorem r_eachD {T:Tab} (U:Nums T) (n:Nat) (d:D) (m:Nat) (hf:fine d):run T (n+3) "has_each_number_below" [d,nD m]=.ok (.bl (eB m d)):=by
 have no:isTy .tuple d=false->run T (n+3) "has_each_number_below" [d,nD m]=.ok (.bl false):=λh=>by
  have:run T (n+2) "are_unlike_numbers_below" [d,nD m]=.ok (.bl false):=by
   refine run_rt U.unlike rfl ?_
   exact x_retif (by simp[startE,f_are_unlike_numbers_below,h,hf.dc]) (by simp)
  refine run_rt U.each rfl (x_ret ?_)
  simp[startE,f_has_each_number_below,this,hf.dc]
 cases d with
 | tup l=>
  have:=r_unlikeD U n l m hf.1 hf.2
  refine run_rt U.each rfl (x_ret ?_)
  show _=R.ok (D.bl (unlikeB l m&&decide (l.length=m)))
  cases q:unlikeB l m with
  | false=>rw[q] at this; simp[startE,f_has_each_number_below,this]
  | true=>
   rw[q] at this
   simp[startE,f_has_each_number_below,this,e_int]
   rw[Bool.eq_iff_iff,beq_iff_eq,decide_eq_true_iff]
   omega
 | dct k=>cases hf
 | _=>exact no rfl
theorem boolsOf_map {α:Type} (p:α->Bool):∀ l:List α,boolsOf (l.map λx=>.bl (p x))=some (l.map p)
 | []=>rfl
 | a::l=>by
  show (boolsOf (l.map λx=>.bl (p x))).map (p a :: ·)=_
  rw[boolsOf_map p l]
  rfl
theorem mapR_bl {f:D->R (Option D)} {p:D->Bool} {l:List D} (h:∀ d ∈ l,f d=.ok (some (.bl (p d)))):mapR f l=.ok (l.map λx=>.bl (p x)):=by
 have:=mapR_map (k:=id) (g:=λx=>some (D.bl (p x))) h
 rw[List.map_id] at this
 rw[this]
 simp[List.filterMap_eq_map']
def mB:D->Bool
 | .tup l=>decide (1<=l.length)&&decide (l.length<=5)&&l.all (eB l.length)
 | _=>false
def fineM:D->Prop
 | .tup l=>l.length<=1000000/\∀ d ∈ l,fine d
 | .dct _=>False
 | _=>True
theorem fineM.dc {d:D} (h:fineM d):isDc d=false:=by cases d <;> first | rfl | cases h
theorem r_isM {T:Tab} (U:Nums T) (n:Nat) (d:D) (hf:fineM d):run T (n+4) "is_market" [d]=.ok (.bl (mB d)):=by
 have no:isTy .tuple d=false->run T (n+4) "is_market" [d]=.ok (.bl false):=λh=>by
  refine run_rt U.market rfl ?_
  exact x_retif (by simp[startE,f_is_market,h,hf.dc]) (by simp)
 cases d with
 | tup l=>
  refine run_rt U.market rfl ?_
  show _=R.ok (Fl.rt (D.bl (decide (1<=l.length)&&decide (l.length<=5)&&l.all (eB l.length))))
  have et:tst (run T (n+3)) (.or (.not (.ins .tuple (.var 0))) (.not (.chn .le .le (.int 1) (.b1 .len (.var 0)) (.cst 0)))) [some (.tup l,false)]=.ok (!(decide (1<=l.length)&&decide (l.length<=5))):=by
   have ec:∀ ρ,ev (run T (n+3)) (.cst 0) ρ=.ok (.int 5):=λρ=>rfl
   rw[t_or,t_not,t_ins,v_ins,v_is (i:=0) (d:=.tup l) rfl rfl,R.bind_ok]
   show (tst (run T (n+3)) (.not (.chn .le .le (.int 1) (.b1 .len (.var 0)) (.cst 0))) [some (.tup l,false)])=_
   rw[t_not,tst_plain _ rfl,v_chn,v_int,R.bind_ok,v_len (xs:=l) (.inr (v_is rfl rfl)),R.bind_ok,o_le,R.bind_ok,ec]
   by_cases q:1<=l.length
   ·rw[decide_eq_true (by omega:(1:Int)<=(l.length:Int)),decide_eq_true q]
    show R.ok (!(decide ((l.length:Int)<=5)))=_
    rw[Bool.true_and]
    congr 2
    rw[Bool.eq_iff_iff,decide_eq_true_iff,decide_eq_true_iff]
    omega
   ·rw[decide_eq_false (by omega:¬ (1:Int)<=(l.length:Int)),decide_eq_false q]
    rfl
  cases q:(decide (1<=l.length)&&decide (l.length<=5)) with
  | false=>
   rw[q] at et
   exact x_retif et (by simp)
  | true=>
   rw[q] at et
   refine(x_skip et).trans (x_ret ?_)
   rw[v_b1,v_comp]
   rw[show evI (run T (n+3)) (.seq (.var 0)) [some (.tup l,false)]=.ok l from by rw[i_seq,v_is (i:=0) (d:=.tup l) rfl rfl,R.bind_ok]; exact if_pos (fits_of hf.1),R.bind_ok]
   rw[mapR_bl (p:=eB l.length) (h:=?_),R.bind_ok,R.bind_ok]
   ·show (match boolsOf (l.map λx=>.bl (eB l.length x)) with | some bs=>R.ok (D.bl (bs.all id)) | none=>.un)=_
    rw[boolsOf_map]
    simp[List.all_map]
   ·intro d hd
    have hfd:=hf.2 d hd
    have e1:([some (.tup l,false)]++[some (d,false)]:Env)[1]?=some (some (d,false)):=rfl
    rw[tgt1,R.bind_ok,ts_nil',R.bind_ok,if_pos rfl]
    show (ev (run T (n+3)) (.call "has_each_number_below" (.cons (.var 1) (.cons (.b1 .len (.var 0)) .nil))) ([some (.tup l,false)]++[some (d,false)]) >>= _)=_
    rw[v_call,vs_cons,v_is e1 hfd.dc,R.bind_ok,vs_cons,v_len (xs:=l) (.inr (v_is rfl rfl)),R.bind_ok,vs_nil,R.bind_ok,R.bind_ok,R.bind_ok,r_eachD U n d _ hfd,R.bind_ok]
 | dct k=>cases hf
 | _=>exact no rfl
section
variable {C:Str->List D->R D} {ρ:Env} {f:Str} {as:Exs} {vs:List D} {c:Str} {o:Option D} {d:D} {e:Ex} {a b r:Sms} {l:Xl} {i:Nat}
theorem xE_call (e1:evs C as ρ=.ok vs) (e2:C f vs=.xn c o):xE C (.call f as) ρ=some (c,o):=by
 show (match evs C as ρ with | .ok vs=>(match C f vs with | .xn c d=>some (c,d) | _=>none) | _=>none)=_
 rw[e1]
 simp only[e2]
theorem ev_xn (e1:evs C as ρ=.ok vs) (e2:C f vs=.xn c o):ev C (.call f as) ρ=.xn c o:=by
 rw[v_call,e1,R.bind_ok,e2]
theorem xs_then {t:Ex} (h:tst C t ρ=.ok true) (h':xs C a ρ=some l):xs C (.cons (.ife t a b) r) ρ=some l:=by
 show (match (match tst C t ρ with | .ok k=>(if k then xs C a ρ else xs C b ρ) | _=>none) with | some c=>some c | none=>(match exm C (.ife t a b) ρ with | .ok (.nx ρ')=>xs C r ρ' | _=>none))=_
 rw[h]
 simp only[if_true,h']
theorem xs_exp (h:xE C e ρ=some l):xs C (.cons (.exp e) r) ρ=some l:=by
 show (match xE C e ρ with | some c=>some c | none=>_)=_
 rw[h]
theorem x_expx (h:ev C e ρ=.xn c o):exs C (.cons (.exp e) r) ρ=.xn c o:=by
 rw[x_cons]
 show ((ev C e ρ >>= _) >>= _)=_
 rw[h]
 rfl
end
theorem r_chkM {T:Tab} (U:Nums T) (n:Nat) (d:D) (hf:fineM d) (hb:mB d=true):run T (n+5) "checked_market" [d]=.ok d:=by
 have e:=r_isM U n d hf
 rw[hb] at e
 refine run_rt U.checked rfl ?_
 refine(x_skip ?_).trans (x_ret (v_is rfl hf.dc))
 rw[t_not,tst_plain _ rfl,v_call,vs_cons,v_is (i:=0) (d:=d) rfl hf.dc,R.bind_ok,vs_nil,R.bind_ok,R.bind_ok,e]
 rfl
theorem good_mk {M:List (List Nat)} (G:GoodM M):fineM (mkD M)/\mB (mkD M)=true:=by
 have g1:=G.l1
 have g5:=G.l5
 have hw:∀ w ∈ M,w.length=M.length:=λw hw=>by have:=(G.w w hw).length_eq; rwa [List.length_range] at this
 refine⟨⟨by rw[List.length_map]; omega,λd hd=>?_⟩,?_⟩
 ·obtain⟨w,hw',rfl⟩:=List.mem_map.1 hd
  refine⟨by rw[nsD_length,hw w hw']; omega,λx hx=>?_⟩
  obtain⟨i,_,rfl⟩:=List.mem_map.1 hx
  rfl
 ·show (decide (1<=(M.map λw=>D.tup (nsD w)).length)&&decide ((M.map λw=>D.tup (nsD w)).length<=5)&&(M.map λw=>D.tup (nsD w)).all (eB (M.map λw=>D.tup (nsD w)).length))=true
  rw[List.length_map,decide_eq_true g1,decide_eq_true g5]
  refine List.all_eq_true.2 λd hd=>?_
  obtain⟨w,hw',rfl⟩:=List.mem_map.1 hd
  show (unlikeB (nsD w) M.length&&decide ((nsD w).length=M.length))=true
  rw[nsD_length,decide_eq_true (hw w hw'),Bool.and_true]
  refine unlike_iff.2 λk d hk=>?_
  rw[nsD,List.getElem?_map] at hk
  obtain⟨v,hv,rfl⟩:=Option.map_eq_some_iff.1 hk
  obtain⟨hk',ev'⟩:=List.getElem?_eq_some_iff.1 hv
  have hn:w.Nodup:=(G.w w hw').nodup_iff.2 List.nodup_range
  have hlt:=List.mem_range.1 ((G.w w hw').mem_iff.1 (List.mem_of_getElem? hv))
  refine⟨by show (decide (0<=(v:Int))&&decide ((v:Int)<(M.length:Int)))=true; simp; omega,?_⟩
  rw[nsD,<- List.map_take]
  show inD (nD v) (nsD (w.take k))=false
  rw[inD_nat]
  refine decide_eq_false λhm=>?_
  obtain⟨i,hi,e⟩:=List.getElem_of_mem hm
  simp only[List.getElem_take] at e
  have hi':i<k:=by simp at hi; omega
  exact absurd ((List.getElem_inj hn).1 (e.trans ev'.symm)) (by omega)
theorem mapR_ex {f:D->R (Option D)} {P:List Nat->Prop}:∀ {l:List Nat},(∀ k ∈ l,∃ w,P w/\f (nD k)=.ok (some (.tup (nsD w))))->∃ M:List (List Nat),M.length=l.length/\(∀ w ∈ M,P w)/\mapR f (l.map nD)=.ok (M.map λw=>.tup (nsD w))
 | [],_=>⟨[],rfl,λ_ z=>(nomatch z),rfl⟩
 | k::l,h=>by
  obtain⟨w,p,e⟩:=h k List.mem_cons_self
  obtain⟨M,a,b,c⟩:=mapR_ex (l:=l) λx hx=>h x (List.mem_cons_of_mem _ hx)
  refine⟨w::M,by simp[a],λx hx=>?_,?_⟩
  ·rcases List.mem_cons.1 hx with rfl | hx
   ·exact p
   ·exact b x hx
  ·rw[List.map_cons,mapR,e,R.bind_ok,c,R.bind_ok]
   rfl
@[simp] theorem small11:small 11=true:=by simp[small,big_eq]
theorem modN (c:Int) (k:Nat) (h:0<k):∃ m:Nat,m<k/\op2 .mod (.int c) (.int k)=.ok (nD m)/\c % (k:Int)=m:=by
 obtain⟨m,hm⟩:∃ m:Nat,c % (k:Int)=m:=⟨(c % (k:Int)).toNat,(Int.toNat_of_nonneg (Int.emod_nonneg _ (by omega))).symm⟩
 have h1:=Int.emod_lt_of_pos c (show (0:Int)<k by omega)
 exact⟨m,by omega,by rw[o_mod _ _ (by omega),hm],hm⟩
structure Draw (T:Tab):Prop where
 cell:T.lookup ("_law_cell" : Str)=some fL_cell
 mix:T.lookup ("_law_mix" : Str)=some fL_mix
 some_:T.lookup ("_law_some" : Str)=some fL_some
 market:T.lookup ("_law_market" : Str)=some fL_market
theorem r_market {T:Tab} (U:Draw T) (n:Nat) (ns:List Int):∃ M,GoodM M/\run T (n+3) "_law_market" [.lst (ns.map .int),.int 3]=.ok (mkD M):=by
 obtain⟨m,hm,em,_⟩:=modN (cell ns 3) 5 (by decide)
 have ec:=r_cell U.cell (n+1) ns 3 (by decide)
 let ρ:Env:=[some (.lst (ns.map .int),false),some (.int 3,false),some (nD (m+1),false)]
 obtain⟨M,a,b,c⟩:=mapR_ex (l:=List.range (m+1)) (P:=λw=>Some1 w (m+1) true) (f:=λd=>tgt false d >>= λe=>tsts (run T (n+2)) .nil (ρ++e) >>= λk=>
    if k then ev (run T (n+2)) (.call "_law_some" (.cons (.op .add (.call "_law_cell" (.cons (.var 0) (.cons (.op .add (.op .add (.var 1) (.int 1)) (.var 3)) .nil))) (.op .mul (.op .mul (.int 11) (.var 3)) (.var 3))) (.cons (.var 2) (.cons (.bl true) .nil)))) (ρ++e) >>= λy=>.ok (some y) else .ok none) λk hk=>by
  have hk:=List.mem_range.1 hk
  obtain⟨l,s,e⟩:=r_some U.mix U.some_ n (cell ns (3+1+(k:Int))+11*(k:Int)*(k:Int)) (m+1) (by omega) true
  refine⟨l,s,?_⟩
  have e2:=r_cell U.cell (n+1) ns (3+1+(k:Int)) (by omega)
  have e3:=o_mulN (11*(k:Int)) k (by omega)
  show (ev (run T (n+2)) (.call "_law_some" _) [some (.lst (ns.map .int),false),some (.int 3,false),some (nD (m+1),false),some (nD k,false)] >>= _)=_
  rw[v_call,vs_cons,v_op,v_call,vs_cons,v_is (i:=0) (d:=.lst (ns.map .int)) rfl rfl,R.bind_ok,vs_cons,v_op,v_op,v_is (i:=1) (d:=.int 3) rfl rfl,R.bind_ok,v_int,R.bind_ok,o_add,R.bind_ok,v_is (i:=3) (d:=nD k) rfl rfl,R.bind_ok,o_add,R.bind_ok,vs_nil,R.bind_ok,R.bind_ok,R.bind_ok,e2,R.bind_ok,v_op,v_op,v_int,R.bind_ok,v_is (i:=3) (d:=nD k) rfl rfl,R.bind_ok,o_mul _ _ small11,R.bind_ok,R.bind_ok,e3,R.bind_ok,o_add,R.bind_ok,vs_cons,v_is (i:=2) (d:=nD (m+1)) rfl rfl,R.bind_ok,vs_cons,v_bl,R.bind_ok,vs_nil,R.bind_ok,R.bind_ok,R.bind_ok,R.bind_ok,e,R.bind_ok]
 rw[List.length_range] at a
 refine⟨M,⟨by omega,by omega,λw hw=>by rw[a]; exact(b w hw).full rfl⟩,run_rt U.market rfl ?_⟩
 refine(x_as (d:=nD (m+1)) ?_ rfl).trans (x_ret ?_)
 ·rw[v_op,v_int,R.bind_ok,v_op,v_call,vs_cons,v_is (i:=0) (d:=.lst (ns.map .int)) rfl rfl,R.bind_ok,vs_cons,v_is (i:=1) (d:=.int 3) rfl rfl,R.bind_ok,vs_nil,R.bind_ok,R.bind_ok,R.bind_ok,ec,R.bind_ok,v_int,R.bind_ok]
  have em':op2 .mod (.int (cell ns 3)) (.int 5)=.ok (nD m):=em
  rw[em',R.bind_ok,o_add]
  congr 2
  omega
 ·rw[v_b1,v_comp,show evI (run T (n+2)) (.rng (.var 2)) ((startE fL_market [.lst (ns.map .int),.int 3]).set 2 (some (nD (m+1),false)))=.ok ((List.range (m+1)).map nD) from evI_rng_nat (v_is rfl rfl) (by omega),R.bind_ok]
  have c':=c
  show (mapR _ ((List.range (m+1)).map nD) >>= _) >>= _=_
  rw[show mapR (λd=>tgt false d >>= λe=>tsts (run T (n+2)) .nil ((startE fL_market [.lst (ns.map .int),.int 3]).set 2 (some (nD (m+1),false))++e) >>= λk=>
    if k then ev (run T (n+2)) (.call "_law_some" (.cons (.op .add (.call "_law_cell" (.cons (.var 0) (.cons (.op .add (.op .add (.var 1) (.int 1)) (.var 3)) .nil))) (.op .mul (.op .mul (.int 11) (.var 3)) (.var 3))) (.cons (.var 2) (.cons (.bl true) .nil)))) ((startE fL_market [.lst (ns.map .int),.int 3]).set 2 (some (nD (m+1),false))++e) >>= λy=>.ok (some y) else .ok none) ((List.range (m+1)).map nD)=.ok (M.map λw=>.tup (nsD w)) from c]
  rfl
theorem bad_in {l:List D} {d:D} {m:Nat} (h:d ∈ l) (hb:below d m=false):eB m (.tup l)=false:=by
 show (unlikeB l m&&_)=false
 have:unlikeB l m=false:=Bool.eq_false_iff.2 λq=>by
  obtain⟨k,hk⟩:=List.getElem?_of_mem h
  rw[(unlike_iff.1 q k d hk).1] at hb
  cases hb
 rw[this]
 rfl
theorem bad_len {l:List D} {m:Nat} (h:l.length ≠ m):eB m (.tup l)=false:=by
 show (_&&decide (l.length=m))=false
 rw[decide_eq_false h,Bool.and_false]
def odds (w:List Nat) (n:Nat):List D:=
 [.tup (nsD (w.drop 1)),.tup (nsD w++[.int 0]),.lst (nsD w),.tup (nsD (w.drop 1)++[nD n]),.tup (nsD (w.drop 1)++[.int (-1)]),.non,.tup (nsD (w.drop 1)++[.bl true])] ++
 [.tup (nsD (w.drop 1)++[.non]),.tup (nsD (w.drop 1)++[.str "0"]),.tup (nsD (w.drop 1)++[.lst [.int 0]]),.str (repT n "0")]
theorem dc_ns {l:List Nat} {x:D} (hx:isDc x=false):∀ d ∈ nsD l++[x],isDc d=false:=λd hd=>by
 rcases List.mem_append.1 hd with h | h
 ·obtain⟨i,_,rfl⟩:=List.mem_map.1 h
  rfl
 ·rw[List.mem_singleton.1 h]
  exact hx
theorem odd_bad {w:List Nat} {n:Nat} (hw:w.length=n) (h1:1<=n) (h5:n<=5):∀ d ∈ odds w n,fine d/\eB n d=false:=by
 have hd:(w.drop 1).length=n-1:=by rw[List.length_drop]; omega
 have hl:∀ (l:List Nat) (x:D),l.length<=5->(nsD l++[x]).length<=1000000:=λl x h=>by rw[List.length_append,nsD_length,List.length_singleton]; omega
 have last:∀ (x:D),isDc x=false->below x n=false->fine (.tup (nsD (w.drop 1)++[x]))/\eB n (.tup (nsD (w.drop 1)++[x]))=false:=λx hx hb=>⟨⟨hl _ _ (by omega),dc_ns hx⟩,bad_in (List.mem_append.2 (.inr (List.mem_singleton.2 rfl))) hb⟩
 intro d hd'
 simp only[odds,List.cons_append,List.nil_append,List.mem_cons,List.not_mem_nil,or_false] at hd'
 rcases hd' with rfl | rfl | rfl | rfl | rfl | rfl | rfl | rfl | rfl | rfl | rfl
 ·refine⟨⟨by rw[nsD_length]; omega,λd h=>?_⟩,bad_len (by rw[nsD_length]; omega)⟩
  obtain⟨i,_,rfl⟩:=List.mem_map.1 h
  rfl
 ·exact⟨⟨hl _ _ (by omega),dc_ns rfl⟩,bad_len (by rw[List.length_append,nsD_length,List.length_singleton]; omega)⟩
 ·exact⟨True.intro,rfl⟩
 ·exact last _ rfl (by show (decide (0<=(n:Int))&&decide ((n:Int)<(n:Int)))=false; simp)
 ·exact last _ rfl (by show (decide (0<=(-1:Int))&&decide ((-1:Int)<(n:Int)))=false; simp)
 ·exact⟨True.intro,rfl⟩
 ·exact last _ rfl rfl
 ·exact last _ rfl rfl
 ·exact last _ rfl rfl
 ·exact last _ rfl rfl
 ·exact⟨True.intro,rfl⟩
section
variable {C:Str->List D->R D} {ρ:Env}
theorem v_cell {T:Tab} (U:Draw T) {n i:Nat} {ns:List Int} {k:Nat} (h:ρ[i]?=some (some (.lst (ns.map .int),false))):ev (run T (n+1)) (.call "_law_cell" (.cons (.var i) (.cons (.int (k:Int)) .nil))) ρ=.ok (.int (cell ns k)):=by
 rw[v_call,vs_cons,v_is h rfl,R.bind_ok,vs_cons,v_int,R.bind_ok,vs_nil,R.bind_ok,R.bind_ok,R.bind_ok,r_cell U.cell n ns k (by omega)]
theorem x_deep {e:Ex} {i:Nat} {d:D} {r:Sms} (h:ev C e ρ=.ok d) (h1:noL d=false) (h2:flatL d=false):exs C (.cons (.asg i e) r) ρ=exs C r ((unown (vars e) ρ).set i (some (d,false))):=by
 rw[x_asg h,give,if_neg (by rw[h1]; simp),if_neg (by unfold owns; rw[h2]; simp)]
theorem v_drop {e:Ex} {w:List Nat} (h:ev C e ρ=.ok (.tup (nsD w))) (hw:1<=w.length):ev C (.slc e (.cons (.int 1) .nil) .nil) ρ=.ok (.tup (nsD (w.drop 1))):=by
 rw[v_slc,h,R.bind_ok,vs_cons,v_int,R.bind_ok,vs_nil,R.bind_ok,R.bind_ok]
 show R.ok (D.tup (cut (nsD w) (some 1) none))=_
 unfold cut sIx
 simp only[nsD_length]
 rw[if_neg (by omega),show (1:Int).toNat=1 from rfl,Nat.min_eq_left hw,List.take_of_length_le (by rw[List.length_drop,nsD_length]; exact Nat.le_refl _)]
 simp[nsD,List.map_drop]
theorem v_one {e:Ex} {d:D} (h:ev C e ρ=.ok d):ev C (.tup (.cons e .nil)) ρ=.ok (.tup [d]):=by
 rw[v_tup,vs_cons,h,R.bind_ok,vs_nil,R.bind_ok,R.bind_ok]
 exact if_pos fits1
theorem v_catt {a b:Ex} {xs ys:List D} (h1:ev C a ρ=.ok (.tup xs)) (h2:ev C b ρ=.ok (.tup ys)) (hz:xs.length+ys.length<=1000000):ev C (.op .add a b) ρ=.ok (.tup (xs++ys)):=by
 rw[v_op,h1,R.bind_ok,h2,R.bind_ok,o_catt _ _ hz]
theorem vs_c {a:Ex} {r:Exs} {d:D} {ds:List D} (h1:ev C a ρ=.ok d) (h2:evs C r ρ=.ok ds):evs C (.cons a r) ρ=.ok (d::ds):=by
 rw[vs_cons,h1,R.bind_ok,h2,R.bind_ok]
theorem v_list {as:Exs} {ds:List D} (h:evs C as ρ=.ok ds) (hz:ds.length<=1000000):ev C (.lst as) ρ=.ok (.lst ds):=by
 rw[v_lst,h,R.bind_ok,if_pos (fits_of hz)]
end
end Lp
namespace Mt
end Mt
namespace Lp
open Lf
open PySem (Str)
theorem v_pick {T:Tab} (U:Draw T) {n i j:Nat} {ρ:Env} {ns:List Int} {l:List D} {k m:Nat} (h:ρ[i]?=some (some (.lst (ns.map .int),false))) (hj:ρ[j]?=some (some (.lst l,false))) (hm:0<m) (hl:l.length=m):∃ d,d ∈ l/\ev (run T (n+1)) (.idx (.var j) (.op .mod (.call "_law_cell" (.cons (.var i) (.cons (.int (k:Int)) .nil))) (.int (m:Int)))) ρ=.ok d:=by
 obtain⟨q,hq,eq,_⟩:=modN (cell ns k) m hm
 refine⟨l[q]'(by omega),List.getElem_mem _,?_⟩
 rw[v_idx,v_is hj rfl,R.bind_ok,v_op,v_cell U h,R.bind_ok,v_int,R.bind_ok,eq,R.bind_ok,x_idx,atD_nat]
theorem lo_lst2 {a b:Bool}:lo 9 (.lst [.bl a,.bl b])=true:=rfl
theorem find_nat {n:Nat}:∀ {l:List Nat},n ∈ l->findD (nD n) (nsD l)=some (l.idxOf n)
 | a::l,h=>by
  show (if eqD (nD a) (nD n) then some 0 else (findD (nD n) (nsD l)).map (· + 1))=_
  rw[e_int]
  by_cases e:a=n
  ·subst e
   rw[if_pos (by simp)]
   simp
  ·rw[if_neg (by simp; omega),find_nat ((List.mem_cons.1 h).resolve_left λz=>e z.symm)]
   rw[List.idxOf_cons,show (a==n)=false from by simpa using e]
   rfl
theorem v_index {C:Str->List D->R D} {ρ:Env} {a b:Ex} {w:List Nat} {k:Nat} (h1:ev C a ρ=.ok (.tup (nsD w))) (h2:ev C b ρ=.ok (nD k)) (hk:k ∈ w):ev C (.m1 .index a b) ρ=.ok (nD (w.idxOf k)):=by
 rw[v_m1,h1,R.bind_ok,h2,R.bind_ok]
 show (if lo 9 (nD k) then match findD (nD k) (nsD w) with | some j=>R.ok (D.int j) | none=>.un else .un)=_
 rw[if_pos (lo_int _ _),find_nat hk]
theorem v_atT {C:Str->List D->R D} {ρ:Env} {a b:Ex} {l:List D} {k:Nat} {d:D} (h1:ev C a ρ=.ok (.tup l)) (h2:ev C b ρ=.ok (nD k)) (hk:l[k]?=some d):ev C (.idx a b) ρ=.ok d:=by
 obtain⟨q1,q2⟩:=List.getElem?_eq_some_iff.1 hk
 rw[v_idx,h1,R.bind_ok,h2,R.bind_ok,x_idxt,atD_nat q1,q2]
theorem eq_ns (l:List Nat):eqDs (nsD l) (nsD l)=true:=by
 induction l with
 | nil=>rfl
 | cons a l ih=>
  show (eqD (nD a) (nD a)&&eqDs (nsD l) (nsD l))=true
  rw[ih,e_int]
  simp
end Lp
namespace Mt
variable {pr:Nat->List Nat}
structure Brk (pr:Nat->List Nat) (δ:Nat->Nat) (left:List Nat) (r:List (Nat × Nat)):Prop where
 sub:(r.map Prod.fst).Sublist left
 perm:(r.map Prod.snd).Perm (r.map Prod.fst)
 le:∀ p ∈ r,(pr p.1).idxOf p.2<=(pr p.1).idxOf (δ p.1)
 lt:∃ p ∈ r,(pr p.1).idxOf p.2<(pr p.1).idxOf (δ p.1)
theorem map_perm {R:List Nat} {g:Nat->Nat} (hn:R.Nodup) (hc:∀ i ∈ R,g i ∈ R) (hj:∀ i ∈ R,∀ j ∈ R,g i=g j->i=j):(R.map g).Perm R:=by
 have hm:(R.map g).Nodup:=by
  rw[List.nodup_iff_pairwise_ne,List.pairwise_map]
  exact hn.imp_of_mem λ{a b} ha hb hab z=>hab (hj a ha b hb z)
 refine(List.perm_ext_iff_of_nodup hm hn).2 λy=>⟨λhy=>?_,λhy=>?_⟩
 ·obtain⟨x,hx,rfl⟩:=List.mem_map.1 hy
  exact hc x hx
 ·obtain⟨z,hz,e⟩:=onto hn hc hj hy
  exact List.mem_map.2 ⟨z,hz,e⟩
theorem Rounds.brk {left:List Nat} {rs:List (List (Nat × Nat))} (h:Rounds pr left rs):Wish pr left->∀ {δ:Nat->Nat},(∀ i ∈ left,δ i ∈ left)->(∀ i ∈ left,∀ j ∈ left,δ i=δ j->i=j) ->
  (rs.find? (λr=>r.any λp=>δ p.1 != p.2)=none/\∀ r ∈ rs,∀ p ∈ r,δ p.1=p.2)\/∃ r ∈ rs,rs.find? (λr=>r.any λp=>δ p.1 != p.2)=some r/\Brk pr δ left r:=by
 induction h with
 | nil=>exact λ_ {_} _ _=>.inl ⟨rfl,λ_ z=>nomatch z⟩
 | @step left R rs h0 hs r t ih=>
  intro W δ hc hj
  cases e:(R.map λo=>(o,best pr left o)).any λp=>δ p.1 != p.2 with
  | true=>
   refine .inr ⟨_,List.mem_cons_self,List.find?_cons_of_pos e,?_⟩
   have e1:(R.map λo=>(o,best pr left o)).map Prod.fst=R:=by rw[List.map_map]; exact List.map_id' R
   have e2:(R.map λo=>(o,best pr left o)).map Prod.snd=R.map (best pr left):=by rw[List.map_map]; rfl
   have hle:∀ i ∈ R,(pr i).idxOf (best pr left i)<=(pr i).idxOf (δ i):=λi hi=>best_le W (r.sub i hi) (hc i (r.sub i hi))
   refine⟨by rw[e1]; exact hs,by rw[e1,e2]; exact map_perm r.nd r.cls r.inj,λp hp=>?_,?_⟩
   ·obtain⟨i,hi,rfl⟩:=List.mem_map.1 hp
    exact hle i hi
   ·obtain⟨p,hp,hq⟩:=List.any_eq_true.1 e
    refine⟨p,hp,?_⟩
    obtain⟨i,hi,rfl⟩:=List.mem_map.1 hp
    refine Nat.lt_of_le_of_ne (hle i hi) λz=>?_
    have:=idx_inj (W.all i (r.sub i hi) _ (best_in W (r.sub i hi))) z
    rw[this] at hq
    simp at hq
  | false=>
   have hm:∀ i ∈ R,δ i=best pr left i:=λi hi=>by
    have:=List.any_eq_false.1 e (i,best pr left i) (List.mem_map.2 ⟨i,hi,rfl⟩)
    simpa using this
   have hc':∀ i ∈ minus left R,δ i ∈ minus left R:=λi hi=>by
    obtain⟨a,b⟩:=mem_minus.1 hi
    refine mem_minus.2 ⟨hc i a,λz=>?_⟩
    obtain⟨k,hk,e⟩:=onto r.nd r.cls r.inj z
    rw[<- hm k hk] at e
    exact b ((hj k (r.sub k hk) i a e) ▸ hk)
   have ff:(R.map (λo=>(o,best pr left o))::rs).find? (λr=>r.any λp=>δ p.1 != p.2)=rs.find? (λr=>r.any λp=>δ p.1 != p.2):=List.find?_cons_of_neg (by rw[e]; simp)
   rw[ff]
   rcases ih (W.minus R) hc' (λi hi j hj'=>hj i (minus_sub _ hi) j (minus_sub _ hj')) with⟨n1,n2⟩ | ⟨q,hq,n1,n2⟩
   ·refine .inl ⟨n1,λq hq p hp=>?_⟩
    rcases List.mem_cons.1 hq with rfl | hq
    ·obtain⟨i,hi,rfl⟩:=List.mem_map.1 hp
     exact hm i hi
    ·exact n2 q hq p hp
   ·exact .inr ⟨q,List.mem_cons_of_mem _ hq,n1,n2.sub.trans List.filter_sublist,n2.perm,n2.le,n2.lt⟩
theorem no_break {n:Nat} {f:Nat->Nat} {S H:List Nat} (t:TTC pr (List.range n) f) (W:Wish pr (List.range n)) (hS:S.Nodup) (hs:∀ i ∈ S,i<n) (hp:H.Perm S)
  (hle:∀ p ∈ S.zip H,(pr p.1).idxOf p.2<=(pr p.1).idxOf (f p.1)):∀ p ∈ S.zip H,p.2=f p.1:=by
 have hl:H.length=S.length:=hp.length_eq
 let g:Nat->Nat:=λi=>H.getD (S.idxOf i) 0
 have hz:∀ p ∈ S.zip H,p.1 ∈ S/\g p.1=p.2:=λp hp=>by
  obtain⟨k,hk,e⟩:=List.getElem_of_mem hp
  rw[List.getElem_zip] at e
  have hk':k<S.length:=by rw[List.length_zip] at hk; omega
  subst e
  refine⟨List.getElem_mem _,?_⟩
  show H.getD (S.idxOf S[k]) 0=H[k]
  rw[hS.idxOf_getElem k hk',List.getD_eq_getElem?_getD,List.getElem?_eq_getElem (by omega)]
  rfl
 have gi:∀ i ∈ S,∃ p ∈ S.zip H,p.1=i/\p.2=g i:=λi hi=>by
  have h1:=List.idxOf_lt_length_of_mem hi
  have hb:S.idxOf i<(S.zip H).length:=by rw[List.length_zip]; omega
  refine⟨(S.zip H)[S.idxOf i],List.getElem_mem _,?_,?_⟩
  ·rw[List.getElem_zip]
   exact List.getElem_idxOf h1
  ·rw[List.getElem_zip]
   show H[S.idxOf i]=H.getD (S.idxOf i) 0
   rw[List.getD_eq_getElem?_getD,List.getElem?_eq_getElem (by omega)]
   rfl
 have hH:H.Nodup:=hp.nodup_iff.2 hS
 have core:=t.core W (S:=S) (g:=g) hS (λi hi=>List.mem_range.2 (hs i hi)) (λi hi=>by
  obtain⟨p,hp',e1,e2⟩:=gi i hi
  rw[<- e2]
  exact hp.mem_iff.1 (List.of_mem_zip hp').2) (λi hi j hj e=>by
  have h1:=List.idxOf_lt_length_of_mem hi
  have h2:=List.idxOf_lt_length_of_mem hj
  have e':H[S.idxOf i]'(by omega)=H[S.idxOf j]'(by omega):=by
   have e3:H.getD (S.idxOf i) 0=H.getD (S.idxOf j) 0:=e
   rw[List.getD_eq_getElem?_getD,List.getD_eq_getElem?_getD,List.getElem?_eq_getElem (by omega),List.getElem?_eq_getElem (by omega)] at e3
   exact e3
  exact idx_inj hi ((List.getElem_inj hH).1 e')) (λi hi=>by
  obtain⟨p,hp',e1,e2⟩:=gi i hi
  have:=hle p hp'
  rw[e1,e2] at this
  exact this)
 intro p hp'
 obtain⟨a,b⟩:=hz p hp'
 rw[<- b]
 exact core p.1 a
end Mt
namespace Lp
open Lf
open PySem (Str)
theorem beq_nat (a b:Nat):((a:Int)==(b:Int))=(a==b):=by
 rw[Bool.eq_iff_iff,beq_iff_eq,beq_iff_eq]
 omega
theorem each_ok {w:List Nat} {n:Nat} (h1:1<=n) (h5:n<=5) (hp:w.Perm (List.range n)):fine (.tup (nsD w))/\eB n (.tup (nsD w))=true:=by
 have G:GoodM (List.replicate n w):=⟨by rw[List.length_replicate]; exact h1,by rw[List.length_replicate]; exact h5,λx hx=>by rw[List.length_replicate,List.eq_of_mem_replicate hx]; exact hp⟩
 have hm:w ∈ List.replicate n w:=List.mem_replicate.2 ⟨by omega,rfl⟩
 obtain⟨a,b⟩:=good_mk G
 have hm':D.tup (nsD w) ∈ (List.replicate n w).map λw=>D.tup (nsD w):=List.mem_map.2 ⟨w,hm,rfl⟩
 refine⟨a.2 _ hm',?_⟩
 have b':(_&&((List.replicate n w).map λw=>D.tup (nsD w)).all (eB ((List.replicate n w).map λw=>D.tup (nsD w)).length))=true:=b
 rw[Bool.and_eq_true] at b'
 have:=List.all_eq_true.1 b'.2 _ hm'
 rwa [List.length_map,List.length_replicate] at this
structure Brks (T:Tab):Prop extends Nums T,Fairs T where
 cd:T.lookup ("checked_deal" : Str)=some f_checked_deal
 brk:T.lookup ("breakers" : Str)=some f_breakers
theorem t_chkD {T:Tab} (U:Nums T) {M:List (List Nat)} (n:Nat) (d:D) (hf:fine d):tst (run T (n+3)) (.not (.call "has_each_number_below" (.cons (.var 1) (.cons (.b1 .len (.var 0)) .nil)))) (startE f_checked_deal [mkD M,d])=.ok (!eB M.length d):=by
 rw[t_not,tst_plain _ rfl,v_call,vs_c (v_is (i:=1) (d:=d) rfl hf.dc) (vs_c (mk_len (M:=M) (v_is (i:=0) rfl rfl)) (vs_nil _)),R.bind_ok,r_eachD U n d _ hf]
 rfl
theorem r_chkD {T:Tab} (U:Brks T) {M:List (List Nat)} (n:Nat) (d:D) (hf:fine d) (hb:eB M.length d=true):run T (n+4) "checked_deal" [mkD M,d]=.ok d:=by
 have t:=t_chkD U.toNums (M:=M) n d hf
 rw[hb] at t
 exact run_rt U.cd rfl ((x_skip t).trans (x_ret (v_is rfl hf.dc)))
theorem x_chkD {T:Tab} (U:Brks T) {M:List (List Nat)} (n:Nat) (d:D) (hf:fine d) (hb:eB M.length d=false):run T (n+4) "checked_deal" [mkD M,d]=.xn "BadLodging" none:=by
 have t:=t_chkD U.toNums (M:=M) n d hf
 rw[hb] at t
 refine run_xn (n:=n+3) U.cd rfl (λk=>?_) (xs_then t rfl)
 rw[show f_checked_deal.body=.cons (.ife (.not (.call "has_each_number_below" (.cons (.var 1) (.cons (.b1 .len (.var 0)) .nil)))) (.cons (.rse "BadLodging") .nil) .nil) (.cons (.ret (.var 1)) .nil) from rfl,x_then t]
 intro z
 cases z
def loopB:Sms:=.cons (.ife (.b1 .any (.comp true (.op .ne (.idx (.var 1) (.var 3)) (.var 4)) (.seq (.var 2)) .nil)) (.cons (.ret (.tup (.cons (.b1 .tuple (.comp true (.var 3) (.seq (.var 2)) .nil)) (.cons (.b1 .tuple (.comp true (.var 4) (.seq (.var 2)) .nil)) .nil)))) .nil) .nil) .nil
abbrev foundD (r:List (Nat × Nat)):D:=.tup [.tup (nsD (r.map Prod.fst)),.tup (nsD (r.map Prod.snd))]
theorem x_expN {C:Str->List D->R D} {ρ:Env} {e:Ex} {d:D} {r:Sms} (h:ev C e ρ=.ok d):exs C (.cons (.exp e) r) ρ=exs C r ρ:=by
 refine x_nx ?_
 show (ev C e ρ >>= _)=_
 rw[h]
 rfl
theorem for_brk {C:Str->List D->R D} {M:List (List Nat)} {w:List Nat}:∀ {rs:List (List (Nat × Nat))} (x:Option (D × Bool)),(∀ r ∈ rs,r.length<=5/\∀ p ∈ r,p.1<w.length) ->
  (rs.find? (λr=>r.any λp=>w.getD p.1 0 != p.2)=none/\∃ x',forR (λx ρ=>exs C loopB (ρ.set 2 (some (x,false)))) (rs.map roundD) [some (mkD M,false),some (.tup (nsD w),false),x]=.ok (.nx [some (mkD M,false),some (.tup (nsD w),false),x'])) \/
  ∃ r,rs.find? (λr=>r.any λp=>w.getD p.1 0 != p.2)=some r/\forR (λx ρ=>exs C loopB (ρ.set 2 (some (x,false)))) (rs.map roundD) [some (mkD M,false),some (.tup (nsD w),false),x]=.ok (.rt (foundD r))
 | [],x,_=>.inl ⟨rfl,x,rfl⟩
 | r::rs,x,h=>by
  obtain⟨h5,hp⟩:=h r List.mem_cons_self
  let ρ:Env:=[some (mkD M,false),some (.tup (nsD w),false),some (roundD r,false)]
  have sv:evI C (.seq (.var 2)) ρ=.ok (r.map pairN):=seq_var (i:=2) (b:=false) rfl (by rw[List.length_map]; omega)
  have c0:ev C (.comp true (.op .ne (.idx (.var 1) (.var 3)) (.var 4)) (.seq (.var 2)) .nil) ρ=.ok (.lst ((r.map λp=>w.getD p.1 0 != p.2).map .bl)):=by
   rw[v_comp,sv,R.bind_ok,mapR_all (k':=D.bl) (g:=λp=>w.getD p.1 0 != p.2) (h:=?_),R.bind_ok]
   intro p hp'
   have hi:=hp p hp'
   have ix:(nsD w)[p.1]?=some (nD (w.getD p.1 0)):=by
    rw[nsD,List.getElem?_map,List.getElem?_eq_getElem hi,List.getD_eq_getElem?_getD,List.getElem?_eq_getElem hi]
    rfl
   show (ev C (.op .ne (.idx (.var 1) (.var 3)) (.var 4)) [some (mkD M,false),some (.tup (nsD w),false),some (roundD r,false),some (nD p.1,false),some (nD p.2,false)] >>= _)=_
   rw[v_op,v_atT (l:=nsD w) (k:=p.1) (v_is rfl rfl) (v_is rfl rfl) ix,R.bind_ok,v_is (i:=4) (d:=nD p.2) rfl rfl,R.bind_ok,o_ne _ _ (lo_int _ _),R.bind_ok,e_int,beq_nat]
   rfl
  have c1:ev C (.comp true (.var 3) (.seq (.var 2)) .nil) ρ=.ok (.lst (nsD (r.map Prod.fst))):=by
   rw[v_comp,sv,R.bind_ok,mapR_all (k':=nD) (g:=Prod.fst) (h:=λp _=>rfl),R.bind_ok]
   rfl
  have c2:ev C (.comp true (.var 4) (.seq (.var 2)) .nil) ρ=.ok (.lst (nsD (r.map Prod.snd))):=by
   rw[v_comp,sv,R.bind_ok,mapR_all (k':=nD) (g:=Prod.snd) (h:=λp _=>rfl),R.bind_ok]
   rfl
  have t:tst C (.b1 .any (.comp true (.op .ne (.idx (.var 1) (.var 3)) (.var 4)) (.seq (.var 2)) .nil)) ρ=.ok (r.any λp=>w.getD p.1 0 != p.2):=by
   rw[tst_plain _ rfl,v_b1,c0,R.bind_ok]
   show ((match boolsOf ((r.map λp=>w.getD p.1 0 != p.2).map .bl) with | some bs=>R.ok (.bl (bs.any id)) | none=>.un) >>= truth)=_
   rw[boolsOf_map (λx=>x),List.map_id']
   show R.ok (List.any _ id)=_
   rw[List.any_map]
   rfl
  show _\/∃ r',_/\(exs C loopB ρ >>= _)=_
  cases e:r.any λp=>w.getD p.1 0 != p.2 with
  | true=>
   rw[e] at t
   refine .inr ⟨r,List.find?_cons_of_pos e,?_⟩
   rw[loopB,x_retif (d:=foundD r) t ?_,R.bind_ok]
   rw[v_tup,vs_c (d:=.tup (nsD (r.map Prod.fst))) (by rw[v_b1,c1,R.bind_ok]; rfl) (vs_c (d:=.tup (nsD (r.map Prod.snd))) (by rw[v_b1,c2,R.bind_ok]; rfl) (vs_nil _)),R.bind_ok]
   exact if_pos fits2
  | false=>
   rw[e] at t
   have ih:=for_brk (C:=C) (M:=M) (w:=w) (rs:=rs) (some (roundD r,false)) λq hq=>h q (List.mem_cons_of_mem _ hq)
   have ff:(r::rs).find? (λr=>r.any λp=>w.getD p.1 0 != p.2)=rs.find? (λr=>r.any λp=>w.getD p.1 0 != p.2):=List.find?_cons_of_neg (by rw[e]; simp)
   rw[ff]
   have el:exs C loopB ρ=.ok (.nx ρ):=by rw[loopB,x_skip t,x_nil]
   show (_/\∃ x',(exs C loopB ρ >>= _)=_)\/_
   rw[el]
   exact ih
theorem r_brk {T:Tab} (U:Brks T) {M:List (List Nat)} (G:GoodM M) (n:Nat) {w:List Nat} (hw:w.Perm (List.range M.length)) :
  ∃ rs,Mt.Rounds (prM M) (List.range M.length) rs/\((rs.find? (λr=>r.any λp=>w.getD p.1 0 != p.2)=none/\run T (n+6) "breakers" [mkD M,.tup (nsD w)]=.ok .non)\/∃ r,rs.find? (λr=>r.any λp=>w.getD p.1 0 != p.2)=some r/\run T (n+6) "breakers" [mkD M,.tup (nsD w)]=.ok (foundD r)):=by
 have g1:=G.l1
 have g5:=G.l5
 have hwl:w.length=M.length:=by have:=hw.length_eq; rwa [List.length_range] at this
 obtain⟨fm,bm⟩:=good_mk G
 obtain⟨fd,bd⟩:=each_ok g1 g5 hw
 have e1:=r_chkM U.toNums n (mkD M) fm bm
 have e2:=r_chkD U (M:=M) (n+1) (.tup (nsD w)) fd bd
 obtain⟨rs,hrs,er⟩:=r_pairs U.toDeals G (n+3)
 obtain⟨s1,s2⟩:=hrs.small
 rw[List.length_range] at s1 s2
 obtain⟨f,t1,t2,t3⟩:=hrs.deal
 refine⟨rs,hrs,?_⟩
 have st:∀ r,exs (run T (n+5)) (.cons (.exp (.call "checked_market" (.cons (.var 0) .nil))) (.cons (.exp (.call "checked_deal" (.cons (.var 0) (.cons (.var 1) .nil)))) r)) (startE f_breakers [mkD M,.tup (nsD w)])=exs (run T (n+5)) r [some (mkD M,false),some (.tup (nsD w),false),none]:=λr=>by
  rw[x_expN (d:=mkD M),x_expN (d:=.tup (nsD w))]
  ·rfl
  ·rw[v_call,vs_c (v_is (i:=0) (d:=mkD M) rfl rfl) (vs_c (v_is (i:=1) (d:=.tup (nsD w)) rfl rfl) (vs_nil _)),R.bind_ok,e2]
  ·rw[v_call,vs_c (v_is (i:=0) (d:=mkD M) rfl rfl) (vs_nil _),R.bind_ok,e1]
 have hI:evI (run T (n+5)) (.seq (.call "pairs_by_round" (.cons (.var 0) .nil))) [some (mkD M,false),some (.tup (nsD w),false),none]=.ok (rs.map roundD):=by
  rw[i_seq,v_call,vs_c (v_is (i:=0) (d:=mkD M) rfl rfl) (vs_nil _),R.bind_ok,er,R.bind_ok]
  exact if_pos (fits_of (by rw[List.length_map]; omega))
 rcases for_brk (C:=run T (n+5)) (M:=M) (w:=w) (rs:=rs) none (λr hr=>⟨by have:=s2 r hr; omega,λp hp=>by rw[hwl]; exact List.mem_range.1 (t2 r hr p hp).1⟩) with⟨a,x',b⟩ | ⟨r,a,b⟩
 ·refine .inl ⟨a,run_rt U.brk rfl ((st _).trans ((x_for1 hI b).trans (x_ret (v_non _))))⟩
 ·refine .inr ⟨r,a,run_rt U.brk rfl ((st _).trans (x_rt ?_))⟩
  rw[m_for1,hI,R.bind_ok]
  exact b
theorem x_brk {T:Tab} (U:Brks T) {M:List (List Nat)} (G:GoodM M) (n:Nat) (d:D) (hf:fine d) (hb:eB M.length d=false):run T (n+6) "breakers" [mkD M,d]=.xn "BadLodging" none:=by
 obtain⟨fm,bm⟩:=good_mk G
 have e1:=r_chkM U.toNums n (mkD M) fm bm
 have e2:=x_chkD U (M:=M) (n+1) d hf hb
 have a1:evs (run T (n+5)) (.cons (.var 0) (.cons (.var 1) .nil)) (startE f_breakers [mkD M,d])=.ok [mkD M,d]:=vs_c (v_is (i:=0) (d:=mkD M) rfl rfl) (vs_c (v_is (i:=1) (d:=d) rfl hf.dc) (vs_nil _))
 have c1:ev (run T (n+5)) (.call "checked_market" (.cons (.var 0) .nil)) (startE f_breakers [mkD M,d])=.ok (mkD M):=by
  rw[v_call,vs_c (v_is (i:=0) (d:=mkD M) rfl rfl) (vs_nil _),R.bind_ok,e1]
 refine run_xn (n:=n+5) U.brk rfl (λk z=>?_) ?_
 ·have:=λr=>(x_expN (r:=.cons (.exp (.call "checked_deal" (.cons (.var 0) (.cons (.var 1) .nil)))) r) c1).trans (x_expx (r:=r) (ev_xn a1 e2))
  cases (this _).symm.trans z
 ·show (match xE (run T (n+5)) (.call "checked_market" (.cons (.var 0) .nil)) (startE f_breakers [mkD M,d]) with | some c=>some c | none=>(match exm (run T (n+5)) (.exp (.call "checked_market" (.cons (.var 0) .nil))) (startE f_breakers [mkD M,d]) with | .ok (.nx ρ')=>xs (run T (n+5)) _ ρ' | _=>none))=_
  have x0:xE (run T (n+5)) (.call "checked_market" (.cons (.var 0) .nil)) (startE f_breakers [mkD M,d])=none:=by
   show (match evs (run T (n+5)) (.cons (.var 0) .nil) (startE f_breakers [mkD M,d]) with | .ok vs=>(match run T (n+5) "checked_market" vs with | .xn c d=>some (c,d) | _=>none) | _=>none)=_
   rw[vs_c (v_is (i:=0) (d:=mkD M) rfl rfl) (vs_nil _)]
   simp only[e1]
  have x1:exm (run T (n+5)) (.exp (.call "checked_market" (.cons (.var 0) .nil))) (startE f_breakers [mkD M,d])=.ok (.nx (startE f_breakers [mkD M,d])):=by
   show (ev (run T (n+5)) (.call "checked_market" (.cons (.var 0) .nil)) (startE f_breakers [mkD M,d]) >>= _)=_
   rw[c1]
   rfl
  rw[x0]
  simp only[x1]
  exact xs_exp (xE_call a1 e2)
theorem r_told {T:Tab} (U:Brks T) (hT:T.lookup ("_law_told" : Str)=some fL_told) {M:List (List Nat)} (G:GoodM M) (n:Nat) (d:D) (hf:fine d) (hb:eB M.length d=false):run T (n+7) "_law_told" [mkD M,d]=.ok (.lst [.bl true,.bl true]):=by
 have e2:=x_brk U G n d hf hb
 have a1:evs (run T (n+6)) (.cons (.var 0) (.cons (.var 1) .nil)) [some (mkD M,false),some (d,false),none]=.ok [mkD M,d]:=vs_c (v_is (i:=0) (d:=mkD M) rfl rfl) (vs_c (v_is (i:=1) (d:=d) rfl hf.dc) (vs_nil _))
 refine run_rt hT rfl (x_rt ?_)
 show (match exs (run T (n+6)) (.cons (.exp (.call "breakers" (.cons (.var 0) (.cons (.var 1) .nil)))) .nil) [some (mkD M,false),some (d,false),none] with
  | .ok fl=>R.ok fl
  | _=>match xs (run T (n+6)) (.cons (.exp (.call "breakers" (.cons (.var 0) (.cons (.var 1) .nil)))) .nil) [some (mkD M,false),some (d,false),none] with
   | some l=>(if (["BadLodging"]:List Str).contains l.1 then exH l [.rets ["BadLodging","ValueError"]] [none,none,none] else R.un)
   | none=>R.un)=_
 rw[x_expx (ev_xn a1 e2)]
 simp only[xs_exp (xE_call a1 e2)]
 show (if fits 2 then R.ok (Fl.rt (.lst (kinD "BadLodging" ["BadLodging","ValueError"]))) else .un)=_
 rw[fits2]
 rfl
theorem insI_comm (x y:Int):∀ l:List Int,insI x (insI y l)=insI y (insI x l)
  | []=>by
    show (if x<=y then [x,y] else [y,x])=(if y<=x then [y,x] else [x,y])
    by_cases h:x<=y <;> by_cases h':y<=x <;> simp[h,h'] <;> omega
  | z::l=>by
    have ih:=insI_comm x y l
    simp only[insI]
    by_cases h1:y<=z <;> by_cases h2:x<=z <;> simp only[h1,h2,if_true,if_false,insI] <;> by_cases h3:x<=y <;> by_cases h4:y<=x <;> simp only[h3,h4,if_true,if_false,insI,h1,h2,ih] <;> first
      | rfl
      | omega
      | (have:x=y:=by omega
         subst this; rfl)
theorem sortI_pm {a b:List Int} (h:a.Perm b):sortI a=sortI b:=by
 induction h with
 | nil=>rfl
 | cons x _ ih=>show insI x (sortI _)=insI x (sortI _); rw[ih]
 | swap x y l=>exact insI_comm y x (sortI l)
 | trans _ _ i1 i2=>exact i1.trans i2
theorem intsOf_ns (l:List Nat):intsOf (nsD l)=some (l.map λ(n:Nat)=>(n:Int)):=by
 have:=intsOf_nat (l.map λ(n:Nat)=>(n:Int))
 rwa [List.map_map] at this
theorem v_sort {C:Str->List D->R D} {ρ:Env} {e:Ex} {l:List Nat} (h:ev C e ρ=.ok (.tup (nsD l))) (hl:l.length<=5):ev C (.b1 .sorted e) ρ=.ok (.lst ((sortI (l.map λ(n:Nat)=>(n:Int))).map .int)):=by
 rw[v_b1,h,R.bind_ok]
 show (match intsOf (nsD l) with | some ns=>if (nsD l).length<64 then R.ok (D.lst ((sortI ns).map .int)) else .un | none=>.un)=_
 rw[intsOf_ns]
 exact if_pos (by rw[nsD_length]; omega)
theorem eq_ints:∀ l:List Int,eqDs (l.map .int) (l.map .int)=true
 | []=>rfl
 | a::l=>by
  show (eqD (.int a) (.int a)&&eqDs (l.map .int) (l.map .int))=true
  rw[eq_ints l,e_int]
  simp
theorem lo_ints (n:Nat) (l:List Int):lo (n+1) (.lst (l.map .int))=true:=lo_map l λ_=>lo_int n _
theorem zipD_map:∀ (S H:List Nat),zipD (nsD S) (nsD H)=(S.zip H).map pairN
 | [],_=>rfl
 | _::_,[]=>rfl
 | a::S,b::H=>by
  show pairN (a,b)::zipD (nsD S) (nsD H)=_
  rw[zipD_map S H]
  rfl
abbrev mine (M:List (List Nat)) (p:Nat × Nat):Nat:=(prM M p.1).idxOf p.2
abbrev had (M:List (List Nat)) (w:List Nat) (p:Nat × Nat):Nat:=(prM M p.1).idxOf (w.getD p.1 0)
abbrev eK (M:List (List Nat)) (w S H:List Nat) (g:Nat) (x5 x6 x7 x8:Option (D × Bool)):Env:=[some (mkD M,false),some (.tup (nsD w),false),some (.tup (nsD S),false),some (.tup (nsD H),false),some (nD g,false),x5,x6,x7,x8]
def bodyK:Sms:=(.cons (.asg 7 (.m1 .index (.idx (.var 0) (.var 5)) (.var 6))) (.cons (.asg 8 (.m1 .index (.idx (.var 0) (.var 5)) (.idx (.var 1) (.var 5)))) (.cons (.ife (.op .gt (.var 7) (.var 8)) (.cons (.ret (.bl false)) .nil) .nil) (.cons (.asg 4 (.op .add (.var 4) (.b1 .int (.op .lt (.var 7) (.var 8))))) .nil))))
theorem for_brks {C:Str->List D->R D} {M:List (List Nat)} (G:GoodM M) {w S H:List Nat} (hw:w.Perm (List.range M.length)):∀ (z:List (Nat × Nat)) (g:Nat) (x5 x6 x7 x8:Option (D × Bool)),(∀ p ∈ z,p.1<M.length/\p.2<M.length) ->
  (z.all (λp=>decide (mine M p<=had M w p))=true/\∃ y5 y6 y7 y8,forR (λx ρ=>match x with
   | .tup [u,v]=>exs C bodyK ((ρ.set 5 (some (u,false))).set 6 (some (v,false)))
   | _=>.un) (z.map pairN) (eK M w S H g x5 x6 x7 x8)=.ok (.nx (eK M w S H (g+z.countP λp=>decide (mine M p<had M w p)) y5 y6 y7 y8))) \/
  (z.all (λp=>decide (mine M p<=had M w p))=false/\forR (λx ρ=>match x with
   | .tup [u,v]=>exs C bodyK ((ρ.set 5 (some (u,false))).set 6 (some (v,false)))
   | _=>.un) (z.map pairN) (eK M w S H g x5 x6 x7 x8)=.ok (.rt (.bl false)))
 | [],g,x5,x6,x7,x8,_=>.inl ⟨rfl,x5,x6,x7,x8,rfl⟩
 | p::z,g,x5,x6,x7,x8,h=>by
  obtain⟨h1,h2⟩:=h p List.mem_cons_self
  have aw:(M.map λw=>D.tup (nsD w))[p.1]?=some (.tup (nsD (prM M p.1))):=by
   rw[List.getElem?_map,prM,List.getD_eq_getElem?_getD,List.getElem?_eq_getElem h1]
   rfl
  have hwl:w.length=M.length:=by have:=hw.length_eq; rwa [List.length_range] at this
  have ad:(nsD w)[p.1]?=some (nD (w.getD p.1 0)):=by
   rw[nsD,List.getElem?_map,List.getD_eq_getElem?_getD,List.getElem?_eq_getElem (by omega)]
   rfl
  have wl:w.getD p.1 0<M.length:=by
   rw[List.getD_eq_getElem?_getD,List.getElem?_eq_getElem (by omega)]
   exact List.mem_range.1 (hw.mem_iff.1 (List.getElem_mem _))
  have i1:ev C (.m1 .index (.idx (.var 0) (.var 5)) (.var 6)) (eK M w S H g (some (nD p.1,false)) (some (nD p.2,false)) x7 x8)=.ok (nD (mine M p)):=v_index (v_atT (l:=M.map λw=>D.tup (nsD w)) (v_is rfl rfl) (v_is rfl rfl) aw) (v_is rfl rfl) ((G.pr h1).mem_iff.2 (List.mem_range.2 h2))
  have i2:ev C (.m1 .index (.idx (.var 0) (.var 5)) (.idx (.var 1) (.var 5))) (eK M w S H g (some (nD p.1,false)) (some (nD p.2,false)) (some (nD (mine M p),false)) x8)=.ok (nD (had M w p)):=v_index (v_atT (l:=M.map λw=>D.tup (nsD w)) (v_is rfl rfl) (v_is rfl rfl) aw) (v_atT (v_is rfl rfl) (v_is rfl rfl) ad) ((G.pr h1).mem_iff.2 (List.mem_range.2 wl))
  have ea:∀ r,exs C (.cons (.asg 7 (.m1 .index (.idx (.var 0) (.var 5)) (.var 6))) (.cons (.asg 8 (.m1 .index (.idx (.var 0) (.var 5)) (.idx (.var 1) (.var 5)))) r)) (eK M w S H g (some (nD p.1,false)) (some (nD p.2,false)) x7 x8)=exs C r (eK M w S H g (some (nD p.1,false)) (some (nD p.2,false)) (some (nD (mine M p),false)) (some (nD (had M w p),false))):=λr=>(x_as i1 rfl).trans (x_as i2 rfl)
  have t:tst C (.op .gt (.var 7) (.var 8)) (eK M w S H g (some (nD p.1,false)) (some (nD p.2,false)) (some (nD (mine M p),false)) (some (nD (had M w p),false)))=.ok (!decide (mine M p<=had M w p)):=by
   rw[t_op,v_op,v_is (i:=7) (d:=nD (mine M p)) rfl rfl,R.bind_ok,v_is (i:=8) (d:=nD (had M w p)) rfl rfl,R.bind_ok,o_gt,R.bind_ok]
   show R.ok (decide ((had M w p:Int)<(mine M p:Int)))=_
   congr 1
   rw[Bool.eq_iff_iff,Bool.not_eq_true',decide_eq_true_iff,decide_eq_false_iff_not]
   omega
  show (_/\∃ y5 y6 y7 y8,(exs C bodyK (eK M w S H g (some (nD p.1,false)) (some (nD p.2,false)) x7 x8) >>= _)=_)\/(_/\(exs C bodyK (eK M w S H g (some (nD p.1,false)) (some (nD p.2,false)) x7 x8) >>= _)=_)
  by_cases q:mine M p<=had M w p
  ·rw[decide_eq_true q] at t
   have e5:exs C bodyK (eK M w S H g (some (nD p.1,false)) (some (nD p.2,false)) x7 x8)=.ok (.nx (eK M w S H (g+(if decide (mine M p<had M w p)=true then 1 else 0)) (some (nD p.1,false)) (some (nD p.2,false)) (some (nD (mine M p),false)) (some (nD (had M w p),false)))):=by
    rw[bodyK,ea,x_skip t,x_as (d:=nD (g+(if decide (mine M p<had M w p)=true then 1 else 0))) ?_ rfl,x_nil]
    ·rfl
    ·rw[v_op,v_is (i:=4) (d:=nD g) rfl rfl,R.bind_ok,v_b1,v_op,v_is (i:=7) (d:=nD (mine M p)) rfl rfl,R.bind_ok,v_is (i:=8) (d:=nD (had M w p)) rfl rfl,R.bind_ok,o_lt,R.bind_ok]
     show (R.ok (D.int (if decide ((mine M p:Int)<(had M w p:Int))=true then 1 else 0)) >>= _)=_
     rw[R.bind_ok,o_add]
     by_cases q2:mine M p<had M w p
     ·rw[decide_eq_true (show (mine M p:Int)<(had M w p:Int) by omega),decide_eq_true q2]
      rfl
     ·rw[decide_eq_false (show ¬ (mine M p:Int)<(had M w p:Int) by omega),decide_eq_false q2]
      simp
   rw[e5]
   have ih:=for_brks (C:=C) G (S:=S) (H:=H) hw z (g+(if decide (mine M p<had M w p)=true then 1 else 0)) (some (nD p.1,false)) (some (nD p.2,false)) (some (nD (mine M p),false)) (some (nD (had M w p),false)) λq hq=>h q (List.mem_cons_of_mem _ hq)
   rw[List.all_cons,decide_eq_true q,Bool.true_and]
   rcases ih with⟨a,y5,y6,y7,y8,b⟩ | ⟨a,b⟩
   ·refine .inl ⟨a,y5,y6,y7,y8,b.trans ?_⟩
    rw[List.countP_cons,Nat.add_assoc,Nat.add_comm (List.countP _ z)]
   ·exact .inr ⟨a,b⟩
  ·rw[decide_eq_false q] at t
   refine .inr ⟨by rw[List.all_cons,decide_eq_false q,Bool.false_and],?_⟩
   rw[bodyK,ea,x_retif t (v_bl _ false)]
   rfl
theorem r_breaks {T:Tab} (hT:T.lookup ("_law_breaks" : Str)=some fL_breaks) {M:List (List Nat)} (G:GoodM M) (n:Nat) {w S H:List Nat} (hw:w.Perm (List.range M.length)) (hS:∀ i ∈ S,i<M.length) (hp:H.Perm S) (h5:S.length<=5) :
  run T (n+1) "_law_breaks" [mkD M,.tup (nsD w),.tup (nsD S),.tup (nsD H)]=.ok (.bl (!S.isEmpty&&((S.zip H).all (λp=>decide (mine M p<=had M w p))&&(S.zip H).any (λp=>decide (mine M p<had M w p))))):=by
 have hl:H.length=S.length:=hp.length_eq
 have c1:tst (run T n) (.op .ne (.b1 .sorted (.var 2)) (.b1 .sorted (.var 3))) (startE fL_breaks [mkD M,.tup (nsD w),.tup (nsD S),.tup (nsD H)])=.ok false:=by
  rw[t_op,v_op,v_sort (l:=S) (v_is rfl rfl) h5,R.bind_ok,v_sort (l:=H) (v_is rfl rfl) (by omega),R.bind_ok,o_ne _ _ (lo_ints 8 _),sortI_pm (hp.map λ(n:Nat)=>(n:Int)),show eqD (.lst ((sortI (S.map λ(n:Nat)=>(n:Int))).map .int)) (.lst ((sortI (S.map λ(n:Nat)=>(n:Int))).map .int))=true from eq_ints _]
  rfl
 have c2:tst (run T n) (.or (.op .ne (.b1 .sorted (.var 2)) (.b1 .sorted (.var 3))) (.not (.var 2))) (startE fL_breaks [mkD M,.tup (nsD w),.tup (nsD S),.tup (nsD H)])=.ok S.isEmpty:=by
  rw[t_or,c1,R.bind_ok]
  show tst (run T n) (.not (.var 2)) _=_
  rw[t_not,t_var,v_is (i:=2) (d:=.tup (nsD S)) rfl rfl,R.bind_ok]
  show R.ok (!(!(nsD S).isEmpty))=_
  cases S <;> rfl
 refine run_rt hT rfl ?_
 cases hc:S.isEmpty with
 | true=>
  rw[hc] at c2
  exact x_retif c2 (v_bl _ false)
 | false=>
  rw[hc] at c2
  refine(x_skip c2).trans ((x_as (v_int _ 0) rfl).trans ?_)
  have hI:evI (run T n) (.zip (.var 2) (.var 3)) (eK M w S H 0 none none none none)=.ok ((S.zip H).map pairN):=by
   rw[evI_zip,v_is (i:=2) (d:=.tup (nsD S)) rfl rfl,R.bind_ok,v_is (i:=3) (d:=.tup (nsD H)) rfl rfl,R.bind_ok]
   show (if (nsD S).length=(nsD H).length/\fits (nsD S).length=true then R.ok (zipD (nsD S) (nsD H)) else .un)=_
   rw[if_pos ⟨by rw[nsD_length,nsD_length,hl],fits_of (by rw[nsD_length]; omega)⟩,zipD_map]
  have hz:∀ p ∈ S.zip H,p.1<M.length/\p.2<M.length:=λp hp'=>⟨hS _ (List.of_mem_zip hp').1,hS _ (hp.mem_iff.1 (List.of_mem_zip hp').2)⟩
  rcases for_brks (C:=run T n) G (S:=S) (H:=H) hw (S.zip H) 0 none none none none hz with⟨a,y5,y6,y7,y8,b⟩ | ⟨a,b⟩
  ·refine(x_for2 (xs:=(S.zip H).map pairN) hI b).trans (x_ret ?_)
   rw[a,Nat.zero_add,v_op,v_is (i:=4) (d:=nD ((S.zip H).countP λp=>decide (mine M p<had M w p))) rfl rfl,R.bind_ok,v_int,R.bind_ok,o_gt]
   congr 2
   rw[Bool.eq_iff_iff,decide_eq_true_iff,Bool.not_false,Bool.true_and,Bool.true_and,List.any_eq_true]
   have:=List.countP_pos_iff (p:=λp=>decide (mine M p<had M w p)) (l:=S.zip H)
   rw[<- this]
   omega
  ·refine x_rt ?_
   show (evI (run T n) (.zip (.var 2) (.var 3)) (eK M w S H 0 none none none none) >>= _)=_
   rw[hI,R.bind_ok,a]
   exact b
end Lp
namespace Mt
variable {pr:Nat->List Nat}
theorem TTC.perm {left:List Nat} {f:Nat->Nat} (h:TTC pr left f):left.Nodup->(left.map f).Perm left:=by
 induction h with
 | nil=>exact λ_=>.nil
 | @step left R f h0 r t ih=>
  intro hn
  have hs:left.Perm (R++minus left R):=by
   refine(List.perm_ext_iff_of_nodup hn ?_).2 λx=>?_
   ·exact List.nodup_append.2 ⟨r.nd,minus_nodup hn,λa ha b hb z=>(mem_minus.1 hb).2 (z ▸ ha)⟩
   ·rw[List.mem_append,mem_minus]
    by_cases q:x ∈ R
    ·exact⟨λ_=>.inl q,λ_=>r.sub x q⟩
    ·exact⟨λh=>.inr ⟨h,q⟩,λh=>h.elim (λz=>absurd z q) And.left⟩
  have a:=map_perm r.nd r.cls r.inj
  have b:=ih (minus_nodup hn)
  refine(hs.map f).trans ?_
  rw[List.map_append]
  exact(a.append b).trans hs.symm
end Mt
namespace Lp
open Lf
open PySem (Str)
theorem eq_nsB:∀ a b:List Nat,eqDs (nsD a) (nsD b)=decide (a=b)
 | [],[]=>by simp; rfl
 | [],_::_=>by simp; rfl
 | _::_,[]=>by simp; rfl
 | a::l,b::m=>by
  show (eqD (nD a) (nD b)&&eqDs (nsD l) (nsD m))=_
  rw[eq_nsB l m,e_int,beq_nat,Bool.eq_iff_iff]
  simp
theorem v_lo {C:Str->List D->R D} {ρ:Env} {e k:Ex} {l:List Nat} {a:Nat} (h:ev C e ρ=.ok (.tup (nsD l))) (hk:ev C k ρ=.ok (nD a)):ev C (.slc e (.cons k .nil) .nil) ρ=.ok (.tup (nsD (l.drop a))):=by
 rw[v_slc,h,R.bind_ok,vs_c hk (vs_nil _),R.bind_ok]
 show R.ok (D.tup (cut (nsD l) (some (a:Int)) none))=_
 unfold cut sIx
 simp only[nsD_length]
 rw[if_neg (by omega),Int.toNat_natCast,List.take_of_length_le (by rw[List.length_drop,nsD_length]; exact Nat.le_refl _)]
 congr 2
 rw[nsD,nsD,<- List.map_drop]
 congr 1
 rcases Nat.le_total a l.length with z | z
 ·rw[Nat.min_eq_left z]
 ·rw[Nat.min_eq_right z,List.drop_length,List.drop_of_length_le z]
theorem v_hi {C:Str->List D->R D} {ρ:Env} {e k:Ex} {l:List Nat} {a:Nat} (h:ev C e ρ=.ok (.tup (nsD l))) (hk:ev C k ρ=.ok (nD a)):ev C (.slc e .nil (.cons k .nil)) ρ=.ok (.tup (nsD (l.take a))):=by
 rw[v_slc,h,R.bind_ok,vs_nil,R.bind_ok]
 show (evs C (.cons k .nil) ρ >>= _)=_
 rw[vs_c hk (vs_nil _),R.bind_ok]
 show R.ok (D.tup (cut (nsD l) none (some (a:Int))))=_
 unfold cut sIx
 simp only[nsD_length]
 rw[if_neg (by omega),Int.toNat_natCast,List.drop_zero,Nat.sub_zero]
 congr 2
 rw[nsD,nsD,<- List.map_take]
 congr 1
 rcases Nat.le_total a l.length with z | z
 ·rw[Nat.min_eq_left z]
 ·rw[Nat.min_eq_right z,List.take_length,List.take_of_length_le z]
theorem v_mod {T:Tab} (U:Draw T) {n i:Nat} {ρ:Env} {ns:List Int} {k m:Nat} (h:ρ[i]?=some (some (.lst (ns.map .int),false))) (hm:0<m):∃ q,q<m/\ev (run T (n+1)) (.op .mod (.call "_law_cell" (.cons (.var i) (.cons (.int (k:Int)) .nil))) (.int (m:Int))) ρ=.ok (nD q):=by
 obtain⟨q,hq,eq,_⟩:=modN (cell ns k) m hm
 exact⟨q,hq,by rw[v_op,v_cell U h,R.bind_ok,v_int,R.bind_ok,eq]⟩
theorem sset_ok {C:Str->List D->R D} {ρ:Env} {e:Ex} {l:List Nat} (h:ev C e ρ=.ok (.tup (nsD l))) (hl:l.Pairwise (· < ·)) (h5:∀ x ∈ l,x<5):ev C (.sset e) ρ=.ok (.lst (nsD l)):=by
 rw[ev_sset,h,R.bind_ok]
 show (match intsOf (nsD l) with | some ns=>if rise5 ns then R.ok (D.lst (nsD l)) else .un | none=>.un)=_
 rw[intsOf_ns]
 refine if_pos ?_
 unfold rise5
 rw[Bool.and_eq_true]
 refine⟨decide_eq_true ?_,List.all_eq_true.2 λx hx=>?_⟩
 ·rw[List.pairwise_map]
  exact hl.imp λh=>by omega
 ·obtain⟨k,hk,rfl⟩:=List.mem_map.1 hx
  have:=h5 k hk
  rw[Bool.and_eq_true]
  exact⟨decide_eq_true (by omega),decide_eq_true (by omega)⟩
theorem uDraw:Draw T_k14:=⟨rfl,rfl,rfl,rfl⟩
theorem uBrks:Brks T_k14:={ below:=rfl,unlike:=rfl,each:=rfl,market:=rfl,checked:=rfl,liked:=rfl,ring:=rfl,pairs:=rfl,fair:=rfl,cd:=rfl,brk:=rfl }
abbrev eW (ns:List Int) (M:List (List Nat)) (w:List Nat) (x4 x5 x6 x7:Option (D × Bool)):Env:=[some (.lst (ns.map .int),false),some (mkD M,false),some (nD M.length,false),some (.tup (nsD w),false),x4,x5,x6,x7]
def restK:Sms:=(.cons (.asg 4 (.call "breakers" (.cons (.var 1) (.cons (.var 3) .nil)))) (.cons (.ife (.op .ne (.isn false (.var 4)) (.op .eq (.var 3) (.call "_law_deal" (.cons (.var 1) .nil)))) (.cons (.ret (.bl false)) .nil) .nil) (.cons (.asg 5 (.lst (.cons (.slc (.var 3) (.cons (.int 1) .nil) .nil) (.cons (.op .add (.var 3) (.tup (.cons (.int 0) .nil))) (.cons (.b1 .list (.var 3)) (.cons .non (.cons (.op .add (.slc (.var 3) (.cons (.int 1) .nil) .nil) (.tup (.cons (.var 2) .nil))) (.cons (.op .add (.slc (.var 3) (.cons (.int 1) .nil) .nil) (.tup (.cons (.int (-1)) .nil))) (.cons (.op .add (.slc (.var 3) (.cons (.int 1) .nil) .nil) (.tup (.cons (.bl true) .nil))) .nil))))))))) (.cons (.asg 5 (.op .add (.var 5) (.lst (.cons (.op .add (.slc (.var 3) (.cons (.int 1) .nil) .nil) (.tup (.cons .non .nil))) (.cons (.op .add (.slc (.var 3) (.cons (.int 1) .nil) .nil) (.tup (.cons (.str "0") .nil))) (.cons (.op .add (.slc (.var 3) (.cons (.int 1) .nil) .nil) (.tup (.cons (.lst (.cons (.int 0) .nil)) .nil))) (.cons (.op .mul (.str "0") (.var 2)) .nil))))))) (.cons (.ife (.op .ne (.call "_law_told" (.cons (.var 1) (.cons (.idx (.var 5) (.op .mod (.call "_law_cell" (.cons (.var 0) (.cons (.int 1) .nil))) (.int 11))) .nil))) (.lst (.cons (.bl true) (.cons (.bl true) .nil)))) (.cons (.ret (.bl false)) .nil) .nil) (.cons (.asg 6 (.call "_law_some" (.cons (.call "_law_cell" (.cons (.var 0) (.cons (.int 1) .nil))) (.cons (.var 2) (.cons (.bl false) .nil))))) (.cons (.asg 7 (.op .add (.slc (.var 6) (.cons (.op .mod (.call "_law_cell" (.cons (.var 0) (.cons (.int 2) .nil))) (.int 5)) .nil) .nil) (.slc (.var 6) .nil (.cons (.op .mod (.call "_law_cell" (.cons (.var 0) (.cons (.int 2) .nil))) (.int 5)) .nil)))) (.cons (.ife (.isn false (.var 4)) (.cons (.ret (.and (.not (.call "_law_breaks" (.cons (.var 1) (.cons (.var 3) (.cons (.var 6) (.cons (.var 7) .nil)))))) (.op .eq (.call "fair_deal" (.cons (.var 1) .nil)) (.var 3)))) .nil) .nil) (.cons (.ife (.or (.not (.ins .tuple (.var 4))) (.or (.op .ne (.b1 .len (.var 4)) (.int 2)) (.not (.ins .tuple (.idx (.var 4) (.int 0)))))) (.cons (.ret (.bl false)) .nil) .nil) (.cons (.ife (.op .ne (.b1 .list (.idx (.var 4) (.int 0))) (.sset (.idx (.var 4) (.int 0)))) (.cons (.ret (.bl false)) .nil) .nil) (.cons (.ret (.and (.ins .tuple (.idx (.var 4) (.int 1))) (.call "_law_breaks" (.cons (.var 1) (.cons (.var 3) (.cons (.idx (.var 4) (.int 0)) (.cons (.idx (.var 4) (.int 1)) .nil))))))) .nil)))))))))))
theorem found_is {M:List (List Nat)} (G:GoodM M) {w:List Nat} (hw:w.Perm (List.range M.length)) {f:Nat->Nat} (tf:Mt.TTC (prM M) (List.range M.length) f) :
  ∃ F,(run T_k14 39) "breakers" [mkD M,.tup (nsD w)]=.ok F/\((F=.non/\w=(List.range M.length).map f)\/∃ r,F=foundD r/\w ≠ (List.range M.length).map f/\Mt.Brk (prM M) (λi=>w.getD i 0) (List.range M.length) r):=by
 have W:=G.wish (left:=List.range M.length) λi hi=>List.mem_range.1 hi
 have hwl:w.length=M.length:=by have:=hw.length_eq; rwa [List.length_range] at this
 have wi:∀ i,(h:i<M.length)->w.getD i 0=w[i]'(by omega):=λi h=>by
  rw[List.getD_eq_getElem?_getD,List.getElem?_eq_getElem (by omega)]
  rfl
 have hn:w.Nodup:=hw.nodup_iff.2 List.nodup_range
 obtain⟨rs,hrs,hb⟩:=r_brk uBrks G 33 hw
 obtain⟨f',t1,t2,t3⟩:=hrs.deal
 have ff:∀ i,i<M.length->f' i=f i:=λi hi=>t1.uniq W tf i (List.mem_range.2 hi)
 have key:=hrs.brk W (δ:=λi=>w.getD i 0) (λi hi=>by
  have hi:=List.mem_range.1 hi
  rw[wi i hi]
  exact hw.mem_iff.1 (List.getElem_mem _)) (λi hi j hj e=>by
  have hi:=List.mem_range.1 hi
  have hj:=List.mem_range.1 hj
  have e':w.getD i 0=w.getD j 0:=e
  rw[wi i hi,wi j hj] at e'
  exact(List.getElem_inj hn).1 e')
 rcases hb with⟨b1,b2⟩ | ⟨r,b1,b2⟩
 ·refine⟨_,b2,.inl ⟨rfl,?_⟩⟩
  rcases key with⟨_,k2⟩ | ⟨r,_,k1,_⟩
  ·refine List.ext_getElem (by simp[hwl]) λi h1 h2=>?_
   have hi:i<M.length:=by omega
   obtain⟨r,hr,ho⟩:=t3 i (List.mem_range.2 hi)
   have:=k2 r hr _ ho
   rw[List.getElem_map,List.getElem_range,<- ff i hi,<- wi i hi]
   exact this
  ·rw[b1] at k1
   cases k1
 ·refine⟨_,b2,.inr ⟨r,rfl,?_,?_⟩⟩
  ·rcases key with⟨k1,_⟩ | ⟨q,hq,k1,k2⟩
   ·rw[b1] at k1
    cases k1
   ·intro z
    obtain⟨p,hp,hlt⟩:=k2.lt
    obtain⟨c1,c2⟩:=t2 q hq p hp
    have hi:=List.mem_range.1 c1
    have:w.getD p.1 0=f p.1:=by rw[wi _ hi]; simp only[z,List.getElem_map,List.getElem_range]
    rw[c2,ff _ hi,<- this] at hlt
    exact Nat.lt_irrefl _ hlt
  ·rcases key with⟨k1,_⟩ | ⟨q,hq,k1,k2⟩
   ·rw[b1] at k1
    cases k1
   ·rw[b1] at k1
    cases k1
    exact k2
theorem zip_pairs:∀ r:List (Nat × Nat),(r.map Prod.fst).zip (r.map Prod.snd)=r
 | []=>rfl
 | p::r=>by
  show (p.1,p.2)::(r.map Prod.fst).zip (r.map Prod.snd)=_
  rw[zip_pairs r]
theorem tail_k14 (ns:List Int) {M:List (List Nat)} (G:GoodM M) {w:List Nat} (hw:w.Perm (List.range M.length)):exs (run T_k14 39) restK (eW ns M w none none none none)=.ok (.rt (.bl true)):=by
 have g1:=G.l1
 have g5:=G.l5
 have hwl:w.length=M.length:=by have:=hw.length_eq; rwa [List.length_range] at this
 obtain⟨fm,bm⟩:=good_mk G
 obtain⟨f,tf,ef⟩:=r_fair uBrks.toFairs G 36 (r_chkM uBrks.toNums 33 (mkD M) fm bm)
 have el:=r_ldeal (T:=T_k14) rfl G 38 tf
 have W:=G.wish (left:=List.range M.length) λi hi=>List.mem_range.1 hi
 obtain⟨F,eF',hF⟩:=found_is G hw tf
 have nF:noL F=true:=by
  rcases hF with⟨rfl,_⟩ | ⟨r,rfl,_⟩
  ·rfl
  ·show (noLs (nsD _)&&(noLs (nsD _)&&true))=true
   rw[noL_nsD,noL_nsD]
   rfl
 have dF:isDc F=false:=by rcases hF with⟨rfl,_⟩ | ⟨r,rfl,_⟩ <;> rfl
 have iF:isNon F=decide (w=(List.range M.length).map f):=by
  rcases hF with⟨rfl,h⟩ | ⟨r,rfl,h,_⟩
  ·rw[decide_eq_true h]; rfl
  ·rw[decide_eq_false h]; rfl
 let x4:Option (D × Bool):=some (F,false)
 have v3:∀ y4 y5 y6 y7,ev (run T_k14 39) (.var 3) (eW ns M w y4 y5 y6 y7)=.ok (.tup (nsD w)):=λ_ _ _ _=>v_is rfl rfl
 have v1:∀ y4 y5 y6 y7,ev (run T_k14 39) (.var 1) (eW ns M w y4 y5 y6 y7)=.ok (mkD M):=λ_ _ _ _=>v_is rfl rfl
 have v2:∀ y4 y5 y6 y7,ev (run T_k14 39) (.var 2) (eW ns M w y4 y5 y6 y7)=.ok (nD M.length):=λ_ _ _ _=>v_is rfl rfl
 have v4:∀ y5 y6 y7,ev (run T_k14 39) (.var 4) (eW ns M w x4 y5 y6 y7)=.ok F:=λ_ _ _=>v_is rfl dF
 have b4:ev (run T_k14 39) (.call "breakers" (.cons (.var 1) (.cons (.var 3) .nil))) (eW ns M w none none none none)=.ok F:=by
  rw[v_call,vs_c (v1 _ _ _ _) (vs_c (v3 _ _ _ _) (vs_nil _)),R.bind_ok,eF']
 refine(x_as b4 nF).trans ?_
 have lod:lo 9 (.tup (nsD w))=true:=lo_nsD 8 _
 have b5:tst (run T_k14 39) (.op .ne (.isn false (.var 4)) (.op .eq (.var 3) (.call "_law_deal" (.cons (.var 1) .nil)))) (eW ns M w x4 none none none)=.ok false:=by
  rw[t_op,v_op,v_isn,v4,R.bind_ok,R.bind_ok,v_op,v3,R.bind_ok,v_call,vs_c (v1 _ _ _ _) (vs_nil _),R.bind_ok,el,R.bind_ok,o_eq _ _ lod,R.bind_ok,o_ne _ _ rfl,iF,e_bl]
  show R.ok (!(_==eqDs (nsD w) (nsD _)))=_
  rw[eq_nsB]
  simp
 refine(x_skip b5).trans ?_
 have wd:∀ y4 y5 y6 y7,ev (run T_k14 39) (.slc (.var 3) (.cons (.int 1) .nil) .nil) (eW ns M w y4 y5 y6 y7)=.ok (.tup (nsD (w.drop 1))):=λ_ _ _ _=>v_drop (v3 _ _ _ _) (by omega)
 have dl:(nsD (w.drop 1)).length+1<=1000000:=by rw[nsD_length,List.length_drop]; omega
 have b6:=v_list (vs_c (wd x4 none none none) (vs_c (v_catt (v3 x4 none none none) (v_one (v_int _ 0)) (by rw[nsD_length,List.length_singleton]; omega)) (vs_c (d:=.lst (nsD w)) (a:=.b1 .list (.var 3)) (by rw[v_b1,v3,R.bind_ok]; rfl) (vs_c (v_non _) (vs_c (v_catt (wd x4 none none none) (v_one (v2 x4 none none none)) dl) (vs_c (v_catt (wd x4 none none none) (v_one (v_int _ (-1))) dl) (vs_c (v_catt (wd x4 none none none) (v_one (v_bl _ true)) dl) (vs_nil _)))))))) (by simp)
 let L1:List D:=[.tup (nsD (w.drop 1)),.tup (nsD w++[.int 0]),.lst (nsD w),.non,.tup (nsD (w.drop 1)++[nD M.length]),.tup (nsD (w.drop 1)++[.int (-1)]),.tup (nsD (w.drop 1)++[.bl true])]
 refine(x_deep b6 rfl (by simp[flatL])).trans ?_
 let x5:Option (D × Bool):=some (.lst L1,false)
 have bs:ev (run T_k14 39) (.op .mul (.str "0") (.var 2)) (eW ns M w x4 x5 none none)=.ok (.str (repT M.length "0")):=by
  rw[v_op,ev_str,R.bind_ok,v2,R.bind_ok]
  show (if decide (1<=("0" : Str).length)&&decide (1<=(M.length:Int))&&fits (("0" : Str).length*(M.length:Int).toNat) then R.ok (D.str (repT (M.length:Int).toNat "0")) else .un)=_
  rw[show ("0" : Str).length=1 from by decide +kernel,Int.toNat_natCast,Nat.one_mul,fits_of (by omega),decide_eq_true (by omega:(1:Int)<=(M.length:Int))]
  rfl
 have b7':=v_list (vs_c (v_catt (wd x4 x5 none none) (v_one (v_non _)) dl) (vs_c (v_catt (wd x4 x5 none none) (v_one (ev_str _ "0")) dl) (vs_c (v_catt (wd x4 x5 none none) (v_one (v_list (vs_c (v_int _ 0) (vs_nil _)) (by simp))) dl) (vs_c bs (vs_nil _))))) (by simp)
 let L2:List D:=L1++[.tup (nsD (w.drop 1)++[.non]),.tup (nsD (w.drop 1)++[.str "0"]),.tup (nsD (w.drop 1)++[.lst [.int 0]]),.str (repT M.length "0")]
 have b7:ev (run T_k14 39) (.op .add (.var 5) (.lst (.cons (.op .add (.slc (.var 3) (.cons (.int 1) .nil) .nil) (.tup (.cons .non .nil))) (.cons (.op .add (.slc (.var 3) (.cons (.int 1) .nil) .nil) (.tup (.cons (.str "0") .nil))) (.cons (.op .add (.slc (.var 3) (.cons (.int 1) .nil) .nil) (.tup (.cons (.lst (.cons (.int 0) .nil)) .nil))) (.cons (.op .mul (.str "0") (.var 2)) .nil)))))) (eW ns M w x4 x5 none none)=.ok (.lst L2):=by
  rw[v_op,v_is (i:=5) (d:=.lst L1) rfl rfl,R.bind_ok,b7',R.bind_ok]
  exact if_pos (fits_of (by simp[L1]))
 refine(x_deep b7 rfl (by simp[flatL,L2,L1])).trans ?_
 let z5:Option (D × Bool):=some (.lst L2,false)
 obtain⟨d,hd,ed⟩:=v_pick (n:=38) (i:=0) (j:=5) (k:=1) (m:=11) (l:=L2) (ρ:=eW ns M w x4 z5 none none) uDraw rfl rfl (by decide) rfl
 have hdo:d ∈ odds w M.length:=by
  simp only[L2,L1,List.cons_append,List.nil_append,List.mem_cons,List.not_mem_nil,or_false] at hd
  simp only[odds,List.cons_append,List.nil_append,List.mem_cons,List.not_mem_nil,or_false]
  rcases hd with h | h | h | h | h | h | h | h | h | h | h <;> simp[h]
 obtain⟨fd,bd⟩:=odd_bad hwl g1 g5 d hdo
 have ed':ev (run T_k14 39) (.idx (.var 5) (.op .mod (.call "_law_cell" (.cons (.var 0) (.cons (.int 1) .nil))) (.int 11))) (eW ns M w x4 z5 none none)=.ok d:=ed
 have b8:tst (run T_k14 39) (.op .ne (.call "_law_told" (.cons (.var 1) (.cons (.idx (.var 5) (.op .mod (.call "_law_cell" (.cons (.var 0) (.cons (.int 1) .nil))) (.int 11))) .nil))) (.lst (.cons (.bl true) (.cons (.bl true) .nil)))) (eW ns M w x4 z5 none none)=.ok false:=by
  rw[t_op,v_op,v_call,vs_c (v1 _ _ _ _) (vs_c ed' (vs_nil _)),R.bind_ok,r_told uBrks rfl G 32 d fd bd,R.bind_ok,v_list (vs_c (v_bl _ true) (vs_c (v_bl _ true) (vs_nil _))) (by simp),R.bind_ok,o_ne _ _ lo_lst2]
  rfl
 refine(x_skip b8).trans ?_
 obtain⟨S,sS,eS⟩:=r_some (T:=T_k14) rfl rfl 37 (cell ns 1) M.length g5 false
 have b9:ev (run T_k14 39) (.call "_law_some" (.cons (.call "_law_cell" (.cons (.var 0) (.cons (.int 1) .nil))) (.cons (.var 2) (.cons (.bl false) .nil)))) (eW ns M w x4 z5 none none)=.ok (.tup (nsD S)):=by
  rw[v_call,vs_c (show ev (run T_k14 39) (.call "_law_cell" (.cons (.var 0) (.cons (.int 1) .nil))) (eW ns M w x4 z5 none none)=.ok (.int (cell ns 1)) from v_cell (k:=1) (n:=38) uDraw rfl) (vs_c (v2 _ _ _ _) (vs_c (v_bl _ false) (vs_nil _))),R.bind_ok,eS]
 refine(x_as b9 (noL_nsD S)).trans ?_
 have hSl:S.length<=M.length:=by
  have:=sS.nd.length_le_of_subset (l₂:=List.range M.length) λx hx=>List.mem_range.2 (sS.lt x hx)
  rwa [List.length_range] at this
 let x6:Option (D × Bool):=some (.tup (nsD S),false)
 obtain⟨a,ha,ea⟩:=v_mod (n:=38) (i:=0) (k:=2) (m:=5) (ρ:=eW ns M w x4 z5 x6 none) uDraw rfl (by decide)
 have v6:∀ y7,ev (run T_k14 39) (.var 6) (eW ns M w x4 z5 x6 y7)=.ok (.tup (nsD S)):=λ_=>v_is rfl rfl
 have b10:ev (run T_k14 39) (.op .add (.slc (.var 6) (.cons (.op .mod (.call "_law_cell" (.cons (.var 0) (.cons (.int 2) .nil))) (.int 5)) .nil) .nil) (.slc (.var 6) .nil (.cons (.op .mod (.call "_law_cell" (.cons (.var 0) (.cons (.int 2) .nil))) (.int 5)) .nil))) (eW ns M w x4 z5 x6 none)=.ok (.tup (nsD (S.drop a++S.take a))):=by
  rw[nsD_app]
  exact v_catt (v_lo (v6 _) ea) (v_hi (v6 _) ea) (by rw[nsD_length,nsD_length,List.length_drop,List.length_take]; omega)
 refine(x_as b10 (noL_nsD _)).trans ?_
 let x7:Option (D × Bool):=some (.tup (nsD (S.drop a++S.take a)),false)
 have pH:(S.drop a++S.take a).Perm S:=List.perm_append_comm.trans (by rw[List.take_append_drop])
 have b11:tst (run T_k14 39) (.isn false (.var 4)) (eW ns M w x4 z5 x6 x7)=.ok (isNon F):=by
  rw[t_isn,v_isn,v4,R.bind_ok]
  show R.ok (isNon F != false)=_
  cases isNon F <;> rfl
 rcases hF with⟨rfl,hwf⟩ | ⟨r,rfl,hwf,B⟩
 ·refine x_retif b11 ?_
  have nb:(!S.isEmpty&&((S.zip (S.drop a++S.take a)).all (λp=>decide (mine M p<=had M w p))&&(S.zip (S.drop a++S.take a)).any (λp=>decide (mine M p<had M w p))))=false:=by
   refine Bool.eq_false_iff.2 λz=>?_
   simp only[Bool.and_eq_true] at z
   obtain⟨_,z1,z2⟩:=z
   have wf:∀ i,i<M.length->w.getD i 0=f i:=λi hi=>by
    rw[List.getD_eq_getElem?_getD,hwf,List.getElem?_map,List.getElem?_range hi]
    rfl
   have hz:∀ p ∈ S.zip (S.drop a++S.take a),p.1<M.length:=λp hp=>sS.lt _ (List.of_mem_zip hp).1
   have:=Mt.no_break tf W sS.nd sS.lt pH λp hp=>by
    have:=of_decide_eq_true (List.all_eq_true.1 z1 p hp)
    rw[had,wf _ (hz p hp)] at this
    exact this
   obtain⟨p,hp,hlt⟩:=List.any_eq_true.1 z2
   have hlt:=of_decide_eq_true hlt
   rw[had,wf _ (hz p hp),mine,this p hp] at hlt
   exact Nat.lt_irrefl _ hlt
  have e1:ev (run T_k14 39) (.call "_law_breaks" (.cons (.var 1) (.cons (.var 3) (.cons (.var 6) (.cons (.var 7) .nil))))) (eW ns M w x4 z5 x6 x7)=.ok (.bl false):=by
   rw[v_call,vs_c (v1 _ _ _ _) (vs_c (v3 _ _ _ _) (vs_c (v6 _) (vs_c (v_is (i:=7) (d:=.tup (nsD (S.drop a++S.take a))) rfl rfl) (vs_nil _)))),R.bind_ok,r_breaks (T:=T_k14) rfl G 38 hw sS.lt pH (by omega),nb]
  show ev (run T_k14 39) (.and (.not (.call "_law_breaks" (.cons (.var 1) (.cons (.var 3) (.cons (.var 6) (.cons (.var 7) .nil)))))) (.op .eq (.call "fair_deal" (.cons (.var 1) .nil)) (.var 3))) (eW ns M w x4 z5 x6 x7)=_
  rw[v_and,v_not,e1,R.bind_ok]
  show ev (run T_k14 39) (.op .eq (.call "fair_deal" (.cons (.var 1) .nil)) (.var 3)) (eW ns M w x4 z5 x6 x7)=_
  rw[v_op,v_call,vs_c (v1 _ _ _ _) (vs_nil _),R.bind_ok,ef,R.bind_ok,v3,R.bind_ok,o_eq _ _ (show lo 9 (.tup (nsD ((List.range M.length).map f)))=true from lo_nsD 8 _)]
  show R.ok (D.bl (eqDs (nsD _) (nsD w)))=_
  rw[eq_nsB,decide_eq_true hwf.symm]
 ·refine(x_skip b11).trans ?_
  have hrn:∀ i ∈ r.map Prod.fst,i<M.length:=λi hi=>List.mem_range.1 (B.sub.subset hi)
  have pw:(r.map Prod.fst).Pairwise (· < ·):=List.pairwise_lt_range.sublist B.sub
  have hr5:(r.map Prod.fst).length<=5:=by have:=B.sub.length_le; rw[List.length_range] at this; omega
  have f0:∀ y5 y6 y7,ev (run T_k14 39) (.idx (.var 4) (.int 0)) (eW ns M w x4 y5 y6 y7)=.ok (.tup (nsD (r.map Prod.fst))):=λ_ _ _=>by rw[v_idx,v4,R.bind_ok,v_int,R.bind_ok]; rfl
  have f1:∀ y5 y6 y7,ev (run T_k14 39) (.idx (.var 4) (.int 1)) (eW ns M w x4 y5 y6 y7)=.ok (.tup (nsD (r.map Prod.snd))):=λ_ _ _=>by rw[v_idx,v4,R.bind_ok,v_int,R.bind_ok]; rfl
  have b12:tst (run T_k14 39) (.or (.not (.ins .tuple (.var 4))) (.or (.op .ne (.b1 .len (.var 4)) (.int 2)) (.not (.ins .tuple (.idx (.var 4) (.int 0)))))) (eW ns M w x4 z5 x6 x7)=.ok false:=by
   rw[t_or,t_not,t_ins,v_ins,v4,R.bind_ok]
   show tst (run T_k14 39) (.or (.op .ne (.b1 .len (.var 4)) (.int 2)) (.not (.ins .tuple (.idx (.var 4) (.int 0))))) (eW ns M w x4 z5 x6 x7)=_
   rw[t_or,t_op,v_op,v_b1,v4,R.bind_ok]
   show tst (run T_k14 39) (.not (.ins .tuple (.idx (.var 4) (.int 0)))) (eW ns M w x4 z5 x6 x7)=_
   rw[t_not,t_ins,v_ins,f0,R.bind_ok]
   rfl
  refine(x_skip b12).trans ?_
  have b13:tst (run T_k14 39) (.op .ne (.b1 .list (.idx (.var 4) (.int 0))) (.sset (.idx (.var 4) (.int 0)))) (eW ns M w x4 z5 x6 x7)=.ok false:=by
   rw[t_op,v_op,v_b1,f0,R.bind_ok]
   show ((R.ok (D.lst (nsD (r.map Prod.fst))) >>= _) >>= truth)=_
   rw[R.bind_ok,sset_ok (f0 _ _ _) pw (λx hx=>Nat.lt_of_lt_of_le (hrn x hx) g5),R.bind_ok,o_ne _ _ (show lo 9 (.lst (nsD (r.map Prod.fst)))=true from lo_nsD 8 _)]
   show R.ok (!eqDs (nsD _) (nsD _))=_
   rw[eq_ns]
   rfl
  refine(x_skip b13).trans (x_ret ?_)
  have yes:(!(r.map Prod.fst).isEmpty&&(((r.map Prod.fst).zip (r.map Prod.snd)).all (λp=>decide (mine M p<=had M w p))&&((r.map Prod.fst).zip (r.map Prod.snd)).any (λp=>decide (mine M p<had M w p))))=true:=by
   rw[zip_pairs]
   obtain⟨p,hp,hlt⟩:=B.lt
   simp only[Bool.and_eq_true]
   refine⟨?_,List.all_eq_true.2 λq hq=>decide_eq_true (B.le q hq),List.any_eq_true.2 ⟨p,hp,decide_eq_true hlt⟩⟩
   cases r with
   | nil=>cases hp
   | cons _ _=>rfl
  show ev (run T_k14 39) (.and (.ins .tuple (.idx (.var 4) (.int 1))) (.call "_law_breaks" (.cons (.var 1) (.cons (.var 3) (.cons (.idx (.var 4) (.int 0)) (.cons (.idx (.var 4) (.int 1)) .nil)))))) (eW ns M w x4 z5 x6 x7)=_
  rw[v_and,v_ins,f1,R.bind_ok,R.bind_ok]
  show ev (run T_k14 39) (.call "_law_breaks" (.cons (.var 1) (.cons (.var 3) (.cons (.idx (.var 4) (.int 0)) (.cons (.idx (.var 4) (.int 1)) .nil))))) (eW ns M w x4 z5 x6 x7)=_
  rw[v_call,vs_c (v1 _ _ _ _) (vs_c (v3 _ _ _ _) (vs_c (f0 _ _ _) (vs_c (f1 _ _ _) (vs_nil _)))),R.bind_ok,r_breaks (T:=T_k14) rfl G 38 hw hrn B.perm hr5,yes]
theorem run_k14:∀ ns:List Int,ns.length<=63->run T_k14 40 ("law" : Str) [.lst (ns.map .int)]=.ok (.bl true):=by
 intro ns hns
 obtain⟨M,G,em⟩:=r_market uDraw 36 ns
 have g5:=G.l5
 refine run_rt (n:=39) (fn:=law_k14) rfl rfl ?_
 have b1:ev (run T_k14 39) (.call "_law_market" (.cons (.var 0) (.cons (.int 3) .nil))) [some (.lst (ns.map .int),false),none,none,none,none,none,none,none]=.ok (mkD M):=by
  rw[v_call,vs_c (v_is (i:=0) (d:=.lst (ns.map .int)) rfl rfl) (vs_c (v_int _ 3) (vs_nil _)),R.bind_ok,em]
 have nM:noL (mkD M)=true:=noLs_map M λw=>noL_nsD w
 have b2:ev (run T_k14 39) (.b1 .len (.var 1)) [some (.lst (ns.map .int),false),some (mkD M,false),none,none,none,none,none,none]=.ok (nD M.length):=mk_len (v_is rfl rfl)
 obtain⟨w,sw,ew⟩:=r_some (T:=T_k14) rfl rfl 37 (cell ns 0) M.length g5 true
 have b3:ev (run T_k14 39) (.call "_law_some" (.cons (.call "_law_cell" (.cons (.var 0) (.cons (.int 0) .nil))) (.cons (.var 2) (.cons (.bl true) .nil)))) [some (.lst (ns.map .int),false),some (mkD M,false),some (nD M.length,false),none,none,none,none,none]=.ok (.tup (nsD w)):=by
  rw[v_call,vs_c (show ev (run T_k14 39) (.call "_law_cell" (.cons (.var 0) (.cons (.int 0) .nil))) [some (.lst (ns.map .int),false),some (mkD M,false),some (nD M.length,false),none,none,none,none,none]=.ok (.int (cell ns 0)) from v_cell (k:=0) (n:=38) uDraw rfl) (vs_c (v_is (i:=2) (d:=nD M.length) rfl rfl) (vs_c (v_bl _ true) (vs_nil _))),R.bind_ok,ew]
 refine(x_as b1 nM).trans ((x_as b2 rfl).trans ((x_as b3 (noL_nsD w)).trans ?_))
 obtain⟨q,hq,eq⟩:=v_mod (n:=38) (i:=0) (k:=0) (m:=4) (ρ:=eW ns M w none none none none) uDraw rfl (by decide)
 have et:tst (run T_k14 39) (.op .eq (.op .mod (.call "_law_cell" (.cons (.var 0) (.cons (.int 0) .nil))) (.int 4)) (.int 0)) (eW ns M w none none none none)=.ok ((q:Int)==0):=by
  rw[t_op,v_op,show ev (run T_k14 39) (.op .mod (.call "_law_cell" (.cons (.var 0) (.cons (.int 0) .nil))) (.int 4)) (eW ns M w none none none none)=.ok (nD q) from eq,R.bind_ok,v_int,R.bind_ok,o_eq _ _ (lo_int _ _),e_int]
  rfl
 cases h0:((q:Int)==0) with
 | true=>
  rw[h0] at et
  obtain⟨fm,bm⟩:=good_mk G
  obtain⟨f,tf,_⟩:=r_fair uBrks.toFairs G 36 (r_chkM uBrks.toNums 33 (mkD M) fm bm)
  have el:=r_ldeal (T:=T_k14) rfl G 38 tf
  refine(x_thenN et (x_as (d:=.tup (nsD ((List.range M.length).map f))) ?_ (noL_nsD _))).trans (tail_k14 ns G (tf.perm List.nodup_range))
  rw[v_call,vs_c (v_is (i:=1) (d:=mkD M) rfl rfl) (vs_nil _),R.bind_ok,el]
 | false=>
  rw[h0] at et
  exact(x_skip et).trans (tail_k14 ns G (sw.full rfl))
end Lp
namespace Lf
abbrev Pw:=PySem.Challenge.pw_lodgefair_k14_whole_breakers
open PySem PySem.Spec PyProof.Rows L2
theorem chk_k14_f_is_number_below:chk f_is_number_below (stAt Pw 5) ["thing","end"] ["thing","end"]=true:=by decide +kernel
theorem chk_k14_f_are_unlike_numbers_below:chk f_are_unlike_numbers_below (stAt Pw 6) ["things","end","place","thing"] ["things","end"]=true:=by decide +kernel
theorem chk_k14_f_has_each_number_below:chk f_has_each_number_below (stAt Pw 7) ["things","end"] ["things","end"]=true:=by decide +kernel
theorem chk_k14_f_is_market:chk f_is_market (stAt Pw 10) ["thing"] ["thing"]=true:=by decide +kernel
theorem chk_k14_f_checked_market:chk f_checked_market (stAt Pw 11) ["market"] ["market"]=true:=by decide +kernel
theorem chk_k14_f_checked_deal:chk f_checked_deal (stAt Pw 12) ["market","deal"] ["market","deal"]=true:=by decide +kernel
theorem chk_k14_f_liked_best:chk f_liked_best (stAt Pw 13) ["market","left","owner"] ["market","left","owner"]=true:=by decide +kernel
theorem chk_k14_f_stands_in_a_ring:chk f_stands_in_a_ring (stAt Pw 14) ["pointed","owner","passed","reached"] ["pointed","owner"]=true:=by decide +kernel
theorem chk_k14_f_pairs_by_round:chk f_pairs_by_round (stAt Pw 15) ["market","left","found","pointed","owner","gone"] ["market"]=true:=by decide +kernel
theorem chk_k14_f_fair_deal:chk f_fair_deal (stAt Pw 16) ["market","deal","pairs","owner","house"] ["market"]=true:=by decide +kernel
theorem chk_k14_f_breakers:chk f_breakers (stAt Pw 17) ["market","deal","pairs"] ["market","deal"]=true:=by decide +kernel
theorem chk_k14_fL_cell:chk fL_cell (stAt Pw 19) ["_law_script","_law_k"] ["_law_script","_law_k"]=true:=by decide +kernel
theorem chk_k14_fL_mix:chk fL_mix (stAt Pw 20) ["_law_cell_here","_law_prime","_law_many"] ["_law_cell_here","_law_prime","_law_many"]=true:=by decide +kernel
theorem chk_k14_fL_some:chk fL_some (stAt Pw 21) ["_law_seed","_law_many","_law_all_of_them","_law_keys","_law_row"] ["_law_seed","_law_many","_law_all_of_them"]=true:=by decide +kernel
theorem chk_k14_fL_market:chk fL_market (stAt Pw 22) ["_law_script","_law_at","_law_many"] ["_law_script","_law_at"]=true:=by decide +kernel
theorem chk_k14_fL_deal:chk fL_deal (stAt Pw 23) ["_law_market_here","_law_left","_law_found","_law_goals","_law_owner","_law_here","_law_k","_law_ring"] ["_law_market_here"]=true:=by decide +kernel
theorem chk_k14_fL_told:chk fL_told (stAt Pw 24) ["_law_market_here","_law_deal_here","e"] ["_law_market_here","_law_deal_here"]=true:=by decide +kernel
theorem chk_k14_fL_breaks:chk fL_breaks (stAt Pw 25) ["_law_market_here","_law_deal_here","_law_owners","_law_houses","_law_good","_law_owner","_law_house","_law_mine","_law_had"] ["_law_market_here","_law_deal_here","_law_owners","_law_houses"]=true:=by decide +kernel
theorem chk_k14_law_k14:chk law_k14 (stAt Pw 26) ["_law_script","_law_market_here","_law_many","_law_deal_here","_law_found","_law_odd","_law_some_here","_law_turned"] ["_law_script"]=true:=by decide +kernel
end Lf
open PySem PySem.W PyProof.Rows Lf
noncomputable def PySem.W.Fast.tw4762575952334336749:=PySem.Challenge.pw_lodgefair_k14_whole_breakers
theorem PySem.W.Fast.te4762575952334336749:PySem.Challenge.pw_lodgefair_k14_whole_breakers=PySem.W.Fast.tw4762575952334336749:=rfl
noncomputable def PySem.W.Fast.tw9100403102485026430:Nat:=0
theorem PySem.W.Fast.te9100403102485026430:True:=trivial
set_option maxRecDepth 100000 in
set_option maxHeartbeats 0 in
theorem PySem.Challenge.cw_lodgefair_k14_whole_breakers_holds : PySem.Challenge.rw_lodgefair_k14_whole_breakers.Holds := by
 w_on; o_law; k_head; (case hw => w_witness2)
 k_fill
 refine Lf.walk (l := PySem.Challenge.rw_lodgefair_k14_whole_breakers) Lf.T_k14 (fnL := Lf.law_k14) (stL := stAt Pw 26) (NL := ["_law_script", "_law_market_here", "_law_many", "_law_deal_here", "_law_found", "_law_odd", "_law_some_here", "_law_turned"]) (x := "_law_script") rfl rfl rfl (fun w h Y => PySem.W.kIn_of Y) rfl rfl rfl Lp.run_k14 ?F
 case F =>
  intro w mg h KX G
  refine' ⟨lk_cons (st := stAt Pw 5) (N := ["thing", "end"]) (ps := ["thing", "end"]) ?q0 (lk_cons (st := stAt Pw 6) (N := ["things", "end", "place", "thing"]) (ps := ["things", "end"]) ?q1 (lk_cons (st := stAt Pw 7) (N := ["things", "end"]) (ps := ["things", "end"]) ?q2 (lk_cons (st := stAt Pw 10) (N := ["thing"]) (ps := ["thing"]) ?q3 (lk_cons (st := stAt Pw 11) (N := ["market"]) (ps := ["market"]) ?q4 (lk_cons (st := stAt Pw 12) (N := ["market", "deal"]) (ps := ["market", "deal"]) ?q5 (lk_cons (st := stAt Pw 13) (N := ["market", "left", "owner"]) (ps := ["market", "left", "owner"]) ?q6 (lk_cons (st := stAt Pw 14) (N := ["pointed", "owner", "passed", "reached"]) (ps := ["pointed", "owner"]) ?q7 (lk_cons (st := stAt Pw 15) (N := ["market", "left", "found", "pointed", "owner", "gone"]) (ps := ["market"]) ?q8 (lk_cons (st := stAt Pw 16) (N := ["market", "deal", "pairs", "owner", "house"]) (ps := ["market"]) ?q9 (lk_cons (st := stAt Pw 17) (N := ["market", "deal", "pairs"]) (ps := ["market", "deal"]) ?q10 (lk_cons (st := stAt Pw 19) (N := ["_law_script", "_law_k"]) (ps := ["_law_script", "_law_k"]) ?q11 (lk_cons (st := stAt Pw 20) (N := ["_law_cell_here", "_law_prime", "_law_many"]) (ps := ["_law_cell_here", "_law_prime", "_law_many"]) ?q12 (lk_cons (st := stAt Pw 21) (N := ["_law_seed", "_law_many", "_law_all_of_them", "_law_keys", "_law_row"]) (ps := ["_law_seed", "_law_many", "_law_all_of_them"]) ?q13 (lk_cons (st := stAt Pw 22) (N := ["_law_script", "_law_at", "_law_many"]) (ps := ["_law_script", "_law_at"]) ?q14 (lk_cons (st := stAt Pw 23) (N := ["_law_market_here", "_law_left", "_law_found", "_law_goals", "_law_owner", "_law_here", "_law_k", "_law_ring"]) (ps := ["_law_market_here"]) ?q15 (lk_cons (st := stAt Pw 24) (N := ["_law_market_here", "_law_deal_here", "e"]) (ps := ["_law_market_here", "_law_deal_here"]) ?q16 (lk_cons (st := stAt Pw 25) (N := ["_law_market_here", "_law_deal_here", "_law_owners", "_law_houses", "_law_good", "_law_owner", "_law_house", "_law_mine", "_law_had"]) (ps := ["_law_market_here", "_law_deal_here", "_law_owners", "_law_houses"]) ?q17 (lk_cons (st := stAt Pw 26) (N := ["_law_script", "_law_market_here", "_law_many", "_law_deal_here", "_law_found", "_law_odd", "_law_some_here", "_law_turned"]) (ps := ["_law_script"]) ?q18 (lk_nil))))))))))))))))))), ?ql, bn_cons (PySem.W.mg_none_of KX G ?z0) (bn_cons (PySem.W.mg_none_of KX G ?z1) (bn_cons (PySem.W.mg_none_of KX G ?z2) (bn_cons (PySem.W.mg_none_of KX G ?z3) (bn_cons (PySem.W.mg_none_of KX G ?z4) (bn_cons (PySem.W.mg_none_of KX G ?z5) (bn_cons (PySem.W.mg_none_of KX G ?z6) (bn_cons (PySem.W.mg_none_of KX G ?z7) (bn_cons (PySem.W.mg_none_of KX G ?z8) (bn_cons (PySem.W.mg_none_of KX G ?z9) (bn_cons (PySem.W.mg_none_of KX G ?z10) (bn_cons (PySem.W.mg_none_of KX G ?z11) (bn_cons (PySem.W.mg_none_of KX G ?z12) (bn_cons (PySem.W.mg_none_of KX G ?z13) (bn_cons (PySem.W.mg_none_of KX G ?z14) (bn_cons (PySem.W.mg_none_of KX G ?z15) (bn_nil)))))))))))))))), Lf.xcs_of ["BadMarket", "BadLodging"] rfl (Lf.xc_cons (Lf.xc_mk rfl ?x0a ?x0b (Lf.xc1_mk KX G ?x0c ?x0d ?x0e ?x0f ?x0g ?x0h ?x0i ?x0j ?x0k ?x0l ?x0m ?x0n ?x0o (Lf.xp_cons (Lf.xp_not KX G rfl ?x0p0 ?x0r0 ?x0s0 ?x0t0 ?x0u0) (Lf.xp_nil)))) (Lf.xc_cons (Lf.xc_mk rfl ?x1a ?x1b (Lf.xc1_mk KX G ?x1c ?x1d ?x1e ?x1f ?x1g ?x1h ?x1i ?x1j ?x1k ?x1l ?x1m ?x1n ?x1o (Lf.xp_cons (Lf.xp_self KX G ?x1p0) (Lf.xp_nil)))) (Lf.xc_nil))), Lf.cs_cons ?k0 (Lf.cs_nil)⟩
  (case x0a => k_is)
  (case x0b => k_exc)
  (case x0c => k_is)
  (case x0d => first | k_is | rfl)
  (case x0e => first | k_is | rfl)
  (case x0f => k_is)
  (case x0g => k_is)
  (case x0h => k_is)
  (case x0i => k_is)
  (case x0j => k_is)
  (case x0k => k_is)
  (case x0l => k_is)
  (case x0m => k_is)
  (case x0n => k_is)
  (case x0o => k_is)
  (case x0p0 => k_is)
  (case x0r0 => rfl); (case x0s0 => k_is); (case x0t0 => k_is); (case x0u0 => k_is)
  (case x1a => k_is)
  (case x1b => k_exc)
  (case x1c => k_is)
  (case x1d => first | k_is | rfl)
  (case x1e => first | k_is | rfl)
  (case x1f => k_is)
  (case x1g => k_is)
  (case x1h => k_is)
  (case x1i => k_is)
  (case x1j => k_is)
  (case x1k => k_is)
  (case x1l => k_is)
  (case x1m => k_is)
  (case x1n => k_is)
  (case x1o => k_is)
  (case x1p0 => k_is)
  case k0 =>
   refine' Lf.cs_int KX G ?a
   (case a => k_is)
  case q0 =>
   refine' lk_mk KX G ?a ?l ?c ?k (bind2 rfl (fun _ _ _ _ _ _ _ _ => rfl)) chk_k14_f_is_number_below
   (case a => k_is); (case l => k_is); (case c => k_is); (case k => k_is)
  case q1 =>
   refine' lk_mk KX G ?a ?l ?c ?k (bind2 rfl (fun _ _ _ _ _ _ _ _ => rfl)) chk_k14_f_are_unlike_numbers_below
   (case a => k_is); (case l => k_is); (case c => k_is); (case k => k_is)
  case q2 =>
   refine' lk_mk KX G ?a ?l ?c ?k (bind2 rfl (fun _ _ _ _ _ _ _ _ => rfl)) chk_k14_f_has_each_number_below
   (case a => k_is); (case l => k_is); (case c => k_is); (case k => k_is)
  case q3 =>
   refine' lk_mk KX G ?a ?l ?c ?k (bind1 rfl (fun _ _ _ _ _ _ _ => rfl)) chk_k14_f_is_market
   (case a => k_is); (case l => k_is); (case c => k_is); (case k => k_is)
  case q4 =>
   refine' lk_mk KX G ?a ?l ?c ?k (bind1 rfl (fun _ _ _ _ _ _ _ => rfl)) chk_k14_f_checked_market
   (case a => k_is); (case l => k_is); (case c => k_is); (case k => k_is)
  case q5 =>
   refine' lk_mk KX G ?a ?l ?c ?k (bind2 rfl (fun _ _ _ _ _ _ _ _ => rfl)) chk_k14_f_checked_deal
   (case a => k_is); (case l => k_is); (case c => k_is); (case k => k_is)
  case q6 =>
   refine' lk_mk KX G ?a ?l ?c ?k (bind3 rfl (fun _ _ _ _ _ _ _ _ _ => rfl)) chk_k14_f_liked_best
   (case a => k_is); (case l => k_is); (case c => k_is); (case k => k_is)
  case q7 =>
   refine' lk_mk KX G ?a ?l ?c ?k (bind2 rfl (fun _ _ _ _ _ _ _ _ => rfl)) chk_k14_f_stands_in_a_ring
   (case a => k_is); (case l => k_is); (case c => k_is); (case k => k_is)
  case q8 =>
   refine' lk_mk KX G ?a ?l ?c ?k (bind1 rfl (fun _ _ _ _ _ _ _ => rfl)) chk_k14_f_pairs_by_round
   (case a => k_is); (case l => k_is); (case c => k_is); (case k => k_is)
  case q9 =>
   refine' lk_mk KX G ?a ?l ?c ?k (bind1 rfl (fun _ _ _ _ _ _ _ => rfl)) chk_k14_f_fair_deal
   (case a => k_is); (case l => k_is); (case c => k_is); (case k => k_is)
  case q10 =>
   refine' lk_mk KX G ?a ?l ?c ?k (bind2 rfl (fun _ _ _ _ _ _ _ _ => rfl)) chk_k14_f_breakers
   (case a => k_is); (case l => k_is); (case c => k_is); (case k => k_is)
  case q11 =>
   refine' lk_mk KX G ?a ?l ?c ?k (bind2 rfl (fun _ _ _ _ _ _ _ _ => rfl)) chk_k14_fL_cell
   (case a => k_is); (case l => k_is); (case c => k_is); (case k => k_is)
  case q12 =>
   refine' lk_mk KX G ?a ?l ?c ?k (bind3 rfl (fun _ _ _ _ _ _ _ _ _ => rfl)) chk_k14_fL_mix
   (case a => k_is); (case l => k_is); (case c => k_is); (case k => k_is)
  case q13 =>
   refine' lk_mk KX G ?a ?l ?c ?k (bind3 rfl (fun _ _ _ _ _ _ _ _ _ => rfl)) chk_k14_fL_some
   (case a => k_is); (case l => k_is); (case c => k_is); (case k => k_is)
  case q14 =>
   refine' lk_mk KX G ?a ?l ?c ?k (bind2 rfl (fun _ _ _ _ _ _ _ _ => rfl)) chk_k14_fL_market
   (case a => k_is); (case l => k_is); (case c => k_is); (case k => k_is)
  case q15 =>
   refine' lk_mk KX G ?a ?l ?c ?k (bind1 rfl (fun _ _ _ _ _ _ _ => rfl)) chk_k14_fL_deal
   (case a => k_is); (case l => k_is); (case c => k_is); (case k => k_is)
  case q16 =>
   refine' lk_mk KX G ?a ?l ?c ?k (bind2 rfl (fun _ _ _ _ _ _ _ _ => rfl)) chk_k14_fL_told
   (case a => k_is); (case l => k_is); (case c => k_is); (case k => k_is)
  case q17 =>
   refine' lk_mk KX G ?a ?l ?c ?k (bind4 rfl (fun _ _ _ _ _ _ _ _ _ _ => rfl)) chk_k14_fL_breaks
   (case a => k_is); (case l => k_is); (case c => k_is); (case k => k_is)
  case q18 =>
   refine' lk_mk KX G ?a ?l ?c ?k (bind1 rfl (fun _ _ _ _ _ _ _ => rfl)) chk_k14_law_k14
   (case a => k_is); (case l => k_is); (case c => k_is); (case k => k_is)
  case ql =>
   refine' lk_mk KX G ?a ?l ?c ?k (bind1 rfl (fun _ _ _ _ _ _ _ => rfl)) chk_k14_law_k14
   (case a => k_is); (case l => k_is); (case c => k_is); (case k => k_is)
  (case z0 => k_is)
  (case z1 => k_is)
  (case z2 => k_is)
  (case z3 => k_is)
  (case z4 => k_is)
  (case z5 => k_is)
  (case z6 => k_is)
  (case z7 => k_is)
  (case z8 => k_is)
  (case z9 => k_is)
  (case z10 => k_is)
  (case z11 => k_is)
  (case z12 => k_is)
  (case z13 => k_is)
  (case z14 => k_is)
  (case z15 => k_is)
