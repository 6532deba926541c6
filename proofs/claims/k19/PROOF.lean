import PyProof.Rows.All
import Wide.All
import OpenK.AllK
import Wide.FinOn
import Lean
import PyProof.EqAt
import PyProof.EqKinds
import PyProof.TupleCall
import PyProof.ListRange
import PyProof.TupleOfSeq
import OpenK.KRaise
import OpenK.KOwn
import PyProof.NsDelKeeps
import PyProof.StrOps2
import PyProof.ExcAttrAll.ValueError
import PySem.Str
import PyProof.NeKinds
import PySem.Eval
import PyProof.ExcBaseAll.ValueError
import PySem.Challenge.RW_roundlap_k19_unrolled
set_option genSizeOfSpec false
set_option bootstrap.genMatcherCode false
noncomputable section
set_option Elab.async false
set_option linter.all false
set_option maxRecDepth 100000
namespace L2
open PySem PySem.Spec PyProof.Rows
abbrev Key:=Sum Int Str
noncomputable def fO:Key->Value->Bool
 | .inl k,v=>Value.isInt k v
 | .inr x,v=>Value.isStrOf x v
noncomputable def A_ (w:World):Key->Int
 | .inl k=>hashInt k
 | .inr x=>hashStr w x
theorem dg:∀ {k:Key} {v:Value},fO k v=true->(∃ i t,k=Sum.inl i/\v=Value.int i t)\/(∃ x t,k=Sum.inr x/\v=Value.str x t)
 | .inl i,v,h=>by
  obtain ⟨t,e⟩:=Value.isInt_shape (k:=i) (v:=v) h
  exact .inl ⟨i,t,rfl,e⟩
 | .inr x,v,h=>by
  obtain ⟨t,e⟩:=Value.isStrOf_shape (x:=x) (v:=v) h
  exact .inr ⟨x,t,rfl,e⟩
theorem vJ (i:Int) (t:Tok):fO (.inl i) (.int i t)=true:=by simp [fO,Value.isInt]
theorem yZ (x:Str) (t:Tok):fO (.inr x) (.str x t)=true:=by simp [fO,Value.isStrOf]
theorem rE (a b:Int):decide ((Sum.inl a:Key)=Sum.inl b)=(a==b):=by
 by_cases e:a=b
 ·subst e; simp
 ·have h:¬ (Sum.inl a:Key)=Sum.inl b:=fun q=>e (Sum.inl.inj q)
  rw [decide_eq_false h]
  exact (beq_eq_false_iff_ne.mpr e).symm
theorem uN (a b:Str):decide ((Sum.inr a:Key)=Sum.inr b)=decide (a=b):=by
 by_cases e:a=b
 ·subst e; simp
 ·have h:¬ (Sum.inr a:Key)=Sum.inr b:=fun q=>e (Sum.inr.inj q)
  rw [decide_eq_false h,decide_eq_false e]
theorem xM (a:Int) (b:Str):decide ((Sum.inl a:Key)=Sum.inr b)=false:=decide_eq_false (fun q=>nomatch q)
theorem u7 (a:Str) (b:Int):decide ((Sum.inr a:Key)=Sum.inl b)=false:=decide_eq_false (fun q=>nomatch q)
noncomputable def bZ (prog:Program) (w:World):PySem.KeyKind prog w Key where
 is:=fO
 hash:=A_ w
 inj:=fun v a b ha hb=>by
  rcases dg ha with ⟨i,t,rfl,rfl⟩|⟨x,t,rfl,rfl⟩
  ·rcases dg hb with ⟨j,u,rfl,e⟩|⟨y,u,rfl,e⟩
   ·injection e with e1 _; rw [e1]
   ·exact nomatch e
  ·rcases dg hb with ⟨j,u,rfl,e⟩|⟨y,u,rfl,e⟩
   ·exact nomatch e
   ·injection e with e1 _; rw [e1]
 byValue:=fun k v h=>by
  rcases dg h with ⟨i,t,rfl,rfl⟩|⟨x,t,rfl,rfl⟩ <;> rfl
 pyHash:=fun hv h=>by
  rcases dg hv with ⟨i,t,rfl,rfl⟩|⟨x,t,rfl,rfl⟩
  ·exact wpAny_pyHash_int h
  ·exact wpAny_pyHash_str h
 eqBool:=fun hu hv h=>by
  rcases dg hu with ⟨i,t,rfl,rfl⟩|⟨x,t,rfl,rfl⟩
  ·rcases dg hv with ⟨j,u,rfl,rfl⟩|⟨y,u,rfl,rfl⟩
   ·rw [rE] at h; exact wpAny_eqBool_int h
   ·rw [xM] at h; exact SeqAt.EqAt.int_str i t y u _ _ _ _ h
  ·rcases dg hv with ⟨j,u,rfl,rfl⟩|⟨y,u,rfl,rfl⟩
   ·rw [u7] at h; exact SeqAt.EqAt.str_int x t j u _ _ _ _ h
   ·rw [uN] at h; exact wpAny_eqBool_str h
 «strs»:=fun k x t v h=>by
  rcases dg h with ⟨i,u,rfl,e⟩|⟨y,u,rfl,e⟩
  ·exact nomatch e
  ·injection e with e1 _
   subst e1
   cases v <;> rfl
theorem zp (prog:Program) (w:World) (i:Int) (t:Tok):(bZ prog w).is (.inl i) (.int i t)=true:=vJ i t
theorem CD (prog:Program) (w:World) (x:Str) (t:Tok):(bZ prog w).is (.inr x) (.str x t)=true:=yZ x t
end L2
namespace L2
open PySem PySem.Spec PyProof.Rows
inductive V where
 | non|bl (b:Bool)|int (i:Int)|str (x:Str)|byt (b:Array UInt8)|flt (b:UInt64)|ref (a:Addr)|ty (n:String)
 deriving DecidableEq
noncomputable def RelV:V->Value->Prop
 | .non,u=>u=Value.none
 | .bl b,u=>u=Value.bool b
 | .int i,u=>∃ t,u=Value.int i t
 | .str x,u=>∃ t,u=Value.str x t
 | .byt b,u=>∃ t,u=Value.bytes b t
 | .flt b,u=>∃ t,u=Value.float b t
 | .ref a,u=>u=Value.ref a
 | .ty n,u=>u=Value.type n
abbrev Vals:List V->List Value->Prop:=Paired RelV
theorem Vals.length {xs:List V} {us:List Value} (r:Vals xs us):xs.length=us.length:=Paired.length r
theorem Vals.get:∀ {xs:List V} {us:List Value} {i:Nat} {x:V},Vals xs us->xs[i]?=some x->∃ u,us[i]?=some u/\RelV x u
 | _,_,_,_,.nil,e=>by simp at e
 | _,_,0,_,.cons r _,e=>by simp at e; subst e; exact ⟨_,rfl,r⟩
 | _,_,i+1,x,.cons _ t,e=>by
  obtain ⟨u,h1,h2⟩:=Vals.get (i:=i) (x:=x) t (by simpa using e)
  exact ⟨u,by simpa using h1,h2⟩
theorem Vals.set {x:V} {u:Value} (r:RelV x u):∀ {xs:List V} {us:List Value} (i:Nat),Vals xs us->Vals (xs.set i x) (us.set i u)
 | _,_,_,.nil=>.nil
 | _,_,0,.cons _ t=>.cons r t
 | _,_,i+1,.cons q t=>.cons q (Vals.set r i t)
theorem Vals.append:∀ {xs ys:List V} {us ws:List Value},Vals xs us->Vals ys ws->Vals (xs++ys) (us++ws)
 | _,_,_,_,.nil,s=>s
 | _,_,_,_,.cons r t,s=>.cons r (Vals.append t s)
theorem Vals.take:∀ {xs:List V} {us:List Value} (n:Nat),Vals xs us->Vals (xs.take n) (us.take n)
 | _,_,0,_=>.nil
 | _,_,_+1,.nil=>.nil
 | _,_,n+1,.cons r t=>.cons r (Vals.take n t)
theorem Vals.drop:∀ {xs:List V} {us:List Value} (n:Nat),Vals xs us->Vals (xs.drop n) (us.drop n)
 | _,_,0,r=>r
 | _,_,_+1,.nil=>.nil
 | _,_,n+1,.cons _ t=>Vals.drop n t
noncomputable def c5:Option V->Option Value->Prop
 | some v,some u=>RelV v u
 | none,none=>True
 | _,_=>False
noncomputable def KV {κ:Type}:List (κ × V)->List (κ × Value)->Prop:=Paired fun (p:κ × V) (q:κ × Value)=>p.1=q.1/\RelV p.2 q.2
noncomputable def kV:Key->V
 | .inl i=>.int i
 | .inr x=>.str x
inductive HO where
 /-- a list -/
 | lst (xs:List V)
 /-- a tuple (never changes) -/
 | tup (xs:List V)
 /-- a dict whose keys are ints and texts; one whose keys are tuples of ints and texts (the empty one is both) -/
 | dK (kvs:List (Key × V))|dT (kvs:List (List Key × V))
 /-- a set of ints: its members,its size -/
 | set (S:Int->Bool) (n:Nat)
 /-- an instance of the class at C,its dict at dx,its attributes -/
 | ins (C dx:Addr) (fs:List (Str × V))
 /-- the dict of the instance at x -/
 | own (x:Addr)
 /-- the dict of an exception -/
 | xd (fs:List (Str × V))
 /-- a bound method,f of x -/
 | met (f x:Addr)
 /-- a range object lo,lo+1,.. below hi -/
 | rng (lo hi:Int)
 /-- a thing that is known to the object (the script; a dict while a loop walks it): read,never written while it is so -/
 | frz (o:Obj) (u:HO)
 /-- a code object's table -/
 | tbl (ps:Array Value)
 /-- any other thing,by what is true of its one object (a def of one's own: SetO a S n:=HO.ext fun h=>..) -/
 | ext (φ:Heap->Prop)
abbrev Hp:=Addr->Option HO
noncomputable def upd (H:Hp) (a:Addr) (o:HO):Hp:=fun b=>if b=a then some o else H b
theorem b5 {H:Hp} {a:Addr} {o:HO}:upd H a o a=some o:=by unfold upd; rw [if_pos rfl]
theorem aE {H:Hp} {a b:Addr} {o:HO} (h:b≠a):upd H a o b=H b:=by unfold upd; rw [if_neg h]
theorem kL {H:Hp} {a b:Addr} {o u:HO} (h:H a=some o) (h':H b=some u) (d:o≠u):a≠b:=by
 intro e; subst e; rw [h] at h'; exact d (Option.some.inj h')
theorem aV {H:Hp} {a b:Addr} {o:HO} (h:H a=some o) (h':H b=none):a≠b:=by
 intro e; subst e; rw [h] at h'; cases h'
section
variable (P:Program) (w:World)
noncomputable def a_ (H:Hp) (h:Heap) (a:Addr):HO->Prop
 | .lst xs=>xs.length<=sizeLine/\∃ (its:List Value) (n:Nat),Vals xs its/\h.get? a=some { cls:=.type "list",data:=.seq its.toArray n }
 | .tup xs=>xs.length<=sizeLine/\∃ its:List Value,Vals xs its/\IsTup h a its.toArray
 | .dK kvs=>kvs.length<=sizeLine/\(a==sysModules)=false/\∃ vs,KV kvs vs/\h.DictOf (bZ P w) a vs
 | .dT kvs=>kvs.length<=sizeLine/\(a==sysModules)=false/\∃ xs:List (List Key × Addr × Value),
   Paired (fun (p:List Key × V) (q:List Key × Addr × Value)=>p.1=q.1/\H q.2.1=some (.tup (p.1.map kV))/\RelV p.2 q.2.2) kvs xs /\
   ∃ o es ep,h.get? a=some o/\o.ExactDict/\o.data=.dict es ep/\es.toList=xs.map (entryOfKey (tupleKind (bZ P w)))/\(xs.map (·.1)).Nodup
 | .set S n=>h.SetOf (intKind P w) a S n
 | .ins C dx fs=>H dx=some (.own a)/\fs.length<=1000/\dx≠a/\h.get? a=some (PySem.W.instObj C dx) /\
   ∃ mA,h.Ns1 dx mA/\(∀ f,c5 (fs.lookup f) (mA f))/\PySem.Within mA (fs.map (·.1))
 | .own _=>∃ o,h.get? a=some o
 | .xd fs=>∃ mA,h.Ns1 a mA/\∀ f,c5 (fs.lookup f) (mA f)
 | .rng lo hi=>∃ t u v,h.get? a=some { cls:=.type "range",data:=.fields #[.int lo t,.int hi u,.int 1 v] }
 | .frz o u=>h.get? a=some o/\a_ H h a u
 | .tbl ps=>h.get? a=some { cls:=.none,data:=.fields ps }
 | .met f x=>h.get? a=some (PySem.W.methodObj (.ref f) (.ref x))
 | .ext φ=>φ h/\(∃ o,h.get? a=some o)/\∀ h1 h2:Heap,φ h1->(∀ o,h1.get? a=some o->h2.get? a=some o)->φ h2
noncomputable def HOk (H:Hp) (h:Heap):Prop:=∀ a o,H a=some o->a_ P w H h a o
end
section
variable {P:Program} {w:World} {H H':Hp} {h h':Heap} {a:Addr} {o:HO}
theorem a_.lt (x:a_ P w H h a o):a < h.objs.size:=by
 cases o with
 | lst xs=>obtain ⟨_,_,_,_,e⟩:=x; exact Heap.lt_size e
 | tup xs=>obtain ⟨_,_,_,p⟩:=x; exact p.lt
 | dK kvs=>obtain ⟨_,_,_,_,o,_,_,e,_⟩:=x; exact Heap.lt_size e
 | dT kvs=>obtain ⟨_,_,_,_,o,_,_,e,_⟩:=x; exact Heap.lt_size e
 | set S n=>obtain ⟨o,_,_,_,e,_⟩:=x; exact Heap.lt_size e
 | ins C dx fs=>obtain ⟨_,_,_,e,_⟩:=x; exact Heap.lt_size e
 | own y=>obtain ⟨_,e⟩:=x; exact Heap.lt_size e
 | xd fs=>obtain ⟨_,⟨_,_,_,e,_⟩,_⟩:=x; exact Heap.lt_size e
 | rng lo hi=>obtain ⟨_,_,_,e⟩:=x; exact Heap.lt_size e
 | frz ob u=>obtain ⟨e,_⟩:=x; exact Heap.lt_size e
 | tbl ps=>exact Heap.lt_size (show h.get? a=some _ from x)
 | met f y=>exact Heap.lt_size (show h.get? a=some _ from x)
 | ext φ=>obtain ⟨_,⟨_,e⟩,_⟩:=x; exact Heap.lt_size e
theorem Paired.kQ {α β:Type} {F G:α->β->Prop}:∀ {l₁:List α} {l₂:List β},Paired F l₁ l₂->(∀ a b,F a b->G a b)->Paired G l₁ l₂
 | _,_,.nil,_=>.nil
 | _,_,.cons r t,f=>.cons (f _ _ r) (Paired.kQ t f)
theorem a_.stay (x:a_ P w H h a o) (k:∀ b u,(b=a\/H b=some (.own a))->h.get? b=some u->h'.get? b=some u)
  (ho:∀ b,H b=some (.own a)->H' b=some (.own a)) (ht:∀ b xs,H b=some (.tup xs)->H' b=some (.tup xs)):a_ P w H' h' a o:=by
 induction o with
 | lst xs=>obtain ⟨z,its,n,r,e⟩:=x; exact ⟨z,its,n,r,k _ _ (.inl rfl) e⟩
 | tup xs=>obtain ⟨z,its,r,ob,e,c⟩:=x; exact ⟨z,its,r,ob,k _ _ (.inl rfl) e,c⟩
 | dK kvs=>obtain ⟨z,y,vs,r,ob,es,ep,e,c⟩:=x; exact ⟨z,y,vs,r,ob,es,ep,k _ _ (.inl rfl) e,c⟩
 | dT kvs =>
  obtain ⟨z,y,xs,r,ob,es,ep,e,c⟩:=x
  exact ⟨z,y,xs,Paired.kQ r fun p q z=>⟨z.1,ht _ _ z.2.1,z.2.2⟩,ob,es,ep,k _ _ (.inl rfl) e,c⟩
 | set S n=>obtain ⟨ob,es,ep,t,e,c⟩:=x; exact ⟨ob,es,ep,t,k _ _ (.inl rfl) e,c⟩
 | ins C dx fs =>
  obtain ⟨d,z,ne,e,mA,⟨od,es,ep,e2,c⟩,r⟩:=x
  exact ⟨ho _ d,z,ne,k _ _ (.inl rfl) e,mA,⟨od,es,ep,k _ _ (.inr d) e2,c⟩,r⟩
 | own y=>obtain ⟨ob,e⟩:=x; exact ⟨ob,k _ _ (.inl rfl) e⟩
 | xd fs=>obtain ⟨mA,⟨od,es,ep,e,c⟩,r⟩:=x; exact ⟨mA,⟨od,es,ep,k _ _ (.inl rfl) e,c⟩,r⟩
 | rng lo hi=>obtain ⟨t,u,v,e⟩:=x; exact ⟨t,u,v,k _ _ (.inl rfl) e⟩
 | frz ob u ih=>obtain ⟨e,q⟩:=x; exact ⟨k _ _ (.inl rfl) e,ih q⟩
 | tbl ps =>
  have e:h.get? a=some { cls:=.none,data:=.fields ps }:=x
  show h'.get? a=some { cls:=.none,data:=.fields ps }
  exact k a _ (.inl rfl) e
 | met f y =>
  have e:h.get? a=some (PySem.W.methodObj (.ref f) (.ref y)):=x
  show h'.get? a=some (PySem.W.methodObj (.ref f) (.ref y))
  exact k a _ (.inl rfl) e
 | ext φ=>obtain ⟨p,⟨o,e⟩,st⟩:=x; exact ⟨st _ _ p fun o q=>k _ _ (.inl rfl) q,⟨o,k _ _ (.inl rfl) e⟩,st⟩
theorem HOk.lt (x:HOk P w H h) (e:H a=some o):a < h.objs.size:=(x a o e).lt
theorem HOk.fresh (x:HOk P w H h) (e:h.objs.size<=a):H a=none:=by
 cases q:H a with
 | none=>rfl
 | some u=>exact absurd (Nat.lt_of_lt_of_le (x.lt q) e) (Nat.lt_irrefl _)
theorem HOk.kept (x:HOk P w H h) (k:∀ b u,h.get? b=some u->h'.get? b=some u):HOk P w H h':=fun a o e =>
 (x a o e).stay (fun b u _ q=>k b u q) (fun _ q=>q) fun _ _ q=>q
theorem HOk.laid (x:HOk P w H h) (k:∀ b u,h.get? b=some u->h'.get? b=some u) (hp:h.objs.size<=a) (new:a_ P w (upd H a o) h' a o):HOk P w (upd H a o) h':=fun b u e=>by
 have hn:=x.fresh hp
 by_cases hb:b=a
 ·subst hb; rw [b5] at e; cases e; exact new
 ·rw [aE hb] at e
  exact (x b u e).stay (fun c v _ q=>k c v q) (fun c q=>by rw [aE (aV q hn)]; exact q) fun c xs q=>by rw [aE (aV q hn)]; exact q
end
noncomputable def Rd (H:Hp) (a:Addr) (u:HO):Prop:=H a=some u\/∃ o,H a=some (.frz o u)
theorem Rd.ok {P:Program} {w:World} {H:Hp} {h:Heap} {a:Addr} {u:HO} (r:Rd H a u) (x:HOk P w H h):a_ P w H h a u:=by
 rcases r with r|⟨o,r⟩
 ·exact x a u r
 ·obtain ⟨_,q⟩:=x a _ r
  exact q
noncomputable def Mut:Option HO->Prop
 | some (.lst _)=>True
 | some (.dK _)=>True
 | some (.dT _)=>True
 | some (.set _ _)=>True
 | some (.ins _ _ _)=>True
 | some (.ext _)=>True
 | _=>False
section
variable {P:Program} {w:World} {H:Hp} {h h':Heap} {x e:Addr} {o':HO}
theorem HOk.write (ok:HOk P w H h) (mu:Mut (H x)) (he:e=x\/H e=some (.own x)) (k:∀ b u,b≠e->h.get? b=some u->h'.get? b=some u) (heo:∃ u,h'.get? e=some u)
  (new:a_ P w (upd H x o') h' x o'):HOk P w (upd H x o') h':=fun b u q=>by
 have nown:∀ c y,H c=some (.own y)->c≠x:=fun c y r z=>by subst z; rw [r] at mu; exact mu
 have ntup:∀ c xs,H c=some (.tup xs)->c≠x:=fun c xs r z=>by subst z; rw [r] at mu; exact mu
 by_cases hb:b=x
 ·subst hb; rw [b5] at q; cases q; exact new
 ·rw [aE hb] at q
  by_cases hbe:b=e
  ·have q':H b=some (.own x):=by
    rcases he with z|z
    ·exact absurd (hbe.trans z) hb
    ·rw [hbe]; exact z
   rw [q] at q'; cases q'
   obtain ⟨v,hv⟩:=heo
   exact ⟨v,by rw [hbe]; exact hv⟩
  ·refine (ok b u q).stay (fun c v hc r=>k c v ?_ r) (fun c r=>by rw [aE (nown c b r)]; exact r) fun c xs r=>by rw [aE (ntup c xs r)]; exact r
   rcases hc with rfl|hc
   ·exact hbe
   ·rintro rfl
    rcases he with z|z
    ·exact nown c b hc z
    ·rw [hc] at z; cases z; exact hb rfl
end
structure Un (fs ex:List Addr) (H H':Hp) (h h':Heap):Prop where
 keep:∀ b o,h.get? b=some o->H b=none->b ∉ fs->b ∉ ex->h'.get? b=some o
 slot:∀ b o,h.get? b=some o->H b=none->b∈fs->b ∉ ex->∃ sl,h'.get? b=some { o with slots:=sl }
 free:∀ b o,h.get? b=some o->H b=none->b ∉ ex->H' b=none
 there:∀ b o,h.get? b=some o->b ∉ ex->∃ o',h'.get? b=some o'
 tups:∀ b xs,H b=some (.tup xs)->H' b=some (.tup xs)
 frzs:∀ b o u,H b=some (.frz o u)->H' b=some (.frz o u)
 tbls:∀ b ps,H b=some (.tbl ps)->∃ more,H' b=some (.tbl (ps++more))
section
variable {fs fs' ex ex':List Addr} {H H1 H2:Hp} {h h1 h2 h':Heap} {a x e:Addr} {o:HO}
theorem Un.any (u:Un fs ex H H1 h h1) {b:Addr} {ob:Obj} (q:h.get? b=some ob) (n:H b=none) (hx:b ∉ ex):∃ sl,h1.get? b=some { ob with slots:=sl }:=by
 by_cases hb:b∈fs
 ·exact u.slot b ob q n hb hx
 ·exact ⟨ob.slots,u.keep b ob q n hb hx⟩
theorem Un.kept (k:∀ b u,h.get? b=some u->h'.get? b=some u):Un fs ex H H h h' :=
 ⟨fun b ob q _ _ _=>k b ob q,fun b ob q _ _ _=>⟨ob.slots,k b ob q⟩,fun _ _ _ n _=>n,fun b ob q _=>⟨ob,k b ob q⟩,fun _ _ q=>q,fun _ _ _ q=>q,fun _ ps q=>⟨#[],by rw [q]; simp⟩⟩
theorem Un.refl:Un fs ex H H h h:=Un.kept fun _ _ q=>q
theorem Un.laid (k:∀ b u,h.get? b=some u->h'.get? b=some u) (hp:h.objs.size<=a) (hn:H a=none):Un fs ex H (upd H a o) h h' where
 keep:=fun b u q _ _ _=>k b u q
 slot:=fun b u q _ _ _=>⟨u.slots,k b u q⟩
 free:=fun b u q n _=>by rw [aE (Nat.ne_of_lt (Nat.lt_of_lt_of_le (Heap.lt_size q) hp))]; exact n
 there:=fun b u q _=>⟨u,k b u q⟩
 tups:=fun b xs q=>by rw [aE (aV q hn)]; exact q
 frzs:=fun b u xs q=>by rw [aE (aV q hn)]; exact q
 tbls:=fun b ps q=>⟨#[],by rw [aE (aV q hn),q]; simp⟩
theorem Un.write (mu:Mut (H x)) (he:e=x\/H e=some (.own x)) (k:∀ b u,b≠e->h.get? b=some u->h'.get? b=some u) (heo:∃ u,h'.get? e=some u):Un fs ex H (upd H x o) h h':=by
 have hx:∀ b,H b=none->b≠x:=fun b n z=>by subst z; rw [n] at mu; exact mu
 have hb:∀ b,H b=none->b≠e:=fun b n z=>by
  subst z
  rcases he with r|r
  ·exact hx b n r
  ·rw [n] at r; cases r
 have hm:∀ b u,H b=some u->¬ Mut (some u)->b≠x:=fun b u q nm z=>by subst z; rw [q] at mu; exact nm mu
 refine ⟨fun b u q n _ _=>k b u (hb b n) q,fun b u q n _ _=>⟨u.slots,k b u (hb b n) q⟩,fun b u q n _=>by rw [aE (hx b n)]; exact n,fun b u q _=>?_,
  fun b xs q=>by rw [aE (hm b _ q fun z=>z)]; exact q,fun b u xs q=>by rw [aE (hm b _ q fun z=>z)]; exact q,fun b ps q=>⟨#[],by rw [aE (hm b _ q fun z=>z),q]; simp⟩⟩
 by_cases hbe:b=e
 ·subst hbe; exact heo
 ·exact ⟨u,k b u hbe q⟩
end
noncomputable def trk (h:Heap) (H:Hp):List Addr:=(List.range h.objs.size).filter fun a=>(H a).isSome
noncomputable def dG (h:Heap) (H:Hp):Heap:=PySem.W.hideAll h (trk h H)
theorem xH (h:Heap) (H:Hp):(dG h H).objs.size=h.objs.size:=PySem.W.hideAll_size _ _
theorem rL {h:Heap} {H:Hp} {b:Addr} {o:Obj} (e:h.get? b=some o) (n:H b=none):(dG h H).get? b=some o :=
 PySem.W.hideAll_get _ e fun hm=>by
  have q:(H b).isSome=true:=(List.mem_filter.mp hm).2
  rw [n] at q; simp at q
theorem AL {h:Heap} {H:Hp} {b:Addr} {o:Obj} (e:(dG h H).get? b=some o):h.get? b=some o/\H b=none:=by
 have e':h.get? b=some o:=PySem.W.of_hideAll (trk h H) e
 refine ⟨e',?_⟩
 cases q:H b with
 | none=>rfl
 | some x =>
  have hm:b∈trk h H:=List.mem_filter.mpr ⟨List.mem_range.mpr (Heap.lt_size e'),by simp [q]⟩
  have z:(dG h H).get? b=none:=PySem.W.hideAll_none (trk h H) hm
  rw [z] at e; cases e
end L2
namespace L2
open PySem PySem.Spec PyProof.Rows
structure Mod (K:PySem.W.Frag) (mg:Str->Option Value) (base:Heap):Prop where
 kin:K.In base
 glob:base.Ns mainGlobals mg
 blt:∃ mb,base.Ns builtinsNs mb/\∀ x:Str,x≠"__name__"->mb x=bootBuiltins x
 nolimit:base.NoLimit
structure Cx where
 prog:Program
 w:World
 K:PySem.W.Frag
 mg:Str->Option Value
 base:Heap
 A:Around
 N:List Str
 s₀:Shared
 H₀:Hp
 env:Env
 outer:List Env
 stack:List Env
 ex:List Addr
 fn:Str->Bool
 calm:Bool
 pn:List (Addr × Obj)
 xe:Value->Shared->Prop
noncomputable def frs (l:List Env):List Addr:=l.filterMap (·.frame)
abbrev Cx.fs (X:Cx):List Addr:=frs X.outer
noncomputable def Vis (sc:Scope) (x:Str):Prop:=sc.names.lookup x=some .local\/sc.names.lookup x=some .cell\/sc.names.lookup x=some .free
noncomputable def Loc (sc:Scope) (x:Str):Prop:=sc.names.lookup x=some .local\/sc.names.lookup x=some .cell
noncomputable def Look (env:Env) (h:Heap) (m:Str->Option Value) (x:Str) (u:Value):Prop :=
 (env.kindOf x=some .local/\m x=some u)\/((env.kindOf x=some .cell\/env.kindOf x=some .free)/\∃ c,env.cells.lookup x=some c/\h.IsCell c (some u))
structure Cx.Ok (X:Cx):Prop where
 mod:Mod X.K X.mg X.base
 kind:X.env.scope.kind=.function
 glob:X.env.globals=mainGlobals
 blt:X.env.builtins=builtinsNs
 above:X.s₀.heap.objs.size<=X.env.locals
 inj:∀ x y c,X.env.cells.lookup x=some c->X.env.cells.lookup y=some c->x=y
 has:∀ x,(X.env.kindOf x=some .cell\/X.env.kindOf x=some .free)->∃ c,X.env.cells.lookup x=some c
 cab:∀ x c,X.fn x=true->X.env.cells.lookup x=some c->X.s₀.heap.objs.size<=c
 hd:X.calm=true->X.A.handled=none
 frames:X.A.frames=some X.stack
 stk:X.stack=X.outer\/(X.stack=X.env::X.outer/\X.env.frame=some X.env.locals)
 exf:∀ b∈X.ex,b≠X.env.locals/\∀ x c,X.env.cells.lookup x=some c->c≠b
 bs:∀ b o,X.base.get? b=some o->X.s₀.heap.get? b=some o/\X.H₀ b=none
 bsz:X.base.objs.size<=X.s₀.heap.objs.size
 noex:∀ b o,X.base.get? b=some o->b ∉ X.ex
 exfs:∀ b∈X.ex,b ∉ X.fs
 cJ:X.s₀.heap.FunFrames X.base X.outer
 frf:∀ b∈X.fs,X.H₀ b=none
structure Inv (X:Cx) (pins:List (Addr × Obj)) (σ:List (Option V)) (H:Hp) (s:Shared):Prop where
 ok:X.Ok
 os:s.os=X.s₀.os
 bare:AllBare s.gens
 base:Un X.fs X.ex X.H₀ H X.s₀.heap s.heap
 loc:∃ m,s.heap.Ns X.env.locals m/\∀ (i:Nat) (x:Str) (v:V),X.N[i]?=some x->σ[i]?=some (some v)->Vis X.env.scope x->∃ u,RelV v u/\Look X.env s.heap m x u
 cell:∀ x c,X.env.cells.lookup x=some c->∃ v,s.heap.IsCell c v
 free:H X.env.locals=none
 freeC:∀ x c,X.env.cells.lookup x=some c->H c=none
 pin:∀ p∈X.pn++pins,s.heap.get? p.1=some p.2/\H p.1=none/\p.1≠X.env.locals/\p.1 ∉ X.fs/\∀ v,p.2.data≠.cell v
 hok:HOk X.prog X.w H s.heap
 len:σ.length=X.N.length
section
variable {X:Cx} {pins:List (Addr × Obj)} {σ:List (Option V)} {H H':Hp} {s:Shared} {h':Heap}
theorem Cx.Ok.rT (ok:X.Ok) {b:Addr} {o:Obj} (e:X.base.get? b=some o):b ∉ X.fs:=fun hb=>by
 have:=(ok.cJ.mem hb).1
 rw [e] at this; cases this
theorem Inv.bs (I:Inv X pins σ H s):∀ b o,X.base.get? b=some o->s.heap.get? b=some o/\H b=none:=fun b o e =>
 ⟨I.base.keep b o (I.ok.bs b o e).1 (I.ok.bs b o e).2 (I.ok.rT e) (I.ok.noex b o e),I.base.free b o (I.ok.bs b o e).1 (I.ok.bs b o e).2 (I.ok.noex b o e)⟩
theorem Inv.bk (I:Inv X pins σ H s):∀ b o,X.base.get? b=some o->s.heap.get? b=some o:=fun b o e=>(I.bs b o e).1
theorem Inv.mod (I:Inv X pins σ H s):Mod X.K X.mg X.base:=I.ok.mod
theorem Inv.kIn (I:Inv X pins σ H s):X.K.In s.heap:=I.ok.mod.kin.keeps I.bk
theorem Inv.lt (I:Inv X pins σ H s):X.env.locals < s.heap.objs.size:=let ⟨_,hn,_⟩:=I.loc; hn.lt
theorem Inv.sz (I:Inv X pins σ H s):X.s₀.heap.objs.size<=s.heap.objs.size:=Nat.le_trans I.ok.above (Nat.le_of_lt I.lt)
theorem Inv.Bl (I:Inv X pins σ H s) {a:Addr} (h:s.heap.objs.size<=a):a ∉ X.fs:=fun hb=>by
 obtain ⟨_,o,ho,_⟩:=I.ok.cJ.mem hb
 exact absurd (Nat.lt_of_lt_of_le (Heap.lt_size ho) (Nat.le_trans I.sz h)) (Nat.lt_irrefl _)
theorem Inv.cne (I:Inv X pins σ H s):∀ x c,X.env.cells.lookup x=some c->c≠X.env.locals:=fun x c e z=>by
 obtain ⟨v,o,ho,hd⟩:=I.cell x c e
 obtain ⟨m,⟨o',es,ep,ho',hd',_⟩,_⟩:=I.loc
 rw [z,ho'] at ho; cases ho; rw [hd'] at hd; cases hd
theorem Inv.cJ (I:Inv X pins σ H s):s.heap.FunFrames X.base X.outer:=by
 have all:∀ (l:List Env),(∀ b∈frs l,b∈X.fs)->X.s₀.heap.FunFrames X.base l->s.heap.FunFrames X.base l:=by
  intro l
  induction l with
  | nil=>intro _ _; trivial
  | cons env r ih =>
   intro hs hl
   obtain ⟨hk,⟨L,o,hf,hn,ho,hd⟩,hr⟩:=hl
   have hL:L∈X.fs:=hs L (by unfold frs; rw [List.filterMap_cons,hf]; exact List.mem_cons_self)
   obtain ⟨sl,e⟩:=I.base.slot L o ho (I.ok.frf L hL) hL fun z=>I.ok.exfs L z hL
   exact ⟨hk,⟨L,_,hf,hn,e,hd⟩,ih (fun b hb=>hs b (by unfold frs; rw [List.filterMap_cons,hf]; exact List.mem_cons_of_mem _ hb)) hr⟩
 exact all X.outer (fun _ hb=>hb) I.ok.cJ
theorem Inv.stack (I:Inv X pins σ H s):s.heap.FunFrames X.base X.stack:=by
 rcases I.ok.stk with e|⟨e,hf⟩
 ·rw [e]; exact I.cJ
 ·rw [e]
  obtain ⟨m,hn,_⟩:=I.loc
  refine .cons (by rw [I.ok.kind]; decide) hf hn ?_ I.cJ
  exact Heap.get?_none_of_le (Nat.le_trans I.ok.bsz I.ok.above)
theorem Inv.kh (I:Inv X pins σ H s):∀ b∈frs X.stack,b∈X.env.locals::X.fs:=fun b hb=>by
 rcases I.ok.stk with e|⟨e,hf⟩
 ·rw [e] at hb; exact List.mem_cons_of_mem _ hb
 ·rw [e] at hb
  unfold frs at hb
  rw [List.filterMap_cons,hf] at hb
  exact hb
theorem Inv.jD (I:Inv X pins σ H s):∀ b∈frs X.stack,H b=none:=fun b hb=>by
 rcases List.mem_cons.mp (I.kh b hb) with e|hb
 ·rw [e]; exact I.free
 ·obtain ⟨_,o,ho,_⟩:=I.ok.cJ.mem hb
  exact I.base.free b o ho (I.ok.frf b hb) fun z=>I.ok.exfs b z hb
theorem Inv.step {g':Array GenState} {t':Nat} {d':Drawn} {ch:List Addr} (I:Inv X pins σ H s)
  (hch:∀ b∈ch,(b∈X.ex\/X.s₀.heap.objs.size<=b)/\b≠X.env.locals/\(∀ x c,X.env.cells.lookup x=some c->c≠b)/\∀ p∈X.pn++pins,p.1≠b)
  (keep:∀ b o,b≠X.env.locals->b ∉ X.fs->b ∉ ch->s.heap.get? b=some o->H b=none->h'.get? b=some o)
  (slot:∀ b o,b≠X.env.locals->b∈X.fs->b ∉ ch->s.heap.get? b=some o->H b=none->∃ sl,h'.get? b=some { o with slots:=sl }) (free:∀ b o,b ∉ ch->s.heap.get? b=some o->H b=none->H' b=none)
  (there:∀ b o,b ∉ ch->s.heap.get? b=some o->∃ o',h'.get? b=some o')
  (tups:∀ b xs,H b=some (.tup xs)->H' b=some (.tup xs)) (frzs:∀ b o u,H b=some (.frz o u)->H' b=some (.frz o u)) (tbls:∀ b ps,H b=some (.tbl ps)->∃ more,H' b=some (.tbl (ps++more)))
  (ns:∀ m,s.heap.Ns X.env.locals m->h'.Ns X.env.locals m) (hok:HOk X.prog X.w H' h') (hg:AllBare g') :
  Inv X pins σ H' { s with heap:=h',gens:=g',drawn:=d',toks:=t' }:=by
 have neL:∀ b o,X.s₀.heap.get? b=some o->b≠X.env.locals:=fun b o e=>Nat.ne_of_lt (Nat.lt_of_lt_of_le (Heap.lt_size e) I.ok.above)
 have neC:∀ b o,X.s₀.heap.get? b=some o->b ∉ X.ex->b ∉ ch:=fun b o e hx hb=>by
  rcases (hch b hb).1 with z|z
  ·exact hx z
  ·exact absurd (Nat.lt_of_lt_of_le (Heap.lt_size e) z) (Nat.lt_irrefl _)
 have cellK:∀ x c,X.env.cells.lookup x=some c->∀ v,s.heap.IsCell c v->h'.IsCell c v:=fun x c e v ⟨o,ho,hd⟩=>by
  have nch:c ∉ ch:=fun z=>(hch c z).2.2.1 x c e rfl
  by_cases hc:c∈X.fs
  ·obtain ⟨sl,q⟩:=slot c o (I.cne x c e) hc nch ho (I.freeC x c e)
   exact ⟨_,q,hd⟩
  ·exact ⟨o,keep c o (I.cne x c e) hc nch ho (I.freeC x c e),hd⟩
 refine ⟨I.ok,I.os,hg,⟨fun b o e n hb hx=>?_,fun b o e n hb hx=>?_,fun b o e n hx=>?_,fun b o e hx=>?_,fun b xs e=>tups b xs (I.base.tups b xs e),fun b o xs e=>frzs b o xs (I.base.frzs b o xs e),fun b ps e=>?_⟩,?_,fun x c e=>?_,?_,fun x c e=>?_,fun p hp=>?_,hok,I.len⟩
 ·exact keep b o (neL b o e) hb (neC b o e hx) (I.base.keep b o e n hb hx) (I.base.free b o e n hx)
 ·obtain ⟨sl,e1⟩:=I.base.slot b o e n hb hx
  obtain ⟨sl',e2⟩:=slot b _ (neL b o e) hb (neC b o e hx) e1 (I.base.free b o e n hx)
  exact ⟨sl',e2⟩
 ·obtain ⟨o',e1⟩:=I.base.there b o e hx
  exact free b o' (neC b o e hx) e1 (I.base.free b o e n hx)
 ·obtain ⟨o',e1⟩:=I.base.there b o e hx
  exact there b o' (neC b o e hx) e1
 ·obtain ⟨m1,e1⟩:=I.base.tbls b ps e
  obtain ⟨m2,e2⟩:=tbls b _ e1
  exact ⟨m1++m2,by rw [e2,Array.append_assoc]⟩
 ·obtain ⟨m,hn,hl⟩:=I.loc
  refine ⟨m,ns m hn,fun i x v e1 e2 e3=>?_⟩
  obtain ⟨u,r,l⟩:=hl i x v e1 e2 e3
  refine ⟨u,r,?_⟩
  rcases l with l|⟨k,c,e,z⟩
  ·exact .inl l
  ·exact .inr ⟨k,c,e,cellK x c e _ z⟩
 ·obtain ⟨v,z⟩:=I.cell x c e
  exact ⟨v,cellK x c e v z⟩
 ·obtain ⟨m,⟨o,_,_,ho,_⟩,_⟩:=I.loc
  exact free _ o (fun z=>(hch _ z).2.1 rfl) ho I.free
 ·obtain ⟨v,o,ho,hd⟩:=I.cell x c e
  exact free c o (fun z=>(hch c z).2.2.1 x c e rfl) ho (I.freeC x c e)
 ·obtain ⟨e,n,ne,nf,d⟩:=I.pin p hp
  have nch:p.1 ∉ ch:=fun z=>(hch p.1 z).2.2.2 p hp rfl
  exact ⟨keep p.1 p.2 ne nf nch e n,free p.1 p.2 nch e n,ne,nf,d⟩
theorem Inv.un {t':Nat} (I:Inv X pins σ H s) (u:Un X.fs [] H H' s.heap h') (hok:HOk X.prog X.w H' h'):Inv X pins σ H' { s with heap:=h',toks:=t' }:=by
 obtain ⟨m,⟨o,es,ep,ho,r⟩,_⟩:=id I.loc
 obtain ⟨sl,hL⟩:=u.any ho I.free (by simp)
 exact I.step (g':=s.gens) (d':=s.drawn) (ch:=[]) (fun _ z=>nomatch z) (fun b o _ hb _ e n=>u.keep b o e n hb (by simp)) (fun b o _ hb _ e n=>u.slot b o e n hb (by simp)) (fun b o _ e n=>u.free b o e n (by simp)) (fun b o _ e=>u.there b o e (by simp)) u.tups u.frzs u.tbls (fun m' hm=>by
  obtain ⟨o',es',ep',ho',r'⟩:=hm
  rw [ho] at ho'; cases ho'
  exact ⟨_,es',ep',hL,r'⟩) hok I.bare
theorem Inv.call {g':Array GenState} {t':Nat} {d':Drawn} {ch:List Addr} (I:Inv X pins σ H s) (u:Un (frs X.stack) ch H H' s.heap h') (hok:HOk X.prog X.w H' h') (hg:AllBare g')
  (hch:∀ b∈ch,(b∈X.ex\/X.s₀.heap.objs.size<=b)/\b≠X.env.locals/\(∀ x c,X.env.cells.lookup x=some c->c≠b)/\∀ p∈X.pn++pins,p.1≠b) :
  Inv X pins σ H' { s with heap:=h',gens:=g',drawn:=d',toks:=t' }:=by
 obtain ⟨m,⟨o,es,ep,ho,r⟩,_⟩:=id I.loc
 obtain ⟨sl,hL⟩:=u.any ho I.free fun z=>(hch _ z).2.1 rfl
 exact I.step (ch:=ch) hch (fun b o hL hb hc e n=>u.keep b o e n (fun z=>(List.mem_cons.mp (I.kh b z)).elim hL hb) hc) (fun b o _ _ hc e n=>u.any e n hc) (fun b o hc e n=>u.free b o e n hc) (fun b o hc e=>u.there b o e hc) u.tups u.frzs u.tbls (fun m' hm=>by
  obtain ⟨o',es',ep',ho',r'⟩:=hm
  rw [ho] at ho'; cases ho'
  exact ⟨_,es',ep',hL,r'⟩) hok hg
theorem Inv.turned {t':Nat} {it:Addr} (I:Inv X pins σ H s) (k:∀ b o,b≠it->s.heap.get? b=some o->h'.get? b=some o) (hn:H it=none) (hL:it≠X.env.locals)
  (h1:it∈X.ex\/X.s₀.heap.objs.size<=it) (h2:∀ x c,X.env.cells.lookup x=some c->c≠it) (h3:∀ p∈X.pn++pins,p.1≠it):Inv X pins σ H { s with heap:=h',toks:=t' }:=by
 have nit:∀ b u,H b=some u->b≠it:=fun b u e z=>by rw [z,hn] at e; cases e
 refine I.step (g':=s.gens) (d':=s.drawn) (ch:=[it]) (fun b hb=>?_) (fun b o _ _ hc e _=>k b o (fun z=>hc (by simp [z])) e) (fun b o _ _ hc e _=>⟨o.slots,k b o (fun z=>hc (by simp [z])) e⟩) (fun _ _ _ _ n=>n)
  (fun b o hc e=>⟨o,k b o (fun z=>hc (by simp [z])) e⟩) (fun _ _ e=>e) (fun _ _ _ e=>e) (fun b ps e=>⟨#[],by rw [e]; simp⟩) (fun m hm=>?_) (fun b u e=>?_) I.bare
 ·have e:b=it:=by simpa using hb
  subst e
  exact ⟨h1,hL,h2,h3⟩
 ·obtain ⟨o,es,ep,ho,r⟩:=hm
  exact ⟨o,es,ep,k _ o (Ne.symm hL) ho,r⟩
 ·refine (I.hok b u e).stay (fun c v hc q=>k c v ?_ q) (fun _ q=>q) fun _ _ q=>q
  rcases hc with z|z
  ·rw [z]; exact nit b u e
  ·exact nit c _ z
theorem Inv.tok (I:Inv X pins σ H s) (t:Nat):Inv X pins σ H { s with toks:=t }:=I.un (h':=s.heap) (t':=t) Un.refl I.hok
theorem Inv.kept {t':Nat} (I:Inv X pins σ H s) (k:∀ b u,s.heap.get? b=some u->h'.get? b=some u):Inv X pins σ H { s with heap:=h',toks:=t' }:=I.un (Un.kept k) (I.hok.kept k)
theorem Inv.laid {a:Addr} {o:HO} {t':Nat} (I:Inv X pins σ H s) (k:∀ b u,s.heap.get? b=some u->h'.get? b=some u) (hp:s.heap.objs.size<=a) (new:a_ X.prog X.w (upd H a o) h' a o) :
  Inv X pins σ (upd H a o) { s with heap:=h',toks:=t' }:=I.un (Un.laid k hp (I.hok.fresh hp)) (I.hok.laid k hp new)
theorem Inv.write {x e:Addr} {o:HO} {t':Nat} (I:Inv X pins σ H s) (mu:Mut (H x)) (he:e=x\/H e=some (.own x)) (k:∀ b u,b≠e->s.heap.get? b=some u->h'.get? b=some u) (heo:∃ u,h'.get? e=some u)
  (new:a_ X.prog X.w (upd H x o) h' x o):Inv X pins σ (upd H x o) { s with heap:=h',toks:=t' }:=I.un (Un.write mu he k heo) (I.hok.write mu he k heo new)
theorem Inv.weak {σ':List (Option V)} (I:Inv X pins σ H s) (hl:σ'.length=σ.length) (w:∀ (i:Nat) v,σ'[i]?=some (some v)->σ[i]?=some (some v)):Inv X pins σ' H s :=
 ⟨I.ok,I.os,I.bare,I.base,let ⟨m,hn,hl'⟩:=I.loc; ⟨m,hn,fun i x v e1 e2 e3=>hl' i x v e1 (w i v e2) e3⟩,I.cell,I.free,I.freeC,I.pin,I.hok,hl.trans I.len⟩
theorem Inv.o_ {pins':List (Addr × Obj)} (I:Inv X pins σ H s) (h:∀ p∈pins',s.heap.get? p.1=some p.2/\H p.1=none/\p.1≠X.env.locals/\p.1 ∉ X.fs/\∀ v,p.2.data≠.cell v):Inv X pins' σ H s :=
 ⟨I.ok,I.os,I.bare,I.base,I.loc,I.cell,I.free,I.freeC,fun p hp=>(List.mem_append.mp hp).elim (fun z=>I.pin p (List.mem_append_left _ z)) (h p),I.hok,I.len⟩
theorem kG {N:List Str} (hN:N.Nodup) {i j:Nat} {x:Str} (a:N[i]?=some x) (b:N[j]?=some x):i=j:=by
 obtain ⟨h1,e1⟩:=List.getElem?_eq_some_iff.mp a
 obtain ⟨h2,e2⟩:=List.getElem?_eq_some_iff.mp b
 exact (List.getElem_inj hN).mp (e1.trans e2.symm)
theorem jr {M:Model} {A:Around} {E:Value->Shared->Prop} {i:Nat} {x:Str} {v:V} {u:Value} {Q:Unit->Shared->Prop} (I:Inv X pins σ H s) (hN:X.N.Nodup) (hi:X.N[i]?=some x) (hx:Loc X.env.scope x) (r:RelV v u)
  (h:∀ s',Inv X pins (σ.set i (some v)) H s'->(∃ a,Heap.SameBut a s.heap s'.heap/\(a=X.env.locals\/X.env.cells.lookup x=some a))->Q () s') (hf:X.fn x=true\/X.env.scope.names.lookup x=some .local:=by first|exact .inl rfl|exact .inr rfl|assumption):wpAny M A (storeName X.env x u) Q E s:=by
 obtain ⟨m,hn,hl⟩:=id I.loc
 have hcls:(X.env.scope.kind==.class||(X.env.scope.kind==.module&&X.env.locals != X.env.globals))=false:=by rw [I.ok.kind]; rfl
 have hiσ:i < σ.length:=by rw [I.len]; exact (List.getElem?_eq_some_iff.mp hi).1
 have cne:=I.cne
 have tracked:∀ {a:Addr} {h':Heap},(∃ o,s.heap.get? a=some o/\H a=none)->Heap.SameBut a s.heap h'->HOk X.prog X.w H h':=fun {a h'} ha hs b ob e=>by
  obtain ⟨_,_,hfree⟩:=ha
  refine (I.hok b ob e).stay (fun c w' hc q=>(hs.2 c ?_).trans q) (fun _ q=>q) fun _ _ q=>q
  rintro rfl
  rcases hc with rfl|hc
  ·rw [hfree] at e; cases e
  ·rw [hfree] at hc; cases hc
 rcases hx with hk|hk
 ·refine wpAny_storeName_local hk hn (fun h' hn' hs=>?_) hcls
  obtain ⟨oL,_,_,hoL,_⟩:=id hn
  refine h _ ⟨I.ok,I.os,I.bare,⟨fun b o e n hb hx=>?_,fun b o e n hb hx=>?_,I.base.free,fun b o e hx=>?_,I.base.tups,I.base.frzs,I.base.tbls⟩,⟨_,hn',fun j y v' e1 e2 e3=>?_⟩,fun y c e=>?_,I.free,I.freeC,fun p hp=>?_,tracked ⟨oL,hoL,I.free⟩ hs,by simpa using I.len⟩ ⟨_,hs,.inl rfl⟩
  ·exact (hs.2 b (Nat.ne_of_lt (Nat.lt_of_lt_of_le (Heap.lt_size e) I.ok.above))).trans (I.base.keep b o e n hb hx)
  ·obtain ⟨sl,e1⟩:=I.base.slot b o e n hb hx
   exact ⟨sl,(hs.2 b (Nat.ne_of_lt (Nat.lt_of_lt_of_le (Heap.lt_size e) I.ok.above))).trans e1⟩
  ·obtain ⟨o',e1⟩:=I.base.there b o e hx
   exact ⟨o',(hs.2 b (Nat.ne_of_lt (Nat.lt_of_lt_of_le (Heap.lt_size e) I.ok.above))).trans e1⟩
  ·by_cases hj:j=i
   ·subst hj
    rw [hi] at e1; cases e1
    rw [List.getElem?_set_self hiσ] at e2
    cases e2
    exact ⟨u,r,.inl ⟨hk,by simp⟩⟩
   ·rw [List.getElem?_set_ne (Ne.symm hj)] at e2
    obtain ⟨u',r',q⟩:=hl j y v' e1 e2 e3
    refine ⟨u',r',?_⟩
    rcases q with ⟨k,e⟩|⟨k,c,e,z⟩
    ·refine .inl ⟨k,?_⟩
     have:y≠x:=fun e=>hj (kG hN e1 (e ▸ hi))
     simp [this,e]
    ·exact .inr ⟨k,c,e,z.sameBut hs (cne y c e)⟩
  ·obtain ⟨w',z⟩:=I.cell y c e
   exact ⟨w',z.sameBut hs (cne y c e)⟩
  ·obtain ⟨e,n,ne,nf,d⟩:=I.pin p hp
   exact ⟨(hs.2 p.1 ne).trans e,n,ne,nf,d⟩
 ·have hfn:X.fn x=true:=by
   rcases hf with z|z
   ·exact z
   ·rw [z] at hk; cases hk
  obtain ⟨c,hc⟩:=I.ok.has x (.inl hk)
  obtain ⟨w',z⟩:=I.cell x c hc
  refine wpAny_storeName_cell I.ok.kind hk hc z (fun h' hc' hs=>?_)
  obtain ⟨oc,hoc,hocd⟩:=id z
  refine h { s with heap:=h' } ⟨I.ok,I.os,I.bare,⟨fun b o e n hb hx=>?_,fun b o e n hb hx=>?_,I.base.free,fun b o e hx=>?_,I.base.tups,I.base.frzs,I.base.tbls⟩,⟨m,hn.sameBut hs (Ne.symm (cne x c hc)),fun j y v' e1 e2 e3=>?_⟩,fun y c' e=>?_,I.free,I.freeC,fun p hp=>?_,tracked ⟨oc,hoc,I.freeC x c hc⟩ hs,by simpa using I.len⟩ ⟨c,hs,.inr hc⟩
  ·exact (hs.2 b (Nat.ne_of_lt (Nat.lt_of_lt_of_le (Heap.lt_size e) (I.ok.cab x c hfn hc)))).trans (I.base.keep b o e n hb hx)
  ·obtain ⟨sl,e1⟩:=I.base.slot b o e n hb hx
   exact ⟨sl,(hs.2 b (Nat.ne_of_lt (Nat.lt_of_lt_of_le (Heap.lt_size e) (I.ok.cab x c hfn hc)))).trans e1⟩
  ·obtain ⟨o',e1⟩:=I.base.there b o e hx
   exact ⟨o',(hs.2 b (Nat.ne_of_lt (Nat.lt_of_lt_of_le (Heap.lt_size e) (I.ok.cab x c hfn hc)))).trans e1⟩
  ·by_cases hj:j=i
   ·subst hj
    rw [hi] at e1; cases e1
    rw [List.getElem?_set_self hiσ] at e2
    cases e2
    exact ⟨u,r,.inr ⟨.inl hk,c,hc,hc'⟩⟩
   ·rw [List.getElem?_set_ne (Ne.symm hj)] at e2
    obtain ⟨u',r',q⟩:=hl j y v' e1 e2 e3
    refine ⟨u',r',?_⟩
    rcases q with q|⟨k,c',e,z'⟩
    ·exact .inl q
    ·refine .inr ⟨k,c',e,z'.sameBut hs ?_⟩
     rintro rfl
     exact hj (kG hN e1 (I.ok.inj _ _ _ e hc ▸ hi))
  ·by_cases hcc:c'=c
   ·subst hcc; exact ⟨_,hc'⟩
   ·obtain ⟨w2,z2⟩:=I.cell y c' e
    exact ⟨w2,z2.sameBut hs hcc⟩
  ·obtain ⟨e,n,ne,nf,d⟩:=I.pin p hp
   refine ⟨(hs.2 p.1 ?_).trans e,n,ne,nf,d⟩
   intro q
   rw [q,hoc] at e
   have q':oc=p.2:=Option.some.inj e
   exact d w' (by rw [<- q']; exact hocd)
theorem tO {M:Model} {A:Around} {E:Value->Shared->Prop} {i:Nat} {x:Str} {v:V} {u:Value} {Q:Unit->Shared->Prop} (I:Inv X pins σ H s) (hN:X.N.Nodup) (hi:X.N[i]?=some x) (hx:Loc X.env.scope x) (r:RelV v u)
  (h:∀ s',Inv X pins (σ.set i (some v)) H s'->Q () s') (hf:X.fn x=true\/X.env.scope.names.lookup x=some .local:=by first|exact .inl rfl|exact .inr rfl|assumption):wpAny M A (storeName X.env x u) Q E s :=
 jr I hN hi hx r (fun s' I' _=>h s' I') hf
theorem Inv.jT {s':Shared} {ch:List Addr} (I:Inv X pins σ H s) (ho:s'.os=s.os) (u:Un (frs X.stack) ch H H' s.heap s'.heap) (hok:HOk X.prog X.w H' s'.heap) (hg:AllBare s'.gens)
  (hch:∀ b∈ch,(b∈X.ex\/X.s₀.heap.objs.size<=b)/\b≠X.env.locals/\(∀ x c,X.env.cells.lookup x=some c->c≠b)/\∀ p∈X.pn++pins,p.1≠b):Inv X pins σ H' s':=by
 obtain ⟨h',g',d',t',o'⟩:=s'
 have e:o'=s.os:=ho
 subst e
 exact I.call (g':=g') (t':=t') (d':=d') u hok hg hch
end
abbrev XK:=Value->Option Addr->Hp->Prop
abbrev St:=List (Option V)
abbrev VK:=V->Hp->Prop
abbrev TE:=St->Hp->VK->Prop
abbrev TT:=St->Hp->(Bool->Hp->Prop)->Prop
abbrev TA:=St->Hp->(List V->Hp->Prop)->Prop
structure Ends where
 nx:St->Hp->Prop
 rt:VK
 bk:St->Hp->Prop:=fun _ _=>False
 ct:St->Hp->Prop:=fun _ _=>False
abbrev TS:=Ends->St->Hp->Prop
noncomputable def EP (X:Cx) (pins:List (Addr × Obj)) (σ:St) (Q:VK) (u:Value) (s':Shared):Prop:=∃ v H',Inv X pins σ H' s'/\RelV v u/\Q v H'
noncomputable def TP (X:Cx) (pins:List (Addr × Obj)) (σ:St) (Q:Bool->Hp->Prop) (b:Bool) (s':Shared):Prop:=∃ H',Inv X pins σ H' s'/\Q b H'
noncomputable def AP (X:Cx) (pins:List (Addr × Obj)) (σ:St) (Q:List V->Hp->Prop) (us:List Value) (s':Shared):Prop:=∃ vs H',Inv X pins σ H' s'/\Vals vs us/\Q vs H'
noncomputable def SP (X:Cx) (pins:List (Addr × Obj)) (D:Ends) (f:Flow) (s':Shared):Prop :=
 match f with
 | .next=>∃ σ' H',Inv X pins σ' H' s'/\D.nx σ' H'
 | .brk=>∃ σ' H',Inv X pins σ' H' s'/\D.bk σ' H'
 | .cont=>∃ σ' H',Inv X pins σ' H' s'/\D.ct σ' H'
 | .ret u=>∃ v σ' H',Inv X pins σ' H' s'/\RelV v u/\D.rt v H'
noncomputable def PE (X:Cx) (e:Expr) (t:TE):Prop :=
 ∀ (pins:List (Addr × Obj)) (s:Shared) (σ:St) (H:Hp) (Q:VK),Inv X pins σ H s->t σ H Q->wpAny (model X.prog X.w) X.A (eval e X.env) (EP X pins σ Q) X.xe s
noncomputable def PT (X:Cx) (e:Expr) (t:TT):Prop :=
 ∀ (pins:List (Addr × Obj)) (s:Shared) (σ:St) (H:Hp) (Q:Bool->Hp->Prop),Inv X pins σ H s->t σ H Q->wpAny (model X.prog X.w) X.A (isTrue e X.env (eval e X.env)) (TP X pins σ Q) X.xe s
noncomputable def PW (X:Cx) (e:Expr) (t:TT):Prop :=
 ∀ (whole:Sem Value) (pins:List (Addr × Obj)) (s:Shared) (σ:St) (H:Hp) (Q:Bool->Hp->Prop),Inv X pins σ H s->t σ H Q->wpAny (model X.prog X.w) X.A (isTrue e X.env whole) (TP X pins σ Q) X.xe s
theorem PW.pt {X:Cx} {e:Expr} {t:TT} (h:PW X e t):PT X e t:=h _
noncomputable def PA (X:Cx) (es:List Expr) (t:TA):Prop :=
 ∀ (pos:Pos) (pins:List (Addr × Obj)) (s:Shared) (σ:St) (H:Hp) (Q:List V->Hp->Prop),Inv X pins σ H s->t σ H Q->wpAny (model X.prog X.w) X.A (spliced (backTo pos (starEach es X.env))) (AP X pins σ Q) X.xe s
noncomputable def PS (X:Cx) (st:Stmt) (t:TS):Prop :=
 ∀ (pins:List (Addr × Obj)) (s:Shared) (σ:St) (H:Hp) (D:Ends),Inv X pins σ H s->t D σ H->wpAny (model X.prog X.w) X.A (exec st X.env) (SP X pins D) X.xe s
noncomputable def PSs (X:Cx) (st:List Stmt) (t:TS):Prop :=
 ∀ (pins:List (Addr × Obj)) (s:Shared) (σ:St) (H:Hp) (D:Ends),Inv X pins σ H s->t D σ H->wpAny (model X.prog X.w) X.A (execs st X.env) (SP X pins D) X.xe s
theorem thn {α:Type} {t:Sem α} {Q Q':α->Shared->Prop} {M:Model} {A:Around} {E:Value->Shared->Prop} {s:Shared} (h:wpAny M A t Q E s) (hQ:∀ a s,Q a s->Q' a s):wpAny M A t Q' E s:=wpAny_mono h hQ fun _ _ x=>x
end L2
namespace L2
open PySem PySem.Spec PyProof.Rows
section
variable {X:Cx}
noncomputable def yX (i:Nat):TE:=fun σ H Q=>∃ v,σ[i]?=some (some v)/\Q v H
noncomputable def tC (v:V):TE:=fun _ H Q=>Q v H
theorem BY {i:Nat} {x:Str} {pos:Pos} (hN:X.N[i]?=some x) (hv:Vis X.env.scope x) (hd:(x==("__debug__" : Str))=false:=by decide) (hcd:(x==("__classdict__" : Str))=false:=by decide):PE X (.Name x pos) (yX i):=by
 intro pins s σ H Q I h
 obtain ⟨v,e,h⟩:=h
 obtain ⟨m,hn,hl⟩:=I.loc
 obtain ⟨u,r,l⟩:=hl i x v hN e hv
 have fin:EP X pins σ Q u s:=⟨v,H,I,r,h⟩
 rcases l with ⟨hk,hm⟩|⟨hk,c,hc,hcell⟩
 ·exact wpAny_Name (wpAny_loadName_local I.ok.kind hk hn hm fin) hd
 ·rcases hk with hk|hk
  ·exact wpAny_Name (wpAny_loadName_cell I.ok.kind hk hc hcell fin) hd
  ·exact wpAny_Name (wpAny_loadName_free I.ok.kind hk hc hcell fin hcd) hd
theorem v_ {i j pos}:PE X (.Constant (.int i) j pos) (tC (.int i)):=fun _ _ _ H _ I h=>wpAny_Constant_int ⟨.int i,H,I.tok _,⟨_,rfl⟩,h⟩
theorem x_ {b j pos}:PE X (.Constant (.bool b) j pos) (tC (.bl b)):=fun _ _ _ H _ I h=>Constant_bool ⟨.bl b,H,I,rfl,h⟩
theorem BU {j pos}:PE X (.Constant .none j pos) (tC .non):=fun _ _ _ H _ I h=>Constant_none ⟨.non,H,I,rfl,h⟩
theorem p7 {x j pos}:PE X (.Constant (.str x) j pos) (tC (.str x)):=fun _ _ _ H _ I h=>Calls.Constant_str ⟨.str x,H,I.tok _,⟨_,rfl⟩,h⟩
noncomputable def Gl (X:Cx) (x:Str):Prop:=X.env.kindOf x=some .globalImplicit
theorem e_ {E:Value->Shared->Prop} {pins:List (Addr × Obj)} {s:Shared} {σ:St} {H:Hp} {x:Str} {u:Value} {pos:Pos} {Q:Value->Shared->Prop} (I:Inv X pins σ H s) (hg:Gl X x) (hm:X.mg x=some u) (h:Q u s)
  (hd:(x==("__debug__" : Str))=false:=by decide):wpAny (model X.prog X.w) X.A (eval (.Name x pos) X.env) Q E s :=
 Calls.Name_function_global I.ok.kind hg (Calls.loadGlobal_global (by rw [I.ok.glob]; exact I.mod.glob.keeps I.bk) hm h) hd
theorem dc {E:Value->Shared->Prop} {pins:List (Addr × Obj)} {s:Shared} {σ:St} {H:Hp} {x:Str} {u:Value} {pos:Pos} {Q:Value->Shared->Prop} (I:Inv X pins σ H s) (hg:Gl X x) (hm:X.mg x=none) (hv:bootBuiltins x=some u) (h:Q u s)
  (hn:x≠"__name__":=by decide) (hd:(x==("__debug__" : Str))=false:=by decide):wpAny (model X.prog X.w) X.A (eval (.Name x pos) X.env) Q E s:=by
 obtain ⟨mb,h1,h2⟩:=I.mod.blt
 exact Calls.Name_function_global I.ok.kind hg (Calls.loadGlobal_builtin (by rw [I.ok.glob]; exact I.mod.glob.keeps I.bk) hm (by rw [I.ok.blt]; exact h1.keeps I.bk) ((h2 x hn).trans hv) h) hd
theorem rR {x:Str} {v:V} {u:Value} {pos:Pos} (hg:Gl X x) (hm:X.mg x=some u) (r:RelV v u) (hd:(x==("__debug__" : Str))=false:=by decide):PE X (.Name x pos) (tC v) :=
 fun _ _ _ H _ I h=>e_ I hg hm ⟨v,H,I,r,h⟩ hd
theorem wO {x:Str} {v:V} {u:Value} {pos:Pos} (hg:Gl X x) (hm:X.mg x=none) (hv:bootBuiltins x=some u) (r:RelV v u) (hn:x≠"__name__":=by decide) (hd:(x==("__debug__" : Str))=false:=by decide):PE X (.Name x pos) (tC v) :=
 fun _ _ _ H _ I h=>dc I hg hm hv ⟨v,H,I,r,h⟩ hn hd
variable {a b:Expr} {ta tb:TE} {pos:Pos}
variable {tA tB':TT} {rest:List Expr}
noncomputable def vv (t u:TT):TT:=fun σ H Q=>t σ H fun c H1=>if c=true then u σ H1 Q else Q false H1
noncomputable def tOr (t u:TT):TT:=fun σ H Q=>t σ H fun c H1=>if c=true then Q true H1 else u σ H1 Q
noncomputable def zN (t:TT):TT:=fun σ H Q=>t σ H fun c H1=>Q (!c) H1
theorem lq (ha:PT X a tA):PW X (.BoolOp .And [a] pos) tA:=by
 intro wh pins s σ H Q I h
 refine isTrue_and (thn (ha pins s σ H Q I h) fun c s1 e=>?_)
 cases c with
 | true=>exact isTrue_and_nil e
 | false=>exact e
theorem qD (ha:PT X a tA):PW X (.BoolOp .Or [a] pos) tA:=by
 intro wh pins s σ H Q I h
 refine isTrue_or (thn (ha pins s σ H Q I h) fun c s1 e=>?_)
 cases c with
 | false=>exact isTrue_or_nil e
 | true=>exact e
theorem AH (ha:PT X a tA) (hb:PW X (.BoolOp .And (b::rest) pos) tB'):PW X (.BoolOp .And (a::b::rest) pos) (vv tA tB'):=by
 intro wh pins s σ H Q I h
 refine isTrue_and (thn (ha pins s σ H _ I h) fun c s1 ⟨H1,I1,q1⟩=>?_)
 cases c with
 | true=>exact hb wh pins s1 σ H1 Q I1 q1
 | false=>exact ⟨H1,I1,q1⟩
theorem xC (ha:PT X a tA) (hb:PW X (.BoolOp .Or (b::rest) pos) tB'):PW X (.BoolOp .Or (a::b::rest) pos) (tOr tA tB'):=by
 intro wh pins s σ H Q I h
 refine isTrue_or (thn (ha pins s σ H _ I h) fun c s1 ⟨H1,I1,q1⟩=>?_)
 cases c with
 | true=>exact ⟨H1,I1,q1⟩
 | false=>exact hb wh pins s1 σ H1 Q I1 q1
theorem wj (ha:PT X a tA):PT X (.UnaryOp .Not a pos) (zN tA):=by
 intro pins s σ H Q I h
 exact isTrue_not (ha pins s σ H (fun c H1=>Q (!c) H1) I h)
noncomputable def wB (ta tb:TE):TE:=fun σ H Q=>ta σ H fun x H1=>∃ c,x=.bl c/\if c=true then tb σ H1 Q else Q (.bl false) H1
noncomputable def y_ (ta tb:TE):TE:=fun σ H Q=>ta σ H fun x H1=>∃ c,x=.bl c/\if c=true then Q (.bl true) H1 else tb σ H1 Q
noncomputable def Ct (ta:TE):TE:=fun σ H Q=>ta σ H fun x H1=>∃ c,x=.bl c/\Q (.bl (!c)) H1
theorem lG {op} {t:TE} (h:PE X a t):PE X (.BoolOp op [a] pos) t:=fun pins s σ H Q I hw=>BoolOp_one (h pins s σ H Q I hw)
theorem Bv (ha:PE X a ta) (hb:PE X (.BoolOp .And (b::rest) pos) tb):PE X (.BoolOp .And (a::b::rest) pos) (wB ta tb):=by
 intro pins s σ H Q I h
 refine BoolOp_and (thn (ha pins s σ H _ I h) fun v s1 ⟨x,H1,I1,r1,q1⟩=>?_)
 obtain ⟨c,rfl,q1⟩:=q1
 cases r1
 refine wpAny_truthy_bool ?_
 cases c with
 | true=>exact hb pins s1 σ H1 Q I1 q1
 | false=>exact ⟨.bl false,H1,I1,rfl,q1⟩
theorem sS (ha:PE X a ta) (hb:PE X (.BoolOp .Or (b::rest) pos) tb):PE X (.BoolOp .Or (a::b::rest) pos) (y_ ta tb):=by
 intro pins s σ H Q I h
 refine BoolOp_or (thn (ha pins s σ H _ I h) fun v s1 ⟨x,H1,I1,r1,q1⟩=>?_)
 obtain ⟨c,rfl,q1⟩:=q1
 cases r1
 refine wpAny_truthy_bool ?_
 cases c with
 | false=>exact hb pins s1 σ H1 Q I1 q1
 | true=>exact ⟨.bl true,H1,I1,rfl,q1⟩
theorem uK (ha:PE X a ta):PE X (.UnaryOp .Not a pos) (Ct ta):=by
 intro pins s σ H Q I h
 refine UnaryOp_ (thn (ha pins s σ H _ I h) fun v s1 ⟨x,H1,I1,r1,q1⟩=>?_)
 obtain ⟨c,rfl,q1⟩:=q1
 cases r1
 exact not_of (wpAny_truthy_bool ⟨.bl (!c),H1,I1,rfl,q1⟩)
noncomputable def tIf (t:TT) (ta tb:TE):TE:=fun σ H Q=>t σ H fun c H1=>if c=true then ta σ H1 Q else tb σ H1 Q
theorem BN {c:Expr} (hc:PT X c tA) (ha:PE X a ta) (hb:PE X b tb):PE X (.IfExp c a b pos) (tIf tA ta tb):=by
 intro pins s σ H Q I h
 refine wpAny_IfExp (thn (hc pins s σ H _ I h) fun d s1 ⟨H1,I1,q1⟩=>?_)
 cases d with
 | true=>exact ha pins s1 σ H1 Q I1 q1
 | false=>exact hb pins s1 σ H1 Q I1 q1
end
end L2
namespace L2
open PySem PySem.Spec PyProof.Rows
noncomputable def SqL (K:PySem.W.Frag) (H:Hp) (a:Addr) (xs:List V):Prop :=
 Rd H a (.lst xs) \/
  ∃ (o:Obj) (its:Array Value) (n:Nat),K.lookup a=some o/\o.cls=.type "list"/\o.dict=none/\o.data=.seq its n/\its.size<=sizeLine/\Vals xs its.toList
noncomputable def SqT (K:PySem.W.Frag) (H:Hp) (a:Addr) (xs:List V):Prop :=
 Rd H a (.tup xs) \/
  ∃ (o:Obj) (its:Array Value) (n:Nat),K.lookup a=some o/\o.cls=.type "tuple"/\o.data=.seq its n/\its.size<=sizeLine/\Vals xs its.toList
noncomputable def qI:Value->Option V
 | .none=>some .non
 | .bool b=>some (.bl b)
 | .int i _=>some (.int i)
 | .str x _=>some (.str x)
 | .bytes b _=>some (.byt b)
 | .float b _=>some (.flt b)
 | .ref a=>some (.ref a)
 | .type n=>some (.ty n)
 | _=>none
theorem RelV.abs {x:V} {u:Value} (r:RelV x u):qI u=some x:=by
 cases x with
 | non=>cases r; rfl
 | bl _=>cases r; rfl
 | int _=>obtain ⟨t,rfl⟩:=r; rfl
 | str _=>obtain ⟨t,rfl⟩:=r; rfl
 | byt _=>obtain ⟨t,rfl⟩:=r; rfl
 | flt _=>obtain ⟨t,rfl⟩:=r; rfl
 | ref _=>cases r; rfl
 | ty _=>cases r; rfl
theorem RelV.inj {x y:V} {u:Value} (r:RelV x u) (q:RelV y u):x=y:=Option.some.inj (r.abs.symm.trans q.abs)
theorem Vals.inj:∀ {xs ys:List V} {us:List Value},Vals xs us->Vals ys us->xs=ys
 | _,_,_,.nil,.nil=>rfl
 | _,_,_,.cons r t,.cons r' t'=>by rw [r.inj r',Vals.inj t t']
section
variable {X:Cx} {pins:List (Addr × Obj)} {σ:St} {H:Hp} {s:Shared} {a:Addr} {xs ys:List V}
theorem SqL.of {K:PySem.W.Frag} (h:H a=some (.lst xs)):SqL K H a xs:=.inl (.inl h)
theorem SqT.of {K:PySem.W.Frag} (h:H a=some (.tup xs)):SqT K H a xs:=.inl (.inl h)
theorem Inv.list (I:Inv X pins σ H s) (h:SqL X.K H a xs):∃ its:List Value,Vals xs its/\PlainL s.heap a its.toArray/\xs.length<=sizeLine:=by
 rcases h with h|⟨o,its,n,hk,hc,hd,hs,hz,r⟩
 ·obtain ⟨z,its,n,r,e⟩:=h.ok I.hok
  exact ⟨its,r,⟨_,n,e,rfl,rfl,rfl⟩,z⟩
 ·refine ⟨its.toList,r,⟨o,n,I.kIn a o hk,hc,hd,by simpa using hs⟩,?_⟩
  have e:=r.length
  simp only [Array.length_toList] at e
  omega
theorem Inv.tuple (I:Inv X pins σ H s) (h:SqT X.K H a xs):∃ its:List Value,Vals xs its/\IsTup s.heap a its.toArray/\xs.length<=sizeLine:=by
 rcases h with h|⟨o,its,n,hk,hc,hs,hz,r⟩
 ·obtain ⟨z,its,r,p⟩:=h.ok I.hok
  exact ⟨its,r,p,z⟩
 ·refine ⟨its.toList,r,⟨o,I.kIn a o hk,hc,n,by simpa using hs⟩,?_⟩
  have e:=r.length
  simp only [Array.length_toList] at e
  omega
theorem Inv.iJ (I:Inv X pins σ H s) (h:SqL X.K H a xs) (h':SqL X.K H a ys):xs=ys:=by
 obtain ⟨its,r,⟨o,n,e,_,_,d⟩,_⟩:=I.list h
 obtain ⟨its',r',⟨o',n',e',_,_,d'⟩,_⟩:=I.list h'
 rw [e] at e'; cases e'
 rw [d] at d'
 injection d' with d1 _
 have:its=its':=by simpa using congrArg Array.toList d1
 subst this
 exact r.inj r'
theorem Inv.gO (I:Inv X pins σ H s) (h:SqT X.K H a xs) (h':SqT X.K H a ys):xs=ys:=by
 obtain ⟨its,r,⟨o,e,_,n,d⟩,_⟩:=I.tuple h
 obtain ⟨its',r',⟨o',e',_,n',d'⟩,_⟩:=I.tuple h'
 rw [e] at e'; cases e'
 rw [d] at d'
 injection d' with d1 _
 have:its=its':=by simpa using congrArg Array.toList d1
 subst this
 exact r.inj r'
end
abbrev Cx.b9 (X:Cx) (E:Value->Shared->Prop):Cx:={ X with xe:=E }
abbrev Cx.nox (X:Cx):Cx:=X.b9 fun _ _=>False
theorem Cx.Ok.b9 {X:Cx} (ok:X.Ok) (E:Value->Shared->Prop):(X.b9 E).Ok :=
 ⟨ok.mod,ok.kind,ok.glob,ok.blt,ok.above,ok.inj,ok.has,ok.cab,ok.hd,ok.frames,ok.stk,ok.exf,ok.bs,ok.bsz,ok.noex,ok.exfs,ok.cJ,ok.frf⟩
theorem Cx.Ok.bV {X:Cx} {E:Value->Shared->Prop} (ok:(X.b9 E).Ok):X.Ok :=
 ⟨ok.mod,ok.kind,ok.glob,ok.blt,ok.above,ok.inj,ok.has,ok.cab,ok.hd,ok.frames,ok.stk,ok.exf,ok.bs,ok.bsz,ok.noex,ok.exfs,ok.cJ,ok.frf⟩
section
variable {X:Cx} {pins:List (Addr × Obj)} {σ:St} {H:Hp} {s:Shared} {E:Value->Shared->Prop}
theorem Inv.b9 (I:Inv X pins σ H s) (E:Value->Shared->Prop):Inv (X.b9 E) pins σ H s:=⟨I.ok.b9 E,I.os,I.bare,I.base,I.loc,I.cell,I.free,I.freeC,I.pin,I.hok,I.len⟩
theorem Inv.bV (I:Inv (X.b9 E) pins σ H s):Inv X pins σ H s:=⟨I.ok.bV,I.os,I.bare,I.base,I.loc,I.cell,I.free,I.freeC,I.pin,I.hok,I.len⟩
theorem SP.bV {D:Ends} {f:Flow} {s':Shared} (h:SP (X.b9 E) pins D f s'):SP X pins D f s':=by
 cases f with
 | next=>obtain ⟨σ',H',I,q⟩:=h; exact ⟨σ',H',I.bV,q⟩
 | brk=>obtain ⟨σ',H',I,q⟩:=h; exact ⟨σ',H',I.bV,q⟩
 | cont=>obtain ⟨σ',H',I,q⟩:=h; exact ⟨σ',H',I.bV,q⟩
 | ret u=>obtain ⟨v,σ',H',I,r,q⟩:=h; exact ⟨v,σ',H',I.bV,r,q⟩
end
section
variable {X:Cx} {st:Stmt} {rest:List Stmt} {t u:TS} {e:Expr} {te:TE} {pos:Pos}
noncomputable def iQ:TS:=fun D σ H=>D.nx σ H
noncomputable def sW (t u:TS):TS:=fun D σ H=>t { D with nx:=u D } σ H
theorem zS:PSs X [] iQ:=fun _ _ σ H _ I h=>wpAny_execs_nil ⟨σ,H,I,h⟩
theorem BB (h1:PS X st t) (h2:PSs X rest u):PSs X (st::rest) (sW t u):=by
 intro pins s σ H D I h
 refine wpAny_execs_cons (thn (h1 pins s σ H { D with nx:=u D } I h) fun f s1 q=>?_)
 cases f with
 | next =>
  obtain ⟨σ',H',I',q⟩:=q
  exact h2 pins s1 σ' H' D I' q
 | ret v=>exact q
 | brk=>exact q
 | cont=>exact q
theorem tF (h1:PS X st t):PSs X [st] t:=by
 intro pins s σ H D I h
 refine wpAny_execs_cons (thn (h1 pins s σ H D I h) fun f s1 q=>?_)
 cases f with
 | next=>exact wpAny_execs_nil q
 | ret v=>exact q
 | brk=>exact q
 | cont=>exact q
theorem rS:PS X (.Pass pos) iQ:=fun _ _ σ H _ I h=>wpAny_Pass ⟨σ,H,I,h⟩
theorem Inv.quiet {pins:List (Addr × Obj)} {σ:St} {H:Hp} {s:Shared} (I:Inv X pins σ H s):interactive X.env=false:=by simp [interactive,I.ok.kind]
theorem vP {x j pos pos'}:PS X (.Expr (.Constant (.str x) j pos) pos') iQ:=fun _ s σ H _ I h=>wpAny_Expr (Calls.Constant_str (show SP X _ _ .next { s with toks:=s.toks+1 } from ⟨σ,H,I.tok _,h⟩)) I.quiet
noncomputable def sU (te:TE):TS:=fun D σ H=>te σ H fun _ H1=>D.nx σ H1
theorem zb (he:PE X e te) (hs:swapsWith e none pos.line X.env=pure false:=by rfl):PS X (.Expr e pos) (sU te):=by
 intro pins s σ H D I h
 exact wpAny_Expr_any (thn (he pins s σ H _ I h) fun v s1 ⟨x,H1,I1,r1,q1⟩=>⟨σ,H1,I1,q1⟩) I.quiet hs
noncomputable def qR (te:TE):TS:=fun D σ H=>te σ H D.rt
theorem se (he:PE X e te):PS X (.Return (some e) pos) (qR te):=by
 intro pins s σ H D I h
 exact wpAny_Return_some (thn (he pins s σ H _ I h) fun v s1 ⟨x,H1,I1,r1,q1⟩=>⟨x,σ,H1,I1,r1,q1⟩)
noncomputable def qH:TS:=fun D _ H=>D.rt .non H
theorem Ak:PS X (.Return none pos) qH:=fun _ _ σ H _ I h=>wpAny_Return_none ⟨.non,σ,H,I,rfl,h⟩
noncomputable def wX (c:TT) (t u:TS):TS:=fun D σ H=>c σ H fun b H1=>if b=true then t D σ H1 else u D σ H1
theorem Aq {c:Expr} {a b:List Stmt} {tc:TT} (hc:PT X c tc) (ha:PSs X a t) (hb:PSs X b u):PS X (.If c a b pos) (wX tc t u):=by
 intro pins s σ H D I h
 refine wpAny_If (thn (hc pins s σ H _ I h) fun d s1 ⟨H1,I1,q1⟩=>?_)
 cases d with
 | true=>exact ha pins s1 σ H1 D I1 q1
 | false=>exact hb pins s1 σ H1 D I1 q1
end
abbrev TG:=V->St->Hp->(St->Hp->Prop)->Prop
abbrev TGs:=List V->St->Hp->(St->Hp->Prop)->Prop
noncomputable def PG (X:Cx) (target:Expr) (t:TG):Prop :=
 ∀ (pins:List (Addr × Obj)) (s:Shared) (σ:St) (H:Hp) (v:V) (u:Value) (Q:St->Hp->Prop),Inv X pins σ H s->RelV v u->t v σ H Q ->
  wpAny (model X.prog X.w) X.A (assign target X.env u) (fun _ s'=>∃ σ' H',Inv X pins σ' H' s'/\Q σ' H') X.xe s
noncomputable def PGs (X:Cx) (ts:List Expr) (t:TGs):Prop :=
 ∀ (pins:List (Addr × Obj)) (s:Shared) (σ:St) (H:Hp) (vs:List V) (us:List Value) (Q:St->Hp->Prop),Inv X pins σ H s->Vals vs us->t vs σ H Q ->
  wpAny (model X.prog X.w) X.A (assignInOrder ((assignEach ts X.env).map (·.2)) us) (fun _ s'=>∃ σ' H',Inv X pins σ' H' s'/\Q σ' H') X.xe s
abbrev ja:=V->V->V->Hp->(Hp->Prop)->Prop
noncomputable def kM (X:Cx) (t:ja):Prop :=
 ∀ (pins:List (Addr × Obj)) (s:Shared) (σ:St) (H:Hp) (o i v:V) (ov iv u:Value) (Q:Hp->Prop),Inv X pins σ H s->RelV o ov->RelV i iv->RelV v u->t o i v H Q ->
  wpAny (model X.prog X.w) X.A (setItem ov iv u) (fun _ s'=>∃ H',Inv X pins σ H' s'/\Q H') X.xe s
section
variable {X:Cx} {pos:Pos}
noncomputable def f_ (i:Nat):TG:=fun v σ H Q=>Q (σ.set i (some v)) H
theorem nZ {i:Nat} {x:Str} (hN:X.N.Nodup) (hi:X.N[i]?=some x) (hx:Loc X.env.scope x) (hf:X.fn x=true\/X.env.scope.names.lookup x=some .local:=by first|exact .inl rfl|exact .inr rfl|assumption):PG X (.Name x pos) (f_ i):=by
 intro pins s σ H v u Q I r h
 exact wpAny_assign_Name (tO I hN hi hx r (fun s' I'=>⟨_,H,I',h⟩) hf)
noncomputable def nG:TGs:=fun vs σ H Q=>vs=[]/\Q σ H
noncomputable def lF (t:TG) (u:TGs):TGs:=fun vs σ H Q=>∃ v r,vs=v::r/\t v σ H fun σ' H'=>u r σ' H' Q
theorem AD:PGs X [] nG:=by
 intro pins s σ H vs us Q I r h
 obtain ⟨e,h⟩:=h
 subst e
 cases r
 exact assignInOrder_nil ⟨σ,H,I,h⟩
theorem wI {e:Expr} {es:List Expr} {t:TG} {u:TGs} (h1:PG X e t) (h2:PGs X es u)
  (hs:(assignEach (e::es) X.env).map (·.2)=assign e X.env::(assignEach es X.env).map (·.2):=by rfl):PGs X (e::es) (lF t u):=by
 intro pins s σ H vs us Q I r h
 obtain ⟨v,vr,e1,h⟩:=h
 subst e1
 cases r with
 | cons r rr =>
  rw [hs]
  refine assignInOrder_cons (thn (h1 pins s σ H _ _ _ I r h) fun _ s1 ⟨σ1,H1,I1,q1⟩=>?_)
  exact h2 pins s1 σ1 H1 _ _ Q I1 rr q1
noncomputable def u_ (K:PySem.W.Frag) (n:Nat) (t:TGs):TG:=fun v σ H Q=>∃ a xs,v=.ref a/\SqT K H a xs/\xs.length=n/\t xs σ H Q
theorem B5 {es:List Expr} {k:Nat} {t:TGs} {n:Nat} (hc:X.calm=true) (h:PGs X es t)
  (hn:(assignEach es X.env).length=n:=by rfl) (hst:(assignEach es X.env).findIdx? (·.1)=none:=by rfl):PG X (.Tuple es k pos) (u_ X.K n t):=by
 intro pins s σ H v u Q I r hw
 obtain ⟨a,xs,e1,hq,hl,hw⟩:=hw
 subst e1
 cases r
 obtain ⟨its,rv,ht,hz⟩:=I.tuple hq
 refine assign_Tuple_tuple (I.ok.hd hc) ht (by simp [hn,<- hl,rv.length]) hst fun h' hx=>?_
 have I1:Inv X pins σ H { s with heap:=h' }:=I.kept (t':=s.toks) fun b o e=>hx b o (Nat.ne_of_lt (Heap.lt_size e)) e
 exact h pins _ σ H xs _ Q I1 (by simpa using rv) hw
noncomputable def mT (to ti:TE) (t:ja):TG:=fun v σ H Q=>to σ H fun o H1=>ti σ H1 fun i H2=>t o i v H2 fun H3=>Q σ H3
theorem Bj {o i:Expr} {to ti:TE} {t:ja} (ho:PE X o to) (hi:PE X i ti) (hs:kM X t)
  (ha:∀ v,assign (.Subscript o i pos) X.env v=(do
   let ov <- holding [v] (eval o X.env)
   let iv <- holding [v,ov] (eval i X.env)
   standAt pos
   holding [v,ov,iv] (setItem ov iv v)
   release [v,ov,iv] []):=by intro _; rfl):PG X (.Subscript o i pos) (mT to ti t):=by
 intro pins s σ H v u Q I r h
 rw [ha]
 refine wpAny_bind (wpAny_holding (thn (ho pins s σ H _ I h) fun ov s1 ⟨x,H1,I1,r1,q1⟩=>?_))
 refine wpAny_bind (wpAny_holding (thn (hi pins s1 σ H1 _ I1 q1) fun iv s2 ⟨y,H2,I2,r2,q2⟩=>?_))
 refine wpAny_bind (wpAny_standAt (wpAny_bind (wpAny_holding (thn (hs pins s2 σ H2 x y v ov iv u _ I2 r1 r2 r q2) fun _ s3 ⟨H3,I3,q3⟩=>?_))))
 exact wpAny_release ⟨σ,H3,I3,q3⟩
noncomputable def jG (te:TE) (g:TG):TS:=fun D σ H=>te σ H fun x H1=>g x σ H1 D.nx
theorem nH {tg e:Expr} {te:TE} {g:TG} (he:PE X e te) (hg:PG X tg g) (hs:swapsWithSole [tg] e pos.line X.env=pure false:=by rfl) (hw:swappedStores [tg] e X.env=pure none:=by rfl)
  (h1:(assignEach [tg] X.env).map (·.2)=[assign tg X.env]:=by rfl):PS X (.Assign [tg] e pos) (jG te g):=by
 intro pins s σ H D I h
 refine wpAny_Assign_stores (thn (he pins s σ H _ I h) fun v s1 ⟨x,H1,I1,r1,q1⟩=>?_) hs hw
 rw [h1]
 exact thn (hg pins s1 σ H1 x v _ I1 r1 q1) fun _ s2 q=>q
end
section
variable {X:Cx} {pos:Pos}
noncomputable def mj (c:TT) (tb:TS):TS:=fun D σ H=>∃ W:Nat->St->Hp->Prop,(∃ m,W m σ H)/\∀ m σ H,W m σ H ->
 c σ H fun b H1=>if b=true then ∃ N:St->Hp->Prop,(∀ σ' H',N σ' H'->∃ m',m' < m/\W m' σ' H')/\tb { D with nx:=N,ct:=N,bk:=D.nx } σ H1 else D.nx σ H1
theorem Bk {c:Expr} {body:List Stmt} {tc:TT} {tb:TS} (hp:PassesOwn (model X.prog X.w) X.A X.env X.xe) (hc:PT X c tc) (hb:PSs X body tb):PS X (.While c body [] pos) (mj tc tb):=by
 intro pins s σ H D I h
 obtain ⟨W,⟨m0,w0⟩,turn⟩:=h
 refine wpAny_While (codeAny_whileLoop (fun n s'=>∃ σ' H',Inv X pins σ' H' s'/\W n σ' H') ?_ m0 ⟨σ,H,I,w0⟩)
 rintro n s1 ⟨σ1,H1,I1,w1⟩
 refine wpAny_passesOwn hp (thn (hc pins s1 σ1 H1 _ I1 (turn n σ1 H1 w1)) fun b s2 ⟨H2,I2,q2⟩=>?_)
 cases b with
 | true =>
  obtain ⟨N,hN,q2⟩:=q2
  rw [if_pos rfl]
  refine wpAny_passesOwn hp (thn (hb pins s2 σ1 H2 _ I2 q2) fun f s3 q3=>?_)
  cases f with
  | next =>
   obtain ⟨σ3,H3,I3,n3⟩:=q3
   obtain ⟨m',hm,w3⟩:=hN σ3 H3 n3
   exact ⟨m',hm,σ3,H3,I3,w3⟩
  | cont =>
   obtain ⟨σ3,H3,I3,n3⟩:=q3
   obtain ⟨m',hm,w3⟩:=hN σ3 H3 n3
   exact ⟨m',hm,σ3,H3,I3,w3⟩
  | brk=>exact q3
  | ret v=>exact q3
 | false =>
  rw [if_neg Bool.false_ne_true]
  exact wpAny_execs_nil ⟨σ1,H2,I2,q2⟩
end
structure It where
 go:Nat->Hp->Prop
 yld:Nat->Hp->V->Hp->Prop
 stop:Nat->Hp->Prop
noncomputable def cG (X:Cx) (pins:List (Addr × Obj)) (H:Hp) (b:Addr):Prop :=
 H b=none/\b≠X.env.locals/\b ∉ X.fs/\(b∈X.ex\/X.s₀.heap.objs.size<=b)/\(∀ x c,X.env.cells.lookup x=some c->c≠b)/\∀ p∈X.pn++pins,p.1≠b
theorem Inv.fB {X:Cx} {pins:List (Addr × Obj)} {σ:St} {H H':Hp} {s:Shared} {b:Addr} (I:Inv X pins σ H s) (hb:s.heap.objs.size<=b) (hn:H' b=none):cG X pins H' b:=by
 refine ⟨hn,Nat.ne_of_gt (Nat.lt_of_lt_of_le I.lt hb),I.Bl hb,.inr (Nat.le_trans I.sz hb),fun x c e z=>?_,fun p hp z=>?_⟩
 ·obtain ⟨v,q⟩:=I.cell x c e
  exact absurd (Nat.lt_of_lt_of_le q.lt (by rw [z]; exact hb)) (Nat.lt_irrefl _)
 ·exact absurd (Nat.lt_of_lt_of_le (Heap.lt_size (I.pin p hp).1) (by rw [z]; exact hb)) (Nat.lt_irrefl _)
structure Turn (P:Program) (w:World) (K:PySem.W.Frag) (tg:Expr) (J:It) (fp:List Addr) (it:Addr) (tn:Nat->Heap->Prop):Prop where
 mem:it∈fp
 obj:∀ i h,tn i h->∀ b∈fp,∃ o,h.get? b=some o/\∀ v,o.data≠.cell v
 keep:∀ i h h',tn i h->(∀ b∈fp,∀ o,h.get? b=some o->h'.get? b=some o)->tn i h'
 item:∀ (X:Cx),X.prog=P->X.w=w->X.K=K->X.calm=true->∀ (i:Nat) (pins:List (Addr × Obj)) (s:Shared) (σ:St) (H:Hp) (E:Value->Shared->Prop),Inv X pins σ H s->(∀ b∈fp,cG X pins H b)->tn i s.heap->J.go i H ->
  wpAny (model P w) X.A (pyNext (.ref it)) (fun r s1=>∃ u,r=some u /\
   wpAny (model P w) X.A (letOwnedTupleGo tg (.ref it) u) (fun _ s2=>∃ x H',Inv X pins σ H' s2/\RelV x u/\J.yld i H x H'/\tn (i+1) s2.heap/\∀ b∈fp,H' b=none) E s1) E s
 done:∀ (X:Cx),X.prog=P->X.w=w->X.K=K->X.calm=true->∀ (i:Nat) (pins:List (Addr × Obj)) (s:Shared) (σ:St) (H:Hp) (E:Value->Shared->Prop),Inv X pins σ H s->(∀ b∈fp,cG X pins H b)->tn i s.heap->J.stop i H ->
  wpAny (model P w) X.A (pyNext (.ref it)) (fun r s1=>r=none/\Inv X pins σ H s1) E s
 self:∀ (A:Around) (i:Nat) (s:Shared) (Q:Value->Shared->Prop) (E:Value->Shared->Prop),tn i s.heap->Q (.ref it) s->wpAny (model P w) A (pyIter (.ref it)) Q E s
abbrev TI:=St->Hp->(It->Hp->Prop)->Prop
noncomputable def PIE (X:Cx) (pins:List (Addr × Obj)) (σ:St) (tg:Expr) (R:It->Hp->Prop) (itv:Value) (s2:Shared):Prop :=
 ∃ (it:Addr) (fp:List Addr) (tn:Nat->Heap->Prop) (J:It) (H':Hp),itv=.ref it/\Inv X pins σ H' s2/\Turn X.prog X.w X.K tg J fp it tn/\tn 0 s2.heap/\(∀ b∈fp,cG X pins H' b)/\R J H'
noncomputable def PI (X:Cx) (tg iter:Expr) (wi:TI):Prop :=
 ∀ (pins:List (Addr × Obj)) (s:Shared) (σ:St) (H:Hp) (R:It->Hp->Prop),Inv X pins σ H s->wi σ H R ->
  wpAny (model X.prog X.w) X.A (eval iter X.env) (fun v s1=>wpAny (model X.prog X.w) X.A (pyIter v) (PIE X pins σ tg R) X.xe s1) X.xe s
theorem iH {M:Model} {A:Around} {E:Value->Shared->Prop} {s:Shared} {tg:Expr} {it:Addr} {u:Value} {o:Obj} {n:String} {vs:Array Value} {Q:Unit->Shared->Prop} (ho:s.heap.get? it=some o) (hc:o.cls=.type n) (hd:o.data=.fields vs)
  (hn:["enumerate","zip","dict_itemiterator","dict_reverseitemiterator","odict_iterator","itertools.zip_longest","itertools.pairwise"].contains n=false) (hQ:Q () s):wpAny M A (letOwnedTupleGo tg (.ref it) u) Q E s:=by
 unfold letOwnedTupleGo
 cases tg <;> first
  | exact wpAny_pure hQ
  | (cases u <;> first
    | exact wpAny_pure hQ
    | (
      refine wpAny_bind (wpAny_load ho ?_)
      rw [hc,hd]
      show wpAny M A (if (["enumerate","zip","dict_itemiterator","dict_reverseitemiterator","odict_iterator","itertools.zip_longest","itertools.pairwise"].contains n&&vs[0]?==some (rawInt _))=true then _ else _) Q E s
      rw [if_neg (by intro h; rw [hn,Bool.false_and] at h; cases h)]
      exact wpAny_pure hQ))
noncomputable def Itl (K:PySem.W.Frag) (a:Addr):It :=
 ⟨fun i H=>∃ xs x,SqL K H a xs/\xs[i]?=some x,fun i H x H'=>H'=H/\∀ xs,SqL K H a xs->xs[i]?=some x,fun i H=>∃ xs,SqL K H a xs/\xs.length<=i⟩
noncomputable def Itt (K:PySem.W.Frag) (a:Addr):It :=
 ⟨fun i H=>∃ xs x,SqT K H a xs/\xs[i]?=some x,fun i H x H'=>H'=H/\∀ xs,SqT K H a xs->xs[i]?=some x,fun i H=>∃ xs,SqT K H a xs/\xs.length<=i⟩
noncomputable def Itr (lo:Int) (n:Nat):It:=⟨fun i _=>i < n,fun i H x H'=>H'=H/\x=.int (lo+i),fun i _=>n<=i⟩
theorem Cf {P:Program} {w:World} {K:PySem.W.Frag} {tg:Expr} (a it:Addr):Turn P w K tg (Itl K a) [it] it (fun i h=>h.IsListIter it a i) where
 mem:=by simp
 obj:=fun i h st b hb=>by
  have e:b=it:=by simpa using hb
  subst e
  obtain ⟨o,e,c,d⟩:=st
  exact ⟨o,e,fun v z=>by rw [d] at z; cases z⟩
 keep:=fun i h h' st k=>st.at fun o e=>k it (by simp) o e
 item:=by
  intro X hP hw hK hc i pins s σ H E I hf st hg
  subst hP hw hK
  obtain ⟨xs,x,hq,hx⟩:=hg
  obtain ⟨its,rv,p,hz⟩:=I.list hq
  obtain ⟨u,hu,ru⟩:=rv.get hx
  obtain ⟨f0,f1,f2,f3,f4,f5⟩:=hf it (by simp)
  refine wpAny_pyNext_list_item st p.isList (x:=u) (by simpa using hu) fun h' st' sb=>?_
  have I1:Inv X pins σ H { s with heap:=h' }:=I.turned (t':=s.toks) (fun b o hb e=>(sb.2 b hb).trans e) f0 f1 f3 f4 f5
  obtain ⟨o,e,c,d⟩:=id st'
  exact ⟨u,rfl,iH (s:={ s with heap:=h' }) e c d (by decide) ⟨x,H,I1,ru,⟨rfl,fun ys hy=>by rw [I.iJ hy hq]; exact hx⟩,st',fun b hb=>(hf b hb).1⟩⟩
 done:=by
  intro X hP hw hK hc i pins s σ H E I hf st hg
  subst hP hw hK
  obtain ⟨xs,hq,hx⟩:=hg
  obtain ⟨its,rv,p,hz⟩:=I.list hq
  obtain ⟨f0,f1,f2,f3,f4,f5⟩:=hf it (by simp)
  have hl:=rv.length
  exact wpAny_pyNext_list_end (I.ok.hd hc) st p.isList (by simp; omega) fun h' eb=>⟨rfl,I.turned (t':=s.toks) (fun b o hb e=>eb b o hb e) f0 f1 f3 f4 f5⟩
 self:=fun _ _ _ _ _ st h=>wpAny_pyIter_listiter st h
theorem A8 {P:Program} {w:World} {K:PySem.W.Frag} {tg:Expr} (a it:Addr):Turn P w K tg (Itt K a) [it] it (fun i h=>h.IsTupleIter it a i) where
 mem:=by simp
 obj:=fun i h st b hb=>by
  have e:b=it:=by simpa using hb
  subst e
  obtain ⟨o,e,c,d⟩:=st
  exact ⟨o,e,fun v z=>by rw [d] at z; cases z⟩
 keep:=fun i h h' st k=>st.at fun o e=>k it (by simp) o e
 item:=by
  intro X hP hw hK hc i pins s σ H E I hf st hg
  subst hP hw hK
  obtain ⟨xs,x,hq,hx⟩:=hg
  obtain ⟨its,rv,p,hz⟩:=I.tuple hq
  obtain ⟨u,hu,ru⟩:=rv.get hx
  obtain ⟨f0,f1,f2,f3,f4,f5⟩:=hf it (by simp)
  refine wpAny_pyNext_tuple_item st (show s.heap.IsTuple a its.toArray from p) (x:=u) (by simpa using hu) fun h' st' sb=>?_
  have I1:Inv X pins σ H { s with heap:=h' }:=I.turned (t':=s.toks) (fun b o hb e=>(sb.2 b hb).trans e) f0 f1 f3 f4 f5
  obtain ⟨o,e,c,d⟩:=id st'
  exact ⟨u,rfl,iH (s:={ s with heap:=h' }) e c d (by decide) ⟨x,H,I1,ru,⟨rfl,fun ys hy=>by rw [I.gO hy hq]; exact hx⟩,st',fun b hb=>(hf b hb).1⟩⟩
 done:=by
  intro X hP hw hK hc i pins s σ H E I hf st hg
  subst hP hw hK
  obtain ⟨xs,hq,hx⟩:=hg
  obtain ⟨its,rv,p,hz⟩:=I.tuple hq
  obtain ⟨f0,f1,f2,f3,f4,f5⟩:=hf it (by simp)
  have hl:=rv.length
  exact wpAny_pyNext_tuple_end (I.ok.hd hc) st (show s.heap.IsTuple a its.toArray from p) (by simp; omega) fun h' eb=>⟨rfl,I.turned (t':=s.toks) (fun b o hb e=>eb b o hb e) f0 f1 f3 f4 f5⟩
 self:=fun _ _ _ _ _ st h=>wpAny_pyIter_tupleiter st h
theorem zP {P:Program} {w:World} {K:PySem.W.Frag} {tg:Expr} (it:Addr) (lo:Int) (n:Nat):Turn P w K tg (Itr lo n) [it] it (fun i h=>IsRangeIter h it (lo+(i:Nat) * 1) ((n:Int) - (i:Nat)) 1) where
 mem:=by simp
 obj:=fun i h st b hb=>by
  have e:b=it:=by simpa using hb
  subst e
  exact ⟨_,st,fun v z=>by
   have z':Data.fields _=Data.cell v:=z
   cases z'⟩
 keep:=fun i h h' st k=>k it (by simp) _ st
 item:=by
  intro X hP hw hK hc i pins s σ H E I hf st hg
  subst hP hw hK
  obtain ⟨f0,f1,f2,f3,f4,f5⟩:=hf it (by simp)
  have W:=Walks.range (prog:=X.prog) (w:=X.w) (I.ok.hd hc) it lo 1 n
  refine W.item i s _ _ hg st fun v h' tk hv st' kk=>?_
  obtain ⟨t,rfl⟩:=hv
  have I1:Inv X pins σ H { s with heap:=h',toks:=tk }:=I.turned (fun b o hb e=>kk b o (by simpa using hb) e) f0 f1 f3 f4 f5
  refine ⟨_,rfl,iH (s:={ s with heap:=h',toks:=tk }) (n:="range_iterator") st' rfl rfl (by decide) ⟨.int (lo+i),H,I1,⟨t,?_⟩,⟨rfl,rfl⟩,st',fun b hb=>(hf b hb).1⟩⟩
  rw [Int.mul_one]
 done:=by
  intro X hP hw hK hc i pins s σ H E I hf st hg
  subst hP hw hK
  obtain ⟨f0,f1,f2,f3,f4,f5⟩:=hf it (by simp)
  exact wpAny_pyNext_range_end (I.ok.hd hc) st (by have:n<=i:=hg; omega) fun h' eb=>⟨rfl,I.turned (t':=s.toks) (fun b o hb e=>eb b o hb e) f0 f1 f3 f4 f5⟩
 self:=fun _ _ _ _ _ st h=>wpAny_pyIter_rangeiter st h
end L2
namespace L2
open PySem PySem.Spec PyProof.Rows
section
variable {X:Cx} {tg:Expr}
theorem oG {pins:List (Addr × Obj)} {σ:St} {H:Hp} {s:Shared} {R:It->Hp->Prop} {E:Value->Shared->Prop} {lo hi:Int} {t u v:Tok} {tk:Nat} (I:Inv X pins σ H s) (h1:-(2 ^ 62)<=lo) (h2:lo < 2 ^ 62) (h3:-(2 ^ 62)<=hi) (h4:hi < 2 ^ 62)
  (q:R (Itr lo (hi - lo).toNat) H):wpAny (model X.prog X.w) X.A (pyIter (.ref s.heap.objs.size)) (PIE X pins σ tg R) E { s with heap:=s.heap.push { cls:=.type "range",data:=.fields #[.int lo t,.int hi u,.int 1 v] },toks:=tk }:=by
 refine wpAny_pyIter_range (IsRange.new ..) (small_one h1 h2 h3 h4) ?_
 have I1:Inv X pins σ H { s with heap:=s.heap.push { cls:=.type "range",data:=.fields #[.int lo t,.int hi u,.int 1 v] },toks:=tk }:=I.kept fun b o e=>Heap.get?_push_of_some _ e
 refine ⟨(s.heap.push { cls:=.type "range",data:=.fields #[.int lo t,.int hi u,.int 1 v] }).objs.size,[(s.heap.push { cls:=.type "range",data:=.fields #[.int lo t,.int hi u,.int 1 v] }).objs.size],_,_,H,rfl,
  I1.kept (t':=tk) fun b o e=>Heap.get?_push_of_some _ e,zP _ lo (hi - lo).toNat,?_,fun b hb=>?_,q⟩
 ·have e1:lo+((0:Nat):Int) * 1=lo:=by simp
  have e2:(((hi - lo).toNat:Nat):Int) - ((0:Nat):Int)=Builtin.Range.rangeSize lo hi 1:=by rw [rangeSize_one]; split <;> omega
  show IsRangeIter _ _ (lo+((0:Nat):Int) * 1) ((((hi - lo).toNat:Nat):Int) - ((0:Nat):Int)) 1
  rw [e1,e2]
  exact Heap.get?_push_size _ rfl
 ·have e:b=(s.heap.push { cls:=.type "range",data:=.fields #[.int lo t,.int hi u,.int 1 v] }).objs.size:=by simpa using hb
  subst e
  exact I1.fB (Nat.le_refl _) (I1.hok.fresh (Nat.le_refl _))
noncomputable def qW (ta:TA):TI:=fun σ H R=>ta σ H fun vs H1=>∃ j:Int,vs=[.int j]/\-(2 ^ 62)<=j/\j < 2 ^ 62/\R (Itr 0 j.toNat) H1
noncomputable def zh (ta:TA):TI:=fun σ H R=>ta σ H fun vs H1=>∃ i j:Int,vs=[.int i,.int j]/\(-(2 ^ 62)<=i/\i < 2 ^ 62/\-(2 ^ 62)<=j/\j < 2 ^ 62)/\R (Itr i (j - i).toNat) H1
theorem AR {a:Expr} {ta:TA} {p pos:Pos} (hg:Gl X "range") (hm:X.mg "range" = none) (ha:PA X [a] ta) (hs:starEach [a] X.env=[(false,eval a X.env)]:=by rfl):PI X tg (.Call (.Name "range" p) [a] [] pos) (qW ta):=by
 intro pins s σ H R I h
 refine Call_ (dc I hg hm boot_range (PyProof.Rows.callWith_type1 (thn (ha pos pins s σ H _ I h) fun us s1 ⟨vs,H1,I1,r1,q1⟩=>?_) hs rfl))
 obtain ⟨j,e,q1,q2,q⟩:=q1
 subst e
 cases r1 with
 | cons r rr =>
  cases rr
  obtain ⟨t,rfl⟩:=r
  exact call_range_1 (oG I1 (by omega) (by omega) q1 q2 (by simpa using q))
theorem uq {a b:Expr} {ta:TA} {p pos:Pos} (hg:Gl X "range") (hm:X.mg "range" = none) (ha:PA X [a,b] ta) (hs:starEach [a,b] X.env=[(false,eval a X.env),(false,eval b X.env)]:=by rfl) (hs2:starEach [b] X.env=[(false,eval b X.env)]:=by rfl) :
  PI X tg (.Call (.Name "range" p) [a,b] [] pos) (zh ta):=by
 intro pins s σ H R I h
 refine Call_ (dc I hg hm boot_range (PyProof.Rows.callWith_type1 (thn (ha pos pins s σ H _ I h) fun us s1 ⟨vs,H1,I1,r1,q1⟩=>?_) (by rw [hs,hs2]) (by rw [hs2]; rfl)))
 obtain ⟨i,j,e,⟨q1,q2,q3,q4⟩,q⟩:=q1
 subst e
 cases r1 with
 | cons r rr =>
  cases rr with
  | cons r' rr =>
   cases rr
   obtain ⟨t,rfl⟩:=r
   obtain ⟨t',rfl⟩:=r'
   exact call_range_2 (oG I1 q1 q2 q3 q4 q)
noncomputable def qE (wi:TI) (g:TG) (tb:TS):TS:=fun D σ H=>wi σ H fun J H1=>∃ W:Nat->Nat->St->Hp->Prop,(∃ m,W 0 m σ H1)/\∀ i m σ H,W i m σ H ->
 (J.stop i H/\D.nx σ H)\/(J.go i H/\∃ N:St->Hp->Prop,(∀ σ' H',N σ' H'->∃ m',m' < m/\W (i+1) m' σ' H')/\∀ x H',J.yld i H x H'->g x σ H' fun σ2 H2=>tb { D with nx:=N,ct:=N,bk:=D.nx } σ2 H2)
noncomputable def gA (fp:List Addr) (h:Heap):List (Addr × Obj):=fp.filterMap fun b=>(h.get? b).map fun o=>(b,o)
theorem iK {fp:List Addr} {h:Heap} {b:Addr} {o:Obj} (hb:b∈fp) (e:h.get? b=some o):(b,o)∈gA fp h:=List.mem_filterMap.mpr ⟨b,hb,by rw [e]; rfl⟩
theorem zU {fp:List Addr} {h:Heap} {p:Addr × Obj} (hp:p∈gA fp h):p.1∈fp/\h.get? p.1=some p.2:=by
 obtain ⟨b,hb,e⟩:=List.mem_filterMap.mp hp
 cases q:h.get? b with
 | none=>rw [q] at e; cases e
 | some o =>
  rw [q] at e
  have e':(b,o)=p:=Option.some.inj e
  subst e'
  exact ⟨hb,q⟩
theorem Inv.pinned {pins:List (Addr × Obj)} {σ:St} {H:Hp} {s:Shared} {fp:List Addr} (I:Inv X pins σ H s) (hf:∀ b∈fp,cG X pins H b) (ho:∀ b∈fp,∃ o,s.heap.get? b=some o/\∀ v,o.data≠.cell v):Inv X (pins++gA fp s.heap) σ H s :=
 I.o_ fun p hp=>(List.mem_append.mp hp).elim (fun z=>I.pin p (List.mem_append_right _ z)) fun z=>by
  obtain ⟨hb,e⟩:=zU z
  obtain ⟨f0,f1,f2,_⟩:=hf p.1 hb
  obtain ⟨o,e',d⟩:=ho p.1 hb
  rw [e] at e'; cases e'
  exact ⟨e,f0,f1,f2,d⟩
theorem Inv.iF {pins pl:List (Addr × Obj)} {σ:St} {H:Hp} {s:Shared} (I:Inv X (pins++pl) σ H s):Inv X pins σ H s:=I.o_ fun p hp=>I.pin p (List.mem_append_right _ (List.mem_append_left _ hp))
theorem t8 {iter:Expr} {body:List Stmt} {wi:TI} {g:TG} {tb:TS} {pos:Pos} (hp:PassesOwn (model X.prog X.w) X.A X.env X.xe) (hc:X.calm=true) (hi:PI X tg iter wi) (hg:PG X tg g) (hb:PSs X body tb)
  (hs:∀ x,foldedSetIterable iter X.env x=pure x:=by intro _; rfl):PS X (.For tg iter body [] pos) (qE wi g tb):=by
 intro pins s σ H D I h
 refine wpAny_For (thn (hi pins s σ H _ I h) fun v s1 h1=>thn h1 fun itv s2 h2=>?_) hs
 obtain ⟨it,fp,tn,J,H2,e,I2,T,st2,f2,W,⟨m0,w0⟩,turn⟩:=h2
 subst e
 have stat:∀ {H':Hp},(∀ b∈fp,H' b=none)->∀ b∈fp,cG X pins H' b:=fun hn b hb=>⟨hn b hb,(f2 b hb).2⟩
 refine codeAny_forLoop_any (fun n s'=>∃ i σ' H',Inv X pins σ' H' s'/\tn i s'.heap/\(∀ b∈fp,H' b=none)/\W i n σ' H') ?_ m0 ⟨0,σ,H2,I2,st2,fun b hb=>(f2 b hb).1,w0⟩
 rintro n s3 ⟨i,σ3,H3,I3,st3,fr3,w3⟩
 rcases turn i n σ3 H3 w3 with ⟨stop,qn⟩|⟨go,N,hN,step⟩
 ·refine wpAny_passesOwn hp (thn (T.done X rfl rfl rfl hc i pins s3 σ3 H3 X.xe I3 (stat fr3) st3 stop) fun r s4 ⟨hr,I4⟩=>?_)
  subst hr
  exact wpAny_execs_nil ⟨σ3,H3,I4,qn⟩
 ·refine wpAny_passesOwn hp (thn (T.item X rfl rfl rfl hc i pins s3 σ3 H3 X.xe I3 (stat fr3) st3 go) fun r s4 ⟨u,hr,h4⟩=>?_)
  subst hr
  refine wpAny_passesOwn hp (thn h4 fun _ s5 ⟨x,H5,I5,r5,y5,st5,fr5⟩=>?_)
  have I5':=I5.pinned (stat fr5) (T.obj _ _ st5)
  refine wpAny_passesOwn hp (thn (hg _ s5 σ3 H5 x u _ I5' r5 (step x H5 y5)) fun _ s6 ⟨σ6,H6,I6,q6⟩=>?_)
  refine wpAny_passesOwn hp (thn (hb _ s6 σ6 H6 _ I6 q6) fun f s7 q7=>?_)
  have again:∀ {σ7:St} {H7:Hp},Inv X (pins++gA fp s5.heap) σ7 H7 s7->N σ7 H7->∃ m,m < n/\∃ i σ' H',Inv X pins σ' H' s7/\tn i s7.heap/\(∀ b∈fp,H' b=none)/\W i m σ' H':=fun {σ7 H7} I7 n7=>by
   obtain ⟨m',hm,w7⟩:=hN σ7 H7 n7
   refine ⟨m',hm,i+1,σ7,H7,I7.iF,T.keep _ _ _ st5 fun b hb o e=>(I7.pin (b,o) (List.mem_append_right _ (List.mem_append_right _ (iK hb e)))).1,fun b hb=>?_,w7⟩
   obtain ⟨o,e,d⟩:=T.obj _ _ st5 b hb
   exact (I7.pin (b,o) (List.mem_append_right _ (List.mem_append_right _ (iK hb e)))).2.1
  cases f with
  | next=>obtain ⟨σ7,H7,I7,n7⟩:=q7; exact again I7 n7
  | cont=>obtain ⟨σ7,H7,I7,n7⟩:=q7; exact again I7 n7
  | brk=>obtain ⟨σ7,H7,I7,q7⟩:=q7; exact ⟨σ7,H7,I7.iF,q7⟩
  | ret v=>obtain ⟨x7,σ7,H7,I7,r7,q7⟩:=q7; exact ⟨x7,σ7,H7,I7.iF,r7,q7⟩
end
end L2
namespace L2
open PySem PySem.Spec PyProof.Rows
abbrev R2:=V->V->Hp->VK->Prop
noncomputable def OpR (X:Cx) (f:Value->Value->Sem Value) (r:R2):Prop :=
 ∀ (pins:List (Addr × Obj)) (s:Shared) (σ:St) (H:Hp) (x y:V) (v u:Value) (Q:VK),Inv X pins σ H s->RelV x v->RelV y u->r x y H Q ->
  wpAny (model X.prog X.w) X.A (f v u) (EP X pins σ Q) X.xe s
noncomputable def UnR (X:Cx) (f:Value->Sem Value) (r:V->Hp->VK->Prop):Prop :=
 ∀ (pins:List (Addr × Obj)) (s:Shared) (σ:St) (H:Hp) (x:V) (v:Value) (Q:VK),Inv X pins σ H s->RelV x v->r x H Q ->
  wpAny (model X.prog X.w) X.A (f v) (EP X pins σ Q) X.xe s
noncomputable def bB (X:Cx) (f:Value) (r:List V->Hp->VK->Prop):Prop :=
 ∀ (pins:List (Addr × Obj)) (s:Shared) (σ:St) (H:Hp) (xs:List V) (us:List Value) (Q:VK),Inv X pins σ H s->Vals xs us->r xs H Q ->
  wpAny (model X.prog X.w) X.A (call f us) (EP X pins σ Q) X.xe s
noncomputable def qm (X:Cx) (r:V->Hp->(Bool->Hp->Prop)->Prop):Prop :=
 ∀ (pins:List (Addr × Obj)) (s:Shared) (σ:St) (H:Hp) (x:V) (v:Value) (Q:Bool->Hp->Prop),Inv X pins σ H s->RelV x v->r x H Q ->
  wpAny (model X.prog X.w) X.A (truthy v) (TP X pins σ Q) X.xe s
noncomputable def tOp (r:R2) (ta tb:TE):TE:=fun σ H Q=>ta σ H fun x H1=>tb σ H1 fun y H2=>r x y H2 Q
noncomputable def tUn (r:V->Hp->VK->Prop) (ta:TE):TE:=fun σ H Q=>ta σ H fun x H1=>r x H1 Q
noncomputable def rI (C:Int->Int->Prop) (g:Int->Int->V):R2:=fun x y H Q=>∃ i j,x=.int i/\y=.int j/\C i j/\Q (g i j) H
noncomputable def rI0 (g:Int->Int->V):R2:=fun x y H Q=>∃ i j,x=.int i/\y=.int j/\Q (g i j) H
noncomputable def rU (g:Int->V):V->Hp->VK->Prop:=fun x H Q=>∃ i,x=.int i/\Q (g i) H
section
variable {X:Cx} {a b c:Expr} {ta tb tc:TE} {pos:Pos}
theorem jW (ha:PE X a ta) (hb:PE X b tb) {pins:List (Addr × Obj)} {s:Shared} {σ:St} {H:Hp} {R:V->V->Hp->Prop} (I:Inv X pins σ H s)
  (h:ta σ H fun x H1=>tb σ H1 fun y H2=>R x y H2) {Q:Value->Shared->Prop} {f:Value->Value->Sem Value}
  (hf:∀ v u s2 x y H2,Inv X pins σ H2 s2->RelV x v->RelV y u->R x y H2->wpAny (model X.prog X.w) X.A (f v u) Q X.xe s2) :
  wpAny (model X.prog X.w) X.A (eval a X.env) (fun v s₁=>wpAny (model X.prog X.w) X.A (eval b X.env) (fun u s₂=>wpAny (model X.prog X.w) X.A (f v u) Q X.xe s₂) X.xe s₁) X.xe s:=by
 refine thn (ha pins s σ H _ I h) fun v s1 ⟨x,H1,I1,r1,q1⟩=>?_
 refine thn (hb pins s1 σ H1 _ I1 q1) fun u s2 ⟨y,H2,I2,r2,q2⟩=>?_
 exact hf v u s2 x y H2 I2 r1 r2 q2
theorem sJ {op:Operator} {r:R2} (ho:OpR X (binaryOp op) r) (ha:PE X a ta) (hb:PE X b tb):PE X (.BinOp a op b pos) (tOp r ta tb):=by
 intro pins s σ H Q I h
 exact wpAny_BinOp (jW ha hb I h fun v u s2 x y H2 I2 rx ry q=>ho pins s2 σ H2 x y v u Q I2 rx ry q)
theorem uP {op:UnaryOp} {r:V->Hp->VK->Prop} (ho:UnR X (unaryOp op) r) (ha:PE X a ta):PE X (.UnaryOp op a pos) (tUn r ta):=by
 intro pins s σ H Q I h
 exact UnaryOp_ (thn (ha pins s σ H _ I h) fun v s1 ⟨x,H1,I1,r1,q1⟩=>ho pins s1 σ H1 x v Q I1 r1 q1)
theorem opI {f:Value->Value->Sem Value} {C:Int->Int->Prop} {g:Int->Int->Int}
  (rule:∀ (i j:Int) (t u:Tok) (s:Shared) (Q:Value->Shared->Prop) (E:Value->Shared->Prop),C i j->Q (.int (g i j) s.toks) { s with toks:=s.toks+1 }->wpAny (model X.prog X.w) X.A (f (.int i t) (.int j u)) Q E s) :
  OpR X f (rI C fun i j=>.int (g i j)):=by
 intro pins s σ H x y v u Q I rx ry h
 obtain ⟨i,j,rfl,rfl,hc,q⟩:=h
 obtain ⟨t,rfl⟩:=rx
 obtain ⟨t',rfl⟩:=ry
 exact rule i j t t' s _ _ hc ⟨.int (g i j),H,I.tok _,⟨_,rfl⟩,q⟩
theorem oF {f:Value->Value->Sem Value} {g:Int->Int->Int}
  (rule:∀ (i j:Int) (t u:Tok) (s:Shared) (Q:Value->Shared->Prop) (E:Value->Shared->Prop),Q (.int (g i j) s.toks) { s with toks:=s.toks+1 }->wpAny (model X.prog X.w) X.A (f (.int i t) (.int j u)) Q E s) :
  OpR X f (rI0 fun i j=>.int (g i j)):=by
 intro pins s σ H x y v u Q I rx ry h
 obtain ⟨i,j,rfl,rfl,q⟩:=h
 obtain ⟨t,rfl⟩:=rx
 obtain ⟨t',rfl⟩:=ry
 exact rule i j t t' s _ _ ⟨.int (g i j),H,I.tok _,⟨_,rfl⟩,q⟩
theorem gU {f:Value->Value->Sem Value} {g:Int->Int->Bool}
  (rule:∀ (i j:Int) (t u:Tok) (s:Shared) (Q:Value->Shared->Prop) (E:Value->Shared->Prop),Q (.bool (g i j)) s->wpAny (model X.prog X.w) X.A (f (.int i t) (.int j u)) Q E s) :
  OpR X f (rI0 fun i j=>.bl (g i j)):=by
 intro pins s σ H x y v u Q I rx ry h
 obtain ⟨i,j,rfl,rfl,q⟩:=h
 obtain ⟨t,rfl⟩:=rx
 obtain ⟨t',rfl⟩:=ry
 exact rule i j t t' s _ _ ⟨.bl (g i j),H,I,rfl,q⟩
noncomputable def xj (i j:Int):Prop:=0 < j/\j < 1073741824
noncomputable def wM (i j:Int):Prop:=0<=j/\j<=1000000/\i.natAbs < 2 ^ 64
noncomputable def jM (i j:Int):Prop:=(-(2 ^ 64) < i/\i < 2 ^ 64)\/(-(2 ^ 64) < j/\j < 2 ^ 64)
theorem jM.ok {i j:Int} (h:jM i j):IntMulOk i j:=by
 rcases h with ⟨h1,h2⟩|⟨h1,h2⟩
 ·exact .of_left (intBits_le_64 h1 h2)
 ·exact .of_right (intBits_le_64 h1 h2)
theorem xu:OpR X (binaryOp .Add) (rI0 fun i j=>.int (i+j)):=oF fun _ _ _ _ _ _ _ q=>add_int q
theorem sL:OpR X (binaryOp .Sub) (rI0 fun i j=>.int (i - j)):=oF fun _ _ _ _ _ _ _ q=>sub_int q
theorem Bf:OpR X (binaryOp .Mult) (rI jM fun i j=>.int (i * j)):=opI fun _ _ _ _ _ _ _ hc q=>mul_int q hc.ok
theorem Cp:OpR X (binaryOp .FloorDiv) (rI xj fun i j=>.int (i / j)):=opI fun i j _ _ _ _ _ hc q=>by
 have h1:(0:Int) < j:=hc.1
 have h2:j < 1073741824:=hc.2
 exact floordiv_int (by omega) (by rw [Int.fdiv_eq_ediv_of_nonneg i (by omega)]; exact q) (.inl (PyProof.noPylong_small (by omega)))
theorem r8:OpR X (binaryOp .Mod) (rI (fun _ j=>0 < j) fun i j=>.int (i % j)):=opI fun i j _ _ _ _ _ hc q=>by
 have h1:(0:Int) < j:=hc
 exact mod_int' (by omega) (by rw [Int.fmod_eq_emod_of_nonneg i (by omega)]; exact q)
theorem BC:OpR X (binaryOp .Pow) (rI wM fun i j=>.int (i ^ j.toNat)):=opI fun _ _ _ _ _ _ _ hc q=>pow_int_small hc.1 hc.2.1 hc.2.2 q
theorem unI {f:Value->Sem Value} {g:Int->Int}
  (rule:∀ (i:Int) (t:Tok) (s:Shared) (Q:Value->Shared->Prop) (E:Value->Shared->Prop),Q (.int (g i) s.toks) { s with toks:=s.toks+1 }->wpAny (model X.prog X.w) X.A (f (.int i t)) Q E s) :
  UnR X f (rU fun i=>.int (g i)):=by
 intro pins s σ H x v Q I rx h
 obtain ⟨i,rfl,q⟩:=h
 obtain ⟨t,rfl⟩:=rx
 exact rule i t s _ _ ⟨.int (g i),H,I.tok _,⟨_,rfl⟩,q⟩
theorem zR:UnR X (unaryOp .USub) (rU fun i=>.int (-i)):=unI fun _ _ _ _ _ q=>neg_int q
end
noncomputable def oq:V->V->Bool
 | .non,.non=>true|.non,.int _=>true|.int _,.non=>true|.non,.bl _=>true|.bl _,.non=>true|.non,.str _=>true|.str _,.non=>true
 | .int _,.int _=>true|.bl _,.bl _=>true|.str _,.str _=>true|.byt _,.byt _=>true
 | .int _,.str _=>true|.str _,.int _=>true|.bl _,.str _=>true|.str _,.bl _=>true
 | _,_=>false
noncomputable def rNe:R2:=fun x y H Q=>oq x y=true/\Q (.bl (!decide (x=y))) H
theorem i9 {i j:Int}:decide (V.int i=V.int j)=(i==j):=by
 rw [Bool.eq_iff_iff]
 simp
theorem oZ {i j:Bool}:decide (V.bl i=V.bl j)=(i==j):=by
 rw [Bool.eq_iff_iff]
 simp
theorem oS {i j:Str}:decide (V.str i=V.str j)=(i==j):=by
 rw [Bool.eq_iff_iff]
 simp
theorem rG {i j:Array UInt8}:decide (V.byt i=V.byt j)=(i.toList==j.toList):=by
 rw [Bool.eq_iff_iff]
 cases i
 cases j
 simp
section
variable {X:Cx} {a b c:Expr} {ta tb tc:TE} {pos:Pos}
theorem bR {pins:List (Addr × Obj)} {σ:St} {H:Hp} {s:Shared} {Q:VK} {k k':Bool} (I:Inv X pins σ H s) (q:Q (.bl k) H) (e:k=k'):EP X pins σ Q (.bool k') s:=by
 subst e
 exact ⟨.bl k,H,I,rfl,q⟩
theorem zG:OpR X (compareOp .NotEq) rNe:=by
 intro pins s σ H x y v u Q I rx ry h
 obtain ⟨hs,q⟩:=h
 cases x with
 | non =>
  cases rx
  cases y with
  | non=>cases ry; exact PySem.EqNone.ne_none_none (bR I q (by simp))
  | bl j=>cases ry; exact PySem.EqNone.ne_none_bool (bR I q (by simp))
  | int j=>obtain ⟨t',rfl⟩:=ry; exact PySem.EqNone.ne_none_int (bR I q (by simp))
  | str j=>obtain ⟨t',rfl⟩:=ry; exact PySem.EqNone.ne_none_str (bR I q (by simp))
  | _=>exact absurd (show false=true from hs) Bool.false_ne_true
 | bl i =>
  cases rx
  cases y with
  | non=>cases ry; exact PySem.EqNone.ne_bool_none (bR I q (by simp))
  | bl j=>cases ry; exact ne_bool (bR I q (congrArg not oZ))
  | str j=>obtain ⟨t',rfl⟩:=ry; exact PySem.EqMixed.ne_bool_str (bR I q (by simp))
  | _=>exact absurd (show false=true from hs) Bool.false_ne_true
 | int i =>
  obtain ⟨t,rfl⟩:=rx
  cases y with
  | non=>cases ry; exact PySem.EqNone.ne_int_none (bR I q (by simp))
  | int j=>obtain ⟨t',rfl⟩:=ry; exact ne_int (bR I q (congrArg not i9))
  | str j=>obtain ⟨t',rfl⟩:=ry; exact PySem.EqMixed.ne_int_str (bR I q (by simp))
  | _=>exact absurd (show false=true from hs) Bool.false_ne_true
 | str i =>
  obtain ⟨t,rfl⟩:=rx
  cases y with
  | non=>cases ry; exact PySem.EqNone.ne_str_none (bR I q (by simp))
  | bl j=>cases ry; exact PySem.EqMixed.ne_str_bool (bR I q (by simp))
  | int j=>obtain ⟨t',rfl⟩:=ry; exact PySem.EqMixed.ne_str_int (bR I q (by simp))
  | str j=>obtain ⟨t',rfl⟩:=ry; exact ne_str (bR I q (congrArg not oS))
  | _=>exact absurd (show false=true from hs) Bool.false_ne_true
 | byt i =>
  obtain ⟨t,rfl⟩:=rx
  cases y with
  | byt j=>obtain ⟨t',rfl⟩:=ry; exact PySem.W.ne_bytes (bR I q (congrArg not rG))
  | _=>exact absurd (show false=true from hs) Bool.false_ne_true
 | _=>cases y <;> exact absurd (show false=true from hs) Bool.false_ne_true
theorem sP:OpR X (compareOp .Lt) (rI0 fun i j=>.bl (decide (i < j))):=gU fun _ _ _ _ _ _ _ q=>lt_int q
theorem wF:OpR X (compareOp .LtE) (rI0 fun i j=>.bl (decide (i<=j))):=gU fun _ _ _ _ _ _ _ q=>le_int q
theorem uT:OpR X (compareOp .Gt) (rI0 fun i j=>.bl (decide (j < i))):=gU fun _ _ _ _ _ _ _ q=>gt_int q
theorem xo:OpR X (compareOp .GtE) (rI0 fun i j=>.bl (decide (j<=i))):=gU fun _ _ _ _ _ _ _ q=>ge_int q
theorem wZ {op:CmpOp} {r:R2} (ho:OpR X (compareOp op) r) (ha:PE X a ta) (hb:PE X b tb) (hm:behindInMarks op b=false):PE X (.Compare a [op] [b] pos) (tOp r ta tb):=by
 intro pins s σ H Q I h
 exact wpAny_Compare1 (jW ha hb I h fun v u s2 x y H2 I2 rx ry q=>ho pins s2 σ H2 x y v u Q I2 rx ry q) hm
noncomputable def n8 (t:TE):TT:=fun σ H Q=>t σ H fun x H'=>∃ k,x=.bl k/\Q k H'
theorem xF {op:CmpOp} {r:R2} (ho:OpR X (compareOp op) r) (ha:PE X a ta) (hb:PE X b tb) (hm:behindInMarks op b=false):PT X (.Compare a [op] [b] pos) (n8 (tOp r ta tb)):=by
 intro pins s σ H Q I h
 refine wpAny_isTrue_Compare1 (thn (ha pins s σ H _ I h) fun v s1 ⟨x,H1,I1,r1,q1⟩=>thn (hb pins s1 σ H1 _ I1 q1) fun u s2 ⟨y,H2,I2,r2,q2⟩ =>
  thn (ho pins s2 σ H2 x y v u _ I2 r1 r2 q2) fun c s3 ⟨z,H3,I3,r3,k,e,q3⟩=>?_) hm
 subst e
 cases r3
 exact wpAny_truthy_bool ⟨H3,I3,q3⟩
noncomputable def qC (r r':R2) (ta tb tc:TE):TE:=fun σ H Q=>ta σ H fun x H1=>tb σ H1 fun y H2=>r x y H2 fun z H3=>∃ k,z=.bl k /\
 (if k=true then tc σ H3 fun w' H4=>r' y w' H4 Q else Q (.bl false) H3)
theorem Af {op op':CmpOp} {r r':R2} (ho:OpR X (compareOp op) r) (ho':OpR X (compareOp op') r') (ha:PE X a ta) (hb:PE X b tb) (hc:PE X c tc)
  (hm:lastMarks [op,op'] [b,c]=false:=by with_unfolding_all rfl):PE X (.Compare a [op,op'] [b,c] pos) (qC r r' ta tb tc):=by
 intro pins s σ H Q I h
 refine Compare_chain (thn (ha pins s σ H _ I h) fun v s1 ⟨x,H1,I1,r1,q1⟩=>chain_link (thn (hb pins s1 σ H1 _ I1 q1) fun u s2 ⟨y,H2,I2,r2,q2⟩ =>
  thn (ho pins s2 σ H2 x y v u _ I2 r1 r2 q2) fun d s3 ⟨z,H3,I3,r3,k,e,q3⟩=>?_)) hm
 subst e
 cases r3
 refine wpAny_truthy_bool ?_
 cases k with
 | false=>exact ite_ff ⟨.bl false,H3,I3,rfl,q3⟩
 | true=>exact ite_tt (chain_last (thn (hc pins s3 σ H3 _ I3 q3) fun w' s4 ⟨z',H4,I4,r4,q4⟩=>ho' pins s4 σ H4 y z' u w' Q I4 r2 r4 q4))
theorem AM {op op':CmpOp} {r r':R2} (ho:OpR X (compareOp op) r) (ho':OpR X (compareOp op') r') (ha:PE X a ta) (hb:PE X b tb) (hc:PE X c tc)
  (hm:lastMarks [op,op'] [b,c]=false:=by with_unfolding_all rfl):PT X (.Compare a [op,op'] [b,c] pos) (n8 (qC r r' ta tb tc)):=by
 intro pins s σ H Q I h
 refine isTrue_chain (thn (ha pins s σ H _ I h) fun v s1 ⟨x,H1,I1,r1,q1⟩=>test_link (thn (hb pins s1 σ H1 _ I1 q1) fun u s2 ⟨y,H2,I2,r2,q2⟩ =>
  thn (ho pins s2 σ H2 x y v u _ I2 r1 r2 q2) fun d s3 ⟨z,H3,I3,r3,k,e,q3⟩=>?_)) hm
 subst e
 cases r3
 refine wpAny_truthy_bool ?_
 cases k with
 | false =>
  obtain ⟨k',e',q'⟩:=q3
  cases e'
  exact ite_ff ⟨H3,I3,q'⟩
 | true =>
  refine ite_tt (test_last (thn (hc pins s3 σ H3 _ I3 q3) fun w' s4 ⟨z',H4,I4,r4,q4⟩=>thn (ho' pins s4 σ H4 y z' u w' _ I4 r2 r4 q4) fun d' s5 ⟨z2,H5,I5,r5,k2,e2,q5⟩=>?_))
  subst e2
  cases r5
  exact wpAny_truthy_bool ⟨H5,I5,q5⟩
noncomputable def tN (K:PySem.W.Frag) (x:V) (H:Hp) (k:Bool):Prop :=
 match x with
 | .non=>k=false
 | .bl b=>k=b
 | .int i=>k=(i != 0)
 | .str y=>y.length<=sizeLine/\k=((y.length:Int) != 0)
 | .byt y=>y.size<=sizeLine/\k=((y.size:Int) != 0)
 | .ref p=>(∃ xs,SqL K H p xs/\k=!xs.isEmpty)\/(∃ xs,SqT K H p xs/\k=!xs.isEmpty)\/∃ kvs,H p=some (.dK kvs)/\k=!kvs.isEmpty
 | _=>False
theorem vI {κ:Type} {kvs:List (κ × V)} {vs:List (κ × Value)} (r:KV kvs vs):(!vs.isEmpty)=!kvs.isEmpty:=by
 cases r <;> rfl
theorem mX {xs:List V} {its:List Value} (r:Vals xs its):(!its.toArray.isEmpty)=!xs.isEmpty:=by
 cases r <;> simp
theorem f6:(sizeLine:Nat) < 2 ^ 63:=by rw [sizeLine_eq]; decide
theorem z0:qm X (fun x H Q=>∃ k,tN X.K x H k/\Q k H):=by
 intro pins s σ H x v Q I rx h
 obtain ⟨k,e,q⟩:=h
 have hl:=f6
 have hs:sizeLine=16777216:=sizeLine_eq
 cases x with
 | non =>
  cases rx
  have e':k=false:=e
  subst e'
  exact truthy_none ⟨H,I,q⟩
 | bl b =>
  cases rx
  have e':k=b:=e
  subst e'
  exact wpAny_truthy_bool ⟨H,I,q⟩
 | int i =>
  obtain ⟨t,rfl⟩:=rx
  have e':k=(i != 0):=e
  subst e'
  exact PySem.P.truthy_int ⟨H,I,q⟩
 | str y =>
  obtain ⟨t,rfl⟩:=rx
  obtain ⟨hy,e'⟩:y.length<=sizeLine/\k=((y.length:Int) != 0):=e
  subst e'
  exact PySem.P.truthy_str (by omega) ⟨H,I.tok _,q⟩
 | byt y =>
  obtain ⟨t,rfl⟩:=rx
  obtain ⟨hy,e'⟩:y.size<=sizeLine/\k=((y.size:Int) != 0):=e
  subst e'
  exact PySem.W.truthy_bytes (by omega) ⟨H,I.tok _,q⟩
 | ref p =>
  cases rx
  have e':(∃ xs,SqL X.K H p xs/\k=!xs.isEmpty)\/(∃ xs,SqT X.K H p xs/\k=!xs.isEmpty)\/∃ kvs,H p=some (.dK kvs)/\k=!kvs.isEmpty:=e
  rcases e' with ⟨xs,hx,e'⟩|⟨xs,hx,e'⟩|⟨kvs,hx,e'⟩
  ·subst e'
   obtain ⟨its,r,pl,hz⟩:=I.list hx
   have hlen:=r.length
   exact wpAny_truthy_list pl.isList (by simp only [List.size_toArray]; omega) ⟨H,I.tok _,by rw [mX r]; exact q⟩
  ·subst e'
   obtain ⟨its,r,pl,hz⟩:=I.tuple hx
   have hlen:=r.length
   exact truthy_tuple pl (by simp only [List.size_toArray]; omega) ⟨H,I.tok _,by rw [mX r]; exact q⟩
  ·subst e'
   obtain ⟨hz,hS,vs,r,m⟩:kvs.length<=sizeLine/\(p==sysModules)=false/\∃ vs,KV kvs vs/\s.heap.DictOf (bZ X.prog X.w) p vs:=I.hok p _ hx
   have hlen:kvs.length=vs.length:=Paired.length r
   exact wpAny_truthy_dict hS m (by omega) ⟨H,I.tok _,by rw [vI r]; exact q⟩
 | _=>exact (show False from e).elim
theorem sQ:OpR X (binaryOp .Add) (fun x y H Q=>∃ i j,x=.str i/\y=.str j/\i.length+j.length<=sizeLine/\Q (.str (i++j)) H):=by
 intro pins s σ H x y v u Q I rx ry h
 obtain ⟨i,j,rfl,rfl,hz,q⟩:=h
 obtain ⟨t,rfl⟩:=rx
 obtain ⟨t',rfl⟩:=ry
 exact add_str (fun t' tk=>⟨.str (i++j),H,I.tok _,⟨_,rfl⟩,q⟩) hz
theorem vals1 {x:V} {us:List Value} (r:Vals [x] us):∃ u,us=[u]/\RelV x u:=by
 cases r with
 | cons r1 r2=>cases r2; exact ⟨_,rfl,r1⟩
theorem vals2 {x y:V} {us:List Value} (r:Vals [x,y] us):∃ u w',us=[u,w']/\RelV x u/\RelV y w':=by
 cases r with
 | cons r1 r2 =>
  cases r2 with
  | cons r3 r4=>cases r4; exact ⟨_,_,rfl,r1,r3⟩
theorem Cr (hc:X.calm=true):bB X (.builtin "max") (fun xs H Q=>∃ i j,xs=[.int i,.int j]/\Q (.int (if j > i then j else i)) H):=by
 intro pins s σ H xs us Q I r h
 obtain ⟨i,j,rfl,q⟩:=h
 obtain ⟨u,w',rfl,⟨t,rfl⟩,⟨t',rfl⟩⟩:=vals2 r
 refine max_two_ints (I.ok.hd hc) fun h' tk k=>⟨_,H,I.kept k,?_,q⟩
 by_cases hj:j > i
 ·rw [if_pos hj,if_pos hj]; exact ⟨_,rfl⟩
 ·rw [if_neg hj,if_neg hj]; exact ⟨_,rfl⟩
theorem B4 (hc:X.calm=true):bB X (.builtin "min") (fun xs H Q=>∃ i j,xs=[.int i,.int j]/\Q (.int (if j < i then j else i)) H):=by
 intro pins s σ H xs us Q I r h
 obtain ⟨i,j,rfl,q⟩:=h
 obtain ⟨u,w',rfl,⟨t,rfl⟩,⟨t',rfl⟩⟩:=vals2 r
 refine min_two_ints (I.ok.hd hc) fun h' tk k=>⟨_,H,I.kept k,?_,q⟩
 by_cases hj:j < i
 ·rw [if_pos hj,if_pos hj]; exact ⟨_,rfl⟩
 ·rw [if_neg hj,if_neg hj]; exact ⟨_,rfl⟩
theorem p9:bB X (.type "int") (fun xs H Q=>(∃ i,xs=[.int i]/\Q (.int i) H)\/∃ k,xs=[.bl k]/\Q (.int (if k then 1 else 0)) H):=by
 intro pins s σ H xs us Q I r h
 rcases h with ⟨i,rfl,q⟩|⟨k,rfl,q⟩
 ·obtain ⟨u,rfl,t,rfl⟩:=vals1 r
  exact call_int_int ⟨.int i,H,I,⟨_,rfl⟩,q⟩
 ·obtain ⟨u,rfl,r1⟩:=vals1 r
  cases r1
  exact call_int_bool ⟨.int (if k then 1 else 0),H,I.tok _,⟨_,rfl⟩,q⟩
end
end L2
namespace L2
open PySem PySem.Spec PyProof.Rows
structure CW (h:Heap) (x dx C:Addr) (mA:Str->Option Value):Prop where
 obj:h.get? x=some (PySem.W.instObj C dx)
 ns:h.Ns1 dx mA
 ne:dx≠x
section
variable {prog:Program} {w:World} {A:Around} {E:Value->Shared->Prop} {s:Shared} {K:PySem.W.Frag} {x dx C f:Addr} {mA:Str->Option Value} {name:Str} {v:Value}
end
theorem c5.some_of {v:V} {o:Option Value} (r:c5 (some v) o):∃ u,o=some u/\RelV v u:=by
 cases o with
 | none=>exact (show False from r).elim
 | some u=>exact ⟨u,rfl,r⟩
section
variable {P:Program} {w:World} {H H':Hp} {h h':Heap} {a C dx:Addr} {fs fs':List (Str × V)}
end
structure Cls (K:PySem.W.Frag) (C:Addr):Prop where
 pg:PySem.W.plainGet K C Str.empty=true
 hd:PySem.W.hasDictIn K C=true
 po:PySem.W.plainOver K C=true
 sa:PySem.W.findIn K (.ref C) "__setattr__" = some (some (.builtin "object.__setattr__"))
structure Con (K:PySem.W.Frag) (C:Addr) (f:Str) (v:V) (u:Value):Prop where
 at_:PySem.W.findIn K (.ref C) f=some (some u)
 rel:RelV v u
 get:PySem.W.specialIn K u "__get__" = some none
 cp:PySem.W.copiedNames.contains f=false
section
variable {X:Cx} {pins:List (Addr × Obj)} {σ:St} {H:Hp} {s:Shared} {a C dx:Addr} {fs:List (Str × V)} {f:Str} {v:V} {A:Around} {E:Value->Shared->Prop}
end
section
variable {X:Cx} {o e value:Expr} {f:Str} {pos pos' tpos:Pos} {ta tv:TE}
end
section
variable {X:Cx} {pins:List (Addr × Obj)} {σ:St} {H:Hp} {s:Shared} {A:Around} {E:Value->Shared->Prop} {Q:Value->Shared->Prop} {c:Value} {b:Bool}
inductive cN (K:PySem.W.Frag) (H:Hp):V->Value->Prop where
 | non:cN K H .non (.type "NoneType")
 | bl (x:Bool):cN K H (.bl x) (.type "bool")
 | int (i:Int):cN K H (.int i) (.type "int")
 | str (x:Str):cN K H (.str x) (.type "str")
 | flt (x:UInt64):cN K H (.flt x) (.type "float")
 | lst {a:Addr} {xs:List V} (e:H a=some (.lst xs)):cN K H (.ref a) (.type "list")
 | frz {a:Addr} {o:Obj} {xs:List V} (e:H a=some (.frz o (.lst xs))):cN K H (.ref a) (.type "list")
 | tup {a:Addr} {xs:List V} (e:H a=some (.tup xs)):cN K H (.ref a) (.type "tuple")
 | dK {a:Addr} {kvs:List (Key × V)} (e:H a=some (.dK kvs)):cN K H (.ref a) (.type "dict")
 | dT {a:Addr} {kvs:List (List Key × V)} (e:H a=some (.dT kvs)):cN K H (.ref a) (.type "dict")
 | ins {a C dx:Addr} {fs:List (Str × V)} (e:H a=some (.ins C dx fs)) (cl:Cls K C) (ha:PySem.W.findIn K (.ref C) "__class__" = some (some (.builtin "object.__class__")))
   (hn:PySem.W.specialIn K (.builtin "object.__class__") "__get__" = some (some (.builtin "getset_descriptor.__get__"))) (htk:PySem.W.takesIn K (.builtin "object.__class__")=some true)
   (hm:PySem.W.mroIn K C (.type "object")=some true):cN K H (.ref a) (.ref C)
end
end L2
namespace L2
open PySem PySem.Spec PyProof.Rows
structure br (k:Nat) (A:Around):Prop where
 hd:A.handled=none
 dp:A.depth+3 * k+5 < recursionLimit
 un:A.units+16 * k+200 < cLine
theorem br.deeper {k:Nat} {A:Around} (r:br (k+1) A) (env:Env):br k (A.deeper env) :=
 ⟨r.hd,by have:=r.dp; show A.depth+1+3 * k+5 < _; omega,by have:=r.un; show A.units+3+16 * k+200 < _; omega⟩
theorem br.depth {k:Nat} {A:Around} (r:br k A):A.depth < recursionLimit:=by have:=r.dp; omega
theorem br.units {k:Nat} {A:Around} (r:br k A):A.units+64 < cLine:=by have:=r.un; omega
noncomputable def qg:TA:=fun _ H Q=>Q [] H
noncomputable def xO (ta:TE) (tr:TA):TA:=fun σ H Q=>ta σ H fun x H1=>tr σ H1 fun xs H2=>Q (x::xs) H2
section
variable {X:Cx} {e:Expr} {es:List Expr} {te:TE} {t:TA} {pos:Pos}
theorem gb:PA X [] qg:=fun _ _ _ _ H Q I h=>Calls.spliced_nil ⟨[],H,I,.nil,h⟩
theorem fy (ha:PE X e te) (hr:PA X es t) (hs:starEach (e::es) X.env=(false,eval e X.env)::starEach es X.env:=by rfl):PA X (e::es) (xO te t):=by
 intro pos pins s σ H Q I h
 rw [hs]
 show wpAny _ _ (spliced ((false,eval e X.env)::backTo pos (starEach es X.env))) _ _ s
 refine Calls.spliced_cons (thn (ha pins s σ H _ I h) fun u s1 ⟨x,H1,I1,r1,q1⟩=>?_)
 exact thn (hr pos pins s1 σ H1 _ I1 q1) fun us s2 ⟨xs,H2,I2,r2,q2⟩=>⟨x::xs,H2,I2,.cons r1 r2,q2⟩
noncomputable def By (t:TA):TE:=fun σ H Q=>t σ H fun xs H1=>xs.length<=sizeLine/\∀ p,H1 p=none->Q (.ref p) (upd H1 p (.tup xs))
noncomputable def wU (t:TA):TE:=fun σ H Q=>t σ H fun xs H1=>xs.length<=sizeLine/\∀ p,H1 p=none->Q (.ref p) (upd H1 p (.lst xs))
theorem j7 {x1} (h:PA X es t):PE X (.Tuple es x1 pos) (By t):=by
 intro pins s σ H Q I hq
 refine wpAny_Tuple_spliced (thn (h pos pins s σ H _ I hq) fun us s1 ⟨xs,H1,I1,r,z,q⟩=>⟨by rw [<- r.length]; exact z,?_⟩)
 have hf:H1 s1.heap.objs.size=none:=I1.hok.fresh (Nat.le_refl _)
 refine ⟨.ref s1.heap.objs.size,upd H1 s1.heap.objs.size (.tup xs),I1.laid (t':=s1.toks) (fun b u e=>Heap.get?_push_of_some _ e) (Nat.le_refl _) ?_,rfl,q _ hf⟩
 exact ⟨z,us,r,⟨_,Heap.get?_push_size _ rfl,rfl,_,rfl⟩⟩
theorem ud (h:PA X es t):PE X (.List es pos) (wU t):=by
 intro pins s σ H Q I hq
 refine wpAny_List_spliced (thn (h pos pins s σ H _ I hq) fun us s1 ⟨xs,H1,I1,r,z,q⟩=>⟨by rw [<- r.length]; exact z,?_⟩)
 have hf:H1 s1.heap.objs.size=none:=I1.hok.fresh (Nat.le_refl _)
 refine ⟨.ref s1.heap.objs.size,upd H1 s1.heap.objs.size (.lst xs),I1.laid (t':=s1.toks) (fun b u e=>Heap.get?_push_of_some _ e) (Nat.le_refl _) ?_,rfl,q _ hf⟩
 exact ⟨z,us,0,r,Heap.get?_push_size _ rfl⟩
end
abbrev Sp:=List V->Hp->VK->XK->Prop
abbrev CXT:=List Env->Hp->Shared->XK->Value->Shared->Prop
structure g9 (P:Program) (w:World) (K:PySem.W.Frag) (mg:Str->Option Value) (base:Heap) (A:Around) (outer:List Env) (s:Shared) (H:Hp):Prop where
 frames:A.frames=some outer
 mod:Mod K mg base
 bs:∀ b o,base.get? b=some o->s.heap.get? b=some o/\H b=none
 bsz:base.objs.size<=s.heap.objs.size
 cJ:s.heap.FunFrames base outer
 frf:∀ b∈frs outer,H b=none
 hok:HOk P w H s.heap
 bare:AllBare s.gens
noncomputable def CE (outer:List Env) (P:Program) (w:World) (H:Hp) (s:Shared) (Q:VK) (u:Value) (s':Shared):Prop :=
 ∃ v H',s'.os=s.os/\AllBare s'.gens/\Un (frs outer) [] H H' s.heap s'.heap/\HOk P w H' s'.heap/\RelV v u/\Q v H'
noncomputable def CR (CX:CXT) (outer:List Env) (P:Program) (w:World) (H:Hp) (s:Shared) (Q:VK) (E:XK) (r:Result) (s':Shared):Prop :=
 match r with
 | .ok (.ret u)=>CE outer P w H s Q u s'
 | .ok _=>False
 | .error e=>CX outer H s E e s'
structure b_ (P:Program) (w:World) (K:PySem.W.Frag) (mg:Str->Option Value) (base:Heap) (CX:CXT) (k:Nat) (f:Addr) (fd:FuncData) (ps:List Str) (sp:Sp):Prop where
 len:∀ vs H Q E,sp vs H Q E->vs.length=ps.length
 run:∀ (A:Around) (outer:List Env) (s:Shared) (H:Hp) (args:Args) (us:List Value) (vs:List V) (Q:VK) (E:XK),br k A->g9 P w K mg base A outer s H->BindsTo s fd args (ps.zip us)->Vals vs us->sp vs H Q E ->
  codeAny (model P w) A (.call (.ref f) args) (CR CX outer P w H s Q E) s
section
variable {X:Cx} {pins:List (Addr × Obj)} {σ:St} {H:Hp} {s s':Shared}
theorem Inv.lU (I:Inv X pins σ H s):g9 X.prog X.w X.K X.mg X.base X.A X.stack s H :=
 ⟨I.ok.frames,I.ok.mod,I.bs,Nat.le_trans I.ok.bsz I.sz,I.stack,I.jD,I.hok,I.bare⟩
theorem Inv.after {Q:VK} {u:Value} (I:Inv X pins σ H s) (h:CE X.stack X.prog X.w H s Q u s'):EP X pins σ Q u s':=by
 obtain ⟨v,H',os,bare,un,hok,r,q⟩:=h
 obtain ⟨hh,g,d,t,os'⟩:=s'
 obtain rfl:os'=s.os:=os
 exact ⟨v,H',I.call (h':=hh) (g':=g) (d':=d) (t':=t) (ch:=[]) un hok bare (fun b z=>absurd z (by simp)),r,q⟩
end
noncomputable def jF (sp:Sp) (dvs:List V) (E:XK) (t:TA):TE:=fun σ H Q=>t σ H fun vs H1=>sp (vs++dvs) H1 Q E
noncomputable def Binds (K:PySem.W.Frag) (fd:FuncData) (ps:List Str) (ds:List Value):Prop :=
 ∀ (s:Shared) (us:List Value),K.In s.heap->(us++ds).length=ps.length->BindsTo s fd ⟨us,[]⟩ (ps.zip (us++ds))
theorem Binds.all {K:PySem.W.Frag} {fd:FuncData} {ps:List Str} (h:∀ us:List Value,us.length=ps.length->bindArgs fd ⟨us,[]⟩=pure (ps.zip us)):Binds K fd ps []:=fun s us _ hl=>by
 rw [List.append_nil] at hl ⊢
 exact .of_eq (h us hl)
noncomputable def Passes (CX:CXT) (X:Cx) (E:XK):Prop:=∀ (pins:List (Addr × Obj)) (σ:St) (H:Hp) (s:Shared) (e:Value) (s':Shared),Inv X pins σ H s->CX X.stack H s E e s'->X.xe e s'
section
variable {X:Cx} {CX:CXT} {k:Nat} {f C:Addr} {fd:FuncData} {ps:List Str} {sp:Sp} {dvs:List V} {ds:List Value} {E:XK} {x m:Str} {p pos apos:Pos} {e o:Expr} {es:List Expr} {ta:TE} {t:TA}
theorem oQ {pins:List (Addr × Obj)} {σ:St} {H:Hp} {s:Shared} {Q:VK} {us:List Value} {vs:List V} (F:b_ X.prog X.w X.K X.mg X.base CX k f fd ps sp) (hr:br k X.A) (hb:Binds X.K fd ps ds) (hd:Vals dvs ds) (hx:Passes CX X E)
  (I:Inv X pins σ H s) (r:Vals vs us) (h:sp (vs++dvs) H Q E):wpAny (model X.prog X.w) X.A (call (.ref f) us) (EP X pins σ Q) X.xe s:=by
 have r2:Vals (vs++dvs) (us++ds):=r.append hd
 have hl:(us++ds).length=ps.length:=by rw [<- r2.length]; exact F.len _ _ _ _ h
 refine wpAny_call (codeAny_mono (F.run X.A X.stack s H ⟨us,[]⟩ (us++ds) (vs++dvs) Q E hr I.lU (hb s us I.kIn hl) r2 h) fun r s' hq=>?_)
 cases r with
 | error e=>exact hx pins σ H s e s' I hq
 | ok fl =>
  cases fl with
  | ret u=>exact I.after hq
  | next=>exact False.elim hq
  | brk=>exact False.elim hq
  | cont=>exact False.elim hq
theorem Br (F:b_ X.prog X.w X.K X.mg X.base CX k f fd ps sp) (hr:br k X.A) (hg:Gl X x) (hm:X.mg x=some (.ref f)) (hk:PySem.W.keepIn X.K (.ref f)=true) (hb:Binds X.K fd ps ds) (hd:Vals dvs ds) (hx:Passes CX X E)
  (ha:PA X (e::es) t) (hdb:(x==("__debug__" : Str))=false:=by decide) (he:starEach (e::es) X.env=(false,eval e X.env)::starEach es X.env:=by rfl) (hpl:(backTo pos (starEach es X.env)).any (·.1)=false:=by rfl) :
  PE X (.Call (.Name x p) (e::es) [] pos) (jF sp dvs E t):=by
 intro pins s σ H Q I h
 refine wpAny_Call_Name_kw (e_ I hg hm ?_ hdb)
 refine PySem.W.callWith_K (h₀:=X.base) I.ok.mod.kin hk (thn (ha pos pins s σ H _ I h) fun us s1 ⟨vs,H1,I1,r,q⟩=>⟨I1.kIn,?_⟩) he hpl
 exact oQ F hr hb hd hx I1 r q
theorem uU (F:b_ X.prog X.w X.K X.mg X.base CX k f fd ps sp) (hr:br k X.A) (hg:Gl X x) (hm:X.mg x=some (.ref f)) (hk:PySem.W.keepIn X.K (.ref f)=true) (hb:Binds X.K fd ps ds) (hd:Vals dvs ds) (hx:Passes CX X E)
  (hdb:(x==("__debug__" : Str))=false:=by decide):PE X (.Call (.Name x p) [] [] pos) (jF sp dvs E qg):=by
 intro pins s σ H Q I h
 refine wpAny_Call_Name_kw (e_ I hg hm ?_ hdb)
 exact PySem.W.callWith_K0 I.kIn hk (oQ (us:=[]) F hr hb hd hx I .nil h)
structure Mk (K:PySem.W.Frag) (C f:Addr):Prop where
 makes:PySem.W.makesIn K C=true
 init:PySem.W.findIn K (.ref C) "__init__" = some (some (.ref f))
 fn:PySem.W.isFn K (.ref f)=true
 kp:PySem.W.keepIn K (.ref C)=true
end
section
variable {X:Cx} {CX:CXT} {k:Nat} {f C:Addr} {fd:FuncData} {ps ks:List Str} {sp:Sp} {E:XK} {x m:Str} {p pos apos kpos:Pos} {e o:Expr} {es:List Expr} {kws:List Keyword} {te ta:TE} {t tk:TA} {nm:Option Str}
structure CG (K:PySem.W.Frag) (fd:FuncData) (ps ks:List Str) (g:List Value->List Value->List Value) (gV:List V->List V->List V):Prop where
 to:∀ (s:Shared) (us ws:List Value),K.In s.heap->(g us ws).length=ps.length->BindsTo s fd ⟨us,ks.zip ws⟩ (ps.zip (g us ws))
 rel:∀ {vs:List V} {us:List Value} {zs:List V} {ws:List Value},Vals vs us->Vals zs ws->Vals (gV vs zs) (g us ws)
variable {g:List Value->List Value->List Value} {gV:List V->List V->List V}
end
structure iR (N P:List Str) (sc:Scope):Prop where
 kind:sc.kind=.function
 co:sc.isCoroutine=false
 gen:sc.isGenerator=false
 nd:N.Nodup
 pre:N.take P.length=P
 par:∀ x∈P,sc.names.lookup x=some .local\/sc.names.lookup x=some .cell
 nofree:∀ y∈sc.names,y.2≠.free
theorem nS {kindOf:Str->Option NameKind} {x:Str}:∀ {binds:List (Str × Value)} {m:Str->Option Value},(∀ v,(x,v) ∉ binds)->bindL kindOf binds m x=m x
 | [],_,_=>rfl
 | (n,v)::r,m,h=>by
  unfold bindL
  rw [nS fun w hw=>h w (List.mem_cons_of_mem _ hw)]
  split
  ·have:x≠n:=by rintro rfl; exact h v List.mem_cons_self
   simp [this]
  ·rfl
theorem qz {kindOf:Str->Option NameKind} {x:Str}:∀ {binds:List (Str × Value)} {m:Str->Option Value},(∀ v,(x,v) ∉ binds)->bindC kindOf binds m x=m x
 | [],_,_=>rfl
 | (n,v)::r,m,h=>by
  unfold bindC
  rw [qz fun w hw=>h w (List.mem_cons_of_mem _ hw)]
  split
  ·rfl
  ·have:x≠n:=by rintro rfl; exact h v List.mem_cons_self
   simp [this]
theorem m5 {kindOf:Str->Option NameKind} {x:Str} {v:Value}:∀ {P:List Str} {vs:List Value} {i:Nat} {m:Str->Option Value},P.Nodup->P[i]?=some x->vs[i]?=some v->kindOf x=some .local ->
  bindL kindOf (P.zip vs) m x=some v
 | [],_,_,_,_,h,_,_=>by simp at h
 | _::_,[],_,_,_,_,h,_=>by simp at h
 | p::P,w::vs,0,m,nd,h1,h2,hk=>by
  simp at h1 h2; subst h1; subst h2
  show bindL kindOf ((p,w)::P.zip vs) m p=_
  unfold bindL
  rw [nS fun v hv=>(List.nodup_cons.mp nd).1 (List.of_mem_zip hv).1,if_pos hk]
  simp
 | p::P,w::vs,i+1,m,nd,h1,h2,hk=>by
  show bindL kindOf ((p,w)::P.zip vs) m x=_
  unfold bindL
  exact m5 (i:=i) (List.nodup_cons.mp nd).2 (by simpa using h1) (by simpa using h2) hk
theorem qf {kindOf:Str->Option NameKind} {x:Str} {v:Value}:∀ {P:List Str} {vs:List Value} {i:Nat} {m:Str->Option Value},P.Nodup->P[i]?=some x->vs[i]?=some v->kindOf x≠some .local ->
  bindC kindOf (P.zip vs) m x=some v
 | [],_,_,_,_,h,_,_=>by simp at h
 | _::_,[],_,_,_,_,h,_=>by simp at h
 | p::P,w::vs,0,m,nd,h1,h2,hk=>by
  simp at h1 h2; subst h1; subst h2
  show bindC kindOf ((p,w)::P.zip vs) m p=_
  unfold bindC
  rw [qz fun v hv=>(List.nodup_cons.mp nd).1 (List.of_mem_zip hv).1,if_neg hk]
  simp
 | p::P,w::vs,i+1,m,nd,h1,h2,hk=>by
  show bindC kindOf ((p,w)::P.zip vs) m x=_
  unfold bindC
  exact qf (i:=i) (List.nodup_cons.mp nd).2 (by simpa using h1) (by simpa using h2) hk
noncomputable def start (N:List Str) (vs:List V):St:=vs.map some++List.replicate (N.length - vs.length) none
noncomputable def cD (CX:CXT) (P:Program) (w:World) (K:PySem.W.Frag) (mg:Str->Option Value) (base:Heap) (N:List Str) (qual:Str) (scope:Scope) (f:Addr) (cd:Value) (A:Around) (outer:List Env) (s:Shared) (H:Hp) (E:XK):Cx where
 prog:=P
 w:=w
 K:=K
 mg:=mg
 base:=base
 A:=A.deeper (envOfC qual scope s.heap.objs.size f cd)
 N:=N
 s₀:=s
 H₀:=H
 env:=envOfC qual scope s.heap.objs.size f cd
 outer:=outer
 stack:=envOfC qual scope s.heap.objs.size f cd::outer
 ex:=[]
 calm:=true
 fn:=fun _=>true
 pn:=[]
 xe:=fun e s'=>wpAny (model P w) (A.deeper (envOfC qual scope s.heap.objs.size f cd)) (leaving (envOfC qual scope s.heap.objs.size f cd) e) (fun _ s''=>CX outer H s E e s'') (fun e' s''=>CX outer H s E e' s'') s'
theorem jk {sc:Scope} {n:Nat} {x:Str} (h:sc.names.lookup x=some .cell):∃ c,(cellsFrom n sc.names []).lookup x=some c:=by
 have q:=PySem.W.cellsFrom_some sc.names n [] (.inl h)
 exact Option.isSome_iff_exists.mp q
theorem u0 {CX:CXT} {P:Program} {w:World} {K:PySem.W.Frag} {mg:Str->Option Value} {base:Heap} {N ps:List Str} {qual:Str} {scope:Scope} {f:Addr} {cd:Value} {A:Around} {outer:List Env} {s s1:Shared} {H:Hp} {E:XK} {us:List Value} {vs:List V}
  (S:iR N ps scope) (hd:A.handled=none) (e0:g9 P w K mg base A outer s H) (hl:vs.length=ps.length) (r:Vals vs us)
  (x:InCallC s s.heap.objs.size (bindL (envOfC qual scope s.heap.objs.size f cd).kindOf (ps.zip us) fun _=>none) (cellsFrom (s.heap.objs.size+1) scope.names []) (bindC (envOfC qual scope s.heap.objs.size f cd).kindOf (ps.zip us) fun _=>none) s1) :
  Inv (cD CX P w K mg base N qual scope f cd A outer s H E) [] (start N vs) H s1:=by
 have hpl:ps.length<=N.length:=by have:=congrArg List.length S.pre; rw [List.length_take] at this; omega
 obtain ⟨h1,tk,rfl,hk⟩:=x.done
 have noA:∀ b:Addr,b ∉ (cD CX P w K mg base N qual scope f cd A outer s H E).ex:=fun b z=>absurd (show b∈([]:List Addr) from z) (by simp)
 refine ⟨⟨e0.mod,S.kind,rfl,rfl,Nat.le_refl _,fun y z c h1 h2=>?_,fun y hy=>?_,fun y c _ h=>?_,fun _=>hd,Around.frames_deeper e0.frames,.inr ⟨rfl,rfl⟩,fun b z=>absurd z (noA b),e0.bs,e0.bsz,fun b _ _=>noA b,fun b z=>absurd z (noA b),e0.cJ,e0.frf⟩,
  rfl,e0.bare,Un.kept hk,⟨_,x.toInCall.ns,fun i y v h1 h2 h3=>?_⟩,fun y c h=>⟨_,x.cell y c h⟩,e0.hok.fresh (Nat.le_refl _),fun y c h=>?_,fun p hp=>absurd (show p∈([]:List (Addr × Obj)) from hp) (by simp),e0.hok.kept hk,?_⟩
 ·exact name_of_addr x.apart (PySem.mem_of_lookup h1) (PySem.mem_of_lookup h2)
 ·have hy:scope.names.lookup y=some .cell\/scope.names.lookup y=some .free:=hy
  rcases hy with hy|hy
  ·exact jk hy
  ·exact absurd rfl (S.nofree _ (PySem.mem_of_lookup hy))
 ·exact Nat.le_of_lt (x.above y c (PySem.mem_of_lookup h))
 ·have hi:i < vs.length:=by
   unfold start at h2
   by_cases hi:i < vs.length
   ·exact hi
   ·rw [List.getElem?_append_right (by simpa using hi)] at h2
    rw [List.getElem?_replicate] at h2
    split at h2 <;> cases h2
  have ha:vs[i]?=some v:=by
   unfold start at h2
   rw [List.getElem?_append_left (by simpa using hi),List.getElem?_map] at h2
   cases e:vs[i]? with
   | none=>rw [e] at h2; cases h2
   | some a=>rw [e] at h2; cases h2; rfl
  obtain ⟨u,hu,rv⟩:=r.get ha
  have hp:ps[i]?=some y:=by
   rw [<- S.pre,List.getElem?_take_of_lt (by omega)]; exact h1
  have ndP:ps.Nodup:=by rw [<- S.pre]; exact S.nd.sublist (List.take_sublist _ _)
  refine ⟨u,rv,?_⟩
  rcases S.par y (List.mem_of_getElem? hp) with k|k
  ·exact .inl ⟨k,m5 ndP hp hu k⟩
  ·obtain ⟨c,e⟩:=jk (n:=s.heap.objs.size+1) k
   refine .inr ⟨.inl k,c,e,?_⟩
   have q:=x.cell y c e
   rw [qf ndP hp hu (by show scope.names.lookup y≠_; rw [k]; decide)] at q
   exact q
 ·exact e0.hok.fresh (Nat.le_of_lt (x.above y c (PySem.mem_of_lookup h)))
 ·unfold start
  show _=N.length
  rw [List.length_append,List.length_map,List.length_replicate]
  omega
theorem tG {CX:CXT} {P:Program} {w:World} {K:PySem.W.Frag} {mg:Str->Option Value} {base:Heap} {k:Nat} {f:Addr} {name qual:Str} {params:Arguments} {body:List Stmt} {scope:Scope} {dV kV doc pm cdv ct oc:Value} {an od:Option Addr}
  {osl:Array (Option Value)} {N ps:List Str} {sp:Sp} (lk:K.lookup f=some ⟨oc,od,.func (PySem.W.fnOf name qual params body scope dV kV doc pm an cdv ct),osl⟩) (hcd:PySem.W.codeIn K cdv qual=true) (S:iR N ps scope)
  (len:∀ vs H Q E,sp vs H Q E->vs.length=ps.length)
  (hbody:∀ (A:Around) (outer:List Env) (s:Shared) (H:Hp) (vs:List V) (Q:VK) (E:XK),br k (A.deeper (envOfC qual scope s.heap.objs.size f cdv))->sp vs H Q E ->
   ∃ t,PSs (cD CX P w K mg base N qual scope f cdv A outer s H E) body t/\t { nx:=fun _ H'=>Q .non H',rt:=Q } (start N vs) H) :
  b_ P w K mg base CX (k+1) f (PySem.W.fnOf name qual params body scope dV kV doc pm an cdv ct) ps sp:=by
 refine ⟨len,fun A outer s H args us vs Q E hr e0 hb r hsp=>?_⟩
 have hl:=len _ _ _ _ hsp
 have KX:K.In s.heap:=e0.mod.kin.keeps fun b o e=>(e0.bs b o e).1
 have lim:s.heap.NoLimit:=e0.mod.nolimit.keeps fun b o e=>(e0.bs b o e).1
 have hkind:∀ y∈ps.zip us,scope.names.lookup y.1=some .local\/(scope.names.lookup y.1=some .cell/\((cellsFrom (s.heap.objs.size+1) scope.names []).lookup y.1).isSome=true):=fun ⟨n,v⟩ hy=>by
  rcases S.par n (List.of_mem_zip hy).1 with q|q
  ·exact .inl q
  ·exact .inr ⟨q,PySem.W.cellsFrom_some _ _ _ (.inl q)⟩
 refine codeAny_call_function hr.depth (KX _ _ lk) rfl S.co S.gen rfl (PySem.W.codeRec_of KX hcd) (hb _ _ _ _ ?_)
 refine wpAny_newFunctionEnv_cells S.kind hkind fun env he s1 x=>?_
 subst he
 refine ⟨lim.keeps x.toInCall.keep,codeAny_func ?_⟩
 obtain ⟨t,ht,hq⟩:=hbody A outer s H vs Q E (hr.deeper _) hsp
 have I:Inv (cD CX P w K mg base N qual scope f cdv A outer s H E) [] (start N vs) H s1:=u0 S hr.hd e0 hl r x
 refine wpAny_mono (ht [] s1 (start N vs) H _ I hq) (fun fl s' hs=>?_) fun e s' hs=>hs
 have fin:∀ {σ':St} {H':Hp} {v:V} {u:Value},Inv (cD CX P w K mg base N qual scope f cdv A outer s H E) [] σ' H' s'->RelV v u->Q v H'->CE outer P w H s Q u s' :=
  fun {σ' H' v u} J rv q=>⟨v,H',J.os,J.bare,J.base,J.hok,rv,q⟩
 cases fl with
 | ret u =>
  obtain ⟨v,σ',H',J,rv,q⟩:=hs
  exact fin J rv q
 | next =>
  obtain ⟨σ',H',J,q⟩:=hs
  exact fin (v:=V.non) (u:=Value.none) J rfl q
 | brk =>
  obtain ⟨_,_,_,q⟩:=hs
  exact False.elim q
 | cont =>
  obtain ⟨_,_,_,q⟩:=hs
  exact False.elim q
end L2
namespace L2
open PySem PySem.Spec PyProof.Rows
section
variable {X:Cx} {x:Str} {p pos:Pos} {e:Expr} {es:List Expr} {t:TA} {id T:String} {r:List V->Hp->VK->Prop}
noncomputable def tCB (r:List V->Hp->VK->Prop) (t:TA):TE:=fun σ H Q=>t σ H fun vs H1=>r vs H1 Q
theorem oJ (hc:bB X (.builtin id) r) (hg:Gl X x) (hm:X.mg x=none) (hv:bootBuiltins x=some (.builtin id)) (ha:PA X (e::es) t) (hn:x≠"__name__":=by decide) (hdb:(x==("__debug__" : Str))=false:=by decide)
  (he:starEach (e::es) X.env=(false,eval e X.env)::starEach es X.env:=by rfl) (hpl:(backTo pos (starEach es X.env)).any (·.1)=false:=by rfl):PE X (.Call (.Name x p) (e::es) [] pos) (tCB r t):=by
 intro pins s σ H Q I h
 refine wpAny_Call_Name_kw (dc I hg hm hv ?_ hn hdb)
 exact PyProof.Rows.callWith_builtin1 (thn (ha pos pins s σ H _ I h) fun us s1 ⟨vs,H1,I1,r1,q1⟩=>hc pins s1 σ H1 vs us Q I1 r1 q1) he hpl
theorem qB (hc:bB X (.type T) r) (hg:Gl X x) (hm:X.mg x=none) (hv:bootBuiltins x=some (.type T)) (ha:PA X (e::es) t) (hn:x≠"__name__":=by decide) (hdb:(x==("__debug__" : Str))=false:=by decide)
  (he:starEach (e::es) X.env=(false,eval e X.env)::starEach es X.env:=by rfl) (hpl:(backTo pos (starEach es X.env)).any (·.1)=false:=by rfl):PE X (.Call (.Name x p) (e::es) [] pos) (tCB r t):=by
 intro pins s σ H Q I h
 refine wpAny_Call_Name_kw (dc I hg hm hv ?_ hn hdb)
 exact PyProof.Rows.callWith_type1 (thn (ha pos pins s σ H _ I h) fun us s1 ⟨vs,H1,I1,r1,q1⟩=>hc pins s1 σ H1 vs us Q I1 r1 q1) he hpl
end
end L2
namespace HT
open PySem PyProof.Rows
section
open PySem.SeqAt
open PySem.AutoSeq1 (wpAny_loadPart')
open PySem.MeetsSeq PySem.MeetsSeq2 PySem.MeetsSeq3
end
section
variable {prog:Program} {w:World} {A:Around} {E:Value->Shared->Prop} {s:Shared}
theorem xT {t b:Addr} {vs ws:List Value} {Q:Value->Shared->Prop} (ht:IsTup s.heap t vs.toArray) (hb:IsTup s.heap b ws.toArray) (hv:vs≠[])
  (h1:ws=[]->Q (.ref t) s) (h2:ws≠[]->Q (.ref s.heap.objs.size) { s with heap:=s.heap.push { cls:=.type "tuple",data:=.seq (vs++ws).toArray } })
  (hsz:vs.length+ws.length<=sizeLine):wpAny (model prog w) A (binaryOp .Add (.ref t) (.ref b)) Q E s:=by
 obtain ⟨⟨cls,dd,data,sl⟩,ho,hc,n,hd⟩:=id ht
 obtain ⟨⟨cls2,dd2,data2,sl2⟩,ho2,hc2,n2,hd2⟩:=id hb
 simp only at hc hd hc2 hd2
 subst hc hd hc2 hd2
 have e:vs.toArray++ws.toArray=(vs++ws).toArray:=by simp
 by_cases hw:ws=[]
 ·exact concat_meets ⟨_,ho,rfl⟩ ⟨_,ho2,rfl⟩ noFill_tuple_add seq_tuple_add PySem.F.slot_tuple_add PySem.F.entry_tuple_add (PySem.F.args_tuple_add_2 _ _)
   (tuple_addW1 t b vs.toArray ws.toArray n n2 dd dd2 sl sl2 (by simpa using hv) (by simp [hw])) ⟨ho,ho2,h1 hw⟩
 ·refine concat_meets ⟨_,ho,rfl⟩ ⟨_,ho2,rfl⟩ noFill_tuple_add seq_tuple_add PySem.F.slot_tuple_add PySem.F.entry_tuple_add (PySem.F.args_tuple_add_2 _ _)
   (tuple_addW2 t b vs.toArray ws.toArray n n2 dd dd2 sl sl2 (by simpa using hv) (by simpa using hw) (by rw [List.size_toArray,List.size_toArray]; exact hsz)) ⟨ho,ho2,?_⟩
  rw [e]
  exact h2 hw
noncomputable def sIx (n d:Nat):Option Int->Nat
 | none=>d
 | some v=>if v < 0 then (v+(n:Int)).toNat else min v.toNat n
theorem wm (n d:Nat) (hd:d<=n) (o:Option Int):sIx n d o<=n:=by
 cases o with
 | none=>exact hd
 | some v =>
  show (if v < 0 then (v+(n:Int)).toNat else min v.toNat n)<=n
  by_cases hv:v < 0
  ·rw [if_pos hv]; omega
  ·rw [if_neg hv]; exact Nat.min_le_right _ _
theorem oK (v:Int) (n d:Nat):(if v < 0 then max (v+(n:Int)) 0 else min v (n:Int))=((sIx n d (some v):Nat):Int):=by
 show (if v < 0 then max (v+(n:Int)) 0 else min v (n:Int))=(((if v < 0 then (v+(n:Int)).toNat else min v.toNat n):Nat):Int)
 by_cases hv:v < 0
 ·simp only [if_pos hv]; omega
 ·simp only [if_neg hv]; omega
theorem A4 (lo hi:Option Int) (n:Nat):Builtin.Slice.sliceAdjust lo hi 1 (n:Int)=(((sIx n 0 lo:Nat):Int),((sIx n n hi:Nat):Int)):=by
 have h1:¬ ((1:Int) < 0):=by omega
 unfold Builtin.Slice.sliceAdjust
 simp only [h1,if_false]
 refine Prod.ext ?_ ?_
 ·cases lo with
  | none=>rfl
  | some v=>exact oK v n 0
 ·cases hi with
  | none=>rfl
  | some v=>exact oK v n n
theorem uv (i j:Nat):Builtin.Slice.slicePlaces (i:Int) (j:Int) 1=j - i:=by
 unfold Builtin.Slice.slicePlaces
 have h1:(1:Int) > 0:=by omega
 simp only [h1,if_true,Int.ediv_one]
 split <;> omega
theorem mW {v:Value} {o:Option Int} {Q:Option Int->Shared->Prop} (p:IsPart v o) (h:Q o s):wpAny (model prog w) A (Builtin.Slice.slicePartIndex v) Q E s:=by
 cases p with
 | none=>exact slicePart_none h
 | int i t=>exact slicePart_int h
theorem nq {sl:Addr} {vl vu:Value} {lo hi:Option Int} {n:Nat} {Q:Int × Int × Nat->Shared->Prop} (hs:s.heap.IsSliceOf sl vl vu .none) (pl:IsPart vl lo) (pu:IsPart vu hi)
  (h:Q (((sIx n 0 lo:Nat):Int),1,sIx n n hi - sIx n 0 lo) s):wpAny (model prog w) A (Builtin.Slice.sliceApplied (.ref sl) (pure (n:Int))) Q E s:=by
 obtain ⟨os,hos,hcs,hds⟩:=id hs
 unfold Builtin.Slice.sliceApplied Builtin.Slice.sliceFields
 refine wpAny_bind (wpAny_bind (wpAny_field hos hds (x:=vl) rfl (wpAny_bind (wpAny_field hos hds (x:=vu) rfl (wpAny_bind (wpAny_field hos hds (x:=.none) rfl (wpAny_pure ?_)))))))
 refine wpAny_bind (slicePart_none ?_)
 show wpAny _ _ (if ((1:Int)==0)=true then _ else _) _ _ s
 rw [if_neg (by decide)]
 refine wpAny_bind (mW pl (wpAny_bind (mW pu (wpAny_bind (wpAny_pure ?_)))))
 show wpAny _ _ (match Builtin.Slice.sliceAdjust lo hi 1 (n:Int) with|(lo,hi)=>pure (lo,(1:Int),Builtin.Slice.slicePlaces lo hi 1)) _ _ s
 rw [A4 lo hi n]
 show wpAny _ _ (pure (((sIx n 0 lo:Nat):Int),(1:Int),Builtin.Slice.slicePlaces ((sIx n 0 lo:Nat):Int) ((sIx n n hi:Nat):Int) 1)) _ _ s
 rw [uv]
 exact wpAny_pure h
theorem vA (xs:Array Value) (i k:Nat):((List.range k).filterMap fun (m:Nat)=>xs[((i:Int)+(m:Int) * 1).toNat]?).toArray=((xs.toList.drop i).take k).toArray:=by
 have e:(fun (m:Nat)=>xs[((i:Int)+(m:Int) * 1).toNat]?)=fun m=>xs[i+m]?:=by
  funext m
  have:((i:Int)+(m:Int) * 1).toNat=i+m:=by omega
  rw [this]
 rw [e]
 have:=pick_run xs i k
 rw [List.filterMap_map] at this
 have e2:((fun x=>xs[x]?) ∘ fun x=>i+x)=fun m=>xs[i+m]?:=rfl
 rw [e2] at this
 rw [this]
theorem yp {t sl:Addr} {items:Array Value} {vl vu:Value} {lo hi:Option Int} {Q:Value->Shared->Prop} (ht:IsTup s.heap t items) (hs:s.heap.IsSliceOf sl vl vu .none) (pl:IsPart vl lo) (pu:IsPart vu hi)
  (hw:¬ (sIx items.size 0 lo=0/\sIx items.size items.size hi=items.size))
  (h:Q (.ref s.heap.objs.size) { s with heap:=s.heap.push { cls:=.type "tuple",data:=.seq ((items.toList.drop (sIx items.size 0 lo)).take (sIx items.size items.size hi - sIx items.size 0 lo)).toArray } })
  (hsz:items.size<=sizeLine):wpAny (model prog w) A (getItem (.ref t) (.ref sl)) Q E s:=by
 have htake:sizeOk (.seq ((items.toList.drop (sIx items.size 0 lo)).take (sIx items.size items.size hi - sIx items.size 0 lo)).toArray):=by
  show ((items.toList.drop (sIx items.size 0 lo)).take (sIx items.size items.size hi - sIx items.size 0 lo)).toArray.size<=sizeLine
  rw [List.size_toArray,List.length_take,List.length_drop,Array.length_toList]
  omega
 have hj:sIx items.size items.size hi<=items.size:=wm _ _ (Nat.le_refl _) hi
 obtain ⟨os,hos,hcs,hds⟩:=id hs
 have hTs:s.TypeIs (.ref sl) "slice":=⟨os,hos,hcs⟩
 unfold getItem
 try with_reducible refine wpAny_holding ?_
 first|refine wpAny_bind (wpAny_pure ?_)|skip
 refine wpAny_bind (wpAny_sequenceKey ht.typeIs (by decide) ?_)
 refine wpAny_bind (wpAny_callSpecial?_slot (name:=Str.ofString "__getitem__") ht.typeIs PyProof.Rows.slot_tuple_getitem
  (wpAny_call_entry PyProof.Rows.slot_tuple_getitem ht.typeIs entry_tuple_getitem ?_ (args_tuple_getitem _ _)))
 show wpAny _ _ (Builtin.Tuple.tupleItemsOf (.ref t)>>=_) _ _ s
 refine wpAny_bind (tupleItemsOf_ ht ?_)
 refine wpAny_bind (wpAny_typeOf hTs ?_)
 rw [if_pos (by decide)]
 refine wpAny_bind (nq hs pl pu ?_)
 have hno:¬ ((((sIx items.size 0 lo:Nat):Int)==0&&(1:Int)==1&&(sIx items.size items.size hi - sIx items.size 0 lo)==items.size)=true):=by
  intro q
  rw [Bool.and_eq_true,Bool.and_eq_true] at q
  have q1:((sIx items.size 0 lo:Nat):Int)=0:=eq_of_beq q.1.1
  have q2:sIx items.size items.size hi - sIx items.size 0 lo=items.size:=eq_of_beq q.2
  exact hw ⟨by omega,by omega⟩
 show wpAny _ _ (if (((sIx items.size 0 lo:Nat):Int)==0&&(1:Int)==1&&(sIx items.size items.size hi - sIx items.size 0 lo)==items.size)=true then _ else _) _ _ s
 rw [if_neg hno,vA]
 first
  | exact wpAny_bind (m:=Builtin.Tuple.tupleExact _) (wpAny_newObj_type (wpAny_pure ⟨_,rfl,wpAny_pure h⟩) htake)
  | exact wpAny_bind (m:=Builtin.Tuple.tupleExact _) (wpAny_newObj_type (wpAny_bind (wpAny_pure (wpAny_pure ⟨_,rfl,wpAny_pure h⟩))) htake)
  | exact wpAny_bind (wpAny_bind (m:=Builtin.Tuple.tupleExact _) (wpAny_newObj_type (wpAny_pure (wpAny_pure ⟨_,rfl,wpAny_pure h⟩)) htake))
  | exact wpAny_bind (wpAny_bind (m:=Builtin.Tuple.tupleExact _) (wpAny_newObj_type (wpAny_pure ⟨_,rfl,wpAny_pure h⟩) htake))
end
end HT
namespace L2
open PySem PySem.Spec PyProof.Rows
abbrev TO:=St->Hp->(Option Int->Hp->Prop)->Prop
noncomputable def PO (X:Cx) (e:Option Expr) (t:TO):Prop :=
 ∀ (pins:List (Addr × Obj)) (s:Shared) (σ:St) (H:Hp) (Q:Option Int->Hp->Prop),Inv X pins σ H s->t σ H Q ->
  wpAny (model X.prog X.w) X.A (evalPart e X.env) (fun u s'=>∃ o H',Inv X pins σ H' s'/\IsPart u o/\Q o H') X.xe s
noncomputable def rO:TO:=fun _ H Q=>Q none H
noncomputable def Ck (t:TE):TO:=fun σ H Q=>t σ H fun x H1=>∃ i,x=.int i/\Q (some i) H1
section
variable {X:Cx} {e:Expr} {te:TE} {lo hi:Option Expr} {tl th:TO} {pos p2:Pos}
theorem Bw:PO X none rO:=by
 intro pins s σ H Q I h
 rw [evalPart_none]
 exact wpAny_pure ⟨none,H,I,.none,h⟩
theorem uu (h:PE X e te):PO X (some e) (Ck te):=by
 intro pins s σ H Q I hw
 rw [evalPart_some]
 refine thn (h pins s σ H _ I hw) fun u s1 ⟨x,H1,I1,r1,q1⟩=>?_
 obtain ⟨i,rfl,q⟩:=q1
 obtain ⟨t,rfl⟩:=r1
 exact ⟨some i,H1,I1,.int i t,q⟩
noncomputable def SlR (X:Cx) (r:V->Option Int->Option Int->Hp->VK->Prop):Prop :=
 ∀ (pins:List (Addr × Obj)) (s:Shared) (σ:St) (H:Hp) (x:V) (v vl vu:Value) (lo hi:Option Int) (sl:Addr) (Q:VK),Inv X pins σ H s->RelV x v->s.heap.IsSliceOf sl vl vu .none->IsPart vl lo->IsPart vu hi->r x lo hi H Q ->
  ∃ T id,typeLookup (.type T) "__getitem__" = pure (some (.builtin id))/\s.TypeIs v T/\wpAny (model X.prog X.w) X.A (getItem v (.ref sl)) (EP X pins σ Q) X.xe s
noncomputable def tSl (r:V->Option Int->Option Int->Hp->VK->Prop) (te:TE) (tl th:TO):TE:=fun σ H Q=>te σ H fun x H1=>tl σ H1 fun l H2=>th σ H2 fun u H3=>r x l u H3 Q
theorem u9 {r:V->Option Int->Option Int->Hp->VK->Prop} (hr:SlR X r) (he:PE X e te) (hl:PO X lo tl) (hu:PO X hi th):PE X (.Subscript e (.Slice lo hi none p2) pos) (tSl r te tl th):=by
 intro pins s σ H Q I h
 refine Subscript_ (thn (he pins s σ H _ I h) fun v s1 ⟨x,H1,I1,r1,q1⟩=>?_)
 refine wpAny_Slice (thn (hl pins s1 σ H1 _ I1 q1) fun vl s2 ⟨l,H2,I2,pl,q2⟩=>thn (hu pins s2 σ H2 _ I2 q2) fun vu s3 ⟨u,H3,I3,pu,q3⟩=>?_)
 rw [evalPart_none]
 refine wpAny_pure ?_
 have I4:Inv X pins σ H3 { s3 with heap:=s3.heap.push { cls:=.type "slice",data:=.fields #[vl,vu,.none] } }:=I3.kept (t':=s3.toks) fun b ob q=>Heap.get?_push_of_some _ q
 obtain ⟨T,id,hT,ht,hg⟩:=hr pins { s3 with heap:=s3.heap.push { cls:=.type "slice",data:=.fields #[vl,vu,.none] } } σ H3 x v vl vu l u s3.heap.objs.size Q I4 r1 (Heap.IsSliceOf.new ..) pl pu q3
 show wpAny (model X.prog X.w) X.A (subscriptTail e (.Slice lo hi none p2) v (.ref s3.heap.objs.size)) (EP X pins σ Q) X.xe { s3 with heap:=s3.heap.push { cls:=.type "slice",data:=.fields #[vl,vu,.none] } }
 exact tail_any (ops:=[.ref s3.heap.objs.size,v]) ht hT hg (by with_unfolding_all rfl)
noncomputable def cX (xs:List V) (lo hi:Option Int):List V:=(xs.drop (HT.sIx xs.length 0 lo)).take (HT.sIx xs.length xs.length hi - HT.sIx xs.length 0 lo)
theorem mD (xs:List V) (lo hi:Option Int):(cX xs lo hi).length<=xs.length:=by
 unfold cX
 rw [List.length_take,List.length_drop]
 omega
noncomputable def xx (K:PySem.W.Frag):V->Option Int->Option Int->Hp->VK->Prop:=fun x lo hi H Q=>∃ a xs,x=.ref a/\SqT K H a xs /\
 ¬ (HT.sIx xs.length 0 lo=0/\HT.sIx xs.length xs.length hi=xs.length)/\∀ p,H p=none->Q (.ref p) (upd H p (.tup (cX xs lo hi)))
theorem s_:SlR X (xx X.K):=by
 intro pins s σ H x v vl vu lo hi sl Q I rx hs pl pu h
 obtain ⟨a,xs,rfl,hx,hw,q⟩:=h
 cases rx
 obtain ⟨its,r,ht,hz⟩:=I.tuple hx
 have hlen:its.toArray.size=xs.length:=by rw [List.size_toArray]; exact r.length.symm
 refine ⟨"tuple",_,PyProof.Rows.slot_tuple_getitem.lookup,ht.typeIs,?_⟩
 refine HT.yp ht hs pl pu (by rw [hlen]; exact hw) ?_ (by rw [hlen]; exact hz)
 rw [hlen]
 refine ⟨.ref s.heap.objs.size,_,I.laid (t':=s.toks) (o:=.tup (cX xs lo hi)) (fun b ob q=>Heap.get?_push_of_some _ q) (Nat.le_refl _) ?_,rfl,q _ (I.hok.fresh (Nat.le_refl _))⟩
 exact ⟨Nat.le_trans (mD xs lo hi) hz,_,(r.drop (HT.sIx xs.length 0 lo)).take (HT.sIx xs.length xs.length hi - HT.sIx xs.length 0 lo),IsTup.new _ _⟩
noncomputable def Cy (K:PySem.W.Frag):R2:=fun x y H Q=>∃ a b xs ys,x=.ref a/\y=.ref b/\SqT K H a xs/\SqT K H b ys/\xs≠[]/\xs.length+ys.length<=sizeLine /\
 (ys=[]->Q (.ref a) H)/\(ys≠[]->∀ p,H p=none->Q (.ref p) (upd H p (.tup (xs++ys))))
theorem Vals.jn {xs:List V} {us:List Value} (r:Vals xs us):us=[] ↔ xs=[]:=by
 cases r with
 | nil=>simp
 | cons _ _=>simp
theorem vz:OpR X (binaryOp .Add) (Cy X.K):=by
 intro pins s σ H x y v u Q I rx ry h
 obtain ⟨a,b,xs,ys,rfl,rfl,ha,hb,hx,hz,q1,q2⟩:=h
 cases rx
 cases ry
 obtain ⟨its,r1,p1,_⟩:=I.tuple ha
 obtain ⟨its2,r2,p2,_⟩:=I.tuple hb
 refine HT.xT p1 p2 (fun z=>hx (r1.jn.mp z)) (fun z=>⟨.ref a,H,I,rfl,q1 (r2.jn.mp z)⟩) (fun z=>?_) (by rw [<- r1.length,<- r2.length]; exact hz)
 refine ⟨.ref s.heap.objs.size,_,I.laid (t':=s.toks) (o:=.tup (xs++ys)) (fun b ob q=>Heap.get?_push_of_some _ q) (Nat.le_refl _) ?_,rfl,q2 (fun w=>z (r2.jn.mpr w)) _ (I.hok.fresh (Nat.le_refl _))⟩
 exact ⟨by rw [List.length_append]; exact hz,_,r1.append r2,IsTup.new _ _⟩
end
end L2
namespace L2
open PySem PySem.Spec PyProof.Rows
noncomputable def ixN (n:Nat) (i:Int):Option Nat:=if 0<=i then (if i < n then some i.toNat else none) else if -(n:Int)<=i then some (i+n).toNat else none
noncomputable def atI {α:Type} (xs:List α) (i:Int):Option α:=(ixN xs.length i).bind fun j=>xs[j]?
theorem lE {n:Nat} {i:Int} {j:Nat} (h:ixN n i=some j):seqIndex? i n=some j/\j < n/\-(n:Int)<=i/\i < n:=by
 unfold ixN at h
 by_cases h0:0<=i
 ·rw [if_pos h0] at h
  by_cases h1:i < n
  ·rw [if_pos h1] at h
   have e:i.toNat=j:=Option.some.inj h
   exact ⟨by rw [seqIndex_of h0 h1,e],by omega,by omega,h1⟩
  ·rw [if_neg h1] at h; cases h
 ·rw [if_neg h0] at h
  by_cases h1:-(n:Int)<=i
  ·rw [if_pos h1] at h
   have e:(i+n).toNat=j:=Option.some.inj h
   exact ⟨by rw [seqIndex_neg (by omega) h1,e],by omega,h1,by omega⟩
  ·rw [if_neg h1] at h; cases h
theorem oO {α:Type} {xs:List α} {i:Int} {v:α} (h:atI xs i=some v):∃ j,seqIndex? i xs.length=some j/\xs[j]?=some v/\j < xs.length/\-(xs.length:Int)<=i/\i < xs.length:=by
 unfold atI at h
 cases e:ixN xs.length i with
 | none=>rw [e] at h; cases h
 | some j =>
  rw [e] at h
  obtain ⟨h1,h2,h3,h4⟩:=lE e
  exact ⟨j,h1,h,h2,h3,h4⟩
noncomputable def kE (b:Expr):Prop:=∀ o i,subscripted b false o i=operate [o,i] (getItem o i)
noncomputable def IxR (X:Cx) (r:R2):Prop :=
 ∀ (value slice:Expr) (pins:List (Addr × Obj)) (s:Shared) (σ:St) (H:Hp) (x y:V) (v u:Value) (Q:VK),Inv X pins σ H s->RelV x v->RelV y u->r x y H Q ->
  subscripted slice false v u=operate [v,u] (getItem v u)->wpAny (model X.prog X.w) X.A (subscriptTail value slice v u) (EP X pins σ Q) X.xe s
noncomputable def MtR (X:Cx) (id:String) (r:V->List V->Hp->VK->Prop):Prop :=
 ∀ (pins:List (Addr × Obj)) (s:Shared) (σ:St) (H:Hp) (x:V) (xs:List V) (v:Value) (us:List Value) (Q:VK),Inv X pins σ H s->RelV x v->Vals xs us->r x xs H Q ->
  wpAny (model X.prog X.w) X.A (call (.builtin id) (v::us)) (EP X pins σ Q) X.xe s
section
variable {X:Cx} {a b:Expr} {ta tb:TE} {pos:Pos}
theorem sj {r:R2} (hr:IxR X r) (ha:PE X a ta) (hb:PE X b tb) (hs:kE b):PE X (.Subscript a b pos) (tOp r ta tb):=by
 intro pins s σ H Q I h
 exact Subscript_ (jW ha hb I h fun v u s2 x y H2 I2 rx ry q=>hr a b pins s2 σ H2 x y v u Q I2 rx ry q (hs _ _))
noncomputable def t6 (K:PySem.W.Frag):R2:=fun x y H Q=>∃ p xs i v,x=.ref p/\y=.int i/\SqL K H p xs/\atI xs i=some v/\Q v H
noncomputable def t9 (K:PySem.W.Frag):R2:=fun x y H Q=>∃ p xs i v,x=.ref p/\y=.int i/\SqT K H p xs/\atI xs i=some v/\Q v H
theorem zc:IxR X (t6 X.K):=by
 intro value slice pins s σ H x y v u Q I rx ry h hs
 obtain ⟨p,xs,i,z,rfl,rfl,hq,he,q⟩:=h
 cases rx
 obtain ⟨t,rfl⟩:=ry
 obtain ⟨its,r,pl,hz⟩:=I.list hq
 obtain ⟨j,h1,h2,h3,h4,h5⟩:=oO he
 obtain ⟨w,ew,rw'⟩:=r.get h2
 have hl:=r.length
 have hn:=f6
 have fin:EP X pins σ Q w s:=⟨z,H,I,rw',q⟩
 by_cases h0:0<=i
 ·have hj:i.toNat=j:=by
   rw [seqIndex_of h0 h5] at h1
   exact Option.some.inj h1
  exact item_listR pl.isList h0 (by omega) (by rw [hj]; simpa using ew) fin hs
 ·have hj:(i+(its.toArray.size:Int)).toNat=j:=by
   rw [seqIndex_neg (by omega) h4] at h1
   rw [List.size_toArray,<- hl]
   exact Option.some.inj h1
  exact subscriptTail_builtinR (x:=w) pl.isList.typeIs slot_list_getitem.lookup
   (wpAny_getItem_list_neg (Q:=fun r s'=>r=w/\EP X pins σ Q r s') pl.isList (by omega) (by rw [List.size_toArray] <;> omega) (by omega) (by rw [hj]; simpa using ew) ⟨rfl,fin⟩) hs
theorem sG:IxR X (t9 X.K):=by
 intro value slice pins s σ H x y v u Q I rx ry h hs
 obtain ⟨p,xs,i,z,rfl,rfl,hq,he,q⟩:=h
 cases rx
 obtain ⟨t,rfl⟩:=ry
 obtain ⟨its,r,pl,hz⟩:=I.tuple hq
 obtain ⟨j,h1,h2,h3,h4,h5⟩:=oO he
 obtain ⟨w,ew,rw'⟩:=r.get h2
 have hl:=r.length
 have hn:=f6
 have fin:EP X pins σ Q w s:=⟨z,H,I,rw',q⟩
 exact subscriptTail_builtinR (x:=w) pl.typeIs slot_tuple_getitem.lookup
  (getItem_tuple (j:=j) (Q:=fun r s'=>r=w/\EP X pins σ Q r s') pl (by omega) (by omega) (by rw [List.size_toArray,<- hl]; exact h1) (by simpa using ew) ⟨rfl,fin⟩) hs
theorem tQ (its:List Value) (n j:Nat) (u:Value):Obj.mapSeq (·.setIfInBounds j u) { cls:=.type "list",data:=.seq its.toArray n }={ cls:=.type "list",data:=.seq (its.set j u).toArray n }:=by
 simp [Obj.mapSeq]
theorem Inv.lst {pins:List (Addr × Obj)} {σ:St} {H:Hp} {s:Shared} {p:Addr} {xs:List V} (I:Inv X pins σ H s) (h:H p=some (.lst xs)) :
  ∃ (its:List Value) (n:Nat),Vals xs its/\s.heap.get? p=some { cls:=.type "list",data:=.seq its.toArray n }/\xs.length<=sizeLine:=by
 obtain ⟨z,its,n,r,e⟩:=I.hok p _ h
 exact ⟨its,n,r,e,z⟩
theorem Inv.BP {pins:List (Addr × Obj)} {σ:St} {H:Hp} {s:Shared} {p:Addr} {xs ys:List V} {its its':List Value} {n n':Nat} {f:Obj->Obj} (I:Inv X pins σ H s) (h:H p=some (.lst xs))
  (ho:s.heap.get? p=some { cls:=.type "list",data:=.seq its.toArray n }) (hf:f { cls:=.type "list",data:=.seq its.toArray n }={ cls:=.type "list",data:=.seq its'.toArray n' }) (r:Vals ys its') (hz:ys.length<=sizeLine) (t:Nat) :
  Inv X pins σ (upd H p (.lst ys)) { s with heap:=s.heap.update p f,toks:=t }:=by
 have e:(s.heap.update p f).get? p=some { cls:=.type "list",data:=.seq its'.toArray n' }:=by
  rw [Heap.get?_update_self f ho (by rw [hf] <;> rfl),hf]
 refine I.write (x:=p) (e:=p) (by rw [h]; trivial) (.inl rfl) (fun b u hb q=>(Heap.get?_update_other _ _ (Ne.symm hb)).trans q) ⟨_,e⟩ ?_
 exact ⟨hz,its',n',r,e⟩
noncomputable def qO:V->V->V->Hp->(Hp->Prop)->Prop:=fun o i v H Q=>∃ p xs k j,o=.ref p/\i=.int k/\H p=some (.lst xs)/\ixN xs.length k=some j/\Q (upd H p (.lst (xs.set j v)))
theorem set_list:kM X qO:=by
 intro pins s σ H o i v ov iv u Q I ro ri rv h
 obtain ⟨p,xs,k,j,rfl,rfl,hp,hj,q⟩:=h
 cases ro
 obtain ⟨t,rfl⟩:=ri
 obtain ⟨its,n,r,ho,hz⟩:=I.lst hp
 obtain ⟨h1,h2,h3,h4⟩:=lE hj
 have hl:=r.length
 have hn:=f6
 have I':Inv X pins σ (upd H p (.lst (xs.set j v))) { s with heap:=s.heap.update p (Obj.mapSeq (·.setIfInBounds j u)) } :=
  I.BP hp ho (tQ its n j u) (r.set rv j) (by rw [List.length_set]; exact hz) s.toks
 by_cases h0:0<=k
 ·have hk:k.toNat=j:=by
   rw [seqIndex_of h0 h4] at h1
   exact Option.some.inj h1
  exact PySem.W.ki_setAt ho h0 (by omega) (by rw [List.size_toArray,<- hl]; exact h4) (by rw [hk]; exact ⟨_,I',q⟩)
 ·have hk:(k+(its.toArray.size:Int)).toNat=j:=by
   rw [seqIndex_neg (by omega) h3] at h1
   rw [List.size_toArray,<- hl]
   exact Option.some.inj h1
  exact PySem.W.ki_setBack ho (by omega) (by rw [List.size_toArray,<- hl]; exact h3) (by omega) (by rw [hk]; exact ⟨_,I',q⟩)
theorem yb (lo hi:Option Int) (n:Nat):(sliceBounds lo hi none n).1=((HT.sIx n 0 lo:Nat):Int)/\(sliceBounds lo hi none n).2.1=((HT.sIx n n hi:Nat):Int)/\(sliceBounds lo hi none n).2.2=1:=by
 refine ⟨?_,?_,rfl⟩
 ·cases lo with
  | none=>simp [sliceBounds,HT.sIx]
  | some i =>
   simp only [sliceBounds,HT.sIx,Option.getD_none,show (1:Int) > 0 by decide,if_true]
   by_cases h:i < 0
   ·simp only [h,if_true] <;> omega
   ·simp only [h,if_false] <;> omega
 ·cases hi with
  | none=>simp [sliceBounds,HT.sIx]
  | some i =>
   simp only [sliceBounds,HT.sIx,Option.getD_none,show (1:Int) > 0 by decide,if_true]
   by_cases h:i < 0
   ·simp only [h,if_true] <;> omega
   ·simp only [h,if_false] <;> omega
theorem uD (its:List Value) (lo hi:Option Int):slicePick its.toArray lo hi none=((its.drop (HT.sIx its.length 0 lo)).take (HT.sIx its.length its.length hi - HT.sIx its.length 0 lo)).toArray:=by
 obtain ⟨h1,h2,h3⟩:=yb lo hi its.toArray.size
 unfold slicePick
 rw [h1,h2,h3]
 simp only [sliceRange_one,pick_run,List.size_toArray] <;> rfl
noncomputable def vV (K:PySem.W.Frag):V->Option Int->Option Int->Hp->VK->Prop:=fun x lo hi H Q=>∃ a xs,x=.ref a/\SqL K H a xs/\∀ p,H p=none->Q (.ref p) (upd H p (.lst (cX xs lo hi)))
theorem oi:SlR X (vV X.K):=by
 intro pins s σ H x v vl vu lo hi sl Q I rx hs pl pu h
 obtain ⟨a,xs,rfl,hx,q⟩:=h
 cases rx
 obtain ⟨its,r,ht,hz⟩:=I.list hx
 have hlen:=r.length
 refine ⟨"list",_,slot_list_getitem.lookup,ht.isList.typeIs,?_⟩
 refine wpAny_getItem_list_slice ht.isList hs pl pu .none (by simp) ?_ (by rw [List.size_toArray] <;> omega)
 rw [uD,<- hlen]
 refine ⟨.ref s.heap.objs.size,_,I.laid (t':=s.toks) (o:=.lst (cX xs lo hi)) (fun b ob q=>Heap.get?_push_of_some _ q) (Nat.le_refl _) ?_,rfl,q _ (I.hok.fresh (Nat.le_refl _))⟩
 exact ⟨Nat.le_trans (mD xs lo hi) hz,_,0,(r.drop (HT.sIx xs.length 0 lo)).take (HT.sIx xs.length xs.length hi - HT.sIx xs.length 0 lo),Heap.get?_push_size _ rfl⟩
noncomputable def ya:V->Bool
 | .non=>true
 | .bl _=>true
 | .int _=>true
 | .str _=>true
 | _=>false
theorem BR:bB X (.builtin "len") (fun xs H Q=>∃ p ys,xs=[.ref p]/\(SqL X.K H p ys\/SqT X.K H p ys)/\Q (.int ys.length) H):=by
 intro pins s σ H xs us Q I r h
 obtain ⟨p,ys,rfl,hq,q⟩:=h
 obtain ⟨u,rfl,rx⟩:=vals1 r
 cases rx
 have hn:=f6
 rcases hq with hq|hq
 ·obtain ⟨its,r',pl,hz⟩:=I.list hq
  have hlen:=r'.length
  exact Calls.call_len_list pl.isList (by simp only [List.size_toArray] <;> omega) ⟨.int ys.length,H,I.tok _,⟨s.toks+1,by rw [List.size_toArray,hlen]⟩,q⟩
 ·obtain ⟨its,r',pl,hz⟩:=I.tuple hq
  have hlen:=r'.length
  exact len_tuple pl (by simp only [List.size_toArray] <;> omega) ⟨.int ys.length,H,I.tok _,⟨s.toks+1,by rw [List.size_toArray,hlen]⟩,q⟩
theorem ly:bB X (.type "tuple") (fun xs H Q=>∃ p ys,xs=[.ref p]/\((SqL X.K H p ys/\∀ l,H l=none->Q (.ref l) (upd H l (.tup ys)))\/(SqT X.K H p ys/\Q (.ref p) H))):=by
 intro pins s σ H xs us Q I r h
 obtain ⟨p,ys,rfl,h⟩:=h
 obtain ⟨u,rfl,rx⟩:=vals1 r
 cases rx
 rcases h with ⟨hq,q⟩|⟨hq,q⟩
 ·obtain ⟨its,r',pl,hz⟩:=I.list hq
  have hlen:=r'.length
  refine call_tuple_list pl.isList (fun h' kp=>?_) (by simp only [List.size_toArray] <;> omega)
  have I1:Inv X pins σ H { s with heap:=h' }:=I.kept (t':=s.toks) kp
  have I2:Inv X pins σ (upd H h'.objs.size (.tup ys)) { s with heap:=h'.push { cls:=.type "tuple",data:=.seq its.toArray } } :=
   I1.laid (t':=s.toks) (fun b o e=>Heap.get?_push_of_some _ e) (Nat.le_refl _) (show a_ X.prog X.w _ _ _ (.tup ys) from ⟨hz,its,r',IsTup.new _ _⟩)
  exact ⟨.ref h'.objs.size,_,I2,rfl,q _ (I1.hok.fresh (Nat.le_refl _))⟩
 ·obtain ⟨its,r',pl,hz⟩:=I.tuple hq
  exact call_tuple_same pl ⟨.ref p,H,I,rfl,q⟩
noncomputable def tyV (K:PySem.W.Frag) (T:String) (x:V) (H:Hp):Prop:=match x with
 | .str _=>T = "str"
 | .int _=>T = "int"
 | .ref p=>(T = "list"/\∃ xs,SqL K H p xs)\/(T = "tuple"/\∃ o,K.lookup p=some o/\o.cls=.type "tuple"/\o.dict=none) \/
   (T = "dict"/\((∃ kvs,H p=some (.dK kvs))\/∃ kvs,H p=some (.dT kvs)))\/(T = "set"/\∃ S n,H p=some (.set S n))
 | _=>False
theorem yx {pins:List (Addr × Obj)} {σ:St} {H:Hp} {s:Shared} {T:String} {x:V} {v:Value} (I:Inv X pins σ H s) (r:RelV x v) (ty:tyV X.K T x H) :
  s.TypeIs v T/\∀ a,v=.ref a->∃ ob,s.heap.get? a=some ob/\ob.dict=none:=by
 cases x with
 | str z =>
  obtain ⟨t,rfl⟩:=r
  cases (show T = "str" from ty)
  exact ⟨typeIs_str s z t,fun _ e=>nomatch e⟩
 | int i =>
  obtain ⟨t,rfl⟩:=r
  cases (show T = "int" from ty)
  exact ⟨typeIs_int s i t,fun _ e=>nomatch e⟩
 | ref p =>
  cases r
  rcases ty with ⟨rfl,xs,hq⟩|⟨rfl,o,hk,hc,hd⟩|⟨rfl,hk⟩|⟨rfl,S,n,hk⟩
  ·obtain ⟨its,_,pl,_⟩:=I.list hq
   refine ⟨pl.isList.typeIs,fun a e=>?_⟩
   cases e
   obtain ⟨o,n,e,c,hd,_⟩:=pl
   exact ⟨o,e,hd⟩
  ·refine ⟨⟨o,I.kIn p o hk,hc⟩,fun a e=>?_⟩
   cases e
   exact ⟨o,I.kIn _ o hk,hd⟩
  ·have z:∃ o,s.heap.get? p=some o/\o.ExactDict:=by
    rcases hk with ⟨kvs,hk⟩|⟨kvs,hk⟩
    ·obtain ⟨_,_,_,_,o,_,_,e,ex,_⟩:=I.hok p _ hk
     exact ⟨o,e,ex⟩
    ·obtain ⟨_,_,_,_,o,_,_,e,ex,_⟩:=I.hok p _ hk
     exact ⟨o,e,ex⟩
   obtain ⟨o,e,ex⟩:=z
   refine ⟨⟨o,e,ex.1⟩,fun a e2=>?_⟩
   cases e2
   exact ⟨o,e,ex.2.1⟩
  ·obtain ⟨o,_,_,_,e,ex,_⟩:=I.hok p _ hk
   refine ⟨⟨o,e,ex.1⟩,fun a e2=>?_⟩
   cases e2
   exact ⟨o,e,ex.2.1⟩
 | _=>exact False.elim ty
noncomputable def tBM (K:PySem.W.Frag) (T:String) (r:V->List V->Hp->VK->Prop) (to:TE) (t:TA):TE:=fun σ H Q=>to σ H fun x H1=>tyV K T x H1/\t σ H1 fun xs H2=>r x xs H2 Q
variable {o e:Expr} {es:List Expr} {to:TE} {t:TA} {name:Str} {apos cpos:Pos} {T id:String} {r:V->List V->Hp->VK->Prop}
theorem zC (pa:PlainAttrs T) (slot:Slot T name id) (hty:typeOf (.builtin id)=pure (.type "method_descriptor")) (hm:MtR X id r) (ho:PE X o to) (ha:PA X (e::es) t)
  (hbase:attributeBase o name X.env (eval o X.env)=eval o X.env:=by rfl)
  (hfew:((backTo cpos (starEach (e::es) X.env)).all (fun x=>!x.1)&&(backToKw cpos (keywordEach [] X.env)).all (fun x=>x.1.isSome)
  &&decide ((e::es).length+([]:List Keyword).length+(if ([]:List Keyword).isEmpty then 0 else 1) < 30))=true:=by rfl)
  (hline:(apos.endLine==cpos.line)=true:=by rfl) (hs:starEach (e::es) X.env=(false,eval e X.env)::starEach es X.env:=by rfl) (hplain:(backTo cpos (starEach es X.env)).any (·.1)=false:=by rfl) :
  PE X (.Call (.Attribute o name apos) (e::es) [] cpos) (tBM X.K T r to t):=by
 intro pins s σ H Q I h
 refine wpAny_Call_method_late hbase hfew hline rfl (thn (ho pins s σ H _ I h) fun v s1 ⟨x,H1,I1,r1,ty,q1⟩=>?_)
 obtain ⟨h1,h2⟩:=yx I1 r1 ty
 refine ⟨T,id,pa,slot,hty,h1,h2,?_⟩
 have hA:=ha cpos pins s1 σ H1 _ I1 q1
 rw [hs] at hA ⊢
 refine Calls.callWith_builtin (by show (false||(backTo cpos (starEach es X.env)).any (·.1))=false; rw [hplain] <;> rfl) (Calls.evalArgs_plain ?_)
 exact thn hA fun us s2 ⟨vs,H2,I2,r2,q2⟩=>hm pins s2 σ H2 x vs v us Q I2 r1 r2 q2
/- xs.append(e),list.index on a module's tuple .. are MtR facts of 06m -/
end
end L2
namespace L2
open PySem PySem.Spec PyProof.Rows
noncomputable def MtM (X:Cx) (id:String) (r:V->List V->Hp->VK->Prop):Prop :=
 ∀ (pins:List (Addr × Obj)) (s:Shared) (σ:St) (H:Hp) (x:V) (xs:List V) (v:Value) (us:List Value) (Q:VK),Inv X pins σ H s->RelV x v->Vals xs us->r x xs H Q ->
  wpAny (model X.prog X.w) X.A (call (.builtin id) (v::us)) (EP X pins σ Q) X.xe s
theorem Vals.one:∀ {x:V} {us:List Value},Vals [x] us->∃ u,us=[u]/\RelV x u
 | _,_,.cons r .nil=>⟨_,rfl,r⟩
theorem Vals.two:∀ {x y:V} {us:List Value},Vals [x,y] us->∃ u v,us=[u,v]/\RelV x u/\RelV y v
 | _,_,_,.cons r (.cons q .nil)=>⟨_,_,rfl,r,q⟩
theorem Vals.rep {xs:List V} {us:List Value} (h:Vals xs us):∀ k:Nat,Vals (List.replicate k xs).flatten (List.replicate k us).flatten
 | 0=>.nil
 | k+1=>by
  rw [List.replicate_succ,List.replicate_succ,List.flatten_cons,List.flatten_cons]
  exact Vals.append h (Vals.rep h k)
theorem foldl_rep (its:List Value):∀ (k:Nat) (acc:List Value),
  List.foldl (fun x1 x2=>x1++x2) acc.toArray (List.replicate k its.toArray)=(acc++(List.replicate k its).flatten).toArray
 | 0,acc=>by simp
 | k+1,acc=>by
  have e:acc.toArray++its.toArray=(acc++its).toArray:=by simp
  have e2:(acc++its)++(List.replicate k its).flatten=acc++(List.replicate (k+1) its).flatten:=by
   rw [List.replicate_succ,List.flatten_cons,List.append_assoc]
  rw [<- e2,<- foldl_rep its k (acc++its),<- e,List.replicate_succ,List.foldl_cons]
section
variable {X:Cx} {pins:List (Addr × Obj)} {σ:St} {H:Hp} {s:Shared} {l b:Addr} {xs ys zs:List V}
theorem Inv.nV {its its':List Value} {n:Nat} {f:Array Value->Array Value} {t':Nat} (I:Inv X pins σ H s) (hH:H l=some (.lst xs))
  (e:s.heap.get? l=some { cls:=.type "list",data:=.seq its.toArray n }) (hf:f its.toArray=its'.toArray) (hv:Vals ys its') (hz:ys.length<=sizeLine) :
  Inv X pins σ (upd H l (.lst ys)) { s with heap:=s.heap.update l (Obj.mapSeq f),toks:=t' }:=by
 have q:=PySem.IsL.update e f
 rw [hf] at q
 refine I.write (x:=l) (e:=l) (by rw [hH]; exact trivial) (.inl rfl) (fun b' u hb hu=>(Heap.get?_update_other s.heap (Obj.mapSeq f) (Ne.symm hb)).trans hu) ⟨_,q⟩ ?_
 exact ⟨hz,its',_,hv,q⟩
theorem Inv.lV {its:List Value} {t':Nat} (I:Inv X pins σ H s) (hv:Vals ys its) (hz:ys.length<=sizeLine) :
  Inv X pins σ (upd H s.heap.objs.size (.lst ys)) { s with heap:=s.heap.push { cls:=.type "list",data:=.seq its.toArray },toks:=t' } :=
 I.laid (fun _ _ q=>Heap.get?_push_of_some _ q) (Nat.le_refl _) ⟨hz,its,0,hv,Heap.get?_push_size _ rfl⟩
theorem Inv.fresh (I:Inv X pins σ H s):H s.heap.objs.size=none:=I.hok.fresh (Nat.le_refl _)
theorem Inv.fE (I:Inv X pins σ H s) (hH:H l=some (.lst xs)):xs.length<=sizeLine/\∃ (its:List Value) (n:Nat),Vals xs its/\xs.length=its.length/\s.heap.get? l=some { cls:=.type "list",data:=.seq its.toArray n }:=by
 obtain ⟨z,its,n,r,e⟩:=I.hok l _ hH
 exact ⟨z,its,n,r,r.length,e⟩
theorem lA {n:Nat} (h:n<=sizeLine):Builtin.List.listTooLong n=false:=by
 unfold Builtin.List.listTooLong
 exact decide_eq_false (by omega)
end
section
variable {X:Cx}
noncomputable def wc:V->List V->Hp->VK->Prop:=fun x vs H Q=>∃ l xs y,x=.ref l/\vs=[y]/\H l=some (.lst xs)/\xs.length < sizeLine/\Q .non (upd H l (.lst (xs++[y])))
theorem n6:MtM X "list.append" wc:=by
 intro pins s σ H x vs v us Q I rx rv h
 obtain ⟨l,xs,y,rfl,rfl,hH,hz,q⟩:=h
 cases rx
 obtain ⟨u,rfl,ru⟩:=rv.one
 obtain ⟨z,its,n,r,hl,e⟩:=I.fE hH
 refine call_meets F.slot_list_append ⟨_,e,rfl⟩ F.entry_list_append (F.args_list_append_2 _ _) (PySem.list_append l its.toArray n u (by rw [List.size_toArray]; omega)) ⟨e,?_⟩
 refine ⟨.non,_,I.nV (its':=its++[u]) hH e (by simp) (r.append (.cons ru .nil)) ?_,rfl,q⟩
 rw [List.length_append,List.length_singleton]
 omega
noncomputable def uY:V->List V->Hp->VK->Prop:=fun x vs H Q=>∃ l b xs zs,x=.ref l/\vs=[.ref b]/\H l=some (.lst xs)/\H b=some (.lst zs)/\xs.length+zs.length<=sizeLine/\Q .non (upd H l (.lst (xs++zs)))
theorem vQ:MtM X "list.extend" uY:=by
 intro pins s σ H x vs v us Q I rx rv h
 obtain ⟨l,b,xs,zs,rfl,rfl,hH,hB,hz,q⟩:=h
 cases rx
 obtain ⟨u,rfl,ru⟩:=rv.one
 cases ru
 obtain ⟨z,its,n,r,hl,e⟩:=I.fE hH
 obtain ⟨z2,its2,n2,r2,hl2,e2⟩:=I.fE hB
 have hsz:its.toArray.size+its2.toArray.size<=sizeLine:=by rw [List.size_toArray,List.size_toArray]; omega
 have hlong:¬ (!its.toArray.isEmpty&&Builtin.List.listTooLong (its.toArray.size+its2.toArray.size))=true:=by
  rw [lA hsz,Bool.and_false]
  exact Bool.false_ne_true
 refine call_meets F.slot_list_extend ⟨_,e,rfl⟩ F.entry_list_extend (F.args_list_extend_2 _ _)
  (AutoSeq1.list_extend_list_list_0 l its.toArray n b its2.toArray n2 hlong (by rw [List.size_toArray]; omega) (by omega)) ⟨e,e2,?_⟩
 refine ⟨.non,_,I.nV (its':=its++its2) hH e (by simp) (r.append r2) ?_,rfl,q⟩
 rw [List.length_append]
 omega
noncomputable def yP:R2:=fun x y H Q=>∃ l b xs zs,x=.ref l/\y=.ref b/\H l=some (.lst xs)/\H b=some (.lst zs)/\xs.length+zs.length<=sizeLine/\∀ p,H p=none->Q (.ref p) (upd H p (.lst (xs++zs)))
theorem Ar:OpR X (binaryOp .Add) yP:=by
 intro pins s σ H x y v u Q I rx ry h
 obtain ⟨l,b,xs,zs,rfl,rfl,hH,hB,hz,q⟩:=h
 cases rx
 cases ry
 obtain ⟨z,its,n,r,hl,e⟩:=I.fE hH
 obtain ⟨z2,its2,n2,r2,hl2,e2⟩:=I.fE hB
 refine PySem.P.add_list e e2 ?_ (by rw [List.size_toArray,List.size_toArray]; omega)
 have ea:its.toArray++its2.toArray=(its++its2).toArray:=by simp
 rw [ea]
 exact ⟨.ref _,_,I.lV (t':=s.toks) (r.append r2) (by rw [List.length_append]; omega),rfl,q _ I.fresh⟩
noncomputable def An:R2:=fun x y H Q=>∃ l k xs,x=.ref l/\y=.int k/\H l=some (.lst xs)/\-(2 ^ 63)<=k/\k < 2 ^ 63/\xs.length * k.toNat<=sizeLine /\
 ∀ p,H p=none->Q (.ref p) (upd H p (.lst (List.replicate k.toNat xs).flatten))
theorem len_rep {α:Type} (xs:List α) (k:Nat):(List.replicate k xs).flatten.length=k * xs.length:=by
 induction k with
 | zero=>simp
 | succ k ih=>rw [List.replicate_succ,List.flatten_cons,List.length_append,ih,Nat.succ_mul,Nat.add_comm]
theorem wN:OpR X (binaryOp .Mult) An:=by
 intro pins s σ H x y v u Q I rx ry h
 obtain ⟨l,k,xs,rfl,rfl,hH,h1,h2,hz,q⟩:=h
 cases rx
 obtain ⟨t,rfl⟩:=ry
 obtain ⟨z,its,n,r,hl,e⟩:=I.fE hH
 have hlen:its.toArray.size * k.toNat<=sizeLine:=by rw [List.size_toArray,<- hl]; exact hz
 have hcap:¬ its.toArray.size * k.toNat > (2 ^ 63 - 1) / 8:=by
  have:(sizeLine:Nat)<=(2 ^ 63 - 1) / 8:=by decide
  omega
 have hfit:¬ (!Builtin.List.listFitsIndex k)=true:=by
  rw [fitsIndex_both h1 h2]
  exact Bool.false_ne_true
 have hlong:¬ Builtin.List.listTooLong (its.toArray.size * k.toNat)=true:=by
  rw [lA hlen]
  exact Bool.false_ne_true
 have hnew:List.foldl (fun x1 x2=>x1++x2) #[] (List.replicate (if its.toArray.isEmpty=true then 0 else k.toNat) its.toArray)=(List.replicate k.toNat its).flatten.toArray:=by
  have f0:∀ m:Nat,List.foldl (fun x1 x2=>x1++x2) #[] (List.replicate m its.toArray)=(List.replicate m its).flatten.toArray:=fun m=>by
   have:=foldl_rep its m []
   rw [List.nil_append] at this
   exact this
  rw [f0]
  cases its with
  | nil=>simp
  | cons a r'=>rw [if_neg (by simp)]
 refine wpAny_binaryOp_repeat_ref (T:="list") (U:="int") (by decide) ⟨_,e,rfl⟩ (fun s'=>typeIs_int s' k t) noFill_list_mul F.fills_int_mul F.slot_int_rmul repeat_list F.slot_int_index.lookup
  (call_meets F.slot_int_rmul (typeIs_int s k t) F.entry_int_rmul (F.args_int_rmul_2 _ _) (int___rmul___int_list k t l its.toArray n)
   ⟨e,rfl,⟨_,e,rfl⟩,call_meets F.slot_list_mul ⟨_,e,rfl⟩ F.entry_list_mul (F.args_list_mul_2 _ _) (AutoListH.list___mul___list_int_3 l its.toArray n k t hfit hcap hlong) ⟨e,?_⟩⟩)
 rw [hnew]
 exact ⟨.ref _,_,I.lV (t':=s.toks) (r.rep k.toNat) (by rw [len_rep,Nat.mul_comm]; exact hz),rfl,q _ I.fresh⟩
end
section
variable {prog:Program} {w:World} {A:Around} {E:Value->Shared->Prop} {s:Shared}
end
section
variable {X:Cx}
end
end L2
namespace Att
open PySem PySem.W PySem.Calls PyProof.Rows
theorem tT {P:Params} {h:Heap}:∀ (ns:List Int) (vs:List Value),WellAll P h vs (ns.map WData.int)->IntsAre vs ns:=by
 intro ns
 induction ns with
 | nil =>
  intro vs w
  rw [List.map_nil] at w
  cases w
  exact .nil
 | cons n ns ih =>
  intro vs w
  rw [List.map_cons] at w
  cases w with
  | cons a b =>
   cases a
   exact .cons _ _ (ih _ b)
theorem u6 {l:OpenLaw} {n:Nat} (hn:l.most=some n) {P:Params} {h:Heap} {args:List WData} {vals:List Value}
  (hpre:l.row.toRowW.claim.pre args=true) (hwl:WellAll P h vals args) :
  ∃ a vs ns,vals=[Value.ref a]/\args=[WData.list (ns.map WData.int)]/\h.get? a=some { cls:=.type "list",data:=.seq vs.toArray }/\IntsAre vs ns/\ns.length<=n:=by
 have hsh:WShape.hasAll [] args [.list .int]=true:=(pre_splitW hpre).1
 have hc:l.pre.holds [] { args:=args }=true:=(pre_splitW hpre).2
 obtain ⟨d,r,rfl,h1,h2⟩:=hasAllW_cons hsh
 obtain rfl:=hasAllW_nil h2
 obtain ⟨xs,rfl,h3⟩:=hasW_list h1
 obtain ⟨ns,rfl⟩:=items_int h3
 have hlen:ns.length<=n:=by
  unfold OpenLaw.pre at hc
  have h4:(WTm.not (.lt (.lit (.int (n:Int))) (.len (.arg 0)))).holds [] { args:=[.list (ns.map .int)] }=true:=by
   have h4:=(holds_andW hc).1
   rw [hn] at h4
   exact h4
  have h5:=condW_of h4 (w_not (w_lt w_lit (w_len_list (w_arg rfl))))
  rw [List.length_map] at h5
  refine Nat.le_of_not_lt fun q=>?_
  have q':(n:Int) < ((ns.length:Nat):Int):=by omega
  first
   | (rw [decide_eq_true q'] at h5; exact absurd h5 (by decide))
   | (simp at h5; omega)
 cases hwl with
 | cons w1 w2 =>
  cases w2
  cases w1 with
  | list ho hall=>exact ⟨_,_,ns,rfl,rfl,ho,tT ns _ hall,hlen⟩
theorem AI (l:OpenLaw) (args:List WData):l.row.toRowW.claim.post args (.bool true) args=true :=
 postW_of (r:=l.row.toRowW) (X:=(true==true))
  (show WShape.has [] (.bool true) .bool=true by first|rfl|decide|simp [WShape.has,WShape.arms,WShape.armsAll])
  (show (WTm.eq .res (.lit (.bool true))).value [] { args:=args,res:=some (.bool true),after:=args }=some (.bool (true==true)) from w_eq_bool (w_res rfl) w_lit) rfl
theorem uM {l:OpenLaw} {n:Nat} {q:Program} {loose:List Str} {XP:(Str->Option Value)->Heap->Prop} {YP:World->Heap->Prop} {d:DefRec}
  (hn:l.most=some n) (hdf:d.params.defaults=[])
  (call:∀ (w:World) (s₀ s₁:Shared) (mg mb:Str->Option Value) (fa:Addr) (o:Obj) (pm cd doc:Value) (a:Addr) (vs:List Value) (ns:List Int),
   Ground q loose [] XP w s₀ mg mb s₁.heap->YP w s₁.heap ->
   s₁.heap.get? fa=some o->o.data=.func (docDef d.name d.params d.body d.scope pm cd doc)->s₁.heap.CodeRec cd d.name->mg d.name=some (.ref fa) ->
   s₁.heap.get? a=some { cls:=.type "list",data:=.seq vs.toArray }->IntsAre vs ns->ns.length<=n->s₁.gens=#[] ->
   codeAny (model l.prog w) callerA (.call (.ref fa) ⟨[.ref a],[]⟩) (fun r s'=>r=.ok (.ret (.bool true))/\OldK s₁.heap s'.heap/\s'.os=s₁.os/\AllBare s'.gens) s₁) :
  WalkO q loose XP YP l.row.toRowW d [] (fun f vs=>PySem.call f vs):=by
 intro w s₀ s₁ mg mb G Y fa o pm cd doc dV kV ho hd hcd hD hmg hg args vals as hpre hlay hrd hwl hlo
 obtain rfl:dV=.none:=Dflts.none hD hdf
 obtain rfl:kV=.none:=Dflts.noKw hD
 obtain ⟨a,vs,ns,rfl,rfl,hobj,hints,hlen⟩:=u6 hn hpre hwl
 refine enter_call (codeAny_mono (call w s₀ s₁ mg mb fa o pm cd doc a vs ns G Y ho (fd_plain hd) hcd hmg hobj hints hlen hg) fun r s' hq=>?_)
 obtain ⟨rfl,h2,h3,h4⟩:=hq
 exact ⟨.inl ⟨.bool true,.bool true,[],rfl,fun _=>rfl,.bool true,AI l _,fun _=>⟨List.Pairwise.nil,fun _ hm=>(nomatch hm)⟩⟩,h2,h3,h4⟩
section
variable {prog:Program} {w:World} {A:Around} {E:Value->Shared->Prop} {s:Shared} {K:Frag}
end
end Att
namespace L2
open PySem PySem.Spec PyProof.Rows
theorem mR:∀ {vs:List Value} {ns:List Int},IntsAre vs ns->Vals (ns.map V.int) vs
 | _,_,.nil=>.nil
 | _,_,.cons n t h=>.cons ⟨t,rfl⟩ (mR h)
noncomputable def fV (H:Hp):Prop:=∀ b,H b=none\/∃ o xs,H b=some (.frz o (.lst xs))
theorem wY {P:Program} {w:World} {K:PySem.W.Frag} {mg mb:Str->Option Value} {CX:CXT} {k:Nat} {fa a:Addr} {fd:FuncData} {x:Str} {sp:Sp} {s₁:Shared} {vs:List Value} {ns:List Int}
  (KX:K.In s₁.heap) (hns:s₁.heap.Ns mainGlobals mg) (hb:s₁.heap.Ns builtinsNs mb) (hbb:∀ x:Str,x≠"__name__"->mb x=bootBuiltins x) (hlim:s₁.heap.NoLimit) (hg:s₁.gens=#[])
  (ha:s₁.heap.get? a=some { cls:=.type "list",data:=.seq vs.toArray }) (hi:IntsAre vs ns) (hl:ns.length<=sizeLine) (hr:br k callerA)
  (F:∀ base:Heap,K.In base->base.Ns mainGlobals mg->b_ P w K mg base CX k fa fd [x] sp) (hbind:∀ (s:Shared) (u:Value),BindsTo s fd ⟨[u],[]⟩ [(x,u)])
  (hsp:∀ H:Hp,fV H->SqL K H a (ns.map V.int)->sp [.ref a] H (fun v _=>v=.bl true) fun _ _ _=>False)
  (hCX:∀ H e s',CX [] H s₁ (fun _ _ _=>False) e s'->False) :
  codeAny (model P w) callerA (.call (.ref fa) ⟨[.ref a],[]⟩) (fun r s'=>r=.ok (.ret (.bool true))/\OldK s₁.heap s'.heap/\s'.os=s₁.os/\AllBare s'.gens) s₁:=by
 have rv:=mR hi
 have lenV:=hi.length
 have core:∀ H:Hp,fV H->SqL K H a (ns.map V.int)->HOk P w H s₁.heap->(∀ b,H b≠none->b=a)->(H a≠none->K.lookup a=none) ->
   codeAny (model P w) callerA (.call (.ref fa) ⟨[.ref a],[]⟩) (fun r s'=>r=.ok (.ret (.bool true))/\OldK s₁.heap s'.heap/\s'.os=s₁.os/\AllBare s'.gens) s₁:=by
  intro H hO hS hok hA hK
  have base_of:∀ {b:Addr} {o:Obj},s₁.heap.get? b=some o->H b=none->(dG s₁.heap H).get? b=some o:=fun e n=>rL e n
  have noA:∀ {b:Addr} {o:Obj} {es:Array DictEntry} {ep:Nat},s₁.heap.get? b=some o->o.data=.dict es ep->H b=none:=fun {b o es ep} e d=>by
   cases q:H b with
   | none=>rfl
   | some u =>
    have e':b=a:=hA b (by rw [q]; simp)
    subst e'
    rw [ha] at e; cases e
    have d':Data.seq vs.toArray _=Data.dict es ep:=d
    cases d'
  have nsK:∀ {b:Addr} {m:Str->Option Value},s₁.heap.Ns b m->(dG s₁.heap H).Ns b m:=fun {b m} ⟨o,es,ep,e,d,r⟩=>⟨o,es,ep,base_of e (noA e d),d,r⟩
  have hKb:K.In (dG s₁.heap H):=fun b o e=>base_of (KX b o e) (by
   cases q:H b with
   | none=>rfl
   | some u =>
    have e':b=a:=hA b (by rw [q]; simp)
    subst e'
    rw [hK (by rw [q]; simp)] at e; cases e)
  have hM:Mod K mg (dG s₁.heap H):=⟨hKb,nsK hns,⟨mb,nsK hb,hbb⟩,let ⟨mc,h1,h2⟩:=hlim; ⟨mc,nsK h1,h2⟩⟩
  have e0:g9 P w K mg (dG s₁.heap H) callerA [] s₁ H:=⟨rfl,hM,fun b o e=>AL e,Nat.le_of_eq (xH _ _),trivial,fun b hb=>absurd (show b∈([]:List Addr) from hb) (by simp),hok,.of_eq hg⟩
  refine codeAny_mono ((F _ hKb (nsK hns)).run callerA [] s₁ H ⟨[.ref a],[]⟩ [.ref a] [.ref a] _ _ hr e0 (hbind s₁ (.ref a)) (.cons rfl .nil) (hsp H hO hS)) fun r s' h=>?_
  cases r with
  | error e=>exact (hCX H e s' h).elim
  | ok fl =>
   cases fl with
   | next=>exact False.elim h
   | brk=>exact False.elim h
   | cont=>exact False.elim h
   | ret u =>
    obtain ⟨v,H',os,bare,un,hok',r',q⟩:=h
    have q':v=.bl true:=q
    subst q'
    obtain rfl:u=Value.bool true:=r'
    refine ⟨rfl,OldK.of_keep fun b o e=>?_,os,bare⟩
    cases q:H b with
    | none=>exact un.keep b o e q (by intro z; exact absurd (show b∈([]:List Addr) from z) (by simp)) (by simp)
    | some u =>
     rcases hO b with z|⟨ob,xs,z⟩
     ·rw [q] at z; cases z
     ·have z2:=un.frzs b ob _ z
      obtain ⟨e1,_⟩:=hok b _ z
      obtain ⟨e2,_⟩:=hok' b _ z2
      rw [e] at e1; cases e1
      exact e2
 cases hk:K.lookup a with
 | some o =>
  have e:=KX a o hk
  rw [ha] at e
  cases e
  refine core (fun _=>none) (fun _=>.inl rfl) (.inr ⟨_,vs.toArray,_,hk,rfl,rfl,rfl,by rw [List.size_toArray,lenV]; exact hl,by simpa using rv⟩) (fun b u z=>by have z':(none:Option HO)=some u:=z; cases z') (fun b z=>absurd rfl z) fun z=>absurd rfl z
 | none =>
  refine core (fun b=>if b=a then some (.frz { cls:=.type "list",data:=.seq vs.toArray } (.lst (ns.map V.int))) else none) (fun b=>?_) (.inl (.inr ⟨{ cls:=.type "list",data:=.seq vs.toArray },if_pos rfl⟩)) (fun b u z=>?_) (fun b z=>?_) fun _=>hk
  ·by_cases hb:b=a
   ·exact .inr ⟨_,_,if_pos hb⟩
   ·exact .inl (if_neg hb)
  ·by_cases hb:b=a
   ·have z':=(if_pos hb).symm.trans z
    cases z'
    subst hb
    exact ⟨ha,by rw [List.length_map]; exact hl,vs,_,rv,ha⟩
   ·have z':=(if_neg hb).symm.trans z
    cases z'
  ·by_cases hb:b=a
   ·exact hb
   ·exact absurd (if_neg hb) z
end L2
namespace L2
open PySem PySem.Spec PyProof.Rows
theorem pR {l:PySem.W.OpenLaw} {n k:Nat} {q:Program} {loose:List Str} {XP:(Str->Option Value)->Heap->Prop} {YP:World->Heap->Prop} {d:DefRec} {K:Params->PySem.W.Frag} {CX:World->CXT} {sp:World->Sp} {x:Str}
  (hn:l.most=some n) (hn2:n<=sizeLine) (hdf:d.params.defaults=[]) (hr:br k callerA)
  (hY:∀ (w:World) (h:Heap),YP w h->(K w.params).In h)
  (F:∀ (w:World) (mg:Str->Option Value) (fa:Addr) (h:Heap),(K w.params).In h->h.Ns mainGlobals mg->mg d.name=some (.ref fa) ->
   ∃ fd:FuncData,(∀ (s:Shared) (u:Value),BindsTo s fd ⟨[u],[]⟩ [(x,u)]) /\
    ∀ base:Heap,(K w.params).In base->base.Ns mainGlobals mg->b_ l.prog w (K w.params) mg base (CX w) k fa fd [x] (sp w))
  (hsp:∀ (w:World) (H:Hp) (a:Addr) (ns:List Int),ns.length<=n->fV H->SqL (K w.params) H a (ns.map V.int)->sp w [.ref a] H (fun v _=>v=.bl true) fun _ _ _=>False)
  (hCX:∀ (w:World) (H:Hp) (s:Shared) (e:Value) (s':Shared),CX w [] H s (fun _ _ _=>False) e s'->False) :
  PySem.W.WalkO q loose XP YP l.row.toRowW d [] (fun f vs=>PySem.call f vs):=by
 refine Att.uM hn hdf fun w s₀ s₁ mg mb fa o pm cd doc a vs ns G Y ho hd hcd hmg hobj hints hlen hg=>?_
 have KX:=hY w _ Y
 obtain ⟨fd,hb,hF⟩:=F w mg fa _ KX G.T.g hmg
 exact wY KX G.T.g G.T.b G.T.builtins G.T.nolimit hg hobj hints (Nat.le_trans hlen hn2) hr hF hb (fun H hO hS=>hsp w H a ns hlen hO hS) fun H e s'=>hCX w H s₁ e s'
theorem CY {l:PySem.W.OpenLaw} {n k:Nat} {q:Program} {loose:List Str} {XP:(Str->Option Value)->Heap->Prop} {YP:World->Heap->Prop} {d:DefRec} {K:Params->PySem.W.Frag} {CX:CXT} {sp:PySem.W.Frag->Sp} {x:Str}
  (hn:l.most=some n) (hn2:n<=sizeLine) (hdf:d.params.defaults=[]) (hr:br k callerA)
  (hY:∀ (w:World) (h:Heap),YP w h->(K w.params).In h)
  (F:∀ (w:World) (mg:Str->Option Value) (fa:Addr) (h:Heap),(K w.params).In h->h.Ns mainGlobals mg->mg d.name=some (.ref fa) ->
   ∃ fd:FuncData,(∀ (s:Shared) (u:Value),BindsTo s fd ⟨[u],[]⟩ [(x,u)]) /\
    ∀ base:Heap,(K w.params).In base->base.Ns mainGlobals mg->b_ l.prog w (K w.params) mg base CX k fa fd [x] (sp (K w.params)))
  (hsp:∀ (K:PySem.W.Frag) (H:Hp) (a:Addr) (ns:List Int),ns.length<=n->fV H->SqL K H a (ns.map V.int)->sp K [.ref a] H (fun v _=>v=.bl true) fun _ _ _=>False)
  (hCX:∀ (H:Hp) (s:Shared) (e:Value) (s':Shared),CX [] H s (fun _ _ _=>False) e s'->False) :
  PySem.W.WalkO q loose XP YP l.row.toRowW d [] (fun f vs=>PySem.call f vs) :=
 pR (K:=K) (CX:=fun _=>CX) (sp:=fun w=>sp (K w.params)) hn hn2 hdf hr hY F (fun w H a ns h1 h2 h3=>hsp (K w.params) H a ns h1 h2 h3) fun _ H s e s'=>hCX H s e s'
end L2
namespace L2
open PySem PySem.Spec PyProof.Rows
noncomputable def cL (s:Stmt):Arguments:=match s with
 | .FunctionDef _ a _ _ _ _ _ _ _ _=>a
 | _=>{ posonlyargs:=[],args:=[],vararg:=none,kwonlyargs:=[],kw_defaults:=[],kwarg:=none,defaults:=[] }
noncomputable def fZ (s:Stmt):List Stmt:=match s with
 | .FunctionDef _ _ b _ _ _ _ _ _ _=>b
 | _=>[]
noncomputable def gF (s:Stmt):Scope:=match s with
 | .FunctionDef _ _ _ _ _ _ sc _ _ _=>sc
 | _=>{ kind:=.function,names:=[],isGenerator:=false,isCoroutine:=false }
structure Fun (K:PySem.W.Frag) (x qual:Str) (st:Stmt) (f:Addr) (fd:FuncData):Prop where
 ex:∃ (oc:Value) (od:Option Addr) (kV doc pm:Value) (an:Option Addr) (cdv ct:Value) (osl:Array (Option Value)),
  fd=PySem.W.fnOf x qual (cL st) (fZ st) (gF st) .none kV doc pm an cdv ct/\K.lookup f=some ⟨oc,od,.func fd,osl⟩/\PySem.W.codeIn K cdv qual=true
 kp:PySem.W.keepIn K (.ref f)=true
section
variable {P:Program} {w:World} {K:PySem.W.Frag} {mg:Str->Option Value} {base:Heap}
theorem Fun.binds {x qual:Str} {st:Stmt} {f:Addr} {fd:FuncData} {ps:List Str} (F:Fun K x qual st f fd)
  (h:∀ (kV doc pm:Value) (an:Option Addr) (cdv ct:Value) (us:List Value),us.length=ps.length->bindArgs (PySem.W.fnOf x qual (cL st) (fZ st) (gF st) .none kV doc pm an cdv ct) ⟨us,[]⟩=pure (ps.zip us)):Binds K fd ps []:=by
 obtain ⟨oc,od,kV,doc,pm,an,cdv,ct,osl,rfl,lk,hcd⟩:=F.ex
 exact .all (h kV doc pm an cdv ct)
theorem zB {x qual:Str} {st:Stmt} {f:Addr} {oc:Value} {od an:Option Addr} {osl:Array (Option Value)} {kV doc pm cdv ct:Value} (l:K.lookup f=some ⟨oc,od,.func (PySem.W.fnOf x qual (cL st) (fZ st) (gF st) .none kV doc pm an cdv ct),osl⟩)
  (c:PySem.W.codeIn K cdv qual=true) (k:PySem.W.keepIn K (.ref f)=true):Fun K x qual st f (PySem.W.fnOf x qual (cL st) (fZ st) (gF st) .none kV doc pm an cdv ct):=⟨⟨oc,od,kV,doc,pm,an,cdv,ct,osl,rfl,l,c⟩,k⟩
end
section
variable {X:Cx}
end
theorem Ao {A B:Prop} (h:B):if false=true then A else B:=by
 rw [if_neg Bool.false_ne_true]
 exact h
theorem wQ {A B:Prop} (h:A):if true=true then A else B:=by
 rw [if_pos rfl]
 exact h
end L2

namespace L2
open PySem PySem.Spec PyProof.Rows
section
variable {κ:Type} [DecidableEq κ]
noncomputable def cg (kvs:List (κ × V)) (k:κ):Option V:=(kvs.find? fun kv=>decide (kv.1=k)).map (·.2)
noncomputable def putK (kvs:List (κ × V)) (k:κ) (v:V):List (κ × V) :=
 if (kvs.any fun kv=>decide (kv.1=k))=true then kvs.map (fun kv=>if kv.1=k then (kv.1,v) else kv) else kvs++[(k,v)]
theorem iX {p:κ × V} {r:List (κ × V)} {k:κ} (e:p.1=k):cg (p::r) k=some p.2:=by simp [cg,List.find?_cons,e]
theorem jh {p:κ × V} {r:List (κ × V)} {k:κ} (e:¬ p.1=k):cg (p::r) k=cg r k:=by simp [cg,List.find?_cons,e]
theorem mF (k:κ):∀ kvs:List (κ × V),(kvs.any fun kv=>decide (kv.1=k))=(cg kvs k).isSome
 | []=>rfl
 | p::r=>by
  rw [List.any_cons]
  by_cases e:p.1=k
  ·simp only [iX e,decide_eq_true e,Bool.true_or,Option.isSome_some]
  ·rw [jh e,decide_eq_false e,Bool.false_or]; exact mF k r
theorem lC (kvs:List (κ × V)) (k:κ) (v:V):(putK kvs k v).length<=kvs.length+1:=by
 unfold putK
 split
 ·rw [List.length_map]; omega
 ·rw [List.length_append,List.length_cons,List.length_nil]; omega
theorem c5.w4 {o:Option V} {u:Option Value} (r:c5 o u):o.isSome=u.isSome:=by
 cases o with
 | none=>cases u with
  | none=>rfl
  | some _=>exact (show False from r).elim
 | some _=>cases u with
  | none=>exact (show False from r).elim
  | some _=>rfl
theorem KV.val {kvs:List (κ × V)} {vs:List (κ × Value)} (r:KV kvs vs) (k:κ):c5 (cg kvs k) (valueAt vs k):=by
 unfold KV at r
 induction r with
 | nil=>exact True.intro
 | @cons p q ps qs h t ih =>
  obtain ⟨h1,h2⟩:=h
  by_cases e:p.1=k
  ·have e':q.1=k:=h1.symm.trans e
   have b:valueAt (q::qs) k=some q.2:=by simp [valueAt,List.find?_cons,e']
   rw [iX e,b]; exact h2
  ·have e':¬ q.1=k:=fun z=>e (h1.trans z)
   have b:valueAt (q::qs) k=valueAt qs k:=by simp [valueAt,List.find?_cons,e']
   rw [jh e,b]; exact ih
theorem KV.any {kvs:List (κ × V)} {vs:List (κ × Value)} (r:KV kvs vs) (k:κ):(kvs.any fun kv=>decide (kv.1=k))=vs.any fun kv=>decide (kv.1=k):=by
 unfold KV at r
 induction r with
 | nil=>rfl
 | cons h t ih=>rw [List.any_cons,List.any_cons,ih,h.1]
theorem KV.repl {kvs:List (κ × V)} {vs:List (κ × Value)} (r:KV kvs vs) (k:κ) {y:V} {u:Value} (ry:RelV y u) :
  KV (kvs.map fun kv=>if kv.1=k then (kv.1,y) else kv) (vs.map fun kv=>if kv.1=k then (kv.1,u) else kv):=by
 unfold KV at r ⊢
 induction r with
 | nil=>exact .nil
 | @cons p q ps qs h t ih =>
  rw [List.map_cons,List.map_cons]
  refine .cons ?_ ih
  obtain ⟨h1,h2⟩:=h
  by_cases e:p.1=k
  ·rw [if_pos e,if_pos (h1.symm.trans e)]; exact ⟨h1,ry⟩
  ·rw [if_neg e,if_neg (fun z=>e (h1.trans z))]; exact ⟨h1,h2⟩
theorem KV.put {kvs:List (κ × V)} {vs:List (κ × Value)} (r:KV kvs vs) (k:κ) {y:V} {u:Value} (ry:RelV y u):KV (putK kvs k y) (stored vs k u):=by
 unfold putK stored
 rw [r.any k]
 by_cases e:(vs.any fun kv=>decide (kv.1=k))=true
 ·rw [if_pos e,if_pos e]; exact r.repl k ry
 ·rw [if_neg e,if_neg e]; exact Paired.snoc r ⟨rfl,ry⟩
theorem KV.length {kvs:List (κ × V)} {vs:List (κ × Value)} (r:KV kvs vs):kvs.length=vs.length:=Paired.length r
end
theorem kK {P:Program} {w:World} {k:Key} {u:Value} (r:RelV (kV k) u):(bZ P w).is k u=true:=by
 cases k with
 | inl i=>obtain ⟨t,e⟩:=(show ∃ t,u=Value.int i t from r); subst e; exact zp P w i t
 | inr x=>obtain ⟨t,e⟩:=(show ∃ t,u=Value.str x t from r); subst e; exact CD P w x t
theorem pZ {P:Program} {w:World}:∀ {ks:List Key} {us:List Value},Vals (ks.map kV) us->ItemsAre (bZ P w) ks us
 | [],_,r=>by rw [List.map_nil] at r; cases r; exact .nil
 | k::ks,_,r=>by
  rw [List.map_cons] at r
  cases r with
  | cons h t=>exact .cons (kK h) (pZ t)
abbrev KT (H:Hp):List (List Key × V)->List (List Key × Addr × Value)->Prop:=Paired fun p q=>p.1=q.1/\H q.2.1=some (.tup (p.1.map kV))/\RelV p.2 q.2.2
theorem KT.val {H:Hp} {kvs:List (List Key × V)} {xs:List (List Key × Addr × Value)} (r:KT H kvs xs) (k:List Key):c5 (cg kvs k) ((atKey xs k).map (·.2)):=by
 induction r with
 | nil=>exact True.intro
 | @cons p q ps qs h t ih =>
  obtain ⟨h1,_,h2⟩:=h
  by_cases e:p.1=k
  ·have e':q.1=k:=h1.symm.trans e
   have b:atKey (q::qs) k=some q.2:=by simp [atKey,List.find?_cons,e']
   rw [iX e,b]; exact h2
  ·have e':¬ q.1=k:=fun z=>e (h1.trans z)
   have b:atKey (q::qs) k=atKey qs k:=by simp [atKey,List.find?_cons,e']
   rw [jh e,b]; exact ih
theorem KT.repl {H:Hp} {kvs:List (List Key × V)} {xs:List (List Key × Addr × Value)} (r:KT H kvs xs) (k:List Key) {y:V} {u:Value} (ry:RelV y u) :
  KT H (kvs.map fun kv=>if kv.1=k then (kv.1,y) else kv) (xs.map (putAt k u)):=by
 induction r with
 | nil=>exact .nil
 | @cons p q ps qs h t ih =>
  rw [List.map_cons,List.map_cons]
  refine .cons ?_ ih
  obtain ⟨h1,h2,h3⟩:=h
  unfold putAt
  by_cases e:p.1=k
  ·rw [if_pos e,if_pos (h1.symm.trans e)]; exact ⟨h1,h2,ry⟩
  ·rw [if_neg e,if_neg (fun z=>e (h1.trans z))]; exact ⟨h1,h2,h3⟩
theorem KT.put {H:Hp} {kvs:List (List Key × V)} {xs:List (List Key × Addr × Value)} (r:KT H kvs xs) (k:List Key) {b:Addr} {y:V} {u:Value} (hb:H b=some (.tup (k.map kV))) (ry:RelV y u) :
  KT H (putK kvs k y) (storedH xs k b u):=by
 have e:(kvs.any fun kv=>decide (kv.1=k))=(atKey xs k).isSome:=by
  rw [mF,(r.val k).w4,Option.isSome_map]
 unfold putK storedH
 rw [e]
 by_cases q:(atKey xs k).isSome=true
 ·rw [if_pos q,if_pos q]; exact r.repl k ry
 ·rw [if_neg q,if_neg q]; exact Paired.snoc r ⟨rfl,hb,ry⟩
theorem KT.keeps {H H':Hp} {kvs:List (List Key × V)} {xs:List (List Key × Addr × Value)} (r:KT H kvs xs) (ht:∀ b ys,H b=some (.tup ys)->H' b=some (.tup ys)):KT H' kvs xs :=
 Paired.kQ r fun _ _ z=>⟨z.1,ht _ _ z.2.1,z.2.2⟩
section
variable {P:Program} {w:World} {H:Hp} {h:Heap} {a:Addr}
theorem ni {u:HO} (ok:HOk P w H h) (e:Rd H a u):a_ P w H h a u:=e.ok ok
theorem j5 {kvs:List (Key × V)} (ok:HOk P w H h) (e:Rd H a (.dK kvs)):kvs.length<=sizeLine/\(a==sysModules)=false/\∃ vs,KV kvs vs/\h.DictOf (bZ P w) a vs :=
 show a_ P w H h a (.dK kvs) from ni ok e
theorem yu {kvs:List (Key × V)} (ok:HOk P w H h) (e:H a=some (.dK kvs)):kvs.length<=sizeLine/\(a==sysModules)=false/\∃ vs,KV kvs vs/\h.DictOf (bZ P w) a vs:=j5 ok (.inl e)
theorem jH {ks:List Key} (ok:HOk P w H h) (e:H a=some (.tup (ks.map kV))):(tupleKind (bZ P w)).is h ks a:=by
 obtain ⟨_,its,r,o,h1,h2,n,h3⟩:=(show a_ P w H h a (.tup (ks.map kV)) from ok a _ e)
 exact ⟨o,its.toArray,n,h1,h2,h3,by simpa using pZ r⟩
theorem jZ {kvs:List (List Key × V)} (ok:HOk P w H h) (e:Rd H a (.dT kvs)):kvs.length<=sizeLine/\(a==sysModules)=false /\
  ∃ xs,KT H kvs xs/\h.DictOfH (tupleKind (bZ P w)) a xs:=by
 obtain ⟨z,y,xs,r,o,es,ep,h1,h2,h3,h4,h5⟩:=(show a_ P w H h a (.dT kvs) from ni ok e)
 refine ⟨z,y,xs,r,o,es,ep,h1,h2,h3,h4,fun x hx=>?_,h5⟩
 have all:∀ {l:List (List Key × V)} {m:List (List Key × Addr × Value)},KT H l m->∀ x∈m,(tupleKind (bZ P w)).is h x.1 x.2.1:=by
  intro l m q
  induction q with
  | nil=>intro x hx; exact nomatch hx
  | @cons p q ps qs hq t ih =>
   intro x hx
   rcases List.mem_cons.mp hx with e|hx
   ·subst e
    exact jH ok (by rw [<- hq.1]; exact hq.2.1)
   ·exact ih x hx
 exact all r x hx
theorem vZ {kvs:List (List Key × V)} (ok:HOk P w H h) (e:H a=some (.dT kvs)):kvs.length<=sizeLine/\(a==sysModules)=false /\
  ∃ xs,KT H kvs xs/\h.DictOfH (tupleKind (bZ P w)) a xs:=jZ ok (.inl e)
end
noncomputable def fK (H:Hp) (a:Addr) (y:V) (r:Option V):Prop :=
 (∃ kvs k,Rd H a (.dK kvs)/\y=kV k/\r=cg kvs k)\/∃ kvs k b,Rd H a (.dT kvs)/\y=.ref b/\H b=some (.tup (k.map kV))/\r=cg kvs k
noncomputable def gq (H:Hp) (a:Addr) (y v:V) (H':Hp):Prop :=
 (∃ kvs k,H a=some (.dK kvs)/\y=kV k/\kvs.length < sizeLine/\H'=upd H a (.dK (putK kvs k v))) \/
 ∃ kvs k b,H a=some (.dT kvs)/\y=.ref b/\H b=some (.tup (k.map kV))/\kvs.length < sizeLine/\H'=upd H a (.dT (putK kvs k v))
theorem fK.t {H:Hp} {a b:Addr} {kvs:List (List Key × V)} {k:List Key} (e:H a=some (.dT kvs)) (eb:H b=some (.tup (k.map kV))):fK H a (.ref b) (cg kvs k):=.inr ⟨kvs,k,b,.inl e,rfl,eb,rfl⟩
theorem gq.t {H:Hp} {a b:Addr} {kvs:List (List Key × V)} {k:List Key} {v:V} (e:H a=some (.dT kvs)) (eb:H b=some (.tup (k.map kV))) (hl:kvs.length < sizeLine) :
  gq H a (.ref b) v (upd H a (.dT (putK kvs k v))):=.inr ⟨kvs,k,b,e,rfl,eb,hl,rfl⟩
section
variable {X:Cx} {pins:List (Addr × Obj)} {σ:St} {H:Hp} {s:Shared} {a:Addr} {y v:V} {u r:Value} {o:Option V} {A:Around} {E:Value->Shared->Prop}
theorem Inv.big (I:Inv X pins σ H s):sysModules < s.heap.objs.size:=by
 have h:mainGlobals < s.heap.objs.size:=(I.mod.glob.keeps I.bk).lt
 exact Nat.lt_trans (by decide) h
theorem yq {Q:Value->Shared->Prop} (hu:A.units+1 < cLine) (I:Inv X pins σ H s) (g:fK H a y (some v)) (ry:RelV y u) (h:∀ w' s',Inv X pins σ H s'->RelV v w'->Q w' s') :
  wpAny (model X.prog X.w) A (getItem (.ref a) u) Q E s:=by
 rcases g with ⟨kvs,k,e,ey,l⟩|⟨kvs,k,b,e,ey,eb,l⟩
 ·subst ey
  obtain ⟨z,hd,vs,rel,dd⟩:=j5 I.hok e
  obtain ⟨w',hw,rw'⟩:=c5.some_of (v:=v) (o:=valueAt vs k) (by rw [l]; exact rel.val k)
  exact wpAny_getItem_of (kK ry) dd.mapOf hw (h w' _ (I.tok _) rw')
 ·subst ey
  cases (show u=Value.ref b from ry)
  obtain ⟨z,hd,xs,rel,dd⟩:=jZ I.hok e
  obtain ⟨w',hw,rw'⟩:=c5.some_of (v:=v) (o:=(atKey xs k).map (·.2)) (by rw [l]; exact rel.val k)
  obtain ⟨p,hp,hp2⟩:=Option.map_eq_some_iff.mp hw
  refine wpAny_getItem_heap (tupleKind_room_in1 hu) (jH I.hok eb) dd hp ?_
  rw [hp2]
  exact h w' _ (I.tok _) rw'
theorem nJ {h':Heap} {t':Nat} {ob:HO} (I:Inv X pins σ H s) (mu:Mut (H a)) (hs:Heap.SameBut a s.heap h') (he:∃ q,h'.get? a=some q) (new:a_ X.prog X.w (upd H a ob) h' a ob) :
  Inv X pins σ (upd H a ob) { s with heap:=h',toks:=t' } :=
 I.write (x:=a) (e:=a) mu (.inl rfl) (fun b q hb z=>(hs.2 b hb).trans z) he new
theorem AU {P:Program} {w:World} {H':Hp} {h':Heap} {kvs:List (Key × V)} {vs:List (Key × Value)} (z:kvs.length<=sizeLine) (hd:(a==sysModules)=false) (rel:KV kvs vs) (dd:h'.DictOf (bZ P w) a vs) :
  a_ P w H' h' a (.dK kvs):=⟨z,hd,vs,rel,dd⟩
theorem tV {H':Hp} {Q:Unit->Shared->Prop} (hu:A.units+1 < cLine) (I:Inv X pins σ H s) (g:gq H a y v H') (ry:RelV y u) (rv:RelV v r) (h:∀ s',Inv X pins σ H' s'->Q () s') :
  wpAny (model X.prog X.w) A (setItem (.ref a) u r) Q E s:=by
 rcases g with ⟨kvs,k,e,ey,l,eH⟩|⟨kvs,k,b,e,ey,eb,l,eH⟩
 ·subst ey eH
  obtain ⟨z,hd,vs,rel,dd⟩:=yu I.hok e
  have hz:vs.length<=sizeLine:=by rw [<- rel.length]; exact z
  have hl:(putK kvs k v).length<=sizeLine:=by have:=lC kvs k v; omega
  refine wpAny_setItem_pairs (hsz:=hz) (kK ry) dd fun h' dd' hs=>h _ ?_
  have he:∃ q,h'.get? a=some q:=let ⟨q,_,_,hq,_⟩:=dd'; ⟨q,hq⟩
  exact nJ I (by rw [e]; exact True.intro) hs he (AU hl hd (rel.put k rv) dd')
 ·subst ey eH
  cases (show u=Value.ref b from ry)
  obtain ⟨z,hd,xs,rel,dd⟩:=vZ I.hok e
  have hz:xs.length<=sizeLine:=by rw [<- Paired.length rel]; exact z
  have hl:(putK kvs k v).length<=sizeLine:=by have:=lC kvs k v; omega
  refine wpAny_setItem_heap (hsz:=hz) (tupleKind_room_in1 hu) (jH I.hok eb) dd fun h' dd' hs=>h _ ?_
  obtain ⟨q,es,ep,hq,h2,h3,h4,_,h5⟩:=dd'
  refine nJ I (by rw [e]; exact True.intro) hs ⟨q,hq⟩ ⟨hl,hd,_,(rel.put k eb rv).keeps fun c ys ec=>?_,q,es,ep,hq,h2,h3,h4,h5⟩
  rw [aE (kL ec e (fun z=>nomatch z))]
  exact ec
end
section
variable {X:Cx} {pins:List (Addr × Obj)} {σ:St} {H:Hp} {s:Shared} {a:Addr} {kvs:List (Key × V)} {k:Key} {u:Value} {A:Around} {E:Value->Shared->Prop}
end
noncomputable def lD (i:Expr):Prop:=∀ ov iv,subscripted i false ov iv=operate [ov,iv] (getItem ov iv)
theorem yN {prog:Program} {w:World} {A:Around} {E:Value->Shared->Prop} {s:Shared} {env:Env} {value slice:Expr} {pos:Pos} {T id:String} {Q:Value->Shared->Prop}
  (hl:typeLookup (.type T) "__getitem__" = pure (some (.builtin id))) (hs:lD slice)
  (h:wpAny (model prog w) A (eval value env) (fun o s₁=>wpAny (model prog w) A (eval slice env) (fun i s₂=>s₂.TypeIs o T/\wpAny (model prog w) A (getItem o i) Q E s₂) E s₁) E s) :
  wpAny (model prog w) A (eval (.Subscript value slice pos) env) Q E s:=by
 refine Subscript_ (wpAny_mono h (fun o s₁ h₁=>wpAny_mono h₁ (fun i s₂ h₂=>?_) fun _ _ x=>x) fun _ _ x=>x)
 obtain ⟨hT,h₂⟩:=h₂
 unfold subscriptTail
 refine wpAny_bind ?_
 rw [getitemInPython_of_ne hT.not_modules]
 refine wpAny_bind (wpAny_specialOf hT hl ?_)
 have fin:wpAny (model prog w) A (subscripted slice false o i) (fun r s₃=>wpAny (model prog w) A (letTemporaryGo value o r>>=fun _=>pure r) Q E s₃) E s₂:=by
  rw [hs o i]
  exact wpAny_operating (wpAny_mono h₂ (fun r s₃ h₃=>wpAny_bind (wpAny_letTemporaryGo (wpAny_pure h₃))) fun _ _ x=>x)
 first
  | exact wpAny_pure (wpAny_bind fin)
  | exact wpAny_bind (wpAny_pure (wpAny_bind fin))
  | exact wpAny_bind fin
theorem uS {X:Cx} {pins:List (Addr × Obj)} {σ:St} {H:Hp} {s:Shared} {a:Addr} {y:V} {o:Option V} (I:Inv X pins σ H s) (g:fK H a y o):s.TypeIs (.ref a) "dict":=by
 rcases g with ⟨kvs,k,e,_,_⟩|⟨kvs,k,b,e,_,_,_⟩
 ·obtain ⟨_,_,vs,_,dd⟩:=j5 I.hok e
  exact dd.typeIs
 ·obtain ⟨_,_,xs,_,dd⟩:=jZ I.hok e
  exact dd.typeIs
noncomputable def Ag (td ty:TE):TE:=fun σ H Q=>td σ H fun x H1=>ty σ H1 fun y H2=>∃ a v,x=.ref a/\fK H2 a y (some v)/\Q v H2
noncomputable def yU (td ty tv:TE):TS:=fun D σ H=>tv σ H fun v H1=>td σ H1 fun x H2=>ty σ H2 fun y H3=>∃ a H4,x=.ref a/\gq H3 a y v H4/\D.nx σ H4
section
variable {X:Cx} {o i e value:Expr} {pos pos' tpos:Pos} {td ty tv:TE}
theorem BO (hu:X.A.units+1 < cLine) (ho:PE X o td) (hi:PE X i ty) (hs:lD i):PE X (.Subscript o i pos) (Ag td ty):=by
 intro pins s σ H Q I h
 refine yN PySem.F.slot_dict_getitem.lookup hs (thn (ho pins s σ H _ I h) fun u s1 ⟨x,H1,I1,rx,q1⟩=>thn (hi pins s1 σ H1 _ I1 q1) fun iv s2 ⟨y,H2,I2,ry,a,v,ex,g,q2⟩=>?_)
 subst ex
 obtain rfl:u=Value.ref a:=rx
 exact ⟨uS I2 g,yq hu I2 g ry fun w' s3 I3 rw'=>⟨v,H2,I3,rw',q2⟩⟩
theorem sy (hu:X.A.units+1 < cLine) (ho:PE X o td) (hi:PE X i ty) (hv:PE X value tv) (hs:swapsWith value (some (.Subscript o i pos')) pos.line X.env=pure false) :
  PS X (.Assign [.Subscript o i pos'] value pos) (yU td ty tv):=by
 intro pins s σ H D I h
 refine wpAny_Assign_Subscript (thn (hv pins s σ H _ I h) fun r s1 ⟨v,H1,I1,rv,q1⟩=>thn (ho pins s1 σ H1 _ I1 q1) fun u s2 ⟨x,H2,I2,rx,q2⟩=>thn (hi pins s2 σ H2 _ I2 q2) fun iv s3 ⟨y,H3,I3,ry,a,H4,ex,g,q3⟩=>?_) hs
 subst ex
 obtain rfl:u=Value.ref a:=rx
 exact tV hu I3 g ry rv fun s4 I4=>⟨σ,H4,I4,q3⟩
end
theorem wC {P:Program} {w:World} {H:Hp} (h:Heap) (hb:sysModules < h.objs.size):a_ P w H (h.push { cls:=.type "dict",data:=.dict #[] }) h.objs.size (.dT []) :=
 ⟨Nat.zero_le _,beq_eq_false_iff_ne.mpr (Ne.symm (Nat.ne_of_lt hb)),[],.nil,_,#[],0,Heap.get?_push_size _ rfl,⟨rfl,rfl,rfl⟩,rfl,rfl,List.nodup_nil⟩
noncomputable def Ad:TE:=fun _ H Q=>∀ p,H p=none->Q (.ref p) (upd H p (.dT []))
section
variable {X:Cx} {pos:Pos}
theorem qY:PE X (.Dict [] [] pos) Ad:=fun pins s σ H Q I h =>
 wpAny_Dict_empty ⟨.ref s.heap.objs.size,_,I.laid (a:=s.heap.objs.size) (o:=.dT []) (t':=s.toks) (fun _ _ q=>Heap.get?_push_of_some _ q) (Nat.le_refl _) (wC s.heap I.big),rfl,h _ (I.hok.fresh (Nat.le_refl _))⟩
end
end L2

namespace L2
open PySem PySem.Spec PyProof.Rows
section
variable {prog:Program} {w:World} {A:Around} {R:Result->Shared->Prop} {s:Shared}
theorem BF {elt target iter:Expr} {ifs:List Expr} {scope:Scope} {pos:Pos} {it acc:Value} {env:Env} (I:Nat->Shared->Prop)
  (turn:∀ n s,I n s->wpAny (model prog w) A (pyNext it) (fun r s₁=>match r with
   | none=>R (.ok .next) s₁
   | some v=>wpAny (model prog w) A (letOwnedTupleGo target it v) (fun _ s₁'=>wpAny (model prog w) A (assign target env v) (fun _ s₂ =>
     wpAny (model prog w) A (forIn ifs true fun c r=>if r=true then do let ok <- isTrue c env (eval c env); pure (ForInStep.yield ok) else pure (ForInStep.yield r)) (fun ok s₃ =>
      if ok=true then wpAny (model prog w) A (eval elt env) (fun x s₄ =>
       wpAny (model prog w) A (call (.builtin "list.append") [acc,x]) (fun _ s₅=>∃ m,m < n/\I m s₅) (fun _ _=>False) s₄) (fun _ _=>False) s₃
      else ∃ m,m < n/\I m s₃) (fun _ _=>False) s₂) (fun _ _=>False) s₁') (fun _ _=>False) s₁) (fun _ _=>False) s)
  (n:Nat) (h:I n s) :
  codeAny (model prog w) A (.compLoop (.ListComp elt [⟨target,iter,ifs,0⟩] scope pos) 0 it acc env) R s:=by
 refine codeAny_loop rfl I (fun n s hI=>?_) n h
 show wpAny _ A ((compTurn (.ListComp elt [⟨target,iter,ifs,0⟩] scope pos) 0 it acc env).onRaise (fun x=>do noteFrame x env; theTreesLotGoes x)) _ _ s
 refine wpAny_noted ?_
 rw [compTurn_list]
 refine wpAny_bind (wpAny_standAt (wpAny_bind (wpAny_mono (turn n s hI) (fun r s₁ h₁=>?_) fun _ _ h'=>h'.elim)))
 cases r with
 | none=>exact wpAny_pure h₁
 | some v =>
  refine wpAny_bind (wpAny_mono h₁ (fun _ s₁' h₁'=>?_) fun _ _ h'=>h'.elim)
  refine wpAny_bind (wpAny_mono h₁' (fun _ s₂ h₂=>wpAny_bind (wpAny_mono h₂ (fun ok s₃ h₃=>?_) fun _ _ h'=>h'.elim)) fun _ _ h'=>h'.elim)
  cases ok with
  | false=>exact wpAny_pure ⟨rfl,h₃⟩
  | true =>
   exact wpAny_bind (wpAny_bind (wpAny_mono h₃ (fun x s₄ h₄=>wpAny_bind (wpAny_mono h₄ (fun _ s₅ h₅=>wpAny_pure (wpAny_pure ⟨rfl,h₅⟩)) fun _ _ h'=>h'.elim)) fun _ _ h'=>h'.elim))
end
theorem kW {env:Env}:∀ (names:List (Str × NameKind)) (cs:List (Str × Addr)),(∀ y∈names,y.2=.free->∃ c,env.cells.lookup y.1=some c) ->
  (∀ x c,cs.lookup x=some c->env.cells.lookup x=some c) ->
  ∃ cl,(forIn names cs fun (p:Str × NameKind) (r:List (Str × Addr))=>if (p.2==NameKind.free)=true then (do let c <- cellOf env p.1; pure (ForInStep.yield ((p.1,c)::r))) else pure (ForInStep.yield r):Sem (List (Str × Addr)))=pure cl /\
   (∀ x c,cl.lookup x=some c->env.cells.lookup x=some c)/\(∀ x c,cs.lookup x=some c->cl.lookup x=some c)/\∀ y∈names,y.2=.free->cl.lookup y.1=env.cells.lookup y.1
 | [],cs,_,hc=>⟨cs,rfl,hc,fun _ _ h=>h,fun y hy=>absurd hy (by simp)⟩
 | (x,k)::r,cs,h,hc=>by
  have hr:∀ y∈r,y.2=.free->∃ c,env.cells.lookup y.1=some c:=fun y hy=>h y (List.mem_cons_of_mem _ hy)
  by_cases hk:k=.free
  ·subst hk
   obtain ⟨c,e⟩:=h (x,.free) List.mem_cons_self rfl
   have hc':∀ z d,((x,c)::cs).lookup z=some d->env.cells.lookup z=some d:=fun z d q=>by
    by_cases hz:z=x
    ·subst hz
     rw [List.lookup_cons_self] at q
     cases q; exact e
    ·rw [List.lookup_cons,show (z==x)=false from beq_eq_false_iff_ne.mpr hz] at q
     exact hc z d q
   obtain ⟨cl,e1,e2,e3,e4⟩:=kW r ((x,c)::cs) hr hc'
   refine ⟨cl,?_,e2,fun z d q=>?_,fun y hy hf=>?_⟩
   ·rw [List.forIn_cons]
    simp only [beq_self_eq_true,if_true]
    unfold cellOf
    rw [e]
    simp only [pure_bind]
    exact e1
   ·by_cases hz:z=x
    ·subst hz
     have:=hc z d q
     rw [e] at this
     exact e3 z d (by rw [List.lookup_cons_self]; exact this)
    ·exact e3 z d (by rw [List.lookup_cons,show (z==x)=false from beq_eq_false_iff_ne.mpr hz]; exact q)
   ·rcases List.mem_cons.mp hy with z|z
    ·subst z
     rw [e3 x c (List.lookup_cons_self),e]
    ·exact e4 y z hf
  ·have hb:(k==NameKind.free)=false:=beq_eq_false_iff_ne.mpr hk
   obtain ⟨cl,e1,e2,e3,e4⟩:=kW r cs hr hc
   refine ⟨cl,?_,e2,e3,fun y hy hf=>?_⟩
   ·rw [List.forIn_cons]
    simp only [hb,Bool.false_eq_true,if_false,pure_bind]
    exact e1
   ·rcases List.mem_cons.mp hy with z|z
    ·subst z; exact absurd hf hk
    ·exact e4 y z hf
theorem mE {env:Env} {scope:Scope} (h:∀ y∈scope.names,y.2=.free->∃ c,env.cells.lookup y.1=some c) :
  ∃ cl,closureFor scope env=pure cl/\(∀ x c,cl.lookup x=some c->env.cells.lookup x=some c)/\∀ y∈scope.names,y.2=.free->cl.lookup y.1=env.cells.lookup y.1:=by
 obtain ⟨cl,e1,e2,_,e4⟩:=kW (env:=env) scope.names [] h (fun x c q=>by cases q)
 refine ⟨cl,?_,e2,e4⟩
 unfold closureFor
 show ((forIn scope.names ([]:List (Str × Addr)) fun (p:Str × NameKind) (r:List (Str × Addr))=>if (p.2==NameKind.free)=true then (do let c <- cellOf env p.1; pure (ForInStep.yield ((p.1,c)::r))) else pure (ForInStep.yield r):Sem (List (Str × Addr)))>>=fun s=>pure s)=pure cl
 rw [e1]
 rfl
noncomputable def aM (X:Cx) (scope:Scope) (cl:List (Str × Addr)) (N':List Str) (fp:List Addr) (s3:Shared) (H3:Hp):Cx :=
 { X with N:=N',s₀:=s3,H₀:=H3,env:=compEnvC scope cl s3.heap.objs.size X.env,outer:=X.stack,stack:=X.stack,ex:=fp,fn:=fun x=>decide (scope.names.lookup x=some .cell),pn:=[],xe:=fun _ _=>False }
noncomputable def PF (X:Cx) (ifs:List Expr) (t:TT):Prop :=
 ∀ (pins:List (Addr × Obj)) (s:Shared) (σ:St) (H:Hp) (Q:Bool->Hp->Prop),Inv X pins σ H s->t σ H Q ->
  wpAny (model X.prog X.w) X.A (forIn ifs true fun c r=>if r=true then do let ok <- isTrue c X.env (eval c X.env); pure (ForInStep.yield ok) else pure (ForInStep.yield r)) (TP X pins σ Q) X.xe s
theorem pS {X:Cx}:PF X [] (fun _ H Q=>Q true H):=fun _ _ _ H _ I h=>wpAny_tests_nil ⟨H,I,h⟩
theorem ng {X:Cx} {c:Expr} {t:TT} (hc:PT X c t):PF X [c] t:=fun pins s σ H Q I h=>wpAny_tests_one (hc pins s σ H Q I h)
noncomputable def j8 (k:Nat) (wi:TI) (g:TG) (tt:TT) (te:TE):TE:=fun σ H Q=>wi σ H fun J H1=>∀ l,H1 l=none->∃ W:Nat->Nat->Hp->Prop,(∃ m,W 0 m (upd H1 l (.lst [])))/\∀ i m H,W i m H ->
 (J.stop i H/\Q (.ref l) H)\/(J.go i H/\∀ x H',J.yld i H x H'->g x (σ++List.replicate k none) H' fun σ2 H2=>(∀ (j:Nat) v,(σ++List.replicate k none)[j]?=some (some v)->σ2[j]?=some (some v))/\tt σ2 H2 fun b H3 =>
  if b=true then te σ2 H3 fun y H4=>∃ xs,H4 l=some (.lst xs)/\xs.length < sizeLine/\∃ m',m' < m/\W (i+1) m' (upd H4 l (.lst (xs++[y]))) else ∃ m',m' < m/\W (i+1) m' H3)
theorem g_:∀ (names:List (Str × NameKind)) (n:Nat) (acc:List (Str × Addr)),cellsFrom n names acc=cellsFrom n names []++acc
 | [],_,_=>rfl
 | (x,k)::r,n,acc=>by
  unfold cellsFrom
  split
  ·rw [g_ r (n+1) ((x,n)::acc),g_ r (n+1) [(x,n)],List.append_assoc]; rfl
  ·exact g_ r n acc
theorem jv {x:Str} {c:Addr}:∀ (names:List (Str × NameKind)) (n:Nat) (acc:List (Str × Addr)),(x,c)∈cellsFrom n names acc->(x,NameKind.cell)∈names\/(x,c)∈acc
 | [],_,_,h=>.inr h
 | (y,k)::r,n,acc,h=>by
  unfold cellsFrom at h
  split at h
  ·rename_i hk
   rcases jv r (n+1) _ h with z|z
   ·exact .inl (List.mem_cons_of_mem _ z)
   ·rcases List.mem_cons.mp z with e|e
    ·cases e
     rw [beq_iff_eq.mp hk]
     exact .inl List.mem_cons_self
    ·exact .inr e
  ·rcases jv r n acc h with z|z
   ·exact .inl (List.mem_cons_of_mem _ z)
   ·exact .inr z
theorem gH {α:Type}:∀ {l:List (Str × α)} {x:Str} {a:α},(l.map (·.1)).Nodup->(x,a)∈l->l.lookup x=some a
 | (y,b)::r,x,a,nd,h=>by
  obtain ⟨n1,n2⟩:=List.nodup_cons.mp nd
  rcases List.mem_cons.mp h with e|e
  ·cases e; exact List.lookup_cons_self
  ·have hne:x≠y:=fun z=>n1 (List.mem_map.mpr ⟨(x,a),e,z⟩)
   rw [List.lookup_cons,beq_eq_false_iff_ne.mpr hne]
   exact gH n2 e
theorem kN {scope:Scope} {n:Nat} {cl:List (Str × Addr)} (nd:(scope.names.map (·.1)).Nodup) (x:Str):(scope.names.lookup x=some .cell/\∃ c,(cellsFrom n scope.names cl).lookup x=some c/\(x,c)∈cellsFrom n scope.names [])\/(scope.names.lookup x≠some .cell/\(cellsFrom n scope.names cl).lookup x=cl.lookup x):=by
 rw [g_]
 by_cases h:scope.names.lookup x=some .cell
 ·refine .inl ⟨h,?_⟩
  obtain ⟨c,e⟩:=jk (n:=n) h
  exact ⟨c,by rw [List.lookup_append,e]; rfl,mem_of_lookup e⟩
 ·refine .inr ⟨h,?_⟩
  cases e:(cellsFrom n scope.names []).lookup x with
  | none=>rw [List.lookup_append,e]; rfl
  | some c =>
   rcases jv _ _ _ (mem_of_lookup e) with z|z
   ·exact absurd (gH nd z) h
   ·cases z
theorem qV {M:Model} {A:Around} {E:Value->Shared->Prop} {s:Shared} {scope:Scope} {cl:List (Str × Addr)} {g:Addr} {env:Env} {qual:Str} {Q:Env->Shared->Prop}
  (hQ:Q { scope:=scope,locals:=s.heap.objs.size,globals:=g,cells:=cellsFrom (s.heap.objs.size+1) scope.names cl,qual:=qual,func:=none,code:=env.code,frame:=env.frame,builtins:=env.builtins } { s with heap:=pushCells (s.heap.push { cls:=.type "dict",data:=.dict #[] }) scope.names }) :
  wpAny M A (newFunctionEnv scope g cl [] qual none .none (some env)) Q E s:=by
 simp only [newFunctionEnv,Option.isSome_some,if_true]
 refine wpAny_bind (wpAny_alloc ?_)
 refine wpAny_bind (wpAny_layCells _ (fun name kind cells=>by cases hkc:kind==NameKind.cell <;> simp [hkc]) _ _ _ _ ?_)
 rw [show ({ s with heap:=s.heap.push { cls:=.type "dict",data:=.dict #[] } }:Shared).heap.objs.size=s.heap.objs.size+1 from Heap.size_push ..]
 refine wpAny_bind ?_
 rw [List.forIn_nil]
 exact wpAny_pure (wpAny_pure hQ)
structure dU (X:Cx) (scope:Scope) (N':List Str) (k:Nat):Prop where
 fr:∀ y∈scope.names,y.2=.free->X.env.kindOf y.1=some .cell\/X.env.kindOf y.1=some .free
 nd:(scope.names.map (·.1)).Nodup
 kind:scope.kind=.function
 names:∀ y∈scope.names,y.2=.local->scope.names.lookup y.1=some .local
 len:N'.length=X.N.length+k
 old:∀ (i:Nat) (x:Str),i < X.N.length->N'[i]?=some x->Vis (relabel scope X.env) x->X.N[i]?=some x/\(x,NameKind.free)∈scope.names/\(relabel scope X.env).names.lookup x≠some .local
section
variable {X:Cx} {scope:Scope} {N':List Str} {k:Nat} {cl:List (Str × Addr)} {pins:List (Addr × Obj)} {σ:St} {H:Hp} {s3 s4:Shared} {fp:List Addr}
theorem rZ (C:dU X scope N' k) (hc:X.calm=true) (I:Inv X pins σ H s3) (hf:∀ b∈fp,cG X pins H b) (hfl:∀ b∈fp,b < s3.heap.objs.size) (hcl1:∀ x c,cl.lookup x=some c->X.env.cells.lookup x=some c)
  (hcl2:∀ y∈scope.names,y.2=.free->cl.lookup y.1=X.env.cells.lookup y.1) {cl':List (Str × Addr)} (hcl':cl'=cellsFrom (s3.heap.objs.size+1) scope.names cl) (h':Heap) (hns:h'.Ns s3.heap.objs.size fun _=>none) (hk:∀ b o,s3.heap.get? b=some o->h'.get? b=some o) (hown:CellsOk h' (s3.heap.objs.size+1) (cellsFrom (s3.heap.objs.size+1) scope.names [])) :
  Inv (aM X scope cl' N' fp s3 H) [] (σ++List.replicate k none) H { s3 with heap:=h' }:=by
 have fpold:∀ b∈fp,∀ o,X.base.get? b≠some o:=fun b hb o e=>by
  rcases (hf b hb).2.2.2.1 with z|z
  ·exact I.ok.noex b o e z
  ·exact absurd (Nat.lt_of_lt_of_le (Heap.lt_size (I.ok.bs b o e).1) z) (Nat.lt_irrefl _)
 have own:∀ x c,cl'.lookup x=some c->(scope.names.lookup x=some .cell/\(x,c)∈cellsFrom (s3.heap.objs.size+1) scope.names []/\s3.heap.objs.size < c/\h'.IsCell c none)\/(scope.names.lookup x≠some .cell/\cl.lookup x=some c):=fun x c e=>by
  rw [hcl'] at e
  rcases kN (n:=s3.heap.objs.size+1) (cl:=cl) C.nd x with ⟨h1,c',e1,e2⟩|⟨h1,e1⟩
  ·rw [e1] at e; cases e
   have:=hown.empty x c e2
   exact .inl ⟨h1,e2,this.2,this.1⟩
  ·rw [e1] at e; exact .inr ⟨h1,e⟩
 have fre:∀ y∈scope.names,y.2=.free->cl'.lookup y.1=X.env.cells.lookup y.1:=fun y hy hf=>by
  rw [hcl']
  rcases kN (n:=s3.heap.objs.size+1) (cl:=cl) C.nd y.1 with ⟨h1,_⟩|⟨_,e1⟩
  ·have:=gH C.nd (show (y.1,y.2)∈scope.names from hy)
   rw [h1,hf] at this; cases this
  ·rw [e1]; exact hcl2 y hy hf
 have ncl:∀ x c,cl.lookup x=some c->c < s3.heap.objs.size:=fun x c e=>by
  obtain ⟨v,o,ho,_⟩:=I.cell x c (hcl1 x c e)
  exact Heap.lt_size ho
 have ok:(aM X scope cl' N' fp s3 H).Ok:=by
  refine ⟨I.ok.mod,C.kind,I.ok.glob,I.ok.blt,Nat.le_refl _,fun x y c h1 h2=>?_,fun x hx=>?_,fun x c hfn e=>?_,I.ok.hd,I.ok.frames,.inl rfl,fun b hb=>?_,I.bs,Nat.le_trans I.ok.bsz I.sz,fun b o e hb=>fpold b hb o e,fun b hb hb2=>?_,I.stack,I.jD⟩
  ·rcases own x c h1 with ⟨a1,a2,a3,a4⟩|⟨a1,a2⟩
   ·rcases own y c h2 with ⟨b1,b2,b3,b4⟩|⟨b1,b2⟩
    ·exact name_of_addr hown.apart a2 b2
    ·exact absurd (ncl y c b2) (Nat.lt_asymm a3)
   ·rcases own y c h2 with ⟨b1,b2,b3,b4⟩|⟨b1,b2⟩
    ·exact absurd (ncl x c a2) (Nat.lt_asymm b3)
    ·exact I.ok.inj x y c (hcl1 x c a2) (hcl1 y c b2)
  ·have hx':(relabel scope X.env).names.lookup x=some .cell\/(relabel scope X.env).names.lookup x=some .free:=hx
   have:(x,NameKind.free)∈scope.names\/(x,NameKind.cell)∈scope.names:=by
    have all:∀ (ns:List (Str × NameKind)),((ns.map fun (n,k)=>if (k==.free&&X.env.scope.kind==.function&&X.env.kindOf n==some .cell) then (n,NameKind.cell) else (n,k)).lookup x=some .cell\/(ns.map fun (n,k)=>if (k==.free&&X.env.scope.kind==.function&&X.env.kindOf n==some .cell) then (n,NameKind.cell) else (n,k)).lookup x=some .free)->(x,NameKind.free)∈ns\/(x,NameKind.cell)∈ns:=by
     intro ns
     induction ns with
     | nil=>intro h; rcases h with h|h <;> simp at h
     | cons y r ih =>
      intro h
      obtain ⟨n,kd⟩:=y
      have hr:=ih
      simp only [List.map_cons] at h
      by_cases hxn:x=n
      ·subst hxn
       by_cases hkf:kd=.free
       ·subst hkf; exact .inl List.mem_cons_self
       ·have hb:(kd==NameKind.free)=false:=beq_eq_false_iff_ne.mpr hkf
        simp only [hb,Bool.false_and,Bool.false_eq_true,if_false,List.lookup_cons_self] at h
        rcases h with h|h
        ·rw [Option.some.inj h]; exact .inr List.mem_cons_self
        ·exact absurd (Option.some.inj h) hkf
      ·have hb:(x==n)=false:=beq_eq_false_iff_ne.mpr hxn
       refine (hr ?_).imp (List.mem_cons_of_mem _) (List.mem_cons_of_mem _)
       by_cases hcnd:(kd==NameKind.free&&X.env.scope.kind==.function&&X.env.kindOf n==some .cell)=true
       ·simp only [if_pos hcnd,List.lookup_cons,hb] at h
        exact h
       ·simp only [if_neg hcnd,List.lookup_cons,hb] at h
        exact h
    exact all scope.names hx'
   rcases this with this|this
   ·obtain ⟨c,e⟩:=I.ok.has x (C.fr _ this rfl)
    exact ⟨c,(fre _ this rfl).trans e⟩
   ·rcases kN (n:=s3.heap.objs.size+1) (cl:=cl) C.nd x with ⟨h1,c',e1,e2⟩|⟨h1,_⟩
    ·exact ⟨c',by show cl'.lookup x=_; rw [hcl']; exact e1⟩
    ·exact absurd (gH C.nd this) h1
  ·rcases own x c e with ⟨a1,a2,a3,a4⟩|⟨a1,a2⟩
   ·exact Nat.le_of_lt a3
   ·exact absurd (of_decide_eq_true hfn) a1
  ·obtain ⟨f0,f1,f2,f3,f4,f5⟩:=hf b hb
   refine ⟨?_,fun x c e=>?_⟩
   rotate_left
   ·rcases own x c e with ⟨a1,a2,a3,a4⟩|⟨a1,a2⟩
    ·exact fun z=>absurd (hfl b hb) (by rw [<- z]; exact Nat.lt_asymm a3)
    ·exact f4 x c (hcl1 x c a2)
   intro z
   have hz:b=s3.heap.objs.size:=z
   exact absurd (hfl b hb) (by rw [hz]; exact Nat.lt_irrefl _)
  ·obtain ⟨f0,f1,f2,f3,f4,f5⟩:=hf b hb
   rcases List.mem_cons.mp (I.kh b hb2) with z|z
   ·exact f1 z
   ·exact f2 z
 refine ⟨ok,rfl,I.bare,Un.kept hk,⟨fun _=>none,hns,fun i x v e1 e2 e3=>?_⟩,fun x c e=>?_,I.hok.fresh (Nat.le_refl _),fun x c e=>?_,fun p hp=>absurd (show p∈([]:List (Addr × Obj)) from hp) (by simp),I.hok.kept hk,?_⟩
 ·have hi:i < σ.length:=by
   by_cases hi:i < σ.length
   ·exact hi
   ·rw [List.getElem?_append_right (by omega),List.getElem?_replicate] at e2
    split at e2 <;> cases e2
  rw [List.getElem?_append_left hi] at e2
  obtain ⟨o1,o2,o3⟩:=C.old i x (by rw [<- I.len]; exact hi) e1 e3
  obtain ⟨m,hn,hl⟩:=I.loc
  have hkk:=C.fr _ o2 rfl
  obtain ⟨u,r,l⟩:=hl i x v o1 e2 (by rcases hkk with q|q; exact .inr (.inl q); exact .inr (.inr q))
  refine ⟨u,r,?_⟩
  rcases l with ⟨q,_⟩|⟨q,c,e,z⟩
  ·rcases hkk with q'|q' <;> (rw [q] at q'; cases q')
  ·refine .inr ⟨?_,c,(fre _ o2 rfl).trans e,?_⟩
   ·rcases e3 with e3|e3|e3
    ·exact absurd e3 o3
    ·exact .inl e3
    ·exact .inr e3
   ·obtain ⟨o,ho,hd⟩:=z
    exact ⟨o,hk _ _ ho,hd⟩
 ·rcases own x c e with ⟨a1,a2,a3,a4⟩|⟨a1,a2⟩
  ·exact ⟨none,a4⟩
  ·obtain ⟨v,o,ho,hd⟩:=I.cell x c (hcl1 x c a2)
   exact ⟨v,o,hk _ _ ho,hd⟩
 ·rcases own x c e with ⟨a1,a2,a3,a4⟩|⟨a1,a2⟩
  ·exact I.hok.fresh (Nat.le_of_lt a3)
  ·exact I.freeC x c (hcl1 x c a2)
 ·show (σ++List.replicate k none).length=N'.length
  rw [List.length_append,List.length_replicate,I.len,C.len]
theorem nU {elt iter tg:Expr} {ifs:List Expr} {pos:Pos} {g:TG} {tt:TT} {te:TE} {it:Addr} {tn:Nat->Heap->Prop} {J:It} {s2:Shared} {Q:VK} {E:Value->Shared->Prop} (C:dU X scope N' k) (hc:X.calm=true)
  (hg:∀ cl fp s3 H3,PG (aM X scope cl N' fp s3 H3) tg g) (htt:∀ cl fp s3 H3,PF (aM X scope cl N' fp s3 H3) ifs tt) (hte:∀ cl fp s3 H3,PE (aM X scope cl N' fp s3 H3) elt te)
  (hcl1:∀ x c,cl.lookup x=some c->X.env.cells.lookup x=some c) (hcl2:∀ y∈scope.names,y.2=.free->cl.lookup y.1=X.env.cells.lookup y.1)
  (I2:Inv X pins σ H s2) (T:Turn X.prog X.w X.K tg J fp it tn) (st2:tn 0 s2.heap) (f2:∀ b∈fp,cG X pins H b)
  (h2:∀ l,H l=none->∃ W:Nat->Nat->Hp->Prop,(∃ m,W 0 m (upd H l (.lst [])))/\∀ i m H,W i m H ->
   (J.stop i H/\Q (.ref l) H)\/(J.go i H/\∀ x H',J.yld i H x H'->g x (σ++List.replicate k none) H' fun σ2 H2=>(∀ (j:Nat) v,(σ++List.replicate k none)[j]?=some (some v)->σ2[j]?=some (some v))/\tt σ2 H2 fun b H3 =>
    if b=true then te σ2 H3 fun y H4=>∃ xs,H4 l=some (.lst xs)/\xs.length < sizeLine/\∃ m',m' < m/\W (i+1) m' (upd H4 l (.lst (xs++[y]))) else ∃ m',m' < m/\W (i+1) m' H3))
  {R:Value->Addr->Result->Shared->Prop} (hR:∀ l c H' s' m,Inv X pins σ H' s'->Q (.ref l) H'->s'.heap.Ns c m->cG X pins H' c->R (.ref l) c (.ok .next) s') :
  wpAny (model X.prog X.w) X.A (newList []) (fun acc s₃=>wpAny (model X.prog X.w) X.A (newFunctionEnv scope X.env.globals cl [] X.env.qual none .none (some X.env)) (fun cenv s₄ =>
   codeAny (model X.prog X.w) X.A (.compStart (.ListComp elt [⟨tg,iter,ifs,0⟩] scope pos) 0 (.ref it) acc { cenv with scope:=relabel scope X.env }) (R acc cenv.locals) s₄) E s₃) E s2:=by
 refine wpAny_newObj_type ?_
 have hl0:H s2.heap.objs.size=none:=I2.hok.fresh (Nat.le_refl _)
 obtain ⟨W,⟨m0,w0⟩,turn⟩:=h2 s2.heap.objs.size hl0
 have I3:Inv X pins σ (upd H s2.heap.objs.size (.lst [])) { s2 with heap:=s2.heap.push { cls:=.type "list",data:=.seq ([]:List Value).toArray } } :=
  I2.laid (t':=s2.toks) (fun b u e=>Heap.get?_push_of_some _ e) (Nat.le_refl _) ⟨by show 0<=_; omega,[],0,.nil,Heap.get?_push_size _ rfl⟩
 have obj2:∀ b∈fp,∃ o,s2.heap.get? b=some o/\∀ v,o.data≠.cell v:=T.obj _ _ st2
 have lt2:∀ b∈fp,b < s2.heap.objs.size:=fun b hb=>let ⟨o,e,_⟩:=obj2 b hb; Heap.lt_size e
 have f3:∀ b∈fp,cG X pins (upd H s2.heap.objs.size (.lst [])) b:=fun b hb=>⟨by rw [aE (Nat.ne_of_lt (lt2 b hb))]; exact (f2 b hb).1,(f2 b hb).2⟩
 generalize hs3:({ s2 with heap:=s2.heap.push { cls:=.type "list",data:=.seq ([]:List Value).toArray } }:Shared)=s3 at I3 ⊢
 have st3:tn 0 s3.heap:=T.keep _ _ _ st2 fun b hb o e=>by rw [<- hs3]; exact Heap.get?_push_of_some _ e
 generalize hH3:upd H s2.heap.objs.size (.lst [])=H3 at I3 w0 f3
 generalize s2.heap.objs.size=l at turn ⊢ w0
 clear hs3 hH3
 have obj3:∀ b∈fp,∃ o,s3.heap.get? b=some o/\∀ v,o.data≠.cell v:=T.obj _ _ st3
 have lt3:∀ b∈fp,b < s3.heap.objs.size:=fun b hb=>let ⟨o,e,_⟩:=obj3 b hb; Heap.lt_size e
 refine qV ?_
 have hown:=cellsFrom_ok scope.names (s3.heap.push { cls:=.type "dict",data:=.dict #[] }) (s3.heap.objs.size+1) [] ⟨fun _ _ hm=>(nomatch hm),List.Pairwise.nil⟩ (by rw [Heap.size_push]; exact Nat.le_refl _)
 rw [Heap.size_push] at hown
 have hns₁:(pushCells (s3.heap.push { cls:=.type "dict",data:=.dict #[] }) scope.names).Ns s3.heap.objs.size fun _=>none:=(Heap.Ns.new s3.heap (.type "dict")).keeps (pushCells_keeps _ _)
 have hk1:∀ b o,s3.heap.get? b=some o->(pushCells (s3.heap.push { cls:=.type "dict",data:=.dict #[] }) scope.names).get? b=some o:=fun b o e=>pushCells_keeps _ _ b o (Heap.get?_push_of_some _ e)
 generalize hcl':cellsFrom (s3.heap.objs.size+1) scope.names cl=cl'
 generalize pushCells (s3.heap.push { cls:=.type "dict",data:=.dict #[] }) scope.names=h₁ at hown hns₁ hk1
 have I4:Inv (aM X scope cl' N' fp s3 H3) [] (σ++List.replicate k none) H3 { s3 with heap:=h₁ }:=rZ C hc I3 f3 lt3 hcl1 hcl2 hcl'.symm h₁ hns₁ hk1 hown
 have st4:tn 0 h₁:=T.keep _ _ _ st3 fun b _ o e=>hk1 b o e
 have stat:∀ {H':Hp},(∀ b∈fp,H' b=none)->∀ b∈fp,cG (aM X scope cl' N' fp s3 H3) [] H' b:=fun {H'} hn b hb =>
  ⟨hn b hb,(I4.ok.exf b hb).1,I4.ok.exfs b hb,.inl hb,(I4.ok.exf b hb).2,fun p hp=>absurd (show p∈([]:List (Addr × Obj)) from hp) (by simp)⟩
 have loop:∀ s4:Shared,s4={ s3 with heap:=h₁ } ->
   codeAny (model X.prog X.w) X.A (.compLoop (.ListComp elt [⟨tg,iter,ifs,0⟩] scope pos) 0 (.ref it) (.ref l) (compEnvC scope cl' s3.heap.objs.size X.env)) (R (.ref l) s3.heap.objs.size) s4:=by
  rintro s4 rfl
  refine BF (env:=(aM X scope cl' N' fp s3 H3).env) (fun n s'=>∃ i H',Inv (aM X scope cl' N' fp s3 H3) [] (σ++List.replicate k none) H' s'/\tn i s'.heap/\(∀ b∈fp,H' b=none)/\W i n H') ?_ m0 ⟨0,H3,I4,st4,fun b hb=>(f3 b hb).1,w0⟩
  rintro n s5 ⟨i,H5,I5,st5,fr5,w5⟩
  rcases turn i n H5 w5 with ⟨stop,qn⟩|⟨go,step⟩
  ·refine thn (T.done (aM X scope cl' N' fp s3 H3) rfl rfl rfl hc i [] s5 _ H5 _ I5 (stat fr5) st5 stop) fun r s6 ⟨hr,I6⟩=>?_
   subst hr
   obtain ⟨m,hnm,_⟩:=I6.loc
   have I7:Inv X pins σ H5 s6:=I3.jT (ch:=fp) I6.os I6.base I6.hok I6.bare fun b hb=>⟨(f3 b hb).2.2.2.1,(f3 b hb).2.1,(f3 b hb).2.2.2.2.1,(f3 b hb).2.2.2.2.2⟩
   exact hR l _ H5 s6 m I7 qn hnm (I3.fB (Nat.le_refl _) I6.free)
  ·refine thn (T.item (aM X scope cl' N' fp s3 H3) rfl rfl rfl hc i [] s5 _ H5 _ I5 (stat fr5) st5 go) fun r s6 ⟨u,hr,h6⟩=>?_
   subst hr
   refine thn h6 fun _ s7 ⟨x,H7,I7,r7,y7,st7,fr7⟩=>?_
   have I7':=I7.pinned (stat fr7) (T.obj _ _ st7)
   refine thn (hg cl' fp s3 H3 _ s7 _ H7 x u _ I7' r7 (step x H7 y7)) fun _ s8 ⟨σ8,H8,I8,w8,q8⟩=>?_
   refine thn (htt cl' fp s3 H3 _ s8 σ8 H8 _ I8 q8) fun b s9 ⟨H9,I9,q9⟩=>?_
   have again:∀ {H':Hp} {s':Shared},Inv (aM X scope cl' N' fp s3 H3) ([]++gA fp s7.heap) σ8 H' s'->(∃ m',m' < n/\W (i+1) m' H') ->
     ∃ m,m < n/\∃ i H',Inv (aM X scope cl' N' fp s3 H3) [] (σ++List.replicate k none) H' s'/\tn i s'.heap/\(∀ b∈fp,H' b=none)/\W i m H':=fun {H' s'} I' ⟨m',hm,w'⟩=>by
    refine ⟨m',hm,i+1,H',(I'.iF).weak (by rw [I'.len]; exact I4.len) w8,T.keep _ _ _ st7 fun b hb o e=>(I'.pin (b,o) (List.mem_append_right _ (List.mem_append_right _ (iK hb e)))).1,fun b hb=>?_,w'⟩
    obtain ⟨o,e,d⟩:=T.obj _ _ st7 b hb
    exact (I'.pin (b,o) (List.mem_append_right _ (List.mem_append_right _ (iK hb e)))).2.1
   cases b with
   | false=>exact again I9 (by simpa using q9)
   | true =>
    rw [if_pos rfl]
    rw [if_pos rfl] at q9
    refine thn (hte cl' fp s3 H3 _ s9 σ8 H9 _ I9 q9) fun y s10 ⟨yv,H10,I10,r10,xs,hl10,hz,q10⟩=>?_
    refine thn (n6 (X:=aM X scope cl' N' fp s3 H3) _ s10 σ8 H10 (.ref l) [yv] (.ref l) [y] (fun _ H'=>∃ m',m' < n/\W (i+1) m' H') I10 rfl (.cons r10 .nil) ⟨l,xs,yv,rfl,rfl,hl10,hz,q10⟩) fun _ s11 ⟨_,H11,I11,_,q11⟩=>again I11 q11
 exact codeAny_compStart_list (loop _ rfl) (T.self _ 0 _ _ _ st4 (loop _ rfl))
theorem sZ {elt iter tg:Expr} {ifs:List Expr} {pos:Pos} {wi:TI} {g:TG} {tt:TT} {te:TE} (C:dU X scope N' k) (hc:X.calm=true) (hi:PI X tg iter wi)
  (hg:∀ cl fp s3 H3,PG (aM X scope cl N' fp s3 H3) tg g) (htt:∀ cl fp s3 H3,PF (aM X scope cl N' fp s3 H3) ifs tt) (hte:∀ cl fp s3 H3,PE (aM X scope cl N' fp s3 H3) elt te)
  (hs:∀ x,foldedSetIterable iter X.env x=pure x:=by intro _; rfl):PE X (.ListComp elt [⟨tg,iter,ifs,0⟩] scope pos) (j8 k wi g tt te):=by
 intro pins s σ H Q I h
 rw [eval_ListComp]
 obtain ⟨cl,e1,e2,e3⟩:=mE (env:=X.env) (scope:=scope) fun y hy hf=>I.ok.has y.1 (C.fr y hy hf)
 refine wpAny_comprehension_free (use:=none) rfl hs e1 C.kind C.names (thn (hi pins s σ H _ I h) fun v s1 h1=>thn h1 fun itv s2 h2=>?_)
 obtain ⟨it,fp,tn,J,H2,e,I2,T,st2,f2,h2⟩:=h2
 subst e
 refine nU (R:=fun acc c=>compPost (model X.prog X.w) X.A X.xe none (EP X pins σ Q) acc c) C hc hg htt hte e2 e3 I2 T st2 f2 h2 fun l c H' s' m I' q hn fc=>?_
 obtain ⟨f0,f1,f2,f3,f4,f5⟩:=fc
 exact ⟨m,hn,fun h' hsb=>⟨.ref l,H',I'.turned (t':=s'.toks) (fun b o hb e=>(hsb.2 b hb).trans e) f0 f1 f3 f4 f5,rfl,q⟩⟩
theorem r9 {elt iter tg:Expr} {ifs:List Expr} {pos:Pos} {wi:TI} {g:TG} {tt:TT} {te:TE} {j:Nat} {y:Str} {py spos:Pos} (C:dU X scope N' k) (hc:X.calm=true) (hi:PI X tg iter wi)
  (hg:∀ cl fp s3 H3,PG (aM X scope cl N' fp s3 H3) tg g) (htt:∀ cl fp s3 H3,PF (aM X scope cl N' fp s3 H3) ifs tt) (hte:∀ cl fp s3 H3,PE (aM X scope cl N' fp s3 H3) elt te)
  (hN:X.N.Nodup) (hj:X.N[j]?=some y) (hy:X.env.scope.names.lookup y=some .local)
  (hsw:swapsWith (.ListComp elt [⟨tg,iter,ifs,0⟩] scope pos) (some (.Name y py)) spos.line X.env=pure true)
  (hs:∀ x,foldedSetIterable iter X.env x=pure x:=by intro _; rfl):PS X (.Assign [.Name y py] (.ListComp elt [⟨tg,iter,ifs,0⟩] scope pos) spos) (jG (j8 k wi g tt te) (f_ j)):=by
 intro pins s σ H D I h
 rw [exec_Assign_Name_used _ _ _ _ hsw]
 refine wpAny_bind (wpAny_standAt (wpAny_bind ?_))
 show wpAny _ X.A (do let _ <- comprehension (.ListComp elt [⟨tg,iter,ifs,0⟩] scope pos) scope X.env _ (newList []) false (eval iter X.env) (some (assign (.Name y py) X.env))) _ _ s
 obtain ⟨cl,e1,e2,e3⟩:=mE (env:=X.env) (scope:=scope) fun y hy hf=>I.ok.has y.1 (C.fr y hy hf)
 refine wpAny_bind (wpAny_mono (wpAny_comprehension_free (use:=some (assign (.Name y py) X.env)) (Q:=fun _ s'=>SP X pins D .next s') rfl hs e1 C.kind C.names
  (thn (hi pins s σ H _ I h) fun v s1 h1=>thn h1 fun itv s2 h2=>?_)) (fun _ s' hq=>wpAny_pure (wpAny_pure hq)) fun _ _ e=>e)
 obtain ⟨it,fp,tn,J,H2,e,I2,T,st2,f2,h2⟩:=h2
 subst e
 refine nU (Q:=fun x H1=>f_ j x σ H1 D.nx) (R:=fun acc c=>compPost (model X.prog X.w) X.A X.xe (some (assign (.Name y py) X.env)) (fun _ s'=>SP X pins D .next s') acc c) C hc hg htt hte e2 e3 I2 T st2 f2 h2 fun l c H' s' m I' q hn fc=>?_
 obtain ⟨f0,f1,f2,f3,f4,f5⟩:=fc
 show wpAny _ X.A (assign (.Name y py) X.env (.ref l)) _ _ _
 refine wpAny_assign_Name (jr I' hN hj (.inl hy) (v:=.ref l) rfl (fun s'' I'' ch=>?_) (.inr hy))
 obtain ⟨a,hsb,ha⟩:=ch
 have hac:c≠a:=by
  rcases ha with z|z
  ·rw [z]; exact f1
  ·exact fun w=>f4 y a z w.symm
 refine ⟨m,hn.sameBut hsb hac,fun h' hsb2=>⟨_,H',I''.turned (t':=s''.toks) (fun b o hb e=>(hsb2.2 b hb).trans e) f0 f1 f3 f4 f5,q⟩⟩
end
end L2

namespace L2
open PySem PySem.Spec PyProof.Rows
structure Xc (B:Heap) (stack:List Env) (e:Addr) (h:Heap):Prop where
 stays:B.StaysIn h
 new:B.get? e=none
 frames:h.FunFrames B stack
noncomputable def Cov (B:Heap) (stack:List Env) (s:Shared) (H':Hp) (h:Heap):Prop:=∀ b o,h.get? b=some o->(H' b≠none\/∃ o',s.heap.get? b=some o')->b ∉ frs stack->B.get? b=some o
noncomputable def CXg (st:Heap->Heap->Addr->Addr->Prop) (P:Program) (w:World):CXT:=fun stack H s E v s' =>
 ∃ e C B H',v=.ref e/\s'.os=s.os/\AllBare s'.gens/\Un (frs stack) [] H H' s.heap s'.heap/\HOk P w H' s'.heap/\Xc B stack e s'.heap/\st B s'.heap e C/\Cov B stack s H' s'.heap/\E (.ref C) none H'
noncomputable def stF (_:Heap) (h:Heap) (e C:Addr):Prop:=∃ t,h.get? e=some { cls:=.ref C,data:=.fields #[.ref t,.none,.none,.none,.bool false,.none] }
noncomputable def stT (B:Heap) (h:Heap) (e C:Addr):Prop:=∃ a0,h.TracedW B e (.ref C) a0
abbrev CXe (P:Program) (w:World):CXT:=CXg stT P w
abbrev CXr (P:Program) (w:World):CXT:=CXg stF P w
theorem pH {P:Program} {w:World} {H:Hp} {h:Heap} {b:Addr} {ob:HO} (ok:HOk P w H h) (q:H b=some ob):∃ o,h.get? b=some o:=by
 have x:=ok b ob q
 clear q ok
 induction ob with
 | lst xs=>obtain ⟨_,_,_,_,e⟩:=x; exact ⟨_,e⟩
 | tup xs=>obtain ⟨_,_,_,_,e,_⟩:=x; exact ⟨_,e⟩
 | dK kvs=>obtain ⟨_,_,_,_,_,_,_,e,_⟩:=x; exact ⟨_,e⟩
 | dT kvs=>obtain ⟨_,_,_,_,_,_,_,e,_⟩:=x; exact ⟨_,e⟩
 | set S n=>obtain ⟨_,_,_,_,e,_⟩:=x; exact ⟨_,e⟩
 | ins C dx fs=>obtain ⟨_,_,_,e,_⟩:=x; exact ⟨_,e⟩
 | own y=>exact x
 | xd fs=>obtain ⟨_,⟨_,_,_,e,_⟩,_⟩:=x; exact ⟨_,e⟩
 | rng lo hi=>obtain ⟨_,_,_,e⟩:=x; exact ⟨_,e⟩
 | frz o u ih=>exact ⟨o,x.1⟩
 | tbl ps=>exact ⟨_,x⟩
 | met f y=>exact ⟨_,x⟩
 | ext φ=>exact x.2.1
section
variable {P:Program} {w:World} {B h h':Heap} {stack:List Env} {e C:Addr} {s:Shared} {H H':Hp}
theorem jA (hf:∀ b∈frs stack,∃ o,s.heap.get? b=some o/\H b=none) (u:Un (frs stack) [] H H' s.heap h) (ok:HOk P w H' h) (fr:h.FunFrames B stack) (cv:Cov B stack s H' h) (sb:B.StaysIn h') (up:h.UpToSlots h') :
  Un (frs stack) [] H H' s.heap h'/\HOk P w H' h'/\Cov B stack s H' h':=by
 have nf:∀ {b:Addr},H' b≠none->b ∉ frs stack:=fun {b} hb m=>by
  obtain ⟨o,e1,e2⟩:=hf b m
  exact hb (u.free b o e1 e2 (by simp))
 have old:∀ {b:Addr} {o:Obj},h.get? b=some o->(H' b≠none\/∃ o',s.heap.get? b=some o')->b ∉ frs stack->h'.get? b=some o:=fun {b o} e1 e2 e3=>sb b o (cv b o e1 e2 e3)
 have fram:∀ {b:Addr} {o:Obj},b∈frs stack->h.get? b=some o->∃ sl,h'.get? b=some { o with slots:=sl }:=fun {b o} m e1=>by
  obtain ⟨_,o',e2,hd⟩:=fr.mem m
  rw [e1] at e2; cases e2
  exact up b o e1 hd
 refine ⟨⟨fun b o e n hb _=>?_,fun b o e n hb _=>?_,u.free,fun b o e _=>?_,u.tups,u.frzs,u.tbls⟩,fun a o ea=>?_,fun b o e1 e2 e3=>?_⟩
 ·exact old (u.keep b o e n hb (by simp)) (.inr ⟨o,e⟩) hb
 ·obtain ⟨sl,e1⟩:=u.slot b o e n hb (by simp)
  obtain ⟨sl2,e2⟩:=fram hb e1
  exact ⟨sl2,e2⟩
 ·obtain ⟨o1,e1⟩:=u.there b o e (by simp)
  by_cases hb:b∈frs stack
  ·obtain ⟨sl,e2⟩:=fram hb e1
   exact ⟨_,e2⟩
  ·exact ⟨o1,old e1 (.inr ⟨o,e⟩) hb⟩
 ·refine (ok a o ea).stay (fun b v hb q=>?_) (fun _ q=>q) fun _ _ q=>q
  have hne:H' b≠none:=by
   rcases hb with rfl|hb
   ·rw [ea]; exact fun z=>by cases z
   ·rw [hb]; exact fun z=>by cases z
  exact old q (.inl hne) (nf hne)
 ·-- what is there now was there
  have:∃ o1,h.get? b=some o1:=by
   rcases e2 with z|⟨o2,z⟩
   ·cases q:H' b with
    | none=>exact absurd q z
    | some ob=>exact pH ok q
   ·exact u.there b o2 z (by simp)
  obtain ⟨o1,e4⟩:=this
  have e5:=cv b o1 e4 e2 e3
  have e6:=sb b o1 e5
  rw [e1] at e6; cases e6
  exact e5
end
section
variable {CX:CXT} {P:Program} {w:World} {K:PySem.W.Frag} {mg:Str->Option Value} {base:Heap} {N:List Str} {qual:Str} {scope:Scope} {f:Addr} {cd:Value} {A:Around} {outer:List Env} {s:Shared} {H:Hp} {E E':XK}
theorem gQ {X:Cx} {pins:List (Addr × Obj)} {σ:St} {H:Hp} {s:Shared} (I:Inv X pins σ H s):∀ b∈frs X.stack,∃ o,s.heap.get? b=some o/\H b=none:=fun b hb=>by
 obtain ⟨_,o,e,_⟩:=I.stack.mem hb
 exact ⟨o,e,I.jD b hb⟩
theorem m_ {st:Heap->Heap->Addr->Addr->Prop} (hst:∀ B h e C,st B h e C->stF B h e C\/stT B h e C) (hE:∀ C H,E' (.ref C) none H->E (.ref C) none H) {pins:List (Addr × Obj)} {σ:St} {H1:Hp} {s1:Shared} {v:Value} {s':Shared} (hA:A.frames=some outer)
  (I:Inv (cD (CXe P w) P w K mg base N qual scope f cd A outer s H E) pins σ H1 s1) (hx:CXg st P w (cD (CXe P w) P w K mg base N qual scope f cd A outer s H E).stack H1 s1 E' v s'):(cD (CXe P w) P w K mg base N qual scope f cd A outer s H E).xe v s':=by
 obtain ⟨e,C,B,H',rfl,h1,h2,u,ok,xc,hs,cv,hE'⟩:=hx
 have hstk:(cD (CXe P w) P w K mg base N qual scope f cd A outer s H E).stack=envOfC qual scope s.heap.objs.size f cd::outer:=rfl
 have hfr:(A.deeper (envOfC qual scope s.heap.objs.size f cd)).frames=some (envOfC qual scope s.heap.objs.size f cd::outer):=Around.frames_deeper hA
 have hf:(envOfC qual scope s.heap.objs.size f cd).frame=some s.heap.objs.size:=rfl
 have fin:∀ (h'':Heap) (a0:Value),Heap.LeftW B (envOfC qual scope s.heap.objs.size f cd::outer) e (.ref C) a0 s'.heap h''->CXe P w outer H s E (.ref e) { s' with heap:=h'' }:=fun h'' a0 hL=>by
  obtain ⟨k1,k2,k3,k4⟩:=hL
  obtain ⟨u2,ok2,cv2⟩:=jA (gQ I) u ok xc.frames cv k1 k4
  have nL:∀ {b:Addr} {o:Obj},s.heap.get? b=some o->b≠s.heap.objs.size:=fun {b o} q=>Nat.ne_of_lt (Heap.lt_size q)
  have mem:∀ {b:Addr},b∈frs (envOfC qual scope s.heap.objs.size f cd::outer) ↔ b=s.heap.objs.size\/b∈frs outer:=fun {b}=>by
   unfold frs
   rw [List.filterMap_cons,hf]
   exact List.mem_cons
  have ub:Un (frs outer) [] H H1 s.heap s1.heap:=I.base
  refine ⟨e,C,B,H',rfl,h1.trans I.os,h2,⟨fun b o q n hb _=>?_,fun b o q n hb _=>?_,fun b o q n _=>?_,fun b o q _=>?_,fun b xs q=>?_,fun b o u q=>?_,fun b ps q=>?_⟩,ok2,⟨k1,xc.new,k2.2.2⟩,⟨a0,k3⟩,fun b o q1 q2 q3=>?_,hE _ _ hE'⟩
  ·exact u2.keep b o (ub.keep b o q n hb (by simp)) (ub.free b o q n (by simp)) (fun z=>(mem.mp z).elim (nL q) hb) (by simp)
  ·obtain ⟨sl,q1⟩:=ub.slot b o q n hb (by simp)
   obtain ⟨sl2,q2⟩:=u2.slot b _ q1 (ub.free b o q n (by simp)) (mem.mpr (.inr hb)) (by simp)
   exact ⟨sl2,q2⟩
  ·obtain ⟨o1,q1⟩:=ub.there b o q (by simp)
   exact u2.free b o1 q1 (ub.free b o q n (by simp)) (by simp)
  ·obtain ⟨o1,q1⟩:=ub.there b o q (by simp)
   exact u2.there b o1 q1 (by simp)
  ·exact u2.tups b xs (ub.tups b xs q)
  ·exact u2.frzs b o u (ub.frzs b o u q)
  ·obtain ⟨m1,q1⟩:=ub.tbls b ps q
   obtain ⟨m2,q2⟩:=u2.tbls b _ q1
   exact ⟨m1++m2,by rw [<- Array.append_assoc]; exact q2⟩
  ·have hfree:H' s.heap.objs.size=none:=by
    obtain ⟨oL,eL,hL⟩:=gQ I s.heap.objs.size (mem.mpr (.inl rfl))
    exact u2.free _ oL eL hL (by simp)
   refine cv2 b o q1 ?_ fun z=>?_
   ·rcases q2 with z|⟨o',z⟩
    ·exact .inl z
    ·exact .inr (ub.there b o' z (by simp))
   ·rcases mem.mp z with z|z
    ·rcases q2 with y|⟨o',y⟩
     ·rw [z] at y; exact y hfree
     ·exact nL y z
    ·exact q3 z
 show wpAny (model P w) (A.deeper (envOfC qual scope s.heap.objs.size f cd)) (leaving (envOfC qual scope s.heap.objs.size f cd) (.ref e)) (fun _ s''=>CXe P w outer H s E (.ref e) s'') (fun e' s''=>CXe P w outer H s E e' s'') s'
 rcases hst _ _ _ _ hs with ⟨t,he⟩|⟨a0,ht⟩
 ·exact wpAny_leaving_firstW hfr xc.frames hf he xc.stays xc.new rfl (a0:=.ref t) rfl rfl fun h'' hL=>fin h'' _ hL
 ·exact wpAny_leaving_nextW hfr xc.frames hf ht xc.stays xc.new fun h'' hL=>fin h'' _ hL
end
end L2

namespace L2
open PySem PySem.Spec PyProof.Rows
theorem jX {K:PySem.W.Frag} {h:Heap} {C:Addr} {bmB:List Value} {newId:String} (X:K.In h) (q:PySem.W.excIn K C bmB newId=true) :
  ∃ bm N nm q bs hdct sn sub ab col dd k0 k1 k2 k3 k5 mN,h.get? C=some (excClassObj nm q C N bs bm hdct sn sub ab col dd k0 k1 k2 k3 k5 newId)/\h.Ns N mN/\mN "__init__" = none/\OwnTail h bmB bm:=by
 unfold PySem.W.excIn at q
 split at q
 case h_2=>cases q
 rename_i dd cd sl ho
 split at q
 case h_2=>cases q
 rename_i C' bm k0 k1 k2 k3 n k5 hm hs
 simp only [Bool.and_eq_true,beq_iff_eq,Bool.not_eq_true'] at q
 obtain ⟨⟨⟨⟨⟨z1,z2⟩,z3⟩,z4⟩,z5⟩,z6⟩:=q
 subst z1; subst z2
 obtain ⟨nm,bs,mro,ns,qn,hd,sn,sub,ab,col,del⟩:=cd
 dsimp only at hm z3 z5 z6
 subst hm; subst z3
 obtain ⟨l⟩:=sl
 have z7:l=[k0,k1,k2,k3,some (.builtin n),k5]:=hs
 subst z7
 exact ⟨bm,ns,nm,qn,bs,hd,sn,sub,ab,col,dd,k0,k1,k2,k3,k5,_,X _ _ ho,.of_isNs (PySem.W.isNs_of_in X z5),PySem.W.nsMap_none_of_in X z5 z6,PySem.W.tail_of_in X z4⟩
section
variable {X:Cx}
theorem za {x:Str} {C:Addr} {B newId initId:String} {bmB:List Value} {np cpos pos:Pos} {a:Expr} {v:V} {E:XK} (FB:ExcBaseFacts B newId initId bmB) (ex:PySem.W.excIn X.K C bmB newId=true) (hm:X.mg x=some (.ref C)) (hg:Gl X x) (hc:X.calm=true) (hdb:(x==("__debug__" : Str))=false)
  (ha:PE X a (tC v)) (he:starEach [a] X.env=(false,eval a X.env)::starEach [] X.env) (hx:Passes (CXr X.prog X.w) X E):PS X (.Raise (some (.Call (.Name x np) [a] [] cpos)) none pos) (fun _ _ H=>E (.ref C) none H):=by
 intro pins s σ H D I h
 obtain ⟨tl,N,nm,q,bs,hdct,sn,sub,ab,col,dd,k0,k1,k2,k3,k5,mN,hC,hN,hni,T⟩:=jX I.ok.mod.kin ex
 refine wpAny_Raise_call_subT (C:=C) (nm:=nm) (q:=q) (N:=N) (bs:=bs) (bm:=tl) (hdct:=hdct) (sn:=sn) (sub:=sub) (ab:=ab) (col:=col) (dd:=dd) (k0:=k0) (k1:=k1) (k2:=k2) (k3:=k3) (k5:=k5)
  FB (mN:=mN) (T.hasType FB.hasBase) (I.ok.hd hc) (by rw [he]; rfl) hni (e_ I hg hm ⟨rfl,?_⟩ hdb)
 have ha':=fy ha gb he cpos pins s σ H (fun vs H'=>vs.length<=1/\E (.ref C) none H') I ⟨by simp,h⟩
 rw [he] at ha' ⊢
 refine Calls.evalArgs_plain (wpAny_mono ha' (fun vs s2 ⟨ws,H2,I2,r,hl,hE⟩=>⟨rfl,?_,I2.bk _ _ hC,hN.keeps I2.bk,T.keeps I2.bk,fun h' e hmd=>?_⟩) fun _ _ z=>z)
 ·show vs.length<=sizeLine
  rw [<- r.length,sizeLine_eq]; omega
 ·have old:∀ {b:Addr},(H2 b≠none\/∃ o',s2.heap.get? b=some o')->b < s2.heap.objs.size:=fun {b} hb=>by
   rcases hb with z|⟨o',z⟩
   ·cases q:H2 b with
    | none=>exact absurd q z
    | some ob=>exact I2.hok.lt q
   ·exact Heap.lt_size z
  refine hx pins σ H2 s2 _ _ I2 ⟨e,C,PySem.W.hideAll s2.heap (frs X.stack),H2,rfl,rfl,I2.bare,Un.kept hmd.keeps,I2.hok.kept hmd.keeps,⟨fun b o z=>hmd.keeps b o (PySem.W.of_hideAll _ z),?_,?_⟩,?_,fun b o z1 z2 z3=>?_,hE⟩
  ·cases z:(PySem.W.hideAll s2.heap (frs X.stack)).get? e with
   | none=>rfl
   | some o=>have:=PySem.W.of_hideAll _ z; rw [hmd.new] at this; cases this
  ·refine (PySem.W.funFrames_hide I2.stack fun env hv b hb=>List.mem_filterMap.mpr ⟨env,hv,hb⟩).of_keeps fun b o z _=>⟨o,hmd.keeps b o z,rfl⟩
  ·obtain ⟨t,z,_⟩:=hmd.there
   exact ⟨t,z⟩
  ·have:∃ o1,s2.heap.get? b=some o1:=by
    rcases z2 with z|⟨o',z⟩
    ·cases q:H2 b with
     | none=>exact absurd q z
     | some ob=>exact pH I2.hok q
    ·exact ⟨o',z⟩
   obtain ⟨o1,z4⟩:=this
   have z5:=hmd.keeps b o1 z4
   rw [z1] at z5; cases z5
   exact PySem.W.hideAll_get _ z4 z3
theorem jK {A:Around} {E:Value->Shared->Prop} {pins:List (Addr × Obj)} {s:Shared} {σ:St} {H:Hp} {x:Str} {u:Value} {pos:Pos} {Q:Value->Shared->Prop} (I:Inv X pins σ H s) (hg:Gl X x) (hm:X.mg x=some u) (hd:(x==("__debug__" : Str))=false) (h:Q u s):wpAny (model X.prog X.w) A (eval (.Name x pos) X.env) Q E s:=by
 refine Calls.Name_function_global I.ok.kind hg (Calls.loadGlobal_global ?_ hm h) hd
 rw [I.ok.glob]; exact I.mod.glob.keeps I.bk
theorem jB {CX:CXT} {k:Nat} {f:Addr} {fd:FuncData} {ps:List Str} {sp:Sp} {E:XK} {pins:List (Addr × Obj)} {σ:St} {H:Hp} {s:Shared} {Q:VK} {us:List Value} {vs:List V} {Z:Value->Shared->Prop} (F:b_ X.prog X.w X.K X.mg X.base CX k f fd ps sp) (hr:br k X.A) (hb:Binds X.K fd ps [])
  (I:Inv X pins σ H s) (r:Vals vs us) (h:sp vs H Q E) (hz:∀ e s',CX X.stack H s E e s'->Z e s'):wpAny (model X.prog X.w) X.A (call (.ref f) us) (EP X pins σ Q) Z s:=by
 have hl:(us++[]).length=ps.length:=by rw [List.append_nil,<- r.length]; exact F.len _ _ _ _ h
 have hb2:=hb s us I.kIn hl
 rw [List.append_nil] at hb2
 refine wpAny_call (codeAny_mono (F.run X.A X.stack s H ⟨us,[]⟩ us vs Q E hr I.lU hb2 r h) fun r s' hq=>?_)
 cases r with
 | error e=>exact hz e s' hq
 | ok fl =>
  cases fl with
  | ret u=>exact I.after hq
  | next=>exact hq.elim
  | brk=>exact hq.elim
  | cont=>exact hq.elim
theorem yc {k:Nat} {f:Addr} {fd:FuncData} {ps:List Str} {sp:Sp} {x c:Str} {C:Addr} {newId:String} {bmB:List Value} {p cpos rpos np hpos rp2 pos:Pos} {e kx:Expr} {es:List Expr} {t:TA} {kv:V}
  (F:b_ X.prog X.w X.K X.mg X.base (CXe X.prog X.w) k f fd ps sp) (hr:br k X.A) (hg:Gl X x) (hm:X.mg x=some (.ref f)) (hk:PySem.W.keepIn X.K (.ref f)=true) (hb:Binds X.K fd ps []) (hdb:(x==("__debug__" : Str))=false)
  (ha:PA X.nox (e::es) t) (he:starEach (e::es) X.env=(false,eval e X.env)::starEach es X.env) (hpl:(backTo cpos (starEach es X.env)).any (·.1)=false)
  (hgc:Gl X c) (hmc:X.mg c=some (.ref C)) (hdc:(c==("__debug__" : Str))=false) (ex:PySem.W.excIn X.K C bmB newId=true) (hBE:bmB.contains (.type "BaseException")=true)
  (hstk:X.stack=X.env::X.outer/\X.env.frame=some X.env.locals)
  (hkx:∀ (A:Around) (E:Value->Shared->Prop) (s:Shared) (Q:Value->Shared->Prop),(∀ tk u,RelV kv u->Q u { s with toks:=tk })->wpAny (model X.prog X.w) A (eval kx X.env) Q E s) :
  PS X (.Try [.Return (some (.Call (.Name x p) (e::es) [] cpos)) rpos] [.ExceptHandler (some (.Name c np)) none [.Return (some kx) rp2] hpos] [] [] pos)
   (fun D σ H=>t σ H fun vs H1=>∃ E,(∀ cls H',E cls none H'->cls=.ref C/\D.rt kv H')/\sp vs H1 D.rt E):=by
 intro pins s σ H D I h
 refine wpAny_Try_except ?_
 have hC0:=jX I.ok.mod.kin ex
 obtain ⟨tl,N,nm,q,bs,hdct,sn,sub,ab,col,dd,k0,k1,k2,k3,k5,mN,hC,hN,hni,T⟩:=hC0
 have hbase:tl.contains (.type "BaseException")=true:=T.hasType hBE
 refine wpAny_execs_cons (wpAny_mono (wpAny_Return_some (Q:=fun fl s'=>∃ u,fl=.ret u/\EP X pins σ D.rt u s') ?_) (fun fl s' hq=>?_) fun _ _ z=>z)
 ·refine wpAny_Call_Name_kw (e_ I hg hm ?_ hdb)
  refine PySem.W.callWith_K (h₀:=X.base) I.ok.mod.kin hk (wpAny_mono (ha cpos pins s σ H _ (I.b9 _) h) (fun us s1 ⟨vs,H1,I1,r,E,hE,q⟩=>⟨I1.bV.kIn,?_⟩) fun _ _ z=>False.elim z) he hpl
  have I1:=I1.bV
  refine wpAny_mono (jB (X:=X) F hr hb I1 r q fun v s2 hx=>?_) (fun u s2 hq=>⟨u,rfl,hq⟩) fun _ _ z=>z
  obtain ⟨ea,C',B,H',rfl,os',bare',un,hok,xc,⟨a0,tr⟩,cv,hEx⟩:=hx
  obtain ⟨hcl,hrt⟩:=hE _ _ hEx
  cases hcl
  have hfr:X.A.frames=some (X.env::X.outer):=by rw [I1.ok.frames,hstk.1]
  have fly:Heap.FlyingW B (X.env::X.outer) ea (.ref C) a0 s2.heap:=⟨xc.stays,xc.new,by rw [<- hstk.1]; exact xc.frames,tr⟩
  have go:∀ {h':Heap},B.StaysIn h'->s2.heap.UpToSlots h'->Inv X pins σ H' { s2 with heap:=h' }:=fun {h'} sb up=>by
   obtain ⟨u2,ok2,_⟩:=jA (gQ I1) un hok xc.frames cv sb up
   exact I1.jT (s':={ s2 with heap:=h' }) (ch:=[]) os' u2 ok2 bare' fun b z=>absurd z (by simp)
  refine wpAny_looks_onW hfr hstk.2 fly fun h3 held3 up3=>?_
  refine wpAny_landsW held3 fun h4 fly4 up4=>?_
  have I4:=go fly4.1 (up3.trans up4)
  refine wpAny_handleBy_cons (codeAny_handlers_test (jK I4 hgc hmc hdc ?_)) (by intro z; cases z)
  obtain ⟨ob,hob,hobc⟩:=fly4.there
  refine wpAny_excMatches_sub_self (I4.bk _ _ hC) hob hobc hbase (codeAny_handlers_suite ?_)
  refine lands_againW fly4 fun h5 fly5 up5=>?_
  have I5:=go fly5.1 ((up3.trans up4).trans up5)
  refine wpAny_execs_cons (wpAny_Return_some (hkx _ _ _ _ fun tk u ru=>?_))
  exact ⟨kv,σ,H',I5.tok tk,ru,hrt⟩
 ·obtain ⟨u,rfl,v,H',I',r,q⟩:=hq
  exact ⟨v,σ,H',I',r,q⟩
end
end L2

namespace L2
open PySem PySem.Spec PySem.Calls PyProof.Rows
open PySem.W (Looks)
noncomputable def bz (a C:Addr) (h:Heap):Prop:=∃ o,h.get? a=some o/\o.cls=.ref C/\∃ vs,o.data=.fields vs
theorem bz.ty {a C:Addr} {h:Heap} (p:bz a C h) (M:Model):Looks M h (typeOf (.ref a)) (.ref C):=by
 obtain ⟨o,h1,h2,_⟩:=p
 exact h2 ▸ (Looks.ld h1).andThen .now
theorem zg {K:PySem.W.Frag} {a C:Addr} {c:Value} (e:PySem.W.kitOne K (.ref C) c=some true):Answers (fun s=>K.In s.heap/\bz a C s.heap) (.ref a) c true:=by
 intro dep tk prog w A R s hs
 obtain ⟨h0,g,d,tt,os⟩:=s
 obtain ⟨⟨X,p⟩,hq⟩:=hs
 have LT:=bz.ty p (model prog w)
 unfold PySem.W.kitOne at e
 unfold Builtin.«isinstance.nested»
 refine wpAny_bind (LT.at ?_)
 by_cases q:(Value.ref C==c)=true
 ·rw [if_pos q]
  first
   | ((repeat lk); exact hq tt)
   | exact wpAny_bind (wpAny_rule (hq tt))
   | exact wpAny_bind (wpAny_rule (wpAny_pure (hq tt)))
 ·rw [if_neg q] at e
  rw [if_neg q]
  obtain ⟨hty,his,hsub⟩:=PySem.W.kit_cls (M:=model prog w) X e
  have LI:Looks (model prog w) h0 (isInstance (.ref a) c) true:=LT.andThen hsub
  refine wpAny_bind (hty.at ?_)
  rw [if_pos (by decide)]
  k_delta "plainIsInstance"
  refine wpAny_bind (wpAny_bind (his.at ?_))
  simp only [Bool.not_true,Bool.false_eq_true,if_false]
  refine wpAny_bind (LI.at ?_)
  first
   | exact wpAny_pure (wpAny_pure (hq tt))
   | (simp only [if_true]; first|exact wpAny_pure (wpAny_pure (hq tt))|exact wpAny_pure (hq tt)|exact wpAny_bind (wpAny_pure (wpAny_pure (hq tt))))
theorem vo {K:PySem.W.Frag} {a C:Addr} {c:Value} {prog:Program} {w:World} {A:Around} {E:Value->Shared->Prop} {s:Shared} {Q:Value->Shared->Prop} (X:K.In s.heap) (p:bz a C s.heap) (e:PySem.W.kitOne K (.ref C) c=some true) (h:∀ tk,Q (.bool true) { s with toks:=tk }) :
  wpAny (model prog w) A (call (.builtin "isinstance") [.ref a,c]) Q E s :=
 call_isinstance (S:=fun _ R s=>(K.In s.heap/\bz a C s.heap)/\∀ tk,R (.ok (.ret (.bool true))) { s with toks:=tk })
  (fun prog w A R s hs=>isinstance_outer (zg e 0 _ prog w A R s hs) (fun z=>nomatch z)) ⟨⟨X,p⟩,h⟩
section
variable {X:Cx} {i:Nat} {C:Addr}
noncomputable def PV (X:Cx) (i:Nat) (C:Addr) (e:Expr) (v:V):Prop:=∀ (A:Around) (E:Value->Shared->Prop) (pins:List (Addr × Obj)) (σ:St) (H:Hp) (s:Shared) (a:Addr) (Q:Value->Shared->Prop),
 Inv X pins σ H s->σ[i]?=some (some (.ref a))->bz a C s.heap->(∀ tk u,RelV v u->Q u { s with toks:=tk })->wpAny (model X.prog X.w) A (eval e X.env) Q E s
theorem zY {A:Around} {E:Value->Shared->Prop} {pins:List (Addr × Obj)} {s:Shared} {σ:St} {H:Hp} {x:Str} {u:Value} {pos:Pos} {Q:Value->Shared->Prop} (I:Inv X pins σ H s) (hg:Gl X x) (hm:X.mg x=none) (hv:bootBuiltins x=some u) (h:Q u s)
  (hn:x≠"__name__") (hd:(x==("__debug__" : Str))=false):wpAny (model X.prog X.w) A (eval (.Name x pos) X.env) Q E s:=by
 obtain ⟨mb,h1,h2⟩:=I.mod.blt
 exact Calls.Name_function_global I.ok.kind hg (Calls.loadGlobal_builtin (by rw [I.ok.glob]; exact I.mod.glob.keeps I.bk) hm (by rw [I.ok.blt]; exact h1.keeps I.bk) ((h2 x hn).trans hv) h) hd
noncomputable def dw (X:Cx) (d:Str) (c:Value):Prop:=Gl X d/\(d==("__debug__" : Str))=false/\(X.mg d=some c\/(X.mg d=none/\bootBuiltins d=some c/\d≠"__name__"))
theorem dw.ld {A:Around} {E:Value->Shared->Prop} {pins:List (Addr × Obj)} {s:Shared} {σ:St} {H:Hp} {d:Str} {c:Value} {pos:Pos} {Q:Value->Shared->Prop} (n:dw X d c) (I:Inv X pins σ H s) (h:Q c s):wpAny (model X.prog X.w) A (eval (.Name d pos) X.env) Q E s:=by
 obtain ⟨hg,hd,hm|⟨hm,hv,hn⟩⟩:=n
 ·exact jK I hg hm hd h
 ·exact zY I hg hm hv h hn hd
theorem qo {n d:Str} {c:Value} {p1 p2 p3 pos:Pos} (hi:X.N[i]?=some n) (hk:X.env.kindOf n=some .local) (hd:(n==("__debug__" : Str))=false) (hv:Vis X.env.scope n)
  (hb:dw X "isinstance" (.builtin "isinstance")) (hc:dw X d c) (e:PySem.W.kitOne X.K (.ref C) c=some true):PV X i C (.Call (.Name "isinstance" p1) [.Name n p2,.Name d p3] [] pos) (.bl true):=by
 intro A E pins σ H s a Q I hσ hx h
 refine wpAny_Call_Name_kw (hb.ld I ?_)
 refine PyProof.Rows.callWith_builtin1 (Calls.spliced_cons ?_) rfl rfl
 obtain ⟨m,hn,hl⟩:=I.loc
 obtain ⟨u,r,l⟩:=hl i n _ hi hσ hv
 cases (show u=Value.ref a from r)
 have hm:m n=some (.ref a):=by
  rcases l with ⟨_,z⟩|⟨z|z,_⟩
  ·exact z
  ·rw [hk] at z; cases z
  ·rw [hk] at z; cases z
 refine wpAny_Name (wpAny_loadName_local I.ok.kind hk hn hm ?_) hd
 refine Calls.spliced_cons (hc.ld I (Calls.spliced_nil ?_))
 exact vo I.kIn hx e fun tk=>h tk _ rfl
theorem AZ {op} {a:Expr} {v:V} {pos:Pos} (h:PV X i C a v):PV X i C (.BoolOp op [a] pos) v:=fun A E pins σ H s a Q I hσ hx hq=>BoolOp_one (h A E pins σ H s a Q I hσ hx hq)
theorem zm {a b:Expr} {rest:List Expr} {v:V} {pos:Pos} (ha:PV X i C a (.bl true)) (hb:PV X i C (.BoolOp .And (b::rest) pos) v):PV X i C (.BoolOp .And (a::b::rest) pos) v:=by
 intro A E pins σ H s x Q I hσ hx h
 refine BoolOp_and (ha A E pins σ H s x _ I hσ hx fun tk u r=>?_)
 cases (show u=Value.bool true from r)
 exact wpAny_truthy_bool (hb A E pins σ H _ x Q (I.tok tk) hσ hx fun tk' u r=>h tk' u r)
theorem uw {a:Expr} {k:Bool} {p1 pos:Pos} (hb:dw X "int" (.type "int")) (ha:PV X i C a (.bl k)) (he:starEach [a] X.env=(false,eval a X.env)::starEach [] X.env):PV X i C (.Call (.Name "int" p1) [a] [] pos) (.int (if k then 1 else 0)):=by
 intro A E pins σ H s x Q I hσ hx h
 refine wpAny_Call_Name_kw (hb.ld I ?_)
 have hg:wpAny (model X.prog X.w) A (spliced (backTo pos (starEach [a] X.env))) (fun vs s₁=>wpAny (model X.prog X.w) A (call (.type "int") vs) Q E s₁) E s:=by
  rw [he]
  refine Calls.spliced_cons (ha A E pins σ H s x _ I hσ hx fun tk u r=>Calls.spliced_nil ?_)
  cases (show u=Value.bool k from r)
  exact call_int_bool (h _ _ ⟨_,rfl⟩)
 exact PyProof.Rows.callWith_type1 hg he rfl
theorem r_ {x:Str} {a:Expr} {j} {p1 pos:Pos} (ha:PV X i C a (.int 1)):PV X i C (.BinOp (.Constant (.str x) j p1) .Mult a pos) (.str x):=by
 intro A E pins σ H s y Q I hσ hx h
 refine wpAny_BinOp (wpAny_Constant_str ?_)
 refine ha A E pins σ H _ y _ (I.tok _) hσ hx fun tk u r=>?_
 obtain ⟨t,rfl⟩:=(show ∃ t,u=Value.int 1 t from r)
 refine P.mul_str (by decide) (fun _ z=>by simp at z) (fun _ z=>by simp at z) ?_
 simp only [show ¬ ((1:Int) < 1) from by decide,if_false,beq_self_eq_true,Bool.true_or,if_true]
 exact h _ _ ⟨_,rfl⟩
theorem Inv.gone {pins:List (Addr × Obj)} {σ:St} {H:Hp} {s:Shared} {m:Str->Option Value} {n:Str} {v:Option Value} {h':Heap} {t':Nat} (I:Inv X pins σ H s) (hN:X.N.Nodup) (hi:X.N[i]?=some n) (hn:s.heap.Ns X.env.locals m)
  (hl:∀ (j:Nat) (x:Str) (v:V),X.N[j]?=some x->σ[j]?=some (some v)->Vis X.env.scope x->∃ u,RelV v u/\Look X.env s.heap m x u) (hn':h'.Ns X.env.locals (fun x=>if x=n then v else m x)) (hs:Heap.SameBut X.env.locals s.heap h') :
  Inv X pins (σ.set i none) H { s with heap:=h',toks:=t' }:=by
 have cne:=I.cne
 obtain ⟨oL,_,_,hoL,_⟩:=id hn
 refine ⟨I.ok,I.os,I.bare,⟨fun b o e n hb hx=>?_,fun b o e n hb hx=>?_,I.base.free,fun b o e hx=>?_,I.base.tups,I.base.frzs,I.base.tbls⟩,⟨_,hn',fun j y v' e1 e2 e3=>?_⟩,fun y c e=>?_,I.free,I.freeC,fun p hp=>?_,fun b ob e=>?_,by simpa using I.len⟩
 ·exact (hs.2 b (Nat.ne_of_lt (Nat.lt_of_lt_of_le (Heap.lt_size e) I.ok.above))).trans (I.base.keep b o e n hb hx)
 ·obtain ⟨sl,e1⟩:=I.base.slot b o e n hb hx
  exact ⟨sl,(hs.2 b (Nat.ne_of_lt (Nat.lt_of_lt_of_le (Heap.lt_size e) I.ok.above))).trans e1⟩
 ·obtain ⟨o',e1⟩:=I.base.there b o e hx
  exact ⟨o',(hs.2 b (Nat.ne_of_lt (Nat.lt_of_lt_of_le (Heap.lt_size e) I.ok.above))).trans e1⟩
 ·by_cases hj:j=i
  ·subst hj
   rw [List.getElem?_set] at e2
   simp at e2
  ·rw [List.getElem?_set_ne (Ne.symm hj)] at e2
   obtain ⟨u',r',q⟩:=hl j y v' e1 e2 e3
   refine ⟨u',r',?_⟩
   rcases q with ⟨k,e⟩|⟨k,c,e,z⟩
   ·refine .inl ⟨k,?_⟩
    have:y≠n:=fun e=>hj (kG hN e1 (e ▸ hi))
    simp [this,e]
   ·exact .inr ⟨k,c,e,z.sameBut hs (cne y c e)⟩
 ·obtain ⟨w',z⟩:=I.cell y c e
  exact ⟨w',z.sameBut hs (cne y c e)⟩
 ·obtain ⟨e,n,ne,nf,d⟩:=I.pin p hp
  exact ⟨(hs.2 p.1 ne).trans e,n,ne,nf,d⟩
 ·refine (I.hok b ob e).stay (fun c w' hc q=>(hs.2 c ?_).trans q) (fun _ q=>q) fun _ _ q=>q
  rintro rfl
  rcases hc with rfl|hc
  ·rw [I.free] at e; cases e
  ·rw [I.free] at hc; cases hc
theorem pN {c n:Str} {newId:String} {bmB:List Value} {np hpos rp2:Pos} {kx:Expr} {kv:V} {pins:List (Addr × Obj)} {σ:St} {H1:Hp} {s1 s2:Shared} {E:XK} {v:Value} {D:Ends}
  (hgc:Gl X c) (hmc:X.mg c=some (.ref C)) (hdc:(c==("__debug__" : Str))=false) (ex:PySem.W.excIn X.K C bmB newId=true) (hBE:bmB.contains (.type "BaseException")=true)
  (hstk:X.stack=X.env::X.outer/\X.env.frame=some X.env.locals) (hN:X.N.Nodup) (hi:X.N[i]?=some n) (hk:X.env.kindOf n=some .local) (hkx:PV X i C kx kv)
  (I1:Inv X pins σ H1 s1) (hx:CXe X.prog X.w X.stack H1 s1 E v s2) (hE:∀ cls H',E cls none H'->cls=.ref C/\D.rt kv H') :
  wpAny (model X.prog X.w) X.A (noteFrame v X.env) (fun _ s₂=>wpAny (model X.prog X.w) X.A (setFlight v none) (fun _ s₃=>wpAny (model X.prog X.w) X.A (handleBy v X.env [.ExceptHandler (some (.Name c np)) (some n) [.Return (some kx) rp2] hpos]) (SP X pins D) X.xe s₃) X.xe s₂) X.xe s2:=by
 have hC0:=jX I1.ok.mod.kin ex
 obtain ⟨tl,N,nm,q,bs,hdct,sn,sub,ab,col,dd,k0,k1,k2,k3,k5,mN,hC,hN2,hni,T⟩:=hC0
 have hbase:tl.contains (.type "BaseException")=true:=T.hasType hBE
 obtain ⟨ea,C',B,H',rfl,os',bare',un,hok,xc,⟨a0,tr⟩,cv,hEx⟩:=hx
 obtain ⟨hcl,hrt⟩:=hE _ _ hEx
 cases hcl
 have hfr:X.A.frames=some (X.env::X.outer):=by rw [I1.ok.frames,hstk.1]
 have fly:Heap.FlyingW B (X.env::X.outer) ea (.ref C) a0 s2.heap:=⟨xc.stays,xc.new,by rw [<- hstk.1]; exact xc.frames,tr⟩
 have go:∀ {h':Heap},B.StaysIn h'->s2.heap.UpToSlots h'->Inv X pins σ H' { s2 with heap:=h' }:=fun {h'} sb up=>by
  obtain ⟨u2,ok2,_⟩:=jA (gQ I1) un hok xc.frames cv sb up
  exact I1.jT (s':={ s2 with heap:=h' }) (ch:=[]) os' u2 ok2 bare' fun b z=>absurd z (by simp)
 refine wpAny_looks_onW hfr hstk.2 fly fun h3 held3 up3=>?_
 refine wpAny_landsW held3 fun h4 fly4 up4=>?_
 have I4:=go fly4.1 (up3.trans up4)
 refine wpAny_handleBy_cons (codeAny_handlers_test (jK I4 hgc hmc hdc ?_)) (by intro z; cases z)
 obtain ⟨ob,hob,hobc⟩:=fly4.there
 refine wpAny_excMatches_sub_self (I4.bk _ _ hC) hob hobc hbase (codeAny_handlers_suite_as ?_)
 refine lands_againW fly4 fun h5 fly5 up5=>?_
 have I5:=go fly5.1 ((up3.trans up4).trans up5)
 have xa5:bz ea C h5:=by
  obtain ⟨_,_,_,oe,vs,_,_,_,he,hc,hd,_⟩:=fly5
  exact ⟨oe,he,hc.1,vs,hd⟩
 have hLoc:Loc X.env.scope n:=.inl hk
 refine jr (v:=.ref ea) I5 hN hi hLoc rfl (fun s6 I6 ⟨a,sb,ha⟩=>?_) (.inr (by simpa [Env.kindOf] using hk))
 have hal:a=X.env.locals\/∃ w,h5.IsCell a w:=by
  rcases ha with z|z
  ·exact .inl z
  ·exact .inr (I5.cell n a z)
 have xa6:bz ea C s6.heap:=by
  obtain ⟨o,e1,e2,vs,e3⟩:=xa5
  refine ⟨o,(sb.2 ea fun z=>?_).trans e1,e2,vs,e3⟩
  subst z
  rcases hal with rfl|⟨w',oc,z1,z2⟩
  ·obtain ⟨m,⟨o',es,ep,z1,z2,_⟩,_⟩:=I5.loc
   have z3:some o=some o':=e1.symm.trans z1
   cases z3
   rw [e3] at z2; cases z2
  ·have z3:some o=some oc:=e1.symm.trans z1
   cases z3
   rw [e3] at z2; cases z2
 have hiσ:i < σ.length:=by rw [I5.len]; exact (List.getElem?_eq_some_iff.mp hi).1
 refine wpAny_execs_cons (wpAny_Return_some (hkx _ _ pins _ H' s6 ea _ I6 (by rw [List.getElem?_set_self hiσ]) xa6 fun tk u ru=>?_))
 have I7:=I6.tok tk
 obtain ⟨m,hn,hl⟩:=id I7.loc
 have hcls:(X.env.scope.kind==.class||(X.env.scope.kind==.module&&X.env.locals != X.env.globals))=false:=by rw [I5.ok.kind]; rfl
 exact wpAny_nameGoes_keeps hk hn hcls fun h8 v8 hn8 hs8=>⟨kv,_,H',I7.gone hN hi hn hl hn8 hs8,ru,hrt⟩
section
variable {k:Nat} {f:Addr} {fd:FuncData} {ps:List Str} {sp:Sp} {x c n:Str} {newId:String} {bmB:List Value} {p cpos rpos np hpos rp2 pos:Pos} {e kx:Expr} {es:List Expr} {t:TA} {kv:V}
theorem zD
  (F:b_ X.prog X.w X.K X.mg X.base (CXe X.prog X.w) k f fd ps sp) (hr:br k X.A) (hg:Gl X x) (hm:X.mg x=some (.ref f)) (hkp:PySem.W.keepIn X.K (.ref f)=true) (hb:Binds X.K fd ps []) (hdb:(x==("__debug__" : Str))=false)
  (ha:PA X.nox (e::es) t) (he:starEach (e::es) X.env=(false,eval e X.env)::starEach es X.env) (hpl:(backTo cpos (starEach es X.env)).any (·.1)=false)
  (hgc:Gl X c) (hmc:X.mg c=some (.ref C)) (hdc:(c==("__debug__" : Str))=false) (ex:PySem.W.excIn X.K C bmB newId=true) (hBE:bmB.contains (.type "BaseException")=true)
  (hstk:X.stack=X.env::X.outer/\X.env.frame=some X.env.locals) (hN:X.N.Nodup) (hi:X.N[i]?=some n) (hk:X.env.kindOf n=some .local) (hkx:PV X i C kx kv) :
  PS X (.Try [.Return (some (.Call (.Name x p) (e::es) [] cpos)) rpos] [.ExceptHandler (some (.Name c np)) (some n) [.Return (some kx) rp2] hpos] [] [] pos)
   (fun D σ H=>t σ H fun vs H1=>∃ E,(∀ cls H',E cls none H'->cls=.ref C/\D.rt kv H')/\sp vs H1 D.rt E):=by
 intro pins s σ H D I h
 refine wpAny_Try_except ?_
 refine wpAny_execs_cons (wpAny_mono (wpAny_Return_some (Q:=fun fl s'=>∃ u,fl=.ret u/\EP X pins σ D.rt u s') ?_) (fun fl s' hq=>?_) fun _ _ z=>z)
 ·refine wpAny_Call_Name_kw (e_ I hg hm ?_ hdb)
  refine PySem.W.callWith_K (h₀:=X.base) I.ok.mod.kin hkp (wpAny_mono (ha cpos pins s σ H _ (I.b9 _) h) (fun us s1 ⟨vs,H1,I1,r,E,hE,q⟩=>⟨I1.bV.kIn,?_⟩) fun _ _ z=>False.elim z) he hpl
  have I1:=I1.bV
  exact wpAny_mono (jB (X:=X) F hr hb I1 r q fun v s2 hx=>pN hgc hmc hdc ex hBE hstk hN hi hk hkx I1 hx hE) (fun u s2 hq=>⟨u,rfl,hq⟩) fun _ _ z=>z
 ·obtain ⟨u,rfl,v,H',I',r,q⟩:=hq
  exact ⟨v,σ,H',I',r,q⟩
theorem ur
  (F:b_ X.prog X.w X.K X.mg X.base (CXe X.prog X.w) k f fd ps sp) (hr:br k X.A) (hg:Gl X x) (hm:X.mg x=some (.ref f)) (hkp:PySem.W.keepIn X.K (.ref f)=true) (hb:Binds X.K fd ps []) (hdb:(x==("__debug__" : Str))=false)
  (ha:PA X.nox (e::es) t) (he:starEach (e::es) X.env=(false,eval e X.env)::starEach es X.env) (hpl:(backTo cpos (starEach es X.env)).any (·.1)=false)
  (hgc:Gl X c) (hmc:X.mg c=some (.ref C)) (hdc:(c==("__debug__" : Str))=false) (ex:PySem.W.excIn X.K C bmB newId=true) (hBE:bmB.contains (.type "BaseException")=true)
  (hstk:X.stack=X.env::X.outer/\X.env.frame=some X.env.locals) (hN:X.N.Nodup) (hi:X.N[i]?=some n) (hk:X.env.kindOf n=some .local) (hkx:PV X i C kx kv) :
  PS X (.Try [.Expr (.Call (.Name x p) (e::es) [] cpos) rpos] [.ExceptHandler (some (.Name c np)) (some n) [.Return (some kx) rp2] hpos] [] [] pos)
   (fun D σ H=>t σ H fun vs H1=>∃ E,(∀ cls H',E cls none H'->cls=.ref C/\D.rt kv H')/\sp vs H1 (fun _ H'=>D.nx σ H') E):=by
 intro pins s σ H D I h
 refine wpAny_Try_except ?_
 refine wpAny_execs_cons (wpAny_Expr_any ?_ I.quiet rfl)
 refine wpAny_Call_Name_kw (e_ I hg hm ?_ hdb)
 refine PySem.W.callWith_K (h₀:=X.base) I.ok.mod.kin hkp (wpAny_mono (ha cpos pins s σ H _ (I.b9 _) h) (fun us s1 ⟨vs,H1,I1,r,E,hE,q⟩=>⟨I1.bV.kIn,?_⟩) fun _ _ z=>False.elim z) he hpl
 have I1:=I1.bV
 refine wpAny_mono (jB (X:=X) F hr hb I1 r q fun v s2 hx=>pN hgc hmc hdc ex hBE hstk hN hi hk hkx I1 hx hE) (fun u s2 hq=>?_) fun _ _ z=>z
 obtain ⟨v,H',I',_,q'⟩:=hq
 exact wpAny_execs_nil (wpAny_execs_nil ⟨σ,H',I',q'⟩)
end
end
end L2

namespace L2
open PySem PySem.Spec PySem.Calls PyProof.Rows
open PySem.W (Looks)
open PySem.Builtin PySem.Builtin.ObjectAttr PySem.Builtin.Getset_descriptor
structure dI (K:PySem.W.Frag) (C:Addr):Prop where
 ga:PySem.W.findIn K (.ref C) "__getattribute__" = some (some (.builtin "BaseException.__getattribute__"))
 gt:PySem.W.findIn K (.ref C) "__getattr__" = some none
 cl:PySem.W.findIn K (.ref C) "__class__" = some (some (.builtin "object.__class__"))
 gn:PySem.W.specialIn K (.builtin "object.__class__") "__get__" = some (some (.builtin "getset_descriptor.__get__"))
 tk:PySem.W.takesIn K (.builtin "object.__class__")=some true
 mo:PySem.W.mroIn K C (.type "object")=some true
 mb:PySem.W.mroIn K C (.type "BaseException")=some true
 is:(PySem.W.clsIn K C).isSome=true
section
variable {K:PySem.W.Frag} {prog:Program} {w:World} {A:Around} {E:Value->Shared->Prop} {s:Shared} {a C:Addr}
theorem tU (X:K.In s.heap) (p:bz a C s.heap) (T:dI K C) (M:Model):Looks M s.heap (find (.ref a) (.ref C) "__class__") (.bind (.builtin "getset_descriptor.__get__") (.builtin "object.__class__")):=by
 have L1:=PySem.W.looks_findIn (M:=M) X T.cl
 have L2:Looks M s.heap (getOf (some (.builtin "object.__class__"))) (some (.builtin "getset_descriptor.__get__")):=PySem.W.looks_specialIn X T.gn
 have L3:=PySem.W.looks_takesIn (M:=M) X T.tk
 refine L1.andThen (L2.andThen ?_)
 exact (show Looks M s.heap (dataDescriptor? (some (.builtin "object.__class__")) (some (.builtin "getset_descriptor.__get__"))) (some (.builtin "getset_descriptor.__get__",.builtin "object.__class__")) from L3.andThen .now).andThen (Looks.tag .now)
theorem qK {R:Result->Shared->Prop} {tp:Value} (X:K.In s.heap) (p:bz a C s.heap) (T:dI K C) (h:R (.ok (.ret (.ref C))) s):codeAny (model prog w) A (.call (.builtin "getset_descriptor.__get__") ⟨[.builtin "object.__class__",.ref a,tp],[]⟩) R s:=by
 obtain ⟨hh,g,dr,t,os⟩:=s
 have L0:=bz.ty p (model prog w)
 have L1:=PySem.W.looks_mroIn (M:=model prog w) X T.mo
 refine codeAny_call_builtin PySem.W.KF.slot_gs.plain PySem.W.KF.entry_gs (PySem.W.KF.slot_gs.check _ _ _ _ _ _ _ _ PySem.W.KF.type_class (PySem.W.KF.args_gs _ _ _) ?_)
 unfold Builtin.«getset_descriptor.__get__» descrGet
 rw [PySem.W.dga_obj]
 refine wpAny_bind (wpAny_pure ?_)
 unfold descrGetter descrCheckInstance descrNameAndClass isInstance
 simp only [PySem.W.KF.owner_class]
 repeat lk
 refine ⟨Code.quiet_builtin _ (by decide +kernel),codeAny_builtin PySem.W.KF.entry_class ?_⟩
 unfold Builtin.«object.__class__» shownTypeOf
 repeat lk
 exact h
theorem BK {tk:Tok} {Q:Fin->Shared->Prop} (X:K.In s.heap) (p:bz a C s.heap) (T:dI K C) (h:Q (.done (.ret (.ref C))) s) :
  wpAny (model prog w) A (Builtin.«object.__getattribute__» ⟨[.ref a,.str "__class__" tk],[]⟩) Q E s:=by
 obtain ⟨hh,g,dr,t,os⟩:=s
 have L0:=bz.ty p (model prog w)
 have L1:=tU (s:=⟨hh,g,dr,t,os⟩) X p T (model prog w)
 unfold Builtin.«object.__getattribute__»
 repeat lk
 refine wpAny_run (c:=.call (.builtin "getset_descriptor.__get__") ⟨[.builtin "object.__class__",.ref a,.ref C],[]⟩) (h:=none) (qK X p T ?_)
 exact wpAny_pure (wpAny_pure h)
theorem yj {M:Model} {nameV:Value} {Q:Unit->Shared->Prop} (X:K.In s.heap) (p:bz a C s.heap) (T:dI K C) (hq:Q () s):wpAny M A (checkBuiltinCall "BaseException.__getattribute__" ⟨[.ref a,nameV],[]⟩) Q E s:=by
 obtain ⟨hh,g,d,t,os⟩:=s
 have hk:builtinKind "BaseException.__getattribute__" = some .slot:=by decide +kernel
 have hsplit:splitId "BaseException.__getattribute__" = some ("BaseException","__getattribute__"):=by decide +kernel
 have L0:=bz.ty p M
 have L1:=PySem.W.looks_mroIn (M:=M) X T.mb
 have LI:Looks M hh (isInstance (.ref a) (.type "BaseException")) true:=L0.andThen L1
 have ha:=F.args_bexc_ga (.ref a) nameV
 simp only [checkBuiltinCall,hk,hsplit]
 refine wpAny_bind (LI.at ?_)
 repeat (any_goals (first|assumption|wp_step))
theorem xq {Q:Option Value->Shared->Prop} (X:K.In s.heap) (p:bz a C s.heap) (T:dI K C) (h:Q (some (.ref C)) { s with toks:=s.toks+1 }):wpAny (model prog w) A (getAttr? (.ref a) "__class__") Q E s:=by
 obtain ⟨hh,g,d,t,os⟩:=s
 have L0:=bz.ty p (model prog w)
 have L1:=PySem.W.looks_findIn (M:=model prog w) X T.ga
 have L2:=PySem.W.looks_findIn (M:=model prog w) X T.gt
 have f3:=F.attrBase_ValueError.ga.bind (.ref a)
 unfold getAttr? getAttrBy? getAttrBy
 refine wpAny_bind (wpAny_mkText (wpAny_bind (wpAny_attempt (wpAny_holding (wpAny_bind (L0.at (wpAny_bind (L1.at ?_))))))))
 dsimp only
 rw [show (Value.builtin "BaseException.__getattribute__"==Value.builtin "object.__getattribute__")=false from by decide +kernel]
 simp only [Bool.and_false,Bool.false_eq_true,if_false]
 unfold getAttrByItsOwn
 have HB:Looks (model prog w) hh (hookBefore (.ref C)) none:=by
  unfold hookBefore
  first|exact L2|exact L2.andThen .now
 refine wpAny_bind (HB.at (wpAny_bind (wpAny_attempt (wpAny_holding ?_))))
 unfold callGetattribute boundAndCalled
 simp only [Bool.false_and,Bool.false_eq_true,if_false]
 rw [f3]
 refine wpAny_bind (wpAny_pure (wpAny_call (codeAny_call_builtin F.attrBase_ValueError.ga.plain F.entry_bexc_ga (yj (s:=⟨hh,g,d,t+1,os⟩) X p T (BK (s:=⟨hh,g,d,t+1,os⟩) X p T ?_)))))
 exact wpAny_pure (wpAny_pure h)
theorem wG (T:dI K C):PySem.W.KitX K (.ref a) (.ref C) (bz a C) where
 ty:=fun M _ _ p=>p.ty M
 it:=fun _ _ X _=>by
  have z:=T.is
  unfold PySem.W.clsIn at z
  split at z
  ·rename_i c' d' cd' sl' ho
   intro A' Q' E' s' k q
   unfold isType loadHead
   exact wpAny_bind (wpAny_loadPart (k _ _ (X _ _ ho)) (wpAny_pure q))
  ·cases z
 ne:=fun h tp dd its n sl X htp=>by
  refine Bool.eq_false_iff.mpr fun q=>?_
  have e:C=tp:=Value.ref.inj (beq_iff_eq.mp q)
  subst e
  have z:=T.is
  unfold PySem.W.clsIn at z
  split at z
  ·rename_i c' d' cd' sl' ho
   have z:=(X _ _ ho).symm.trans htp
   cases z
  ·cases z
 ca:=fun X p k=>xq X p T k
end
section
variable {X:Cx} {i:Nat} {C:Addr}
theorem yQ {n d:Str} {c:Value} {p1 p2 p3 pos p4:Pos} (hi:X.N[i]?=some n) (hk:X.env.kindOf n=some .local) (hd:(n==("__debug__" : Str))=false) (hv:Vis X.env.scope n)
  (hb:dw X "isinstance" (.builtin "isinstance")) (hc:dw X d c) (T:dI X.K C) (e:PySem.W.kitOne X.K (.ref C) c=some false):PV X i C (.UnaryOp .Not (.Call (.Name "isinstance" p1) [.Name n p2,.Name d p3] [] pos) p4) (.bl true):=by
 intro A E pins σ H s a Q I hσ hx h
 refine UnaryOp_ ?_
 refine wpAny_Call_Name_kw (hb.ld I ?_)
 refine PyProof.Rows.callWith_builtin1 (Calls.spliced_cons ?_) rfl rfl
 obtain ⟨m,hn,hl⟩:=I.loc
 obtain ⟨u,r,l⟩:=hl i n _ hi hσ hv
 cases (show u=Value.ref a from r)
 have hm:m n=some (.ref a):=by
  rcases l with ⟨_,z⟩|⟨z|z,_⟩
  ·exact z
  ·rw [hk] at z; cases z
  ·rw [hk] at z; cases z
 refine wpAny_Name (wpAny_loadName_local I.ok.kind hk hn hm ?_) hd
 refine Calls.spliced_cons (hc.ld I (Calls.spliced_nil ?_))
 refine PySem.W.kia_one (wG T) I.kIn hx e (fun z=>nomatch z) fun tk=>?_
 exact not_of (wpAny_truthy_bool (h tk _ rfl))
end
end L2

namespace NEQ
open PySem PySem.SeqAt
open AutoSeq1 (wpAny_loadPart')
open MeetsSeq MeetsSeq2 MeetsSeq3 SeqRoads2
theorem BQ (p q:Addr) (us ws:Array Value) (n1 n2:Nat) (d1 d2:Option Addr) (z1 z2:Array (Option Value)) (hlen:us.size=ws.size) (same:Nat->Bool) (left:Nat) :
  ∀ at_:Nat,us.size - at_=left->Meets (Builtin.«list.__eq__.loop» ⟨[.ref p,.ref q,rawInt at_,rawInt 3],[]⟩)
   (fun A R st=>st.heap.get? p=some { cls:=.type "list",dict:=d1,data:=.seq us n1,slots:=z1 }/\st.heap.get? q=some { cls:=.type "list",dict:=d2,data:=.seq ws n2,slots:=z2 } /\
    (∀ j (h1:j < us.size) (h2:j < ws.size),EqAt A.in1 st us[j] ws[j] (same j))/\R (.ok (.ret (.bool (!((List.range us.size).drop at_).all same)))) st):=by
 induction left with
 | zero =>
  intro at_ hk prog w A R st hyp
  obtain ⟨hp,g,dr,tk,os⟩:=st
  obtain ⟨hl,hb,he,fin⟩:=hyp
  wp_walk using wpAny_loadPart' hl,wpAny_loadPart' hb
  have no1:us[((at_:Nat):Int).toNat]?=none:=by simp; omega
  have no2:ws[((at_:Nat):Int).toNat]?=none:=by simp; omega
  have nil:(List.range us.size).drop at_=[]:=by simp; omega
  rw [nil] at fin
  rw [no1,no2]
  wp_walk using wpAny_loadPart' hl,wpAny_loadPart' hb
  show R (.ok (.ret (.bool (us.size != ws.size)))) _
  rw [hlen]
  simpa using fin
 | succ left ih =>
  intro at_ hk prog w A R st hyp
  obtain ⟨hp,g,dr,tk,os⟩:=st
  obtain ⟨hl,hb,he,fin⟩:=hyp
  wp_walk using wpAny_loadPart' hl,wpAny_loadPart' hb
  have lt1:at_ < us.size:=by omega
  have lt2:at_ < ws.size:=by omega
  have yes1:us[((at_:Nat):Int).toNat]?=some us[at_]:=by simp [lt1]
  have yes2:ws[((at_:Nat):Int).toNat]?=some ws[at_]:=by simp [lt2]
  have cons:(List.range us.size).drop at_=at_::(List.range us.size).drop (at_+1):=by simp [List.drop_eq_getElem_cons,lt1]
  have up:((at_:Int)+1)=((at_+1:Nat):Int):=by push_cast; rfl
  rw [cons,List.all_cons] at fin
  rw [yes1,yes2]
  refine wpAny_bind (he at_ lt1 lt2 prog w _ _ ?_)
  cases ev:same at_ with
  | true =>
   rw [ev] at fin
   wp_walk
   rw [up]
   exact ⟨plainId_quiet plain_eq_loop _,codeAny_builtin entry_eq_loop (by
    rw [Around.under_plainId plain_eq_loop _]
    exact ih (at_+1) (by omega) prog w A R _ ⟨hl,hb,he,by simpa using fin⟩)⟩
  | false =>
   rw [ev] at fin
   wp_walk using wpAny_loadPart' hl,wpAny_loadPart' hb
   rw [yes1,yes2]
   wp_walk
   simpa using fin
theorem ye (p q:Addr) (us ws:Array Value) (n1 n2:Nat) (d1 d2:Option Addr) (z1 z2:Array (Option Value)) (hlen:us.size=ws.size) (same:Nat->Bool) :
  Meets (Builtin.«list.__ne__» ⟨[.ref p,.ref q],[]⟩)
   (fun A R st=>st.heap.get? p=some { cls:=.type "list",dict:=d1,data:=.seq us n1,slots:=z1 }/\st.heap.get? q=some { cls:=.type "list",dict:=d2,data:=.seq ws n2,slots:=z2 } /\
    (∀ j (h1:j < us.size) (h2:j < ws.size),EqAt A.in1 st us[j] ws[j] (same j))/\R (.ok (.ret (.bool (!(List.range us.size).all same)))) st):=by
 intro prog w A R st hyp
 obtain ⟨hp,g,dr,tk,os⟩:=st
 obtain ⟨hl,hb,he,fin⟩:=hyp
 have f3:=AutoSeq1.sub_list_list
 have hne:¬ (us.size != ws.size)=true:=by simp [hlen]
 wp_walk using wpAny_loadPart' hl,wpAny_loadPart' hb
 exact ⟨plainId_quiet plain_eq_loop _,codeAny_builtin entry_eq_loop (by
  rw [Around.under_plainId plain_eq_loop _]
  exact BQ p q us ws n1 n2 d1 d2 z1 z2 hlen same _ 0 rfl prog w A R _ ⟨hl,hb,he,by simpa using fin⟩)⟩
theorem uX (p q:Addr) (us ws:Array Value) (n1 n2:Nat) (d1 d2:Option Addr) (z1 z2:Array (Option Value)) (hlen:(us.size != ws.size)=true) :
  Meets (Builtin.«list.__ne__» ⟨[.ref p,.ref q],[]⟩)
   (fun _ R st=>st.heap.get? p=some { cls:=.type "list",dict:=d1,data:=.seq us n1,slots:=z1 }/\st.heap.get? q=some { cls:=.type "list",dict:=d2,data:=.seq ws n2,slots:=z2 } /\
    R (.ok (.ret (.bool true))) st) :=
 .of_wp fun prog w A R st hyp=>by
  obtain ⟨hp,g,dr,tk,os⟩:=st
  obtain ⟨hl,hb,fin⟩:=hyp
  have f3:=AutoSeq1.sub_list_list
  wp_walk using wpAny_loadPart' hl,wpAny_loadPart' hb
  exact ⟨_,rfl,fin⟩
theorem BZ (p q:Addr) (us ws:Array Value) (n1 n2:Nat) (d1 d2:Option Addr) (z1 z2:Array (Option Value)) (same:Nat->Bool) :
  Meets (Builtin.«tuple.__ne__» ⟨[.ref p,.ref q],[]⟩)
   (fun A R st=>st.heap.get? p=some { cls:=.type "tuple",dict:=d1,data:=.seq us n1,slots:=z1 }/\st.heap.get? q=some { cls:=.type "tuple",dict:=d2,data:=.seq ws n2,slots:=z2 } /\
    (∀ j (h1:j < us.size) (h2:j < ws.size),EqAt A.in1 st us[j] ws[j] (same j)) /\
    R (.ok (.ret (.bool (!((List.range (min us.size ws.size)).all same&&us.size==ws.size))))) st) :=
 .of_wp fun prog w A R st hyp=>by
  obtain ⟨hp,g,dr,tk,os⟩:=st
  obtain ⟨hl,hb,he,fin⟩:=hyp
  have f2:=AutoSeq1.sub_tuple_tuple
  have zl:(us.toList.zip ws.toList).length=min us.size ws.size:=by simp
  wp_walk using wpAny_loadPart' hl,wpAny_loadPart' hb,wpAny_forIn_list _ (fun more b s'=>b.1=none/\s'=⟨hp,g,dr,tk,os⟩/\∃ i,more=(us.toList.zip ws.toList).drop i /\
   R (.ok (.ret (.bool (!(((List.range (min us.size ws.size)).drop i).all same&&us.size==ws.size))))) ⟨hp,g,dr,tk,os⟩) _
  case turn =>
   rintro ⟨y,x⟩ more b s' ⟨hb',rfl,i,hz,hR⟩
   have lt:i < (us.toList.zip ws.toList).length:=by
    rcases Nat.lt_or_ge i (us.toList.zip ws.toList).length with h'|h'
    ·exact h'
    ·rw [List.drop_of_length_le h'] at hz; cases hz
   have hm:i < min us.size ws.size:=zl ▸ lt
   have h1:i < us.size:=Nat.lt_of_lt_of_le hm (Nat.min_le_left _ _)
   have h2:i < ws.size:=Nat.lt_of_lt_of_le hm (Nat.min_le_right _ _)
   rw [List.drop_eq_getElem_cons lt] at hz
   injection hz with pair hmore
   have hy:y=us[i]:=by have:=congrArg Prod.fst pair; simpa using this
   have hx:x=ws[i]:=by have:=congrArg Prod.snd pair; simpa using this
   subst hy hx
   have cons:(List.range (min us.size ws.size)).drop i=i::(List.range (min us.size ws.size)).drop (i+1):=by simp [List.drop_eq_getElem_cons,hm]
   rw [cons,List.all_cons] at hR
   refine wpAny_bind (he i h1 h2 prog w _ _ ?_)
   cases ev:same i with
   | true =>
    rw [ev] at hR
    wp_walk
    exact ⟨rfl,rfl,i+1,hmore,by simpa using hR⟩
   | false =>
    rw [ev] at hR
    wp_walk
    exact ⟨_,rfl,by simpa using hR⟩
  case fin =>
   rintro ⟨b1,b2⟩ s' ⟨hb',rfl,i,hz,hR⟩
   simp only at hb'
   subst hb'
   have ge:min us.size ws.size<=i:=by
    rcases Nat.lt_or_ge i (us.toList.zip ws.toList).length with h'|h'
    ·rw [List.drop_eq_getElem_cons h'] at hz; cases hz
    ·exact zl ▸ h'
   rw [List.drop_of_length_le (by simpa using ge)] at hR
   wp_walk
   exact ⟨_,rfl,by simpa [Builtin.Tuple.tupleCompareSizes,bne] using hR⟩
  case h =>
   exact ⟨rfl,rfl,0,rfl,by simpa using fin⟩
section
variable {prog:Program} {w:World} {A:Around} {E:Value->Shared->Prop} {s:Shared}
theorem v7 {l b:Addr} {us ws:Array Value} {same:Nat->Bool} {Q:Value->Shared->Prop} (hl:s.heap.IsList l us) (hb:s.heap.IsList b ws) (hlen:us.size=ws.size) (hu:A.units < cLine)
  (he:∀ j (h1:j < us.size) (h2:j < ws.size),EqAt A.in1 s us[j] ws[j] (same j)) (h:Q (.bool (!(List.range us.size).all same)) s):wpAny (model prog w) A (compareOp .NotEq (.ref l) (.ref b)) Q E s:=by
 obtain ⟨⟨c1,d1,t1,z1⟩,o1,k1,n1,e1⟩:=id hl
 obtain ⟨⟨c2,d2,t2,z2⟩,o2,k2,n2,e2⟩:=id hb
 simp only at k1 e1 k2 e2
 subst k1 e1 k2 e2
 exact richCompare_meets_room (op:=.NotEq) ⟨_,o1,rfl⟩ ⟨_,o2,rfl⟩ F.slot_list_ne F.entry_list_ne (F.args_list_ne_2 _ _) (ye l b us ws n1 n2 d1 d2 z1 z2 hlen same) ⟨o1,o2,he,⟨(fun x=>nomatch x),h⟩⟩ hu
theorem B6 {l b:Addr} {us ws:Array Value} {Q:Value->Shared->Prop} (hl:s.heap.IsList l us) (hb:s.heap.IsList b ws) (hlen:(us.size != ws.size)=true) (hu:A.units < cLine)
  (h:Q (.bool true) s):wpAny (model prog w) A (compareOp .NotEq (.ref l) (.ref b)) Q E s:=by
 obtain ⟨⟨c1,d1,t1,z1⟩,o1,k1,n1,e1⟩:=id hl
 obtain ⟨⟨c2,d2,t2,z2⟩,o2,k2,n2,e2⟩:=id hb
 simp only at k1 e1 k2 e2
 subst k1 e1 k2 e2
 exact richCompare_meets_room (op:=.NotEq) ⟨_,o1,rfl⟩ ⟨_,o2,rfl⟩ F.slot_list_ne F.entry_list_ne (F.args_list_ne_2 _ _) (uX l b us ws n1 n2 d1 d2 z1 z2 hlen) ⟨o1,o2,⟨(fun x=>nomatch x),h⟩⟩ hu
theorem qG {l b:Addr} {us ws:Array Value} {same:Nat->Bool} {Q:Value->Shared->Prop} (hl:s.heap.IsTuple l us) (hb:s.heap.IsTuple b ws) (hu:A.units < cLine)
  (he:∀ j (h1:j < us.size) (h2:j < ws.size),EqAt A.in1 s us[j] ws[j] (same j)) (h:Q (.bool (!((List.range (min us.size ws.size)).all same&&us.size==ws.size))) s):wpAny (model prog w) A (compareOp .NotEq (.ref l) (.ref b)) Q E s:=by
 obtain ⟨⟨c1,d1,t1,z1⟩,o1,k1,n1,e1⟩:=id hl
 obtain ⟨⟨c2,d2,t2,z2⟩,o2,k2,n2,e2⟩:=id hb
 simp only at k1 e1 k2 e2
 subst k1 e1 k2 e2
 exact richCompare_meets_room (op:=.NotEq) ⟨_,o1,rfl⟩ ⟨_,o2,rfl⟩ F.slot_tuple_ne F.entry_tuple_ne (F.args_tuple_ne_2 _ _) (BZ l b us ws n1 n2 d1 d2 z1 z2 same) ⟨o1,o2,he,⟨(fun x=>nomatch x),h⟩⟩ hu
end
end NEQ

namespace ENM
open PySem PyProof.Rows
open AutoSeq1 (wpAny_loadPart')
section
variable {prog:Program} {w:World} {A:Around} {E:Value->Shared->Prop} {s:Shared}
theorem qP {it t:Addr} {k:Nat} {us:Array Value} {u:Value} {Q:Value->Shared->Prop} (hit:s.heap.IsTupleIter it t k) (ht:s.heap.IsTuple t us) (hu:us[k]?=some u)
  (fin:∀ h',h'.IsTupleIter it t (k+1)->Heap.SameBut it s.heap h'->Q u { s with heap:=h' }):wpAny (model prog w) A (Builtin.SmallTypes.nextOf (.ref it)) Q E s:=by
 obtain ⟨ob,hob,hcl,hda⟩:=id hit
 obtain ⟨ot,hot,_,nt,hdt⟩:=ht
 unfold Builtin.SmallTypes.nextOf
 refine wpAny_bind (wpAny_callSpecial?_slot (name:=Str.ofString "__next__") hit.typeIs F.slot_tuple_iterator_next (wpAny_call_entry F.slot_tuple_iterator_next hit.typeIs F.entry_tuple_iterator_next ?_ (F.args_tuple_iterator_next_1 _)))
 show wpAny _ _ (field (.ref it) 0>>=_) _ _ s
 refine wpAny_bind (wpAny_field hob hda (x:=.ref t) rfl ?_)
 show wpAny _ _ (if (Value.ref t==Value.none)=true then _ else _) _ _ s
 rw [if_neg (show ¬ ((Value.ref t==Value.none)=true) from Bool.false_ne_true)]
 show wpAny _ _ (field (.ref it) 1>>=_) _ _ s
 refine wpAny_bind (wpAny_field hob hda (x:=.int k 0) rfl ?_)
 show wpAny _ _ (seqItems? (.ref t)>>=_) _ _ s
 refine wpAny_bind (wpAny_seqItems hot hdt ?_)
 simp only [Int.toNat_natCast,hu]
 refine wpAny_bind (wpAny_setField hob hda (by simp) (wpAny_pure ⟨u,rfl,wpAny_pure (fin _ ?_ (Heap.SameBut.update ..))⟩))
 refine ⟨_,Heap.get?_update_self _ hob (Obj.isFreed_of_fields (Obj.data_mapFields hda _)),(Obj.cls_mapFields ..).trans hcl,?_⟩
 rw [Obj.data_mapFields hda]
 simp [rawInt]
theorem ux {it t:Addr} {k:Nat} {us:Array Value} {Q:Value->Shared->Prop} (calm:A.handled=none) (hit:s.heap.IsTupleIter it t k) (ht:s.heap.IsTuple t us) (hu:us[k]?=none)
  (fin:∀ h' e,Heap.ExtBut it s.heap h'->(∃ o,h'.get? e=some o/\o.cls=.type "StopIteration")->E (.ref e) { s with heap:=h' }):wpAny (model prog w) A (Builtin.SmallTypes.nextOf (.ref it)) Q E s:=by
 obtain ⟨ob,hob,hcl,hda⟩:=id hit
 obtain ⟨ot,hot,_,nt,hdt⟩:=ht
 unfold Builtin.SmallTypes.nextOf
 refine wpAny_bind (wpAny_callSpecial?_slot (name:=Str.ofString "__next__") hit.typeIs F.slot_tuple_iterator_next (wpAny_call_entry F.slot_tuple_iterator_next hit.typeIs F.entry_tuple_iterator_next ?_ (F.args_tuple_iterator_next_1 _)))
 show wpAny _ _ (field (.ref it) 0>>=_) _ _ s
 refine wpAny_bind (wpAny_field hob hda (x:=.ref t) rfl ?_)
 show wpAny _ _ (if (Value.ref t==Value.none)=true then _ else _) _ _ s
 rw [if_neg (show ¬ ((Value.ref t==Value.none)=true) from Bool.false_ne_true)]
 show wpAny _ _ (field (.ref it) 1>>=_) _ _ s
 refine wpAny_bind (wpAny_field hob hda (x:=.int k 0) rfl ?_)
 show wpAny _ _ (seqItems? (.ref t)>>=_) _ _ s
 refine wpAny_bind (wpAny_seqItems hot hdt ?_)
 simp only [Int.toNat_natCast,hu]
 refine wpAny_bind (wpAny_rule (wpAny_bind (wpAny_setField hob hda (by simp) ?_)))
 show wpAny _ _ (newExc (.type "StopIteration") []>>=_) _ _ _
 refine wpAny_bind ?_
 simp only [newExc,newTuple]
 refine wpAny_bind (wpAny_newObj_type ?_ (by size_fits))
 refine wpAny_bind (m:=firstArgMember _ _) (wpAny_of_eq (a:=Value.none) (by first|rfl|(simp only [firstArgMember]; rfl)) ?_)
 refine wpAny_newObj_type ?_ (by size_fits)
 simp only [raiseNew]
 refine wpAny_bind (wpAny_handled ?_)
 first|rw [show A.in1.handled=none from calm]|rw [calm]
 refine wpAny_bind (wpAny_pure (wpAny_throw ?_))
 exact fin _ _ (((Heap.SameBut.update ..).extBut.push _).push _) ⟨_,Heap.get?_push_size _ rfl,rfl⟩
noncomputable def Inn (tup:Bool) (h:Heap) (it a:Addr) (k:Nat):Prop:=match tup with
 | true=>h.IsTupleIter it a k
 | false=>h.IsListIter it a k
noncomputable def Seq (tup:Bool) (h:Heap) (a:Addr) (us:Array Value):Prop:=match tup with
 | true=>h.IsTuple a us
 | false=>h.IsList a us
theorem Inn.keep {tup:Bool} {h h':Heap} {it a:Addr} {k:Nat} (x:Inn tup h it a k) (e:∀ o,h.get? it=some o->h'.get? it=some o):Inn tup h' it a k:=by
 cases tup with
 | true=>obtain ⟨o,ho,r⟩:=(show h.IsTupleIter it a k from x); exact ⟨o,e _ ho,r⟩
 | false=>obtain ⟨o,ho,r⟩:=(show h.IsListIter it a k from x); exact ⟨o,e _ ho,r⟩
theorem Inn.there {tup:Bool} {h:Heap} {it a:Addr} {k:Nat} (x:Inn tup h it a k):∃ o,h.get? it=some o/\∀ v,o.data≠.cell v:=by
 cases tup with
 | true=>obtain ⟨o,ho,_,hd⟩:=(show h.IsTupleIter it a k from x); exact ⟨o,ho,fun v z=>by rw [hd] at z; cases z⟩
 | false=>obtain ⟨o,ho,_,hd⟩:=(show h.IsListIter it a k from x); exact ⟨o,ho,fun v z=>by rw [hd] at z; cases z⟩
theorem uG {tup:Bool} {it a:Addr} {k:Nat} {us:Array Value} {u:Value} {Q:Value->Shared->Prop} (hit:Inn tup s.heap it a k) (hs:Seq tup s.heap a us) (hu:us[k]?=some u)
  (fin:∀ h',Inn tup h' it a (k+1)->Heap.SameBut it s.heap h'->Q u { s with heap:=h' }):wpAny (model prog w) A (Builtin.SmallTypes.nextOf (.ref it)) Q E s:=by
 cases tup with
 | true=>exact qP hit hs hu fin
 | false=>exact wpAny_nextOf_list_item hit hs hu fin
theorem sF {tup:Bool} {it a:Addr} {k:Nat} {us:Array Value} {Q:Value->Shared->Prop} (calm:A.handled=none) (hit:Inn tup s.heap it a k) (hs:Seq tup s.heap a us) (hu:us[k]?=none)
  (fin:∀ h' e,Heap.ExtBut it s.heap h'->(∃ o,h'.get? e=some o/\o.cls=.type "StopIteration")->E (.ref e) { s with heap:=h' }):wpAny (model prog w) A (Builtin.SmallTypes.nextOf (.ref it)) Q E s:=by
 cases tup with
 | true=>exact ux calm hit hs hu fin
 | false=>exact wpAny_nextOf_list_end calm hit hs hu fin
theorem vC {tup:Bool} {en it a:Addr} {k:Nat} {us:Array Value} {u old:Value} {Q:Option Value->Shared->Prop} (he:IsEnum s.heap en it k old) (hit:Inn tup s.heap it a k) (hs:Seq tup s.heap a us) (hu:us[k]?=some u) (hne:en≠it)
  (fin:∀ h',IsEnumOut h' en it ((k:Int)+1) u s.heap.objs.size->Inn tup h' it a (k+1)->h'.get? s.heap.objs.size=some { cls:=.type "tuple",data:=.seq #[.int k s.toks,u] }->h'.objs.size=s.heap.objs.size+1 ->
   (∀ b o,b≠en->b≠it->s.heap.get? b=some o->h'.get? b=some o)->Q (some (.ref s.heap.objs.size)) { s with heap:=h',toks:=s.toks+1 }):wpAny (model prog w) A (pyNext (.ref en)) Q E s:=by
 have hT:s.TypeIs (.ref en) "enumerate":=⟨_,he,rfl⟩
 unfold pyNext
 refine wpAny_bind (wpAny_attempt (wpAny_callSpecial?_slot (name:=Str.ofString "__next__") hT F.slot_enumerate_next (wpAny_call_entry F.slot_enumerate_next hT F.entry_enumerate_next ?_ (F.args_enumerate_next_1 _))))
 obtain ⟨hp,g,dr,tk,os⟩:=s
 show wpAny _ _ (field (.ref en) 2>>=_) _ _ _
 refine wpAny_bind (wpAny_field he rfl (x:=.ref it) rfl ?_)
 refine wpAny_bind (uG hit hs hu fun h1 hit1 sb1=>?_)
 replace sb1:Heap.SameBut it hp h1:=sb1
 have he1:IsEnum h1 en it k old:=(sb1.2 en hne).trans he
 show wpAny _ _ (field (.ref en) 3>>=_) _ _ ⟨h1,g,dr,tk,os⟩
 refine wpAny_bind (wpAny_field he1 rfl (x:=rawInt k) rfl ?_)
 show wpAny _ _ (field (.ref en) 4>>=_) _ _ ⟨h1,g,dr,tk,os⟩
 refine wpAny_bind (wpAny_field he1 rfl (x:=.none) rfl ?_)
 show wpAny _ _ (mkInt k>>=_) _ _ ⟨h1,g,dr,tk,os⟩
 refine wpAny_bind (wpAny_mkInt ?_)
 show wpAny _ _ (setField (.ref en) 3 (rawInt ((k:Int)+1))>>=_) _ _ ⟨h1,g,dr,tk+1,os⟩
 refine wpAny_bind (wpAny_setField_rec he1 (by simp) fun h2 he2 sb2=>?_)
 replace sb2:Heap.SameBut en h1 h2:=sb2
 replace he2:IsEnum h2 en it ((k:Int)+1) old:=he2
 show wpAny _ _ (setField (.ref en) 4 .none>>=_) _ _ ⟨h2,g,dr,tk+1,os⟩
 refine wpAny_bind (wpAny_setField_rec he2 (by simp) fun h3 he3 sb3=>?_)
 replace sb3:Heap.SameBut en h2 h3:=sb3
 replace he3:IsEnum h3 en it ((k:Int)+1) old:=he3
 show wpAny _ _ (newTuple [.int k tk,u]>>=_) _ _ ⟨h3,g,dr,tk+1,os⟩
 refine wpAny_bind (wpAny_newTuple ?_)
 have he4:IsEnum (h3.push { cls:=.type "tuple",data:=.seq #[.int k tk,u] }) en it ((k:Int)+1) old:=Heap.get?_push_of_some _ he3
 generalize eh4:h3.push { cls:=.type "tuple",data:=.seq #[.int k tk,u] }=h4 at he4
 have sz3:h3.objs.size=hp.objs.size:=by rw [sb3.1,sb2.1,sb1.1]
 have enlt:en < hp.objs.size:=Heap.lt_size he
 have tp4:h4.get? hp.objs.size=some { cls:=.type "tuple",data:=.seq #[.int k tk,u] }:=by rw [<- eh4,<- sz3]; exact Heap.get?_push_size _ rfl
 have sz4:h4.objs.size=hp.objs.size+1:=by rw [<- eh4,Heap.size_push,sz3]
 have kp4:∀ b o,b≠en->b≠it->hp.get? b=some o->h4.get? b=some o:=fun b o hbe hbi hb=>by
  rw [<- eh4]; exact Heap.get?_push_of_some _ (sb3.extBut b o hbe (sb2.extBut b o hbe (sb1.extBut b o hbi hb)))
 have hit4:Inn tup h4 it a (k+1):=hit1.keep fun o e=>by
  rw [<- eh4]; exact Heap.get?_push_of_some _ (sb3.extBut _ o (Ne.symm hne) (sb2.extBut _ o (Ne.symm hne) e))
 show wpAny _ _ (Builtin.SmallTypes.ownedTupleIsFree (.ref en)>>=_) _ _ ⟨h4,g,dr,tk+1,os⟩
 rw [sz3]
 clear eh4 he3 sb3 he2 sb2 he1 sb1 hit1 sz3 h3 h2 h1
 refine wpAny_bind ?_
 unfold Builtin.SmallTypes.ownedTupleIsFree
 refine wpAny_bind (wpAny_field he4 rfl (x:=.none) rfl (wpAny_pure ?_))
 simp only [if_true]
 refine wpAny_bind (wpAny_rule ?_)
 refine wpAny_bind (wpAny_field he4 rfl (x:=old) rfl ?_)
 refine wpAny_bind (wpAny_setField_rec he4 (by simp) fun h5 he5 sb5=>?_)
 replace sb5:Heap.SameBut en h4 h5:=sb5
 replace he5:IsEnum h5 en it ((k:Int)+1) u:=he5
 show wpAny _ _ (Builtin.SmallTypes.ownedTupleHandOut (.ref en) (.ref hp.objs.size)>>=_) _ _ ⟨h5,g,dr,tk+1,os⟩
 refine wpAny_bind ?_
 unfold Builtin.SmallTypes.ownedTupleHandOut
 refine wpAny_bind (wpAny_setField_rec he5 (by simp) fun h6 he6 sb6=>?_)
 replace sb6:Heap.SameBut en h5 h6:=sb6
 replace he6:IsEnumOut h6 en it ((k:Int)+1) u hp.objs.size:=he6
 refine wpAny_setField_rec he6 (by simp) fun h7 he7 sb7=>?_
 replace sb7:Heap.SameBut en h6 h7:=sb7
 replace he7:IsEnumOut h7 en it ((k:Int)+1) u hp.objs.size:=he7
 have up:∀ b o,b≠en->h4.get? b=some o->h7.get? b=some o:=fun b o hbe hb=>sb7.extBut b o hbe (sb6.extBut b o hbe (sb5.extBut b o hbe hb))
 refine wpAny_bind (wpAny_letGo (wpAny_pure ⟨_,rfl,wpAny_pure (fin h7 he7 (hit4.keep fun o e=>up _ o (Ne.symm hne) e) (up _ _ (Nat.ne_of_gt enlt) tp4) ?_ fun b o hbe hbi hb=>up b o hbe (kp4 b o hbe hbi hb))⟩))
 rw [sb7.1,sb6.1,sb5.1,sz4]
theorem Am {tup:Bool} {en it a:Addr} {k:Nat} {us:Array Value} {old:Value} {Q:Option Value->Shared->Prop} (calm:A.handled=none) (he:IsEnum s.heap en it k old) (hit:Inn tup s.heap it a k) (hs:Seq tup s.heap a us) (hu:us[k]?=none)
  (fin:∀ h',Heap.ExtBut it s.heap h'->Q none { s with heap:=h' }):wpAny (model prog w) A (pyNext (.ref en)) Q E s:=by
 have hT:s.TypeIs (.ref en) "enumerate":=⟨_,he,rfl⟩
 unfold pyNext
 refine wpAny_bind (wpAny_attempt (wpAny_callSpecial?_slot (name:=Str.ofString "__next__") hT F.slot_enumerate_next (wpAny_call_entry F.slot_enumerate_next hT F.entry_enumerate_next ?_ (F.args_enumerate_next_1 _))))
 show wpAny _ _ (field (.ref en) 2>>=_) _ _ _
 refine wpAny_bind (wpAny_field he rfl (x:=.ref it) rfl ?_)
 refine wpAny_bind (sF calm hit hs hu fun h' x ext hx=>?_)
 obtain ⟨o,ho,hc⟩:=hx
 refine wpAny_bind (wpAny_isInstance (T:="StopIteration") (b:=true) ⟨o,ho,hc⟩ isSubtype_stop ?_)
 exact wpAny_pure (fin _ ext)
theorem qU (t:Addr) (us:Array Value) (n:Nat) (dd:Option Addr) (sl:Array (Option Value)) :
  Meets (Builtin.«enumerate.__new__» ⟨[.type "enumerate",.ref t],[]⟩) (fun _ R s=>s.heap.get? t=some { cls:=.type "tuple",dict:=dd,data:=.seq us n,slots:=sl } /\
   R (.ok (.ret (.ref (s.heap.push { cls:=.type "tuple_iterator",data:=.fields #[.ref t,.int 0 0] }).objs.size)))
    { s with heap:=(s.heap.push { cls:=.type "tuple_iterator",data:=.fields #[.ref t,.int 0 0] }).push { cls:=.type "enumerate",data:=.fields #[.none,.bool false,.ref s.heap.objs.size,rawInt 0,.none,.none] } }) :=
 .of_wp fun prog w A R s h=>by
  obtain ⟨hp,g,d,tk,os⟩:=s
  obtain ⟨ht,h⟩:=h
  have hsub:=sub_enumerate
  have hT:Heap.IsTuple (Shared.heap ⟨hp,g,d,tk,os⟩) t us:=⟨_,ht,rfl,n,rfl⟩
  wp_walk using wpAny_loadPart' ht
  refine wpAny_stack_any fun st=>wpAny_pure ?_
  split
  ·rename_i c _ _ _ _ _
   cases (c==Value.type "enumerate")
   ·wp_walk using wpAny_loadPart' ht,wpAny_pyIter_tuple hT
    exact ⟨_,rfl,h⟩
   ·wp_walk using wpAny_loadPart' ht,wpAny_pyIter_tuple hT
    exact ⟨_,rfl,h⟩
  ·wp_walk using wpAny_loadPart' ht,wpAny_pyIter_tuple hT
   exact ⟨_,rfl,h⟩
theorem xm {t:Addr} {us:Array Value} {Q:Value->Shared->Prop} (hT:s.heap.IsTuple t us)
  (h:∀ h',IsEnum h' (s.heap.objs.size+1) s.heap.objs.size 0 .none->h'.IsTupleIter s.heap.objs.size t 0->h'.objs.size=s.heap.objs.size+2->(∀ b o,s.heap.get? b=some o->h'.get? b=some o)->Q (.ref (s.heap.objs.size+1)) { s with heap:=h' }) :
  wpAny (model prog w) A (call (.type "enumerate") [.ref t]) Q E s:=by
 obtain ⟨⟨c,dd,dt,sl⟩,ht,hc,n,hd⟩:=hT
 replace hc:c=.type "tuple":=hc
 replace hd:dt=.seq us n:=hd
 subst hc hd
 refine callType_new F.called_enumerate (by decide) (F.typeCall_enumerate_1 _) (F.newCall_enumerate_1 _) (fun obj=>F.args_object_init_2 obj _) F.entry_enumerate_new (qU t us n dd sl) ⟨ht,?_⟩
 have sz:(s.heap.push { cls:=.type "tuple_iterator",data:=.fields #[.ref t,.int 0 0] }).objs.size=s.heap.objs.size+1:=Heap.size_push ..
 show _/\_
 rw [sz]
 have he:IsEnum ((s.heap.push { cls:=.type "tuple_iterator",data:=.fields #[.ref t,.int 0 0] }).push { cls:=.type "enumerate",data:=.fields #[.none,.bool false,.ref s.heap.objs.size,rawInt 0,.none,.none] }) (s.heap.objs.size+1) s.heap.objs.size 0 .none:=by
  have:=Heap.get?_push_size (s.heap.push { cls:=.type "tuple_iterator",data:=.fields #[.ref t,.int 0 0] }) (o:={ cls:=.type "enumerate",data:=.fields #[.none,.bool false,.ref s.heap.objs.size,rawInt 0,.none,.none] }) rfl
  rw [sz] at this; exact this
 exact ⟨⟨_,he,rfl⟩,h _ he ⟨_,Heap.get?_push_of_some _ (Heap.get?_push_size _ rfl),rfl,rfl⟩ (by rw [Heap.size_push,sz]) fun b o x=>Heap.get?_push_of_some _ (Heap.get?_push_of_some _ x)⟩
theorem Cc {tup:Bool} {a:Addr} {us:Array Value} {Q:Value->Shared->Prop} (hs:Seq tup s.heap a us)
  (h:∀ h',IsEnum h' (s.heap.objs.size+1) s.heap.objs.size 0 .none->Inn tup h' s.heap.objs.size a 0->h'.objs.size=s.heap.objs.size+2->(∀ b o,s.heap.get? b=some o->h'.get? b=some o)->Q (.ref (s.heap.objs.size+1)) { s with heap:=h' }) :
  wpAny (model prog w) A (call (.type "enumerate") [.ref a]) Q E s:=by
 cases tup with
 | true=>exact xm hs h
 | false=>exact call_enumerate_list hs h
end
end ENM
namespace L2
open PySem PySem.Spec PyProof.Rows ENM
noncomputable def SqB (K:PySem.W.Frag) (H:Hp) (tup:Bool) (a:Addr) (xs:List V):Prop:=match tup with
 | true=>SqT K H a xs
 | false=>SqL K H a xs
noncomputable def Ite (K:PySem.W.Frag) (tup:Bool) (a:Addr):It :=
 ⟨fun i H=>∃ xs x,SqB K H tup a xs/\xs[i]?=some x,fun i H x H'=>∃ y p,(∀ xs,SqB K H tup a xs->xs[i]?=some y)/\H p=none/\H'=upd H p (.tup [.int i,y])/\x=.ref p,fun i H=>∃ xs,SqB K H tup a xs/\xs.length<=i⟩
theorem Inv.kR {X:Cx} {pins:List (Addr × Obj)} {σ:L2.St} {H:Hp} {s:Shared} (I:Inv X pins σ H s) {tup:Bool} {a:Addr} {xs:List V} (h:SqB X.K H tup a xs):∃ its:List Value,Vals xs its/\Seq tup s.heap a its.toArray:=by
 cases tup with
 | true=>obtain ⟨its,rv,p,_⟩:=I.tuple h; exact ⟨its,rv,p⟩
 | false=>obtain ⟨its,rv,p,_⟩:=I.list h; exact ⟨its,rv,p.isList⟩
theorem Inv.yH {X:Cx} {pins:List (Addr × Obj)} {σ:L2.St} {H:Hp} {s:Shared} (I:Inv X pins σ H s) {tup:Bool} {a:Addr} {xs ys:List V} (h:SqB X.K H tup a xs) (h':SqB X.K H tup a ys):xs=ys:=by
 cases tup with
 | true=>exact I.gO h h'
 | false=>exact I.iJ h h'
theorem vS {P:Program} {w:World} {K:PySem.W.Frag} {elts:List Expr} {k1:Nat} {tp:Pos} (tup:Bool) (a en it:Addr) (hne:en≠it) :
  Turn P w K (.Tuple elts k1 tp) (Ite K tup a) [en,it] en (fun i h=>(∃ old,IsEnum h en it i old)/\Inn tup h it a i) where
 mem:=by simp
 obj:=fun i h st b hb=>by
  obtain ⟨⟨old,he⟩,hi⟩:=st
  rcases List.mem_cons.mp hb with rfl|hb
  ·exact ⟨_,he,fun v z=>by
    have z':Data.fields _=Data.cell v:=z
    cases z'⟩
  ·have e:b=it:=by simpa using hb
   subst e; exact hi.there
 keep:=fun i h h' st k=>by
  obtain ⟨⟨old,he⟩,hi⟩:=st
  exact ⟨⟨old,k en (by simp) _ he⟩,hi.keep fun o e=>k it (by simp) o e⟩
 item:=by
  intro X hP hw hK hc i pins s σ H E I hf st hg
  subst hP hw hK
  obtain ⟨⟨old,he⟩,hi⟩:=st
  obtain ⟨xs,x,hq,hx⟩:=hg
  obtain ⟨its,rv,hs⟩:=I.kR hq
  obtain ⟨u,hu,ru⟩:=rv.get hx
  obtain ⟨f0,f1,f2,f3,f4,f5⟩:=hf en (by simp)
  obtain ⟨g0,g1,g2,g3,g4,g5⟩:=hf it (by simp)
  refine vC he hi hs (u:=u) (by simpa using hu) hne fun h' ho hi' ht hz hk=>?_
  refine ⟨_,rfl,wpAny_letOwnedTupleGo_enum ho fun h2 he2 sb2=>?_⟩
  replace sb2:Heap.SameBut en h' h2:=sb2
  have elt:en < s.heap.objs.size:=Heap.lt_size he
  have hp:H s.heap.objs.size=none:=I.hok.fresh (Nat.le_refl _)
  have ilt:it < s.heap.objs.size:=by obtain ⟨o,e,_⟩:=hi.there; exact Heap.lt_size e
  have kept:∀ b o,b≠en->b≠it->s.heap.get? b=some o->h2.get? b=some o:=fun b o h1 h3 e=>sb2.extBut b o h1 (hk b o h1 h3 e)
  have tp2:h2.get? s.heap.objs.size=some { cls:=.type "tuple",data:=.seq #[.int i s.toks,u] }:=sb2.extBut _ _ (Nat.ne_of_gt elt) ht
  have I2:Inv X pins σ (upd H s.heap.objs.size (.tup [.int i,x])) { s with heap:=h2,toks:=s.toks+1 }:=by
   refine I.step (g':=s.gens) (d':=s.drawn) (ch:=[en,it]) (fun b hb=>?_) (fun b o _ _ hc e _=>kept b o (fun z=>hc (by simp [z])) (fun z=>hc (by simp [z])) e)
    (fun b o _ _ hc e _=>⟨o.slots,kept b o (fun z=>hc (by simp [z])) (fun z=>hc (by simp [z])) e⟩) (fun b o _ e n=>by rw [aE (Nat.ne_of_lt (Heap.lt_size e))]; exact n)
    (fun b o hc e=>⟨o,kept b o (fun z=>hc (by simp [z])) (fun z=>hc (by simp [z])) e⟩) (fun b ys q=>by rw [aE (aV q hp)]; exact q) (fun b o u q=>by rw [aE (aV q hp)]; exact q)
    (fun b ps q=>⟨#[],by rw [aE (aV q hp),q]; simp⟩) (fun m hm=>?_) ?_ I.bare
   ·rcases List.mem_cons.mp hb with rfl|hb
    ·exact ⟨f3,f1,f4,f5⟩
    ·have e:b=it:=by simpa using hb
     subst e; exact ⟨g3,g1,g4,g5⟩
   ·obtain ⟨o,es,ep,ho',r⟩:=hm
    exact ⟨o,es,ep,kept _ o (Ne.symm f1) (Ne.symm g1) ho',r⟩
   ·intro b o q
    by_cases hb:b=s.heap.objs.size
    ·subst hb
     rw [b5] at q
     cases q
     exact ⟨by show 2<=sizeLine; decide,[.int i s.toks,u],.cons ⟨_,rfl⟩ (.cons ru .nil),_,tp2,rfl,_,rfl⟩
    ·rw [aE hb] at q
     have hb1:b≠en:=fun z=>by rw [z,f0] at q; cases q
     have hb2:b≠it:=fun z=>by rw [z,g0] at q; cases q
     refine (I.hok b o q).stay (fun c v hc e=>?_) (fun c q=>by rw [aE (aV q hp)]; exact q) fun c ys q=>by rw [aE (aV q hp)]; exact q
     rcases hc with rfl|hc
     ·exact kept _ v hb1 hb2 e
     ·exact kept c v (fun z=>by rw [z,f0] at hc; cases hc) (fun z=>by rw [z,g0] at hc; cases hc) e
  refine ⟨.ref s.heap.objs.size,upd H s.heap.objs.size (.tup [.int i,x]),I2,rfl,⟨x,_,fun ys hy=>by rw [I.yH hy hq]; exact hx,hp,rfl,rfl⟩,⟨⟨u,by simpa using he2⟩,hi'.keep fun o e=>sb2.extBut _ o (Ne.symm hne) e⟩,fun b hb=>?_⟩
  rcases List.mem_cons.mp hb with rfl|hb
  ·rw [aE (Nat.ne_of_lt elt)]; exact f0
  ·have e:b=it:=by simpa using hb
   subst e; rw [aE (Nat.ne_of_lt ilt)]; exact g0
 done:=by
  intro X hP hw hK hc i pins s σ H E I hf st hg
  subst hP hw hK
  obtain ⟨⟨old,he⟩,hi⟩:=st
  obtain ⟨xs,hq,hx⟩:=hg
  obtain ⟨its,rv,hs⟩:=I.kR hq
  obtain ⟨g0,g1,g2,g3,g4,g5⟩:=hf it (by simp)
  have hl:=rv.length
  exact Am (I.ok.hd hc) he hi hs (by simp; omega) fun h' eb=>⟨rfl,I.turned (t':=s.toks) (fun b o hb e=>eb b o hb e) g0 g1 g3 g4 g5⟩
 self:=fun _ _ _ _ _ st h=>by
  obtain ⟨⟨old,he⟩,_⟩:=st
  exact wpAny_pyIter_enum he h
section
variable {X:Cx}
noncomputable def rm (K:PySem.W.Frag) (ta:TA):TI:=fun σ H R=>ta σ H fun vs H1=>∃ tup a,vs=[.ref a]/\(∃ xs,SqB K H1 tup a xs)/\R (Ite K tup a) H1
theorem w9 {e:Expr} {ta:TA} {p pos:Pos} {elts:List Expr} {k1:Nat} {tp:Pos} (hg:Gl X "enumerate") (hm:X.mg "enumerate" = none) (hv:bootBuiltins "enumerate" = some (.type "enumerate")) (ha:PA X [e] ta) (hs:starEach [e] X.env=[(false,eval e X.env)]) :
  PI X (.Tuple elts k1 tp) (.Call (.Name "enumerate" p) [e] [] pos) (rm X.K ta):=by
 intro pins s σ H R I h
 refine Call_ (dc I hg hm hv (PyProof.Rows.callWith_type1 (thn (ha pos pins s σ H _ I h) fun us s1 ⟨vs,H1,I1,r1,q1⟩=>?_) hs rfl))
 obtain ⟨tup,a,e,⟨xs,hq⟩,q⟩:=q1
 subst e
 cases r1 with
 | cons r rr =>
  cases rr
  cases r
  obtain ⟨its,rv,hsq⟩:=I1.kR hq
  refine Cc hsq fun h' he hi hz hk=>?_
  refine wpAny_pyIter_enum he ?_
  have fr:∀ b,s1.heap.objs.size<=b->cG X pins H1 b:=fun b hb=>I1.fB hb (I1.hok.fresh hb)
  refine ⟨s1.heap.objs.size+1,[s1.heap.objs.size+1,s1.heap.objs.size],_,_,H1,rfl,I1.kept (t':=s1.toks) hk,vS tup a _ _ (Nat.ne_of_gt (Nat.lt_succ_self _)),⟨⟨.none,he⟩,hi⟩,fun b hb=>?_,q⟩
  rcases List.mem_cons.mp hb with rfl|hb
  ·exact fr _ (Nat.le_succ _)
  ·have e:b=s1.heap.objs.size:=by simpa using hb
   subst e; exact fr _ (Nat.le_refl _)
noncomputable def ji (lo:Int) (n:Nat):It:=⟨fun i _=>i < n,fun i H x H'=>H'=H/\x=.int (lo - i),fun i _=>n<=i⟩
theorem tZ {P:Program} {w:World} {K:PySem.W.Frag} {tg:Expr} (it:Addr) (lo:Int) (n:Nat):Turn P w K tg (ji lo n) [it] it (fun i h=>IsRangeIter h it (lo+(i:Nat) * (-1)) ((n:Int) - (i:Nat)) (-1)) where
 mem:=by simp
 obj:=fun i h st b hb=>by
  have e:b=it:=by simpa using hb
  subst e
  exact ⟨_,st,fun v z=>by
   have z':Data.fields _=Data.cell v:=z
   cases z'⟩
 keep:=fun i h h' st k=>k it (by simp) _ st
 item:=by
  intro X hP hw hK hc i pins s σ H E I hf st hg
  subst hP hw hK
  obtain ⟨f0,f1,f2,f3,f4,f5⟩:=hf it (by simp)
  have W:=Walks.range (prog:=X.prog) (w:=X.w) (I.ok.hd hc) it lo (-1) n
  refine W.item i s _ _ hg st fun v h' tk hv st' kk=>?_
  obtain ⟨t,rfl⟩:=hv
  have I1:Inv X pins σ H { s with heap:=h',toks:=tk }:=I.turned (fun b o hb e=>kk b o (by simpa using hb) e) f0 f1 f3 f4 f5
  refine ⟨_,rfl,iH (s:={ s with heap:=h',toks:=tk }) (n:="range_iterator") st' rfl rfl (by decide) ⟨.int (lo - i),H,I1,⟨t,?_⟩,⟨rfl,rfl⟩,st',fun b hb=>(hf b hb).1⟩⟩
  congr 1
  omega
 done:=by
  intro X hP hw hK hc i pins s σ H E I hf st hg
  subst hP hw hK
  obtain ⟨f0,f1,f2,f3,f4,f5⟩:=hf it (by simp)
  exact wpAny_pyNext_range_end (I.ok.hd hc) st (by have:n<=i:=hg; omega) fun h' eb=>⟨rfl,I.turned (t':=s.toks) (fun b o hb e=>eb b o hb e) f0 f1 f3 f4 f5⟩
 self:=fun _ _ _ _ _ st h=>wpAny_pyIter_rangeiter st h
theorem rangeSize_down (a b:Int):Builtin.Range.rangeSize a b (-1)=if b < a then a - b else 0:=by
 unfold Builtin.Range.rangeSize
 rw [if_neg (by decide)]
 by_cases h:b < a
 ·rw [if_pos h,if_pos (show a > b from h)]
  rw [show (-(-1):Int)=1 from rfl,Int.ediv_one]; omega
 ·rw [if_neg h,if_neg (show ¬ a > b from h)]
theorem small_down {a b:Int} (ha:-(2 ^ 62)<=a) (ha':a < 2 ^ 62) (hb:-(2 ^ 62)<=b) (hb':b < 2 ^ 62):Builtin.Range.small a b (-1)=true:=by
 unfold Builtin.Range.small
 rw [rangeSize_down]
 simp only [Builtin.Range.rangeFitsLong,Bool.and_eq_true,Bool.or_eq_true,decide_eq_true_eq,beq_iff_eq]
 by_cases h:b < a
 ·simp only [if_pos h]
  rw [if_neg (show ¬ (-1:Int) > 0 by decide),Bool.and_eq_true,decide_eq_true_eq,decide_eq_true_eq]
  omega
 ·simp only [if_neg h]
  rw [if_neg (show ¬ (-1:Int) > 0 by decide),Bool.and_eq_true,decide_eq_true_eq,decide_eq_true_eq]
  omega
noncomputable def A2 (ta:TA):TI:=fun σ H R=>ta σ H fun vs H1=>∃ i j:Int,vs=[.int i,.int j,.int (-1)]/\(-(2 ^ 62)<=i/\i < 2 ^ 62/\-(2 ^ 62)<=j/\j < 2 ^ 62)/\R (ji i (i - j).toNat) H1
theorem vD {tg a b c:Expr} {ta:TA} {p pos:Pos} (hg:Gl X "range") (hm:X.mg "range" = none) (ha:PA X [a,b,c] ta) (hs:starEach [a,b,c] X.env=[(false,eval a X.env),(false,eval b X.env),(false,eval c X.env)]) (hs2:starEach [b,c] X.env=[(false,eval b X.env),(false,eval c X.env)]) :
  PI X tg (.Call (.Name "range" p) [a,b,c] [] pos) (A2 ta):=by
 intro pins s σ H R I h
 refine Call_ (dc I hg hm boot_range (PyProof.Rows.callWith_type1 (thn (ha pos pins s σ H _ I h) fun us s1 ⟨vs,H1,I1,r1,q1⟩=>?_) (by rw [hs,hs2]) (by rw [hs2]; rfl)))
 obtain ⟨i,j,e,⟨q1,q2,q3,q4⟩,q⟩:=q1
 subst e
 cases r1 with
 | cons r rr =>
  cases rr with
  | cons r' rr =>
   cases rr with
   | cons r'' rr =>
    cases rr
    obtain ⟨t,rfl⟩:=r
    obtain ⟨t',rfl⟩:=r'
    obtain ⟨t'',rfl⟩:=r''
    refine call_range_3 (by decide) ?_ (.inl (PyProof.noPylong_small (by decide)))
    refine wpAny_pyIter_range (IsRange.new ..) (small_down q1 q2 q3 q4) ?_
    have I2:Inv X pins σ H1 { s1 with heap:=s1.heap.push { cls:=.type "range",data:=.fields #[.int i t,.int j t',.int (-1) t''] } }:=I1.kept (t':=s1.toks) fun b o e=>Heap.get?_push_of_some _ e
    refine ⟨(s1.heap.push { cls:=.type "range",data:=.fields #[.int i t,.int j t',.int (-1) t''] }).objs.size,[(s1.heap.push { cls:=.type "range",data:=.fields #[.int i t,.int j t',.int (-1) t''] }).objs.size],_,_,H1,rfl,
     I2.kept (t':=s1.toks) fun b o e=>Heap.get?_push_of_some _ e,tZ _ i (i - j).toNat,?_,fun b hb=>?_,q⟩
    ·have e1:i+((0:Nat):Int) * (-1)=i:=by simp
     have e2:(((i - j).toNat:Nat):Int) - ((0:Nat):Int)=Builtin.Range.rangeSize i j (-1):=by rw [rangeSize_down]; split <;> omega
     show IsRangeIter _ _ (i+((0:Nat):Int) * (-1)) ((((i - j).toNat:Nat):Int) - ((0:Nat):Int)) (-1)
     rw [e1,e2]
     exact Heap.get?_push_size _ rfl
    ·have e:b=(s1.heap.push { cls:=.type "range",data:=.fields #[.int i t,.int j t',.int (-1) t''] }).objs.size:=by simpa using hb
     subst e
     exact I2.fB (Nat.le_refl _) (I2.hok.fresh (Nat.le_refl _))
end
end L2

namespace HT
open PySem PyProof.Rows
open Builtin
theorem uL:fillsNumberSlot (.type "tuple") "mul" = pure false :=
 PySem.fillsNumberSlot_seq (id:="tuple.__mul__") (r:=some (.builtin "tuple.__rmul__")) F.slot_tuple_mul.lookup (by decide +kernel) F.slot_tuple_rmul.lookup (by decide +kernel)
theorem Ce:seqRepeat? (.type "tuple")=pure (some (.builtin "tuple.__mul__")):=by
 unfold seqRepeat?
 rw [PySem.seqSlot_of (T:="tuple") (name:="__mul__") (id:="tuple.__mul__") F.slot_tuple_mul.lookup (by decide +kernel),PySem.seqSlot_of (T:="tuple") (name:="__rmul__") (id:="tuple.__rmul__") F.slot_tuple_rmul.lookup (by decide +kernel)]
 rfl
theorem sY (a:Int) (t:Tok) (l:Addr) (items:Array Value) (n:Nat) (dd:Option Addr) (sl:Array (Option Value)) :
  Meets (Builtin.«int.__rmul__» ⟨[.int a t,.ref l],[]⟩) (fun _ R s=>s.heap.get? l=some { cls:=.type "tuple",dict:=dd,data:=.seq items n,slots:=sl }/\R (.ok (.ret Value.notImplemented)) s) :=
 .of_wp fun prog w A R s h=>by obtain ⟨hp,g,d,tk,os⟩:=s; obtain ⟨hl,h⟩:=h; wp_walk; exact ⟨_,rfl,h⟩
theorem zI (x:Int) (u:Tok) (l:Addr) (items:Array Value) (n:Nat) (dd:Option Addr) (sl:Array (Option Value)) (h1:(decide (x < -(2 ^ 63))||decide (x ≥ 2 ^ 63))=false) (h2:(items.isEmpty||x==1)=true) :
  Meets (Builtin.«tuple.__mul__» ⟨[.ref l,.int x u],[]⟩) (fun _ R s=>s.heap.get? l=some { cls:=.type "tuple",dict:=dd,data:=.seq items n,slots:=sl }/\R (.ok (.ret (.ref l))) { s with heap:=s.heap,toks:=s.toks }) :=
 .of_wp fun prog w A R s h=>by
  obtain ⟨hp,g,d,tk,os⟩:=s; obtain ⟨hl,h⟩:=h
  have f1:=AutoSeq1.idx_int
  wp_walk using wpAny_loadPart' hl
  refine wpAny_ite_false (by simp only [h1]; decide) ?_
  wp_walk using wpAny_loadPart' hl
  exact ⟨_,rfl,h⟩
theorem Bb (x:Int) (u:Tok) (l:Addr) (items:Array Value) (n:Nat) (dd:Option Addr) (sl:Array (Option Value)) (h1:(decide (x < -(2 ^ 63))||decide (x ≥ 2 ^ 63))=false) (h2:(items.isEmpty||x==1)=false)
  (h3:(decide (x<=0)||items.isEmpty)=false) (h4:¬ (items.size * x > (2 ^ 63 - 1) / 8)) (h5:Builtin.Tuple.tupleTooMany (items.size * x)=false) (h6:(List.foldl (fun x1 x2=>x1++x2) #[] (List.replicate x.toNat items)).size<=sizeLine) :
  Meets (Builtin.«tuple.__mul__» ⟨[.ref l,.int x u],[]⟩) (fun _ R s=>s.heap.get? l=some { cls:=.type "tuple",dict:=dd,data:=.seq items n,slots:=sl }/\R (.ok (.ret (.ref s.heap.objs.size))) { s with heap:=s.heap.push { cls:=Value.type "tuple",data:=Data.seq (List.foldl (fun x1 x2=>x1++x2) #[] (List.replicate x.toNat items)) },toks:=s.toks }) :=
 .of_wp fun prog w A R s h=>by
  obtain ⟨hp,g,d,tk,os⟩:=s; obtain ⟨hl,h⟩:=h
  have f1:=AutoSeq1.idx_int
  wp_walk using wpAny_loadPart' hl
  refine wpAny_ite_false (by simp only [h1]; decide) ?_
  wp_walk using wpAny_loadPart' hl
  refine wpAny_ite_false (decide_eq_false h4) ?_
  refine wpAny_ite_false (by simp only [h5]; decide) ?_
  wp_walk using wpAny_loadPart' hl
  exact ⟨_,rfl,h⟩
theorem vg (x:Int) (u:Tok) (l:Addr) (items:Array Value) (n:Nat) (dd:Option Addr) (sl:Array (Option Value)) (h1:(decide (x < -(2 ^ 63))||decide (x ≥ 2 ^ 63))=false) (h2:(items.isEmpty||x==1)=false)
  (h3:(decide (x<=0)||items.isEmpty)=true) :
  Meets (Builtin.«tuple.__mul__» ⟨[.ref l,.int x u],[]⟩) (fun _ R s=>s.heap.get? l=some { cls:=.type "tuple",dict:=dd,data:=.seq items n,slots:=sl }/\R (.ok (.ret (.ref s.heap.objs.size))) { s with heap:=s.heap.push { cls:=Value.type "tuple",data:=Data.seq #[] },toks:=s.toks }) :=
 .of_wp fun prog w A R s h=>by
  obtain ⟨hp,g,d,tk,os⟩:=s; obtain ⟨hl,h⟩:=h
  have f1:=AutoSeq1.idx_int
  wp_walk using wpAny_loadPart' hl
  refine wpAny_ite_false (by simp only [h1]; decide) ?_
  wp_walk using wpAny_loadPart' hl
  exact ⟨_,rfl,h⟩
end HT
namespace L2
open PySem PySem.Spec PyProof.Rows
section
variable {X:Cx}
theorem sE:OpR X (binaryOp .Mult) (fun x y H Q=>∃ a k xs,x=.ref a/\y=.int k/\SqT X.K H a xs/\-(2 ^ 63)<=k/\k < 2 ^ 63/\xs.length * k.toNat<=sizeLine /\
  ((xs=[]\/k=1)->Q (.ref a) H)/\∀ p,H p=none->Q (.ref p) (upd H p (.tup (List.replicate k.toNat xs).flatten))):=by
 intro pins s σ H x y v u Q I rx ry h
 obtain ⟨a,k,xs,rfl,rfl,ha,h1,h2,hz,q1,q2⟩:=h
 cases rx
 obtain ⟨t,rfl⟩:=ry
 obtain ⟨its,r,p1,_⟩:=I.tuple ha
 obtain ⟨⟨cls,dd,data,sl⟩,ho,hc,n,hd⟩:=id p1
 simp only at hc hd
 subst hc hd
 have hlen:xs.length=its.length:=r.length
 have b1:(decide (k < -(2 ^ 63))||decide (k ≥ 2 ^ 63))=false:=by
  rw [Bool.or_eq_false_iff]; exact ⟨decide_eq_false (by omega),decide_eq_false (by omega)⟩
 refine wpAny_binaryOp_repeat_ref (T:="tuple") (U:="int") (by decide) ⟨_,ho,rfl⟩ (fun s'=>typeIs_int s' k t) HT.uL F.fills_int_mul F.slot_int_rmul HT.Ce F.slot_int_index.lookup
  (call_meets F.slot_int_rmul (typeIs_int s k t) F.entry_int_rmul (F.args_int_rmul_2 _ _) (HT.sY k t a its.toArray n dd sl) ⟨ho,rfl,⟨_,ho,rfl⟩,?_⟩)
 by_cases hs:xs=[]\/k=1
 ·refine call_meets F.slot_tuple_mul ⟨_,ho,rfl⟩ F.entry_tuple_mul (F.args_tuple_mul_2 _ _) (HT.zI k t a its.toArray n dd sl b1 ?_) ⟨ho,⟨.ref a,H,I,rfl,q1 hs⟩⟩
  rw [Bool.or_eq_true]
  rcases hs with e|e
  ·left
   subst e
   have:its=[]:=List.length_eq_zero_iff.mp hlen.symm
   subst this; rfl
  ·right; exact beq_iff_eq.mpr e
 ·have hne:its≠[]:=fun e=>hs (.inl (List.length_eq_zero_iff.mp (by rw [hlen,e]; rfl)))
  have hemp:its.toArray.isEmpty=false:=by
   cases its with
   | nil=>exact absurd rfl hne
   | cons z zs=>simp
  have b2:(its.toArray.isEmpty||k==1)=false:=by
   rw [Bool.or_eq_false_iff]; exact ⟨hemp,beq_eq_false_iff_ne.mpr fun e=>hs (.inr e)⟩
  by_cases hk:k<=0
  ·have e0:k.toNat=0:=by omega
   refine call_meets F.slot_tuple_mul ⟨_,ho,rfl⟩ F.entry_tuple_mul (F.args_tuple_mul_2 _ _) (HT.vg k t a its.toArray n dd sl b1 b2 (by simp [hk])) ⟨ho,?_⟩
   rw [e0] at q2
   refine ⟨.ref s.heap.objs.size,_,I.laid (t':=s.toks) (o:=.tup []) (fun b ob q=>Heap.get?_push_of_some _ q) (Nat.le_refl _) ?_,rfl,q2 _ (I.hok.fresh (Nat.le_refl _))⟩
   exact ⟨Nat.zero_le _,[],.nil,IsTup.new _ _⟩
  ·have hkk:(k.toNat:Int)=k:=by omega
   have hnew:List.foldl (fun x1 x2=>x1++x2) #[] (List.replicate k.toNat its.toArray)=(List.replicate k.toNat its).flatten.toArray:=by
    have:=foldl_rep its k.toNat []
    rw [List.nil_append] at this
    exact this
   have hm:((its.toArray.size:Nat):Int) * k=((its.length * k.toNat:Nat):Int):=by rw [Int.natCast_mul,hkk,List.size_toArray]
   rw [hlen] at hz
   have hsl:(sizeLine:Nat)<=(2 ^ 63 - 1) / 8:=by decide
   refine call_meets F.slot_tuple_mul ⟨_,ho,rfl⟩ F.entry_tuple_mul (F.args_tuple_mul_2 _ _) (HT.Bb k t a its.toArray n dd sl b1 b2 ?_ ?_ ?_ ?_) ⟨ho,?_⟩
   ·rw [Bool.or_eq_false_iff]; exact ⟨decide_eq_false hk,hemp⟩
   ·rw [hm]; omega
   ·rw [hm]; unfold Builtin.Tuple.tupleTooMany; exact decide_eq_false (by omega)
   ·rw [hnew,List.size_toArray,len_rep,Nat.mul_comm]; exact hz
   ·rw [hnew]
    refine ⟨.ref s.heap.objs.size,_,I.laid (t':=s.toks) (o:=.tup (List.replicate k.toNat xs).flatten) (fun b ob q=>Heap.get?_push_of_some _ q) (Nat.le_refl _) ?_,rfl,q2 _ (I.hok.fresh (Nat.le_refl _))⟩
    exact ⟨by rw [len_rep,Nat.mul_comm,hlen]; exact hz,_,r.rep _,IsTup.new _ _⟩
end
end L2

namespace EV
open PySem
inductive D where
 | non|bl (b:Bool)|int (i:Int)|str (x:Str)|tup (ds:List D)|loc (l:Nat)|exn (c:Str)|fro (ds:List D)
 deriving Inhabited
mutual
noncomputable def D.dec:(a b:D)->Decidable (a=b)
 | .non,b=>match b with|.non=>.isTrue rfl|.bl _|.int _|.str _|.tup _|.loc _|.exn _|.fro _=>.isFalse (fun h=>nomatch h)
 | .bl x,b=>match b with
  | .bl y=>if h:x=y then .isTrue (by rw [h]) else .isFalse (fun e=>h (D.bl.inj e))
  | .non|.int _|.str _|.tup _|.loc _|.exn _|.fro _=>.isFalse (fun h=>nomatch h)
 | .int x,b=>match b with
  | .int y=>if h:x=y then .isTrue (by rw [h]) else .isFalse (fun e=>h (D.int.inj e))
  | .non|.bl _|.str _|.tup _|.loc _|.exn _|.fro _=>.isFalse (fun h=>nomatch h)
 | .str x,b=>match b with
  | .str y=>if h:x=y then .isTrue (by rw [h]) else .isFalse (fun e=>h (D.str.inj e))
  | .non|.bl _|.int _|.tup _|.loc _|.exn _|.fro _=>.isFalse (fun h=>nomatch h)
 | .tup x,b=>match b with
  | .tup y=>match D.decs x y with
   | .isTrue h=>.isTrue (by rw [h])
   | .isFalse h=>.isFalse (fun e=>h (D.tup.inj e))
  | .non|.bl _|.int _|.str _|.loc _|.exn _|.fro _=>.isFalse (fun h=>nomatch h)
 | .loc x,b=>match b with
  | .loc y=>if h:x=y then .isTrue (by rw [h]) else .isFalse (fun e=>h (D.loc.inj e))
  | .non|.bl _|.int _|.str _|.tup _|.exn _|.fro _=>.isFalse (fun h=>nomatch h)
 | .exn x,b=>match b with
  | .exn y=>if h:x=y then .isTrue (by rw [h]) else .isFalse (fun e=>h (D.exn.inj e))
  | .non|.bl _|.int _|.str _|.tup _|.loc _|.fro _=>.isFalse (fun h=>nomatch h)
 | .fro x,b=>match b with
  | .fro y=>match D.decs x y with
   | .isTrue h=>.isTrue (by rw [h])
   | .isFalse h=>.isFalse (fun e=>h (D.fro.inj e))
  | .non|.bl _|.int _|.str _|.loc _|.exn _|.tup _=>.isFalse (fun h=>nomatch h)
noncomputable def D.decs:(a b:List D)->Decidable (a=b)
 | [],[]=>.isTrue rfl
 | [],_::_=>.isFalse (fun h=>nomatch h)
 | _::_,[]=>.isFalse (fun h=>nomatch h)
 | x::xs,y::ys=>match D.dec x y with
  | .isFalse h=>.isFalse (fun e=>h (List.cons.inj e).1)
  | .isTrue h=>match D.decs xs ys with
   | .isTrue h'=>.isTrue (by rw [h,h'])
   | .isFalse h'=>.isFalse (fun e=>h' (List.cons.inj e).2)
end
noncomputable instance:DecidableEq D:=D.dec
inductive Cell where
 | lst (ds:List D)|dct (kvs:List (List Int × D))
 deriving DecidableEq,Inhabited
abbrev af:=List Cell
inductive Res (α:Type) where
 | ok (a:α) (S:af)|exc (c:Str) (S:af)|bad
noncomputable def M (α:Type):=af->Res α
noncomputable instance:Monad M where
 pure a:=fun S=>.ok a S
 bind m f:=fun S=>match m S with
  | .ok a S'=>f a S'
  | .exc c S'=>.exc c S'
  | .bad=>.bad
theorem bQ {α β:Type} (m:M α) (f:α->M β) (S:af):(m>>=f) S=match m S with|.ok a S'=>f a S'|.exc c S'=>.exc c S'|.bad=>.bad:=rfl
theorem ao {α β:Type} {m:M α} {f:α->M β} {S S':af} {a:α} (h:m S=.ok a S'):(m>>=f) S=f a S':=by rw [bQ,h]
theorem bW {α β:Type} {m:M α} {f:α->M β} {S S':af} {c:Str} (h:m S=.exc c S'):(m>>=f) S=.exc c S':=by rw [bQ,h]
theorem aT {α β:Type} {m:M α} {f:α->M β} {S:af} (h:m S=.bad):(m>>=f) S=.bad:=by rw [bQ,h]
noncomputable def bad {α:Type}:M α:=fun _=>.bad
noncomputable def opt {α:Type}:Option α->M α
 | some a=>pure a
 | none=>bad
noncomputable def alloc (c:Cell):M D:=fun S=>.ok (.loc S.length) (S++[c])
noncomputable def quiet {α:Type} (m:M α):M α:=fun S=>match m S with
 | .ok a S'=>.ok a S'
 | _=>.bad
noncomputable def aO:Nat:=16777216
noncomputable def fits (n:Nat):Bool:=decide (n<=aO)
noncomputable def gB (n:Nat):Bool:=decide (n < aO)
noncomputable def guard {α:Type} (b:Bool) (m:M α):M α:=match b with
 | true=>m
 | false=>bad
noncomputable def listAt (S:af) (l:Nat):Option (List D):=match S[l]? with
 | some (.lst ds)=>some ds
 | _=>none
noncomputable def items:D->M (List D)
 | .tup ds=>pure ds
 | .loc l=>fun S=>match listAt S l with
  | some ds=>.ok ds S
  | none=>.bad
 | .fro ds=>pure ds
 | _=>bad
noncomputable def AB:D->M (List D)
 | .loc l=>items (.loc l)
 | .fro ds=>pure ds
 | _=>bad
noncomputable def asL (S:af):D->Option (List D)
 | .loc l=>listAt S l
 | .fro ds=>some ds
 | _=>none
noncomputable def i2b (b:Bool):Int:=if b then 1 else 0
noncomputable def aZ:D->D->Option Bool
 | .non,.non=>some true
 | .non,.bl _|.non,.int _|.non,.str _|.bl _,.non|.int _,.non|.str _,.non=>some false
 | .bl a,.bl b=>some (a==b)
 | .bl a,.int b=>some (i2b a==b)
 | .int a,.bl b=>some (a==i2b b)
 | .int a,.int b=>some (a==b)
 | .str a,.str b=>some (a==b)
 | .bl _,.str _|.int _,.str _|.str _,.bl _|.str _,.int _=>some false
 | _,_=>none
noncomputable def bA (f:D->D->Option Bool):List D->List D->Option Bool
 | x::xs,y::ys=>match f x y,bA f xs ys with
  | some a,some b=>some (a&&b)
  | _,_=>none
 | _,_=>some true
inductive Kd where|flat|tup|list|other
noncomputable def D.kd:D->Kd
 | .non|.bl _|.int _|.str _=>.flat
 | .tup _=>.tup
 | .loc _|.fro _=>.list
 | .exn _=>.other
noncomputable def D.its:D->List D
 | .tup ds=>ds
 | _=>[]
noncomputable def eqD:Nat->af->D->D->Option Bool
 | 0,_,_,_=>none
 | n+1,S,a,b=>match a.kd,b.kd with
  | .flat,.flat=>aZ a b
  | .tup,.tup=>(bA (eqD n S) a.its b.its).map fun r=>r&&(a.its.length==b.its.length)
  | .list,.list=>match asL S a,asL S b with
   | some xs,some ys=>if xs.length=ys.length then bA (eqD n S) xs ys else some false
   | _,_=>none
  | .list,.tup=>(asL S a).map fun _=>false
  | .tup,.list=>(asL S b).map fun _=>false
  | .list,.flat=>(asL S a).map fun _=>false
  | .flat,.list=>(asL S b).map fun _=>false
  | .tup,.flat=>some false
  | .flat,.tup=>some false
  | _,_=>none
noncomputable def deep:Nat:=12
noncomputable def eqM (a b:D):M Bool:=fun S=>match eqD deep S a b with
 | some k=>.ok k S
 | none=>.bad
noncomputable def inL (S:af) (x:D):List D->Option Bool
 | []=>some false
 | y::ys=>match eqD deep S y x,inL S x ys with
  | some a,some b=>some (a||b)
  | _,_=>none
inductive Op2 where|add|sub|mul|fdiv|mod|pow
inductive Cm where|lt|le|gt|ge|eq|ne|isin|dM
inductive Ty where|int|bool|str|list|tuple|dict|cls (c:Str)
 deriving DecidableEq
inductive Bi where|len|inst (t:Ty)|all|any|sum|min|max|sorted|sortedSet|list|tuple|int|abs|rangeT|rangeL
inductive Me where|append|extend
noncomputable def small (i:Int):Bool:=decide (-(2 ^ 64) < i/\i < 2 ^ 64)
noncomputable def bg (l:Nat) (f:List D->M D):M D:=fun S=>match S[l]? with
 | some (.lst ds)=>f ds S
 | _=>.bad
noncomputable def put (l:Nat) (c:Cell):M D:=fun S=>.ok .non (S.set l c)
noncomputable def wV (a b:Nat):M D:=bg a fun xs=>bg b fun ys=>guard (fits (xs.length+ys.length)) (alloc (.lst (xs++ys)))
noncomputable def v9:D->D->M D
 | .int i,.int j=>pure (.int (i+j))
 | .tup xs,.tup ys=>guard (fits (xs.length+ys.length)) (pure (.tup (xs++ys)))
 | .str x,.str y=>guard (fits (x.length+y.length)) (pure (.str (x++y)))
 | .loc a,.loc b=>wV a b
 | _,_=>bad
noncomputable def yF:D->D->M D
 | .int i,.int j=>pure (.int (i - j))
 | _,_=>bad
noncomputable def yT (l:Nat) (j:Int):M D:=bg l fun xs=>guard (decide (-(2 ^ 63)<=j)&&decide (j < 2 ^ 63)&&fits (xs.length * j.toNat)) (alloc (.lst (List.replicate j.toNat xs).flatten))
noncomputable def AA:D->D->M D
 | .int i,.int j=>guard (small i||small j) (pure (.int (i * j)))
 | .tup xs,.int j=>guard (decide (-(2 ^ 63)<=j)&&decide (j < 2 ^ 63)&&fits (xs.length * j.toNat)) (pure (.tup (List.replicate j.toNat xs).flatten))
 | .loc l,.int j=>yT l j
 | _,_=>bad
noncomputable def Bx:D->D->M D
 | .int i,.int j=>guard (decide (0 < j)&&decide (j < 1073741824)) (pure (.int (i / j)))
 | _,_=>bad
noncomputable def CA:D->D->M D
 | .int i,.int j=>guard (decide (0 < j)) (pure (.int (i % j)))
 | _,_=>bad
noncomputable def AS:D->D->M D
 | .int i,.int j=>guard (decide (0<=j)&&decide (j<=1000)&&decide (i.natAbs < 2 ^ 64)) (pure (.int (i ^ j.toNat)))
 | _,_=>bad
noncomputable def opD:Op2->D->D->M D
 | .add=>v9
 | .sub=>yF
 | .mul=>AA
 | .fdiv=>Bx
 | .mod=>CA
 | .pow=>AS
noncomputable def fu (p:Int->Int->Bool):D->D->M D
 | .int i,.int j=>pure (.bl (p i j))
 | _,_=>bad
noncomputable def inA (neg:Bool) (a:D) (ys:List D):M D:=fun S=>match inL S a ys with
 | some k=>.ok (.bl (k != neg)) S
 | none=>.bad
noncomputable def inM (neg:Bool) (a b:D):M D:=do
 let ys <- items b
 inA neg a ys
noncomputable def c6:D->D->Bool
 | .bl _,.int _=>false
 | .int _,.bl _=>false
 | .tup _,.str _=>true
 | a,b=>match a.kd,b.kd with
  | .flat,.flat=>true
  | .tup,.tup=>true
  | .list,.list=>true
  | _,_=>false
noncomputable def cmD:Cm->D->D->M D
 | .lt=>fu fun i j=>decide (i < j)
 | .le=>fu fun i j=>decide (i<=j)
 | .gt=>fu fun i j=>decide (j < i)
 | .ge=>fu fun i j=>decide (j<=i)
 | .eq=>fun a b=>do pure (.bl (<- eqM a b))
 | .ne=>fun a b=>guard (c6 a b) (do pure (.bl (!(<- eqM a b))))
 | .isin=>inM false
 | .dM=>inM true
noncomputable def truth:D->M Bool
 | .bl b=>pure b
 | .non=>pure false
 | .int i=>pure (i != 0)
 | .tup ds=>pure (!ds.isEmpty)
 | .loc l=>do
  let xs <- items (.loc l)
  pure (!xs.isEmpty)
 | .fro ds=>pure (!ds.isEmpty)
 | _=>bad
noncomputable def ixN (n:Nat) (i:Int):Option Nat:=if 0<=i then (if i < n then some i.toNat else none) else if -(n:Int)<=i then some (i+n).toNat else none
noncomputable def atI (xs:List D) (i:Int):Option D:=(ixN xs.length i).bind fun j=>xs[j]?
noncomputable def ixD (a i:D):M D:=match i with
 | .int j=>do
  let xs <- items a
  opt (atI xs j)
 | _=>bad
noncomputable def jy:D->D->D->M D
 | .loc l,.int k,d=>bg l fun xs=>match ixN xs.length k with
  | some j=>put l (.lst (xs.set j d))
  | none=>bad
 | _,_,_=>bad
noncomputable def sIx (n d:Nat):Option Int->Nat
 | none=>d
 | some v=>if v < 0 then (v+(n:Int)).toNat else min v.toNat n
noncomputable def cut (xs:List D) (lo hi:Option Int):List D:=(xs.drop (sIx xs.length 0 lo)).take (sIx xs.length xs.length hi - sIx xs.length 0 lo)
noncomputable def slD (a:D) (lo hi:Option Int):M D:=match a with
 | .tup xs=>pure (.tup (cut xs lo hi))
 | .loc l=>do
  let xs <- items (.loc l)
  alloc (.lst (cut xs lo hi))
 | .fro xs=>alloc (.lst (cut xs lo hi))
 | _=>bad
noncomputable def allInts:List D->Option (List Int)
 | []=>some []
 | .int i::r=>(allInts r).map (i :: ·)
 | _=>none
noncomputable def cT:List D->Option (List Bool)
 | []=>some []
 | .bl i::r=>(cT r).map (i :: ·)
 | _=>none
noncomputable def ins (i:Int):List Int->List Int
 | []=>[i]
 | j::r=>if i<=j then i::j::r else j::ins i r
noncomputable def lO:List Int->List Int
 | []=>[]
 | i::r=>ins i (lO r)
abbrev Sub:=Str->Str->Bool
noncomputable def fN (sub:Sub) (S:af):D->Ty->Option Bool
 | .non,t=>match t with|.cls _=>none|_=>some false
 | .bl _,t=>match t with|.cls _=>none|.int=>some true|.bool=>some true|_=>some false
 | .int _,t=>match t with|.cls _=>none|.int=>some true|_=>some false
 | .str _,t=>match t with|.cls _=>none|.str=>some true|_=>some false
 | .tup _,t=>match t with|.cls _=>none|.tuple=>some true|_=>some false
 | .loc l,t=>match S[l]?,t with
  | _,.cls _=>none
  | some (.lst _),.list=>some true
  | some (.lst _),_=>some false
  | some (.dct _),_=>none
  | none,_=>none
 | .fro _,t=>match t with|.cls _=>none|.list=>some true|_=>some false
 | .exn c,t=>match t with|.cls d=>some (sub c d)|_=>none
noncomputable def lexLe:List Int->List Int->Bool
 | [],_=>true
 | _::_,[]=>false
 | a::r,b::q=>if a < b then true else if a=b then lexLe r q else false
noncomputable def lu (t:List Int):List (List Int)->List (List Int)
 | []=>[t]
 | u::r=>if t=u then u::r else if lexLe t u then t::u::r else u::lu t r
noncomputable def kB:List (List Int)->List (List Int)
 | []=>[]
 | t::r=>lu t (kB r)
noncomputable def tups:List D->Option (List (List Int))
 | []=>some []
 | .tup ds::r=>match allInts ds,tups r with
  | some t,some q=>some (t::q)
  | _,_=>none
 | _=>none
noncomputable def rng (lo hi step:Int):List Int :=
 if 0 < step then (List.range ((hi - lo+step - 1) / step).toNat).map fun (k:Nat)=>lo+k * step
 else if step < 0 then (List.range ((lo - hi - step - 1) / (-step)).toNat).map fun (k:Nat)=>lo+k * step
 else []
noncomputable def near (i:Int):Bool:=decide (-(2 ^ 62)<=i/\i < 2 ^ 62)
noncomputable def bJ:List D->Option (List Int)
 | [.int j]=>if near j then some (rng 0 j 1) else none
 | [.int i,.int j]=>if near i&&near j then some (rng i j 1) else none
 | [.int i,.int j,.int k]=>if near i&&near j&&decide (k=-1) then some (rng i j k) else none
 | _=>none
noncomputable def vF:List Int->M D
 | []=>bad
 | i::r=>pure (.int (r.foldl min i))
noncomputable def uc:List Int->M D
 | []=>bad
 | i::r=>pure (.int (r.foldl max i))
noncomputable def min2:D->D->M D
 | .int i,.int j=>pure (.int (if j < i then j else i))
 | _,_=>bad
noncomputable def max2:D->D->M D
 | .int i,.int j=>pure (.int (if j > i then j else i))
 | _,_=>bad
noncomputable def toInt:D->M D
 | .int i=>pure (.int i)
 | .bl b=>pure (.int (i2b b))
 | _=>bad
noncomputable def rJ:D->M D
 | .int i=>pure (.int (if i < 0 then -i else i))
 | _=>bad
noncomputable def fT (sub:Sub) (t:Ty) (a:D):M D:=fun S=>match fN sub S a t with
 | some k=>.ok (.bl k) S
 | none=>.bad
noncomputable def CM:D->M D
 | .tup ds=>pure (.tup ds)
 | a=>do pure (.tup (<- items a))
noncomputable def yh:Option (List (List Int))->M D
 | some ts=>guard (decide (ts.length < 64)&&decide ts.Nodup&&ts.all fun t=>!t.isEmpty) (alloc (.lst ((kB ts).map fun t=>.tup (t.map .int))))
 | none=>bad
noncomputable def ze (r:M D):Option (List Int)->M D
 | some is=>guard (decide (is.length < 64)) (alloc (.lst ((lO is).map .int)))
 | none=>r
noncomputable def rf (ds:List D):M D:=ze (yh (tups ds)) (allInts ds)
noncomputable def bi1 (sub:Sub):Bi->D->M D
 | .len,a=>do
  let ds <- items a
  pure (.int ds.length)
 | .inst t,a=>fT sub t a
 | .all,a=>do
  let ds <- items a
  let bs <- opt (cT ds)
  pure (.bl (bs.all id))
 | .any,a=>do
  let ds <- items a
  let bs <- opt (cT ds)
  pure (.bl (bs.any id))
 | .sum,a=>do
  let ds <- items a
  let is <- opt (allInts ds)
  pure (.int is.sum)
 | .min,a=>do
  let ds <- items a
  let is <- opt (allInts ds)
  vF is
 | .max,a=>do
  let ds <- items a
  let is <- opt (allInts ds)
  uc is
 | .sorted,a=>do
  let ds <- items a
  rf ds
 | .sortedSet,a=>do
  let ds <- AB a
  let ts <- opt (tups ds)
  guard (decide (ts.length<=18)&&ts.all fun t=>!t.isEmpty) (alloc (.lst ((kB ts).map fun t=>.tup (t.map .int))))
 | .list,a=>do
  let ds <- items a
  alloc (.lst ds)
 | .tuple,a=>do
  let ds <- items a
  pure (.tup ds)
 | .int,a=>toInt a
 | .abs,a=>rJ a
 | .rangeT,_=>bad
 | .rangeL,_=>bad
noncomputable def bi2:Bi->D->D->M D
 | .min=>min2
 | .max=>max2
 | _=>fun _ _=>bad
noncomputable def biR:Bi->List D->M D
 | .rangeT,as=>do
  let is <- opt (bJ as)
  guard (fits is.length) (pure (.tup (is.map .int)))
 | .rangeL,as=>do
  let is <- opt (bJ as)
  guard (fits is.length) (alloc (.lst (is.map .int)))
 | _,_=>bad
noncomputable def Bi.isR:Bi->Bool
 | .rangeT=>true
 | .rangeL=>true
 | _=>false
noncomputable def biD (sub:Sub) (b:Bi) (as:List D):M D:=match b.isR with
 | true=>biR b as
 | false=>match as with
  | [a]=>bi1 sub b a
  | [a,c]=>bi2 b a c
  | _=>bad
noncomputable def uh:D->D->M D
 | .loc l,d=>bg l fun ds=>guard (gB ds.length) (put l (.lst (ds++[d])))
 | _,_=>bad
noncomputable def sO:D->D->M D
 | .loc l,.loc k=>bg l fun ds=>bg k fun es=>guard (fits (ds.length+es.length)) (put l (.lst (ds++es)))
 | _,_=>bad
noncomputable def meD (m:Me) (o:D) (as:List D):M D:=match as with
 | [d]=>match m with
  | .append=>uh o d
  | .extend=>sO o d
 | _=>bad
inductive Tg where
 | one (i:Nat)|many (is:List Nat)
abbrev Sg:=List (Option D)
noncomputable def Tg.has:Tg->Nat->Bool
 | .one i,j=>i==j
 | .many is,j=>is.contains j
noncomputable def bM:List Nat->List D->Sg->Sg
 | i::is,d::ds,σ=>bM is ds (σ.set i (some d))
 | _,_,σ=>σ
noncomputable def aN:Tg->D->Sg->M Sg
 | .one i,d,σ=>pure (σ.set i (some d))
 | .many is,.tup ds,σ=>guard (decide (ds.length=is.length)) (pure (bM is ds σ))
 | _,_,_=>bad
inductive E where
 | v (i:Nat)|c (d:D)|bin (op:Op2) (a b:E)|cmp (op:Cm) (a b:E)|chn (o o':Cm) (a b c:E)|and (a b:E)|or (a b:E)|not (a:E)|neg (a:E)|isN (a:E)|notN (a:E)|ite (c a b:E)
 | nl|cs (a r:E)|tup (es:E)|lst (es:E)|ix (a i:E)|sl (a lo hi:E)|call (f:Str) (es:E)|bi (b:Bi) (es:E)|me (m:Me) (o es:E)
 | iSeq (a:E)|iEnum (a:E)|iRng (es:E)|iZip (es:E)|comp (k:Nat) (elt:E) (t:Tg) (it ife:E)|dget (o es:E)|dnew
structure Src where
 its:List D
 l:Option Nat
 raw:List D
noncomputable def aK (s:Src):M Unit:=match s.l with
 | none=>pure ()
 | some l=>fun S=>match listAt S l with
  | some ds=>guard (decide (ds=s.raw)) (pure ()) S
  | none=>.bad
noncomputable def srcOf:D->M Src
 | .tup ds=>pure ⟨ds,none,ds⟩
 | .loc l=>do
  let ds <- items (.loc l)
  pure ⟨ds,some l,ds⟩
 | .fro ds=>pure ⟨ds,none,ds⟩
 | _=>bad
noncomputable def lP:List D->List D->List D
 | x::r,y::q=>.tup [x,y]::lP r q
 | _,_=>[]
noncomputable def sD:List D->M Src
 | [.tup xs,.tup ys]=>pure ⟨lP xs ys,none,[]⟩
 | _=>bad
noncomputable def num (k:Nat):List D->List D
 | []=>[]
 | d::r=>.tup [.int k,d]::num (k+1) r
noncomputable def bq (s:Src) (f:D->M (Option D)):List D->M (List D)
 | []=>do
  aK s
  pure []
 | d::ds=>do
  aK s
  let y <- f d
  let ys <- bq s f ds
  pure (match y with|some y=>y::ys|none=>ys)
noncomputable def eY:D->M (Option Int)
 | .int i=>pure (some i)
 | _=>bad
noncomputable def D.cS (S:af):D->Bool
 | .loc l=>match S[l]? with|some (.lst _)=>true|_=>false
 | _=>false
noncomputable def ig {α:Type} (x:D) (m:M α):M α:=fun S=>guard (x.cS S) m S
noncomputable def aW (kvs:List (List Int × D)) (k:List Int):Option D:=(kvs.find? fun kv=>decide (kv.1=k)).map (·.2)
noncomputable def fk (kvs:List (List Int × D)) (k:List Int) (d:D):List (List Int × D) :=
 if (kvs.any fun kv=>decide (kv.1=k))=true then kvs.map (fun kv=>if kv.1=k then (kv.1,d) else kv) else kvs++[(k,d)]
noncomputable def eN (l:Nat) (f:List (List Int × D)->M D):M D:=fun S=>match S[l]? with
 | some (.dct kvs)=>f kvs S
 | _=>.bad
noncomputable def qx (a:D) (ds:List D):M D:=match a with
 | .loc l=>do
  let k <- opt (allInts ds)
  eN l fun kvs=>opt (aW kvs k)
 | _=>bad
noncomputable def pF (a:D) (ds:List D) (d:D):M D:=match a with
 | .loc l=>do
  let k <- opt (allInts ds)
  eN l fun kvs=>guard (gB kvs.length) (put l (.dct (fk kvs k d)))
 | _=>bad
noncomputable def bD (σ:Sg) (i:Nat):M D:=match σ[i]? with
 | some (some d)=>pure d
 | _=>bad
noncomputable def E.aY:E->Bool
 | .nl=>true
 | _=>false
section
variable (sub:Sub) (cf:Str->List D->M D)
mutual
noncomputable def ev:E->Sg->M D
 | .v i,σ=>bD σ i
 | .c d,_=>pure d
 | .bin op a b,σ=>do
  let x <- ev a σ
  let y <- ev b σ
  opD op x y
 | .cmp op a b,σ=>do
  let x <- ev a σ
  let y <- ev b σ
  cmD op x y
 | .chn o o' a b c,σ=>do
  let x <- ev a σ
  let y <- ev b σ
  match <- cmD o x y with
   | .bl true=>do
    let z <- ev c σ
    cmD o' y z
   | .bl false=>pure (.bl false)
   | _=>bad
 | .and a b,σ=>do
  match <- ev a σ with
   | .bl true=>ev b σ
   | .bl false=>pure (.bl false)
   | _=>bad
 | .or a b,σ=>do
  match <- ev a σ with
   | .bl true=>pure (.bl true)
   | .bl false=>ev b σ
   | _=>bad
 | .not a,σ=>do
  match <- ev a σ with
   | .bl b=>pure (.bl (!b))
   | _=>bad
 | .neg a,σ=>do
  match <- ev a σ with
   | .int i=>pure (.int (-i))
   | _=>bad
 | .isN a,σ=>do
  let x <- ev a σ
  pure (.bl (decide (x=.non)))
 | .notN a,σ=>do
  let x <- ev a σ
  pure (.bl (!decide (x=.non)))
 | .ite c a b,σ=>do
  if <- evT c σ then ev a σ else ev b σ
 | .tup es,σ=>do
  let ds <- evs es σ
  guard (fits ds.length) (pure (.tup ds))
 | .lst es,σ=>do
  let ds <- evs es σ
  guard (fits ds.length) (alloc (.lst ds))
 | .ix a i,σ=>do
  let x <- ev a σ
  let y <- ev i σ
  ixD x y
 | .sl a lo hi,σ=>do
  let x <- ev a σ
  let l <- (if lo.aY then pure none else do eY (<- ev lo σ))
  let h <- (if hi.aY then pure none else do eY (<- ev hi σ))
  slD x l h
 | .call f es,σ=>do
  let ds <- evs es σ
  cf f ds
 | .bi b es,σ=>do
  let ds <- evs es σ
  biD sub b ds
 | .me m o es,σ=>do
  let x <- ev o σ
  ig x (do
   let ds <- evs es σ
   meD m x ds)
 | .comp k elt t it ife,σ=>do
  let s <- evI it σ
  let ys <- quiet (bq s (fun d=>do
   let σ' <- aN t d (σ++List.replicate k none)
   if <- (if ife.aY then pure true else evT ife σ') then do
    let y <- ev elt σ'
    pure (some y)
   else pure none) s.its)
  guard (fits ys.length) (alloc (.lst ys))
 | .dget o es,σ=>do
  let x <- ev o σ
  let ds <- evs es σ
  guard (fits ds.length) (qx x ds)
 | .dnew,_=>alloc (.dct [])
 | .nl,_=>bad
 | .cs _ _,_=>bad
 | .iSeq _,_=>bad
 | .iEnum _,_=>bad
 | .iRng _,_=>bad
 | .iZip _,_=>bad
noncomputable def evT:E->Sg->M Bool
 | .and a b,σ=>do
  if <- evT a σ then evT b σ else pure false
 | .or a b,σ=>do
  if <- evT a σ then pure true else evT b σ
 | .not a,σ=>do
  let b <- evT a σ
  pure (!b)
 | .v i,σ=>bD σ i>>=truth
 | .c d,_=>pure d>>=truth
 | .cmp op a b,σ=>do
  let x <- ev a σ
  let y <- ev b σ
  truth (<- cmD op x y)
 | .chn o o' a b c,σ=>do
  let x <- ev a σ
  let y <- ev b σ
  if <- truth (<- cmD o x y) then do
   let z <- ev c σ
   truth (<- cmD o' y z)
  else pure false
 | .isN a,σ=>do
  let x <- ev a σ
  pure (decide (x=.non))
 | .notN a,σ=>do
  let x <- ev a σ
  pure (!decide (x=.non))
 | .ix a i,σ=>(do
  let x <- ev a σ
  let y <- ev i σ
  ixD x y)>>=truth
 | .call f es,σ=>(do
  let ds <- evs es σ
  cf f ds)>>=truth
 | .bi b es,σ=>(do
  let ds <- evs es σ
  biD sub b ds)>>=truth
 | _,_=>bad
noncomputable def evs:E->Sg->M (List D)
 | .nl,_=>pure []
 | .cs a r,σ=>do
  let x <- ev a σ
  let xs <- evs r σ
  pure (x::xs)
 | _,_=>bad
noncomputable def evI:E->Sg->M Src
 | .iSeq a,σ=>do srcOf (<- ev a σ)
 | .iEnum a,σ=>do
  let s <- srcOf (<- ev a σ)
  pure { s with its:=num 0 s.its }
 | .iRng es,σ=>do
  let is <- opt (bJ (<- evs es σ))
  pure ⟨is.map .int,none,[]⟩
 | .iZip es,σ=>do sD (<- evs es σ)
 | _,_=>bad
end
end
inductive S where
 | ret (e:E)|retN|set (t:Tg) (e:E)|setIx (o i e:E)|dset (o es e:E)|ex (e:E)|ite (c:E) (a b:S)|forS (t:Tg) (it:E) (b:S)|whl (c:E) (b:S)|rais (c:Str)|tryR (f:Str) (es:E) (c:Str) (d:D)|tryE (f:Str) (es:E) (c:Str) (d:D)
 | skip|seq (a b:S)|brk|cont
inductive Fl where
 | nx (σ:Sg)|rt (d:D)|bk (σ:Sg)|ct (σ:Sg)
noncomputable def forL (s:Src) (f:D->Sg->M Fl):List D->Sg->M Fl
 | [],σ=>do
  aK s
  pure (.nx σ)
 | d::ds,σ=>do
  aK s
  match <- f d σ with
   | .nx σ'=>forL s f ds σ'
   | .ct σ'=>forL s f ds σ'
   | .bk σ'=>pure (.nx σ')
   | .rt d=>pure (.rt d)
noncomputable def bx (c:Sg->M Bool) (f:Sg->M Fl):Nat->Sg->M Fl
 | 0,_=>bad
 | n+1,σ=>do
  if <- c σ then do
   match <- f σ with
    | .nx σ'=>bx c f n σ'
    | .ct σ'=>bx c f n σ'
    | .bk σ'=>pure (.nx σ')
    | .rt d=>pure (.rt d)
  else pure (.nx σ)
noncomputable def cM (c:Str) (d:D) (m:M D):M D:=fun S=>match m S with
 | .ok v S'=>.ok v S'
 | .exc c' S'=>if c'=c then .ok d S' else .bad
 | .bad=>.bad
noncomputable def gW (c:Str) (d:D) (σ:Sg) (m:M D):M Fl:=fun S=>match m S with
 | .ok _ S'=>.ok (.nx σ) S'
 | .exc c' S'=>if c'=c then .ok (.rt d) S' else .bad
 | .bad=>.bad
noncomputable def dP:Nat:=1000000
section
variable (sub:Sub) (cf:Str->List D->M D)
noncomputable def exec:S->Sg->M Fl
 | .ret e,σ=>do
  let d <- ev sub cf e σ
  pure (.rt d)
 | .retN,_=>pure (.rt .non)
 | .set t e,σ=>do
  let d <- ev sub cf e σ
  let σ' <- aN t d σ
  pure (.nx σ')
 | .setIx o i e,σ=>do
  let d <- ev sub cf e σ
  let a <- ev sub cf o σ
  let k <- ev sub cf i σ
  let _ <- jy a k d
  pure (.nx σ)
 | .dset o es e,σ=>do
  let d <- ev sub cf e σ
  let a <- ev sub cf o σ
  let ks <- evs sub cf es σ
  let _ <- guard (fits ks.length) (pF a ks d)
  pure (.nx σ)
 | .ex e,σ=>do
  let _ <- ev sub cf e σ
  pure (.nx σ)
 | .ite c a b,σ=>do
  if <- evT sub cf c σ then exec a σ else exec b σ
 | .forS t it b,σ=>quiet (do
  let s <- evI sub cf it σ
  forL s (fun d σ=>do
   let σ' <- aN t d σ
   exec b σ') s.its σ)
 | .whl c b,σ=>quiet (bx (evT sub cf c) (exec b) dP σ)
 | .rais c,_=>fun S=>.exc c S
 | .tryR f es c d,σ=>do
  let ds <- quiet (evs sub cf es σ)
  let v <- cM c d (cf f ds)
  pure (.rt v)
 | .tryE f es c d,σ=>do
  let ds <- quiet (evs sub cf es σ)
  gW c d σ (cf f ds)
 | .skip,σ=>pure (.nx σ)
 | .seq a b,σ=>do
  match <- exec a σ with
   | .nx σ'=>exec b σ'
   | f=>pure f
 | .brk,σ=>pure (.bk σ)
 | .cont,σ=>pure (.ct σ)
end
mutual
noncomputable def D.low (n:Nat):D->Bool
 | .tup ds=>D.lows n ds
 | .fro ds=>D.lows n ds
 | .loc l=>decide (l < n)
 | _=>true
noncomputable def D.lows (n:Nat):List D->Bool
 | []=>true
 | d::r=>D.low n d&&D.lows n r
end
noncomputable def Cell.low (n:Nat):Cell->Bool
 | .lst ds=>D.lows n ds
 | .dct _=>false
noncomputable def leave (S:af) (d:D) (S':af):Res D :=
 if S'.take S.length=S then
  if d.low S.length then .ok d S
  else match d with
   | .loc l=>match S'[l]? with
    | some c=>if c.low S.length then .ok (.loc S.length) (S++[c]) else .ok d S'
    | none=>.ok d S'
   | _=>.ok d S'
 else .ok d S'
structure Fn where
 par:Nat
 names:Nat
 body:S
abbrev Prg:=List (Str × Fn)
noncomputable def gh (S:af):Res Fl->Res D
 | .ok (.rt d) S'=>leave S d S'
 | .ok (.nx _) S'=>leave S .non S'
 | .ok (.bk _) _=>.bad
 | .ok (.ct _) _=>.bad
 | .exc c S'=>if S'.take S.length=S then .exc c S else .exc c S'
 | .bad=>.bad
noncomputable def frame (F:Fn) (ds:List D):Sg:=ds.map some++List.replicate (F.names - ds.length) none
noncomputable def ai (sub:Sub) (P:Prg):Nat->Str->List D->M D
 | 0,_,_=>bad
 | n+1,f,ds=>fun S=>match P.lookup f with
  | none=>.bad
  | some F=>if ds.length=F.par then gh S (exec sub (ai sub P n) F.body (frame F ds) S) else .bad
theorem ju {sub:Sub} {P:Prg} {n:Nat} {f:Str} {ds:List D} {S:af} {F:Fn} (h:P.lookup f=some F) (hl:ds.length=F.par):ai sub P (n+1) f ds S=gh S (exec sub (ai sub P n) F.body (frame F ds) S):=by
 show (match P.lookup f with|none=>Res.bad|some F=>if ds.length=F.par then gh S (exec sub (ai sub P n) F.body (frame F ds) S) else .bad)=_
 rw [h]; simp only [hl,if_true]
theorem q_ {sub:Sub} {P:Prg} {n:Nat} {f:Str} {ds:List D} {S:af} {F:Fn} (h:P.lookup f=some F) (hl:ds.length≠F.par):ai sub P (n+1) f ds S=.bad:=by
 show (match P.lookup f with|none=>Res.bad|some F=>if ds.length=F.par then gh S (exec sub (ai sub P n) F.body (frame F ds) S) else .bad)=_
 rw [h]; simp only [hl,if_false]
end EV

namespace EV
open PySem PySem.Spec PyProof.Rows L2
theorem Paired.get {α β:Type} {F:α->β->Prop}:∀ {xs:List α} {ys:List β} {i:Nat} {x:α},Paired F xs ys->xs[i]?=some x->∃ y,ys[i]?=some y/\F x y
 | _,_,_,_,.nil,e=>by simp at e
 | _,_,0,_,.cons r _,e=>by simp at e; subst e; exact ⟨_,rfl,r⟩
 | _,_,i+1,x,.cons _ t,e=>by
  obtain ⟨u,h1,h2⟩:=Paired.get (i:=i) (x:=x) t (by simpa using e)
  exact ⟨u,by simpa using h1,h2⟩
theorem Paired.get' {α β:Type} {F:α->β->Prop} {xs:List α} {ys:List β} {i:Nat} {y:β} (p:Paired F xs ys) (e:ys[i]?=some y):∃ x,xs[i]?=some x/\F x y:=by
 have hl:=p.length
 have hi:i < xs.length:=by rw [hl]; exact (List.getElem?_eq_some_iff.mp e).1
 obtain ⟨y',e',f⟩:=Paired.get p (List.getElem?_eq_getElem hi)
 rw [e] at e'; cases e'
 exact ⟨_,List.getElem?_eq_getElem hi,f⟩
theorem Paired.step {α β:Type} {F:α->β->Prop} {ds:List α} {vs:List β} {n:Nat} (h:Paired F ds vs) (hl:ds.length=n+1):∃ d r v q,ds=d::r/\vs=v::q/\F d v/\Paired F r q/\r.length=n:=by
 cases h with
 | nil=>cases hl
 | cons f t=>exact ⟨_,_,_,_,rfl,rfl,f,t,Nat.succ.inj hl⟩
theorem Paired.last {α β:Type} {F:α->β->Prop} {ds:List α} {vs:List β} (h:Paired F ds vs) (hl:ds.length=0):ds=[]/\vs=[]:=by
 cases h with
 | nil=>exact ⟨rfl,rfl⟩
 | cons f t=>cases hl
theorem Paired.app {α β:Type} {F:α->β->Prop}:∀ {a c:List α} {b d:List β},Paired F a b->Paired F c d->Paired F (a++c) (b++d)
 | _,_,_,_,.nil,s=>s
 | _,_,_,_,.cons r t,s=>.cons r (Paired.app t s)
theorem Paired.tak {α β:Type} {F:α->β->Prop}:∀ {a:List α} {b:List β} (n:Nat),Paired F a b->Paired F (a.take n) (b.take n)
 | _,_,0,_=>.nil
 | _,_,_+1,.nil=>.nil
 | _,_,n+1,.cons r t=>.cons r (Paired.tak n t)
theorem Paired.drp {α β:Type} {F:α->β->Prop}:∀ {a:List α} {b:List β} (n:Nat),Paired F a b->Paired F (a.drop n) (b.drop n)
 | _,_,0,r=>r
 | _,_,_+1,.nil=>.nil
 | _,_,n+1,.cons _ t=>Paired.drp n t
theorem Paired.imp {α β:Type} {F G:α->β->Prop} (f:∀ a b,F a b->G a b):∀ {l₁:List α} {l₂:List β},Paired F l₁ l₂->Paired G l₁ l₂
 | _,_,.nil=>.nil
 | _,_,.cons r t=>.cons (f _ _ r) (Paired.imp f t)
theorem Paired.rep {α β:Type} {F:α->β->Prop} {a:List α} {b:List β} (h:Paired F a b):∀ k:Nat,Paired F (List.replicate k a).flatten (List.replicate k b).flatten
 | 0=>.nil
 | k+1=>by
  simp only [List.replicate_succ,List.flatten_cons]
  exact Paired.app h (Paired.rep h k)
theorem Paired.of_get {α β:Type} {F:α->β->Prop}:∀ {xs:List α} {ys:List β},xs.length=ys.length->(∀ (i:Nat) x y,xs[i]?=some x->ys[i]?=some y->F x y)->Paired F xs ys
 | [],[],_,_=>.nil
 | [],_::_,h,_=>by simp at h
 | _::_,[],h,_=>by simp at h
 | x::xs,y::ys,h,f=>.cons (f 0 x y rfl rfl) (Paired.of_get (by simpa using h) fun i a b e1 e2=>f (i+1) a b (by simpa using e1) (by simpa using e2))
structure Gx where
 K:PySem.W.Frag
noncomputable def Fro (K:PySem.W.Frag) (H:Hp) (a:Addr) (xs:List V):Prop:=(∃ o,H a=some (.frz o (.lst xs)))\/∀ H:Hp,SqL K H a xs
theorem Fro.sq {K:PySem.W.Frag} {H:Hp} {a:Addr} {xs:List V} (h:Fro K H a xs):SqL K H a xs:=by
 rcases h with ⟨o,h⟩|h
 ·exact .inl (.inr ⟨o,h⟩)
 ·exact h H
inductive Rep (Γ:Gx) (ι:List Addr) (H:Hp):D->V->Prop
 | non:Rep Γ ι H .non .non
 | bl (b:Bool):Rep Γ ι H (.bl b) (.bl b)
 | int (i:Int):Rep Γ ι H (.int i) (.int i)
 | str (x:Str):Rep Γ ι H (.str x) (.str x)
 | tup {ds:List D} {a:Addr} {xs:List V}:SqT Γ.K H a xs->ds.length=xs.length->(∀ (i:Nat) d v,ds[i]?=some d->xs[i]?=some v->Rep Γ ι H d v)->Rep Γ ι H (.tup ds) (.ref a)
 | fro {ds:List D} {a:Addr} {xs:List V}:Fro Γ.K H a xs->ds.length=xs.length->(∀ (i:Nat) d v,ds[i]?=some d->xs[i]?=some v->Rep Γ ι H d v)->Rep Γ ι H (.fro ds) (.ref a)
 | loc {l:Nat} {a:Addr}:ι[l]?=some a->Rep Γ ι H (.loc l) (.ref a)
abbrev au (Γ:Gx) (ι:List Addr) (H:Hp):List D->List V->Prop:=Paired (Rep Γ ι H)
theorem Rep.gz {Γ:Gx} {ι:List Addr} {H:Hp} {ds:List D} {a:Addr} {xs:List V} (h:SqT Γ.K H a xs) (p:au Γ ι H ds xs):Rep Γ ι H (.tup ds) (.ref a) :=
 .tup h p.length fun i d v e1 e2=>by
  obtain ⟨y,e,f⟩:=Paired.get p e1
  rw [e2] at e; cases e; exact f
theorem Rep.fm {Γ:Gx} {ι:List Addr} {H:Hp} {ds:List D} {v:V} (h:Rep Γ ι H (.fro ds) v):∃ a xs,v=.ref a/\Fro Γ.K H a xs/\au Γ ι H ds xs:=by
 cases h with
 | fro h1 h2 h3=>exact ⟨_,_,rfl,h1,Paired.of_get h2 h3⟩
theorem Rep.bH {Γ:Gx} {ι:List Addr} {H:Hp} {ds:List D} {v:V} (h:Rep Γ ι H (.tup ds) v):∃ a xs,v=.ref a/\SqT Γ.K H a xs/\au Γ ι H ds xs:=by
 cases h with
 | tup h1 h2 h3=>exact ⟨_,_,rfl,h1,Paired.of_get h2 h3⟩
structure Ext (ι ι':List Addr) (H H':Hp):Prop where
 pre:ι <+: ι'
 tup:∀ a xs,H a=some (.tup xs)->H' a=some (.tup xs)
 frz:∀ a o u,H a=some (.frz o u)->H' a=some (.frz o u)
 oth:∀ a o,H a=some o->a ∉ ι->H' a=some o
 fresh:∀ a∈ι',a ∉ ι->H a=none
section
variable {ι ι1 ι2:List Addr} {H H1 H2:Hp}
theorem Ext.refl:Ext ι ι H H:=⟨List.prefix_refl _,fun _ _ h=>h,fun _ _ _ h=>h,fun _ _ h _=>h,fun _ h n=>absurd h n⟩
theorem Ext.trans (a:Ext ι ι1 H H1) (b:Ext ι1 ι2 H1 H2):Ext ι ι2 H H2 where
 pre:=a.pre.trans b.pre
 tup:=fun x xs h=>b.tup x xs (a.tup x xs h)
 frz:=fun x o u h=>b.frz x o u (a.frz x o u h)
 oth:=fun x o h n=>b.oth x o (a.oth x o h n) fun m=>by
  have:=a.fresh x m n
  rw [h] at this; cases this
 fresh:=fun x m n=>by
  by_cases h1:x∈ι1
  ·exact a.fresh x h1 n
  ·have:=b.fresh x m h1
   cases q:H x with
   | none=>rfl
   | some o=>rw [a.oth x o q n] at this; cases this
theorem Ext.laid {p:Addr} {o:HO} (hp:H p=none):Ext ι ι H (upd H p o) :=
 ⟨List.prefix_refl _,fun a xs h=>by rw [aE (aV h hp)]; exact h,fun a o u h=>by rw [aE (aV h hp)]; exact h,fun a o h _=>by rw [aE (aV h hp)]; exact h,fun _ h n=>absurd h n⟩
theorem Ext.more {p:Addr} {o:HO} (hp:H p=none):Ext ι (ι++[p]) H (upd H p o) :=
 ⟨List.prefix_append _ _,fun a xs h=>by rw [aE (aV h hp)]; exact h,fun a o u h=>by rw [aE (aV h hp)]; exact h,fun a o h _=>by rw [aE (aV h hp)]; exact h,fun a h n=>by
  rcases List.mem_append.mp h with z|z
  ·exact absurd z n
  ·have:a=p:=by simpa using z
   rw [this]; exact hp⟩
theorem d_ {α:Type} {xs ys:List α} (h:xs <+: ys) {i:Nat} {x:α} (e:xs[i]?=some x):ys[i]?=some x:=by
 obtain ⟨t,rfl⟩:=h
 rw [List.getElem?_append_left (List.getElem?_eq_some_iff.mp e).1]
 exact e
end
section
variable {Γ:Gx} {ι ι1:List Addr} {H H1:Hp}
theorem Ext.sqT (e:Ext ι ι1 H H1) {a:Addr} {xs:List V} (h:SqT Γ.K H a xs):SqT Γ.K H1 a xs:=by
 rcases h with (h|⟨o,h⟩)|h
 ·exact .inl (.inl (e.tup _ _ h))
 ·exact .inl (.inr ⟨o,e.frz _ _ _ h⟩)
 ·exact .inr h
theorem Ext.fro (e:Ext ι ι1 H H1) {a:Addr} {xs:List V} (h:Fro Γ.K H a xs):Fro Γ.K H1 a xs:=by
 rcases h with ⟨o,h⟩|h
 ·exact .inl ⟨o,e.frz _ _ _ h⟩
 ·exact .inr h
theorem Rep.ext (e:Ext ι ι1 H H1) {d:D} {v:V} (h:Rep Γ ι H d v):Rep Γ ι1 H1 d v:=by
 induction h with
 | non=>exact .non
 | bl b=>exact .bl b
 | int i=>exact .int i
 | str x=>exact .str x
 | tup h1 h2 h3 ih=>exact .tup (e.sqT h1) h2 ih
 | fro h1 h2 h3 ih=>exact .fro (e.fro h1) h2 ih
 | loc h=>exact .loc (d_ e.pre h)
theorem au.ext (e:Ext ι ι1 H H1) {ds:List D} {vs:List V} (h:au Γ ι H ds vs):au Γ ι1 H1 ds vs:=Paired.imp (fun _ _ r=>Rep.ext e r) h
end
abbrev aP (Γ:Gx) (ι:List Addr) (H:Hp):List (List Int × D)->List (List Key × V)->Prop:=Paired fun p q=>q.1=p.1.map Sum.inl/\Rep Γ ι H p.2 q.2
noncomputable def iL (Γ:Gx) (ι:List Addr) (H:Hp) (a:Addr):Cell->Prop
 | .lst ds=>∃ xs,H a=some (.lst xs)/\au Γ ι H ds xs
 | .dct kvs=>∃ xs,H a=some (.dT xs)/\aP Γ ι H kvs xs
structure aq (Γ:Gx) (ι:List Addr) (H:Hp) (S:af):Prop where
 len:ι.length=S.length
 nd:ι.Nodup
 cell:∀ (l:Nat) c,S[l]?=some c->∃ a,ι[l]?=some a/\iL Γ ι H a c
structure aQ (Γ:Gx) (ι:List Addr) (H:Hp) (σ:L2.St) (σd:Sg):Prop where
 len:σ.length=σd.length
 var:∀ (i:Nat) d,σd[i]?=some (some d)->∃ v,σ[i]?=some (some v)/\Rep Γ ι H d v
theorem aQ.ext {Γ:Gx} {ι ι1:List Addr} {H H1:Hp} {σ:L2.St} {σd:Sg} (e:Ext ι ι1 H H1) (h:aQ Γ ι H σ σd):aQ Γ ι1 H1 σ σd :=
 ⟨h.len,fun i d q=>let ⟨v,a,b⟩:=h.var i d q; ⟨v,a,b.ext e⟩⟩
abbrev XW:=Str->af->List Addr->Hp->Prop
noncomputable def Out {α:Type} (Γ:Gx) (xw:XW) (ι:List Addr) (H:Hp) (r:Res α) (k:α->af->List Addr->Hp->Prop):Prop:=match r with
 | .ok a S'=>∀ ι' H',Ext ι ι' H H'->aq Γ ι' H' S'->k a S' ι' H'
 | .exc c S'=>∀ ι' H',Ext ι ι' H H'->aq Γ ι' H' S'->xw c S' ι' H'
 | .bad=>False
section
variable {Γ:Gx} {xw:XW} {ι ι1:List Addr} {H H1:Hp} {α β:Type}
theorem Out.step {r:Res α} {k:α->af->List Addr->Hp->Prop} (h:Out Γ xw ι H r k) (e:Ext ι ι1 H H1):Out Γ xw ι1 H1 r k:=by
 cases r with
 | ok a S'=>exact fun ι' H' e' s'=>h ι' H' (e.trans e') s'
 | exc c S'=>exact fun ι' H' e' s'=>h ι' H' (e.trans e') s'
 | bad=>exact h
theorem Out.mono {r:Res α} {k k':α->af->List Addr->Hp->Prop} (h:Out Γ xw ι H r k) (f:∀ a S' ι' H',Ext ι ι' H H'->aq Γ ι' H' S'->k a S' ι' H'->k' a S' ι' H'):Out Γ xw ι H r k':=by
 cases r with
 | ok a S'=>exact fun ι' H' e' s'=>f _ _ _ _ e' s' (h ι' H' e' s')
 | exc c S'=>exact h
 | bad=>exact h
theorem Out.bind {m:M α} {f:α->M β} {S:af} {k:β->af->List Addr->Hp->Prop} (h:Out Γ xw ι H ((m>>=f) S) k) :
  Out Γ xw ι H (m S) (fun a S' ι' H'=>aq Γ ι' H' S'/\Ext ι ι' H H'/\Out Γ xw ι' H' (f a S') k):=by
 rw [bQ] at h
 cases q:m S with
 | ok a S'=>rw [q] at h; exact fun ι' H' e' s'=>⟨s',e',Out.step h e'⟩
 | exc c S'=>rw [q] at h; exact h
 | bad=>rw [q] at h; exact h
theorem Out.here {a:α} {S:af} {k:α->af->List Addr->Hp->Prop} (h:Out Γ xw ι H (.ok a S) k) (s:aq Γ ι H S):k a S ι H:=h ι H .refl s
theorem Out.quiet {m:M α} {S:af} {k:α->af->List Addr->Hp->Prop} (h:Out Γ xw ι H (quiet m S) k) (xw':XW):Out Γ xw' ι H (m S) k:=by
 unfold EV.quiet at h
 cases q:m S with
 | ok a S'=>rw [q] at h; exact h
 | exc c S'=>rw [q] at h; exact h.elim
 | bad=>rw [q] at h; exact h.elim
end
noncomputable def tM (Γ:Gx) (xw:XW) (m:Sg->M D):TE:=fun σ H Q=>∃ σd ι S,aQ Γ ι H σ σd/\aq Γ ι H S/\Out Γ xw ι H (m σd S) fun d _ ι' H'=>∀ v,Rep Γ ι' H' d v->Q v H'
noncomputable def tMT (Γ:Gx) (xw:XW) (m:Sg->M Bool):TT:=fun σ H Q=>∃ σd ι S,aQ Γ ι H σ σd/\aq Γ ι H S/\Out Γ xw ι H (m σd S) fun b _ _ H'=>Q b H'
noncomputable def tMA (Γ:Gx) (xw:XW) (m:Sg->M (List D)):TA:=fun σ H Q=>∃ σd ι S,aQ Γ ι H σ σd/\aq Γ ι H S/\Out Γ xw ι H (m σd S) fun ds _ ι' H'=>∀ vs,au Γ ι' H' ds vs->Q vs H'
theorem PE.imp {X:Cx} {e:Expr} {t t':TE} (h:PE X e t) (f:∀ σ H Q,t' σ H Q->t σ H Q):PE X e t':=fun pins s σ H Q I q=>h pins s σ H Q I (f σ H Q q)
theorem PT.imp {X:Cx} {e:Expr} {t t':TT} (h:PT X e t) (f:∀ σ H Q,t' σ H Q->t σ H Q):PT X e t':=fun pins s σ H Q I q=>h pins s σ H Q I (f σ H Q q)
theorem PW.imp {X:Cx} {e:Expr} {t t':TT} (h:PW X e t) (f:∀ σ H Q,t' σ H Q->t σ H Q):PW X e t':=fun w pins s σ H Q I q=>h w pins s σ H Q I (f σ H Q q)
theorem PA.imp {X:Cx} {e:List Expr} {t t':TA} (h:PA X e t) (f:∀ σ H Q,t' σ H Q->t σ H Q):PA X e t':=fun p pins s σ H Q I q=>h p pins s σ H Q I (f σ H Q q)
theorem PS.imp {X:Cx} {e:Stmt} {t t':TS} (h:PS X e t) (f:∀ D σ H,t' D σ H->t D σ H):PS X e t':=fun pins s σ H D I q=>h pins s σ H D I (f D σ H q)
theorem PSs.imp {X:Cx} {e:List Stmt} {t t':TS} (h:PSs X e t) (f:∀ D σ H,t' D σ H->t D σ H):PSs X e t':=fun pins s σ H D I q=>h pins s σ H D I (f D σ H q)
section
variable {Γ:Gx} {xw:XW} {σ:L2.St} {H:Hp}
noncomputable def tH (Γ:Gx) (xw:XW) (f:D->M D) (x:V) (H:Hp) (Q:VK):Prop:=∃ ι S dx,aq Γ ι H S/\Rep Γ ι H dx x/\Out Γ xw ι H (f dx S) fun d _ ι' H'=>∀ v,Rep Γ ι' H' d v->Q v H'
noncomputable def aU (Γ:Gx) (xw:XW) (f:D->D->M D) (x y:V) (H:Hp) (Q:VK):Prop :=
 ∃ ι S dx dy,aq Γ ι H S/\Rep Γ ι H dx x/\Rep Γ ι H dy y/\Out Γ xw ι H (f dx dy S) fun d _ ι' H'=>∀ v,Rep Γ ι' H' d v->Q v H'
noncomputable def cA (Γ:Gx) (xw:XW) (f:List D->M D) (xs:List V) (H:Hp) (Q:VK):Prop:=∃ ι S ds,aq Γ ι H S/\au Γ ι H ds xs/\Out Γ xw ι H (f ds S) fun d _ ι' H'=>∀ v,Rep Γ ι' H' d v->Q v H'
theorem iP {ma mb:Sg->M D} {f:D->D->M D} {Q:VK} (h:tM Γ xw (fun σ=>ma σ>>=fun x=>mb σ>>=fun y=>f x y) σ H Q) :
  tM Γ xw ma σ H fun x H1=>tM Γ xw mb σ H1 fun y H2=>aU Γ xw f x y H2 Q:=by
 obtain ⟨σd,ι,S,he,hs,ho⟩:=h
 exact ⟨σd,ι,S,he,hs,ho.bind.mono fun d S' ι' H' _ _ ⟨s',e',o'⟩ v r=>⟨σd,ι',S',he.ext e',s',o'.bind.mono fun d2 S2 ι2 H2 _ _ ⟨s2,e2,o2⟩ v2 r2=>⟨ι2,S2,d,d2,s2,r.ext e2,r2,o2⟩⟩⟩
theorem nM {ma:Sg->M (List D)} {f:List D->M D} {Q:VK} (h:tM Γ xw (fun σ=>ma σ>>=f) σ H Q):tMA Γ xw ma σ H fun xs H1=>cA Γ xw f xs H1 Q:=by
 obtain ⟨σd,ι,S,he,hs,ho⟩:=h
 exact ⟨σd,ι,S,he,hs,ho.bind.mono fun d S' ι' H' _ _ ⟨s',e',o'⟩ v r=>⟨ι',S',d,s',r,o'⟩⟩
end
end EV

namespace EV
open PySem PySem.Spec PyProof.Rows L2
open PySem.SeqAt (EqAt RcAt)
section
variable {X:Cx} {Γ:Gx} {xw:XW} {pins:List (Addr × Obj)} {σ:L2.St} {H:Hp} {s:Shared} {ι:List Addr} {S:af}
theorem aq.list (hS:aq Γ ι H S) {d:D} {v:V} {ds:List D} (r:Rep Γ ι H d v) (h:asL S d=some ds):∃ a xs,v=.ref a/\SqL Γ.K H a xs/\au Γ ι H ds xs:=by
 cases d with
 | loc l =>
  cases r with
  | loc q =>
   have h':listAt S l=some ds:=h
   unfold listAt at h'
   split at h'
   ·rename_i es e
    cases h'
    obtain ⟨a,ha,xs,hx,r⟩:=hS.cell l _ e
    rw [q] at ha; cases ha
    exact ⟨_,xs,rfl,.of hx,r⟩
   ·cases h'
 | fro es =>
  cases h
  obtain ⟨a,xs,rfl,hf,rs⟩:=r.fm
  exact ⟨a,xs,rfl,hf.sq,rs⟩
 | _=>cases h
theorem aq.lst (hS:aq Γ ι H S) {l:Nat} {ds:List D} (h:S[l]?=some (.lst ds)):∃ a xs,ι[l]?=some a/\H a=some (.lst xs)/\au Γ ι H ds xs:=by
 obtain ⟨a,ha,xs,hx,r⟩:=hS.cell l _ h
 exact ⟨a,xs,ha,hx,r⟩
theorem qw {l:Nat}:items (.loc l) S=match listAt S l with|some ds=>.ok ds S|none=>.bad:=rfl
theorem fW {α:Type}:∀ {xs:List α} {i j:Nat} {x:α},xs.Nodup->xs[i]?=some x->xs[j]?=some x->i=j
 | [],_,_,_,_,h,_=>by simp at h
 | y::r,0,0,_,_,_,_=>rfl
 | y::r,0,j+1,x,nd,h1,h2=>by
  simp at h1 h2
  subst h1
  exact absurd (List.mem_of_getElem? h2) (List.nodup_cons.mp nd).1
 | y::r,i+1,0,x,nd,h1,h2=>by
  simp at h1 h2
  subst h2
  exact absurd (List.mem_of_getElem? h1) (List.nodup_cons.mp nd).1
 | y::r,i+1,j+1,x,nd,h1,h2=>by
  exact congrArg (· + 1) (fW (i:=i) (j:=j) (List.nodup_cons.mp nd).2 (by simpa using h1) (by simpa using h2))
theorem fJ {f:D->D->Option Bool}:∀ {xs ys:List D} {k:Bool},bA f xs ys=some k->∃ e:Nat->Bool,(∀ (j:Nat) x y,xs[j]?=some x->ys[j]?=some y->f x y=some (e j))/\k=(List.range (min xs.length ys.length)).all e
 | [],ys,k,h=>⟨fun _=>true,fun j x y e1 e2=>by simp at e1,by simp only [bA] at h; cases h; simp⟩
 | _::_,[],k,h=>⟨fun _=>true,fun j x y e1 e2=>by simp at e2,by simp only [bA] at h; cases h; simp⟩
 | x::xs,y::ys,k,h=>by
  simp only [bA] at h
  split at h
  ·rename_i a b e1 e2
   cases h
   obtain ⟨e,he,hk⟩:=fJ e2
   refine ⟨fun j=>match j with|0=>a|j+1=>e j,fun j u v q1 q2=>?_,?_⟩
   ·cases j with
    | zero=>simp at q1 q2; subst q1; subst q2; exact e1
    | succ j=>exact he j u v (by simpa using q1) (by simpa using q2)
   ·rw [show min (x::xs).length (y::ys).length=min xs.length ys.length+1 by simp only [List.length_cons]; omega,List.range_succ_eq_map,List.all_cons,List.all_map]
    rw [hk]
    rfl
  ·cases h
theorem Rep.iw {d1 d2:D} {x:V} (q1:Rep Γ ι H d1 x) (q2:Rep Γ ι H d2 x) (e:d1.kd=.flat):d2.kd=.flat:=by
 have h1:ya x=true:=by cases q1 <;> first|rfl|cases e
 cases q2 <;> first|rfl|cases h1
theorem Rep.vW {d1 d2:D} {x:V} (q1:Rep Γ ι H d1 x) (q2:Rep Γ ι H d2 x) (e:d1.kd=.flat):d1=d2:=by
 cases q1 <;> first|(cases e; done)|(cases q2; rfl)
theorem xB {d:D} {k:Bool} (h:aZ d d=some k):k=true:=by
 cases d <;> first|(cases h; done)|(simp [aZ] at h; exact h)
theorem wW (hK:Γ.K=X.K) (I:Inv X pins σ H s) (hS:aq Γ ι H S):∀ (m:Nat) (d1 d2:D) (k:Bool) (x:V),eqD m S d1 d2=some k->Rep Γ ι H d1 x->Rep Γ ι H d2 x->k=true:=by
 obtain ⟨K⟩:=Γ
 have hK':K=X.K:=hK
 subst hK'
 have all:∀ (m:Nat),(∀ (d1 d2:D) (k:Bool) (x:V),eqD m S d1 d2=some k->Rep ⟨X.K⟩ ι H d1 x->Rep ⟨X.K⟩ ι H d2 x->k=true) ->
   ∀ (ds es:List D) (xs:List V) (r:Bool),au ⟨X.K⟩ ι H ds xs->au ⟨X.K⟩ ι H es xs->bA (eqD m S) ds es=some r->r=true:=by
  intro m ihm ds es xs r p1 p2 hr
  obtain ⟨e,he,hk2⟩:=fJ hr
  have l1:=p1.length
  have l2:=p2.length
  rw [hk2,List.all_eq_true]
  intro j hj
  rw [List.mem_range] at hj
  have hj1:j < ds.length:=by omega
  have hj2:j < es.length:=by omega
  obtain ⟨y1,a1,a2⟩:=Paired.get p1 (List.getElem?_eq_getElem hj1)
  obtain ⟨y2,a3,a4⟩:=Paired.get p2 (List.getElem?_eq_getElem hj2)
  rw [a1] at a3; cases a3
  exact ihm _ _ _ y1 (he j _ _ (List.getElem?_eq_getElem hj1) (List.getElem?_eq_getElem hj2)) a2 a4
 intro m
 induction m with
 | zero=>intro d1 d2 k x h; simp [eqD] at h
 | succ m ihm =>
  intro d1 d2 k x h q1 q2
  have hall:=all m ihm
  have tl:∀ {es:List D} {a:Addr} {d:D},(∃ xs,SqT X.K H a xs)->∀ {z},asL S d=some z->Rep ⟨X.K⟩ ι H d (.ref a)->False:=fun {es a d} ht {z} hz hr=>by
   obtain ⟨xs,ht⟩:=ht
   obtain ⟨b,ys,e,sb,_⟩:=hS.list hr hz
   cases e
   obtain ⟨its,_,pl,_⟩:=I.list sb
   obtain ⟨its2,_,pt,_⟩:=I.tuple ht
   exact absurd rfl (SeqAt.ne_of_list_tuple pl.isList pt)
  cases e1:d1.kd <;> cases e2:d2.kd <;> simp only [eqD,e1,e2] at h
  ·have e:=Rep.vW q1 q2 e1
   rw [<- e] at h
   exact xB h
  ·rw [Rep.iw q1 q2 e1] at e2; cases e2
  ·rw [Rep.iw q1 q2 e1] at e2; cases e2
  ·cases h
  ·rw [Rep.iw q2 q1 e2] at e1; cases e1
  ·cases d1 <;> first|(cases e1; done)|skip
   cases d2 <;> first|(cases e2; done)|skip
   obtain ⟨a,xs,rfl,t1,p1⟩:=q1.bH
   obtain ⟨b,ys,eb,t2,p2⟩:=q2.bH
   cases eb
   have e:xs=ys:=I.gO t1 t2
   subst e
   simp only [Option.map_eq_some_iff] at h
   obtain ⟨r,hr,hk⟩:=h
   have hl:(D.its (D.tup _)).length=(D.its (D.tup _)).length:=(p1.length).trans p2.length.symm
   rw [<- hk,hall _ _ xs r p1 p2 hr,hl]; simp
  ·simp only [Option.map_eq_some_iff] at h
   obtain ⟨z,hz,_⟩:=h
   cases d1 <;> first|(cases e1; done)|skip
   obtain ⟨a,xs,rfl,t1,p1⟩:=q1.bH
   exact (tl (es:=[]) ⟨xs,t1⟩ hz q2).elim
  ·cases h
  ·rw [Rep.iw q2 q1 e2] at e1; cases e1
  ·simp only [Option.map_eq_some_iff] at h
   obtain ⟨z,hz,_⟩:=h
   cases d2 <;> first|(cases e2; done)|skip
   obtain ⟨a,xs,rfl,t1,p1⟩:=q2.bH
   exact (tl (es:=[]) ⟨xs,t1⟩ hz q1).elim
  ·split at h
   ·rename_i ds es hd he
    obtain ⟨a,xs,rfl,s1,p1⟩:=hS.list q1 hd
    obtain ⟨b,ys,eb,s2,p2⟩:=hS.list q2 he
    cases eb
    have e:xs=ys:=I.iJ s1 s2
    subst e
    rw [if_pos (p1.length.trans p2.length.symm)] at h
    exact hall _ _ xs k p1 p2 h
   ·cases h
  ·cases h
  ·cases h
  ·cases h
  ·cases h
  ·cases h
theorem zT {A:Around} {d1 d2:D} {k:Bool} {x1 x2:V} {u1 u2:Value} (h:aZ d1 d2=some k) (r1:Rep Γ ι H d1 x1) (r2:Rep Γ ι H d2 x2) (v1:RelV x1 u1) (v2:RelV x2 u2) (e1:d1.kd=.flat) (e2:d2.kd=.flat):RcAt A s u1 u2 k/\EqAt A s u1 u2 k:=by
 cases r1 <;> first|(cases e1; done)|skip
 all_goals (cases r2 <;> first|(cases e2; done)|skip)
 ·cases v1; cases v2; simp [aZ] at h; subst h; exact ⟨RcAt.none_none,EqAt.same _⟩
 ·cases v1; cases v2; simp [aZ] at h; subst h; exact ⟨.none_bool _,.none_bool _⟩
 ·cases v1; obtain ⟨t,rfl⟩:=v2; simp [aZ] at h; subst h; exact ⟨.none_int _ t,.none_int _ t⟩
 ·cases v1; obtain ⟨t,rfl⟩:=v2; simp [aZ] at h; subst h; exact ⟨.none_str _ t,.none_str _ t⟩
 ·cases v1; cases v2; simp [aZ] at h; subst h; exact ⟨.bool_none _,.bool_none _⟩
 ·cases v1; cases v2; simp [aZ] at h; subst h; exact ⟨.bool_bool _ _,.bool_bool _ _⟩
 ·cases v1; obtain ⟨t,rfl⟩:=v2; simp [aZ] at h; subst h; exact ⟨.bool_int _ _ t,.bool_int _ _ t⟩
 ·cases v1; obtain ⟨t,rfl⟩:=v2; simp [aZ] at h; subst h; exact ⟨.bool_str _ _ t,.bool_str _ _ t⟩
 ·obtain ⟨ta,rfl⟩:=v1; cases v2; simp [aZ] at h; subst h; exact ⟨.int_none _ ta,.int_none _ ta⟩
 ·obtain ⟨ta,rfl⟩:=v1; cases v2; simp [aZ] at h; subst h; exact ⟨.int_bool _ ta _,.int_bool _ ta _⟩
 ·obtain ⟨ta,rfl⟩:=v1; obtain ⟨t,rfl⟩:=v2; simp [aZ] at h; subst h; exact ⟨.int_int _ ta _ t,.int_int _ ta _ t⟩
 ·obtain ⟨ta,rfl⟩:=v1; obtain ⟨t,rfl⟩:=v2; simp [aZ] at h; subst h; exact ⟨.int_str _ ta _ t,.int_str _ ta _ t⟩
 ·obtain ⟨ta,rfl⟩:=v1; cases v2; simp [aZ] at h; subst h; exact ⟨.str_none _ ta,.str_none _ ta⟩
 ·obtain ⟨ta,rfl⟩:=v1; cases v2; simp [aZ] at h; subst h; exact ⟨.str_bool _ ta _,.str_bool _ ta _⟩
 ·obtain ⟨ta,rfl⟩:=v1; obtain ⟨t,rfl⟩:=v2; simp [aZ] at h; subst h; exact ⟨.str_int _ ta _ t,.str_int _ ta _ t⟩
 ·obtain ⟨ta,rfl⟩:=v1; obtain ⟨t,rfl⟩:=v2; simp [aZ] at h; subst h; exact ⟨.str_str _ ta _ t,.str_str _ ta _ t⟩
theorem j9 (hK:Γ.K=X.K) (I:Inv X pins σ H s) (hS:aq Γ ι H S):∀ (n:Nat) (A:Around) (d1 d2:D) (k:Bool) (x1 x2:V) (u1 u2:Value),eqD n S d1 d2=some k->Rep Γ ι H d1 x1->Rep Γ ι H d2 x2->RelV x1 u1->RelV x2 u2->A.units+n < cLine ->
  RcAt A s u1 u2 k/\EqAt A s u1 u2 k:=by
 have same:=wW hK I hS
 obtain ⟨K⟩:=Γ
 have hK':K=X.K:=hK
 subst hK'
 intro n
 induction n with
 | zero=>intro A d1 d2 k x1 x2 u1 u2 h; simp [eqD] at h
 | succ n ih =>
  intro A d1 d2 k x1 x2 u1 u2 h r1 r2 v1 v2 hu
  have hu0:A.units < cLine:=by omega
  have hu1:A.in1.units+n < cLine:=by show A.units+1+n < cLine; omega
  have h0:=h
  have each:∀ {ds es:List D} {xs ys:List V} {its1 its2:List Value} {e:Nat->Bool},au ⟨X.K⟩ ι H ds xs->au ⟨X.K⟩ ι H es ys->Vals xs its1->Vals ys its2 ->
    (∀ (j:Nat) x y,ds[j]?=some x->es[j]?=some y->eqD n S x y=some (e j))->∀ (j:Nat) (h1:j < its1.toArray.size) (h2:j < its2.toArray.size),EqAt A.in1 s its1.toArray[j] its2.toArray[j] (e j):=by
   intro ds es xs ys its1 its2 e rp1 rp2 rv1 rv2 he j h1 h2
   rw [List.size_toArray] at h1 h2
   have l1:=rp1.length
   have l2:=rp2.length
   have l3:=rv1.length
   have l4:=rv2.length
   have j1:j < ds.length:=by omega
   have j2:j < es.length:=by omega
   obtain ⟨y1,a1,a2⟩:=Paired.get rp1 (List.getElem?_eq_getElem j1)
   obtain ⟨y2,a3,a4⟩:=Paired.get rp2 (List.getElem?_eq_getElem j2)
   obtain ⟨w1,z1,z2⟩:=rv1.get a1
   obtain ⟨w2,z3,z4⟩:=rv2.get a3
   have:=(ih A.in1 ds[j] es[j] (e j) y1 y2 w1 w2 (he j _ _ (List.getElem?_eq_getElem j1) (List.getElem?_eq_getElem j2)) a2 a4 z2 z4 hu1).2
   have q1:its1.toArray[j]'(by rw [List.size_toArray]; exact h1)=w1:=by
    have:its1[j]?=some its1[j]:=List.getElem?_eq_getElem h1
    rw [z1] at this; cases this; rfl
   have q2:its2.toArray[j]'(by rw [List.size_toArray]; exact h2)=w2:=by
    have:its2[j]?=some its2[j]:=List.getElem?_eq_getElem h2
    rw [z3] at this; cases this; rfl
   rw [q1,q2]; exact this
  have lst:∀ {d:D} {x:V} {u:Value} {zs:List D},Rep ⟨X.K⟩ ι H d x->RelV x u->asL S d=some zs->∃ a xs its,x=.ref a/\u=.ref a/\au ⟨X.K⟩ ι H zs xs/\Vals xs its/\s.heap.IsList a its.toArray:=fun {d x u zs} r rv hz=>by
   obtain ⟨b,ys,e,sb,rp⟩:=hS.list r hz
   subst e
   cases rv
   obtain ⟨its,rv,p,_⟩:=I.list sb
   exact ⟨b,ys,its,rfl,rfl,rp,rv,p.isList⟩
  have tpl:∀ {ds:List D} {x:V} {u:Value},Rep ⟨X.K⟩ ι H (.tup ds) x->RelV x u->∃ a xs its,x=.ref a/\u=.ref a/\au ⟨X.K⟩ ι H ds xs/\Vals xs its/\s.heap.IsTuple a its.toArray:=fun {ds x u} r rv=>by
   obtain ⟨a,xs,e,t,p⟩:=r.bH
   subst e
   cases rv
   obtain ⟨its,rv,p2,_⟩:=I.tuple t
   exact ⟨a,xs,its,rfl,rfl,p,rv,p2⟩
  cases e1:d1.kd <;> cases e2:d2.kd <;> simp only [eqD,e1,e2] at h
  ·exact zT h r1 r2 v1 v2 e1 e2
  ·cases h
   cases d2 <;> first|(cases e2; done)|skip
   obtain ⟨a,xs,its,rfl,rfl,_,_,p⟩:=tpl r2 v2
   cases r1 <;> first|(cases e1; done)|skip
   ·cases v1; exact ⟨.none_tuple p hu0,.none_tuple p hu0⟩
   ·cases v1; exact ⟨.bool_tuple _ p hu0,.bool_tuple _ p hu0⟩
   ·obtain ⟨ta,rfl⟩:=v1; exact ⟨.int_tuple _ ta p hu0,.int_tuple _ ta p hu0⟩
   ·obtain ⟨ta,rfl⟩:=v1; exact ⟨.str_tuple _ ta p hu0,.str_tuple _ ta p hu0⟩
  ·simp only [Option.map_eq_some_iff] at h
   obtain ⟨z,hz,rfl⟩:=h
   obtain ⟨a,xs,its,rfl,rfl,_,_,p⟩:=lst r2 v2 hz
   cases r1 <;> first|(cases e1; done)|skip
   ·cases v1; exact ⟨.none_list p hu0,.none_list p hu0⟩
   ·cases v1; exact ⟨.bool_list _ p hu0,.bool_list _ p hu0⟩
   ·obtain ⟨ta,rfl⟩:=v1; exact ⟨.int_list _ ta p hu0,.int_list _ ta p hu0⟩
   ·obtain ⟨ta,rfl⟩:=v1; exact ⟨.str_list _ ta p hu0,.str_list _ ta p hu0⟩
  ·cases h
  ·cases h
   cases d1 <;> first|(cases e1; done)|skip
   obtain ⟨a,xs,its,rfl,rfl,_,_,p⟩:=tpl r1 v1
   cases r2 <;> first|(cases e2; done)|skip
   ·cases v2; exact ⟨.tuple_none p hu0,.tuple_none p hu0⟩
   ·cases v2; exact ⟨.tuple_bool _ p hu0,.tuple_bool _ p hu0⟩
   ·obtain ⟨ta,rfl⟩:=v2; exact ⟨.tuple_int _ ta p hu0,.tuple_int _ ta p hu0⟩
   ·obtain ⟨ta,rfl⟩:=v2; exact ⟨.tuple_str _ ta p hu0,.tuple_str _ ta p hu0⟩
  ·cases d1 <;> first|(cases e1; done)|skip
   cases d2 <;> first|(cases e2; done)|skip
   obtain ⟨a,xs,its1,rfl,rfl,rp1,rv1,p1⟩:=tpl r1 v1
   obtain ⟨b,ys,its2,rfl,rfl,rp2,rv2,p2⟩:=tpl r2 v2
   simp only [Option.map_eq_some_iff] at h
   obtain ⟨r,hr,hk⟩:=h
   obtain ⟨e,he,hk2⟩:=fJ hr
   have rc:RcAt A s (.ref a) (.ref b) k:=by
    have:=RcAt.tuples (A:=A) (e:=e) p1 p2 hu0 (each rp1 rp2 rv1 rv2 he)
    rw [List.size_toArray,List.size_toArray,<- rv1.length,<- rv2.length,<- rp1.length,<- rp2.length] at this
    rw [<- hk,hk2]; exact this
   refine ⟨rc,?_⟩
   by_cases hab:a=b
   ·subst hab
    rw [same _ _ _ k _ h0 r1 r2]; exact EqAt.same _
   ·exact .of_refs hab rc
  ·simp only [Option.map_eq_some_iff] at h
   obtain ⟨z,hz,rfl⟩:=h
   cases d1 <;> first|(cases e1; done)|skip
   obtain ⟨a,xs,its1,rfl,rfl,rp1,rv1,p1⟩:=tpl r1 v1
   obtain ⟨b,ys,its2,rfl,rfl,rp2,rv2,p2⟩:=lst r2 v2 hz
   exact ⟨.tuple_list p1 p2 hu0,.tuple_list p1 p2 hu0⟩
  ·cases h
  ·simp only [Option.map_eq_some_iff] at h
   obtain ⟨z,hz,rfl⟩:=h
   obtain ⟨a,xs,its,rfl,rfl,_,_,p⟩:=lst r1 v1 hz
   cases r2 <;> first|(cases e2; done)|skip
   ·cases v2; exact ⟨.list_none p hu0,.list_none p hu0⟩
   ·cases v2; exact ⟨.list_bool _ p hu0,.list_bool _ p hu0⟩
   ·obtain ⟨ta,rfl⟩:=v2; exact ⟨.list_int _ ta p hu0,.list_int _ ta p hu0⟩
   ·obtain ⟨ta,rfl⟩:=v2; exact ⟨.list_str _ ta p hu0,.list_str _ ta p hu0⟩
  ·simp only [Option.map_eq_some_iff] at h
   obtain ⟨z,hz,rfl⟩:=h
   cases d2 <;> first|(cases e2; done)|skip
   obtain ⟨a,xs,its1,rfl,rfl,rp1,rv1,p1⟩:=tpl r2 v2
   obtain ⟨b,ys,its2,rfl,rfl,rp2,rv2,p2⟩:=lst r1 v1 hz
   exact ⟨.list_tuple p2 p1 hu0,.list_tuple p2 p1 hu0⟩
  ·split at h
   ·rename_i ds es hd he
    obtain ⟨a,xs,its1,rfl,rfl,rp1,rv1,p1⟩:=lst r1 v1 hd
    obtain ⟨b,ys,its2,rfl,rfl,rp2,rv2,p2⟩:=lst r2 v2 he
    have e1:its1.toArray.size=ds.length:=by rw [List.size_toArray,<- rv1.length,<- rp1.length]
    have e2:its2.toArray.size=es.length:=by rw [List.size_toArray,<- rv2.length,<- rp2.length]
    have rc:RcAt A s (.ref a) (.ref b) k:=by
     by_cases hlen:ds.length=es.length
     ·rw [if_pos hlen] at h
      obtain ⟨e,he',hk2⟩:=fJ h
      have:=RcAt.lists (A:=A) (e:=e) p1 p2 (by omega) hu0 (each rp1 rp2 rv1 rv2 he')
      rw [e1] at this; rw [hk2,<- hlen,Nat.min_self]; exact this
     ·rw [if_neg hlen] at h
      cases h
      exact RcAt.lists_lengths p1 p2 (by rw [e1,e2]; simpa using hlen) hu0
    refine ⟨rc,?_⟩
    by_cases hab:a=b
    ·subst hab
     rw [same _ _ _ k _ h0 r1 r2]; exact EqAt.same _
    ·exact .of_refs hab rc
   ·cases h
  ·cases h
  ·cases h
  ·cases h
  ·cases h
  ·cases h
end
end EV

namespace HT
open PySem PyProof.Rows
section
variable {prog:Program} {w:World} {A:Around} {E:Value->Shared->Prop} {s:Shared}
theorem Be {t sl:Addr} {items:Array Value} {vl vu:Value} {lo hi:Option Int} {Q:Value->Shared->Prop} (ht:IsTup s.heap t items) (hs:s.heap.IsSliceOf sl vl vu .none) (pl:IsPart vl lo) (pu:IsPart vu hi)
  (hw:sIx items.size 0 lo=0/\sIx items.size items.size hi=items.size) (h:Q (.ref t) s):wpAny (model prog w) A (getItem (.ref t) (.ref sl)) Q E s:=by
 obtain ⟨os,hos,hcs,hds⟩:=id hs
 have hTs:s.TypeIs (.ref sl) "slice":=⟨os,hos,hcs⟩
 unfold getItem
 try with_reducible refine wpAny_holding ?_
 first|refine wpAny_bind (wpAny_pure ?_)|skip
 refine wpAny_bind (wpAny_sequenceKey ht.typeIs (by decide) ?_)
 refine wpAny_bind (wpAny_callSpecial?_slot (name:=Str.ofString "__getitem__") ht.typeIs PyProof.Rows.slot_tuple_getitem
  (wpAny_call_entry PyProof.Rows.slot_tuple_getitem ht.typeIs entry_tuple_getitem ?_ (args_tuple_getitem _ _)))
 show wpAny _ _ (Builtin.Tuple.tupleItemsOf (.ref t)>>=_) _ _ s
 refine wpAny_bind (tupleItemsOf_ ht ?_)
 refine wpAny_bind (wpAny_typeOf hTs ?_)
 rw [if_pos (by decide)]
 refine wpAny_bind (nq hs pl pu ?_)
 have hyes:(((sIx items.size 0 lo:Nat):Int)==0&&(1:Int)==1&&(sIx items.size items.size hi - sIx items.size 0 lo)==items.size)=true:=by
  rw [hw.1,hw.2]; simp
 show wpAny _ _ (if (((sIx items.size 0 lo:Nat):Int)==0&&(1:Int)==1&&(sIx items.size items.size hi - sIx items.size 0 lo)==items.size)=true then _ else _) _ _ s
 rw [if_pos hyes]
 have hx:∀ {P:Bool->Shared->Prop},P true s->wpAny (model prog w) A.in1 (Builtin.Tuple.tupleIsExact (.ref t)) P E s:=fun {P} hp=>by
  unfold Builtin.Tuple.tupleIsExact
  refine wpAny_bind (wpAny_typeOf ht.typeIs (wpAny_pure ?_))
  simpa using hp
 refine wpAny_bind (hx ?_)
 rw [if_pos rfl]
 exact wpAny_bind (wpAny_rule (wpAny_pure ⟨_,rfl,wpAny_pure h⟩))
end
end HT
namespace EV
open PySem PySem.Spec PyProof.Rows L2
open PySem.SeqAt (EqAt RcAt)
section
variable {X:Cx} {Γ:Gx} {xw:XW} {pins:List (Addr × Obj)} {σ:L2.St} {H:Hp} {s:Shared} {ι:List Addr} {S:af}
theorem aq.new (hS:aq Γ ι H S) {p:Addr} (hp:H p=none):p ∉ ι:=fun m=>by
 obtain ⟨l,e⟩:=List.getElem?_of_mem m
 have hl:l < S.length:=by rw [<- hS.len]; exact (List.getElem?_eq_some_iff.mp e).1
 obtain ⟨a,ha,c⟩:=hS.cell l S[l] (List.getElem?_eq_getElem hl)
 rw [e] at ha; cases ha
 cases q:S[l] with
 | lst ds=>rw [q] at c; obtain ⟨xs,hx,_⟩:=c; rw [hp] at hx; cases hx
 | dct kvs=>rw [q] at c; obtain ⟨xs,hx,_⟩:=c; rw [hp] at hx; cases hx
theorem iL.ext {ι1:List Addr} {H1:Hp} (e:Ext ι ι1 H H1) {a:Addr} {c:Cell} (h:iL Γ ι H a c) (hl:∀ o,H a=some o->H1 a=some o):iL Γ ι1 H1 a c:=by
 cases c with
 | lst ds=>obtain ⟨xs,hx,r⟩:=h; exact ⟨xs,hl _ hx,au.ext e r⟩
 | dct kvs=>obtain ⟨xs,hx,r⟩:=h; exact ⟨xs,hl _ hx,Paired.imp (fun _ _ q=>⟨q.1,q.2.ext e⟩) r⟩
theorem aq.more (hS:aq Γ ι H S) {p:Addr} (hp:H p=none) {ds:List D} {xs:List V} (r:au Γ ι H ds xs):aq Γ (ι++[p]) (upd H p (.lst xs)) (S++[.lst ds]):=by
 have e:Ext ι (ι++[p]) H (upd H p (.lst xs)):=Ext.more hp
 refine ⟨by simp [hS.len],List.nodup_append.mpr ⟨hS.nd,by simp,?_⟩,fun l c h=>?_⟩
 ·intro a ha b hb
  have:b=p:=by simpa using hb
  subst this
  exact fun z=>hS.new hp (z ▸ ha)
 ·by_cases hl:l < S.length
  ·rw [List.getElem?_append_left hl] at h
   obtain ⟨a,ha,c1⟩:=hS.cell l c h
   exact ⟨a,d_ e.pre ha,c1.ext e fun ys hy=>by rw [aE (aV hy hp)]; exact hy⟩
  ·rw [List.getElem?_append_right (by omega)] at h
   have hl2:l - S.length=0:=by
    have:=(List.getElem?_eq_some_iff.mp h).1
    simp at this; omega
   rw [hl2] at h
   have h':(Cell.lst ds)=c:=by simpa using h
   subst h'
   have e1:l=ι.length:=by rw [hS.len]; omega
   subst e1
   exact ⟨p,by simp,xs,b5,au.ext e r⟩
theorem aq.laid (hS:aq Γ ι H S) {p:Addr} (hp:H p=none) (o:HO):aq Γ ι (upd H p o) S :=
 ⟨hS.len,hS.nd,fun l c h=>let ⟨a,ha,c1⟩:=hS.cell l c h; ⟨a,ha,c1.ext (Ext.laid hp) fun ys hy=>by rw [aE (aV hy hp)]; exact hy⟩⟩
theorem Out.alloc {Q:VK} {ds:List D} {xs:List V} {p:Addr} (ho:Out Γ xw ι H (alloc (.lst ds) S) fun d _ ι' H'=>∀ v,Rep Γ ι' H' d v->Q v H') (hS:aq Γ ι H S) (hp:H p=none) (r:au Γ ι H ds xs):Q (.ref p) (upd H p (.lst xs)) :=
 ho (ι++[p]) _ (Ext.more hp) (hS.more hp r) _ (.loc (by rw [<- hS.len]; simp))
theorem Out.tup {Q:VK} {ds:List D} {xs:List V} {p:Addr} (ho:Out Γ xw ι H (.ok (.tup ds) S) fun d _ ι' H'=>∀ v,Rep Γ ι' H' d v->Q v H') (hS:aq Γ ι H S) (hp:H p=none) (r:au Γ ι H ds xs):Q (.ref p) (upd H p (.tup xs)) :=
 ho ι _ (Ext.laid hp) (hS.laid hp _) _ (.gz (.of b5) (au.ext (Ext.laid hp) r))
theorem Out.val {Q:VK} {d:D} {v:V} (ho:Out Γ xw ι H (.ok d S) fun d _ ι' H'=>∀ v,Rep Γ ι' H' d v->Q v H') (hS:aq Γ ι H S) (r:Rep Γ ι H d v):Q v H:=ho.here hS v r
theorem wo:OpR X (binaryOp .Add) (fun x y H Q=>∃ a b ys,x=.ref a/\y=.ref b/\SqT X.K H a []/\SqT X.K H b ys/\Q (.ref b) H):=by
 intro pins s σ H x y v u Q I rx ry h
 obtain ⟨a,b,ys,rfl,rfl,ha,hb,q⟩:=h
 cases rx
 cases ry
 obtain ⟨its,r1,p1,_⟩:=I.tuple ha
 obtain ⟨its2,r2,p2,_⟩:=I.tuple hb
 cases r1
 obtain ⟨⟨cls,dd,data,sl⟩,ho,hc,n,hd⟩:=id p1
 obtain ⟨⟨cls2,dd2,data2,sl2⟩,ho2,hc2,n2,hd2⟩:=id p2
 simp only at hc hd hc2 hd2
 subst hc hd hc2 hd2
 exact concat_meets ⟨_,ho,rfl⟩ ⟨_,ho2,rfl⟩ noFill_tuple_add seq_tuple_add PySem.F.slot_tuple_add PySem.F.entry_tuple_add (PySem.F.args_tuple_add_2 _ _)
  (tuple_addW0 a b _ its2.toArray n n2 dd dd2 sl sl2 rfl) ⟨ho,ho2,⟨.ref b,H,I,rfl,q⟩⟩
theorem Out.guard {α:Type} {b:Bool} {m:M α} {k:α->af->List Addr->Hp->Prop} (h:Out Γ xw ι H (EV.guard b m S) k):b=true/\Out Γ xw ι H (m S) k:=by
 cases b with
 | true=>exact ⟨rfl,h⟩
 | false=>exact h.elim
theorem cK {n:Nat} (h:fits n=true):n<=sizeLine:=of_decide_eq_true h
theorem pJ {n:Nat} (h:gB n=true):n < sizeLine:=of_decide_eq_true h
theorem Out.opt {α β:Type} {o:Option α} {f:α->M β} {k:β->af->List Addr->Hp->Prop} (h:Out Γ xw ι H ((EV.opt o>>=f) S) k):∃ a,o=some a/\Out Γ xw ι H (f a S) k:=by
 cases o with
 | none=>exact h.elim
 | some a=>exact ⟨a,rfl,h⟩
theorem Out.bg {l:Nat} {f:List D->M D} {k:D->af->List Addr->Hp->Prop} (h:Out Γ xw ι H (EV.bg l f S) k):∃ ds,S[l]?=some (.lst ds)/\Out Γ xw ι H (f ds S) k:=by
 have e:EV.bg l f S=match S[l]? with|some (.lst ds)=>f ds S|_=>.bad:=rfl
 rw [e] at h
 cases q:S[l]? with
 | none=>rw [q] at h; exact h.elim
 | some c =>
  rw [q] at h
  cases c with
  | lst ds=>exact ⟨ds,rfl,h⟩
  | dct kvs=>exact h.elim
theorem rF (hK:Γ.K=X.K):OpR X (binaryOp .Add) (aU Γ xw (opD .add)):=by
 intro pins s σ H x y v u Q I rx ry h
 obtain ⟨ι,S,dx,dy,hS,r1,r2,ho⟩:=h
 cases dx with
 | int i =>
  cases dy with
  | int j=>cases r1; cases r2; exact xu pins s σ H _ _ v u Q I rx ry ⟨i,j,rfl,rfl,Out.val ho hS (.int _)⟩
  | _=>exact ho.elim
 | str a =>
  cases dy with
  | str b =>
   cases r1; cases r2
   obtain ⟨hz,ho⟩:=Out.guard ho
   exact sQ pins s σ H _ _ v u Q I rx ry ⟨a,b,rfl,rfl,cK hz,Out.val ho hS (.str _)⟩
  | _=>exact ho.elim
 | tup ds =>
  cases dy with
  | tup es =>
   obtain ⟨a,xs,rfl,t1,p1⟩:=r1.bH
   obtain ⟨b,ys,rfl,t2,p2⟩:=r2.bH
   have l1:=p1.length
   have l2:=p2.length
   rw [hK] at t1 t2
   obtain ⟨hz,ho⟩:=Out.guard ho
   have hz:=cK hz
   cases xs with
   | nil =>
    have e:ds=[]:=List.length_eq_zero_iff.mp l1
    subst e
    exact wo pins s σ H _ _ v u Q I rx ry ⟨a,b,ys,rfl,rfl,t1,t2,Out.val ho hS r2⟩
   | cons z zs =>
    refine vz pins s σ H _ _ v u Q I rx ry ⟨a,b,z::zs,ys,rfl,rfl,t1,t2,by simp,by rw [<- l1,<- l2]; exact hz,fun e=>?_,fun _ p hp=>?_⟩
    ·subst e
     have e:es=[]:=List.length_eq_zero_iff.mp l2
     subst e
     rw [List.append_nil] at ho
     exact Out.val ho hS r1
    ·exact Out.tup ho hS hp (Paired.app p1 p2)
  | _=>exact ho.elim
 | loc l =>
  cases dy with
  | loc m =>
   obtain ⟨ds,e1,ho⟩:=Out.bg ho
   obtain ⟨es,e2,ho⟩:=Out.bg ho
   obtain ⟨hz,ho⟩:=Out.guard ho
   obtain ⟨a,xs,ha,hx,p1⟩:=hS.lst e1
   obtain ⟨b,ys,hb,hy,p2⟩:=hS.lst e2
   cases r1 with
   | loc q1 =>
    cases r2 with
    | loc q2 =>
     rw [ha] at q1; cases q1
     rw [hb] at q2; cases q2
     exact Ar pins s σ H _ _ v u Q I rx ry ⟨a,b,xs,ys,rfl,rfl,hx,hy,by rw [<- p1.length,<- p2.length]; exact cK hz,fun p hp=>Out.alloc ho hS hp (Paired.app p1 p2)⟩
  | _=>exact ho.elim
 | _=>exact ho.elim
theorem Al:OpR X (binaryOp .Sub) (aU Γ xw (opD .sub)):=by
 intro pins s σ H x y v u Q I rx ry h
 obtain ⟨ι,S,dx,dy,hS,r1,r2,ho⟩:=h
 cases dx with
 | int i =>
  cases dy with
  | int j=>cases r1; cases r2; exact sL pins s σ H _ _ v u Q I rx ry ⟨i,j,rfl,rfl,Out.val ho hS (.int _)⟩
  | _=>exact ho.elim
 | _=>exact ho.elim
theorem zk (hK:Γ.K=X.K):OpR X (binaryOp .Mult) (aU Γ xw (opD .mul)):=by
 intro pins s σ H x y v u Q I rx ry h
 obtain ⟨ι,S,dx,dy,hS,r1,r2,ho⟩:=h
 cases dx with
 | int i =>
  cases dy with
  | int j =>
   cases r1; cases r2
   obtain ⟨hz,ho⟩:=Out.guard ho
   refine Bf pins s σ H _ _ v u Q I rx ry ⟨i,j,rfl,rfl,?_,Out.val ho hS (.int _)⟩
   rcases Bool.or_eq_true_iff.mp hz with hz|hz
   ·exact .inl (of_decide_eq_true hz)
   ·exact .inr (of_decide_eq_true hz)
  | _=>exact ho.elim
 | tup ds =>
  cases dy with
  | int j =>
   obtain ⟨a,xs,rfl,t1,p1⟩:=r1.bH
   have l1:=p1.length
   rw [hK] at t1
   cases r2
   obtain ⟨hz,ho⟩:=Out.guard ho
   rw [Bool.and_eq_true,Bool.and_eq_true] at hz
   refine sE pins s σ H _ _ v u Q I rx ry ⟨a,j,xs,rfl,rfl,t1,of_decide_eq_true hz.1.1,of_decide_eq_true hz.1.2,by rw [<- l1]; exact cK hz.2,fun e=>?_,fun p hp=>?_⟩
   ·have e2:(List.replicate j.toNat ds).flatten=ds:=by
     rcases e with e|e
     ·subst e
      have e:ds=[]:=List.length_eq_zero_iff.mp l1
      subst e
      simp
     ·subst e; simp
    rw [e2] at ho
    exact Out.val ho hS r1
   ·exact Out.tup ho hS hp (Paired.rep p1 _)
  | _=>exact ho.elim
 | loc l =>
  cases dy with
  | int j =>
   obtain ⟨ds,hl,ho⟩:=Out.bg ho
   obtain ⟨a,xs,ha,hx,p1⟩:=hS.lst hl
   cases r2
   cases r1 with
   | loc q =>
    rw [ha] at q; cases q
    obtain ⟨hz,ho⟩:=Out.guard ho
    rw [Bool.and_eq_true,Bool.and_eq_true] at hz
    exact wN pins s σ H _ _ v u Q I rx ry ⟨a,j,xs,rfl,rfl,hx,of_decide_eq_true hz.1.1,of_decide_eq_true hz.1.2,by rw [<- p1.length]; exact cK hz.2,fun p hp=>Out.alloc ho hS hp (Paired.rep p1 _)⟩
  | _=>exact ho.elim
 | _=>exact ho.elim
theorem BX:OpR X (binaryOp .FloorDiv) (aU Γ xw (opD .fdiv)):=by
 intro pins s σ H x y v u Q I rx ry h
 obtain ⟨ι,S,dx,dy,hS,r1,r2,ho⟩:=h
 cases dx with
 | int i =>
  cases dy with
  | int j =>
   cases r1; cases r2
   obtain ⟨hz,ho⟩:=Out.guard ho
   rw [Bool.and_eq_true] at hz
   exact Cp pins s σ H _ _ v u Q I rx ry ⟨i,j,rfl,rfl,⟨of_decide_eq_true hz.1,of_decide_eq_true hz.2⟩,Out.val ho hS (.int _)⟩
  | _=>exact ho.elim
 | _=>exact ho.elim
theorem vX:OpR X (binaryOp .Mod) (aU Γ xw (opD .mod)):=by
 intro pins s σ H x y v u Q I rx ry h
 obtain ⟨ι,S,dx,dy,hS,r1,r2,ho⟩:=h
 cases dx with
 | int i =>
  cases dy with
  | int j =>
   cases r1; cases r2
   obtain ⟨hz,ho⟩:=Out.guard ho
   exact r8 pins s σ H _ _ v u Q I rx ry ⟨i,j,rfl,rfl,of_decide_eq_true hz,Out.val ho hS (.int _)⟩
  | _=>exact ho.elim
 | _=>exact ho.elim
theorem t_:OpR X (binaryOp .Pow) (aU Γ xw (opD .pow)):=by
 intro pins s σ H x y v u Q I rx ry h
 obtain ⟨ι,S,dx,dy,hS,r1,r2,ho⟩:=h
 cases dx with
 | int i =>
  cases dy with
  | int j =>
   cases r1; cases r2
   obtain ⟨hz,ho⟩:=Out.guard ho
   rw [Bool.and_eq_true,Bool.and_eq_true] at hz
   have h2:j<=1000:=of_decide_eq_true hz.1.2
   exact BC pins s σ H _ _ v u Q I rx ry ⟨i,j,rfl,rfl,⟨of_decide_eq_true hz.1.1,by omega,of_decide_eq_true hz.2⟩,Out.val ho hS (.int _)⟩
  | _=>exact ho.elim
 | _=>exact ho.elim
theorem iC {op:CmpOp} {p:Int->Int->Bool} (h0:OpR X (compareOp op) (rI0 fun i j=>.bl (p i j))):OpR X (compareOp op) (aU Γ xw (fu p)):=by
 intro pins s σ H x y v u Q I rx ry h
 obtain ⟨ι,S,dx,dy,hS,r1,r2,ho⟩:=h
 cases dx with
 | int i =>
  cases dy with
  | int j=>cases r1; cases r2; exact h0 pins s σ H _ _ v u Q I rx ry ⟨i,j,rfl,rfl,Out.val ho hS (.bl _)⟩
  | _=>exact ho.elim
 | _=>exact ho.elim
theorem yw:OpR X (compareOp .Lt) (aU Γ xw (cmD .lt)):=iC sP
theorem Aa:OpR X (compareOp .LtE) (aU Γ xw (cmD .le)):=iC wF
theorem zF:OpR X (compareOp .Gt) (aU Γ xw (cmD .gt)):=iC uT
theorem tR:OpR X (compareOp .GtE) (aU Γ xw (cmD .ge)):=iC xo
theorem nW {dx dy:D} {f:Bool->M D} {k:D->af->List Addr->Hp->Prop} (ho:Out Γ xw ι H ((eqM dx dy>>=f) S) k):∃ b,eqD deep S dx dy=some b/\Out Γ xw ι H (f b S) k:=by
 rw [bQ] at ho
 unfold eqM at ho
 cases q:eqD deep S dx dy with
 | none=>rw [q] at ho; exact ho.elim
 | some b=>rw [q] at ho; exact ⟨b,rfl,ho⟩
theorem s_eq (hK:Γ.K=X.K) (hu:X.A.units+64 < cLine):OpR X (compareOp .Eq) (aU Γ xw (cmD .eq)):=by
 intro pins s σ H x y v u Q I rx ry h
 obtain ⟨ι,S,dx,dy,hS,r1,r2,ho⟩:=h
 obtain ⟨k,q,ho⟩:=nW ho
 have:=(j9 hK I hS deep X.A dx dy k x y v u q r1 r2 rx ry (by unfold deep; omega)).1
 exact this X.prog X.w X.xe _ ⟨.bl k,H,I,rfl,Out.val ho hS (.bl _)⟩
end
end EV

namespace EV
open PySem PySem.Spec PyProof.Rows L2
open PySem.SeqAt (EqAt RcAt)
section
variable {X:Cx} {Γ:Gx} {xw:XW} {pins:List (Addr × Obj)} {σ:L2.St} {H:Hp} {s:Shared} {ι:List Addr} {S:af}
theorem pL (hK:Γ.K=X.K) (I:Inv X pins σ H s) (hS:aq Γ ι H S) {n:Nat} {A:Around} (hu:A.units+n < cLine) {ds es:List D} {xs ys:List V} {its1 its2:List Value} {e:Nat->Bool} (rp1:au Γ ι H ds xs) (rp2:au Γ ι H es ys)
  (rv1:Vals xs its1) (rv2:Vals ys its2) (he:∀ (j:Nat) x y,ds[j]?=some x->es[j]?=some y->eqD n S x y=some (e j)) (j:Nat) (h1:j < its1.toArray.size) (h2:j < its2.toArray.size):EqAt A s its1.toArray[j] its2.toArray[j] (e j):=by
 rw [List.size_toArray] at h1 h2
 have l1:=rp1.length
 have l2:=rp2.length
 have l3:=rv1.length
 have l4:=rv2.length
 have j1:j < ds.length:=by omega
 have j2:j < es.length:=by omega
 obtain ⟨y1,a1,a2⟩:=Paired.get rp1 (List.getElem?_eq_getElem j1)
 obtain ⟨y2,a3,a4⟩:=Paired.get rp2 (List.getElem?_eq_getElem j2)
 obtain ⟨w1,z1,z2⟩:=rv1.get a1
 obtain ⟨w2,z3,z4⟩:=rv2.get a3
 have:=(j9 hK I hS n A ds[j] es[j] (e j) y1 y2 w1 w2 (he j _ _ (List.getElem?_eq_getElem j1) (List.getElem?_eq_getElem j2)) a2 a4 z2 z4 hu).2
 have q1:its1.toArray[j]'(by rw [List.size_toArray]; exact h1)=w1:=by
  have:its1[j]?=some its1[j]:=List.getElem?_eq_getElem h1
  rw [z1] at this; cases this; rfl
 have q2:its2.toArray[j]'(by rw [List.size_toArray]; exact h2)=w2:=by
  have:its2[j]?=some its2[j]:=List.getElem?_eq_getElem h2
  rw [z3] at this; cases this; rfl
 rw [q1,q2]; exact this
theorem Ah (n:Nat) (S:af) (xs ys:List D):eqD (n+1) S (.tup xs) (.tup ys)=(bA (eqD n S) xs ys).map fun r=>r&&(xs.length==ys.length):=rfl
theorem Bo (n:Nat) (S:af) (a b:D) (h1:a.kd=.list) (h2:b.kd=.list):eqD (n+1) S a b=match asL S a,asL S b with
  | some xs,some ys=>if xs.length=ys.length then bA (eqD n S) xs ys else some false
  | _,_=>none:=by simp only [eqD,h1,h2] <;> rfl
theorem Cz {a b:D} (h:c6 a b=true):(a.kd=.flat/\b.kd=.flat)\/(a.kd=.tup/\b.kd=.tup)\/(a.kd=.list/\b.kd=.list)\/∃ xs y,a=.tup xs/\b=.str y:=by
 cases a <;> cases b <;> first|exact .inl ⟨rfl,rfl⟩|exact .inr (.inl ⟨rfl,rfl⟩)|exact .inr (.inr (.inl ⟨rfl,rfl⟩))|exact .inr (.inr (.inr ⟨_,_,rfl,rfl⟩))|cases h
theorem Ca {S:af} {a b:D} (e1:a.kd=.flat) (e2:b.kd=.flat):eqD deep S a b=aZ a b:=by
 show eqD (11+1) S a b=_
 simp only [eqD,e1,e2]
theorem zu {S:af} {a b:D} {x y:V} {k:Bool} (hn:c6 a b=true) (q:eqD deep S a b=some k) (r1:Rep Γ ι H a x) (r2:Rep Γ ι H b y) (e1:a.kd=.flat) (e2:b.kd=.flat):oq x y=true/\(decide (x=y))=k:=by
 rw [Ca e1 e2] at q
 clear S
 cases r1 <;> first|(cases e1; done)|skip
 all_goals (cases r2 <;> first|(cases e2; done)|(cases hn; done)|skip)
 all_goals (refine ⟨rfl,?_⟩; simp [aZ] at q; subst q; first|rfl|(rw [show (decide _:Bool)=_ from i9]; done)|(rw [show (decide _:Bool)=_ from i9])|rw [oS]|rw [oZ]|simp)
theorem rq (hK:Γ.K=X.K) (hu:X.A.units+64 < cLine):OpR X (compareOp .NotEq) (aU Γ xw (cmD .ne)):=by
 intro pins s σ H x y v u Q I rx ry h
 obtain ⟨ι,S,dx,dy,hS,r1,r2,ho⟩:=h
 obtain ⟨hn,ho⟩:=Out.guard ho
 obtain ⟨k,q,ho⟩:=nW ho
 have fin:Q (.bl (!k)) H:=Out.val ho hS (.bl _)
 have hu0:X.A.units < cLine:=by omega
 have hd:deep=11+1:=rfl
 rcases Cz hn with ⟨e1,e2⟩|⟨e1,e2⟩|⟨e1,e2⟩|⟨xs0,y0,rfl,rfl⟩
 ·obtain ⟨z1,z2⟩:=zu hn q r1 r2 e1 e2
  exact zG pins s σ H _ _ v u Q I rx ry ⟨z1,by rw [z2]; exact fin⟩
 ·-- tuples
  cases dx <;> first|(cases e1; done)|skip
  cases dy <;> first|(cases e2; done)|skip
  obtain ⟨a,xs,rfl,t1,p1⟩:=r1.bH
  obtain ⟨b,ys,rfl,t2,p2⟩:=r2.bH
  cases rx
  cases ry
  rw [hK] at t1 t2
  obtain ⟨its1,rv1,pt1,_⟩:=I.tuple t1
  obtain ⟨its2,rv2,pt2,_⟩:=I.tuple t2
  rw [hd,Ah,Option.map_eq_some_iff] at q
  obtain ⟨r,hr,hk⟩:=q
  obtain ⟨e,he,hk2⟩:=fJ hr
  refine NEQ.qG (same:=e) pt1 pt2 hu0 (pL hK I hS (by show X.A.units+1+11 < _; omega) p1 p2 rv1 rv2 he) ?_
  rw [List.size_toArray,List.size_toArray,<- rv1.length,<- rv2.length,<- p1.length,<- p2.length,<- hk2,hk]
  exact ⟨.bl (!k),H,I,rfl,fin⟩
 ·-- lists
  rw [hd,Bo _ _ _ _ e1 e2] at q
  split at q
  ·rename_i ds es h1 h2
   obtain ⟨a,xs,rfl,s1,p1⟩:=hS.list r1 h1
   obtain ⟨b,ys,rfl,s2,p2⟩:=hS.list r2 h2
   cases rx
   cases ry
   rw [hK] at s1 s2
   obtain ⟨its1,rv1,pl1,_⟩:=I.list s1
   obtain ⟨its2,rv2,pl2,_⟩:=I.list s2
   have z1:its1.toArray.size=ds.length:=by rw [List.size_toArray,<- rv1.length,<- p1.length]
   have z2:its2.toArray.size=es.length:=by rw [List.size_toArray,<- rv2.length,<- p2.length]
   by_cases hlen:ds.length=es.length
   ·rw [if_pos hlen] at q
    obtain ⟨e,he,hk2⟩:=fJ q
    refine NEQ.v7 (same:=e) pl1.isList pl2.isList (by omega) hu0 (pL hK I hS (by show X.A.units+1+11 < _; omega) p1 p2 rv1 rv2 he) ?_
    rw [z1,show (List.range ds.length).all e=k by rw [hk2,<- hlen,Nat.min_self]]
    exact ⟨.bl (!k),H,I,rfl,fin⟩
   ·rw [if_neg hlen] at q
    cases q
    exact NEQ.B6 pl1.isList pl2.isList (by rw [z1,z2]; simpa using hlen) hu0 ⟨.bl true,H,I,rfl,fin⟩
  ·cases q
 ·-- a tuple and a text
  cases (show some false=some k from q)
  obtain ⟨a,xs,rfl,t1,p1⟩:=r1.bH
  cases r2
  cases rx
  obtain ⟨tk,rfl⟩:=(show ∃ tk,u=Value.str y0 tk from ry)
  rw [hK] at t1
  obtain ⟨its1,rv1,pt1,_⟩:=I.tuple t1
  exact PySem.SeqAt.RcNeAt.tuple_str y0 tk pt1 hu0 _ _ _ _ ⟨.bl true,H,I,rfl,fin⟩
theorem Rep.inj (hK:Γ.K=X.K) (I:Inv X pins σ H s) (hS:aq Γ ι H S) {d:D} {v:V} (r:Rep Γ ι H d v):∀ {d':D},Rep Γ ι H d' v->d=d':=by
 obtain ⟨K⟩:=Γ
 have hK':K=X.K:=hK
 subst hK'
 have tl:∀ {a:Addr} {xs ys:List V},SqT X.K H a xs->SqL X.K H a ys->False:=fun {a xs ys} ht hl=>by
  obtain ⟨its,_,pl,_⟩:=I.list hl
  obtain ⟨its2,_,pt,_⟩:=I.tuple ht
  exact absurd rfl (SeqAt.ne_of_list_tuple pl.isList pt)
 have td:∀ {a:Addr} {xs:List V} {kvs:List (List Key × V)},SqT X.K H a xs->H a=some (.dT kvs)->False:=fun {a xs kvs} ht hd=>by
  obtain ⟨its2,_,⟨o,e1,_,n,e2⟩,_⟩:=I.tuple ht
  obtain ⟨_,_,_,_,o',es,ep,h1,_,h2,_⟩:=(show a_ X.prog X.w H s.heap a (.dT kvs) from I.hok a _ hd)
  rw [e1] at h1; cases h1
  rw [e2] at h2; cases h2
 have tll:∀ {l:Nat} {a:Addr} {xs:List V},SqT X.K H a xs->((∃ ys,H a=some (.lst ys))\/∃ ys,H a=some (.dT ys))->False:=fun {l a xs} ht h=>by
  rcases h with ⟨ys,hy⟩|⟨ys,hy⟩
  ·exact tl ht (.of hy)
  ·exact td ht hy
 have ll:∀ {l:Nat} {a:Addr},ι[l]?=some a->(∃ xs,H a=some (.lst xs))\/∃ xs,H a=some (.dT xs):=fun {l a} q=>by
  have hl:l < S.length:=by rw [<- hS.len]; exact (List.getElem?_eq_some_iff.mp q).1
  obtain ⟨b,hb,c⟩:=hS.cell l S[l] (List.getElem?_eq_getElem hl)
  rw [q] at hb; cases hb
  cases e:S[l] with
  | lst ds=>rw [e] at c; obtain ⟨xs,hx,_⟩:=c; exact .inl ⟨xs,hx⟩
  | dct kvs=>rw [e] at c; obtain ⟨xs,hx,_⟩:=c; exact .inr ⟨xs,hx⟩
 have fl:∀ {l:Nat} {a:Addr} {xs:List V},Fro X.K H a xs->ι[l]?=some a->False:=fun {l a xs} hf q=>by
  obtain ⟨ob,hy,hno⟩:∃ ob,H a=some ob/\∀ o u,ob≠.frz o u:=by
   rcases ll q with ⟨ys,hy⟩|⟨ys,hy⟩
   ·exact ⟨_,hy,fun _ _ z=>by cases z⟩
   ·exact ⟨_,hy,fun _ _ z=>by cases z⟩
  rcases hf with ⟨o,hf⟩|hf
  ·rw [hy] at hf; exact hno _ _ (Option.some.inj hf)
  ·rcases hf (fun _=>none) with (z|⟨_,z⟩)|z
   ·cases z
   ·cases z
   ·obtain ⟨o,_,_,hk,_⟩:=z
    have hb:X.base.get? a=some o:=I.ok.mod.kin a o hk
    have:=(I.bs a o hb).2
    rw [hy] at this; cases this
 induction r with
 | non=>intro d' r'; cases r'; rfl
 | bl b=>intro d' r'; cases r'; rfl
 | int i=>intro d' r'; cases r'; rfl
 | str x=>intro d' r'; cases r'; rfl
 | @tup ds a xs t1 l1 p1 ih =>
  intro d' r'
  cases r' with
  | @tup es _ ys t2 l2 p2 =>
   have e:xs=ys:=I.gO t1 t2
   subst e
   congr 1
   refine List.ext_getElem? fun j=>?_
   by_cases hj:j < ds.length
   ·have h1:=List.getElem?_eq_getElem hj
    have h2:es[j]?=some es[j]:=List.getElem?_eq_getElem (by omega)
    have h3:xs[j]?=some xs[j]:=List.getElem?_eq_getElem (by omega)
    rw [h1,h2,ih j _ _ h1 h3 (p2 j _ _ h2 h3)]
   ·rw [List.getElem?_eq_none (by omega),List.getElem?_eq_none (by omega)]
  | fro f2 _ _=>exact (tl t1 f2.sq).elim
  | loc q=>exact (tll (l:=0) t1 (ll q)).elim
 | @fro ds a xs f1 l1 p1 ih =>
  intro d' r'
  cases r' with
  | tup t2 _ _=>exact (tl t2 f1.sq).elim
  | @fro es _ ys f2 l2 p2 =>
   have e:xs=ys:=I.iJ f1.sq f2.sq
   subst e
   congr 1
   refine List.ext_getElem? fun j=>?_
   by_cases hj:j < ds.length
   ·have h1:=List.getElem?_eq_getElem hj
    have h2:es[j]?=some es[j]:=List.getElem?_eq_getElem (by omega)
    have h3:xs[j]?=some xs[j]:=List.getElem?_eq_getElem (by omega)
    rw [h1,h2,ih j _ _ h1 h3 (p2 j _ _ h2 h3)]
   ·rw [List.getElem?_eq_none (by omega),List.getElem?_eq_none (by omega)]
  | loc q=>exact (fl f1 q).elim
 | @loc l a q =>
  intro d' r'
  cases r' with
  | tup t2 _ _=>exact (tll (l:=0) t2 (ll q)).elim
  | fro f2 _ _=>exact (fl f2 q).elim
  | loc q'=>rw [fW hS.nd q q']
theorem lI {x:D}:∀ {ys:List D} {k:Bool},inL S x ys=some k->(∀ y∈ys,eqD deep S y x=some ((eqD deep S y x).getD false))/\k=ys.any fun y=>(eqD deep S y x).getD false
 | [],k,h=>⟨fun y hy=>absurd hy (by simp),by cases h; rfl⟩
 | y::ys,k,h=>by
  simp only [inL] at h
  split at h
  ·rename_i a b e1 e2
   cases h
   obtain ⟨he,hk⟩:=lI e2
   refine ⟨fun z hz=>?_,?_⟩
   ·rcases List.mem_cons.mp hz with rfl|hz
    ·simp [e1]
    ·exact he z hz
   ·rw [List.any_cons,<- hk]; simp [e1]
  ·cases h
theorem gY (hK:Γ.K=X.K) (I:Inv X pins σ H s) (hS:aq Γ ι H S) {A:Around} (hu:A.units+deep < cLine) {dx:D} {x:V} {v:Value} (r1:Rep Γ ι H dx x) (rx:RelV x v) {ds:List D} {xs:List V} {its:List Value} {k:Bool} (h:inL S dx ds=some k)
  (p:au Γ ι H ds xs) (rv:Vals xs its):∃ e:Value->Bool,(∀ y,y∈its.toArray->EqAt A s y v (e y))/\its.toArray.any e=k:=by
 classical
 obtain ⟨h1,h2⟩:=lI h
 have key:∀ (d:D) (w:V) (u:Value),d∈ds->Rep Γ ι H d w->RelV w u->∀ (d':D) (w':V),Rep Γ ι H d' w'->RelV w' u->d'=d:=fun d w u _ r q d' w' r' q'=>by
  have e:w'=w:=q'.inj q
  subst e
  exact (Rep.inj hK I hS r' r)
 refine ⟨fun u=>decide (∃ d w,d∈ds/\Rep Γ ι H d w/\RelV w u/\(eqD deep S d dx).getD false=true),fun u hu'=>?_,?_⟩
 ·have hm:u∈its:=by simpa using hu'
  obtain ⟨j,hj⟩:=List.getElem?_of_mem hm
  obtain ⟨w,hw,q⟩:=Paired.get' rv hj
  obtain ⟨d,hd,r⟩:=Paired.get' p hw
  have hd':=List.mem_of_getElem? hd
  have e:=(j9 hK I hS deep A d dx _ w x u v (h1 d hd') r r1 q rx hu).2
  have:decide (∃ d w,d∈ds/\Rep Γ ι H d w/\RelV w u/\(eqD deep S d dx).getD false=true)=(eqD deep S d dx).getD false:=by
   cases z:(eqD deep S d dx).getD false with
   | true=>exact decide_eq_true ⟨d,w,hd',r,q,z⟩
   | false =>
    refine decide_eq_false ?_
    rintro ⟨d',w',_,r',q',z'⟩
    rw [key d w u hd' r q d' w' r' q',z] at z'
    cases z'
  show EqAt A s u v (decide (∃ d w,d∈ds/\Rep Γ ι H d w/\RelV w u/\(eqD deep S d dx).getD false=true))
  rw [this]; exact e
 ·rw [h2]
  rw [Bool.eq_iff_iff]
  simp only [Array.any_eq_true',List.any_eq_true,decide_eq_true_eq]
  constructor
  ·rintro ⟨u,hu',d,w,hd,r,q,z⟩
   exact ⟨d,hd,z⟩
  ·rintro ⟨d,hd,z⟩
   obtain ⟨j,hj⟩:=List.getElem?_of_mem hd
   obtain ⟨w,hw,r⟩:=Paired.get p hj
   obtain ⟨u,hu',q⟩:=rv.get hw
   exact ⟨u,by simpa using List.mem_of_getElem? hu',d,w,hd,r,q,z⟩
theorem gX (d:D) (S:af):(∃ ds,items d S=.ok ds S)\/items d S=.bad:=by
 cases d with
 | tup ds=>exact .inl ⟨ds,rfl⟩
 | fro ds=>exact .inl ⟨ds,rfl⟩
 | loc l =>
  rw [qw]
  cases listAt S l with
  | none=>exact .inr rfl
  | some ds=>exact .inl ⟨ds,rfl⟩
 | _=>exact .inr rfl
theorem Out.items {α:Type} {d:D} {f:List D->M α} {k:α->af->List Addr->Hp->Prop} (ho:Out Γ xw ι H ((EV.items d>>=f) S) k):∃ ds,EV.items d S=.ok ds S/\Out Γ xw ι H (f ds S) k:=by
 rcases gX d S with ⟨ds,e⟩|e
 ·rw [ao e] at ho; exact ⟨ds,e,ho⟩
 ·rw [aT e] at ho; exact ho.elim
theorem Out.tD {α:Type} {o:Option α} {k:α->af->List Addr->Hp->Prop} (ho:Out Γ xw ι H (EV.opt o S) k):∃ a,o=some a/\Out Γ xw ι H (.ok a S) k:=by
 cases o with
 | none=>exact ho.elim
 | some a=>exact ⟨a,rfl,ho⟩
theorem l7 {neg:Bool} {a b:D} {k:D->af->List Addr->Hp->Prop} (ho:Out Γ xw ι H (inM neg a b S) k):∃ ds c,items b S=.ok ds S/\inL S a ds=some c/\Out Γ xw ι H (.ok (.bl (c != neg)) S) k:=by
 obtain ⟨ds,e,ho⟩:=Out.items ho
 unfold inA at ho
 cases q:inL S a ds with
 | none=>rw [q] at ho; exact ho.elim
 | some c=>rw [q] at ho; exact ⟨ds,c,e,q,ho⟩
theorem ck (hS:aq Γ ι H S) {d:D} {v:V} {ds:List D} {S':af} (r:Rep Γ ι H d v) (h:items d S=.ok ds S'):S'=S/\∃ a xs,v=.ref a/\(SqL Γ.K H a xs\/SqT Γ.K H a xs)/\au Γ ι H ds xs/\(∀ l,d=.loc l->SqL Γ.K H a xs):=by
 cases d with
 | tup es=>cases h; obtain ⟨a,xs,e,t,p⟩:=r.bH; exact ⟨rfl,a,xs,e,.inr t,p,fun l e=>by cases e⟩
 | fro es=>cases h; obtain ⟨a,xs,e,f,p⟩:=r.fm; exact ⟨rfl,a,xs,e,.inl f.sq,p,fun l e=>by cases e⟩
 | loc l =>
  have h':(match listAt S l with|some ds=>Res.ok ds S|none=>.bad)=.ok ds S':=h
  cases q:listAt S l with
  | none=>rw [q] at h'; cases h'
  | some es =>
   rw [q] at h'
   cases h'
   obtain ⟨a,xs,e,t,p⟩:=hS.list r (show asL S (.loc l)=some ds from q)
   exact ⟨rfl,a,xs,e,.inl t,p,fun _ _=>t⟩
 | _=>cases h
theorem uO (hK:Γ.K=X.K) (hu:X.A.units+64 < cLine):OpR X (compareOp .In) (aU Γ xw (inM false)):=by
 intro pins s σ H x y v u Q I rx ry h
 obtain ⟨ι,S,dx,dy,hS,r1,r2,ho⟩:=h
 obtain ⟨ds,c,h1,h2,ho⟩:=l7 ho
 have fin:Q (.bl c) H:=by have:=Out.val ho hS (.bl _); simpa using this
 obtain ⟨_,a,xs,rfl,sq,p,_⟩:=ck hS r2 h1
 cases ry
 rw [hK] at sq
 rcases sq with sq|sq
 ·obtain ⟨its,rv,pl,_⟩:=I.list sq
  obtain ⟨e,he,hk⟩:=gY hK I hS (A:=X.A.in1) (by show X.A.units+1+12 < cLine; omega) r1 rx h2 p rv
  exact SeqAt.in_listAt e pl.isList he (by rw [hk]; exact ⟨.bl c,H,I,rfl,fin⟩)
 ·obtain ⟨its,rv,pl,_⟩:=I.tuple sq
  obtain ⟨e,he,hk⟩:=gY hK I hS (A:=X.A.in1) (by show X.A.units+1+12 < cLine; omega) r1 rx h2 p rv
  exact SeqAt.in_tupleAt e pl he (by rw [hk]; exact ⟨.bl c,H,I,rfl,fin⟩)
theorem uf (hK:Γ.K=X.K) (hu:X.A.units+64 < cLine):OpR X (compareOp .NotIn) (aU Γ xw (inM true)):=by
 intro pins s σ H x y v u Q I rx ry h
 obtain ⟨ι,S,dx,dy,hS,r1,r2,ho⟩:=h
 obtain ⟨ds,c,h1,h2,ho⟩:=l7 ho
 have fin:Q (.bl (!c)) H:=by have:=Out.val ho hS (.bl _); simpa using this
 obtain ⟨_,a,xs,rfl,sq,p,_⟩:=ck hS r2 h1
 cases ry
 rw [hK] at sq
 rcases sq with sq|sq
 ·obtain ⟨its,rv,pl,_⟩:=I.list sq
  obtain ⟨e,he,hk⟩:=gY hK I hS (A:=X.A.in1) (by show X.A.units+1+12 < cLine; omega) r1 rx h2 p rv
  exact SeqAt.notIn_listAt e pl.isList he (by rw [hk]; exact ⟨.bl (!c),H,I,rfl,fin⟩)
 ·obtain ⟨its,rv,pl,_⟩:=I.tuple sq
  obtain ⟨e,he,hk⟩:=gY hK I hS (A:=X.A.in1) (by show X.A.units+1+12 < cLine; omega) r1 rx h2 p rv
  exact SeqAt.notIn_tupleAt e pl he (by rw [hk]; exact ⟨.bl (!c),H,I,rfl,fin⟩)
theorem AY (hK:Γ.K=X.K):qm X (fun x H Q=>∃ ι S d,aq Γ ι H S/\Rep Γ ι H d x/\Out Γ xw ι H (truth d S) fun b _ _ H'=>Q b H'):=by
 intro pins s σ H x v Q I rx h
 obtain ⟨ι,S,d,hS,r,ho⟩:=h
 refine z0 pins s σ H x v Q I rx ?_
 cases d with
 | bl b=>cases r; exact ⟨b,rfl,ho.here hS⟩
 | non=>cases r; exact ⟨false,rfl,ho.here hS⟩
 | int i=>cases r; exact ⟨_,rfl,ho.here hS⟩
 | tup ds =>
  obtain ⟨a,xs,rfl,t,p⟩:=r.bH
  rw [hK] at t
  refine ⟨!ds.isEmpty,.inr (.inl ⟨xs,t,?_⟩),ho.here hS⟩
  cases p <;> rfl
 | fro ds =>
  obtain ⟨a,xs,rfl,t,p⟩:=r.fm
  have t:=t.sq
  rw [hK] at t
  refine ⟨!ds.isEmpty,.inl ⟨xs,t,?_⟩,ho.here hS⟩
  cases p <;> rfl
 | loc l =>
  obtain ⟨ds,q,ho'⟩:=Out.items ho
  obtain ⟨_,a,xs,rfl,_,p,t⟩:=ck hS r q
  ·have t:=t l rfl
   rw [hK] at t
   refine ⟨!ds.isEmpty,.inl ⟨xs,t,?_⟩,ho'.here hS⟩
   cases p <;> rfl
 | _=>exact ho.elim
theorem uF {ds:List D} {xs:List V} {i:Int} {d:D} (p:au Γ ι H ds xs) (h:EV.atI ds i=some d):∃ v,L2.atI xs i=some v/\Rep Γ ι H d v:=by
 unfold EV.atI at h
 cases e:EV.ixN ds.length i with
 | none=>rw [e] at h; cases h
 | some j =>
  rw [e] at h
  obtain ⟨v,hv,r⟩:=Paired.get p h
  refine ⟨v,?_,r⟩
  have e':L2.ixN xs.length i=some j:=by rw [<- p.length]; exact e
  unfold L2.atI
  rw [e']
  exact hv
theorem sR (hK:Γ.K=X.K):IxR X (aU Γ xw ixD):=by
 intro value slice pins s σ H x y v u Q I rx ry h hsub
 obtain ⟨ι,S,dx,dy,hS,r1,r2,ho⟩:=h
 cases dy with
 | int j =>
  cases r2
  obtain ⟨ds,q,ho'⟩:=Out.items ho
  obtain ⟨d,q2,ho'⟩:=Out.tD ho'
  obtain ⟨_,a,xs,rfl,sq,p,_⟩:=ck hS r1 q
  ·rw [hK] at sq
   ·obtain ⟨w,hw,rw'⟩:=uF p q2
    have fin:=Out.val ho' hS rw'
    rcases sq with sq|sq
    ·exact zc value slice pins s σ H _ _ v u Q I rx ry ⟨a,xs,j,w,rfl,rfl,sq,hw,fin⟩ hsub
    ·exact sG value slice pins s σ H _ _ v u Q I rx ry ⟨a,xs,j,w,rfl,rfl,sq,hw,fin⟩ hsub
 | _=>exact ho.elim
theorem ua:SlR X (fun x lo hi H Q=>∃ a xs,x=.ref a/\SqT X.K H a xs/\(HT.sIx xs.length 0 lo=0/\HT.sIx xs.length xs.length hi=xs.length)/\Q (.ref a) H):=by
 intro pins s σ H x v vl vu lo hi sl Q I rx hs pl pu h
 obtain ⟨a,xs,rfl,hx,hw,q⟩:=h
 cases rx
 obtain ⟨its,r,ht,hz⟩:=I.tuple hx
 have hlen:its.toArray.size=xs.length:=by rw [List.size_toArray]; exact r.length.symm
 exact ⟨"tuple",_,PyProof.Rows.slot_tuple_getitem.lookup,ht.typeIs,HT.Be ht hs pl pu (by rw [hlen]; exact hw) ⟨.ref a,H,I,rfl,q⟩⟩
theorem iZ {ds:List D} {xs:List V} (p:au Γ ι H ds xs) (lo hi:Option Int):au Γ ι H (cut ds lo hi) (cX xs lo hi):=by
 have e:∀ n d o,EV.sIx n d o=HT.sIx n d o:=fun n d o=>by cases o <;> rfl
 unfold cut cX
 rw [e,e,p.length]
 exact Paired.tak _ (Paired.drp _ p)
theorem zx (hK:Γ.K=X.K):SlR X (fun x lo hi H Q=>∃ ι S d,aq Γ ι H S/\Rep Γ ι H d x/\Out Γ xw ι H (slD d lo hi S) fun d _ ι' H'=>∀ v,Rep Γ ι' H' d v->Q v H'):=by
 intro pins s σ H x v vl vu lo hi sl Q I rx hs pl pu h
 obtain ⟨ι,S,d,hS,r,ho⟩:=h
 cases d with
 | tup ds =>
  obtain ⟨a,xs,rfl,t,p⟩:=r.bH
  rw [hK] at t
  have pc:=iZ p lo hi
  by_cases hw:HT.sIx xs.length 0 lo=0/\HT.sIx xs.length xs.length hi=xs.length
  ·have e:cX xs lo hi=xs:=by unfold cX; rw [hw.1,hw.2]; simp
   rw [e] at pc
   refine ua pins s σ H _ v vl vu lo hi sl Q I rx hs pl pu ⟨a,xs,rfl,t,hw,Out.val ho hS (.gz (by rw [hK]; exact t) pc)⟩
  ·exact s_ pins s σ H _ v vl vu lo hi sl Q I rx hs pl pu ⟨a,xs,rfl,t,hw,fun q hq=>Out.tup ho hS hq pc⟩
 | fro ds =>
  obtain ⟨a,xs,rfl,t,p⟩:=r.fm
  have t:=t.sq
  rw [hK] at t
  exact oi pins s σ H _ v vl vu lo hi sl Q I rx hs pl pu ⟨a,xs,rfl,t,fun q hq=>Out.alloc ho hS hq (iZ p lo hi)⟩
 | loc l =>
  obtain ⟨ds,q,ho'⟩:=Out.items ho
  obtain ⟨_,a,xs,rfl,_,p,t⟩:=ck hS r q
  ·have t:=t l rfl
   rw [hK] at t
   exact oi pins s σ H _ v vl vu lo hi sl Q I rx hs pl pu ⟨a,xs,rfl,t,fun q hq=>Out.alloc ho' hS hq (iZ p lo hi)⟩
 | _=>exact ho.elim
end
end EV

namespace EV
open PySem PySem.Spec PyProof.Rows L2
theorem ints_map:∀ {ds:List D} {is:List Int},allInts ds=some is->ds=is.map D.int
 | [],is,h=>by cases h; rfl
 | d::r,is,h=>by
  cases d with
  | int i =>
   simp only [allInts,Option.map_eq_some_iff] at h
   obtain ⟨js,e,rfl⟩:=h
   rw [ints_map e]; rfl
  | _=>cases h
theorem ou:∀ {ds:List D} {is:List Bool},cT ds=some is->ds=is.map D.bl
 | [],is,h=>by cases h; rfl
 | d::r,is,h=>by
  cases d with
  | bl i =>
   simp only [cT,Option.map_eq_some_iff] at h
   obtain ⟨js,e,rfl⟩:=h
   rw [ou e]; rfl
  | _=>cases h
theorem d8 {Γ:Gx} {ι:List Addr} {H:Hp}:∀ {is:List Int} {xs:List V},au Γ ι H (is.map D.int) xs->xs=is.map V.int
 | [],_,.nil=>rfl
 | i::r,_,.cons (b:=y) h t=>by
  cases h
  rw [d8 t]; rfl
theorem pU {Γ:Gx} {ι:List Addr} {H:Hp}:∀ {is:List Bool} {xs:List V},au Γ ι H (is.map D.bl) xs->xs=is.map V.bl
 | [],_,.nil=>rfl
 | i::r,_,.cons (b:=y) h t=>by
  cases h
  rw [pU t]; rfl
theorem jl {Γ:Gx} {ι:List Addr} {H:Hp}:∀ (is:List Int),au Γ ι H (is.map D.int) (is.map V.int)
 | []=>.nil
 | i::r=>.cons (.int i) (jl r)
theorem lM (is:List Int):∀ k,preSum (fun i=>is.getD i 0) k=(is.take k).sum
 | 0=>by simp [preSum]
 | k+1=>by
  rw [preSum,lM is k,List.take_add_one,List.sum_append]
  congr 1
  rw [List.getD_eq_getElem?_getD]
  cases is[k]? <;> simp
theorem range_all (bs:List Bool):(List.range bs.length).all (fun i=>bs.getD i false)=bs.all id:=by
 rw [Bool.eq_iff_iff,List.all_eq_true,List.all_eq_true]
 constructor
 ·intro h b hb
  obtain ⟨i,e⟩:=List.getElem?_of_mem hb
  have:=h i (by rw [List.mem_range]; exact (List.getElem?_eq_some_iff.mp e).1)
  rw [List.getD_eq_getElem?_getD,e] at this
  exact this
 ·intro h i hi
  rw [List.mem_range] at hi
  rw [List.getD_eq_getElem?_getD,List.getElem?_eq_getElem hi]
  exact h _ (List.getElem_mem hi)
theorem nj:∀ (r:List Int) (i:Int),r.foldl min i<=i/\∀ a∈r,r.foldl min i<=a
 | [],i=>⟨Int.le_refl _,fun a h=>absurd h (by simp)⟩
 | b::r,i=>by
  obtain ⟨h1,h2⟩:=nj r (min i b)
  simp only [List.foldl_cons]
  refine ⟨by omega,fun a ha=>?_⟩
  rcases List.mem_cons.mp ha with rfl|ha
  ·omega
  ·exact h2 a ha
theorem qF:∀ (r:List Int) (i:Int),r.foldl min i=i\/r.foldl min i∈r
 | [],i=>.inl rfl
 | b::r,i=>by
  simp only [List.foldl_cons]
  rcases qF r (min i b) with h|h
  ·rw [h]
   by_cases hb:i<=b
   ·exact .inl (by omega)
   ·exact .inr (by rw [show min i b=b by omega]; exact List.mem_cons_self)
  ·exact .inr (List.mem_cons_of_mem _ h)
theorem nQ:∀ (r:List Int) (i:Int),i<=r.foldl max i/\∀ a∈r,a<=r.foldl max i
 | [],i=>⟨Int.le_refl _,fun a h=>absurd h (by simp)⟩
 | b::r,i=>by
  obtain ⟨h1,h2⟩:=nQ r (max i b)
  simp only [List.foldl_cons]
  refine ⟨by omega,fun a ha=>?_⟩
  rcases List.mem_cons.mp ha with rfl|ha
  ·omega
  ·exact h2 a ha
theorem mH:∀ (r:List Int) (i:Int),r.foldl max i=i\/r.foldl max i∈r
 | [],i=>.inl rfl
 | b::r,i=>by
  simp only [List.foldl_cons]
  rcases mH r (max i b) with h|h
  ·rw [h]
   by_cases hb:b<=i
   ·exact .inl (by omega)
   ·exact .inr (by rw [show max i b=b by omega]; exact List.mem_cons_self)
  ·exact .inr (List.mem_cons_of_mem _ h)
section
variable {X:Cx} {Γ:Gx} {xw:XW} {pins:List (Addr × Obj)} {σ:L2.St} {H:Hp} {s:Shared} {ι:List Addr} {S:af} {sub:Sub}
theorem gx {b:Bi} {xs:List V} {Q:VK} (hb:b.isR=false) (hb2:∀ a c S,bi2 b a c S=.bad) (h:cA Γ xw (biD sub b) xs H Q) :
  ∃ ι S a x,xs=[x]/\aq Γ ι H S/\Rep Γ ι H a x/\Out Γ xw ι H (bi1 sub b a S) fun d _ ι' H'=>∀ v,Rep Γ ι' H' d v->Q v H':=by
 obtain ⟨ι,S,ds,hS,r,ho⟩:=h
 unfold biD at ho
 rw [hb] at ho
 match ds,r with
 | [],.nil=>exact ho.elim
 | [a],.cons (b:=x) ra .nil=>exact ⟨ι,S,a,x,rfl,hS,ra,ho⟩
 | [a,c],_ =>
  have ho':Out Γ xw ι H (bi2 b a c S) _:=ho
  rw [hb2] at ho'
  exact ho'.elim
 | _::_::_::_,_=>exact ho.elim
theorem ic (hK:Γ.K=X.K) (I:Inv X pins σ H s) {a:Addr} {xs:List V} (sq:SqL Γ.K H a xs\/SqT Γ.K H a xs):∃ its:List Value,Vals xs its/\∀ (A:Around) (E:Value->Shared->Prop) (Q:Value->Shared->Prop),A.handled=none ->
  (∀ (I0:Addr) (fp:List Addr) (St:Nat->Heap->Prop) (s2:Shared),Walks X.prog X.w A I0 fp [I0] its.toArray.size (fun i v=>its.toArray[i]?=some v) St->St 0 s2.heap->(∀ b∈fp,b < s2.heap.objs.size) ->
   (∀ h' tk,(∀ b o,b ∉ [I0]->s2.heap.get? b=some o->h'.get? b=some o)->Inv X pins σ H { s2 with heap:=h',toks:=tk })->Q (.ref I0) s2)->wpAny (model X.prog X.w) A (pyIter (.ref a)) Q E s:=by
 rw [hK] at sq
 rcases sq with sq|sq
 ·obtain ⟨its,rv,pl,_⟩:=I.list sq
  refine ⟨its,rv,fun A E Q hh hQ=>wpAny_pyIter_list pl.isList ?_⟩
  obtain ⟨o,ho,_⟩:=id pl.isList
  have hlt:=Heap.lt_size ho
  refine hQ s.heap.objs.size _ _ _ (Walks.list hh _ a (Nat.ne_of_lt hlt) its.toArray) ⟨⟨_,Heap.get?_push_size _ rfl,rfl,rfl⟩,pl.isList.at fun o e=>Heap.get?_push_of_some _ e⟩ (fun b hb=>?_) fun h' tk hk=>?_
  ·rw [Heap.size_push]
   rcases List.mem_cons.mp hb with rfl|hb
   ·exact Nat.lt_succ_self _
   ·have:b=a:=by simpa using hb
    subst this; exact Nat.lt_succ_of_lt hlt
  ·exact I.kept fun b u e=>hk b u (by simpa using Nat.ne_of_lt (Heap.lt_size e)) (Heap.get?_push_of_some _ e)
 ·obtain ⟨its,rv,pl,_⟩:=I.tuple sq
  refine ⟨its,rv,fun A E Q hh hQ=>wpAny_pyIter_tuple (show s.heap.IsTuple a its.toArray from pl) ?_⟩
  obtain ⟨o,ho,hc,hd⟩:=id pl
  have hlt:=Heap.lt_size ho
  refine hQ s.heap.objs.size _ _ _ (Walks.tuple hh _ a (Nat.ne_of_lt hlt) its.toArray) ⟨⟨_,Heap.get?_push_size _ rfl,rfl,rfl⟩,⟨o,Heap.get?_push_of_some _ ho,hc,hd⟩⟩ (fun b hb=>?_) fun h' tk hk=>?_
  ·rw [Heap.size_push]
   rcases List.mem_cons.mp hb with rfl|hb
   ·exact Nat.lt_succ_self _
   ·have:b=a:=by simpa using hb
    subst this; exact Nat.lt_succ_of_lt hlt
  ·exact I.kept fun b u e=>hk b u (by simpa using Nat.ne_of_lt (Heap.lt_size e)) (Heap.get?_push_of_some _ e)
theorem gj {is:List Int} {its:List Value} (rv:Vals (is.map V.int) its) {i:Nat} {v:Value} (h:its.toArray[i]?=some v):∃ t,v=.int (is.getD i 0) t:=by
 have h':its[i]?=some v:=by simpa using h
 obtain ⟨x,hx,r⟩:=Paired.get' rv h'
 rw [List.getElem?_map,Option.map_eq_some_iff] at hx
 obtain ⟨j,hj,rfl⟩:=hx
 obtain ⟨t,rfl⟩:=r
 exact ⟨t,by rw [List.getD_eq_getElem?_getD,hj]; rfl⟩
theorem vq {is:List Bool} {its:List Value} (rv:Vals (is.map V.bl) its) {i:Nat} {v:Value} (h:its.toArray[i]?=some v):v=.bool (is.getD i false):=by
 have h':its[i]?=some v:=by simpa using h
 obtain ⟨x,hx,r⟩:=Paired.get' rv h'
 rw [List.getElem?_map,Option.map_eq_some_iff] at hx
 obtain ⟨j,hj,rfl⟩:=hx
 cases r
 rw [List.getD_eq_getElem?_getD,hj]; rfl
theorem u5 (hK:Γ.K=X.K):bB X (.builtin "len") (cA Γ xw (biD sub .len)):=by
 intro pins s σ H xs us Q I rs h
 obtain ⟨ι,S,a,x,rfl,hS,r,ho⟩:=gx rfl (fun _ _ _=>rfl) h
 obtain ⟨ds,q,ho⟩:=Out.items ho
 obtain ⟨_,p,ys,rfl,sq,rp,_⟩:=ck hS r q
 rw [hK] at sq
 refine BR pins s σ H _ us Q I rs ⟨p,ys,rfl,sq,?_⟩
 rw [<- rp.length]
 exact Out.val ho hS (.int _)
theorem qN (hK:Γ.K=X.K) (hc:X.calm=true):bB X (.builtin "all") (cA Γ xw (biD sub .all)):=by
 intro pins s σ H xs us Q I rs h
 obtain ⟨ι,S,a,x,rfl,hS,r,ho⟩:=gx rfl (fun _ _ _=>rfl) h
 obtain ⟨ds,q,ho⟩:=Out.items ho
 obtain ⟨bs,q2,ho⟩:=Out.opt ho
 obtain ⟨_,p,ys,rfl,sq,rp,_⟩:=ck hS r q
 rw [ou q2] at rp
 have e:=pU rp
 subst e
 obtain ⟨u,rfl,ru⟩:=rs.one
 cases ru
 obtain ⟨its,rv,wk⟩:=ic hK I sq
 refine call_all_walk (wk X.A.in1 _ _ (I.ok.hd hc) fun I0 fp St s2 W st fl inv=>⟨I0,fp,[I0],_,_,St,fun i=>bs.getD i false,rfl,W,st,fun i v s' Q' E' hv hq=>?_,fun h' tk hk=>?_⟩)
 ·rw [vq rv hv]; exact wpAny_truthy_bool hq
 ·have hl:its.toArray.size=bs.length:=by rw [List.size_toArray,<- rv.length,List.length_map]
  rw [hl,range_all]
  exact ⟨.bl _,H,inv h' tk hk,rfl,Out.val ho hS (.bl _)⟩
theorem yi (hK:Γ.K=X.K) (hc:X.calm=true):bB X (.builtin "sum") (cA Γ xw (biD sub .sum)):=by
 intro pins s σ H xs us Q I rs h
 obtain ⟨ι,S,a,x,rfl,hS,r,ho⟩:=gx rfl (fun _ _ _=>rfl) h
 obtain ⟨ds,q,ho⟩:=Out.items ho
 obtain ⟨is,q2,ho⟩:=Out.opt ho
 obtain ⟨_,p,ys,rfl,sq,rp,_⟩:=ck hS r q
 rw [ints_map q2] at rp
 have e:=d8 rp
 subst e
 obtain ⟨u,rfl,ru⟩:=rs.one
 cases ru
 obtain ⟨its,rv,wk⟩:=ic hK I sq
 refine call_sum_walkG (wk X.A.in1 _ _ (I.ok.hd hc) fun I0 fp St s2 W st fl inv=>⟨I0,fp,[I0],_,_,St,fun i=>is.getD i 0,rfl,W,st,fl,fun i v hv=>gj rv hv,fun h' tk t' hk=>?_⟩)
 have hl:its.toArray.size=is.length:=by rw [List.size_toArray,<- rv.length,List.length_map]
 rw [hl,lM,List.take_length]
 exact ⟨.int _,H,inv h' tk hk,⟨_,rfl⟩,Out.val ho hS (.int _)⟩
end
end EV

namespace EV
open PySem PySem.Spec PyProof.Rows L2
section
variable {X:Cx} {Γ:Gx} {xw:XW} {pins:List (Addr × Obj)} {σ:L2.St} {H:Hp} {s:Shared} {ι:List Addr} {S:af} {sub:Sub}
theorem oY {b:Bi} {xs:List V} {Q:VK} (hb:b.isR=false) (h:cA Γ xw (biD sub b) xs H Q) :
  (∃ ι S a x,xs=[x]/\aq Γ ι H S/\Rep Γ ι H a x/\Out Γ xw ι H (bi1 sub b a S) fun d _ ι' H'=>∀ v,Rep Γ ι' H' d v->Q v H') \/
  (∃ ι S a c x y,xs=[x,y]/\aq Γ ι H S/\Rep Γ ι H a x/\Rep Γ ι H c y/\Out Γ xw ι H (bi2 b a c S) fun d _ ι' H'=>∀ v,Rep Γ ι' H' d v->Q v H'):=by
 obtain ⟨ι,S,ds,hS,r,ho⟩:=h
 unfold biD at ho
 rw [hb] at ho
 have hl:ds.length=1\/ds.length=2\/ds=[]\/∃ a c e q,ds=a::c::e::q:=by
  rcases ds with _|⟨a,_|⟨c,_|⟨e,q⟩⟩⟩
  ·exact .inr (.inr (.inl rfl))
  ·exact .inl rfl
  ·exact .inr (.inl rfl)
  ·exact .inr (.inr (.inr ⟨_,_,_,_,rfl⟩))
 rcases hl with hl|hl|rfl|⟨_,_,_,_,rfl⟩
 ·obtain ⟨a,_,x,_,rfl,rfl,ra,r,hl⟩:=Paired.step r hl
  obtain ⟨rfl,rfl⟩:=Paired.last r hl
  exact .inl ⟨ι,S,a,x,rfl,hS,ra,ho⟩
 ·obtain ⟨a,_,x,_,rfl,rfl,ra,r,hl⟩:=Paired.step r hl
  obtain ⟨c,_,y,_,rfl,rfl,rc,r,hl⟩:=Paired.step r hl
  obtain ⟨rfl,rfl⟩:=Paired.last r hl
  exact .inr ⟨ι,S,a,c,x,y,rfl,hS,ra,rc,ho⟩
 ·exact ho.elim
 ·exact ho.elim
theorem A0 {is:List Int} {i:Int} {r:List Int} (h:is=i::r) {M:Int} (hm:M∈is) (hle:∀ a∈is,M<=a):M=r.foldl min i:=by
 subst h
 obtain ⟨h1,h2⟩:=nj r i
 have e1:r.foldl min i<=M:=by
  rcases List.mem_cons.mp hm with rfl|hm
  ·exact h1
  ·exact h2 M hm
 have e2:M<=r.foldl min i:=by
  rcases qF r i with h|h
  ·rw [h]; exact hle i List.mem_cons_self
  ·exact hle _ (List.mem_cons_of_mem _ h)
 omega
theorem B7 {is:List Int} {i:Int} {r:List Int} (h:is=i::r) {M:Int} (hm:M∈is) (hle:∀ a∈is,a<=M):M=r.foldl max i:=by
 subst h
 obtain ⟨h1,h2⟩:=nQ r i
 have e1:M<=r.foldl max i:=by
  rcases List.mem_cons.mp hm with rfl|hm
  ·exact h1
  ·exact h2 M hm
 have e2:r.foldl max i<=M:=by
  rcases mH r i with h|h
  ·rw [h]; exact hle i List.mem_cons_self
  ·exact hle _ (List.mem_cons_of_mem _ h)
 omega
theorem getD_in {is:List Int} {j:Nat} (h:j < is.length):is.getD j 0∈is:=by
 rw [List.getD_eq_getElem?_getD,List.getElem?_eq_getElem h]
 exact List.getElem_mem h
theorem B0 (hK:Γ.K=X.K) (hc:X.calm=true):bB X (.builtin "min") (cA Γ xw (biD sub .min)):=by
 intro pins s σ H xs us Q I rs h
 rcases oY rfl h with ⟨ι,S,a,x,rfl,hS,r,ho⟩|⟨ι,S,a,c,x,y,rfl,hS,r1,r2,ho⟩
 ·obtain ⟨ds,q,ho⟩:=Out.items ho
  obtain ⟨is,q2,ho⟩:=Out.opt ho
  obtain ⟨_,p,ys,rfl,sq,rp,_⟩:=ck hS r q
  rw [ints_map q2] at rp
  have e:=d8 rp
  subst e
  obtain ⟨u,rfl,ru⟩:=rs.one
  cases ru
  cases hi:is with
  | nil=>rw [hi] at ho; exact ho.elim
  | cons i0 r0 =>
   rw [hi] at ho
   have fin:Q (.int (r0.foldl min i0)) H:=Out.val ho hS (.int _)
   obtain ⟨its,rv,wk⟩:=ic hK I sq
   have hl:its.toArray.size=is.length:=by rw [List.size_toArray,<- rv.length,List.length_map]
   refine call_min_walk (wk X.A.in1 _ _ (I.ok.hd hc) fun I0 fp St s2 W st fl inv=>⟨I0,fp,[I0],_,_,St,fun i j=>decide (is.getD i 0 < is.getD j 0),rfl,W,st,fl,by rw [hl,hi]; simp,CmpOf.ints_lt (fun i=>is.getD i 0) fun i v hv=>gj rv hv,fun v h' tk hv hk=>?_⟩)
   obtain ⟨t,rfl⟩:=gj rv hv
   obtain ⟨h1,h2⟩:=argBest_lt (fun i=>is.getD i 0) (its.toArray.size - 1)
   have hpos:0 < is.length:=by rw [hi]; simp
   have e:is.getD (argBest (fun i j=>decide (is.getD i 0 < is.getD j 0)) (its.toArray.size - 1)) 0=r0.foldl min i0:=A0 hi (getD_in (by omega)) fun b hb=>by
    obtain ⟨j,ej⟩:=List.getElem?_of_mem hb
    have hj:=(List.getElem?_eq_some_iff.mp ej).1
    have:=h2 j (by omega)
    rw [show is.getD j 0=b by rw [List.getD_eq_getElem?_getD,ej]; rfl] at this
    exact this
   rw [e]
   exact ⟨.int _,H,inv h' tk hk,⟨_,rfl⟩,fin⟩
 ·cases a with
  | int i =>
   cases c with
   | int j=>cases r1; cases r2; exact B4 hc pins s σ H _ us Q I rs ⟨i,j,rfl,Out.val ho hS (.int _)⟩
   | _=>exact ho.elim
  | _=>exact ho.elim
theorem xN (hK:Γ.K=X.K) (hc:X.calm=true):bB X (.builtin "max") (cA Γ xw (biD sub .max)):=by
 intro pins s σ H xs us Q I rs h
 rcases oY rfl h with ⟨ι,S,a,x,rfl,hS,r,ho⟩|⟨ι,S,a,c,x,y,rfl,hS,r1,r2,ho⟩
 ·obtain ⟨ds,q,ho⟩:=Out.items ho
  obtain ⟨is,q2,ho⟩:=Out.opt ho
  obtain ⟨_,p,ys,rfl,sq,rp,_⟩:=ck hS r q
  rw [ints_map q2] at rp
  have e:=d8 rp
  subst e
  obtain ⟨u,rfl,ru⟩:=rs.one
  cases ru
  cases hi:is with
  | nil=>rw [hi] at ho; exact ho.elim
  | cons i0 r0 =>
   rw [hi] at ho
   have fin:Q (.int (r0.foldl max i0)) H:=Out.val ho hS (.int _)
   obtain ⟨its,rv,wk⟩:=ic hK I sq
   have hl:its.toArray.size=is.length:=by rw [List.size_toArray,<- rv.length,List.length_map]
   refine call_max_walk (wk X.A.in1 _ _ (I.ok.hd hc) fun I0 fp St s2 W st fl inv=>⟨I0,fp,[I0],_,_,St,fun i j=>decide (is.getD i 0 > is.getD j 0),rfl,W,st,fl,by rw [hl,hi]; simp,CmpOf.ints_gt (fun i=>is.getD i 0) fun i v hv=>gj rv hv,fun v h' tk hv hk=>?_⟩)
   obtain ⟨t,rfl⟩:=gj rv hv
   obtain ⟨h1,h2⟩:=argBest_gt (fun i=>is.getD i 0) (its.toArray.size - 1)
   have hpos:0 < is.length:=by rw [hi]; simp
   have e:is.getD (argBest (fun i j=>decide (is.getD i 0 > is.getD j 0)) (its.toArray.size - 1)) 0=r0.foldl max i0:=B7 hi (getD_in (by omega)) fun b hb=>by
    obtain ⟨j,ej⟩:=List.getElem?_of_mem hb
    have hj:=(List.getElem?_eq_some_iff.mp ej).1
    have:=h2 j (by omega)
    rw [show is.getD j 0=b by rw [List.getD_eq_getElem?_getD,ej]; rfl] at this
    exact this
   rw [e]
   exact ⟨.int _,H,inv h' tk hk,⟨_,rfl⟩,fin⟩
 ·cases a with
  | int i =>
   cases c with
   | int j=>cases r1; cases r2; exact Cr hc pins s σ H _ us Q I rs ⟨i,j,rfl,Out.val ho hS (.int _)⟩
   | _=>exact ho.elim
  | _=>exact ho.elim
theorem Ai (hK:Γ.K=X.K):bB X (.type "tuple") (cA Γ xw (biD sub .tuple)):=by
 intro pins s σ H xs us Q I rs h
 obtain ⟨ι,S,a,x,rfl,hS,r,ho⟩:=gx rfl (fun _ _ _=>rfl) h
 obtain ⟨ds,q,ho⟩:=Out.items ho
 obtain ⟨_,p,ys,rfl,sq,rp,_⟩:=ck hS r q
 rw [hK] at sq
 rcases sq with sq|sq
 ·exact ly pins s σ H _ us Q I rs ⟨p,ys,rfl,.inl ⟨sq,fun l hl=>Out.tup ho hS hl rp⟩⟩
 ·exact ly pins s σ H _ us Q I rs ⟨p,ys,rfl,.inr ⟨sq,Out.val ho hS (.gz (by rw [hK]; exact sq) rp)⟩⟩
theorem AG:bB X (.type "int") (cA Γ xw (biD sub .int)):=by
 intro pins s σ H xs us Q I rs h
 obtain ⟨ι,S,a,x,rfl,hS,r,ho⟩:=gx rfl (fun _ _ _=>rfl) h
 cases a with
 | int i=>cases r; exact p9 pins s σ H _ us Q I rs (.inl ⟨i,rfl,Out.val ho hS (.int _)⟩)
 | bl b=>cases r; exact p9 pins s σ H _ us Q I rs (.inr ⟨b,rfl,Out.val ho hS (.int _)⟩)
 | _=>exact ho.elim
noncomputable def Ty.name:Ty->Option String
 | .int=>some "int" | .bool=>some "bool" | .str=>some "str" | .list=>some "list" | .tuple=>some "tuple" | .dict=>some "dict" | .cls _=>none
theorem zA (hK:Γ.K=X.K) (I:Inv X pins σ H s) (hS:aq Γ ι H S) {t:Ty} {T:String} (ht:t.name=some T) {d:D} {x:V} {v:Value} (r:Rep Γ ι H d x) (rx:RelV x v) {k:Bool} (h:fN sub S d t=some k) {A:Around} {E:Value->Shared->Prop} {Q:Value->Shared->Prop}
  (hq:∀ tk,Q (.bool k) { s with toks:=tk }):wpAny (model X.prog X.w) A (call (.builtin "isinstance") [v,.type T]) Q E s:=by
 have seqL:∀ {a:Addr} {xs:List V},SqL X.K H a xs->∀ {b:Bool},PySem.W.kitOne X.K (.type "list") (.type T)=some b->(∀ tk,Q (.bool b) { s with toks:=tk })->wpAny (model X.prog X.w) A (call (.builtin "isinstance") [.ref a,.type T]) Q E s:=fun {a xs} sq {b} e hq=>by
  obtain ⟨its,_,pl,_⟩:=I.list sq
  obtain ⟨o,h1,h2,_⟩:=pl.isList
  exact PySem.W.kia_one PySem.W.kitx_list I.kIn ⟨o,h1,h2⟩ e (fun z=>nomatch z) hq
 cases d with
 | non=>cases r; cases rx; cases t <;> cases ht <;> cases h <;> exact PySem.W.kia_one PySem.W.kitx_none I.kIn True.intro (by rfl) (fun z=>nomatch z) hq
 | bl b=>cases r; cases rx; cases t <;> cases ht <;> cases h <;> exact PySem.W.kia_one PySem.W.kitx_bool I.kIn True.intro (by rfl) (fun z=>nomatch z) hq
 | int b=>cases r; obtain ⟨tk,rfl⟩:=rx; cases t <;> cases ht <;> cases h <;> exact PySem.W.kia_one PySem.W.kitx_int I.kIn True.intro (by rfl) (fun z=>nomatch z) hq
 | str b=>cases r; obtain ⟨tk,rfl⟩:=rx; cases t <;> cases ht <;> cases h <;> exact PySem.W.kia_one PySem.W.kitx_str I.kIn True.intro (by rfl) (fun z=>nomatch z) hq
 | tup ds =>
  obtain ⟨a,xs,rfl,sq,_⟩:=r.bH
  cases rx
  rw [hK] at sq
  obtain ⟨its,_,pl,_⟩:=I.tuple sq
  obtain ⟨o,h1,h2,_⟩:=pl
  cases t <;> cases ht <;> cases h <;> exact PySem.W.kia_one PySem.W.kitx_tuple I.kIn ⟨o,h1,h2⟩ (by rfl) (fun z=>nomatch z) hq
 | fro ds =>
  obtain ⟨a,xs,rfl,sq,_⟩:=r.fm
  cases rx
  have sq:=sq.sq
  rw [hK] at sq
  cases t <;> cases ht <;> cases h <;> exact seqL sq (by rfl) hq
 | loc l =>
  cases r with
  | loc ql =>
   cases rx
   simp only [fN] at h
   cases q:S[l]? with
   | none=>rw [q] at h; cases t <;> cases ht <;> cases h
   | some c =>
    rw [q] at h
    cases c with
    | lst ds =>
     obtain ⟨a,xs,ha,hx,_⟩:=hS.lst q
     rw [ql] at ha; cases ha
     cases t <;> cases ht <;> cases h <;> exact seqL (.of hx) (by rfl) hq
    | dct kvs=>cases t <;> cases ht <;> cases h
 | exn c=>cases r
end
end EV

namespace EV
open PySem PySem.Spec PyProof.Rows L2
section
variable {X:Cx} {Γ:Gx} {xw:XW} {a b c:Expr} {ma mb mc:Sg->M D} {pos:Pos}
theorem xX {i:Nat} {x:Str} (hN:X.N[i]?=some x) (hv:Vis X.env.scope x) (hd:(x==("__debug__" : Str))=false) (hcd:(x==("__classdict__" : Str))=false):PE X (.Name x pos) (tM Γ xw fun σ=>bD σ i) :=
 PE.imp (BY hN hv hd hcd) fun σ H Q h=>by
  obtain ⟨σd,ι,S,he,hs,ho⟩:=h
  have ho:Out Γ xw ι H (bD σd i S) fun d _ ι' H'=>∀ v,Rep Γ ι' H' d v->Q v H':=ho
  cases q:σd[i]? with
  | none=>rw [show bD σd i S=.bad by unfold bD; rw [q]; rfl] at ho; exact ho.elim
  | some o =>
   cases o with
   | none=>rw [show bD σd i S=.bad by unfold bD; rw [q]; rfl] at ho; exact ho.elim
   | some d =>
    rw [show bD σd i S=.ok d S by unfold bD; rw [q]; rfl] at ho
    obtain ⟨v,hv,r⟩:=he.var i d q
    exact ⟨v,hv,ho.here hs v r⟩
theorem f7 {e:Expr} {d:D} {v:V} (h:PE X e (tC v)) (r:∀ ι H,Rep Γ ι H d v):PE X e (tM Γ xw fun _=>pure d) :=
 PE.imp h fun σ H Q h=>by
  obtain ⟨σd,ι,S,he,hs,ho⟩:=h
  exact ho.here hs v (r _ _)
theorem yG {op:Operator} {f:D->D->M D} (ho:OpR X (binaryOp op) (aU Γ xw f)) (ha:PE X a (tM Γ xw ma)) (hb:PE X b (tM Γ xw mb)):PE X (.BinOp a op b pos) (tM Γ xw fun σ=>ma σ>>=fun x=>mb σ>>=fun y=>f x y) :=
 PE.imp (sJ ho ha hb) fun _ _ _ h=>iP h
theorem Bd {op:CmpOp} {f:D->D->M D} (ho:OpR X (compareOp op) (aU Γ xw f)) (ha:PE X a (tM Γ xw ma)) (hb:PE X b (tM Γ xw mb)) (hm:behindInMarks op b=false):PE X (.Compare a [op] [b] pos) (tM Γ xw fun σ=>ma σ>>=fun x=>mb σ>>=fun y=>f x y) :=
 PE.imp (wZ ho ha hb hm) fun _ _ _ h=>iP h
theorem tS {rest:List Expr} (ha:PE X a (tM Γ xw ma)) (hb:PE X (.BoolOp .And (b::rest) pos) (tM Γ xw mb)):PE X (.BoolOp .And (a::b::rest) pos) (tM Γ xw fun σ=>ma σ>>=fun x=>match x with|.bl true=>mb σ|.bl false=>pure (.bl false)|_=>bad) :=
 PE.imp (Bv ha hb) fun σ H Q h=>by
  obtain ⟨σd,ι,S,he,hs,ho⟩:=h
  refine ⟨σd,ι,S,he,hs,ho.bind.mono fun d S' ι' H' _ _ ⟨s',e',o'⟩ v r=>?_⟩
  cases d with
  | bl k =>
   cases r
   refine ⟨k,rfl,?_⟩
   cases k with
   | true=>rw [if_pos rfl]; exact ⟨σd,ι',S',he.ext e',s',o'⟩
   | false=>rw [if_neg Bool.false_ne_true]; exact o'.here s' _ (.bl _)
  | _=>exact o'.elim
theorem tL {rest:List Expr} (ha:PE X a (tM Γ xw ma)) (hb:PE X (.BoolOp .Or (b::rest) pos) (tM Γ xw mb)):PE X (.BoolOp .Or (a::b::rest) pos) (tM Γ xw fun σ=>ma σ>>=fun x=>match x with|.bl true=>pure (.bl true)|.bl false=>mb σ|_=>bad) :=
 PE.imp (sS ha hb) fun σ H Q h=>by
  obtain ⟨σd,ι,S,he,hs,ho⟩:=h
  refine ⟨σd,ι,S,he,hs,ho.bind.mono fun d S' ι' H' _ _ ⟨s',e',o'⟩ v r=>?_⟩
  cases d with
  | bl k =>
   cases r
   refine ⟨k,rfl,?_⟩
   cases k with
   | false=>rw [if_neg Bool.false_ne_true]; exact ⟨σd,ι',S',he.ext e',s',o'⟩
   | true=>rw [if_pos rfl]; exact o'.here s' _ (.bl _)
  | _=>exact o'.elim
theorem Cq (ha:PE X a (tM Γ xw ma)):PE X (.UnaryOp .Not a pos) (tM Γ xw fun σ=>ma σ>>=fun x=>match x with|.bl b=>pure (.bl (!b))|_=>bad) :=
 PE.imp (uK ha) fun σ H Q h=>by
  obtain ⟨σd,ι,S,he,hs,ho⟩:=h
  refine ⟨σd,ι,S,he,hs,ho.bind.mono fun d S' ι' H' _ _ ⟨s',e',o'⟩ v r=>?_⟩
  cases d with
  | bl k=>cases r; exact ⟨k,rfl,o'.here s' _ (.bl _)⟩
  | _=>exact o'.elim
theorem zH (ha:PE X a (tM Γ xw ma)):PE X (.UnaryOp .USub a pos) (tM Γ xw fun σ=>ma σ>>=fun x=>match x with|.int i=>pure (.int (-i))|_=>bad) :=
 PE.imp (uP zR ha) fun σ H Q h=>by
  obtain ⟨σd,ι,S,he,hs,ho⟩:=h
  refine ⟨σd,ι,S,he,hs,ho.bind.mono fun d S' ι' H' _ _ ⟨s',e',o'⟩ v r=>?_⟩
  cases d with
  | int k=>cases r; exact ⟨k,rfl,o'.here s' _ (.int _)⟩
  | _=>exact o'.elim
theorem wD {op op':CmpOp} {f f':D->D->M D} (ho:OpR X (compareOp op) (aU Γ xw f)) (ho':OpR X (compareOp op') (aU Γ xw f')) (ha:PE X a (tM Γ xw ma)) (hb:PE X b (tM Γ xw mb)) (hc:PE X c (tM Γ xw mc)) (hm:lastMarks [op,op'] [b,c]=false) :
  PE X (.Compare a [op,op'] [b,c] pos) (tM Γ xw fun σ=>ma σ>>=fun x=>mb σ>>=fun y=>f x y>>=fun r=>match r with|.bl true=>mc σ>>=fun z=>f' y z|.bl false=>pure (.bl false)|_=>bad) :=
 PE.imp (Af ho ho' ha hb hc hm) fun σ H Q h=>by
  obtain ⟨σd,ι,S,he,hs,ho⟩:=h
  refine ⟨σd,ι,S,he,hs,ho.bind.mono fun d S' ι' H' _ _ ⟨s',e',o'⟩ v r=>⟨σd,ι',S',he.ext e',s',o'.bind.mono fun d2 S2 ι2 H2 _ _ ⟨s2,e2,o2⟩ v2 r2=>⟨ι2,S2,d,d2,s2,r.ext e2,r2,o2.bind.mono fun d3 S3 ι3 H3 _ _ ⟨s3,e3,o3⟩ v3 r3=>?_⟩⟩⟩
  cases d3 with
  | bl k =>
   cases r3
   refine ⟨k,rfl,?_⟩
   cases k with
   | true =>
    rw [if_pos rfl]
    exact ⟨σd,ι3,S3,(he.ext (e'.trans e2)).ext e3,s3,o3.bind.mono fun d4 S4 ι4 H4 _ _ ⟨s4,e4,o4⟩ v4 r4=>⟨ι4,S4,d2,d4,s4,(r2.ext e3).ext e4,r4,o4⟩⟩
   | false=>rw [if_neg Bool.false_ne_true]; exact o3.here s3 _ (.bl _)
  | _=>exact o3.elim
theorem BW {e:Expr} {m:Sg->M D} (hK:Γ.K=X.K) (h:PE X e (tM Γ xw m)) (he:∀ whole,isTrue e X.env whole=(do let v <- whole; standAt e.pos; holding [v] (truthy v))):PT X e (tMT Γ xw fun σ=>m σ>>=truth):=by
 intro pins s σ H Q I hw
 obtain ⟨σd,ι,S,hE,hs,ho⟩:=hw
 refine isTrue_plain (thn (h pins s σ H (fun x H'=>∃ ι S d,aq Γ ι H' S/\Rep Γ ι H' d x/\Out Γ xw ι H' (truth d S) fun b _ _ H'=>Q b H') I ⟨σd,ι,S,hE,hs,ho.bind.mono fun d S' ι' H' _ _ ⟨s',e',o'⟩ v r=>⟨ι',S',d,s',r,o'⟩⟩) fun v s1 ⟨x,H1,I1,r1,q1⟩=>?_) (he _)
 exact AY hK pins s1 σ H1 x v Q I1 r1 q1
theorem wJ {op:CmpOp} {f:D->D->M D} (hbl:∀ x y S d S',f x y S=.ok d S'->∃ k,d=.bl k) (ho:OpR X (compareOp op) (aU Γ xw f)) (ha:PE X a (tM Γ xw ma)) (hb:PE X b (tM Γ xw mb)) (hm:behindInMarks op b=false) :
  PT X (.Compare a [op] [b] pos) (tMT Γ xw fun σ=>ma σ>>=fun x=>mb σ>>=fun y=>f x y>>=fun r=>truth r) :=
 PT.imp (xF ho ha hb hm) fun σ H Q h=>by
  obtain ⟨σd,ι,S,he,hs,ho⟩:=h
  refine ⟨σd,ι,S,he,hs,ho.bind.mono fun d S' ι' H' _ _ ⟨s',e',o'⟩ v r=>⟨σd,ι',S',he.ext e',s',o'.bind.mono fun d2 S2 ι2 H2 _ _ ⟨s2,e2,o2⟩ v2 r2=>⟨ι2,S2,d,d2,s2,r.ext e2,r2,?_⟩⟩⟩
  cases q:f d d2 S2 with
  | bad=>rw [aT q] at o2; exact o2.elim
  | exc c S3=>rw [bW q] at o2; exact o2
  | ok d3 S3 =>
   rw [ao q] at o2
   obtain ⟨k,rfl⟩:=hbl _ _ _ _ _ q
   intro ι3 H3 e3 s3 v3 r3
   cases r3
   exact ⟨k,rfl,(o2.step e3).here s3⟩
theorem zL {op op':CmpOp} {f f':D->D->M D} (hbl:∀ x y S d S',f x y S=.ok d S'->∃ k,d=.bl k) (hbl':∀ x y S d S',f' x y S=.ok d S'->∃ k,d=.bl k) (ho:OpR X (compareOp op) (aU Γ xw f)) (ho':OpR X (compareOp op') (aU Γ xw f')) (ha:PE X a (tM Γ xw ma)) (hb:PE X b (tM Γ xw mb)) (hc:PE X c (tM Γ xw mc)) (hm:lastMarks [op,op'] [b,c]=false) :
  PT X (.Compare a [op,op'] [b,c] pos) (tMT Γ xw fun σ=>ma σ>>=fun x=>mb σ>>=fun y=>f x y>>=fun r=>truth r>>=fun k=>if k=true then mc σ>>=fun z=>f' y z>>=fun q=>truth q else pure false) :=
 PT.imp (AM ho ho' ha hb hc hm) fun σ H Q h=>by
  obtain ⟨σd,ι,S,he,hs,ho⟩:=h
  refine ⟨σd,ι,S,he,hs,ho.bind.mono fun d S' ι' H' _ _ ⟨s',e',o'⟩ v r=>⟨σd,ι',S',he.ext e',s',o'.bind.mono fun d2 S2 ι2 H2 _ _ ⟨s2,e2,o2⟩ v2 r2=>⟨ι2,S2,d,d2,s2,r.ext e2,r2,?_⟩⟩⟩
  cases q:f d d2 S2 with
  | bad=>rw [aT q] at o2; exact o2.elim
  | exc c S3=>rw [bW q] at o2; exact o2
  | ok d3 S3 =>
   rw [ao q] at o2
   obtain ⟨k,rfl⟩:=hbl _ _ _ _ _ q
   intro ι3 H3 e3 s3 v3 r3
   cases r3
   refine ⟨k,rfl,?_⟩
   have o3:=o2.step e3
   cases k with
   | false=>rw [if_neg Bool.false_ne_true]; exact ⟨false,rfl,o3.here s3⟩
   | true =>
    rw [if_pos rfl]
    have o3:Out Γ xw ι3 H3 ((mc σd>>=fun z=>f' d2 z>>=fun q=>truth q) S3) _:=o3
    refine ⟨σd,ι3,S3,(he.ext (e'.trans e2)).ext e3,s3,o3.bind.mono fun d4 S4 ι4 H4 _ _ ⟨s4,e4,o4⟩ v4 r4=>⟨ι4,S4,d2,d4,s4,(r2.ext e3).ext e4,r4,?_⟩⟩
    cases q4:f' d2 d4 S4 with
    | bad=>rw [aT q4] at o4; exact o4.elim
    | exc c S5=>rw [bW q4] at o4; exact o4
    | ok d5 S5 =>
     rw [ao q4] at o4
     obtain ⟨k5,rfl⟩:=hbl' _ _ _ _ _ q4
     intro ι5 H5 e5 s5 v5 r5
     cases r5
     exact ⟨k5,rfl,(o4.step e5).here s5⟩
variable {na nb:Sg->M Bool}
theorem n9 {rest:List Expr} (ha:PT X a (tMT Γ xw na)) (hb:PW X (.BoolOp .And (b::rest) pos) (tMT Γ xw nb)):PW X (.BoolOp .And (a::b::rest) pos) (tMT Γ xw fun σ=>na σ>>=fun k=>if k=true then nb σ else pure false) :=
 PW.imp (AH ha hb) fun σ H Q h=>by
  obtain ⟨σd,ι,S,he,hs,ho⟩:=h
  refine ⟨σd,ι,S,he,hs,ho.bind.mono fun k S' ι' H' _ _ ⟨s',e',o'⟩=>?_⟩
  cases k with
  | true=>rw [if_pos rfl]; exact ⟨σd,ι',S',he.ext e',s',o'⟩
  | false=>rw [if_neg Bool.false_ne_true]; exact o'.here s'
theorem pT {rest:List Expr} (ha:PT X a (tMT Γ xw na)) (hb:PW X (.BoolOp .Or (b::rest) pos) (tMT Γ xw nb)):PW X (.BoolOp .Or (a::b::rest) pos) (tMT Γ xw fun σ=>na σ>>=fun k=>if k=true then pure true else nb σ) :=
 PW.imp (xC ha hb) fun σ H Q h=>by
  obtain ⟨σd,ι,S,he,hs,ho⟩:=h
  refine ⟨σd,ι,S,he,hs,ho.bind.mono fun k S' ι' H' _ _ ⟨s',e',o'⟩=>?_⟩
  cases k with
  | false=>rw [if_neg Bool.false_ne_true]; exact ⟨σd,ι',S',he.ext e',s',o'⟩
  | true=>rw [if_pos rfl]; exact o'.here s'
theorem uV (ha:PT X a (tMT Γ xw na)):PT X (.UnaryOp .Not a pos) (tMT Γ xw fun σ=>na σ>>=fun k=>pure (!k)) :=
 PT.imp (wj ha) fun σ H Q h=>by
  obtain ⟨σd,ι,S,he,hs,ho⟩:=h
  exact ⟨σd,ι,S,he,hs,ho.bind.mono fun k S' ι' H' _ _ ⟨s',e',o'⟩=>o'.here s'⟩
theorem Bg (hc:PT X c (tMT Γ xw na)) (ha:PE X a (tM Γ xw ma)) (hb:PE X b (tM Γ xw mb)):PE X (.IfExp c a b pos) (tM Γ xw fun σ=>na σ>>=fun k=>if k=true then ma σ else mb σ) :=
 PE.imp (BN hc ha hb) fun σ H Q h=>by
  obtain ⟨σd,ι,S,he,hs,ho⟩:=h
  refine ⟨σd,ι,S,he,hs,ho.bind.mono fun k S' ι' H' _ _ ⟨s',e',o'⟩=>?_⟩
  cases k with
  | true=>rw [if_pos rfl]; exact ⟨σd,ι',S',he.ext e',s',o'⟩
  | false=>rw [if_neg Bool.false_ne_true]; exact ⟨σd,ι',S',he.ext e',s',o'⟩
theorem qT:PA X [] (tMA Γ xw fun _=>pure []) :=
 PA.imp gb fun σ H Q h=>by
  obtain ⟨σd,ι,S,he,hs,ho⟩:=h
  exact ho.here hs [] .nil
theorem yo {es:List Expr} {m:Sg->M (List D)} (ha:PE X a (tM Γ xw ma)) (hr:PA X es (tMA Γ xw m)) (hs:starEach (a::es) X.env=(false,eval a X.env)::starEach es X.env):PA X (a::es) (tMA Γ xw fun σ=>ma σ>>=fun x=>m σ>>=fun xs=>pure (x::xs)) :=
 PA.imp (fy ha hr hs) fun σ H Q h=>by
  obtain ⟨σd,ι,S,he,hs,ho⟩:=h
  exact ⟨σd,ι,S,he,hs,ho.bind.mono fun d S' ι' H' _ _ ⟨s',e',o'⟩ v r=>⟨σd,ι',S',he.ext e',s',o'.bind.mono fun ds S2 ι2 H2 _ _ ⟨s2,e2,o2⟩ vs rs=>o2.here s2 _ (.cons (r.ext e2) rs)⟩⟩
theorem CC {es:List Expr} {k:Nat} {m:Sg->M (List D)} (h:PA X es (tMA Γ xw m)):PE X (.Tuple es k pos) (tM Γ xw fun σ=>m σ>>=fun ds=>guard (fits ds.length) (pure (.tup ds))) :=
 PE.imp (j7 h) fun σ H Q h=>by
  obtain ⟨σd,ι,S,he,hs,ho⟩:=h
  refine ⟨σd,ι,S,he,hs,ho.bind.mono fun ds S' ι' H' _ _ ⟨s',e',o'⟩ vs rs=>?_⟩
  obtain ⟨hz,o'⟩:=Out.guard o'
  exact ⟨by rw [<- rs.length]; exact cK hz,fun p hp=>Out.tup o' s' hp rs⟩
theorem zX {es:List Expr} {m:Sg->M (List D)} (h:PA X es (tMA Γ xw m)):PE X (.List es pos) (tM Γ xw fun σ=>m σ>>=fun ds=>guard (fits ds.length) (alloc (.lst ds))) :=
 PE.imp (ud h) fun σ H Q h=>by
  obtain ⟨σd,ι,S,he,hs,ho⟩:=h
  refine ⟨σd,ι,S,he,hs,ho.bind.mono fun ds S' ι' H' _ _ ⟨s',e',o'⟩ vs rs=>?_⟩
  obtain ⟨hz,o'⟩:=Out.guard o'
  exact ⟨by rw [<- rs.length]; exact cK hz,fun p hp=>Out.alloc o' s' hp rs⟩
theorem B9 (hK:Γ.K=X.K) (ha:PE X a (tM Γ xw ma)) (hb:PE X b (tM Γ xw mb)) (hs:kE b):PE X (.Subscript a b pos) (tM Γ xw fun σ=>ma σ>>=fun x=>mb σ>>=fun y=>ixD x y) :=
 PE.imp (sj (sR hK) ha hb hs) fun _ _ _ h=>iP h
noncomputable def tMO (Γ:Gx) (xw:XW) (m:Sg->M (Option Int)):TO:=fun σ H Q=>∃ σd ι S,aQ Γ ι H σ σd/\aq Γ ι H S/\Out Γ xw ι H (m σd S) fun o _ _ H'=>Q o H'
theorem PO.imp {e:Option Expr} {t t':TO} (h:PO X e t) (f:∀ σ H Q,t' σ H Q->t σ H Q):PO X e t':=fun pins s σ H Q I q=>h pins s σ H Q I (f σ H Q q)
theorem sr:PO X none (tMO Γ xw fun _=>pure none):=PO.imp Bw fun σ H Q h=>by
 obtain ⟨σd,ι,S,he,hs,ho⟩:=h
 exact ho.here hs
theorem Cw (ha:PE X a (tM Γ xw ma)):PO X (some a) (tMO Γ xw fun σ=>ma σ>>=eY):=PO.imp (uu ha) fun σ H Q h=>by
 obtain ⟨σd,ι,S,he,hs,ho⟩:=h
 refine ⟨σd,ι,S,he,hs,ho.bind.mono fun d S' ι' H' _ _ ⟨s',e',o'⟩ v r=>?_⟩
 cases d with
 | int i=>cases r; exact ⟨i,rfl,o'.here s'⟩
 | _=>exact o'.elim
theorem rM {lo hi:Option Expr} {ml mh:Sg->M (Option Int)} {p2:Pos} (hK:Γ.K=X.K) (ha:PE X a (tM Γ xw ma)) (hl:PO X lo (tMO Γ xw ml)) (hh:PO X hi (tMO Γ xw mh)) :
  PE X (.Subscript a (.Slice lo hi none p2) pos) (tM Γ xw fun σ=>ma σ>>=fun x=>ml σ>>=fun l=>mh σ>>=fun h=>slD x l h) :=
 PE.imp (u9 (zx hK) ha hl hh) fun σ H Q h=>by
  obtain ⟨σd,ι,S,he,hs,ho⟩:=h
  exact ⟨σd,ι,S,he,hs,ho.bind.mono fun d S' ι' H' _ _ ⟨s',e',o'⟩ v r=>⟨σd,ι',S',he.ext e',s',o'.bind.mono fun l S2 ι2 H2 _ _ ⟨s2,e2,o2⟩=>⟨σd,ι2,S2,(he.ext e').ext e2,s2,o2.bind.mono fun u S3 ι3 H3 _ _ ⟨s3,e3,o3⟩=>⟨ι3,S3,d,s3,(r.ext e2).ext e3,o3⟩⟩⟩⟩
theorem f9 {id:String} {x:Str} {p:Pos} {es:List Expr} {m:Sg->M (List D)} {f:List D->M D} (hc:bB X (.builtin id) (cA Γ xw f)) (hg:Gl X x) (hm:X.mg x=none) (hv:bootBuiltins x=some (.builtin id)) (ha:PA X (a::es) (tMA Γ xw m)) (hn:x≠"__name__") (hdb:(x==("__debug__" : Str))=false)
  (he:starEach (a::es) X.env=(false,eval a X.env)::starEach es X.env) (hpl:(backTo pos (starEach es X.env)).any (·.1)=false):PE X (.Call (.Name x p) (a::es) [] pos) (tM Γ xw fun σ=>m σ>>=f) :=
 PE.imp (oJ hc hg hm hv ha hn hdb he hpl) fun _ _ _ h=>nM h
theorem lR {T:String} {x:Str} {p:Pos} {es:List Expr} {m:Sg->M (List D)} {f:List D->M D} (hc:bB X (.type T) (cA Γ xw f)) (hg:Gl X x) (hm:X.mg x=none) (hv:bootBuiltins x=some (.type T)) (ha:PA X (a::es) (tMA Γ xw m)) (hn:x≠"__name__") (hdb:(x==("__debug__" : Str))=false)
  (he:starEach (a::es) X.env=(false,eval a X.env)::starEach es X.env) (hpl:(backTo pos (starEach es X.env)).any (·.1)=false):PE X (.Call (.Name x p) (a::es) [] pos) (tM Γ xw fun σ=>m σ>>=f) :=
 PE.imp (qB hc hg hm hv ha hn hdb he hpl) fun _ _ _ h=>nM h
theorem zw {sub:Sub} {t:Ty} {T:String} {x y:Str} {p p':Pos} (hK:Γ.K=X.K) (ht:t.name=some T) (hg:Gl X x) (hm:X.mg x=none) (hv:bootBuiltins x=some (.builtin "isinstance")) (hg':Gl X y) (hm':X.mg y=none) (hv':bootBuiltins y=some (.type T)) (ha:PE X a (tM Γ xw ma))
  (hn:x≠"__name__") (hdb:(x==("__debug__" : Str))=false) (hn':y≠"__name__") (hdb':(y==("__debug__" : Str))=false) (hst:starEach [a,.Name y p'] X.env=(false,eval a X.env)::starEach [.Name y p'] X.env) :
  PE X (.Call (.Name x p) [a,.Name y p'] [] pos) (tM Γ xw fun σ=>ma σ>>=fun d=>fT sub t d):=by
 have hy:PE X (.Name y p') (tC (.ty T)):=wO hg' hm' hv' rfl hn' hdb'
 have hc:bB X (.builtin "isinstance") (fun xs H Q=>∃ x,xs=[x,.ty T]/\tH Γ xw (fT sub t) x H Q):=by
  intro pins s σ H xs us Q I rs h
  obtain ⟨x,rfl,ι,S,d,hS,r,ho⟩:=h
  obtain ⟨u1,u2,rfl,r1,r2⟩:=rs.two
  cases r2
  unfold fT at ho
  cases q:fN sub S d t with
  | none=>rw [q] at ho; exact ho.elim
  | some k =>
   rw [q] at ho
   exact zA hK I hS ht r r1 q fun tk=>⟨.bl k,H,I.tok _,rfl,Out.val ho hS (.bl _)⟩
 refine PE.imp (oJ hc hg hm hv (fy ha (fy hy gb rfl) hst) hn hdb hst rfl) fun σ H Q h=>?_
 obtain ⟨σd,ι,S,he,hs,ho⟩:=h
 exact ⟨σd,ι,S,he,hs,ho.bind.mono fun d S' ι' H' _ _ ⟨s',e',o'⟩ v r=>⟨v,rfl,ι',S',d,s',r,o'⟩⟩
end
end EV

namespace EV
open PySem PySem.Spec PyProof.Rows L2
section
variable {X:Cx} {Γ:Gx} {xw:XW} {ι ι':List Addr} {H H':Hp} {S:af} {σ:L2.St}
theorem Rep.move (hp:ι <+: ι') (ht:∀ a xs,H a=some (.tup xs)->H' a=some (.tup xs)) (hf:∀ a o u,H a=some (.frz o u)->H' a=some (.frz o u)) {d:D} {v:V} (h:Rep Γ ι H d v):Rep Γ ι' H' d v:=by
 induction h with
 | non=>exact .non
 | bl b=>exact .bl b
 | int i=>exact .int i
 | str x=>exact .str x
 | tup h1 h2 h3 ih =>
  refine .tup ?_ h2 ih
  rcases h1 with (h|⟨o,h⟩)|h
  ·exact .inl (.inl (ht _ _ h))
  ·exact .inl (.inr ⟨o,hf _ _ _ h⟩)
  ·exact .inr h
 | fro h1 h2 h3 ih =>
  refine .fro ?_ h2 ih
  rcases h1 with ⟨o,h⟩|h
  ·exact .inl ⟨o,hf _ _ _ h⟩
  ·exact .inr h
 | loc h=>exact .loc (d_ hp h)
theorem nF {a:Addr} {xs ys:List V} (h:H a=some (.lst xs)):∀ b zs,H b=some (.tup zs)->upd H a (.lst ys) b=some (.tup zs):=fun b zs e=>by
 rw [aE (kL e h (by intro z; cases z))]; exact e
theorem pD {a:Addr} {xs ys:List V} (h:H a=some (.lst xs)):∀ b o u,H b=some (.frz o u)->upd H a (.lst ys) b=some (.frz o u):=fun b o u e=>by
 rw [aE (kL e h (by intro z; cases z))]; exact e
theorem Rep.write {a:Addr} {xs ys:List V} (h:H a=some (.lst xs)) {d:D} {v:V} (r:Rep Γ ι H d v):Rep Γ ι (upd H a (.lst ys)) d v:=r.move (List.prefix_refl _) (nF h) (pD h)
theorem au.write {a:Addr} {xs ys:List V} (h:H a=some (.lst xs)) {ds:List D} {vs:List V} (r:au Γ ι H ds vs):au Γ ι (upd H a (.lst ys)) ds vs:=Paired.imp (fun _ _ r=>Rep.write h r) r
theorem aQ.write {a:Addr} {xs ys:List V} (h:H a=some (.lst xs)) {σd:Sg} (e:aQ Γ ι H σ σd):aQ Γ ι (upd H a (.lst ys)) σ σd:=⟨e.len,fun i d q=>let ⟨v,e1,r⟩:=e.var i d q; ⟨v,e1,r.write h⟩⟩
theorem Ext.write {a:Addr} {xs ys:List V} (h:H a=some (.lst xs)) (hm:a∈ι):Ext ι ι H (upd H a (.lst ys)) :=
 ⟨List.prefix_refl _,nF h,pD h,fun b o e n=>by rw [aE (fun z=>n (by rw [z]; exact hm))]; exact e,fun _ h n=>absurd h n⟩
theorem aq.write (hS:aq Γ ι H S) {l:Nat} {a:Addr} {xs ys:List V} {es ds:List D} (hl:S[l]?=some (.lst es)) (ha:ι[l]?=some a) (h:H a=some (.lst xs)) (r:au Γ ι H ds ys):aq Γ ι (upd H a (.lst ys)) (S.set l (.lst ds)):=by
 refine ⟨by rw [List.length_set]; exact hS.len,hS.nd,fun m c hm=>?_⟩
 by_cases e:m=l
 ·subst e
  rw [List.getElem?_set_self (List.getElem?_eq_some_iff.mp hl).1] at hm
  cases hm
  exact ⟨a,ha,ys,b5,au.write h r⟩
 ·rw [List.getElem?_set_ne (Ne.symm e)] at hm
  obtain ⟨b,hb,c1⟩:=hS.cell m c hm
  have hne:b≠a:=fun z=>e (fW hS.nd hb (z ▸ ha))
  refine ⟨b,hb,?_⟩
  cases c with
  | lst zs=>obtain ⟨ws,hw,rw'⟩:=c1; exact ⟨ws,by rw [aE hne]; exact hw,au.write h rw'⟩
  | dct kvs=>obtain ⟨ws,hw,rw'⟩:=c1; exact ⟨ws,by rw [aE hne]; exact hw,Paired.imp (fun _ _ q=>⟨q.1,Rep.write h q.2⟩) rw'⟩
theorem aq.other (hS:aq Γ ι H S) {a:Addr} {xs ys:List V} (h:H a=some (.lst xs)) (hn:a ∉ ι):aq Γ ι (upd H a (.lst ys)) S :=
 ⟨hS.len,hS.nd,fun m c hm=>by
  obtain ⟨b,hb,c1⟩:=hS.cell m c hm
  have hne:b≠a:=fun z=>hn (z ▸ List.mem_of_getElem? hb)
  refine ⟨b,hb,?_⟩
  cases c with
  | lst zs=>obtain ⟨ws,hw,rw'⟩:=c1; exact ⟨ws,by rw [aE hne]; exact hw,au.write h rw'⟩
  | dct kvs=>obtain ⟨ws,hw,rw'⟩:=c1; exact ⟨ws,by rw [aE hne]; exact hw,Paired.imp (fun _ _ q=>⟨q.1,Rep.write h q.2⟩) rw'⟩⟩
theorem aQ.set {σd:Sg} (e:aQ Γ ι H σ σd) (i:Nat) {d:D} {v:V} (r:Rep Γ ι H d v):aQ Γ ι H (σ.set i (some v)) (σd.set i (some d)):=by
 refine ⟨by rw [List.length_set,List.length_set]; exact e.len,fun j d' h=>?_⟩
 by_cases hij:j=i
 ·subst hij
  have hj:j < σd.length:=by
   have:=(List.getElem?_eq_some_iff.mp h).1
   rw [List.length_set] at this; exact this
  rw [List.getElem?_set_self hj] at h
  cases h
  exact ⟨v,by rw [List.getElem?_set_self (by rw [e.len]; exact hj)],r⟩
 ·rw [List.getElem?_set_ne (Ne.symm hij)] at h
  obtain ⟨w,hw,rw'⟩:=e.var j d' h
  exact ⟨w,by rw [List.getElem?_set_ne (Ne.symm hij)]; exact hw,rw'⟩
theorem aQ.more {σd:Sg} (e:aQ Γ ι H σ σd) (k:Nat):aQ Γ ι H (σ++List.replicate k none) (σd++List.replicate k none):=by
 refine ⟨by simp [e.len],fun j d h=>?_⟩
 by_cases hj:j < σd.length
 ·rw [List.getElem?_append_left hj] at h
  obtain ⟨w,hw,r⟩:=e.var j d h
  exact ⟨w,by rw [List.getElem?_append_left (by rw [e.len]; exact hj)]; exact hw,r⟩
 ·rw [List.getElem?_append_right (by omega),List.getElem?_replicate] at h
  split at h <;> cases h
theorem uZ:MtR X "list.append" (fun x xs H Q=>∃ ι S dx ds,aq Γ ι H S/\Rep Γ ι H dx x/\au Γ ι H ds xs/\Out Γ xw ι H (meD .append dx ds S) fun d _ ι' H'=>∀ v,Rep Γ ι' H' d v->Q v H'):=by
 intro pins s σ H x xs v us Q I rx rs h
 obtain ⟨ι,S,dx,ds,hS,r1,r2,ho⟩:=h
 match ds,r2 with
 | [],_=>exact ho.elim
 | _::_::_,_=>exact ho.elim
 | [d],.cons (b:=y) rd .nil =>
  cases dx with
  | loc l =>
   obtain ⟨es,e,ho⟩:=Out.bg ho
   obtain ⟨hz,ho⟩:=Out.guard ho
   obtain ⟨a,ws,ha,hx,p⟩:=hS.lst e
   cases r1 with
   | loc q =>
    rw [ha] at q; cases q
    refine n6 pins s σ H _ _ v us Q I rx rs ⟨a,ws,y,rfl,rfl,hx,by rw [<- p.length]; exact pJ hz,?_⟩
    exact ho ι _ (Ext.write hx (List.mem_of_getElem? ha)) (hS.write e ha hx (Paired.app p (.cons rd .nil))) _ .non
  | _=>exact ho.elim
theorem vE:MtR X "list.extend" (fun x xs H Q=>∃ ι S dx ds,aq Γ ι H S/\Rep Γ ι H dx x/\au Γ ι H ds xs/\Out Γ xw ι H (meD .extend dx ds S) fun d _ ι' H'=>∀ v,Rep Γ ι' H' d v->Q v H'):=by
 intro pins s σ H x xs v us Q I rx rs h
 obtain ⟨ι,S,dx,ds,hS,r1,r2,ho⟩:=h
 match ds,r2 with
 | [],_=>exact ho.elim
 | _::_::_,_=>exact ho.elim
 | [d],.cons (b:=y) rd .nil =>
  cases dx with
  | loc l =>
   cases d with
   | loc m =>
    obtain ⟨es,e,ho⟩:=Out.bg ho
    obtain ⟨fs,e2,ho⟩:=Out.bg ho
    obtain ⟨hz,ho⟩:=Out.guard ho
    obtain ⟨a,ws,ha,hx,p⟩:=hS.lst e
    obtain ⟨b,zs,hb,hy,p2⟩:=hS.lst e2
    cases r1 with
    | loc q =>
     cases rd with
     | loc q2 =>
      rw [ha] at q; cases q
      rw [hb] at q2; cases q2
      refine vQ pins s σ H _ _ v us Q I rx rs ⟨a,b,ws,zs,rfl,rfl,hx,hy,by rw [<- p.length,<- p2.length]; exact cK hz,?_⟩
      exact ho ι _ (Ext.write hx (List.mem_of_getElem? ha)) (hS.write e ha hx (Paired.app p p2)) _ .non
   | _=>exact ho.elim
  | _=>exact ho.elim
theorem oj {o a:Expr} {es:List Expr} {me:Me} {name:Str} {apos cpos:Pos} {id:String} {mo:Sg->M D} {m:Sg->M (List D)} (hK:Γ.K=X.K) (pa:PlainAttrs "list") (slot:Slot "list" name id) (hty:typeOf (.builtin id)=pure (.type "method_descriptor"))
  (hm:MtR X id (fun x xs H Q=>∃ ι S dx ds,aq Γ ι H S/\Rep Γ ι H dx x/\au Γ ι H ds xs/\Out Γ xw ι H (meD me dx ds S) fun d _ ι' H'=>∀ v,Rep Γ ι' H' d v->Q v H')) (ho:PE X o (tM Γ xw mo)) (ha:PA X (a::es) (tMA Γ xw m))
  (hbase:attributeBase o name X.env (eval o X.env)=eval o X.env)
  (hfew:((backTo cpos (starEach (a::es) X.env)).all (fun x=>!x.1)&&(backToKw cpos (keywordEach [] X.env)).all (fun x=>x.1.isSome)&&decide ((a::es).length+([]:List Keyword).length+(if ([]:List Keyword).isEmpty then 0 else 1) < 30))=true)
  (hline:(apos.endLine==cpos.line)=true) (hs:starEach (a::es) X.env=(false,eval a X.env)::starEach es X.env) (hplain:(backTo cpos (starEach es X.env)).any (·.1)=false) :
  PE X (.Call (.Attribute o name apos) (a::es) [] cpos) (tM Γ xw fun σ=>mo σ>>=fun x=>ig x (m σ>>=fun ds=>meD me x ds)) :=
 PE.imp (zC pa slot hty hm ho ha hbase hfew hline hs hplain) fun σ H Q h=>by
  obtain ⟨σd,ι,S,he,hs,ho⟩:=h
  refine ⟨σd,ι,S,he,hs,ho.bind.mono fun d S' ι' H' _ _ ⟨s',e',o'⟩ v r=>?_⟩
  obtain ⟨hl,o'⟩:=Out.guard (b:=d.cS S') o'
  cases d with
  | loc l =>
   have r0:=r
   cases r with
   | loc q =>
    have hlt:l < S'.length:=by rw [<- s'.len]; exact (List.getElem?_eq_some_iff.mp q).1
    obtain ⟨b,hb,c⟩:=s'.cell l S'[l] (List.getElem?_eq_getElem hlt)
    rw [q] at hb; cases hb
    cases e:S'[l] with
    | lst ds =>
     rw [e] at c
     obtain ⟨xs,hx,_⟩:=c
     refine ⟨.inl ⟨rfl,xs,.of hx⟩,σd,ι',S',he.ext e',s',o'.bind.mono fun ds S2 ι2 H2 _ _ ⟨s2,e2,o2⟩ vs rs=>⟨ι2,S2,.loc l,ds,s2,r0.ext e2,rs,o2⟩⟩
    | dct kvs =>
     have:S'[l]?=some (.dct kvs):=by rw [List.getElem?_eq_getElem hlt,e]
     have hl:(match S'[l]? with|some (.lst _)=>true|_=>false)=true:=hl
     rw [this] at hl; cases hl
  | _=>exact absurd hl Bool.false_ne_true
end
end EV

namespace EV
open PySem PySem.Spec PyProof.Rows L2
noncomputable def kF (Γ:Gx) (src:Src) (J:It) (ι0:List Addr) (H0:Hp):Prop:=∀ ι H S,Ext ι0 ι H0 H->aq Γ ι H S->aK src S=.ok () S ->
 (∀ (i:Nat) d,src.its[i]?=some d->J.go i H/\∀ x H',J.yld i H x H'->Ext ι ι H H'/\aq Γ ι H' S/\Rep Γ ι H' d x)/\J.stop src.its.length H
noncomputable def tMI (Γ:Gx) (xw:XW) (m:Sg->M Src):TI:=fun σ H R=>∃ σd ι S,aQ Γ ι H σ σd/\aq Γ ι H S/\Out Γ xw ι H (m σd S) fun src _ ι' H'=>∀ J,kF Γ src J ι' H'->R J H'
theorem gJ (src:Src) (S:af):aK src S=.ok () S\/aK src S=.bad:=by
 unfold aK
 cases src.l with
 | none=>exact .inl rfl
 | some l =>
  dsimp only
  cases listAt S l with
  | none=>exact .inr rfl
  | some ds =>
   by_cases h:ds=src.raw
   ·exact .inl (by simp only [h,decide_true]; rfl)
   ·exact .inr (by simp only [h,decide_false]; rfl)
section
variable {X:Cx} {Γ:Gx} {xw:XW} {tg a:Expr} {ma:Sg->M D} {pos:Pos}
theorem PI.imp {iter:Expr} {t t':TI} (h:PI X tg iter t) (f:∀ σ H R,t' σ H R->t σ H R):PI X tg iter t':=fun pins s σ H R I q=>h pins s σ H R I (f σ H R q)
noncomputable def iSq (K:PySem.W.Frag) (tl:TE):TI:=fun σ H R=>tl σ H fun x H1=>∃ a,x=.ref a/\(((∃ xs,SqL K H1 a xs)/\R (Itl K a) H1)\/((∃ xs,SqT K H1 a xs)/\R (Itt K a) H1))
theorem zd {l:Expr} {tl:TE} (hl:PE X l tl):PI X tg l (iSq X.K tl):=by
 intro pins s σ H R I h
 refine thn (hl pins s σ H _ I h) fun v s1 ⟨x,H1,I1,r1,q1⟩=>?_
 obtain ⟨a,e,q1⟩:=q1
 subst e
 cases r1
 rcases q1 with ⟨⟨xs,hq⟩,q⟩|⟨⟨xs,hq⟩,q⟩
 ·have hc:PE X l (fun σ H Q=>True->True->tl σ H Q):=fun pins s σ H Q I h=>hl pins s σ H Q I (h trivial trivial)
  obtain ⟨its,rv,p,hz⟩:=I1.list hq
  refine wpAny_pyIter_list p.isList ?_
  refine ⟨s1.heap.objs.size,[s1.heap.objs.size],_,_,H1,rfl,I1.kept (t':=s1.toks) fun b o e=>Heap.get?_push_of_some _ e,Cf a _,⟨_,Heap.get?_push_size _ rfl,rfl,rfl⟩,fun b hb=>?_,q⟩
  have e:b=s1.heap.objs.size:=by simpa using hb
  subst e
  exact I1.fB (Nat.le_refl _) (I1.hok.fresh (Nat.le_refl _))
 ·obtain ⟨its,rv,p,hz⟩:=I1.tuple hq
  refine wpAny_pyIter_tuple (show s1.heap.IsTuple a its.toArray from p) ?_
  refine ⟨s1.heap.objs.size,[s1.heap.objs.size],_,_,H1,rfl,I1.kept (t':=s1.toks) fun b o e=>Heap.get?_push_of_some _ e,A8 a _,⟨_,Heap.get?_push_size _ rfl,rfl,rfl⟩,fun b hb=>?_,q⟩
  have e:b=s1.heap.objs.size:=by simpa using hb
  subst e
  exact I1.fB (Nat.le_refl _) (I1.hok.fresh (Nat.le_refl _))
theorem m8 {ι:List Addr} {H:Hp} {S:af} {d:D} {v:V} {src:Src} {S':af} (hS:aq Γ ι H S) (r:Rep Γ ι H d v) (h:srcOf d S=.ok src S'):S'=S/\src.its=src.raw/\aK src S=.ok () S/\∃ a tup,v=.ref a/\(∃ xs,SqB Γ.K H tup a xs) /\
  ∀ ι1 H1 S1,Ext ι ι1 H H1->aq Γ ι1 H1 S1->aK src S1=.ok () S1->∃ xs,SqB Γ.K H1 tup a xs/\au Γ ι1 H1 src.raw xs:=by
 cases d with
 | tup ds =>
  cases h
  obtain ⟨a,xs,e,t,p⟩:=r.bH
  exact ⟨rfl,rfl,rfl,a,true,e,⟨xs,t⟩,fun ι1 H1 S1 e1 _ _=>⟨xs,e1.sqT t,au.ext e1 p⟩⟩
 | fro ds =>
  cases h
  obtain ⟨a,xs,e,t,p⟩:=r.fm
  exact ⟨rfl,rfl,rfl,a,false,e,⟨xs,t.sq⟩,fun ι1 H1 S1 e1 _ _=>⟨xs,(e1.fro t).sq,au.ext e1 p⟩⟩
 | loc l =>
  have h:(items (.loc l)>>=fun ds=>pure (⟨ds,some l,ds⟩:Src)) S=.ok src S':=h
  rcases gX (.loc l) S with ⟨ds,e⟩|e
  ·rw [ao e] at h
   cases h
   obtain ⟨_,a,xs,e2,_,p,t⟩:=ck hS r e
   subst e2
   have hl:listAt S l=some ds:=by
    rw [qw] at e
    cases q:listAt S l with
    | none=>rw [q] at e; cases e
    | some es=>rw [q] at e; cases e; rfl
   refine ⟨rfl,rfl,?_,a,false,rfl,⟨xs,t l rfl⟩,fun ι1 H1 S1 e1 s1 st=>?_⟩
   ·unfold aK; simp only [hl,decide_true]; rfl
   ·have hl1:listAt S1 l=some ds:=by
     unfold aK at st
     dsimp only at st
     cases q:listAt S1 l with
     | none=>rw [q] at st; cases st
     | some es =>
      rw [q] at st
      by_cases h:es=ds
      ·rw [h]
      ·simp only [h,decide_false] at st; cases st
    obtain ⟨b,ys,e3,sb,p1⟩:=s1.list (r.ext e1) (show asL S1 (.loc l)=some ds from hl1)
    cases e3
    exact ⟨ys,sb,p1⟩
  ·rw [aT e] at h; cases h
 | _=>cases h
theorem lH (d:D) (S:af):(∃ src,srcOf d S=.ok src S)\/srcOf d S=.bad:=by
 cases d with
 | tup ds=>exact .inl ⟨_,rfl⟩
 | fro ds=>exact .inl ⟨_,rfl⟩
 | loc l =>
  show (∃ src,(items (.loc l)>>=fun ds=>pure (⟨ds,some l,ds⟩:Src)) S=.ok src S)\/(items (.loc l)>>=fun ds=>pure (⟨ds,some l,ds⟩:Src)) S=.bad
  rcases gX (.loc l) S with ⟨ds,e⟩|e
  ·rw [ao e]; exact .inl ⟨_,rfl⟩
  ·rw [aT e]; exact .inr rfl
 | _=>exact .inr rfl
theorem xr (hK:Γ.K=X.K) (ha:PE X a (tM Γ xw ma)):PI X tg a (tMI Γ xw fun σ=>ma σ>>=srcOf) :=
 PI.imp (zd ha) fun σ H R h=>by
  obtain ⟨σd,ι,S,he,hs,ho⟩:=h
  refine ⟨σd,ι,S,he,hs,ho.bind.mono fun d S' ι' H' _ _ ⟨s',e',o'⟩ v r=>?_⟩
  rcases lH d S' with ⟨src,q⟩|q
  ·rw [q] at o'
   obtain ⟨_,e1,st,a,tup,rfl,⟨xs,sq⟩,hall⟩:=m8 s' r q
   refine ⟨a,rfl,?_⟩
   have fin:=o'.here s'
   cases tup with
   | true =>
    refine .inr ⟨⟨xs,by rw [<- hK]; exact sq⟩,fin _ fun ι1 H1 S1 e2 s1 st1=>?_⟩
    obtain ⟨ys,sq1,p1⟩:=hall ι1 H1 S1 e2 s1 st1
    have sq1:SqT X.K H1 a ys:=by rw [<- hK]; exact sq1
    rw [e1]
    refine ⟨fun i d hd=>?_,ys,sq1,by rw [p1.length]; exact Nat.le_refl _⟩
    obtain ⟨y,hy,r1⟩:=Paired.get p1 hd
    exact ⟨⟨ys,y,sq1,hy⟩,fun x H' ⟨e3,hx⟩=>by
     subst e3
     have:=hx ys sq1
     rw [hy] at this; cases this
     exact ⟨.refl,s1,r1⟩⟩
   | false =>
    refine .inl ⟨⟨xs,by rw [<- hK]; exact sq⟩,fin _ fun ι1 H1 S1 e2 s1 st1=>?_⟩
    obtain ⟨ys,sq1,p1⟩:=hall ι1 H1 S1 e2 s1 st1
    have sq1:SqL X.K H1 a ys:=by rw [<- hK]; exact sq1
    rw [e1]
    refine ⟨fun i d hd=>?_,ys,sq1,by rw [p1.length]; exact Nat.le_refl _⟩
    obtain ⟨y,hy,r1⟩:=Paired.get p1 hd
    exact ⟨⟨ys,y,sq1,hy⟩,fun x H' ⟨e3,hx⟩=>by
     subst e3
     have:=hx ys sq1
     rw [hy] at this; cases this
     exact ⟨.refl,s1,r1⟩⟩
  ·rw [q] at o'; exact o'.elim
theorem n5:∀ {ds:List D} {k i:Nat} {d:D},(num k ds)[i]?=some d->∃ e,ds[i]?=some e/\d=.tup [.int ((k+i:Nat):Int),e]
 | [],k,i,d,h=>by simp [num] at h
 | x::r,k,0,d,h=>by simp [num] at h; exact ⟨x,rfl,by rw [<- h]; simp⟩
 | x::r,k,i+1,d,h=>by
  have h:(num (k+1) r)[i]?=some d:=by simpa [num] using h
  obtain ⟨e,h1,h2⟩:=n5 h
  exact ⟨e,by simpa using h1,by rw [h2]; congr 3; omega⟩
theorem mq:∀ (ds:List D) (k:Nat),(num k ds).length=ds.length
 | [],_=>rfl
 | _::r,k=>by simp [num,mq r]
theorem yI {p:Pos} {elts:List Expr} {k1:Nat} {tp:Pos} (hK:Γ.K=X.K) (hg:Gl X "enumerate") (hm:X.mg "enumerate" = none) (hv:bootBuiltins "enumerate" = some (.type "enumerate")) (ha:PE X a (tM Γ xw ma)) (hs:starEach [a] X.env=[(false,eval a X.env)]) :
  PI X (.Tuple elts k1 tp) (.Call (.Name "enumerate" p) [a] [] pos) (tMI Γ xw fun σ=>ma σ>>=fun d=>srcOf d>>=fun s=>pure { s with its:=num 0 s.its }) :=
 PI.imp (w9 hg hm hv (fy ha gb (by rw [hs]; rfl)) hs) fun σ H R h=>by
  obtain ⟨σd,ι,S,he,hs,ho⟩:=h
  refine ⟨σd,ι,S,he,hs,ho.bind.mono fun d S' ι' H' _ _ ⟨s',e',o'⟩ v r=>?_⟩
  rcases lH d S' with ⟨src,q⟩|q
  ·rw [ao q] at o'
   obtain ⟨_,e1,st,a,tup,rfl,⟨xs,sq⟩,hall⟩:=m8 s' r q
   have fin:=o'.here s'
   refine ⟨tup,a,rfl,⟨xs,by rw [<- hK]; exact sq⟩,fin _ fun ι1 H1 S1 e2 s1 st1=>?_⟩
   obtain ⟨ys,sq1,p1⟩:=hall ι1 H1 S1 e2 s1 st1
   have sq1:SqB X.K H1 tup a ys:=by rw [<- hK]; exact sq1
   refine ⟨fun i d hd=>?_,ys,sq1,by show ys.length<=(num 0 src.its).length; rw [mq,e1,p1.length]; exact Nat.le_refl _⟩
   obtain ⟨e,he',rfl⟩:=n5 hd
   rw [e1] at he'
   obtain ⟨y,hy,r1⟩:=Paired.get p1 he'
   refine ⟨⟨ys,y,sq1,hy⟩,?_⟩
   rintro x H' ⟨z,p,hz,hp,rfl,rfl⟩
   have hz:=hz ys sq1
   rw [hy] at hz; cases hz
   refine ⟨Ext.laid hp,s1.laid hp _,.gz (.of b5) (.cons ?_ (.cons (r1.ext (Ext.laid hp)) .nil))⟩
   rw [Nat.zero_add]; exact .int _
  ·rw [aT q] at o'; exact o'.elim
theorem kr (lo hi:Int):rng lo hi 1=(List.range (hi - lo).toNat).map fun (k:Nat)=>lo+k:=by
 unfold rng
 rw [if_pos (by decide)]
 have:(hi - lo+1 - 1) / 1=hi - lo:=by rw [Int.ediv_one]; omega
 rw [this]
 simp
theorem Av (lo hi:Int):rng lo hi (-1)=(List.range (lo - hi).toNat).map fun (k:Nat)=>lo - k:=by
 unfold rng
 rw [if_neg (by decide),if_pos (by decide)]
 have:(lo - hi - -1 - 1) / -(-1)=lo - hi:=by rw [show (-(-1):Int)=1 from rfl,Int.ediv_one]; omega
 rw [this]
 refine List.map_congr_left fun k _=>?_
 omega
theorem oR {n i k:Nat} (h:(List.range n)[i]?=some k):k=i/\i < n:=by
 obtain ⟨h1,h2⟩:=List.getElem?_eq_some_iff.mp h
 rw [List.getElem_range] at h2
 rw [List.length_range] at h1
 exact ⟨h2.symm,h1⟩
theorem lB {ι:List Addr} {H:Hp} (lo hi:Int):kF Γ ⟨(rng lo hi 1).map .int,none,[]⟩ (Itr lo (hi - lo).toNat) ι H:=fun ι1 H1 S1 e s1 st=>by
 rw [kr,List.map_map]
 refine ⟨fun i d hd=>?_,by show (hi - lo).toNat<=_; simp⟩
 have hd:((List.range (hi - lo).toNat).map (D.int ∘ fun (k:Nat)=>lo+k))[i]?=some d:=hd
 rw [List.getElem?_map,Option.map_eq_some_iff] at hd
 obtain ⟨k,hk,rfl⟩:=hd
 obtain ⟨rfl,hlt⟩:=oR hk
 exact ⟨hlt,fun x H' ⟨e1,e2⟩=>by subst e1; subst e2; exact ⟨.refl,s1,.int _⟩⟩
theorem Bq {ι:List Addr} {H:Hp} (lo hi:Int):kF Γ ⟨(rng lo hi (-1)).map .int,none,[]⟩ (ji lo (lo - hi).toNat) ι H:=fun ι1 H1 S1 e s1 st=>by
 rw [Av,List.map_map]
 refine ⟨fun i d hd=>?_,by show (lo - hi).toNat<=_; simp⟩
 have hd:((List.range (lo - hi).toNat).map (D.int ∘ fun (k:Nat)=>lo - k))[i]?=some d:=hd
 rw [List.getElem?_map,Option.map_eq_some_iff] at hd
 obtain ⟨k,hk,rfl⟩:=hd
 obtain ⟨rfl,hlt⟩:=oR hk
 exact ⟨hlt,fun x H' ⟨e1,e2⟩=>by subst e1; subst e2; exact ⟨.refl,s1,.int _⟩⟩
theorem ez {i:Int} (h:near i=true):-(2 ^ 62)<=i/\i < 2 ^ 62:=of_decide_eq_true h
variable {b c:Expr} {m:Sg->M (List D)} {p:Pos}
theorem Out.monoE {α:Type} {r:Res α} {ι:List Addr} {H:Hp} {k k':α->af->List Addr->Hp->Prop} (h:Out Γ xw ι H r k) (f:∀ a S' ι' H',r=.ok a S'->Ext ι ι' H H'->aq Γ ι' H' S'->k a S' ι' H'->k' a S' ι' H'):Out Γ xw ι H r k':=by
 cases r with
 | ok a S'=>exact fun ι' H' e' s'=>f _ _ _ _ rfl e' s' (h ι' H' e' s')
 | exc c S'=>exact h
 | bad=>exact h
theorem AW (hg:Gl X "range") (hm:X.mg "range" = none) (ha:PA X [a] (tMA Γ xw m)) (hs:starEach [a] X.env=[(false,eval a X.env)]) (hlen:∀ σ S ds S',m σ S=.ok ds S'->ds.length=1) :
  PI X tg (.Call (.Name "range" p) [a] [] pos) (tMI Γ xw fun σ=>m σ>>=fun ds=>opt (bJ ds)>>=fun is=>pure ⟨is.map .int,none,[]⟩) :=
 PI.imp (AR hg hm ha hs) fun σ H R h=>by
  obtain ⟨σd,ι,S,he,hs,ho⟩:=h
  refine ⟨σd,ι,S,he,hs,Out.monoE ho.bind fun ds S' ι' H' eq _ _ ⟨s',e',o'⟩ vs rs=>?_⟩
  have hl:=hlen _ _ _ _ eq
  obtain ⟨is,q,o'⟩:=Out.opt o'
  have fin:=o'.here s'
  obtain ⟨d,_,_,_,rfl,rfl,r,rs,hl⟩:=Paired.step rs hl
  obtain ⟨rfl,rfl⟩:=Paired.last rs hl
  (
   cases r with
   | int j =>
    simp only [bJ] at q
    split at q
    ·rename_i hn
     cases q
     have hn:=ez hn
     refine ⟨j,rfl,hn.1,hn.2,fin _ ?_⟩
     have:=lB (Γ:=Γ) (ι:=ι') (H:=H') 0 j
     rw [Int.sub_zero] at this
     exact this
    ·cases q
   | _=>cases q)
theorem yf (hg:Gl X "range") (hm:X.mg "range" = none) (ha:PA X [a,b] (tMA Γ xw m)) (hs:starEach [a,b] X.env=[(false,eval a X.env),(false,eval b X.env)]) (hs2:starEach [b] X.env=[(false,eval b X.env)]) (hlen:∀ σ S ds S',m σ S=.ok ds S'->ds.length=2) :
  PI X tg (.Call (.Name "range" p) [a,b] [] pos) (tMI Γ xw fun σ=>m σ>>=fun ds=>opt (bJ ds)>>=fun is=>pure ⟨is.map .int,none,[]⟩) :=
 PI.imp (uq hg hm ha hs hs2) fun σ H R h=>by
  obtain ⟨σd,ι,S,he,hs,ho⟩:=h
  refine ⟨σd,ι,S,he,hs,Out.monoE ho.bind fun ds S' ι' H' eq _ _ ⟨s',e',o'⟩ vs rs=>?_⟩
  have hl:=hlen _ _ _ _ eq
  obtain ⟨is,q,o'⟩:=Out.opt o'
  have fin:=o'.here s'
  obtain ⟨d,_,_,_,rfl,rfl,r,rs,hl⟩:=Paired.step rs hl
  obtain ⟨e,_,_,_,rfl,rfl,r2,rs,hl⟩:=Paired.step rs hl
  obtain ⟨rfl,rfl⟩:=Paired.last rs hl
  (
   cases r with
   | int i =>
    cases r2 with
    | int j =>
     simp only [bJ] at q
     split at q
     ·rename_i hn
      cases q
      rw [Bool.and_eq_true] at hn
      have h1:=ez hn.1
      have h2:=ez hn.2
      exact ⟨i,j,rfl,⟨h1.1,h1.2,h2.1,h2.2⟩,fin _ (lB i j)⟩
     ·cases q
    | _=>cases q
   | _=>cases q)
theorem wH (hg:Gl X "range") (hm:X.mg "range" = none) (ha:PA X [a,b,c] (tMA Γ xw m)) (hs:starEach [a,b,c] X.env=[(false,eval a X.env),(false,eval b X.env),(false,eval c X.env)]) (hs2:starEach [b,c] X.env=[(false,eval b X.env),(false,eval c X.env)]) (hlen:∀ σ S ds S',m σ S=.ok ds S'->ds.length=3) :
  PI X tg (.Call (.Name "range" p) [a,b,c] [] pos) (tMI Γ xw fun σ=>m σ>>=fun ds=>opt (bJ ds)>>=fun is=>pure ⟨is.map .int,none,[]⟩) :=
 PI.imp (vD hg hm ha hs hs2) fun σ H R h=>by
  obtain ⟨σd,ι,S,he,hs,ho⟩:=h
  refine ⟨σd,ι,S,he,hs,Out.monoE ho.bind fun ds S' ι' H' eq _ _ ⟨s',e',o'⟩ vs rs=>?_⟩
  have hl:=hlen _ _ _ _ eq
  obtain ⟨is,q,o'⟩:=Out.opt o'
  have fin:=o'.here s'
  obtain ⟨d,_,_,_,rfl,rfl,r,rs,hl⟩:=Paired.step rs hl
  obtain ⟨e,_,_,_,rfl,rfl,r2,rs,hl⟩:=Paired.step rs hl
  obtain ⟨f,_,_,_,rfl,rfl,r3,rs,hl⟩:=Paired.step rs hl
  obtain ⟨rfl,rfl⟩:=Paired.last rs hl
  (
   cases r with
   | int i =>
    cases r2 with
    | int j =>
     cases r3 with
     | int k =>
      simp only [bJ] at q
      split at q
      ·rename_i hn
       cases q
       rw [Bool.and_eq_true,Bool.and_eq_true] at hn
       have h1:=ez hn.1.1
       have h2:=ez hn.1.2
       have h3:k=-1:=of_decide_eq_true hn.2
       subst h3
       exact ⟨i,j,rfl,⟨h1.1,h1.2,h2.1,h2.2⟩,fin _ (Bq i j)⟩
      ·cases q
     | _=>cases q
    | _=>cases q
   | _=>cases q)
noncomputable def tMG (Γ:Gx) (t:Tg):TG:=fun v σ H Q=>∃ σd ι S d σd',aQ Γ ι H σ σd/\aq Γ ι H S/\Rep Γ ι H d v/\aN t d σd S=.ok σd' S/\∀ σ',aQ Γ ι H σ' σd'->(∀ j,t.has j=false->σ'[j]?=σ[j]?)->Q σ' H
theorem PG.imp {target:Expr} {t t':TG} (h:PG X target t) (f:∀ v σ H Q,t' v σ H Q->t v σ H Q):PG X target t':=fun pins s σ H v u Q I r q=>h pins s σ H v u Q I r (f v σ H Q q)
theorem uo {i:Nat} {x:Str} (hN:X.N.Nodup) (hi:X.N[i]?=some x) (hx:Loc X.env.scope x) (hf:X.fn x=true\/X.env.scope.names.lookup x=some .local):PG X (.Name x pos) (tMG Γ (.one i)) :=
 PG.imp (nZ hN hi hx hf) fun v σ H Q h=>by
  obtain ⟨σd,ι,S,d,σd',he,hs,r,hb,q⟩:=h
  cases hb
  exact q _ (he.set i r) fun j hj=>by rw [List.getElem?_set_ne (by intro z; subst z; simp [Tg.has] at hj)]
noncomputable def kT:List Nat->TGs
 | []=>nG
 | i::r=>lF (f_ i) (kT r)
noncomputable def g7 (X:Cx):List Expr->List Nat->Prop:=Paired fun e i=>∃ x p,e=.Name x p/\X.N[i]?=some x/\Loc X.env.scope x/\(X.fn x=true\/X.env.scope.names.lookup x=some .local)
theorem pP (hN:X.N.Nodup):∀ {es:List Expr} {is:List Nat},g7 X es is->PGs X es (kT is)
 | _,_,.nil=>AD
 | _,_,.cons ⟨x,p,e,h1,h2,h3⟩ r=>by
  subst e
  exact wI (nZ hN h1 h2 h3) (pP hN r) rfl
theorem i8:∀ {es:List Expr} {is:List Nat},g7 X es is->(assignEach es X.env).length=is.length/\(assignEach es X.env).findIdx? (·.1)=none
 | _,_,.nil=>⟨rfl,rfl⟩
 | _,_,.cons ⟨x,p,e,h1,h2,h3⟩ r=>by
  subst e
  obtain ⟨a,b⟩:=i8 r
  refine ⟨congrArg (· + 1) a,?_⟩
  show List.findIdx? (·.1) ((false,_)::assignEach _ X.env)=none
  rw [List.findIdx?_cons]
  simp only [Bool.false_eq_true,if_false]
  rw [b]; rfl
theorem l6 {ι:List Addr} {H:Hp} {Q:L2.St->Hp->Prop}:∀ {is:List Nat} {ds:List D} {xs:List V} {σ:L2.St} {σd:Sg},ds.length=is.length->au Γ ι H ds xs->aQ Γ ι H σ σd->(∀ σ',aQ Γ ι H σ' (bM is ds σd)->(∀ j,is.contains j=false->σ'[j]?=σ[j]?)->Q σ' H)->kT is xs σ H Q
 | [],[],_,σ,σd,_,.nil,he,q=>⟨rfl,q _ he fun _ _=>rfl⟩
 | i::is,d::ds,_,σ,σd,hl,.cons (b:=v) r rr,he,q=>⟨v,_,rfl,l6 (by simpa using hl) rr (he.set i r) fun σ' h' hl'=>q σ' h' fun j hj=>by
   rw [List.contains_cons,Bool.or_eq_false_iff] at hj
   rw [hl' j hj.2,List.getElem?_set_ne (by intro z; subst z; simp at hj)]⟩
 | [],_::_,_,_,_,hl,_,_,_=>by simp at hl
 | _::_,[],_,_,_,hl,_,_,_=>by simp at hl
theorem qL {es:List Expr} {is:List Nat} {k:Nat} (hK:Γ.K=X.K) (hc:X.calm=true) (hN:X.N.Nodup) (hn:g7 X es is):PG X (.Tuple es k pos) (tMG Γ (.many is)) :=
 PG.imp (B5 hc (pP hN hn) (i8 hn).1 (i8 hn).2) fun v σ H Q h=>by
  obtain ⟨σd,ι,S,d,σd',he,hs,r,hb,q⟩:=h
  cases d with
  | tup ds =>
   obtain ⟨a,xs,rfl,t,p⟩:=r.bH
   have hb:guard (decide (ds.length=is.length)) (pure (bM is ds σd):M Sg) S=.ok σd' S:=hb
   by_cases hl:ds.length=is.length
   ·rw [show decide (ds.length=is.length)=true from decide_eq_true hl] at hb
    cases hb
    exact ⟨a,xs,rfl,by rw [<- hK]; exact t,by rw [<- p.length]; exact hl,l6 hl p he q⟩
   ·rw [show decide (ds.length=is.length)=false from decide_eq_false hl] at hb
    cases hb
  | _=>cases hb
theorem kH (t:Tg) (d:D) (σ:Sg) (S:af):(∃ σ',aN t d σ S=.ok σ' S/\σ'.length=σ.length)\/aN t d σ S=.bad:=by
 have hlen:∀ (is:List Nat) (ds:List D) (σ:Sg),(bM is ds σ).length=σ.length:=by
  intro is
  induction is with
  | nil=>intro ds σ; cases ds <;> rfl
  | cons i r ih=>intro ds σ; cases ds with
   | nil=>rfl
   | cons d ds=>show (bM r ds (σ.set i (some d))).length=_; rw [ih,List.length_set]
 cases t with
 | one i=>exact .inl ⟨_,rfl,by rw [List.length_set]⟩
 | many is =>
  cases d with
  | tup ds =>
   show (∃ σ',guard (decide (ds.length=is.length)) (pure (bM is ds σ):M Sg) S=.ok σ' S/\_)\/guard (decide (ds.length=is.length)) (pure (bM is ds σ):M Sg) S=.bad
   by_cases hl:ds.length=is.length
   ·rw [show decide (ds.length=is.length)=true from decide_eq_true hl]
    exact .inl ⟨_,rfl,hlen _ _ _⟩
   ·rw [show decide (ds.length=is.length)=false from decide_eq_false hl]
    exact .inr rfl
  | _=>exact .inr rfl
theorem Out.aN {α:Type} {t:Tg} {d:D} {σd:Sg} {ι:List Addr} {H:Hp} {S:af} {f:Sg->M α} {k:α->af->List Addr->Hp->Prop} (ho:Out Γ xw ι H ((EV.aN t d σd>>=f) S) k):∃ σd',EV.aN t d σd S=.ok σd' S/\σd'.length=σd.length/\Out Γ xw ι H (f σd' S) k:=by
 rcases kH t d σd S with ⟨σ',e,l⟩|e
 ·rw [ao e] at ho; exact ⟨σ',e,l,ho⟩
 ·rw [aT e] at ho; exact ho.elim
end
end EV

namespace EV
open PySem PySem.Spec PyProof.Rows L2
noncomputable def XF:XW:=fun _ _ _ _=>False
section
variable {Γ:Gx} {xw:XW} {ι ι':List Addr} {H H':Hp} {S:af} {σ:L2.St}
theorem aq.take (hS:aq Γ ι H S) {l:Addr} {xs:List V} {ds:List D} (hn:l ∉ ι) (h:H l=some (.lst xs)) (r:au Γ ι H ds xs):aq Γ (ι++[l]) H (S++[.lst ds]):=by
 have mv:∀ {d:D} {v:V},Rep Γ ι H d v->Rep Γ (ι++[l]) H d v:=fun r=>r.move (List.prefix_append _ _) (fun _ _ e=>e) fun _ _ _ e=>e
 refine ⟨by simp [hS.len],List.nodup_append.mpr ⟨hS.nd,by simp,?_⟩,fun m c hm=>?_⟩
 ·intro a ha b hb
  have:b=l:=by simpa using hb
  subst this
  exact fun z=>hn (z ▸ ha)
 ·by_cases hl:m < S.length
  ·rw [List.getElem?_append_left hl] at hm
   obtain ⟨a,ha,c1⟩:=hS.cell m c hm
   refine ⟨a,d_ (List.prefix_append _ _) ha,?_⟩
   cases c with
   | lst zs=>obtain ⟨ws,hw,rw'⟩:=c1; exact ⟨ws,hw,Paired.imp (fun _ _ r=>mv r) rw'⟩
   | dct kvs=>obtain ⟨ws,hw,rw'⟩:=c1; exact ⟨ws,hw,Paired.imp (fun _ _ q=>⟨q.1,mv q.2⟩) rw'⟩
  ·rw [List.getElem?_append_right (by omega)] at hm
   have hl2:m - S.length=0:=by
    have:=(List.getElem?_eq_some_iff.mp hm).1
    simp at this; omega
   rw [hl2] at hm
   have h':(Cell.lst ds)=c:=by simpa using hm
   subst h'
   have e1:m=ι.length:=by rw [hS.len]; omega
   subst e1
   exact ⟨l,by simp,xs,h,Paired.imp (fun _ _ r=>mv r) r⟩
theorem Ext.past (e:Ext ι ι' H H') {l:Addr} {ys:List V} (hl:H l=none):Ext ι ι' H (upd H' l (.lst ys)) :=
 ⟨e.pre,fun a xs h=>by rw [aE (aV h hl)]; exact e.tup a xs h,fun a o u h=>by rw [aE (aV h hl)]; exact e.frz a o u h,fun a o h n=>by rw [aE (aV h hl)]; exact e.oth a o h n,e.fresh⟩
theorem Ext.dM (e:Ext ι ι' H H') {l:Addr} {o:HO} (h:H l=some o) (hn:l ∉ ι):H' l=some o/\l ∉ ι':=⟨e.oth l o h hn,fun m=>by have:=e.fresh l m hn; rw [h] at this; cases this⟩
theorem BA {src:Src} {f:D->M (Option D)} {post:List D} {S2:af} (h:bq src f [] S=.ok post S2):aK src S=.ok () S/\post=[]/\S2=S:=by
 have h:(aK src>>=fun _=>pure []) S=.ok post S2:=h
 rcases gJ src S with e|e
 ·rw [ao e] at h; cases h; exact ⟨e,rfl,rfl⟩
 ·rw [aT e] at h; cases h
theorem wz {src:Src} {f:D->M (Option D)} {d:D} {rest post:List D} {S2:af} (h:bq src f (d::rest) S=.ok post S2) :
  aK src S=.ok () S/\∃ y S3 post',f d S=.ok y S3/\bq src f rest S3=.ok post' S2/\post=(match y with|some y=>y::post'|none=>post'):=by
 have h:(aK src>>=fun _=>f d>>=fun y=>bq src f rest>>=fun ys=>pure (match y with|some y=>y::ys|none=>ys)) S=.ok post S2:=h
 rcases gJ src S with e|e
 ·rw [ao e] at h
  cases q:f d S with
  | bad=>rw [aT q] at h; cases h
  | exc c S3=>rw [bW q] at h; cases h
  | ok y S3 =>
   rw [ao q] at h
   cases q2:bq src f rest S3 with
   | bad=>rw [aT q2] at h; cases h
   | exc c S4=>rw [bW q2] at h; cases h
   | ok ys S4=>rw [ao q2] at h; cases h; exact ⟨e,y,S3,ys,rfl,q2,rfl⟩
 ·rw [aT e] at h; cases h
end
section
variable {X:Cx} {Γ:Gx} {xw:XW} {scope:Scope} {N':List Str} {k:Nat} {elt iter tg:Expr} {ifs:List Expr} {pos:Pos} {mi:Sg->M Src} {t:Tg} {nt:Sg->M Bool} {me:Sg->M D}
noncomputable def iB (k:Nat) (mi:Sg->M Src) (t:Tg) (nt:Sg->M Bool) (me:Sg->M D):Sg->M D:=fun σ=>mi σ>>=fun s =>
 quiet (bq s (fun d=>aN t d (σ++List.replicate k none)>>=fun σ'=>nt σ'>>=fun b=>if b=true then me σ'>>=fun y=>pure (some y) else pure none) s.its)>>=fun ys=>guard (fits ys.length) (alloc (.lst ys))
theorem pC (hslot:∀ j,j < X.N.length->t.has j=false) {σ:L2.St} (hσ:σ.length=X.N.length) {H:Hp} {Q:VK} (h:tM Γ xw (iB k mi t nt me) σ H Q):j8 k (tMI Γ xw mi) (tMG Γ t) (tMT Γ XF nt) (tM Γ XF me) σ H Q:=by
 obtain ⟨σd,ι,S,hE,hS,ho⟩:=h
 refine ⟨σd,ι,S,hE,hS,ho.bind.mono fun src S1 ι1 H1 _ _ ⟨s1,e1,o1⟩ J hJ l hl=>?_⟩
 generalize hf:(fun d=>aN t d (σd++List.replicate k none)>>=fun σ'=>nt σ'>>=fun b=>if b=true then me σ'>>=fun y=>pure (some y) else pure none)=f at o1
 cases q:bq src f src.its S1 with
 | bad=>rw [aT (show quiet (bq src f src.its) S1=.bad by unfold quiet; rw [q])] at o1; exact o1.elim
 | exc c S2=>rw [aT (show quiet (bq src f src.its) S1=.bad by unfold quiet; rw [q])] at o1; exact o1.elim
 | ok ys S2 =>
  rw [ao (show quiet (bq src f src.its) S1=.ok ys S2 by unfold quiet; rw [q])] at o1
  obtain ⟨hz,o1⟩:=Out.guard o1
  have hz:=cK hz
  refine ⟨fun i m H=>∃ ι' S' pre post xs,i<=src.its.length/\m=src.its.length - i/\Ext ι1 ι' H1 H/\aq Γ ι' H S'/\l ∉ ι'/\H l=some (.lst xs)/\au Γ ι' H pre xs/\bq src f (src.its.drop i) S'=.ok post S2/\ys=pre++post/\aQ Γ ι' H σ σd,
   ⟨src.its.length,ι1,S1,[],ys,[],Nat.zero_le _,rfl,Ext.laid hl,s1.laid hl _,s1.new hl,b5,.nil,q,rfl,(hE.ext e1).ext (Ext.laid hl)⟩,?_⟩
  rintro i m H ⟨ι',S',pre,post,xs,hi,rfl,eH,sH,ln,hH,rp,hc,hys,eE⟩
  by_cases hlt:i < src.its.length
  ·rw [List.drop_eq_getElem_cons hlt] at hc
   obtain ⟨st,y,S3,post',hfd,hc',hpost⟩:=wz hc
   obtain ⟨jgo,jyld⟩:=(hJ ι' H S' eH sH st).1 i src.its[i] (List.getElem?_eq_getElem hlt)
   refine .inr ⟨jgo,fun x H' yl=>?_⟩
   obtain ⟨eX,sX,rX⟩:=jyld x H' yl
   obtain ⟨hH',_⟩:=eX.dM hH ln
   rw [<- hf] at hfd
   have hfd:(aN t src.its[i] (σd++List.replicate k none)>>=fun σ'=>nt σ'>>=fun b=>if b=true then me σ'>>=fun y=>pure (some y) else pure none) S'=.ok y S3:=hfd
   obtain ⟨σd',hb⟩:∃ σd',aN t src.its[i] (σd++List.replicate k none) S'=.ok σd' S':=by
    rcases kH t src.its[i] (σd++List.replicate k none) S' with ⟨σd',hb,_⟩|hb
    ·exact ⟨σd',hb⟩
    ·rw [aT hb] at hfd; cases hfd
   rw [ao hb] at hfd
   refine ⟨σd++List.replicate k none,ι',S',src.its[i],σd',(eE.ext eX).more k,sX,rX,hb,fun σ' hE' hK=>⟨fun j v hj=>?_,?_⟩⟩
   ·rw [hK j (hslot j ?_)]; exact hj
    by_cases hjl:j < σ.length
    ·omega
    ·rw [List.getElem?_append_right (by omega),List.getElem?_replicate] at hj
     split at hj <;> cases hj
   ·cases qn:nt σd' S' with
    | bad=>rw [aT qn] at hfd; cases hfd
    | exc c S4=>rw [bW qn] at hfd; cases hfd
    | ok b S4 =>
     rw [ao qn] at hfd
     refine ⟨σd',ι',S',hE',sX,?_⟩
     rw [qn]
     intro ι3 H3 e3 s3
     obtain ⟨hH3,ln3⟩:=e3.dM hH' ln
     have eA:Ext ι1 ι3 H1 H3:=(eH.trans eX).trans e3
     cases b with
     | false =>
      rw [if_neg Bool.false_ne_true] at hfd ⊢
      cases hfd
      exact ⟨src.its.length - (i+1),by omega,ι3,_,pre,post',xs,hlt,rfl,eA,s3,ln3,hH3,au.ext e3 (au.ext eX rp),hc',by rw [hys,hpost],(eE.ext eX).ext e3⟩
     | true =>
      rw [if_pos rfl] at hfd ⊢
      refine ⟨σd',ι3,S4,hE'.ext e3,s3,?_⟩
      cases qe:me σd' S4 with
      | bad=>rw [aT qe] at hfd; cases hfd
      | exc c S5=>rw [bW qe] at hfd; cases hfd
      | ok yd S5 =>
       rw [ao qe] at hfd
       cases hfd
       intro ι4 H4 e4 s4 v rv
       obtain ⟨hH4,ln4⟩:=e4.dM hH3 ln3
       have rp4:au Γ ι4 H4 pre xs:=au.ext e4 (au.ext e3 (au.ext eX rp))
       refine ⟨xs,hH4,?_,src.its.length - (i+1),by omega,ι4,_,pre++[yd],post',xs++[v],hlt,rfl,(eA.trans e4).past hl,s4.other hH4 ln4,ln4,b5,au.write hH4 (Paired.app rp4 (.cons rv .nil)),hc',by rw [hys,hpost]; simp,(((eE.ext eX).ext e3).ext e4).write hH4⟩
       have:=rp4.length
       rw [hys,hpost,List.length_append,List.length_cons] at hz
       omega
  ·have ei:i=src.its.length:=by omega
   subst ei
   rw [List.drop_length] at hc
   obtain ⟨st,rfl,rfl⟩:=BA hc
   refine .inl ⟨(hJ ι' H S2 eH sH st).2,?_⟩
   rw [List.append_nil] at hys
   subst hys
   refine o1 (ι'++[l]) H ⟨eH.pre.trans (List.prefix_append _ _),eH.tup,eH.frz,eH.oth,fun a ha hn=>?_⟩ (sH.take ln hH rp) _ (.loc (by rw [<- sH.len]; simp))
   rcases List.mem_append.mp ha with z|z
   ·exact eH.fresh a z hn
   ·have:a=l:=by simpa using z
    rw [this]; exact hl
theorem AF (C:dU X scope N' k) (hc:X.calm=true) (hslot:∀ j,j < X.N.length->t.has j=false) (hi:PI X tg iter (tMI Γ xw mi)) (hg:∀ cl fp s3 H3,PG (aM X scope cl N' fp s3 H3) tg (tMG Γ t)) (htt:∀ cl fp s3 H3,PF (aM X scope cl N' fp s3 H3) ifs (tMT Γ XF nt)) (hte:∀ cl fp s3 H3,PE (aM X scope cl N' fp s3 H3) elt (tM Γ XF me))
  (hs:∀ x,foldedSetIterable iter X.env x=pure x):PE X (.ListComp elt [⟨tg,iter,ifs,0⟩] scope pos) (tM Γ xw (iB k mi t nt me)):=by
 intro pins s σ H Q I h
 exact sZ C hc hi hg htt hte hs pins s σ H Q I (pC hslot I.len h)
noncomputable def FlK (Γ:Gx) (D:Ends):Fl->af->List Addr->Hp->Prop
 | .nx σ',_,ι',H'=>∀ σv,aQ Γ ι' H' σv σ'->D.nx σv H'
 | .rt d,_,ι',H'=>∀ v,Rep Γ ι' H' d v->D.rt v H'
 | .bk σ',_,ι',H'=>∀ σv,aQ Γ ι' H' σv σ'->D.bk σv H'
 | .ct σ',_,ι',H'=>∀ σv,aQ Γ ι' H' σv σ'->D.ct σv H'
noncomputable def tMS (Γ:Gx) (xw:XW) (m:Sg->M Fl):TS:=fun D σ H=>∃ σd ι S,aQ Γ ι H σ σd/\aq Γ ι H S/\Out Γ xw ι H (m σd S) (FlK Γ D)
variable {e:Expr} {ma:Sg->M D} {na:Sg->M Bool} {ms ms2:Sg->M Fl} {st:Stmt} {sts sts2:List Stmt}
theorem zV (he:PE X e (tM Γ xw ma)):PS X (.Return (some e) pos) (tMS Γ xw fun σ=>ma σ>>=fun d=>pure (.rt d)) :=
 PS.imp (se he) fun D σ H h=>by
  obtain ⟨σd,ι,S,hE,hs,ho⟩:=h
  exact ⟨σd,ι,S,hE,hs,ho.bind.mono fun d S' ι' H' _ _ ⟨s',e',o'⟩ v r=>o'.here s' v r⟩
theorem xU:PS X (.Return none pos) (tMS Γ xw fun _=>pure (.rt .non)) :=
 PS.imp Ak fun D σ H h=>by
  obtain ⟨σd,ι,S,hE,hs,ho⟩:=h
  exact ho.here hs _ .non
theorem xP (he:PE X e (tM Γ xw ma)) (hs:swapsWith e none pos.line X.env=pure false):PS X (.Expr e pos) (tMS Γ xw fun σ=>ma σ>>=fun _=>pure (.nx σ)) :=
 PS.imp (zb he hs) fun D σ H h=>by
  obtain ⟨σd,ι,S,hE,hs,ho⟩:=h
  exact ⟨σd,ι,S,hE,hs,ho.bind.mono fun d S' ι' H' _ _ ⟨s',e',o'⟩ v r=>o'.here s' _ (hE.ext e')⟩
theorem Cg:PS X (.Pass pos) (tMS Γ xw fun σ=>pure (.nx σ)) :=
 PS.imp rS fun D σ H h=>by
  obtain ⟨σd,ι,S,hE,hs,ho⟩:=h
  exact ho.here hs _ hE
theorem yr {x j p2}:PS X (.Expr (.Constant (.str x) j p2) pos) (tMS Γ xw fun σ=>pure (.nx σ)) :=
 PS.imp vP fun D σ H h=>by
  obtain ⟨σd,ι,S,hE,hs,ho⟩:=h
  exact ho.here hs _ hE
theorem yz {D:Ends} {σ:L2.St} {H:Hp} (h:tMS Γ xw (fun σ=>ma σ>>=fun d=>aN t d σ>>=fun σ'=>pure (.nx σ')) D σ H):jG (tM Γ xw ma) (tMG Γ t) D σ H:=by
 obtain ⟨σd,ι,S,hE,hs,ho⟩:=h
 refine ⟨σd,ι,S,hE,hs,ho.bind.mono fun d S' ι' H' _ _ ⟨s',e',o'⟩ v r=>?_⟩
 obtain ⟨σd',hb,_,o'⟩:=Out.aN o'
 exact ⟨σd,ι',S',d,σd',hE.ext e',s',r,hb,fun σ' hE' _=>o'.here s' _ hE'⟩
theorem jN (he:PE X e (tM Γ xw ma)) (hg:PG X tg (tMG Γ t)) (hs:swapsWithSole [tg] e pos.line X.env=pure false) (hw:swappedStores [tg] e X.env=pure none) (h1:(assignEach [tg] X.env).map (·.2)=[assign tg X.env]) :
  PS X (.Assign [tg] e pos) (tMS Γ xw fun σ=>ma σ>>=fun d=>aN t d σ>>=fun σ'=>pure (.nx σ')):=PS.imp (nH he hg hs hw h1) fun D σ H h=>yz h
theorem yC {j:Nat} {y:Str} {py spos:Pos} (C:dU X scope N' k) (hc:X.calm=true) (hslot:∀ j,j < X.N.length->t.has j=false) (hi:PI X tg iter (tMI Γ xw mi)) (hg:∀ cl fp s3 H3,PG (aM X scope cl N' fp s3 H3) tg (tMG Γ t)) (htt:∀ cl fp s3 H3,PF (aM X scope cl N' fp s3 H3) ifs (tMT Γ XF nt)) (hte:∀ cl fp s3 H3,PE (aM X scope cl N' fp s3 H3) elt (tM Γ XF me))
  (hN:X.N.Nodup) (hj:X.N[j]?=some y) (hy:X.env.scope.names.lookup y=some .local) (hsw:swapsWith (.ListComp elt [⟨tg,iter,ifs,0⟩] scope pos) (some (.Name y py)) spos.line X.env=pure true) (hs:∀ x,foldedSetIterable iter X.env x=pure x) :
  PS X (.Assign [.Name y py] (.ListComp elt [⟨tg,iter,ifs,0⟩] scope pos) spos) (tMS Γ xw fun σ=>iB k mi t nt me σ>>=fun d=>aN (.one j) d σ>>=fun σ'=>pure (.nx σ')):=by
 intro pins s σ H D I h
 refine r9 C hc hi hg htt hte hN hj hy hsw hs pins s σ H D I ?_
 have h1:tM Γ xw (iB k mi t nt me) σ H (fun x H1=>f_ j x σ H1 D.nx):=by
  obtain ⟨σd,ι,S,hE,hS,ho⟩:=h
  refine ⟨σd,ι,S,hE,hS,ho.bind.mono fun d S' ι' H' _ _ ⟨s',e',o'⟩ v r=>?_⟩
  exact o'.here s' _ ((hE.ext e').set j r)
 exact pC hslot I.len h1
theorem xh {c:Expr} (hc:PT X c (tMT Γ xw na)) (ha:PSs X sts (tMS Γ xw ms)) (hb:PSs X sts2 (tMS Γ xw ms2)):PS X (.If c sts sts2 pos) (tMS Γ xw fun σ=>na σ>>=fun k=>if k=true then ms σ else ms2 σ) :=
 PS.imp (Aq hc ha hb) fun D σ H h=>by
  obtain ⟨σd,ι,S,hE,hs,ho⟩:=h
  refine ⟨σd,ι,S,hE,hs,ho.bind.mono fun k S' ι' H' _ _ ⟨s',e',o'⟩=>?_⟩
  cases k with
  | true=>rw [if_pos rfl]; exact ⟨σd,ι',S',hE.ext e',s',o'⟩
  | false=>rw [if_neg Bool.false_ne_true]; exact ⟨σd,ι',S',hE.ext e',s',o'⟩
theorem Cu:PSs X [] (tMS Γ xw fun σ=>pure (.nx σ)) :=
 PSs.imp zS fun D σ H h=>by
  obtain ⟨σd,ι,S,hE,hs,ho⟩:=h
  exact ho.here hs _ hE
theorem yL (h1:PS X st (tMS Γ xw ms)):PSs X [st] (tMS Γ xw ms):=tF h1
theorem qM (h1:PS X st (tMS Γ xw ms)) (h2:PSs X sts (tMS Γ xw ms2)):PSs X (st::sts) (tMS Γ xw fun σ=>ms σ>>=fun f=>match f with|.nx σ'=>ms2 σ'|f=>pure f) :=
 PSs.imp (BB h1 h2) fun D σ H h=>by
  obtain ⟨σd,ι,S,hE,hs,ho⟩:=h
  refine ⟨σd,ι,S,hE,hs,ho.bind.mono fun f S' ι' H' _ _ ⟨s',e',o'⟩=>?_⟩
  cases f with
  | nx σ'=>exact fun σv hv=>⟨σ',ι',S',hv,s',o'⟩
  | rt d=>exact fun v r=>o'.here s' v r
  | bk σ'=>exact fun σv hv=>o'.here s' σv hv
  | ct σ'=>exact fun σv hv=>o'.here s' σv hv
end
end EV

namespace EV
open PySem PySem.Spec PyProof.Rows L2
section
variable {X:Cx} {Γ:Gx} {xw:XW} {pins:List (Addr × Obj)} {σ:L2.St} {H:Hp} {s:Shared} {ι:List Addr} {S:af}
theorem zf (k:List Int):(k.map V.int)=(k.map (Sum.inl:Int->Key)).map kV:=by
 rw [List.map_map]; rfl
theorem jt:∀ {a b:List Int},a.map (Sum.inl:Int->Key)=b.map Sum.inl->a=b
 | [],[],_=>rfl
 | [],_::_,h=>by cases h
 | _::_,[],h=>by cases h
 | a::r,b::q,h=>by
  obtain ⟨h1,h2⟩:=List.cons.inj h
  rw [Sum.inl.inj h1,jt h2]
theorem pY (a b:List Int):decide (a.map (Sum.inl:Int->Key)=b.map Sum.inl)=decide (a=b):=by
 by_cases h:a=b
 ·rw [decide_eq_true h,decide_eq_true (by rw [h])]
 ·rw [decide_eq_false h,decide_eq_false fun e=>h (jt e)]
theorem aP.get {k:List Int}:∀ {kvs:List (List Int × D)} {xs:List (List Key × V)} {d:D},aP Γ ι H kvs xs->aW kvs k=some d->∃ v,cg xs (k.map Sum.inl)=some v/\Rep Γ ι H d v
 | _,_,d,.nil,h=>by cases h
 | p::r,q::t,d,.cons e u,h=>by
  unfold aW at h
  unfold cg
  rw [List.find?_cons] at h ⊢
  rw [e.1,pY]
  cases c:decide (p.1=k) with
  | true =>
   rw [c] at h
   cases h
   exact ⟨q.2,rfl,e.2⟩
  | false =>
   rw [c] at h
   exact aP.get u h
theorem aP.any (k:List Int):∀ {kvs:List (List Int × D)} {xs:List (List Key × V)},aP Γ ι H kvs xs->(xs.any fun kv=>decide (kv.1=k.map Sum.inl))=kvs.any fun kv=>decide (kv.1=k)
 | _,_,.nil=>rfl
 | p::r,q::t,.cons e u=>by
  rw [List.any_cons,List.any_cons,aP.any k u,e.1,pY]
theorem aP.repl (k:List Int) {d:D} {v:V} (rv:Rep Γ ι H d v):∀ {kvs:List (List Int × D)} {xs:List (List Key × V)},aP Γ ι H kvs xs->aP Γ ι H (kvs.map fun kv=>if kv.1=k then (kv.1,d) else kv) (xs.map fun kv=>if kv.1=k.map Sum.inl then (kv.1,v) else kv)
 | _,_,.nil=>.nil
 | p::r,q::t,.cons e u=>by
  rw [List.map_cons,List.map_cons]
  refine .cons ?_ (aP.repl k rv u)
  by_cases h:p.1=k
  ·rw [if_pos h,if_pos (by rw [e.1,h])]
   exact ⟨e.1,rv⟩
  ·rw [if_neg h,if_neg fun z=>h (jt (by rw [<- e.1,z]))]
   exact e
theorem aP.snoc {k:List Int} {d:D} {v:V} (rv:Rep Γ ι H d v):∀ {kvs:List (List Int × D)} {xs:List (List Key × V)},aP Γ ι H kvs xs->aP Γ ι H (kvs++[(k,d)]) (xs++[(k.map Sum.inl,v)])
 | _,_,.nil=>.cons ⟨rfl,rv⟩ .nil
 | _::_,_::_,.cons e u=>.cons e (aP.snoc rv u)
theorem aP.put {k:List Int} {d:D} {v:V} (rv:Rep Γ ι H d v) {kvs:List (List Int × D)} {xs:List (List Key × V)} (r:aP Γ ι H kvs xs):aP Γ ι H (fk kvs k d) (putK xs (k.map Sum.inl) v):=by
 unfold fk putK
 rw [aP.any k r]
 split
 ·exact aP.repl k rv r
 ·exact aP.snoc rv r
theorem qi {a:Addr} {xs ys:List (List Key × V)} (h:H a=some (.dT xs)):∀ b zs,H b=some (.tup zs)->upd H a (.dT ys) b=some (.tup zs):=fun b zs e=>by
 rw [aE]; exact e
 rintro rfl; rw [h] at e; cases e
theorem pI {a:Addr} {xs ys:List (List Key × V)} (h:H a=some (.dT xs)):∀ b o u,H b=some (.frz o u)->upd H a (.dT ys) b=some (.frz o u):=fun b o u e=>by
 rw [aE]; exact e
 rintro rfl; rw [h] at e; cases e
theorem Rep.eT {a:Addr} {xs ys:List (List Key × V)} (h:H a=some (.dT xs)) {d:D} {v:V} (r:Rep Γ ι H d v):Rep Γ ι (upd H a (.dT ys)) d v:=r.move (List.prefix_refl _) (qi h) (pI h)
theorem aq.dct (hS:aq Γ ι H S) {l:Nat} {kvs:List (List Int × D)} (h:S[l]?=some (.dct kvs)):∃ a xs,ι[l]?=some a/\H a=some (.dT xs)/\aP Γ ι H kvs xs:=by
 obtain ⟨a,ha,xs,hx,r⟩:=hS.cell l _ h
 exact ⟨a,xs,ha,hx,r⟩
theorem aq.eT (hS:aq Γ ι H S) {l:Nat} {a:Addr} {xs ys:List (List Key × V)} {es kvs:List (List Int × D)} (hl:S[l]?=some (.dct es)) (ha:ι[l]?=some a) (h:H a=some (.dT xs)) (r:aP Γ ι H kvs ys):aq Γ ι (upd H a (.dT ys)) (S.set l (.dct kvs)):=by
 refine ⟨by rw [List.length_set]; exact hS.len,hS.nd,fun m c hm=>?_⟩
 by_cases e:m=l
 ·subst e
  rw [List.getElem?_set_self (List.getElem?_eq_some_iff.mp hl).1] at hm
  cases hm
  exact ⟨a,ha,ys,b5,Paired.imp (fun _ _ q=>⟨q.1,Rep.eT h q.2⟩) r⟩
 ·rw [List.getElem?_set_ne (Ne.symm e)] at hm
  obtain ⟨b,hb,c1⟩:=hS.cell m c hm
  have hne:b≠a:=fun z=>e (fW hS.nd hb (z ▸ ha))
  refine ⟨b,hb,?_⟩
  cases c with
  | lst zs=>obtain ⟨ws,hw,rw'⟩:=c1; exact ⟨ws,by rw [aE hne]; exact hw,Paired.imp (fun _ _ q=>Rep.eT h q) rw'⟩
  | dct kvs=>obtain ⟨ws,hw,rw'⟩:=c1; exact ⟨ws,by rw [aE hne]; exact hw,Paired.imp (fun _ _ q=>⟨q.1,Rep.eT h q.2⟩) rw'⟩
theorem Ext.eT {a:Addr} {xs ys:List (List Key × V)} (h:H a=some (.dT xs)) (hm:a∈ι):Ext ι ι H (upd H a (.dT ys)) :=
 ⟨List.prefix_refl _,qi h,pI h,fun b o e n=>by
  have hne:b≠a:=fun z=>n (by rw [z]; exact hm)
  rw [aE hne]; exact e,fun _ h n=>absurd h n⟩
theorem aq.zW (hS:aq Γ ι H S) {p:Addr} (hp:H p=none):aq Γ (ι++[p]) (upd H p (.dT [])) (S++[.dct []]):=by
 have e:Ext ι (ι++[p]) H (upd H p (.dT [])):=Ext.more hp
 refine ⟨by simp [hS.len],List.nodup_append.mpr ⟨hS.nd,by simp,?_⟩,fun l c h=>?_⟩
 ·intro a ha b hb
  have:b=p:=by simpa using hb
  subst this
  exact fun z=>hS.new hp (z ▸ ha)
 ·by_cases hl:l < S.length
  ·rw [List.getElem?_append_left hl] at h
   obtain ⟨a,ha,c1⟩:=hS.cell l c h
   exact ⟨a,d_ e.pre ha,c1.ext e fun ys hy=>by rw [aE (aV hy hp)]; exact hy⟩
  ·rw [List.getElem?_append_right (by omega)] at h
   have hl2:l - S.length=0:=by
    have:=(List.getElem?_eq_some_iff.mp h).1
    simp at this; omega
   rw [hl2] at h
   have h':(Cell.dct [])=c:=by simpa using h
   subst h'
   exact ⟨p,by rw [List.getElem?_append_right (by rw [hS.len]; omega),hS.len,hl2]; rfl,[],b5,.nil⟩
theorem xR {pos:Pos}:PE X (.Dict [] [] pos) (tM Γ xw fun _=>alloc (.dct [])) :=
 PE.imp qY fun σ H Q h=>by
  obtain ⟨σd,ι,S,he,hs,ho⟩:=h
  exact fun p hp=>ho (ι++[p]) _ (Ext.more hp) (hs.zW hp) _ (.loc (by rw [<- hs.len]; simp))
theorem Out.eN {l:Nat} {f:List (List Int × D)->M D} {k:D->af->List Addr->Hp->Prop} (h:Out Γ xw ι H (EV.eN l f S) k):∃ kvs,S[l]?=some (.dct kvs)/\Out Γ xw ι H (f kvs S) k:=by
 have e:EV.eN l f S=match S[l]? with|some (.dct kvs)=>f kvs S|_=>.bad:=rfl
 rw [e] at h
 cases q:S[l]? with
 | none=>rw [q] at h; exact h.elim
 | some c =>
  rw [q] at h
  cases c with
  | dct kvs=>exact ⟨kvs,rfl,h⟩
  | lst ds=>exact h.elim
theorem qq {p:Addr} {k:List Int} (hp:H p=none):upd H p (.tup (k.map V.int)) p=some (.tup ((k.map (Sum.inl:Int->Key)).map kV)):=by rw [b5,zf]
theorem Cb {o:Expr} {es:List Expr} {k:Nat} {pos p2:Pos} {mo:Sg->M D} {m:Sg->M (List D)} (hu:X.A.units+1 < cLine) (ho:PE X o (tM Γ xw mo)) (hs:PA X es (tMA Γ xw m)) :
  PE X (.Subscript o (.Tuple es k p2) pos) (tM Γ xw fun σ=>mo σ>>=fun x=>m σ>>=fun ds=>guard (fits ds.length) (qx x ds)) :=
 PE.imp (BO hu ho (j7 hs) (fun _ _=>rfl)) fun σ H Q h=>by
  obtain ⟨σd,ι,S,he,hs,ho⟩:=h
  refine ⟨σd,ι,S,he,hs,ho.bind.mono fun d S1 ι1 H1 _ _ ⟨s1,e1,o1⟩ x rx=>?_⟩
  refine ⟨σd,ι1,S1,he.ext e1,s1,o1.bind.mono fun ds S2 ι2 H2 _ _ ⟨s2,e2,o2⟩ vs rs=>?_⟩
  obtain ⟨hz,o2⟩:=Out.guard o2
  refine ⟨by rw [<- rs.length]; exact cK hz,fun p hp=>?_⟩
  cases d with
  | loc l =>
   obtain ⟨k,q,o2⟩:=Out.opt o2
   obtain ⟨kvs,q2,o2⟩:=Out.eN o2
   rw [ints_map q] at rs
   have ev:=d8 rs
   subst ev
   have rx:=rx.ext e2
   cases rx with
   | @loc _ a hl =>
    obtain ⟨a',xs,ha,hx,dr⟩:=s2.dct q2
    rw [hl] at ha; cases ha
    cases q3:aW kvs k with
    | none=>rw [q3] at o2; exact o2.elim
    | some d =>
     rw [q3] at o2
     obtain ⟨v,hv,rv⟩:=aP.get dr q3
     refine ⟨a,v,rfl,?_,?_⟩
     ·rw [<- hv]
      exact fK.t (by rw [aE (aV hx hp)]; exact hx) (qq hp)
     ·exact o2 ι2 _ (Ext.laid hp) (s2.laid hp _) v (rv.ext (Ext.laid hp))
  | _=>exact o2.elim
theorem vB {o e:Expr} {es:List Expr} {k:Nat} {pos p p2:Pos} {mo me:Sg->M D} {m:Sg->M (List D)} (hu:X.A.units+1 < cLine) (he:PE X e (tM Γ xw me)) (ho:PE X o (tM Γ xw mo)) (hs:PA X es (tMA Γ xw m))
  (hw:swapsWith e (some (.Subscript o (.Tuple es k p2) p)) pos.line X.env=pure false) :
  PS X (.Assign [.Subscript o (.Tuple es k p2) p] e pos) (tMS Γ xw fun σ=>me σ>>=fun d=>mo σ>>=fun a=>m σ>>=fun ks=>guard (fits ks.length) (pF a ks d)>>=fun _=>pure (.nx σ)):=by
 refine PS.imp (sy hu ho (j7 hs) he hw) fun D σ H h=>?_
 obtain ⟨σd,ι,S,hE,hs,ho⟩:=h
 refine ⟨σd,ι,S,hE,hs,ho.bind.mono fun d S1 ι1 H1 _ _ ⟨s1,e1,o1⟩ v rv=>?_⟩
 refine ⟨σd,ι1,S1,hE.ext e1,s1,o1.bind.mono fun a S2 ι2 H2 _ _ ⟨s2,e2,o2⟩ ov ro=>?_⟩
 refine ⟨σd,ι2,S2,(hE.ext e1).ext e2,s2,o2.bind.mono fun ks S3 ι3 H3 _ _ ⟨s3,e3,o3⟩ vs rs=>?_⟩
 have o3:=o3.bind
 obtain ⟨hz,o3⟩:=Out.guard o3
 refine ⟨by rw [<- rs.length]; exact cK hz,fun p hp=>?_⟩
 cases a with
 | loc l =>
  obtain ⟨k,q,o3⟩:=Out.opt o3
  obtain ⟨kvs,q2,o3⟩:=Out.eN o3
  obtain ⟨hz2,o3⟩:=Out.guard o3
  rw [ints_map q] at rs
  have ev:=d8 rs
  subst ev
  have ro:=ro.ext e3
  cases ro with
  | @loc _ b hl =>
   obtain ⟨b',xs,hb,hx,dr⟩:=s3.dct q2
   rw [hl] at hb; cases hb
   have el:=Ext.laid (ι:=ι3) (H:=H3) (o:=.tup (k.map V.int)) hp
   have hx':upd H3 p (.tup (k.map V.int)) b=some (.dT xs):=by rw [aE (aV hx hp)]; exact hx
   have s4:=s3.laid hp (.tup (k.map V.int))
   obtain ⟨b2,xs2,hb2,hx2,dr2⟩:=s4.dct q2
   rw [hl] at hb2; cases hb2
   rw [hx'] at hx2; cases hx2
   have rv2:=((rv.ext e2).ext e3).ext el
   refine ⟨b,_,rfl,gq.t hx' (qq hp) ?_,?_⟩
   ·have:kvs.length=xs.length:=dr.length
    rw [<- this]
    exact pJ hz2
   ·have ew:=Ext.eT (ys:=putK xs (k.map Sum.inl) v) hx' (List.mem_of_getElem? hl)
    obtain ⟨s5,e5,o5⟩:=o3 ι3 _ (el.trans ew) (s4.eT q2 hl hx' (aP.put rv2 dr2))
    exact o5.here s5 _ (((((hE.ext e1).ext e2).ext e3).ext el).ext ew)
 | _=>exact o3.elim
end
end EV

namespace EV
open PySem PySem.Spec PyProof.Rows L2
theorem Paired.put {α β:Type} {R:α->β->Prop} {a:α} {b:β} (r:R a b):∀ {as:List α} {bs:List β} (j:Nat),Paired R as bs->Paired R (as.set j a) (bs.set j b)
 | _,_,_,.nil=>.nil
 | _,_,0,.cons _ t=>.cons r t
 | _,_,j+1,.cons h t=>.cons h (Paired.put r j t)
section
variable {X:Cx} {Γ:Gx} {xw:XW}
noncomputable def m9 (Γ:Gx) (xw:XW):V->V->V->Hp->(Hp->Prop)->Prop:=fun o i v H Q=>∃ ι S da di dv,aq Γ ι H S/\Rep Γ ι H da o/\Rep Γ ι H di i/\Rep Γ ι H dv v/\Out Γ xw ι H (jy da di dv S) fun _ _ _ H'=>Q H'
theorem uB:kM X (m9 Γ xw):=by
 intro pins s σ H o i v ov iv u Q I ro ri rv h
 obtain ⟨ι,S,da,di,dv,hS,r1,r2,r3,ho⟩:=h
 cases da with
 | loc l =>
  cases di with
  | int k =>
   obtain ⟨es,e,ho⟩:=Out.bg ho
   obtain ⟨a,xs,ha,hx,p⟩:=hS.lst e
   cases r2
   cases r1 with
   | loc q =>
    rw [ha] at q; cases q
    cases q:EV.ixN es.length k with
    | none=>rw [q] at ho; exact ho.elim
    | some j =>
     rw [q] at ho
     refine set_list pins s σ H _ _ v _ _ u Q I ro ri rv ⟨a,xs,k,j,rfl,rfl,hx,by rw [<- p.length]; exact q,?_⟩
     exact ho ι _ (Ext.write hx (List.mem_of_getElem? ha)) (hS.write e ha hx (Paired.put r3 j p))
  | _=>exact ho.elim
 | _=>exact ho.elim
theorem BI {o i e:Expr} {mo mi me:Sg->M D} {pos p:Pos} (he:PE X e (tM Γ xw me)) (h1:PE X o (tM Γ xw mo)) (h2:PE X i (tM Γ xw mi)) (hi:∀ a b c q,i≠.Slice a b c q)
  (hs:swapsWithSole [.Subscript o i p] e pos.line X.env=pure false):PS X (.Assign [.Subscript o i p] e pos) (tMS Γ xw fun σ=>me σ>>=fun d=>mo σ>>=fun a=>mi σ>>=fun k=>jy a k d>>=fun _=>pure (.nx σ)):=by
 have pg:PG X (.Subscript o i p) (mT (tM Γ xw mo) (tM Γ xw mi) (m9 Γ xw)):=Bj h1 h2 uB (by
  intro v
  cases i <;> first|rfl|exact absurd rfl (hi _ _ _ _))
 refine PS.imp (nH he pg hs rfl rfl) fun D σ H h=>?_
 obtain ⟨σd,ι,S,hE,hs,ho⟩:=h
 refine ⟨σd,ι,S,hE,hs,ho.bind.mono fun d S1 ι1 H1 _ _ ⟨s1,e1,o1⟩ v rv=>?_⟩
 refine ⟨σd,ι1,S1,hE.ext e1,s1,o1.bind.mono fun a S2 ι2 H2 _ _ ⟨s2,e2,o2⟩ ov ro=>?_⟩
 refine ⟨σd,ι2,S2,(hE.ext e1).ext e2,s2,o2.bind.mono fun k S3 ι3 H3 _ _ ⟨s3,e3,o3⟩ iv ri=>?_⟩
 exact ⟨ι3,S3,a,k,d,s3,ro.ext e3,ri,(rv.ext e2).ext e3,o3.bind.mono fun _ S4 ι4 H4 _ _ ⟨s4,e4,o4⟩=>o4.here s4 _ ((((hE.ext e1).ext e2).ext e3).ext e4)⟩
end
end EV

namespace EV
open PySem PySem.Spec PyProof.Rows L2
section
variable {X:Cx} {Γ:Gx} {xw:XW} {iter tg c:Expr} {pos:Pos} {mi:Sg->M Src} {t:Tg} {mb:Sg->M Fl} {na:Sg->M Bool} {body:List Stmt}
theorem PS.nox {st:Stmt} {t:TS} (h:PS X.nox st t):PS X st t:=fun pins s σ H D I hw =>
 wpAny_mono (h pins s σ H D (I.b9 _) hw) (fun f s' q=>q.bV) fun _ _ e=>e.elim
theorem xA {D:Ends} {σ:L2.St} {H:Hp} (h:tMS Γ XF (fun σ=>mi σ>>=fun s=>forL s (fun d σ=>aN t d σ>>=fun σ'=>mb σ') s.its σ) D σ H):qE (tMI Γ XF mi) (tMG Γ t) (tMS Γ XF mb) D σ H:=by
 obtain ⟨σd,ι,S,hE,hS,ho⟩:=h
 refine ⟨σd,ι,S,hE,hS,ho.bind.mono fun src S1 ι1 H1 _ _ ⟨s1,e1,o1⟩ J hJ=>?_⟩
 generalize hf:(fun d σ=>aN t d σ>>=fun σ'=>mb σ')=f at o1
 generalize hR:forL src f src.its σd S1=R0 at o1
 refine ⟨fun i m σ H=>∃ ι' S' σd',i<=src.its.length/\m=src.its.length - i/\Ext ι1 ι' H1 H/\aq Γ ι' H S'/\aQ Γ ι' H σ σd'/\forL src f (src.its.drop i) σd' S'=R0,
  ⟨src.its.length,ι1,S1,σd,Nat.zero_le _,rfl,.refl,s1,hE.ext e1,hR⟩,?_⟩
 rintro i m σ H ⟨ι',S',σd',hi,rfl,eH,sH,eE,hc⟩
 by_cases hlt:i < src.its.length
 ·rw [List.drop_eq_getElem_cons hlt] at hc
  have hc:(aK src>>=fun _=>f src.its[i] σd'>>=fun fl=>match fl with|.nx σ'=>forL src f (src.its.drop (i+1)) σ'|.ct σ'=>forL src f (src.its.drop (i+1)) σ'|.bk σ'=>pure (.nx σ')|.rt d=>pure (.rt d)) S'=R0:=hc
  rcases gJ src S' with st|st
  ·rw [ao st] at hc
   obtain ⟨jgo,jyld⟩:=(hJ ι' H S' eH sH st).1 i src.its[i] (List.getElem?_eq_getElem hlt)
   refine .inr ⟨jgo,fun σ' H'=>∃ m',m' < src.its.length - i/\∃ ι' S' σd',i+1<=src.its.length/\m'=src.its.length - (i+1)/\Ext ι1 ι' H1 H'/\aq Γ ι' H' S'/\aQ Γ ι' H' σ' σd'/\forL src f (src.its.drop (i+1)) σd' S'=R0,fun σ' H' h=>h,fun x H' yl=>?_⟩
   obtain ⟨eX,sX,rX⟩:=jyld x H' yl
   have hfd:f src.its[i] σd' S'=(aN t src.its[i] σd'>>=fun σ'=>mb σ') S':=by rw [<- hf]
   rcases kH t src.its[i] σd' S' with ⟨σd2,hb,_⟩|hb
   ·rw [ao hb] at hfd
    refine ⟨σd',ι',S',src.its[i],σd2,eE.ext eX,sX,rX,hb,fun σ2 hE2 _=>⟨σd2,ι',S',hE2,sX,?_⟩⟩
    have eA:=eH.trans eX
    cases qb:mb σd2 S' with
    | bad=>rw [qb] at hfd; rw [aT hfd] at hc; rw [<- hc] at o1; exact o1.elim
    | exc c S3=>rw [qb] at hfd; rw [bW hfd] at hc; rw [<- hc] at o1; exact fun ι3 H3 e3 s3=>o1 ι3 H3 (eA.trans e3) s3
    | ok fl S3 =>
     rw [qb] at hfd
     rw [ao hfd] at hc
     intro ι3 H3 e3 s3
     cases fl with
     | nx σ'=>exact fun σv hv=>⟨src.its.length - (i+1),by omega,ι3,S3,σ',hlt,rfl,eA.trans e3,s3,hv,hc⟩
     | ct σ'=>exact fun σv hv=>⟨src.its.length - (i+1),by omega,ι3,S3,σ',hlt,rfl,eA.trans e3,s3,hv,hc⟩
     | bk σ'=>rw [<- hc] at o1; exact fun σv hv=>o1 ι3 H3 (eA.trans e3) s3 σv hv
     | rt d=>rw [<- hc] at o1; exact fun v r=>o1 ι3 H3 (eA.trans e3) s3 v r
   ·rw [aT hb] at hfd; rw [aT hfd] at hc; rw [<- hc] at o1; exact o1.elim
  ·rw [aT st] at hc; rw [<- hc] at o1; exact o1.elim
 ·have ei:i=src.its.length:=by omega
  subst ei
  rw [List.drop_length] at hc
  have hc:(aK src>>=fun _=>pure (.nx σd')) S'=R0:=hc
  rcases gJ src S' with st|st
  ·rw [ao st] at hc
   rw [<- hc] at o1
   exact .inl ⟨(hJ ι' H S' eH sH st).2,o1 ι' H eH sH σ eE⟩
  ·rw [aT st] at hc; rw [<- hc] at o1; exact o1.elim
theorem zy (hcalm:X.calm=true) (hi:PI X.nox tg iter (tMI Γ XF mi)) (hg:PG X.nox tg (tMG Γ t)) (hb:PSs X.nox body (tMS Γ XF mb)) (hs:∀ x,foldedSetIterable iter X.env x=pure x) :
  PS X (.For tg iter body [] pos) (tMS Γ xw fun σ=>quiet (mi σ>>=fun s=>forL s (fun d σ=>aN t d σ>>=fun σ'=>mb σ') s.its σ)) :=
 PS.nox (PS.imp (t8 (X:=X.nox) PassesOwn.never hcalm hi hg hb hs) fun D σ H h=>by
  obtain ⟨σd,ι,S,hE,hS,ho⟩:=h
  exact xA ⟨σd,ι,S,hE,hS,Out.quiet ho XF⟩)
theorem tY {D:Ends} {σ:L2.St} {H:Hp} (h:tMS Γ XF (fun σ=>bx na mb dP σ) D σ H):mj (tMT Γ XF na) (tMS Γ XF mb) D σ H:=by
 obtain ⟨σd,ι,S,hE,hS,ho⟩:=h
 have ho:Out Γ XF ι H (bx na mb dP σd S) (FlK Γ D):=ho
 generalize hR:bx na mb dP σd S=R0 at ho
 refine ⟨fun m σ H'=>∃ ι' S' σd',Ext ι ι' H H'/\aq Γ ι' H' S'/\aQ Γ ι' H' σ σd'/\bx na mb m σd' S'=R0,⟨dP,ι,S,σd,.refl,hS,hE,hR⟩,?_⟩
 rintro m σ H' ⟨ι',S',σd',eH,sH,eE,hc⟩
 cases m with
 | zero =>
  have hc:(Res.bad:Res Fl)=R0:=hc
  rw [<- hc] at ho; exact ho.elim
 | succ n =>
  have hc:(na σd'>>=fun k=>if k=true then mb σd'>>=fun fl=>match fl with|.nx σ'=>bx na mb n σ'|.ct σ'=>bx na mb n σ'|.bk σ'=>pure (.nx σ')|.rt d=>pure (.rt d) else pure (.nx σd')) S'=R0:=hc
  refine ⟨σd',ι',S',eE,sH,?_⟩
  cases qn:na σd' S' with
  | bad=>rw [aT qn] at hc; rw [<- hc] at ho; exact ho.elim
  | exc c S3=>rw [bW qn] at hc; rw [<- hc] at ho; exact fun ι3 H3 e3 s3=>ho ι3 H3 (eH.trans e3) s3
  | ok k S3 =>
   rw [ao qn] at hc
   intro ι3 H3 e3 s3
   have eA:=eH.trans e3
   cases k with
   | false =>
    rw [if_neg Bool.false_ne_true] at hc
    rw [<- hc] at ho
    exact Ao (ho ι3 H3 eA s3 σ (eE.ext e3))
   | true =>
    rw [if_pos rfl] at hc
    refine wQ ⟨fun σ' H'=>∃ m',m' < n+1/\∃ ι' S' σd',Ext ι ι' H H'/\aq Γ ι' H' S'/\aQ Γ ι' H' σ' σd'/\bx na mb m' σd' S'=R0,fun σ' H' h=>h,σd',ι3,S3,eE.ext e3,s3,?_⟩
    cases qb:mb σd' S3 with
    | bad=>rw [aT qb] at hc; rw [<- hc] at ho; exact ho.elim
    | exc c S4=>rw [bW qb] at hc; rw [<- hc] at ho; exact fun ι4 H4 e4 s4=>ho ι4 H4 (eA.trans e4) s4
    | ok fl S4 =>
     rw [ao qb] at hc
     intro ι4 H4 e4 s4
     cases fl with
     | nx σ'=>exact fun σv hv=>⟨n,Nat.lt_succ_self _,ι4,S4,σ',eA.trans e4,s4,hv,hc⟩
     | ct σ'=>exact fun σv hv=>⟨n,Nat.lt_succ_self _,ι4,S4,σ',eA.trans e4,s4,hv,hc⟩
     | bk σ'=>rw [<- hc] at ho; exact fun σv hv=>ho ι4 H4 (eA.trans e4) s4 σv hv
     | rt d=>rw [<- hc] at ho; exact fun v r=>ho ι4 H4 (eA.trans e4) s4 v r
theorem sd (hc:PT X.nox c (tMT Γ XF na)) (hb:PSs X.nox body (tMS Γ XF mb)):PS X (.While c body [] pos) (tMS Γ xw fun σ=>quiet (bx na mb dP σ)) :=
 PS.nox (PS.imp (Bk (X:=X.nox) PassesOwn.never hc hb) fun D σ H h=>by
  obtain ⟨σd,ι,S,hE,hS,ho⟩:=h
  exact tY ⟨σd,ι,S,hE,hS,Out.quiet ho XF⟩)
end
section
variable {Γ:Gx} {ι ι':List Addr} {H H':Hp} {S S':af}
theorem eV:∀ {ds:List D} {n:Nat},D.lows n ds=true ↔ ∀ (i:Nat) d,ds[i]?=some d->d.low n=true
 | [],n=>⟨fun _ i d h=>by simp at h,fun _=>rfl⟩
 | d::r,n=>by
  simp only [D.lows,Bool.and_eq_true]
  constructor
  ·rintro ⟨h1,h2⟩ i e h
   cases i with
   | zero=>simp at h; subst h; exact h1
   | succ i=>exact eV.mp h2 i e (by simpa using h)
  ·intro h
   exact ⟨h 0 d rfl,eV.mpr fun i e q=>h (i+1) e (by simpa using q)⟩
theorem Rep.low {d:D} {v:V} (r:Rep Γ ι H d v):d.low ι.length=true:=by
 induction r with
 | tup h1 h2 h3 ih =>
  show D.lows _ _=true
  refine eV.mpr fun i d e=>?_
  have hi:i < _:=(List.getElem?_eq_some_iff.mp e).1
  exact ih i d _ e (List.getElem?_eq_getElem (by omega))
 | fro h1 h2 h3 ih =>
  show D.lows _ _=true
  refine eV.mpr fun i d e=>?_
  have hi:i < _:=(List.getElem?_eq_some_iff.mp e).1
  exact ih i d _ e (List.getElem?_eq_getElem (by omega))
 | loc h=>exact decide_eq_true (List.getElem?_eq_some_iff.mp h).1
 | _=>rfl
theorem Rep.cut (hp:ι <+: ι') {d:D} {v:V} (r:Rep Γ ι' H d v) (hl:d.low ι.length=true):Rep Γ ι H d v:=by
 induction r with
 | non=>exact .non
 | bl b=>exact .bl b
 | int i=>exact .int i
 | str x=>exact .str x
 | tup h1 h2 h3 ih=>exact .tup h1 h2 fun i d v e1 e2=>ih i d v e1 e2 (eV.mp hl i d e1)
 | fro h1 h2 h3 ih=>exact .fro h1 h2 fun i d v e1 e2=>ih i d v e1 e2 (eV.mp hl i d e1)
 | @loc l a h =>
  have hlt:l < ι.length:=of_decide_eq_true hl
  obtain ⟨t,rfl⟩:=hp
  rw [List.getElem?_append_left hlt] at h
  exact .loc h
theorem au.low {ds:List D} {vs:List V} (r:au Γ ι H ds vs):D.lows ι.length ds=true:=eV.mpr fun i d e=>let ⟨_,_,r'⟩:=Paired.get r e; r'.low
theorem au.cut (hp:ι <+: ι'):∀ {ds:List D} {vs:List V},au Γ ι' H ds vs->D.lows ι.length ds=true->au Γ ι H ds vs
 | _,_,.nil,_=>.nil
 | _,_,.cons r t,h=>by
  rw [D.lows,Bool.and_eq_true] at h
  exact .cons (r.cut hp h.1) (au.cut hp t h.2)
theorem aP.cut (hp:ι <+: ι'):∀ {kvs:List (List Int × D)} {xs ys:List (List Key × V)} {H0:Hp},aP Γ ι' H kvs xs->aP Γ ι H0 kvs ys->aP Γ ι H kvs xs
 | _,_,_,_,.nil,_=>.nil
 | _,_,_,_,.cons r t,.cons r0 t0=>.cons ⟨r.1,r.2.cut hp r0.2.low⟩ (aP.cut hp t t0)
theorem Ext.back (e:Ext ι ι' H H'):Ext ι ι H H':=⟨List.prefix_refl _,e.tup,e.frz,e.oth,fun _ h n=>absurd h n⟩
theorem aq.back (e:Ext ι ι' H H') (h0:aq Γ ι H S) (h1:aq Γ ι' H' S') (ht:S'.take S.length=S):aq Γ ι H' S:=by
 refine ⟨h0.len,h0.nd,fun l c hc=>?_⟩
 have hl:l < S.length:=(List.getElem?_eq_some_iff.mp hc).1
 have hc':S'[l]?=some c:=by rw [<- ht,List.getElem?_take_of_lt hl] at hc; exact hc
 obtain ⟨a,ha,c1⟩:=h1.cell l c hc'
 obtain ⟨b,hb,c0⟩:=h0.cell l c hc
 have:=d_ e.pre hb
 rw [ha] at this; cases this
 refine ⟨a,hb,?_⟩
 cases c with
 | lst ds=>obtain ⟨xs,hx,r⟩:=c1; obtain ⟨ys,_,r0⟩:=c0; exact ⟨xs,hx,au.cut e.pre r r0.low⟩
 | dct kvs=>obtain ⟨xs,hx,r⟩:=c1; obtain ⟨ys,_,r0⟩:=c0; exact ⟨xs,hx,aP.cut e.pre r r0⟩
theorem oN {xw:XW} {d:D} {v:V} {Q:VK} (h0:aq Γ ι H S) (e:Ext ι ι' H H') (h1:aq Γ ι' H' S') (r:Rep Γ ι' H' d v) (ho:Out Γ xw ι H (leave S d S') fun d _ ι' H'=>∀ v,Rep Γ ι' H' d v->Q v H'):Q v H':=by
 unfold leave at ho
 by_cases ht:S'.take S.length=S
 ·rw [if_pos ht] at ho
  by_cases hl:d.low S.length=true
  ·rw [if_pos hl] at ho
   exact ho ι H' e.back (aq.back e h0 h1 ht) v (r.cut e.pre (by rw [h0.len]; exact hl))
  ·rw [if_neg hl] at ho
   have dflt:Out Γ xw ι H (.ok d S') (fun d _ ι' H'=>∀ v,Rep Γ ι' H' d v->Q v H')->Q v H':=fun ho=>ho ι' H' e h1 v r
   cases d with
   | loc l =>
    dsimp only at ho
    cases q:S'[l]? with
    | none=>rw [q] at ho; exact dflt ho
    | some c =>
     rw [q] at ho
     dsimp only at ho
     by_cases hc:c.low S.length=true
     ·rw [if_pos hc] at ho
      cases r with
      | @loc _ a hla =>
       have hge:¬ l < S.length:=fun z=>hl (decide_eq_true z)
       have hna:a ∉ ι:=fun z=>by
        obtain ⟨j,hj⟩:=List.getElem?_of_mem z
        have hj1:=(List.getElem?_eq_some_iff.mp hj).1
        have:=fW h1.nd hla (d_ e.pre hj)
        rw [h0.len] at hj1
        omega
       have hHa:H a=none:=e.fresh a (List.mem_of_getElem? hla) hna
       have pre2:ι <+: ι++[a]:=List.prefix_append _ _
       refine ho (ι++[a]) H' ⟨pre2,e.tup,e.frz,e.oth,fun b hb hn=>?_⟩ ?_ _ (.loc (by rw [<- h0.len]; simp))
       ·rcases List.mem_append.mp hb with z|z
        ·exact absurd z hn
        ·have:b=a:=by simpa using z
         rw [this]; exact hHa
       ·have hb:=aq.back e h0 h1 ht
        obtain ⟨b,hb2,c1⟩:=h1.cell l c q
        rw [hla] at hb2; cases hb2
        cases c with
        | lst ds =>
         obtain ⟨xs,hx,rr⟩:=c1
         exact hb.take hna hx (au.cut e.pre rr (by rw [h0.len]; exact hc))
        | dct kvs=>cases hc
     ·rw [if_neg hc] at ho; exact dflt ho
   | _=>exact dflt ho
 ·rw [if_neg ht] at ho
  exact ho ι' H' e h1 v r
end
end EV

namespace PySem
open Sem (wp)
open AutoSeq1 (wpAny_loadPart')
section
variable {prog:Program} {w:World} {A:Around} {E:Value->Shared->Prop} {s:Shared}
theorem AN {Q:List Value->Shared->Prop} {r:Addr} {a b c:Int} {t u v:Tok} {n:Nat} (hh:A.handled=none) (hr:IsRange s.heap r a b c t u v) (hsmall:Builtin.Range.small a b c=true)
  (hn:Builtin.Range.rangeSize a b c=n) (hlen:n<=2 ^ 24)
  (hQ:∀ (h':Heap) (tk:Nat) (acc:Array Value),(∀ b o',s.heap.get? b=some o'->h'.get? b=some o')->ItemsOf (fun i v=>∃ t,v=.int (a+i * c) t) acc n->Q acc.toList { s with heap:=h',toks:=tk }) :
  wpAny (model prog w) A (collect (.ref r)) Q E s:=by
 unfold collect
 refine wpAny_bind (wpAny_runValue (codeAny_builtin F.entry_proto_collect ?_))
 rw [Around.under_plainId F.plain_proto_collect _]
 show wpAny _ A.in1 (newList []>>=fun l=>again (.builtin "list.__iadd__" ⟨[l,.ref r],[]⟩)) _ _ s
 refine wpAny_bind (wpAny_newObj_type ?_)
 refine wpAny_pure ⟨plainId_quiet F.plain_list_iadd _,codeAny_builtin F.entry_list_iadd ?_⟩
 rw [Around.under_plainId F.plain_list_iadd _]
 show wpAny _ A.in1 (Builtin.List.listExtendWith (.ref s.heap.objs.size) (.ref r) (.ref s.heap.objs.size)) _ _ _
 have hS:(s.heap.push { cls:=.type "list",data:=.seq ([]:List Value).toArray }).get? s.heap.objs.size=some { cls:=.type "list",data:=.seq #[] 0 }:=Heap.get?_push_size _ rfl
 refine wpAny_mono (wpAny_extend_range (A:=A) (R:=fun r' s'=>r'=.ok (.ret (.ref s.heap.objs.size))/\∃ h' tk acc c',(∀ b o',s.heap.get? b=some o'->h'.get? b=some o')/\h'.get? s.heap.objs.size=some { cls:=.type "list",dict:=none,data:=.seq acc c',slots:=#[] }/\ItemsOf (fun i v=>∃ t,v=.int (a+i * c) t) acc n/\s'={ s with heap:=h',toks:=tk })
  (s:={ s with heap:=s.heap.push { cls:=.type "list",data:=.seq ([]:List Value).toArray } }) hh (Heap.get?_push_of_some _ hr) hsmall hn hlen _ _ 0 hS fun h' tk acc' c' hk hS' hacc=>⟨rfl,h',tk,acc',c',fun b o' hb=>hk b o' (Nat.ne_of_lt (Heap.lt_size hb)) (Heap.get?_push_of_some _ hb),hS',hacc,rfl⟩) (fun fin s' h=>?_) (fun e s' h=>?_)
 ·have fin':∀ s',(∃ h' tk acc c',(∀ b o',s.heap.get? b=some o'->h'.get? b=some o')/\h'.get? s.heap.objs.size=some { cls:=.type "list",dict:=none,data:=.seq acc c',slots:=#[] }/\ItemsOf (fun i v=>∃ t,v=.int (a+i * c) t) acc n/\s'={ s with heap:=h',toks:=tk }) ->
    wpAny (model prog w) A (match Value.ref s.heap.objs.size with
     | Value.ref a=>do
      match (<- load a).data with
       | Data.seq xs _=>pure xs.toList
       | _=>unsupported "internal:collect"
     | _=>unsupported "internal:collect") Q E s':=by
   rintro s' ⟨h',tk,acc,c',hk,hS',hacc,rfl⟩
   show wpAny _ A (load s.heap.objs.size>>=_) _ _ _
   exact wpAny_bind (wpAny_load hS' (wpAny_pure (hQ h' tk acc hk hacc)))
  cases fin with
  | done f =>
   obtain ⟨e,h⟩:=h
   cases e
   exact fin' s' h
  | again c'=>exact ⟨h.1,codeAny_mono h.2 fun r s'' hr=>by obtain ⟨rfl,h⟩:=hr; exact fin' s'' h⟩
 ·exact absurd h.1 (by simp)
end
theorem AV (r:Addr) (a b c:Int) (t u v:Tok) (n:Nat) (hsmall:Builtin.Range.small a b c=true) (hn:Builtin.Range.rangeSize a b c=n) (hlen:n<=2 ^ 24) :
  Meets (Builtin.«tuple.__new__» ⟨[.type "tuple",.ref r],[]⟩)
   (fun A R s=>A.handled=none/\IsRange s.heap r a b c t u v/\∀ (h':Heap) (tk:Nat) (acc:Array Value),(∀ b o',s.heap.get? b=some o'->h'.get? b=some o')->ItemsOf (fun i v=>∃ t,v=.int (a+i * c) t) acc n->R (.ok (.ret (.ref h'.objs.size))) { s with heap:=h'.push { cls:=.type "tuple",data:=.seq acc },toks:=tk }) :=
 .of_wp fun prog w A R s h=>by
  obtain ⟨hp,g,d,tk,os⟩:=s; obtain ⟨hh,ht,h⟩:=h
  have hsub:=sub_tuple_self
  have hinit:=init_tuple_lookup
  have hmh:=madeHere_tuple
  have hT:Shared.TypeIs ⟨hp,g,d,tk,os⟩ (.ref r) "range":=⟨_,ht,rfl⟩
  have hh1:A.in1.handled=none:=hh
  wp_walk using wpAny_loadPart' ht,wpAny_typeOf hT,AN hh1 ht hsmall hn hlen
  intro h' tk' acc hk hacc
  show wpAny _ _ (Builtin.Tuple.tupleExact acc.toList.toArray>>=fun v=>ret v) _ _ _
  unfold Builtin.Tuple.tupleExact
  refine wpAny_bind (wpAny_newObj_type ?_ (show acc.toList.toArray.size<=sizeLine by simp only [Array.toArray_toList]; rw [hacc.1,sizeLine_eq]; omega))
  refine wpAny_pure ⟨_,rfl,?_⟩
  have e:acc.toList.toArray=acc:=by simp
  rw [e]
  exact h h' tk' acc hk hacc
section
variable {prog:Program} {w:World} {A:Around} {E:Value->Shared->Prop} {s:Shared}
theorem AE {Q:Value->Shared->Prop} {r:Addr} {a b c:Int} {t u v:Tok} {n:Nat} (hh:A.handled=none) (hr:IsRange s.heap r a b c t u v) (hsmall:Builtin.Range.small a b c=true)
  (hn:Builtin.Range.rangeSize a b c=n) (hlen:n<=2 ^ 24)
  (h:∀ (h':Heap) (tk:Nat) (acc:Array Value),(∀ b o',s.heap.get? b=some o'->h'.get? b=some o')->ItemsOf (fun i v=>∃ t,v=.int (a+i * c) t) acc n->Q (.ref h'.objs.size) { s with heap:=h'.push { cls:=.type "tuple",data:=.seq acc },toks:=tk }) :
  wpAny (model prog w) A (call (.type "tuple") [.ref r]) Q E s :=
 callType_new F.called_tuple (by decide) (F.typeCall_tuple_1 _) (F.newCall_tuple_1 _) (fun obj=>F.args_object_init_2 obj _) F.entry_tuple_new
  (AV r a b c t u v n hsmall hn hlen) ⟨hh,hr,fun h' tk acc hk hacc=>⟨⟨_,Heap.get?_push_size _ rfl,rfl⟩,h h' tk acc hk hacc⟩⟩
end
end PySem
namespace EV
open PySem PySem.Spec PyProof.Rows L2
section
variable {X:Cx} {Γ:Gx} {xw:XW} {sub:Sub} {a b:PySem.Expr} {ta:TA} {p pos:Pos}
noncomputable def gD (ta:TA):TE:=fun σ H Q=>ta σ H fun vs H1=>∃ lo hi:Int,((vs=[.int hi]/\lo=0)\/vs=[.int lo,.int hi])/\∀ p,H1 p=none->Q (.ref p) (upd H1 p (.rng lo hi))
theorem BD (hg:Gl X "range") (hm:X.mg "range" = none) (ha:PA X [a] ta) (hs:starEach [a] X.env=[(false,eval a X.env)]) (hl:∀ σ H Q,ta σ H Q->ta σ H fun vs H1=>vs.length=1/\Q vs H1):PE X (.Call (.Name "range" p) [a] [] pos) (gD ta):=by
 intro pins s σ H Q I h
 refine Call_ (dc I hg hm boot_range (PyProof.Rows.callWith_type1 (thn (ha pos pins s σ H _ I (hl _ _ _ h)) fun us s1 ⟨vs,H1,I1,r1,hlen,q1⟩=>?_) hs rfl))
 obtain ⟨lo,hi,e,q⟩:=q1
 rcases e with ⟨e,rfl⟩|e
 ·subst e
  obtain ⟨u,rfl,t,rfl⟩:=vals1 r1
  exact call_range_1 ⟨.ref _,_,I1.laid (o:=.rng 0 hi) (fun b o e=>Heap.get?_push_of_some _ e) (Nat.le_refl _) (show ∃ t u v,_ from ⟨_,_,_,Heap.get?_push_size _ rfl⟩),rfl,q _ (I1.hok.fresh (Nat.le_refl _))⟩
 ·subst e; cases hlen
theorem A5 (hg:Gl X "range") (hm:X.mg "range" = none) (ha:PA X [a,b] ta) (hs:starEach [a,b] X.env=[(false,eval a X.env),(false,eval b X.env)]) (hs2:starEach [b] X.env=[(false,eval b X.env)]) (hl:∀ σ H Q,ta σ H Q->ta σ H fun vs H1=>vs.length=2/\Q vs H1):PE X (.Call (.Name "range" p) [a,b] [] pos) (gD ta):=by
 intro pins s σ H Q I h
 refine Call_ (dc I hg hm boot_range (PyProof.Rows.callWith_type1 (thn (ha pos pins s σ H _ I (hl _ _ _ h)) fun us s1 ⟨vs,H1,I1,r1,hlen,q1⟩=>?_) (by rw [hs,hs2]) (by rw [hs2]; rfl)))
 obtain ⟨lo,hi,e,q⟩:=q1
 rcases e with ⟨e,rfl⟩|e
 ·subst e; cases hlen
 ·subst e
  obtain ⟨u,v,rfl,⟨t,rfl⟩,⟨t',rfl⟩⟩:=vals2 r1
  exact call_range_2 ⟨.ref _,_,I1.laid (o:=.rng lo hi) (fun b o e=>Heap.get?_push_of_some _ e) (Nat.le_refl _) (show ∃ t u v,_ from ⟨_,_,_,Heap.get?_push_size _ rfl⟩),rfl,q _ (I1.hok.fresh (Nat.le_refl _))⟩
theorem rV {lo:Int} {n:Nat} {acc:Array Value} (h:ItemsOf (fun i v=>∃ t,v=.int (lo+i * 1) t) acc n):Vals ((List.range n).map fun (k:Nat)=>V.int (lo+k)) acc.toList:=by
 obtain ⟨h1,h2⟩:=h
 refine Paired.of_get (by simp [h1]) fun i x y e1 e2=>?_
 rw [List.getElem?_map] at e1
 have hi:i < n:=by
  have:=(List.getElem?_eq_some_iff.mp e2).1
  simpa [h1] using this
 rw [List.getElem?_range hi] at e1
 cases e1
 have e3:acc[i]?=some y:=by rw [<- Array.getElem?_toList]; exact e2
 obtain ⟨t,rfl⟩:=h2 i y e3
 exact ⟨t,by simp⟩
theorem yV {lo hi:Int}:Builtin.Range.rangeSize lo hi 1=((hi - lo).toNat:Nat):=by rw [rangeSize_one]; split <;> omega
theorem yS (hc:X.calm=true):bB X (.type "tuple") (fun xs H Q=>∃ p lo hi,xs=[.ref p]/\H p=some (.rng lo hi)/\(near lo=true/\near hi=true)/\(hi - lo).toNat<=aO/\∀ l,H l=none->Q (.ref l) (upd H l (.tup ((List.range (hi - lo).toNat).map fun (k:Nat)=>V.int (lo+k))))):=by
 intro pins s σ H xs us Q I r h
 obtain ⟨p,lo,hi,rfl,hp,⟨n1,n2⟩,hz,q⟩:=h
 obtain ⟨u,rfl,rx⟩:=vals1 r
 cases rx
 obtain ⟨t,u,v,hr⟩:=I.hok p _ hp
 have n1:=ez n1
 have n2:=ez n2
 refine AE (I.ok.hd hc) hr (small_one n1.1 n1.2 n2.1 n2.2) yV hz fun h' tk acc hk hacc=>?_
 have hv:=rV hacc
 have I1:Inv X pins σ H { s with heap:=h',toks:=tk }:=I.kept hk
 have hl:((List.range (hi - lo).toNat).map fun (k:Nat)=>V.int (lo+k)).length<=sizeLine:=by rw [List.length_map,List.length_range]; exact hz
 have I2:Inv X pins σ (upd H h'.objs.size (.tup ((List.range (hi - lo).toNat).map fun (k:Nat)=>V.int (lo+k)))) { s with heap:=h'.push { cls:=.type "tuple",data:=.seq acc },toks:=tk } :=
  I1.laid (t':=tk) (fun b o e=>Heap.get?_push_of_some _ e) (Nat.le_refl _) (show a_ X.prog X.w _ _ _ (.tup _) from ⟨hl,acc.toList,hv,by simpa using IsTup.new _ _⟩)
 exact ⟨.ref h'.objs.size,_,I2,rfl,q _ (I1.hok.fresh (Nat.le_refl _))⟩
theorem tu {ds:List D} {is:List Int} (h:bJ ds=some is) (hl:ds.length=1\/ds.length=2):∃ lo hi:Int,((ds=[.int hi]/\lo=0)\/ds=[.int lo,.int hi])/\near lo=true/\near hi=true/\is=(List.range (hi - lo).toNat).map fun (k:Nat)=>lo+k:=by
 match ds,h,hl with
 | [d],h,_ =>
  cases d with
  | int j =>
   simp only [bJ] at h
   split at h
   ·rename_i hn
    cases h
    exact ⟨0,j,.inl ⟨rfl,rfl⟩,by decide,hn,kr 0 j⟩
   ·cases h
  | _=>cases h
 | [d,e],h,_ =>
  cases d with
  | int i =>
   cases e with
   | int j =>
    simp only [bJ] at h
    split at h
    ·rename_i hn
     cases h
     rw [Bool.and_eq_true] at hn
     exact ⟨i,j,.inr rfl,hn.1,hn.2,kr i j⟩
    ·cases h
   | _=>cases h
  | _=>cases h
 | [],_,hl=>rcases hl with hl|hl <;> cases hl
 | _::_::_::_,_,hl=>simp at hl
theorem vG {m:Sg->M (List D)} {mk:List Int->M D} {mkV:List V->HO} {k:Nat} (hk:k=1\/k=2) (hlen:∀ σ S ds S',m σ S=.ok ds S'->ds.length=k)
  (hmk:∀ {ι H S} {Q:VK} {is:List Int} {p:Addr},Out Γ xw ι H (mk is S) (fun d _ ι' H'=>∀ v,Rep Γ ι' H' d v->Q v H')->aq Γ ι H S->H p=none->Q (.ref p) (upd H p (mkV (is.map .int))))
  {σ:L2.St} {H:Hp} {Q:VK} (h:tM Γ xw (fun σ=>m σ>>=fun ds=>opt (bJ ds)>>=fun is=>guard (fits is.length) (mk is)) σ H Q) :
  gD (tMA Γ xw m) σ H fun x H1=>∃ p lo hi,[x]=[V.ref p]/\H1 p=some (.rng lo hi)/\(near lo=true/\near hi=true)/\(hi - lo).toNat<=aO/\∀ l,H1 l=none->Q (.ref l) (upd H1 l (mkV ((List.range (hi - lo).toNat).map fun (k:Nat)=>V.int (lo+k)))):=by
 obtain ⟨σd,ι,S,he,hs,ho⟩:=h
 refine ⟨σd,ι,S,he,hs,Out.monoE ho.bind fun ds S' ι' H' eq _ _ ⟨s',e',o'⟩ vs rs=>?_⟩
 have hl:=hlen _ _ _ _ eq
 obtain ⟨is,q,o'⟩:=Out.opt o'
 obtain ⟨hz,o'⟩:=Out.guard o'
 obtain ⟨lo,hi,e,n1,n2,rfl⟩:=tu q (by rw [hl]; exact hk)
 refine ⟨lo,hi,?_,fun p hp=>⟨p,lo,hi,rfl,b5,⟨n1,n2⟩,by simpa using of_decide_eq_true hz,fun l hl=>?_⟩⟩
 ·rcases e with ⟨rfl,rfl⟩|rfl
  ·exact .inl ⟨d8 (is:=[hi]) rs,rfl⟩
  ·exact .inr (d8 (is:=[lo,hi]) rs)
 ·have:=hmk (Out.step o' (Ext.laid hp (o:=.rng lo hi))) (s'.laid hp _) hl
  rw [List.map_map] at this
  exact this
theorem pO {m:Sg->M (List D)} {k:Nat} (hlen:∀ σ S ds S',m σ S=.ok ds S'->ds.length=k):∀ σ H Q,tMA Γ xw m σ H Q->tMA Γ xw m σ H fun vs H1=>vs.length=k/\Q vs H1:=fun σ H Q h=>by
 obtain ⟨σd,ι,S,he,hs,ho⟩:=h
 exact ⟨σd,ι,S,he,hs,Out.monoE ho fun ds S' ι' H' eq _ _ q vs rs=>⟨by rw [<- rs.length]; exact hlen _ _ _ _ eq,q vs rs⟩⟩
theorem vH {e:PySem.Expr} {m:Sg->M (List D)} {k:Nat} (hk:k=1\/k=2) (hc:X.calm=true) (hlen:∀ σ S ds S',m σ S=.ok ds S'->ds.length=k) (hr:PE X e (gD (tMA Γ xw m))) (hs:starEach [e] X.env=[(false,eval e X.env)]) (hg:Gl X "tuple") (hm:X.mg "tuple" = none) :
  PE X (.Call (.Name "tuple" p) [e] [] pos) (tM Γ xw fun σ=>m σ>>=biD sub .rangeT):=by
 refine PE.imp (qB (yS hc) hg hm PyProof.Rows.boot_tuple (fy hr gb (by rw [hs]; rfl)) (by decide +kernel) (by decide +kernel) (by rw [hs]; rfl) rfl) fun σ H Q h=>?_
 exact vG (mk:=fun is=>pure (.tup (is.map .int))) (mkV:=.tup) hk hlen (fun ho hS hp=>Out.tup ho hS hp (jl _)) h
end
end EV

namespace EV
open PySem
inductive GE where|fn|val (d:D)|cls
structure TC where
 sc:Scope
 N:List Str
 inF:Str->Bool
 top:Bool
 gt:List (Str × GE)
noncomputable def idx:List Str->Str->Option Nat
 | [],_=>none
 | y::r,x=>if y=x then some 0 else (idx r x).map (· + 1)
noncomputable def eK (sc:Scope) (x:Str):Bool:=match sc.names.lookup x with
 | some .local=>true
 | some .cell=>true
 | some .free=>true
 | _=>false
noncomputable def dJ (c:TC) (x:Str):Bool:=match c.sc.names.lookup x with
 | some .local=>true
 | some .cell=>c.inF x
 | _=>false
noncomputable def glB (c:TC) (x:Str):Bool:=decide (c.sc.names.lookup x=some .globalImplicit)
noncomputable def bG (x:Str):Bool:=!(x==("__debug__" : Str))&&!(x==("__classdict__" : Str))
noncomputable def op2:Operator->Option Op2
 | .Add=>some .add
 | .Sub=>some .sub
 | .Mult=>some .mul
 | .FloorDiv=>some .fdiv
 | .Mod=>some .mod
 | .Pow=>some .pow
 | _=>none
noncomputable def cmO:CmpOp->Option Cm
 | .Lt=>some .lt
 | .LtE=>some .le
 | .Gt=>some .gt
 | .GtE=>some .ge
 | .Eq=>some .eq
 | .NotEq=>some .ne
 | .In=>some .isin
 | .NotIn=>some .dM
 | _=>none
noncomputable def nY:Const->Option E
 | .none=>some (.c .non)
 | .bool b=>some (.c (.bl b))
 | .int i=>some (.c (.int i))
 | .str s=>some (.c (.str s))
 | _=>none
noncomputable def kX (c:TC) (x:Str):Option E :=
 if bG x then
  if eK c.sc x then (idx c.N x).map .v
  else if glB c x then match c.gt.lookup x with
   | some (.val d)=>some (.c d)
   | _=>none
  else none
 else none
noncomputable def cy (c:TC) (x:Str):Bool:=glB c x&&(c.gt.lookup x).isNone
noncomputable def jj (x:Str):Option Bi :=
 if x = "len" then some .len else if x = "all" then some .all else if x = "sum" then some .sum else if x = "min" then some .min
 else if x = "max" then some .max else if x = "tuple" then some .tuple else if x = "int" then some .int else none
noncomputable def jd (x:Str):Option Ty :=
 if x = "int" then some .int else if x = "bool" then some .bool else if x = "str" then some .str else if x = "list" then some .list else if x = "tuple" then some .tuple else if x = "dict" then some .dict else none
noncomputable def iT (x:Str):Option Me:=if x = "append" then some .append else if x = "extend" then some .extend else none
noncomputable def bf (f:PySem.Expr->Option E):List PySem.Expr->Option E
 | []=>some .nl
 | e::r=>match f e,bf f r with
  | some a,some b=>some (.cs a b)
  | _,_=>none
noncomputable def trO (f:PySem.Expr->Option E):Option PySem.Expr->Option E
 | none=>some .nl
 | some e=>match f e with
  | some .nl=>none
  | o=>o
noncomputable def ff (c:TC):List PySem.Expr->Option (List Nat)
 | []=>some []
 | .Name x _::r=>if dJ c x then match idx c.N x,ff c r with
   | some i,some is=>some (i::is)
   | _,_=>none
  else none
 | _=>none
noncomputable def gC (c:TC):PySem.Expr->Option Tg
 | .Name x _=>if dJ c x then (idx c.N x).map .one else none
 | .Tuple es _ _=>(ff c es).map .many
 | _=>none
noncomputable def isTup:PySem.Expr->Bool
 | .Tuple _ _ _=>true
 | _=>false
noncomputable def fU (c:TC) (x:Str):Bool:=cy c x&&decide (x = "range")
noncomputable def kq (c:TC) (x:Str):Bool:=cy c x&&decide (x = "enumerate")
noncomputable def CT (c:TC) (x:Str):Bool:=cy c x&&decide (x = "zip")
noncomputable def pair (es:List PySem.Expr):Bool:=decide (es.length=2)
noncomputable def few (es:List PySem.Expr):Bool:=decide (1<=es.length)&&decide (es.length<=3)
noncomputable def kP:PySem.Expr->Bool
 | .Set _ _ _=>false
 | _=>true
noncomputable def trI (f:PySem.Expr->Option E) (c:TC) (tg:PySem.Expr) (e:PySem.Expr):Option E :=
 if kP e then match e with
  | .Call (.Name x _) args [] _ =>
   if fU c x then (if few args then (bf f args).map .iRng else none)
   else if kq c x then match isTup tg,args with
    | true,[a]=>(f a).map .iEnum
    | _,_=>none
   else (f e).map .iSeq
  | _=>(f e).map .iSeq
 else none
noncomputable def mangle (x:Str):Str:=⟨#[0]++x.cps⟩
noncomputable def fR (scope sc:Scope):Scope :=
 { scope with names:=scope.names.map fun (n,k)=>if (k==.free&&sc.kind==.function&&sc.names.lookup n==some .cell) then (n,.cell) else (n,k) }
noncomputable def isFree (scope:Scope) (x:Str):Bool:=scope.names.any fun y=>decide (y.1=x)&&decide (y.2=.free)
noncomputable def own (scope:Scope):List Str:=(scope.names.filter fun y=>decide (y.2=.local)||decide (y.2=.cell)).map (·.1)
noncomputable def fz (scope:Scope) (x:Str):Str:=if isFree scope x then x else mangle x
noncomputable def inComp (c:TC) (scope:Scope):TC:={ c with sc:=fR scope c.sc,N:=c.N.map (fz scope)++own scope,inF:=fun x=>decide (scope.names.lookup x=some .cell),top:=false }
noncomputable def fq:List Str->Bool
 | []=>true
 | x::r=>!(r.any fun y=>decide (y=x))&&fq r
noncomputable def j4 (c:TC) (scope:Scope):Bool :=
 scope.names.all (fun y=>!decide (y.2=.free)||(match c.sc.names.lookup y.1 with|some .cell=>true|some .free=>true|_=>false)) &&
 fq (scope.names.map (·.1))&&decide (scope.kind=.function) &&
 scope.names.all (fun y=>!decide (y.2=.local)||decide (scope.names.lookup y.1=some .local)) &&
 fq (c.N.map (fz scope)++own scope) &&
 c.N.all (fun x=>if isFree scope x then !decide ((fR scope c.sc).names.lookup x=some .local) else !eK (fR scope c.sc) (mangle x))
noncomputable def Tg.p5 (n:Nat):Tg->Bool
 | .one i=>decide (n<=i)
 | .many is=>is.all fun i=>decide (n<=i)
noncomputable def oX:PySem.Expr->Bool
 | .Call _ [] [] _=>false
 | _=>true
noncomputable def two (es:List PySem.Expr):Bool:=decide (es.length=1)||decide (es.length=2)
noncomputable def CP (c:TC) (x:Str):Bool:=cy c x&&decide (x = "set")
noncomputable def CS:List PySem.Expr->Bool
 | [_]=>true
 | _=>false
noncomputable def jP (c:TC) (x:Str):List PySem.Expr->Option (Bi × List PySem.Expr)
 | [.Call (.Name r _) ra [] _]=>if fU c r&&two ra then (if x = "tuple" then some (.rangeT,ra) else none) else none
 | _=>none
noncomputable def CI:CmpOp->Option Bool
 | .Is=>some true
 | .IsNot=>some false
 | _=>none
noncomputable def CZ:PySem.Expr->Bool
 | .Constant k _ _=>(match k with
  | .none=>true
  | _=>false)
 | _=>false
noncomputable def iE:PySem.Expr->Bool
 | .Constant k _ _=>(match k with
  | .str _=>true
  | _=>false)
 | _=>false
noncomputable def AX:List PySem.Expr->Bool
 | [e]=>iE e
 | _=>false
noncomputable def trE:Nat->TC->PySem.Expr->Option E
 | 0,_,_=>none
 | n+1,c,e=>match e with
  | .Name x _=>kX c x
  | .Constant k _ _=>nY k
  | .BinOp a op b _=>match op2 op,trE n c a,trE n c b with
   | some o,some a',some b'=>some (.bin o a' b')
   | _,_,_=>none
  | .UnaryOp op a _=>match op,trE n c a with
   | .Not,some a'=>some (.not a')
   | .USub,some a'=>some (.neg a')
   | _,_=>none
  | .BoolOp op vs p=>match vs with
   | []=>none
   | [a]=>trE n c a
   | a::b::r=>match op,trE n c a,trE n c (.BoolOp op (b::r) p) with
    | .And,some a',some b'=>some (.and a' b')
    | .Or,some a',some b'=>some (.or a' b')
    | _,_,_=>none
  | .IfExp t a b _=>match trE n c t,trE n c a,trE n c b with
   | some t',some a',some b'=>some (.ite t' a' b')
   | _,_,_=>none
  | .Compare a ops cs _=>match ops,cs with
   | [op],[b]=>match cmO op,trE n c a,trE n c b,behindInMarks op b with
     | some o,some a',some b',false=>some (.cmp o a' b')
     | _,_,_,_=>none
   | [op,op'],[b,d]=>match cmO op,cmO op',trE n c a,trE n c b,trE n c d,lastMarks [op,op'] [b,d] with
    | some o,some o',some a',some b',some d',false=>some (.chn o o' a' b' d')
    | _,_,_,_,_,_=>none
   | _,_=>none
  | .Tuple es _ _=>(bf (trE n c) es).map .tup
  | .List es _=>(bf (trE n c) es).map .lst
  | .Dict ks vs _=>match ks,vs with
   | [],[]=>some .dnew
   | _,_=>none
  | .Subscript a i _=>match i with
   | .Slice lo hi none _=>match trE n c a,trO (trE n c) lo,trO (trE n c) hi with
    | some a',some l,some h=>some (.sl a' l h)
    | _,_,_=>none
   | .Slice _ _ (some _) _=>none
   | .Tuple es _ _=>match trE n c a,bf (trE n c) es with
    | some a',some es'=>some (.dget a' es')
    | _,_=>none
   | i=>match trE n c a,trE n c i with
    | some a',some i'=>some (.ix a' i')
    | _,_=>none
  | .Call f args kws cpos=>match f,kws with
   | .Name x _,[] =>
    if bG x&&glB c x then match c.gt.lookup x with
     | some .fn=>(bf (trE n c) args).map (.call x)
     | some _=>none
     | none =>
      if x = "isinstance" then match args with
       | [a,.Name y _]=>if bG y&&cy c y then match jd y,trE n c a with
         | some t,some a'=>some (.bi (.inst t) (.cs a' .nl))
         | _,_=>none
        else none
       | _=>none
      else match jP c x args with
       | some (b,ra)=>(bf (trE n c) ra).map (.bi b)
       | none=>match args with
        | []=>none
        | a::r=>match jj x,bf (trE n c) (a::r) with
         | some b,some es=>some (.bi b es)
         | _,_=>none
    else none
   | .Attribute o name apos,[]=>match args with
    | []=>none
    | a::r=>if oX o&&(apos.endLine==cpos.line)&&decide (args.length < 20) then match iT name,trE n c o,bf (trE n c) (a::r) with
      | some m,some o',some es=>some (.me m o' es)
      | _,_,_=>none
     else none
   | _,_=>none
  | .ListComp elt gens scope _=>match gens with
   | [⟨tg,iter,ifs,asy⟩]=>if asy=0&&j4 c scope then
     match trI (trE n c) c tg iter,gC (inComp c scope) tg,trE n (inComp c scope) elt,(match ifs with|[]=>some .nl|[t]=>trO (trE n (inComp c scope)) (some t)|_=>none) with
     | some it,some t,some el,some tt=>if t.p5 c.N.length then some (.comp (own scope).length el t it tt) else none
     | _,_,_,_=>none
    else none
   | _=>none
  | _=>none
noncomputable def eG:PySem.Expr->Bool
 | .ListComp _ _ _ _=>false
 | .SetComp _ _ _ _=>false
 | .DictComp _ _ _ _ _=>false
 | _=>true
noncomputable def kY:PySem.Expr->PySem.Expr->Bool
 | .Name _ _,_=>true
 | .Tuple _ _ _,v=>!isTup v&&eG v
 | _,_=>false
noncomputable def cB (f:Stmt->Option S):List Stmt->Option S
 | []=>some .skip
 | [s]=>f s
 | s::r=>match f s,cB f r with
  | some a,some b=>some (.seq a b)
  | _,_=>none
noncomputable def jQ (c:TC):PySem.Expr->Option S
 | .Call f args kws _=>match f,kws with
  | .Name x _,[]=>if AX args&&(bG x&&glB c x) then match c.gt.lookup x with
    | some .cls=>some (.rais x)
    | _=>none
   else none
  | _,_=>none
 | _=>none
noncomputable def qu:PySem.Expr->Bool
 | .Slice _ _ _ _=>false
 | .Tuple _ _ _=>false
 | _=>true
noncomputable def iS (f:PySem.Expr->Option E) (e:PySem.Expr):PySem.Expr->Option S
 | .Subscript o (.Tuple es _ _) _=>if eG e then match f o,bf f es,f e with
   | some a,some b,some d=>some (.dset a b d)
   | _,_,_=>none
  else none
 | .Subscript o i _=>if eG e&&qu i then match f o,f i,f e with
   | some a,some b,some d=>some (.setIx a b d)
   | _,_,_=>none
  else none
 | _=>none
noncomputable def d9 (c:TC) (n:Str):PySem.Expr->Bool
 | .Call (.Name x _) [.Name y _,.Name d _] [] _=>(decide (x = "isinstance")&&decide (y=n))&&(cy c "isinstance"&&((decide (d = "LapError")&&glB c d&&(match c.gt.lookup d with|some .cls=>true|_=>false))||(decide (d = "ValueError")&&cy c d)))
 | _=>false
noncomputable def dZ (c:TC) (n k:Str):PySem.Expr->Bool
 | .UnaryOp .Not (.Call (.Name x _) [.Name y _,.Name d _] [] _) _=>(decide (x = "isinstance")&&decide (y=n))&&(cy c "isinstance"&&(decide (k = "NoLoop")&&decide (d = "NoPlan")&&glB c d&&(match c.gt.lookup d with|some .cls=>true|_=>false)))
 | _=>false
noncomputable def fY (c:TC) (n k:Str):List PySem.Expr->Bool
 | []=>false
 | [t]=>d9 c n t||dZ c n k t
 | t::r=>(d9 c n t||dZ c n k t)&&fY c n k r
noncomputable def g8 (c:TC) (n k:Str):PySem.Expr->Option D
 | .BoolOp .And ts _=>if fY c n k ts then some (.bl true) else none
 | .BinOp (.Constant (.str x) _ _) .Mult (.Call (.Name y _) [.BoolOp .And ts _] [] _) _=>if (decide (y = "int")&&cy c "int")&&fY c n k ts then some (.str x) else none
 | _=>none
noncomputable def j3 (c:TC) (f:PySem.Expr->Option E):List Stmt->List ExceptHandler->Option S
 | [.Return (some (.Call (.Name x _) (a::as) [] _)) _],[.ExceptHandler (some (.Name k _)) (some n) [.Return (some kx) _] _] =>
  if ((c.top&&(bG x&&glB c x))&&(bG k&&glB c k))&&(bG n&&decide (c.sc.names.lookup n=some .local)) then match c.gt.lookup x,c.gt.lookup k,bf f (a::as),g8 c n k kx,idx c.N n with
   | some .fn,some .cls,some es,some d,some _=>some (.tryR x es k d)
   | _,_,_,_,_=>none
  else none
 | [.Expr (.Call (.Name x _) (a::as) [] _) _],[.ExceptHandler (some (.Name k _)) (some n) [.Return (some kx) _] _] =>
  if ((c.top&&(bG x&&glB c x))&&(bG k&&glB c k))&&(bG n&&decide (c.sc.names.lookup n=some .local)) then match c.gt.lookup x,c.gt.lookup k,bf f (a::as),g8 c n k kx,idx c.N n with
   | some .fn,some .cls,some es,some d,some _=>some (.tryE x es k d)
   | _,_,_,_,_=>none
  else none
 | _,_=>none
noncomputable def kI (c:TC) (f:PySem.Expr->Option E):List Stmt->List ExceptHandler->Option S
 | [.Return (some (.Call (.Name x _) (a::as) [] _)) _],[.ExceptHandler (some (.Name k _)) none [.Return (some (.Constant .none _ _)) _] _] =>
  if (c.top&&(bG x&&glB c x))&&(bG k&&glB c k) then match c.gt.lookup x,c.gt.lookup k,bf f (a::as) with
   | some .fn,some .cls,some es=>some (.tryR x es k .non)
   | _,_,_=>none
  else none
 | b,hs=>j3 c f b hs
noncomputable def trS (m:Nat):Nat->TC->Stmt->Option S
 | 0,_,_=>none
 | n+1,c,s=>match s with
  | .Return none _=>some .retN
  | .Return (some e) _=>(trE m c e).map .ret
  | .Expr e _=>if iE e then some .skip else if eG e then (trE m c e).map .ex else none
  | .Pass _=>some .skip
  | .Assign ts e _=>match ts with
   | [tg]=>if kY tg e then match gC c tg,trE m c e with
     | some t,some e'=>some (.set t e')
     | _,_=>none
    else iS (trE m c) e tg
   | _=>none
  | .If t a b _=>match trE m c t,cB (trS m n c) a,cB (trS m n c) b with
   | some t',some a',some b'=>some (.ite t' a' b')
   | _,_,_=>none
  | .For tg it body els _=>match els,gC c tg,trI (trE m c) c tg it,cB (trS m n c) body with
   | [],some t,some i,some b=>some (.forS t i b)
   | _,_,_,_=>none
  | .While t body els _=>match els,trE m c t,cB (trS m n c) body with
   | [],some t',some b=>some (.whl t' b)
   | _,_,_=>none
  | .Raise (some e) none _=>jQ c e
  | .Try body hs [] [] _=>kI c (trE m c) body hs
  | _=>none
noncomputable def depth:Nat:=60
noncomputable def argNames (a:Arguments):List Str:=a.args.map (·.arg)
noncomputable def iO (a:Arguments):Bool:=a.posonlyargs.isEmpty&&a.vararg.isNone&&a.kwonlyargs.isEmpty&&a.kw_defaults.isEmpty&&a.kwarg.isNone&&a.defaults.isEmpty
noncomputable def namesOf (a:Arguments) (sc:Scope):List Str:=argNames a++(sc.names.filter fun y=>(decide (y.2=.local)||decide (y.2=.cell))&&!((argNames a).any fun x=>decide (x=y.1))).map (·.1)
noncomputable def eB (gt:List (Str × GE)) (a:Arguments) (sc:Scope):TC:=⟨sc,namesOf a sc,fun _=>true,true,gt⟩
noncomputable def cP (a:Arguments) (sc:Scope):Bool :=
 iO a&&decide (sc.kind=.function)&&!sc.isCoroutine&&!sc.isGenerator&&fq (namesOf a sc)&&(argNames a).all (fun x=>match sc.names.lookup x with|some .local=>true|some .cell=>true|_=>false)&&sc.names.all fun y=>!decide (y.2=.free)
noncomputable def trF (gt:List (Str × GE)):Stmt->Option Fn
 | .FunctionDef _ a body _ _ _ sc _ _ _=>if cP a sc then (cB (trS depth depth (eB gt a sc)) body).map fun b=>⟨(argNames a).length,(namesOf a sc).length,b⟩ else none
 | _=>none
end EV

namespace EV
open PySem PySem.Spec PyProof.Rows L2
theorem eS:∀ {l:List Str} {x:Str} {i:Nat},idx l x=some i->l[i]?=some x
 | [],_,_,h=>by cases h
 | y::r,x,i,h=>by
  unfold idx at h
  by_cases e:y=x
  ·rw [if_pos e] at h; cases h; subst e; rfl
  ·rw [if_neg e] at h
   cases q:idx r x with
   | none=>rw [q] at h; cases h
   | some j=>rw [q] at h; cases h; show r[j]?=some x; exact eS q
theorem g6:∀ {l:List Str},fq l=true->l.Nodup
 | [],_=>List.nodup_nil
 | x::r,h=>by
  rw [fq,Bool.and_eq_true] at h
  refine List.nodup_cons.mpr ⟨fun m=>?_,g6 h.2⟩
  have:(r.any fun y=>decide (y=x))=true:=List.any_eq_true.mpr ⟨x,m,decide_eq_true rfl⟩
  rw [this] at h; exact absurd h.1 (by simp)
theorem xg {sc:Scope} {x:Str} (h:eK sc x=true):Vis sc x:=by
 unfold eK at h
 unfold Vis
 cases q:sc.names.lookup x with
 | none=>rw [q] at h; cases h
 | some k=>rw [q] at h; cases k <;> first|exact .inl rfl|exact .inr (.inl rfl)|exact .inr (.inr rfl)|cases h
theorem um {sc:Scope} {x:Str} (h:Vis sc x):eK sc x=true:=by
 unfold eK
 rcases h with h|h|h <;> rw [h]
theorem b7 {x:Str} (h:bG x=true):(x==("__debug__" : Str))=false/\(x==("__classdict__" : Str))=false:=by
 unfold bG at h
 rw [Bool.and_eq_true] at h
 exact ⟨by simpa using h.1,by simpa using h.2⟩
structure Cok (c:TC) (X:Cx):Prop where
 sc:X.env.scope=c.sc
 N:X.N=c.N
 nd:X.N.Nodup
 kind:c.sc.kind=.function
 fn:∀ x,c.inF x=true->X.fn x=true
 stk:c.top=true->X.stack=X.env::X.outer/\X.env.frame=some X.env.locals
theorem Cok.gl {c:TC} {X:Cx} (C:Cok c X) {x:Str} (h:glB c x=true):Gl X x:=by
 show X.env.scope.names.lookup x=_
 rw [C.sc]; exact of_decide_eq_true h
theorem Cok.loc {c:TC} {X:Cx} (C:Cok c X) {x:Str} (h:dJ c x=true):L2.Loc X.env.scope x/\(X.fn x=true\/X.env.scope.names.lookup x=some .local):=by
 unfold dJ at h
 unfold L2.Loc
 rw [C.sc]
 cases q:c.sc.names.lookup x with
 | none=>rw [q] at h; cases h
 | some k =>
  rw [q] at h
  cases k with
  | «local»=>exact ⟨.inl rfl,.inr rfl⟩
  | cell=>exact ⟨.inr rfl,.inl (C.fn x h)⟩
  | _=>cases h
theorem xS {scope:Scope} {env:Env}:relabel scope env=fR scope env.scope:=rfl
noncomputable def dB:List Str:=["len","all","any","sum","min","max","sorted","abs","list","tuple","int","bool","str","dict","range","enumerate","isinstance","set","zip","ValueError"]
section
variable (Γ:Gx) (W:XW->Prop) (CX:CXT) (EW:XW->XK)
noncomputable def spF (g:List D->M D) (n:Nat):Sp:=fun vs H Q E=>vs.length=n/\∃ xw,W xw/\E=EW xw/\∃ ι S ds,aq Γ ι H S/\au Γ ι H ds vs/\Out Γ xw ι H (g ds S) fun d _ ι' H'=>∀ v,Rep Γ ι' H' d v->Q v H'
noncomputable def EWx (K:PySem.W.Frag):XW->XK:=fun xw cls _ H'=>∃ c C,cls=.ref C/\PySem.W.nsIn K mainGlobals c=some (some (.ref C))/\∃ S ι,xw c S ι H'
theorem ewF {K:PySem.W.Frag} {cls:Value} {o:Option Addr} {H:Hp} (h:EWx K XF cls o H):False:=by
 obtain ⟨_,_,_,_,_,_,z⟩:=h
 exact z
noncomputable def ClsAt (K:PySem.W.Frag) (x:Str):Prop:=∃ C newId initId B bmB,PySem.W.nsIn K mainGlobals x=some (some (.ref C))/\PySem.W.excIn K C bmB newId=true/\ExcBaseFacts B newId initId bmB/\PySem.W.kitOne K (.ref C) (.type "ValueError")=some true /\
 (∃ L,PySem.W.nsIn K mainGlobals "LapError" = some (some (.ref L))/\PySem.W.kitOne K (.ref C) (.ref L)=some true) /\
 (x = "NoLoop"->∀ P,PySem.W.nsIn K mainGlobals "NoPlan" = some (some (.ref P))->dI K C/\PySem.W.kitOne K (.ref C) (.ref P)=some false)
structure Fam (gt:List (Str × GE)) (cf:Str->List D->M D) (X:Cx) (xw:XW):Prop where
 hK:Γ.K=X.K
 calm:X.calm=true
 un:X.A.units+64 < cLine
 blt:∀ x∈dB,gt.lookup x=none->X.mg x=none
 val:∀ x d,gt.lookup x=some (.val d)->∃ u v,X.mg x=some u/\RelV v u/\∀ ι H,Rep Γ ι H d v
 fn:∀ x,gt.lookup x=some .fn->∃ k f fd ps,b_ X.prog X.w X.K X.mg X.base CX k f fd ps (spF Γ W EW (cf x) ps.length)/\br k X.A/\X.mg x=some (.ref f)/\PySem.W.keepIn X.K (.ref f)=true/\Binds X.K fd ps []/\∀ ds S,ds.length≠ps.length->cf x ds S=.bad
 pass:Passes CX X (EW xw)
 rp:Passes (CXr X.prog X.w) X (EW xw)
 cls:∀ x,gt.lookup x=some .cls->ClsAt X.K x/\∀ C,PySem.W.nsIn X.K mainGlobals x=some (some (.ref C))->X.mg x=some (.ref C)
 cx:CX=CXe X.prog X.w
 ew:EW=EWx X.K
 wt:∀ xw,W xw
end
section
variable {Γ:Gx} {W:XW->Prop} {CX:CXT} {EW:XW->XK} {gt:List (Str × GE)} {cf:Str->List D->M D} {X:Cx} {xw:XW}
theorem Fam.noR (F:Fam Γ W CX EW gt cf X xw) {st:Heap->Heap->Addr->Addr->Prop} {outer:List Env} {H:Hp} {s:Shared} {e:Value} {s':Shared} (h:CXg st X.prog X.w outer H s (EW XF) e s'):False:=by
 obtain ⟨_,_,_,_,_,_,_,_,_,_,_,_,z⟩:=h
 rw [F.ew] at z
 exact ewF z
theorem Fam.noF (F:Fam Γ W CX EW gt cf X xw) {outer:List Env} {H:Hp} {s:Shared} {e:Value} {s':Shared} (h:CX outer H s (EW XF) e s'):False:=by
 rw [F.cx] at h
 exact F.noR h
theorem Fam.ok (F:Fam Γ W CX EW gt cf X xw):W xw:=F.wt xw
theorem Fam.nox (F:Fam Γ W CX EW gt cf X xw):Fam Γ W CX EW gt cf X.nox XF :=
 ⟨F.hK,F.calm,F.un,F.blt,F.val,F.fn,fun _ _ _ _ _ _ _ h=>(F.noF h).elim,fun _ _ _ _ _ _ _ h=>(F.noR h).elim,F.cls,F.cx,F.ew,F.wt⟩
theorem Fam.comp (F:Fam Γ W CX EW gt cf X xw) (scope:Scope) (cl:List (Str × Addr)) (N':List Str) (fp:List Addr) (s3:Shared) (H3:Hp):Fam Γ W CX EW gt cf (aM X scope cl N' fp s3 H3) XF :=
 ⟨F.hK,F.calm,F.un,F.blt,F.val,F.fn,fun _ _ _ _ _ _ _ h=>(F.noF h).elim,fun _ _ _ _ _ _ _ h=>(F.noR h).elim,F.cls,F.cx,F.ew,F.wt⟩
theorem Cok.nox {c:TC} (C:Cok c X):Cok c X.nox:=⟨C.sc,C.N,C.nd,C.kind,C.fn,C.stk⟩
end
theorem Ba {scope:Scope} {x:Str} (h:isFree scope x=true):(x,NameKind.free)∈scope.names:=by
 obtain ⟨⟨n,k⟩,m,e⟩:=List.any_eq_true.mp h
 rw [Bool.and_eq_true] at e
 obtain ⟨e1,e2⟩:=e
 have e1:n=x:=of_decide_eq_true e1
 have e2:k=.free:=of_decide_eq_true e2
 subst e1; subst e2; exact m
theorem k6 {c:TC} {X:Cx} {scope:Scope} (C:Cok c X) (h:j4 c scope=true):dU X scope (inComp c scope).N (own scope).length /\
  ∀ cl fp s3 H3,Cok (inComp c scope) (aM X scope cl (inComp c scope).N fp s3 H3):=by
 unfold j4 at h
 simp only [Bool.and_eq_true] at h
 obtain ⟨⟨⟨⟨⟨h1,h2⟩,h3⟩,h4⟩,h5⟩,h6⟩:=h
 rw [List.all_eq_true] at h1 h4 h6
 have hrel:relabel scope X.env=fR scope c.sc:=by rw [xS,C.sc]
 refine ⟨⟨fun y hy hf=>?_,g6 h2,of_decide_eq_true h3,fun y hy hl=>?_,?_,fun i x hi hx hv=>?_⟩,fun cl fp s3 H3=>⟨hrel,rfl,g6 h5,?_,fun _ h=>h,fun z=>by cases z⟩⟩
 ·have:=h1 y hy
  rw [Bool.or_eq_true] at this
  rcases this with z|z
  ·rw [hf] at z; simp at z
  ·show X.env.scope.names.lookup y.1=_\/X.env.scope.names.lookup y.1=_
   rw [C.sc]
   cases q:c.sc.names.lookup y.1 with
   | none=>rw [q] at z; cases z
   | some k=>rw [q] at z; cases k <;> first|exact .inl rfl|exact .inr rfl|cases z
 ·have:=h4 y hy
  rw [Bool.or_eq_true] at this
  rcases this with z|z
  ·rw [hl] at z; simp at z
  ·exact of_decide_eq_true z
 ·show (c.N.map (fz scope)++own scope).length=_
  rw [List.length_append,List.length_map,C.N]
 ·have hx:(c.N.map (fz scope)++own scope)[i]?=some x:=hx
  have hi':i < c.N.length:=by rw [<- C.N]; exact hi
  rw [List.getElem?_append_left (by rw [List.length_map]; exact hi'),List.getElem?_map,List.getElem?_eq_getElem hi'] at hx
  have hx:fz scope c.N[i]=x:=Option.some.inj hx
  have hm:=h6 c.N[i] (List.getElem_mem hi')
  rw [hrel] at hv ⊢
  unfold fz at hx
  by_cases hf:isFree scope c.N[i]=true
  ·rw [if_pos hf] at hx hm
   subst hx
   refine ⟨by rw [C.N]; exact List.getElem?_eq_getElem hi',Ba hf,fun z=>?_⟩
   rw [z] at hm; simp at hm
  ·rw [if_neg hf] at hx hm
   subst hx
   rw [um hv] at hm; simp at hm
 ·exact of_decide_eq_true h3
end EV

namespace EV
open PySem PySem.Spec PyProof.Rows L2
theorem aX {n:Nat} {c:TC} {a:PySem.Expr} {a':E} (h:trE n c a=some a'):∀ es env,starEach (a::es) env=(false,eval a env)::starEach es env:=by
 cases n with
 | zero=>cases h
 | succ n=>cases a <;> first|(intro _ _; rfl)|cases h
theorem bC {f:PySem.Expr->Option E} {e:PySem.Expr} {r:List PySem.Expr} {es:E} (h:bf f (e::r)=some es):∃ a b,f e=some a/\bf f r=some b/\es=.cs a b:=by
 unfold bf at h
 cases q:f e with
 | none=>rw [q] at h; cases h
 | some a =>
  rw [q] at h
  cases q2:bf f r with
  | none=>rw [q2] at h; cases h
  | some b=>rw [q2] at h; cases h; exact ⟨a,b,rfl,rfl,rfl⟩
theorem dW {n:Nat} {c:TC}:∀ {es:List PySem.Expr} {es':E},bf (trE n c) es=some es'->∀ env pos,(backTo pos (starEach es env)).any (·.1)=false/\(backTo pos (starEach es env)).all (fun x=>!x.1)=true
 | [],_,_,_,_=>⟨rfl,rfl⟩
 | e::r,_,h,env,pos=>by
  obtain ⟨a,b,h1,h2,_⟩:=bC h
  rw [aX h1]
  obtain ⟨z1,z2⟩:=dW h2 env pos
  constructor
  ·show (List.map _ ((false,eval e env)::starEach r env)).any _=false
   rw [List.map_cons,List.any_cons]
   have:(List.map (fun x:Bool × Sem Value=>(x.1,if x.1=true then do let v <- x.2; standAt pos; pure v else x.2)) (starEach r env)).any (·.1)=false:=z1
   simpa using this
  ·show (List.map _ ((false,eval e env)::starEach r env)).all _=true
   rw [List.map_cons,List.all_cons]
   have:(List.map (fun x:Bool × Sem Value=>(x.1,if x.1=true then do let v <- x.2; standAt pos; pure v else x.2)) (starEach r env)).all (fun x=>!x.1)=true:=z2
   simpa using this
section
variable {Γ:Gx} {W:XW->Prop} {CX:CXT} {EW:XW->XK} {gt:List (Str × GE)} {cf:Str->List D->M D} {sub:Sub} {X:Cx} {xw:XW}
theorem BE (hw:W xw) {ps:List Str} {m:Sg->M (List D)} {i:Str} (hb:∀ ds S,ds.length≠ps.length->cf i ds S=.bad) {σ:L2.St} {H:Hp} {Q:VK} (h:tM Γ xw (fun σ=>m σ>>=cf i) σ H Q) :
  jF (spF Γ W EW (cf i) ps.length) [] (EW xw) (tMA Γ xw m) σ H Q:=by
 obtain ⟨σd,ι,S,he,hs,ho⟩:=h
 refine ⟨σd,ι,S,he,hs,ho.bind.mono fun ds S' ι' H' _ _ ⟨s',e',o'⟩ vs rs=>?_⟩
 show spF Γ W EW (cf i) ps.length (vs++[]) H' Q (EW xw)
 rw [List.append_nil]
 refine ⟨?_,xw,hw,rfl,ι',S',ds,s',rs,o'⟩
 by_cases hl:ds.length=ps.length
 ·rw [<- rs.length]; exact hl
 ·rw [hb ds S' hl] at o'; exact o'.elim
theorem xy (F:Fam Γ W CX EW gt cf X xw) {x:Str} (hx:gt.lookup x=some .fn) (hg:Gl X x) (hdb:(x==("__debug__" : Str))=false) {a:PySem.Expr} {es:List PySem.Expr} {m:Sg->M (List D)} {p pos:Pos}
  (ha:PA X (a::es) (tMA Γ xw m)) (he:starEach (a::es) X.env=(false,eval a X.env)::starEach es X.env) (hpl:(backTo pos (starEach es X.env)).any (·.1)=false) :
  PE X (.Call (.Name x p) (a::es) [] pos) (tM Γ xw fun σ=>m σ>>=cf x):=by
 obtain ⟨k,f,fd,ps,hf,hr,hm,hk,hb,hl⟩:=F.fn x hx
 exact PE.imp (Br hf hr hg hm hk hb .nil F.pass ha hdb he hpl) fun σ H Q h=>BE F.ok hl h
theorem Cv (F:Fam Γ W CX EW gt cf X xw) {x:Str} (hx:gt.lookup x=some .fn) (hg:Gl X x) (hdb:(x==("__debug__" : Str))=false) {p pos:Pos} :
  PE X (.Call (.Name x p) [] [] pos) (tM Γ xw fun _=>cf x []):=by
 obtain ⟨k,f,fd,ps,hf,hr,hm,hk,hb,hl⟩:=F.fn x hx
 refine PE.imp (uU hf hr hg hm hk hb .nil F.pass hdb) fun σ H Q h=>?_
 obtain ⟨σd,ι,S,he,hs,ho⟩:=h
 have ho:Out Γ xw ι H (cf x [] S) fun d x ι' H'=>∀ (v:V),Rep Γ ι' H' d v->Q v H':=ho
 refine ⟨?_,xw,F.ok,rfl,ι,S,[],hs,.nil,ho⟩
 by_cases hz:([]:List D).length=ps.length
 ·exact hz
 ·rw [hl [] S hz] at ho; exact ho.elim
theorem p_ (F:Fam Γ W CX EW gt cf X xw) {x:Str} (h:gt.lookup x=none) (hm:x∈dB):X.mg x=none:=F.blt x hm h
theorem uE (F:Fam Γ W CX EW gt cf X xw) {x:Str} {b:Bi} (hb:jj x=some b) (hn:gt.lookup x=none) (hg:Gl X x) {a:PySem.Expr} {es:List PySem.Expr} {m:Sg->M (List D)} {p pos:Pos}
  (ha:PA X (a::es) (tMA Γ xw m)) (he:starEach (a::es) X.env=(false,eval a X.env)::starEach es X.env) (hpl:(backTo pos (starEach es X.env)).any (·.1)=false) :
  PE X (.Call (.Name x p) (a::es) [] pos) (tM Γ xw fun σ=>m σ>>=biD sub b):=by
 have hm:x∈dB->X.mg x=none:=p_ F hn
 unfold jj at hb
 by_cases e:x = "len"
 ·subst e; rw [if_pos rfl] at hb; cases hb
  exact f9 (u5 F.hK) hg (hm (by decide +kernel)) PySem.boot_len ha (by decide +kernel) (by decide +kernel) he hpl
 rw [if_neg e] at hb; clear e
 by_cases e:x = "all"
 ·subst e; rw [if_pos rfl] at hb; cases hb
  exact f9 (qN F.hK F.calm) hg (hm (by decide +kernel)) boot_all ha (by decide +kernel) (by decide +kernel) he hpl
 rw [if_neg e] at hb; clear e
 by_cases e:x = "sum"
 ·subst e; rw [if_pos rfl] at hb; cases hb
  exact f9 (yi F.hK F.calm) hg (hm (by decide +kernel)) boot_sum ha (by decide +kernel) (by decide +kernel) he hpl
 rw [if_neg e] at hb; clear e
 by_cases e:x = "min"
 ·subst e; rw [if_pos rfl] at hb; cases hb
  exact f9 (B0 F.hK F.calm) hg (hm (by decide +kernel)) boot_min ha (by decide +kernel) (by decide +kernel) he hpl
 rw [if_neg e] at hb; clear e
 by_cases e:x = "max"
 ·subst e; rw [if_pos rfl] at hb; cases hb
  exact f9 (xN F.hK F.calm) hg (hm (by decide +kernel)) boot_max ha (by decide +kernel) (by decide +kernel) he hpl
 rw [if_neg e] at hb; clear e
 by_cases e:x = "tuple"
 ·subst e; rw [if_pos rfl] at hb; cases hb
  exact lR (Ai F.hK) hg (hm (by decide +kernel)) PyProof.Rows.boot_tuple ha (by decide +kernel) (by decide +kernel) he hpl
 rw [if_neg e] at hb; clear e
 by_cases e:x = "int"
 ·subst e; rw [if_pos rfl] at hb; cases hb
  exact lR AG hg (hm (by decide +kernel)) PyProof.Rows.boot_int ha (by decide +kernel) (by decide +kernel) he hpl
 rw [if_neg e] at hb; cases hb
theorem Bm (F:Fam Γ W CX EW gt cf X xw) {y:Str} {t:Ty} (hb:jd y=some t) (hn:gt.lookup y=none):∃ T,t.name=some T/\bootBuiltins y=some (.type T)/\X.mg y=none/\y≠"__name__"/\(y==("__debug__" : Str))=false:=by
 have hm:y∈dB->X.mg y=none:=p_ F hn
 unfold jd at hb
 by_cases e:y = "int"
 ·subst e; rw [if_pos rfl] at hb; cases hb
  exact ⟨_,rfl,PyProof.Rows.boot_int,hm (by decide +kernel),by decide +kernel,by decide +kernel⟩
 rw [if_neg e] at hb; clear e
 by_cases e:y = "bool"
 ·subst e; rw [if_pos rfl] at hb; cases hb
  exact ⟨_,rfl,PyProof.Rows.boot_bool,hm (by decide +kernel),by decide +kernel,by decide +kernel⟩
 rw [if_neg e] at hb; clear e
 by_cases e:y = "str"
 ·subst e; rw [if_pos rfl] at hb; cases hb
  exact ⟨_,rfl,PyProof.Rows.boot_str,hm (by decide +kernel),by decide +kernel,by decide +kernel⟩
 rw [if_neg e] at hb; clear e
 by_cases e:y = "list"
 ·subst e; rw [if_pos rfl] at hb; cases hb
  exact ⟨_,rfl,PyProof.Rows.boot_list,hm (by decide +kernel),by decide +kernel,by decide +kernel⟩
 rw [if_neg e] at hb; clear e
 by_cases e:y = "tuple"
 ·subst e; rw [if_pos rfl] at hb; cases hb
  exact ⟨_,rfl,PyProof.Rows.boot_tuple,hm (by decide +kernel),by decide +kernel,by decide +kernel⟩
 rw [if_neg e] at hb; clear e
 by_cases e:y = "dict"
 ·subst e; rw [if_pos rfl] at hb; cases hb
  exact ⟨_,rfl,PyProof.Rows.boot_dict,hm (by decide +kernel),by decide +kernel,by decide +kernel⟩
 rw [if_neg e] at hb; cases hb
theorem vc (F:Fam Γ W CX EW gt cf X xw) {name:Str} {me:Me} (hb:iT name=some me) {o a:PySem.Expr} {es:List PySem.Expr} {apos cpos:Pos} {mo:Sg->M D} {m:Sg->M (List D)}
  (ho:PE X o (tM Γ xw mo)) (ha:PA X (a::es) (tMA Γ xw m)) (hc0:oX o=true) (hlen:(a::es).length < 20) (hall:(backTo cpos (starEach (a::es) X.env)).all (fun x=>!x.1)=true)
  (hline:(apos.endLine==cpos.line)=true) (hs:starEach (a::es) X.env=(false,eval a X.env)::starEach es X.env) (hplain:(backTo cpos (starEach es X.env)).any (·.1)=false) :
  PE X (.Call (.Attribute o name apos) (a::es) [] cpos) (tM Γ xw fun σ=>mo σ>>=fun x=>ig x (m σ>>=fun ds=>meD me x ds)):=by
 have hbase:attributeBase o name X.env (eval o X.env)=eval o X.env:=by
  unfold attributeBase
  cases o with
  | Call f as ks p =>
   cases as with
   | cons _ _=>cases f <;> rfl
   | nil =>
    cases ks with
    | nil=>cases hc0
    | cons _ _=>cases f <;> rfl
  | _=>rfl
 have hfew:((backTo cpos (starEach (a::es) X.env)).all (fun x=>!x.1)&&(backToKw cpos (keywordEach [] X.env)).all (fun x=>x.1.isSome)&&decide ((a::es).length+([]:List Keyword).length+(if ([]:List Keyword).isEmpty then 0 else 1) < 30))=true:=by
  rw [hall]
  show (true&&true&&decide ((a::es).length+0+0 < 30))=true
  rw [decide_eq_true (show (a::es).length+0+0 < 30 by omega)]
  rfl
 unfold iT at hb
 by_cases e:name = "append"
 ·subst e; rw [if_pos rfl] at hb; cases hb
  exact oj F.hK PySem.F.plainAttrs_list PySem.F.slot_list_append PySem.F.type_list_append uZ ho ha hbase hfew hline hs hplain
 rw [if_neg e] at hb; clear e
 by_cases e:name = "extend"
 ·subst e; rw [if_pos rfl] at hb; cases hb
  exact oj F.hK PySem.F.plainAttrs_list PySem.F.slot_list_extend PySem.F.type_list_extend vE ho ha hbase hfew hline hs hplain
 rw [if_neg e] at hb; cases hb
end
end EV

namespace EV
open PySem PySem.Spec PyProof.Rows L2
section
variable (Γ:Gx) (sub:Sub) (cf:Str->List D->M D)
structure ClE (X:Cx) (xw:XW) (e:PySem.Expr) (e':E):Prop where
 pe:PE X e (tM Γ xw (ev sub cf e'))
 pt:PT X e (tMT Γ xw (evT sub cf e'))
 pw:(∃ op vs p,e=.BoolOp op vs p)->PW X e (tMT Γ xw (evT sub cf e'))
end
section
variable {Γ:Gx} {W:XW->Prop} {CX:CXT} {EW:XW->XK} {gt:List (Str × GE)} {cf:Str->List D->M D} {sub:Sub} {X:Cx} {xw:XW}
theorem k9 {e:PySem.Expr}:PT X e (tMT Γ xw fun _=>bad):=fun _ _ _ _ _ _ h=>by
 obtain ⟨_,_,_,_,_,ho⟩:=h
 exact ho.elim
theorem noBool {e:PySem.Expr} (h:∀ op vs p,e≠.BoolOp op vs p) {P:Prop}:(∃ op vs p,e=.BoolOp op vs p)->P:=fun ⟨op,vs,p,q⟩=>(h op vs p q).elim
theorem bh {e:PySem.Expr} {e':E} (hK:Γ.K=X.K) (h:PE X e (tM Γ xw (ev sub cf e'))) (he:∀ whole,isTrue e X.env whole=(do let v <- whole; standAt e.pos; holding [v] (truthy v)))
  (hb:(evT sub cf e'=fun σ=>ev sub cf e' σ>>=truth)\/evT sub cf e'=fun _=>bad) (hn:∀ op vs p,e≠.BoolOp op vs p):ClE Γ sub cf X xw e e':=by
 refine ⟨h,?_,noBool hn⟩
 rcases hb with q|q
 ·rw [q]; exact BW hK h he
 ·rw [q]; exact k9
theorem Az {c:TC} {x:Str} {p:Pos} {e':E} (F:Fam Γ W CX EW c.gt cf X xw) (C:Cok c X) (h:kX c x=some e'):ClE Γ sub cf X xw (.Name x p) e':=by
 unfold kX at h
 by_cases h1:bG x=true
 ·rw [if_pos h1] at h
  obtain ⟨d1,d2⟩:=b7 h1
  by_cases h2:eK c.sc x=true
  ·rw [if_pos h2] at h
   cases q:idx c.N x with
   | none=>rw [q] at h; cases h
   | some i =>
    rw [q] at h; cases h
    exact bh F.hK (xX (by rw [C.N]; exact eS q) (by rw [C.sc]; exact xg h2) d1 d2) (fun _=>rfl) (.inl rfl) (fun _ _ _ z=>nomatch z)
  ·rw [if_neg h2] at h
   by_cases h3:glB c x=true
   ·rw [if_pos h3] at h
    cases q:c.gt.lookup x with
    | none=>rw [q] at h; cases h
    | some g =>
     rw [q] at h
     cases g with
     | val d =>
      cases h
      obtain ⟨u,v,hm,r,hv⟩:=F.val x d q
      exact bh F.hK (f7 (rR (C.gl h3) hm r d1) hv) (fun _=>rfl) (.inl rfl) (fun _ _ _ z=>nomatch z)
     | _=>cases h
   ·rw [if_neg h3] at h; cases h
 ·rw [if_neg h1] at h; cases h
theorem A3 {k:Const} {j:Nat} {p:Pos} {e':E} (hK:Γ.K=X.K) (h:nY k=some e'):ClE Γ sub cf X xw (.Constant k j p) e':=by
 cases k <;> first|(cases h; done)|skip
 ·cases h; exact bh hK (f7 BU fun _ _=>.non) (fun _=>rfl) (.inl rfl) (fun _ _ _ z=>nomatch z)
 ·cases h; exact bh hK (f7 x_ fun _ _=>.bl _) (fun _=>rfl) (.inl rfl) (fun _ _ _ z=>nomatch z)
 ·cases h; exact bh hK (f7 v_ fun _ _=>.int _) (fun _=>rfl) (.inl rfl) (fun _ _ _ z=>nomatch z)
 ·cases h; exact bh hK (f7 p7 fun _ _=>.str _) (fun _=>rfl) (.inl rfl) (fun _ _ _ z=>nomatch z)
theorem uQ (hK:Γ.K=X.K) {op:Operator} {o:Op2} (h:op2 op=some o):OpR X (binaryOp op) (aU Γ xw (opD o)):=by
 cases op <;> cases h
 ·exact rF hK
 ·exact Al
 ·exact zk hK
 ·exact vX
 ·exact t_
 ·exact BX
theorem fG (F:Fam Γ W CX EW gt cf X xw) {op:CmpOp} {o:Cm} (h:cmO op=some o):OpR X (compareOp op) (aU Γ xw (cmD o)):=by
 cases op <;> cases h
 ·exact s_eq F.hK F.un
 ·exact rq F.hK F.un
 ·exact yw
 ·exact Aa
 ·exact zF
 ·exact tR
 ·exact uO F.hK F.un
 ·exact uf F.hK F.un
theorem jC {o:Cm}:∀ (x y:D) (S:af) (d:D) (S':af),cmD o x y S=.ok d S'->∃ k,d=.bl k:=by
 intro x y S d S' h
 have intc:∀ p:Int->Int->Bool,fu p x y S=.ok d S'->∃ k,d=.bl k:=fun p h=>by
  cases x <;> first|(cases h; done)|skip
  cases y <;> first|(cases h; done)|skip
  cases h; exact ⟨_,rfl⟩
 have inc:∀ neg,inM neg x y S=.ok d S'->∃ k,d=.bl k:=fun neg h=>by
  unfold inM at h
  rcases gX y S with ⟨ds,e⟩|e
  ·rw [ao e] at h
   unfold inA at h
   cases q:inL S x ds with
   | none=>rw [q] at h; cases h
   | some k=>rw [q] at h; cases h; exact ⟨_,rfl⟩
  ·rw [aT e] at h; cases h
 cases o with
 | lt=>exact intc _ h
 | le=>exact intc _ h
 | gt=>exact intc _ h
 | ge=>exact intc _ h
 | eq =>
  have h:(eqM x y>>=fun b=>pure (.bl b)) S=.ok d S':=h
  rw [bQ] at h
  unfold eqM at h
  cases q:eqD deep S x y with
  | none=>rw [q] at h; cases h
  | some k=>rw [q] at h; cases h; exact ⟨_,rfl⟩
 | ne =>
  have h:guard (c6 x y) (eqM x y>>=fun b=>pure (.bl (!b))) S=.ok d S':=h
  cases q:c6 x y with
  | false=>rw [q] at h; cases h
  | true =>
   rw [q] at h
   have h:(eqM x y>>=fun b=>pure (.bl (!b))) S=.ok d S':=h
   rw [bQ] at h
   unfold eqM at h
   cases q:eqD deep S x y with
   | none=>rw [q] at h; cases h
   | some k=>rw [q] at h; cases h; exact ⟨_,rfl⟩
 | isin=>exact inc _ h
 | dM=>exact inc _ h
theorem b6 {c:TC} {n:Nat} (F:Fam Γ W CX EW c.gt cf X xw) (C:Cok c X) (ih:∀ e e',trE n c e=some e'->ClE Γ sub cf X xw e e'):∀ {es:List PySem.Expr} {es':E},bf (trE n c) es=some es'->PA X es (tMA Γ xw (evs sub cf es'))
 | [],_,h=>by cases h; exact qT
 | e::r,_,h=>by
  obtain ⟨a,b,h1,h2,rfl⟩:=bC h
  exact yo (ih e a h1).pe (b6 F C ih h2) (aX h1 r X.env)
theorem om {c:TC} {n:Nat} (ih:∀ e e',trE n c e=some e'->ClE Γ sub cf X xw e e') {o:Option PySem.Expr} {e':E} (h:trO (trE n c) o=some e'):PO X o (tMO Γ xw fun σ=>if e'.aY=true then pure none else ev sub cf e' σ>>=eY):=by
 cases o with
 | none=>cases h; exact sr
 | some e =>
  have h:(match trE n c e with|some .nl=>none|o=>o)=some e':=h
  cases q:trE n c e with
  | none=>rw [q] at h; cases h
  | some f =>
   rw [q] at h
   have hf:f=e'/\f.aY=false:=by
    cases f <;> first|(cases h; done)|(cases h; exact ⟨rfl,rfl⟩)
   obtain ⟨rfl,hn⟩:=hf
   rw [hn]
   simp only [Bool.false_eq_true,if_false]
   exact Cw (ih e f q).pe
theorem gM {c:TC} (hK:Γ.K=X.K) (hc:X.calm=true) (C:Cok c X) {tg:PySem.Expr} {t:Tg} (h:gC c tg=some t):PG X tg (tMG Γ t):=by
 have names:∀ (es:List PySem.Expr) (is:List Nat),ff c es=some is->g7 X es is:=by
  intro es
  induction es with
  | nil=>intro is h; cases h; exact .nil
  | cons e r ih =>
   intro is h
   cases e with
   | Name x p =>
    unfold ff at h
    by_cases hl:dJ c x=true
    ·rw [if_pos hl] at h
     cases q:idx c.N x with
     | none=>rw [q] at h; cases h
     | some i =>
      rw [q] at h
      cases q2:ff c r with
      | none=>rw [q2] at h; cases h
      | some js =>
       rw [q2] at h; cases h
       exact .cons ⟨x,p,rfl,by rw [C.N]; exact eS q,(C.loc hl).1,(C.loc hl).2⟩ (ih js q2)
    ·rw [if_neg hl] at h; cases h
   | _=>cases h
 cases tg with
 | Name x p =>
  have h:(if dJ c x=true then (idx c.N x).map Tg.one else none)=some t:=h
  by_cases hl:dJ c x=true
  ·rw [if_pos hl] at h
   cases q:idx c.N x with
   | none=>rw [q] at h; cases h
   | some i =>
    rw [q] at h; cases h
    exact uo C.nd (by rw [C.N]; exact eS q) (C.loc hl).1 (C.loc hl).2
  ·rw [if_neg hl] at h; cases h
 | Tuple es k p =>
  have h:(ff c es).map Tg.many=some t:=h
  cases q:ff c es with
  | none=>rw [q] at h; cases h
  | some is =>
   rw [q] at h; cases h
   exact qL hK hc C.nd (names es is q)
 | _=>cases h
theorem B3 {e:PySem.Expr} (h:kP e=true) (env:Env):∀ x,foldedSetIterable e env x=pure x:=by
 intro x
 cases e <;> first|rfl|cases h
theorem dO {c:TC} (C:Cok c X) {x:Str} (h:cy c x=true):Gl X x/\c.gt.lookup x=none:=by
 unfold cy at h
 rw [Bool.and_eq_true] at h
 exact ⟨C.gl h.1,by simpa using h.2⟩
theorem i6 {f:PySem.Expr->Option E}:∀ {es:List PySem.Expr} {es':E},bf f es=some es'->∀ (σ:Sg) (S:af) (ds:List D) (S':af),evs sub cf es' σ S=.ok ds S'->ds.length=es.length
 | [],_,h,σ,S,ds,S',q=>by
  cases h
  have q:(Res.ok [] S:Res (List D))=.ok ds S':=q
  cases q; rfl
 | e::r,_,h,σ,S,ds,S',q=>by
  obtain ⟨a,b,h1,h2,rfl⟩:=bC h
  have q:(ev sub cf a σ>>=fun x=>evs sub cf b σ>>=fun xs=>pure (x::xs)) S=.ok ds S':=q
  cases q1:ev sub cf a σ S with
  | ok d S1 =>
   rw [ao q1] at q
   cases q2:evs sub cf b σ S1 with
   | ok xs S2 =>
    rw [ao q2] at q
    cases q
    show xs.length+1=r.length+1
    rw [i6 h2 σ S1 xs _ q2]
   | exc k S2=>rw [bW q2] at q; cases q
   | bad=>rw [aT q2] at q; cases q
  | exc k S2=>rw [bW q1] at q; cases q
  | bad=>rw [aT q1] at q; cases q
theorem jS {c:TC} {n:Nat} (F:Fam Γ W CX EW c.gt cf X xw) (C:Cok c X) (ih:∀ e e',trE n c e=some e'->ClE Γ sub cf X xw e e') {tg e:PySem.Expr} {e':E} (h:trI (trE n c) c tg e=some e') :
  PI X tg e (tMI Γ xw (evI sub cf e'))/\∀ x,foldedSetIterable e X.env x=pure x:=by
 unfold trI at h
 by_cases hs:kP e=true
 ·rw [if_pos hs] at h
  refine ⟨?_,B3 hs X.env⟩
  have seq:(trE n c e).map E.iSeq=some e'->PI X tg e (tMI Γ xw (evI sub cf e')):=fun h=>by
   cases q:trE n c e with
   | none=>rw [q] at h; cases h
   | some a=>rw [q] at h; cases h; exact xr F.hK (ih e a q).pe
  split at h
  ·rename_i x p args pos
   by_cases hr:fU c x=true
   ·rw [if_pos hr] at h
    unfold fU at hr
    rw [Bool.and_eq_true] at hr
    have hx:x = "range":=of_decide_eq_true hr.2
    subst hx
    obtain ⟨hg,hn⟩:=dO C hr.1
    have hm:X.mg "range" = none:=F.blt _ (by decide +kernel) hn
    by_cases hf:few args=true
    ·rw [if_pos hf] at h
     cases q:bf (trE n c) args with
     | none=>rw [q] at h; cases h
     | some es =>
      rw [q] at h; cases h
      have ha:=b6 F C ih q
      have hl:=i6 (sub:=sub) (cf:=cf) q
      match args,q,ha,hl,hf with
      | [],_,_,_,hf=>exact absurd hf (by decide)
      | [a],q,ha,hl,_ =>
       obtain ⟨a',b',q1,q2,_⟩:=bC q
       exact AW hg hm ha (aX q1 [] X.env) hl
      | [a,b],q,ha,hl,_ =>
       obtain ⟨a',r',q1,q2,_⟩:=bC q
       obtain ⟨b',r2,q3,q4,_⟩:=bC q2
       exact yf hg hm ha (by rw [aX q1,aX q3]; rfl) (aX q3 [] X.env) hl
      | [a,b,d],q,ha,hl,_ =>
       obtain ⟨a',r',q1,q2,_⟩:=bC q
       obtain ⟨b',r2,q3,q4,_⟩:=bC q2
       obtain ⟨d',r3,q5,q6,_⟩:=bC q4
       exact wH hg hm ha (by rw [aX q1,aX q3,aX q5]; rfl) (by rw [aX q3,aX q5]; rfl) hl
      | _::_::_::_::r,_,_,_,hf =>
       unfold few at hf
       rw [Bool.and_eq_true] at hf
       have:=of_decide_eq_true hf.2
       simp at this
    ·rw [if_neg hf] at h; cases h
   ·rw [if_neg hr] at h
    by_cases he:kq c x=true
    ·rw [if_pos he] at h
     unfold kq at he
     rw [Bool.and_eq_true] at he
     have hx:x = "enumerate":=of_decide_eq_true he.2
     subst hx
     obtain ⟨hg,hn⟩:=dO C he.1
     have hm:X.mg "enumerate" = none:=F.blt _ (by decide +kernel) hn
     cases tg with
     | Tuple es k tp =>
      match args,h with
      | [a],h =>
       have h:(trE n c a).map E.iEnum=some e':=h
       cases q:trE n c a with
       | none=>rw [q] at h; cases h
       | some a'=>rw [q] at h; cases h; exact yI F.hK hg hm boot_enumerate (ih a a' q).pe (aX q [] X.env)
      | [],h=>cases h
      | _::_::_,h=>cases h
     | _=>cases h
    ·rw [if_neg he] at h
     exact seq h
  ·exact seq h
 ·rw [if_neg hs] at h; cases h
end
end EV

namespace EV
open PySem PySem.Spec PyProof.Rows L2
section
variable {Γ:Gx} {W:XW->Prop} {CX:CXT} {EW:XW->XK} {cf:Str->List D->M D} {sub:Sub}
theorem vU {α:Type} {m m':M α} (h:∀ S,m S=m' S):m=m':=funext h
theorem Bc (m:M D) (f:List D->M D):((m>>=fun x=>(pure []:M (List D))>>=fun xs=>pure (x::xs))>>=f)=(m>>=fun x=>f [x]):=by
 refine vU fun S=>?_
 rw [bQ,bQ,bQ]
 cases m S <;> rfl
theorem dz {α β:Type} {o:Option α} {f:α->β} {d:β} (h:o.map f=some d):∃ a,o=some a/\d=f a:=by
 cases o with
 | none=>cases h
 | some a=>cases h; exact ⟨a,rfl,rfl⟩
theorem lK {t:Tg} {n:Nat} (h:t.p5 n=true):∀ j,j < n->t.has j=false:=by
 intro j hj
 cases t with
 | one i =>
  have:n<=i:=of_decide_eq_true h
  show (i==j)=false
  simp; omega
 | many is =>
  show is.contains j=false
  have h:(is.all fun i=>decide (n<=i))=true:=h
  rw [List.all_eq_true] at h
  cases q:is.contains j with
  | false=>rfl
  | true =>
   have hm:j∈is:=List.contains_iff_mem.mp q
   have:=of_decide_eq_true (h j hm)
   omega
theorem t7 {c:TC} {n:Nat} {X:Cx} {xw:XW} (F:Fam Γ W CX EW c.gt cf X xw) (C:Cok c X) (ih:∀ e e',trE n c e=some e'->ClE Γ sub cf X xw e e') {x:Str} {args ra:List PySem.Expr} {b:Bi} {es:E} {p pos:Pos} (hn:c.gt.lookup x=none) (hg:Gl X x)
  (h:jP c x args=some (b,ra)) (h1:bf (trE n c) ra=some es):PE X (.Call (.Name x p) args [] pos) (tM Γ xw (ev sub cf (.bi b es))):=by
 unfold jP at h
 split at h
 ·rename_i r p1 ra' p2
  split at h
  ·rename_i hr
   rw [Bool.and_eq_true] at hr
   obtain ⟨hr1,hr2⟩:=hr
   unfold fU at hr1
   rw [Bool.and_eq_true] at hr1
   have hx:r = "range":=of_decide_eq_true hr1.2
   subst hx
   obtain ⟨hgr,hnr⟩:=dO C hr1.1
   have hmr:X.mg "range" = none:=F.blt _ (by decide +kernel) hnr
   have hra:ra'=ra:=by
    split at h
    ·cases h; rfl
    ·cases h
   subst hra
   have ha:=b6 F C ih h1
   have hl:=i6 (sub:=sub) (cf:=cf) h1
   have hk:ra'.length=1\/ra'.length=2:=by
    unfold two at hr2
    rcases Bool.or_eq_true_iff.mp hr2 with z|z
    ·exact .inl (of_decide_eq_true z)
    ·exact .inr (of_decide_eq_true z)
   have hr:PE X (.Call (.Name "range" p1) ra' [] p2) (gD (tMA Γ xw (evs sub cf es))):=by
    match ra',h1,ha,hl,hk with
    | [a],h1,ha,hl,_ =>
     obtain ⟨a',b',q1,q2,_⟩:=bC h1
     exact BD hgr hmr ha (aX q1 [] X.env) (pO hl)
    | [a,b],h1,ha,hl,_ =>
     obtain ⟨a',r',q1,q2,_⟩:=bC h1
     obtain ⟨b',r2,q3,q4,_⟩:=bC q2
     exact A5 hgr hmr ha (by rw [aX q1,aX q3]; rfl) (aX q3 [] X.env) (pO hl)
    | [],_,_,_,hk=>rcases hk with hk|hk <;> cases hk
    | _::_::_::_,_,_,_,hk=>simp at hk
   by_cases e:x = "tuple"
   ·subst e; rw [if_pos rfl] at h; cases h
    exact vH hk F.calm hl hr rfl hg (F.blt _ (by decide +kernel) hn)
   rw [if_neg e] at h; cases h
  ·cases h
 ·cases h
theorem nk {b:PySem.Expr} (h:iE b=true):∃ x j p,b=.Constant (.str x) j p:=by
 cases b with
 | Constant k j p=>cases k <;> first|exact ⟨_,_,_,rfl⟩|cases h
 | _=>cases h
theorem cR:∀ (n:Nat) (c:TC) (e:PySem.Expr) (e':E),trE n c e=some e'->∀ (X:Cx) (xw:XW),Fam Γ W CX EW c.gt cf X xw->Cok c X->ClE Γ sub cf X xw e e':=by
 intro n
 induction n with
 | zero=>intro c e e' h; cases h
 | succ n ihn =>
  intro c e e' h X xw F C
  have ih:∀ e e',trE n c e=some e'->ClE Γ sub cf X xw e e':=fun e e' h=>ihn c e e' h X xw F C
  cases e with
  | Name x p=>exact Az F C h
  | Constant k j p=>exact A3 F.hK h
  | BinOp a op b p =>
   simp only [trE] at h
   split at h
   rotate_left
   ·cases h
   rename_i o a' b' h1 h2 h3
   cases h
   exact bh F.hK (yG (uQ F.hK h1) (ih a a' h2).pe (ih b b' h3).pe) (fun _=>rfl) (.inr rfl) (fun _ _ _ z=>nomatch z)
  | UnaryOp op a p =>
   cases op with
   | Not =>
    obtain ⟨a',h1,rfl⟩:∃ a',trE n c a=some a'/\e'=.not a':=by
     cases q:trE n c a with
     | none=>simp only [trE,q] at h; cases h
     | some a'=>simp only [trE,q] at h; cases h; exact ⟨a',rfl,rfl⟩
    exact ⟨Cq (ih a a' h1).pe,uV (ih a a' h1).pt,fun ⟨_,_,_,z⟩=>by cases z⟩
   | USub =>
    obtain ⟨a',h1,rfl⟩:∃ a',trE n c a=some a'/\e'=.neg a':=by
     cases q:trE n c a with
     | none=>simp only [trE,q] at h; cases h
     | some a'=>simp only [trE,q] at h; cases h; exact ⟨a',rfl,rfl⟩
    exact bh F.hK (zH (ih a a' h1).pe) (fun _=>rfl) (.inr rfl) (fun _ _ _ z=>nomatch z)
   | _ =>
    exfalso
    cases q:trE n c a with
    | none=>simp only [trE,q] at h; cases h
    | some a'=>simp only [trE,q] at h; cases h
  | BoolOp op vs p =>
   match vs,h with
   | [],h=>cases h
   | [a],h =>
    have h:trE n c a=some e':=h
    have ca:=ih a e' h
    cases op with
    | And=>exact ⟨fun pins s σ H Q I hw=>lG ca.pe pins s σ H Q I hw,(lq ca.pt).pt,fun _=>lq ca.pt⟩
    | Or=>exact ⟨fun pins s σ H Q I hw=>lG ca.pe pins s σ H Q I hw,(qD ca.pt).pt,fun _=>qD ca.pt⟩
   | a::b::r,h =>
    cases op with
    | And =>
     obtain ⟨a',b',h1,h2,rfl⟩:∃ a' b',trE n c a=some a'/\trE n c (.BoolOp .And (b::r) p)=some b'/\e'=.and a' b':=by
      cases q:trE n c a with
      | none=>simp only [trE,q] at h; cases h
      | some a' =>
       cases q2:trE n c (.BoolOp .And (b::r) p) with
       | none=>simp only [trE,q,q2] at h; cases h
       | some b'=>simp only [trE,q,q2] at h; cases h; exact ⟨a',b',rfl,rfl,rfl⟩
     have ca:=ih _ _ h1
     have cb:=ih _ _ h2
     exact ⟨tS ca.pe cb.pe,(n9 ca.pt (cb.pw ⟨_,_,_,rfl⟩)).pt,fun _=>n9 ca.pt (cb.pw ⟨_,_,_,rfl⟩)⟩
    | Or =>
     obtain ⟨a',b',h1,h2,rfl⟩:∃ a' b',trE n c a=some a'/\trE n c (.BoolOp .Or (b::r) p)=some b'/\e'=.or a' b':=by
      cases q:trE n c a with
      | none=>simp only [trE,q] at h; cases h
      | some a' =>
       cases q2:trE n c (.BoolOp .Or (b::r) p) with
       | none=>simp only [trE,q,q2] at h; cases h
       | some b'=>simp only [trE,q,q2] at h; cases h; exact ⟨a',b',rfl,rfl,rfl⟩
     have ca:=ih _ _ h1
     have cb:=ih _ _ h2
     exact ⟨tL ca.pe cb.pe,(pT ca.pt (cb.pw ⟨_,_,_,rfl⟩)).pt,fun _=>pT ca.pt (cb.pw ⟨_,_,_,rfl⟩)⟩
  | IfExp t a b p =>
   simp only [trE] at h
   split at h
   rotate_left
   ·cases h
   rename_i t' a' b' h1 h2 h3
   cases h
   refine ⟨Bg (ih t t' h1).pt (ih a a' h2).pe (ih b b' h3).pe,k9,fun ⟨_,_,_,z⟩=>by cases z⟩
  | Tuple es k p =>
   obtain ⟨es',h1,rfl⟩:=dz (f:=E.tup) h
   exact bh F.hK (CC (b6 F C ih h1)) (fun _=>rfl) (.inr rfl) (fun _ _ _ z=>nomatch z)
  | Dict ks vs p =>
   simp only [trE] at h
   split at h
   ·cases h
    exact bh F.hK xR (fun _=>rfl) (.inr rfl) (fun _ _ _ z=>nomatch z)
   ·cases h
  | List es p =>
   obtain ⟨es',h1,rfl⟩:=dz (f:=E.lst) h
   exact bh F.hK (zX (b6 F C ih h1)) (fun _=>rfl) (.inr rfl) (fun _ _ _ z=>nomatch z)
  | Compare a ops cs p =>
   simp only [trE] at h
   split at h
   ·rename_i op b
    split at h
    ·rename_i o a' b' h1 h2 h3 h4
     cases h
     exact ⟨Bd (fG F h1) (ih a a' h2).pe (ih b b' h3).pe h4,wJ jC (fG F h1) (ih a a' h2).pe (ih b b' h3).pe h4,fun ⟨_,_,_,z⟩=>by cases z⟩
    ·cases h
   ·rename_i op op' b d
    split at h
    ·rename_i o o' a' b' d' h1 h2 h3 h4 h5 h6
     cases h
     exact ⟨wD (fG F h1) (fG F h2) (ih a a' h3).pe (ih b b' h4).pe (ih d d' h5).pe h6,zL jC jC (fG F h1) (fG F h2) (ih a a' h3).pe (ih b b' h4).pe (ih d d' h5).pe h6,fun ⟨_,_,_,z⟩=>by cases z⟩
    ·cases h
   ·cases h
  | Subscript a i p =>
   simp only [trE] at h
   split at h
   ·rename_i lo hi p2
    split at h
    ·rename_i a' l u h1 h2 h3
     cases h
     exact bh F.hK (rM F.hK (ih a a' h1).pe (om ih h2) (om ih h3)) (fun _=>rfl) (.inr rfl) (fun _ _ _ z=>nomatch z)
    ·cases h
   ·cases h
   ·rename_i es k p2
    split at h
    ·rename_i a' es' h1 h2
     cases h
     exact bh F.hK (Cb (by have:=F.un; omega) (ih a a' h1).pe (b6 F C ih h2)) (fun _=>rfl) (.inr rfl) (fun _ _ _ z=>nomatch z)
    ·cases h
   ·rename_i hs1 hs2 hs3
    split at h
    ·rename_i a' i' h1 h2
     cases h
     have hp:kE i:=by
      intro o j
      cases i with
      | Slice lo hi st p2 =>
       cases st with
       | none=>exact (hs1 lo hi p2 rfl).elim
       | some x=>exact (hs2 lo hi x p2 rfl).elim
      | _=>rfl
     exact bh F.hK (B9 F.hK (ih a a' h1).pe (ih i i' h2).pe hp) (fun _=>rfl) (.inl rfl) (fun _ _ _ z=>nomatch z)
    ·cases h
  | Call f args kws cpos =>
   simp only [trE] at h
   split at h
   ·rename_i x p
    by_cases hx:(bG x&&glB c x)=true
    ·rw [if_pos hx] at h
     rw [Bool.and_eq_true] at hx
     have hd:=(b7 hx.1).1
     have hg:=C.gl hx.2
     split at h
     ·rename_i hi
      obtain ⟨es',h1,rfl⟩:=dz (f:=E.call x) h
      cases args with
      | nil =>
       cases h1
       refine bh F.hK ?_ (fun _=>rfl) (.inl rfl) (fun _ _ _ z=>nomatch z)
       exact Cv F hi hg hd
      | cons a r =>
       obtain ⟨a',b',q1,q2,_⟩:=bC h1
       exact bh F.hK (xy F hi hg hd (b6 F C ih h1) (aX q1 r X.env) (dW q2 X.env cpos).1) (fun _=>rfl) (.inl rfl) (fun _ _ _ z=>nomatch z)
     ·cases h
     ·rename_i hn
      by_cases hi:x = "isinstance"
      ·rw [if_pos hi] at h
       subst hi
       split at h
       ·rename_i a y p2
        by_cases hy:(bG y&&cy c y)=true
        ·rw [if_pos hy] at h
         rw [Bool.and_eq_true] at hy
         split at h
         ·rename_i t a' h1 h2
          cases h
          obtain ⟨hg2,hn2⟩:=dO C hy.2
          obtain ⟨T,t1,t2,t3,t4,t5⟩:=Bm F h1 hn2
          have hm:X.mg "isinstance" = none:=F.blt _ (by decide +kernel) hn
          have key:(fun σ=>ev sub cf (.bi (.inst t) (.cs a' .nl)) σ)=fun σ=>ev sub cf a' σ>>=fun d=>fT sub t d:=by
           funext σ
           exact Bc (ev sub cf a' σ) (biD sub (.inst t))
          refine bh F.hK ?_ (fun _=>rfl) (.inl rfl) (fun _ _ _ z=>nomatch z)
          show PE X _ (tM Γ xw (fun σ=>ev sub cf (.bi (.inst t) (.cs a' .nl)) σ))
          rw [key]
          exact zw F.hK t1 hg hm boot_isinstance hg2 t3 t2 (ih a a' h2).pe (by decide +kernel) (by decide +kernel) t4 t5 (aX h2 _ X.env)
         ·cases h
        ·rw [if_neg hy] at h; cases h
       ·cases h
      ·rw [if_neg hi] at h
       split at h
       ·rename_i b ra hr
        obtain ⟨es,h1,rfl⟩:=dz (f:=E.bi b) h
        exact bh F.hK (t7 F C ih hn hg hr h1) (fun _=>rfl) (.inl rfl) (fun _ _ _ z=>nomatch z)
       ·split at h
        ·cases h
        ·rename_i a r hrn
         split at h
         ·rename_i b es h1 h2
          cases h
          obtain ⟨a',b',q1,q2,_⟩:=bC h2
          exact bh F.hK (uE F h1 hn hg (b6 F C ih h2) (aX q1 r X.env) (dW q2 X.env cpos).1) (fun _=>rfl) (.inl rfl) (fun _ _ _ z=>nomatch z)
         ·cases h
    ·rw [if_neg hx] at h; cases h
   ·rename_i o name apos
    split at h
    ·cases h
    ·rename_i a r
     split at h
     ·rename_i hx
      simp only [Bool.and_eq_true] at hx
      obtain ⟨⟨x1,x2⟩,x3⟩:=hx
      split at h
      ·rename_i m o' es h1 h2 h3
       cases h
       obtain ⟨a',b',q1,q2,_⟩:=bC h3
       exact bh F.hK (vc F h1 (ih o o' h2).pe (b6 F C ih h3) x1 (of_decide_eq_true x3) (dW h3 X.env cpos).2 x2 (aX q1 r X.env) (dW q2 X.env cpos).1) (fun _=>rfl) (.inr rfl) (fun _ _ _ z=>nomatch z)
      ·cases h
     ·cases h
   ·cases h
  | ListComp elt gens scope p =>
   simp only [trE] at h
   split at h
   ·rename_i tg iter ifs asy
    split at h
    ·rename_i hx
     rw [Bool.and_eq_true] at hx
     have ha:asy=0:=of_decide_eq_true hx.1
     subst ha
     obtain ⟨CO,CK⟩:=k6 C hx.2
     split at h
     ·rename_i it t el tt h1 h2 h3 h4
      split at h
      ·rename_i hge
       cases h
       obtain ⟨PI1,hs⟩:=jS F C ih h1
       have ihc:∀ cl fp s3 H3 e e',trE n (inComp c scope) e=some e'->ClE Γ sub cf (aM X scope cl (inComp c scope).N fp s3 H3) XF e e' :=
        fun cl fp s3 H3 e e' h=>ihn (inComp c scope) e e' h _ XF (F.comp scope cl _ fp s3 H3) (CK cl fp s3 H3)
       have htt:∀ cl fp s3 H3,PF (aM X scope cl (inComp c scope).N fp s3 H3) ifs (tMT Γ XF fun σ=>if tt.aY=true then pure true else evT sub cf tt σ):=fun cl fp s3 H3=>by
        match ifs,h4 with
        | [],h4 =>
         cases h4
         exact fun pins s σ H Q I h=>pS pins s σ H Q I (by
          obtain ⟨σd,ι,S,he,hs,ho⟩:=h
          exact ho.here hs)
        | [t0],h4 =>
         have h4:(match trE n (inComp c scope) t0 with|some .nl=>none|o=>o)=some tt:=h4
         cases q:trE n (inComp c scope) t0 with
         | none=>rw [q] at h4; cases h4
         | some f =>
          rw [q] at h4
          have hf:f=tt/\f.aY=false:=by
           cases f <;> first|(cases h4; done)|(cases h4; exact ⟨rfl,rfl⟩)
          obtain ⟨rfl,hn⟩:=hf
          rw [hn]
          simp only [Bool.false_eq_true,if_false]
          exact ng (ihc cl fp s3 H3 t0 f q).pt
        | _::_::_,h4=>cases h4
       refine bh F.hK ?_ (fun _=>rfl) (.inr rfl) (fun _ _ _ z=>nomatch z)
       exact AF CO F.calm (by rw [C.N]; exact lK hge) PI1 (fun cl fp s3 H3=>gM (X:=aM X scope cl (inComp c scope).N fp s3 H3) F.hK F.calm (CK cl fp s3 H3) h2) htt (fun cl fp s3 H3=>(ihc cl fp s3 H3 elt el h3).pe) hs
      ·cases h
     ·cases h
    ·cases h
   ·cases h
  | _=>cases h
end
end EV

namespace EV
open PySem PySem.Spec PyProof.Rows L2
section
variable {Γ:Gx} {W:XW->Prop} {CX:CXT} {EW:XW->XK} {cf:Str->List D->M D} {sub:Sub}
theorem As {n:Nat} {c:TC} {elt:PySem.Expr} {gens:List Comprehension} {scope:Scope} {p:Pos} {e':E} (h:trE n c (.ListComp elt gens scope p)=some e') {X:Cx} {xw:XW} (F:Fam Γ W CX EW c.gt cf X xw) (C:Cok c X) :
  ∃ tg iter ifs it t el tt,gens=[⟨tg,iter,ifs,0⟩]/\e'=.comp (own scope).length el t it tt/\dU X scope (inComp c scope).N (own scope).length/\(∀ j,j < X.N.length->t.has j=false)/\PI X tg iter (tMI Γ xw (evI sub cf it)) /\
   (∀ cl fp s3 H3,PG (aM X scope cl (inComp c scope).N fp s3 H3) tg (tMG Γ t))/\(∀ cl fp s3 H3,PF (aM X scope cl (inComp c scope).N fp s3 H3) ifs (tMT Γ XF fun σ=>if tt.aY=true then pure true else evT sub cf tt σ)) /\
   (∀ cl fp s3 H3,PE (aM X scope cl (inComp c scope).N fp s3 H3) elt (tM Γ XF (ev sub cf el)))/\∀ x,foldedSetIterable iter X.env x=pure x:=by
 cases n with
 | zero=>cases h
 | succ n =>
  have ih:∀ e e',trE n c e=some e'->ClE Γ sub cf X xw e e':=fun e e' h=>cR n c e e' h X xw F C
  simp only [trE] at h
  split at h
  ·rename_i tg iter ifs asy
   split at h
   ·rename_i hx
    rw [Bool.and_eq_true] at hx
    have ha:asy=0:=of_decide_eq_true hx.1
    subst ha
    obtain ⟨CO,CK⟩:=k6 C hx.2
    split at h
    ·rename_i it t el tt h1 h2 h3 h4
     split at h
     ·rename_i hge
      cases h
      obtain ⟨PI1,hs⟩:=jS F C ih h1
      have ihc:∀ cl fp s3 H3 e e',trE n (inComp c scope) e=some e'->ClE Γ sub cf (aM X scope cl (inComp c scope).N fp s3 H3) XF e e' :=
       fun cl fp s3 H3 e e' h=>cR n (inComp c scope) e e' h _ XF (F.comp scope cl _ fp s3 H3) (CK cl fp s3 H3)
      have htt:∀ cl fp s3 H3,PF (aM X scope cl (inComp c scope).N fp s3 H3) ifs (tMT Γ XF fun σ=>if tt.aY=true then pure true else evT sub cf tt σ):=fun cl fp s3 H3=>by
       match ifs,h4 with
       | [],h4 =>
        cases h4
        exact fun pins s σ H Q I h=>pS pins s σ H Q I (by
         obtain ⟨σd,ι,S,he,hs,ho⟩:=h
         exact ho.here hs)
       | [t0],h4 =>
        have h4:(match trE n (inComp c scope) t0 with|some .nl=>none|o=>o)=some tt:=h4
        cases q:trE n (inComp c scope) t0 with
        | none=>rw [q] at h4; cases h4
        | some f =>
         rw [q] at h4
         have hf:f=tt/\f.aY=false:=by
          cases f <;> first|(cases h4; done)|(cases h4; exact ⟨rfl,rfl⟩)
         obtain ⟨rfl,hn⟩:=hf
         rw [hn]
         simp only [Bool.false_eq_true,if_false]
         exact ng (ihc cl fp s3 H3 t0 f q).pt
       | _::_::_,h4=>cases h4
      exact ⟨tg,iter,ifs,it,t,el,tt,rfl,rfl,CO,by rw [C.N]; exact lK hge,PI1,fun cl fp s3 H3=>gM (X:=aM X scope cl (inComp c scope).N fp s3 H3) F.hK F.calm (CK cl fp s3 H3) h2,htt,fun cl fp s3 H3=>(ihc cl fp s3 H3 elt el h3).pe,hs⟩
     ·cases h
    ·cases h
   ·cases h
  ·cases h
theorem gE {e:PySem.Expr} (h:eG e=true) (t:Option PySem.Expr) (l:Nat) (env:Env):swapsWith e t l env=pure false:=by
 cases e <;> first|rfl|cases h
theorem r6 {m:Nat} {c:TC} {X:Cx} {xw:XW} (F:Fam Γ W CX EW c.gt cf X xw) (C:Cok c X) {tg e:PySem.Expr} {t:Tg} {e':E} {pos:Pos} (ha:kY tg e=true) (h1:gC c tg=some t) (h2:trE m c e=some e') :
  PS X (.Assign [tg] e pos) (tMS Γ xw (exec sub cf (.set t e'))):=by
 have hg:PG X tg (tMG Γ t):=gM F.hK F.calm C h1
 have he:=(cR (sub:=sub) m c e e' h2 X xw F C).pe
 cases tg with
 | Name y py =>
  by_cases hc:eG e=true
  ·exact jN he hg (show swapsWithSole [.Name y py] e pos.line X.env=pure false from gE hc (some (.Name y py)) pos.line X.env) rfl rfl
  ·cases e with
   | ListComp elt gens scope p =>
    obtain ⟨tg,iter,ifs,it,t2,el,tt,rfl,rfl,CO,hslot,PI1,PG1,PF1,PE1,hs⟩:=As (sub:=sub) h2 F C
    have h1':(if dJ c y=true then (idx c.N y).map Tg.one else none)=some t:=h1
    by_cases hl:dJ c y=true
    ·rw [if_pos hl] at h1'
     obtain ⟨j,hj,rfl⟩:=dz h1'
     have sw:swapsWith (.ListComp elt [⟨tg,iter,ifs,0⟩] scope p) (some (.Name y py)) pos.line X.env=pure (X.env.blockKind==.function&&X.env.kindOf y==some .local&&py.line==p.line
      &&!(scope.names.any fun (n,k)=>n==y&&(k==.local||k==.cell))):=rfl
     cases q:(X.env.blockKind==.function&&X.env.kindOf y==some .local&&py.line==p.line&&!(scope.names.any fun (n,k)=>n==y&&(k==.local||k==.cell))) with
     | true =>
      rw [q] at sw
      simp only [Bool.and_eq_true] at q
      have hy:X.env.scope.names.lookup y=some .local:=eq_of_beq q.1.1.2
      exact yC CO F.calm hslot PI1 PG1 PF1 PE1 C.nd (by rw [C.N]; exact eS hj) hy sw hs
     | false =>
      rw [q] at sw
      exact jN he hg sw rfl rfl
    ·rw [if_neg hl] at h1'; cases h1'
   | SetComp _ _ _ _=>cases m <;> cases h2
   | DictComp _ _ _ _ _=>cases m <;> cases h2
   | _=>exact absurd rfl hc
 | Tuple es k p =>
  have ha:(!isTup e&&eG e)=true:=ha
  rw [Bool.and_eq_true] at ha
  refine jN he hg (show swapsWithSole [.Tuple es k p] e pos.line X.env=pure false from gE ha.2 (some (.Tuple es k p)) pos.line X.env) ?_ rfl
  cases e <;> first|rfl|exact absurd ha.1 (by simp [isTup])
 | _=>cases ha
theorem uW {m:Nat} {c:TC} {X:Cx} {xw:XW} (F:Fam Γ W CX EW c.gt cf X xw) (C:Cok c X) {tg e:PySem.Expr} {s':S} {pos:Pos} (h:iS (trE m c) e tg=some s'):PS X (.Assign [tg] e pos) (tMS Γ xw (exec sub cf s')):=by
 have ce:∀ {e e'},trE m c e=some e'->PE X e (tM Γ xw (ev sub cf e')):=fun {e e'} h=>(cR m c e e' h X xw F C).pe
 unfold iS at h
 split at h
 ·rename_i o es k p2 p
  split at h
  ·rename_i ha
   split at h
   ·rename_i a b d h1 h2 h3
    cases h
    exact vB (by have:=F.un; omega) (ce h3) (ce h1) (b6 F C (fun e e' h=>cR m c e e' h X xw F C) h2) (gE ha (some (.Subscript o (.Tuple es k p2) p)) pos.line X.env)
   ·cases h
  ·cases h
 ·rename_i o i p _
  split at h
  ·rename_i ha
   rw [Bool.and_eq_true] at ha
   split at h
   ·rename_i a b d h1 h2 h3
    cases h
    refine BI (ce h3) (ce h1) (ce h2) (fun _ _ _ _ z=>?_) (show swapsWithSole [.Subscript o i p] e pos.line X.env=pure false from gE ha.1 (some (.Subscript o i p)) pos.line X.env)
    rw [z] at ha; exact absurd ha.2 (by simp [qu])
   ·cases h
  ·cases h
 ·cases h
theorem fH {f:Stmt->Option S} {X:Cx} {xw:XW} (ih:∀ s s',f s=some s'->PS X s (tMS Γ xw (exec sub cf s'))):∀ {ss:List Stmt} {s':S},cB f ss=some s'->PSs X ss (tMS Γ xw (exec sub cf s'))
 | [],_,h=>by cases h; exact Cu
 | [s],_,h=>yL (ih _ _ h)
 | s::s2::r,s',h=>by
  have h:(match f s,cB f (s2::r) with|some a,some b=>some (.seq a b)|_,_=>none)=some s':=h
  split at h
  ·rename_i a b h1 h2
   cases h
   exact qM (ih s a h1) (fH ih h2)
  ·cases h
theorem wL {c:TC} {X:Cx} {xw:XW} {e:PySem.Expr} {s':S} {pos:Pos} (F:Fam Γ W CX EW c.gt cf X xw) (C:Cok c X) (h:jQ c e=some s'):PS X (.Raise (some e) none pos) (tMS Γ xw (exec sub cf s')):=by
 unfold jQ at h
 split at h
 case h_2=>cases h
 rename_i f args kws cpos
 split at h
 case h_2=>cases h
 rename_i x np
 split at h
 case isFalse=>cases h
 rename_i hc
 rw [Bool.and_eq_true,Bool.and_eq_true] at hc
 split at h
 case h_2=>cases h
 rename_i hl
 cases h
 match args,hc.1 with
 | [a],hd =>
  obtain ⟨v,j,q,rfl⟩:=nk (show iE a=true from hd)
  obtain ⟨⟨C1,newId,initId,B,bmB,hns,hex,FB,_⟩,hmg⟩:=F.cls x hl
  refine PS.imp (za (E:=EW xw) FB hex (hmg C1 hns) (C.gl hc.2.2) F.calm (b7 hc.2.1).1 p7 rfl F.rp) fun D σ H h=>?_
  obtain ⟨σd,ι,S,hE,hs,ho⟩:=h
  have hx:xw x S ι H:=ho ι H .refl hs
  rw [F.ew]
  exact ⟨x,C1,rfl,hns,S,ι,hx⟩
theorem mZ {c:TC} {X:Cx} {xw:XW} {n:Str} {i:Nat} {C1 L:Addr} {e:PySem.Expr} (F:Fam Γ W CX EW c.gt cf X xw) (C:Cok c X) (hi:X.N[i]?=some n) (hk:X.env.kindOf n=some .local) (hd:(n==("__debug__" : Str))=false)
  (v1:PySem.W.kitOne X.K (.ref C1) (.type "ValueError")=some true) (l1:PySem.W.nsIn X.K mainGlobals "LapError" = some (some (.ref L))) (l2:PySem.W.kitOne X.K (.ref C1) (.ref L)=some true) (h:d9 c n e=true):PV X i C1 e (.bl true):=by
 unfold d9 at h
 split at h
 case h_2=>cases h
 rename_i x p1 y p2 d p3 pos
 rw [Bool.and_eq_true,Bool.and_eq_true,Bool.and_eq_true,Bool.or_eq_true] at h
 obtain ⟨⟨hx,hy⟩,hb,hcd⟩:=h
 have hx:=of_decide_eq_true hx
 have hy:=of_decide_eq_true hy
 subst hx hy
 obtain ⟨b1,b2⟩:=dO C hb
 have nb:dw X "isinstance" (.builtin "isinstance"):=⟨b1,by decide +kernel,.inr ⟨F.blt _ (by decide +kernel) b2,boot_isinstance,by decide +kernel⟩⟩
 have hv:Vis X.env.scope y:=by
  have z:X.env.scope.names.lookup y=some .local:=hk
  unfold Vis; simp [z]
 rcases hcd with h|h
 ·rw [Bool.and_eq_true,Bool.and_eq_true] at h
  obtain ⟨⟨e1,e2⟩,e3⟩:=h
  have e1:=of_decide_eq_true e1
  subst e1
  have e4:c.gt.lookup ("LapError" : Str)=some .cls:=by
   split at e3
   ·assumption
   ·cases e3
  exact qo hi hk hd hv nb ⟨C.gl e2,by decide +kernel,.inl ((F.cls _ e4).2 _ l1)⟩ l2
 ·rw [Bool.and_eq_true] at h
  obtain ⟨e1,e2⟩:=h
  have e1:=of_decide_eq_true e1
  subst e1
  obtain ⟨g1,g2⟩:=dO C e2
  exact qo hi hk hd hv nb ⟨g1,by decide +kernel,.inr ⟨F.blt _ (by decide +kernel) g2,by decide +kernel,by decide +kernel⟩⟩ v1
theorem nI {c:TC} {X:Cx} {xw:XW} {n k:Str} {i:Nat} {C1:Addr} {e:PySem.Expr} (F:Fam Γ W CX EW c.gt cf X xw) (C:Cok c X) (hi:X.N[i]?=some n) (hk:X.env.kindOf n=some .local) (hd:(n==("__debug__" : Str))=false)
  (np:k = "NoLoop"->∀ P,PySem.W.nsIn X.K mainGlobals "NoPlan" = some (some (.ref P))->dI X.K C1/\PySem.W.kitOne X.K (.ref C1) (.ref P)=some false) (h:dZ c n k e=true):PV X i C1 e (.bl true):=by
 unfold dZ at h
 split at h
 case h_2=>cases h
 rename_i x p1 y p2 d p3 pos p4
 rw [Bool.and_eq_true,Bool.and_eq_true,Bool.and_eq_true,Bool.and_eq_true,Bool.and_eq_true,Bool.and_eq_true] at h
 obtain ⟨⟨hx,hy⟩,hb,⟨⟨h1,h2⟩,h3⟩,h4⟩:=h
 have hx:=of_decide_eq_true hx
 have hy:=of_decide_eq_true hy
 have h1:=of_decide_eq_true h1
 have h2:=of_decide_eq_true h2
 subst hx hy h1 h2
 obtain ⟨b1,b2⟩:=dO C hb
 have nb:dw X "isinstance" (.builtin "isinstance"):=⟨b1,by decide +kernel,.inr ⟨F.blt _ (by decide +kernel) b2,boot_isinstance,by decide +kernel⟩⟩
 have hv:Vis X.env.scope y:=by
  have z:X.env.scope.names.lookup y=some .local:=hk
  unfold Vis; simp [z]
 have e4:c.gt.lookup ("NoPlan" : Str)=some .cls:=by
  split at h4
  ·assumption
  ·cases h4
 obtain ⟨⟨P,_,_,_,_,hP,_⟩,hmg⟩:=F.cls _ e4
 obtain ⟨T,e⟩:=np rfl P hP
 exact yQ hi hk hd hv nb ⟨C.gl h3,by decide +kernel,.inl (hmg P hP)⟩ T e
theorem jV {c:TC} {X:Cx} {n k:Str} {i:Nat} {C1:Addr} {pos:Pos} (h1:∀ e,d9 c n e=true->PV X i C1 e (.bl true)) (h2:∀ e,dZ c n k e=true->PV X i C1 e (.bl true)):∀ {ts:List PySem.Expr},fY c n k ts=true->PV X i C1 (.BoolOp .And ts pos) (.bl true)
 | [],h=>by cases h
 | [t],h=>by
  have h:(d9 c n t||dZ c n k t)=true:=h
  rw [Bool.or_eq_true] at h
  exact AZ (h.elim (h1 t) (h2 t))
 | t::t2::r,h=>by
  have h:((d9 c n t||dZ c n k t)&&fY c n k (t2::r))=true:=h
  rw [Bool.and_eq_true,Bool.or_eq_true] at h
  exact zm (h.1.elim (h1 t) (h2 t)) (jV h1 h2 h.2)
noncomputable def kxV:D->V
 | .bl b=>.bl b
 | .str x=>.str x
 | _=>.non
theorem nX {c:TC} {X:Cx} {xw:XW} {n k:Str} {i:Nat} {C1:Addr} {kx:PySem.Expr} {d:D} (F:Fam Γ W CX EW c.gt cf X xw) (C:Cok c X)
  (h1:∀ e,d9 c n e=true->PV X i C1 e (.bl true)) (h2:∀ e,dZ c n k e=true->PV X i C1 e (.bl true)) (h:g8 c n k kx=some d):PV X i C1 kx (kxV d)/\∀ ι H,Rep Γ ι H d (kxV d):=by
 unfold g8 at h
 split at h
 ·split at h
  ·rename_i q; cases h
   exact ⟨jV h1 h2 q,fun _ _=>.bl _⟩
  ·cases h
 ·split at h
  ·rename_i q; cases h
   rw [Bool.and_eq_true,Bool.and_eq_true] at q
   obtain ⟨⟨q1,q2⟩,q3⟩:=q
   have q1:=of_decide_eq_true q1
   subst q1
   obtain ⟨b1,b2⟩:=dO C q2
   exact ⟨r_ (uw (k:=true) ⟨b1,by decide +kernel,.inr ⟨F.blt _ (by decide +kernel) b2,PyProof.Rows.boot_int,by decide +kernel⟩⟩ (jV h1 h2 q3) rfl),fun _ _=>.str _⟩
  ·cases h
 ·cases h
theorem xW {m:Nat} {c:TC} {X:Cx} {xw:XW} {body:List Stmt} {hs:List ExceptHandler} {s':S} {pos:Pos} (F:Fam Γ W CX EW c.gt cf X xw) (C:Cok c X) (h:j3 c (trE m c) body hs=some s'):PS X (.Try body hs [] [] pos) (tMS Γ xw (exec sub cf s')):=by
 unfold j3 at h
 split at h
 case h_3=>cases h
 ·rename_i x p a as cpos rpos k np n kx rp2 hpos
  split at h
  case isFalse=>cases h
  rename_i hc
  rw [Bool.and_eq_true,Bool.and_eq_true,Bool.and_eq_true,Bool.and_eq_true,Bool.and_eq_true,Bool.and_eq_true] at hc
  obtain ⟨⟨⟨ht,hx1,hx2⟩,hk1,hk2⟩,hn1,hn2⟩:=hc
  split at h
  case h_2=>cases h
  rename_i es d i h1 h2 h3 h4 h5
  cases h
  have hi:X.N[i]?=some n:=by rw [C.N]; exact eS h5
  have hkn:X.env.kindOf n=some .local:=by show X.env.scope.names.lookup n=_; rw [C.sc]; exact of_decide_eq_true hn2
  obtain ⟨n1,f,fd,ps,hf,hr,hm,hk,hb,hl⟩:=F.fn x h1
  obtain ⟨⟨C1,newId,initId,B,bmB,hns,hex,FB,v1,⟨L,l1,l2⟩,noP⟩,hmg⟩:=F.cls k h2
  rw [F.cx] at hf
  obtain ⟨a',b',q1,q2,_⟩:=bC h3
  obtain ⟨pv,rep⟩:=nX F C (fun e h=>mZ F C hi hkn (b7 hn1).1 v1 l1 l2 h) (fun e h=>nI F C hi hkn (b7 hn1).1 noP h) h4
  refine PS.imp (zD hf hr (C.gl hx2) hm hk hb (b7 hx1).1 (b6 (sub:=sub) F.nox C.nox (fun e e' h=>cR m c e e' h X.nox XF F.nox C.nox) h3) (aX q1 as X.env) (dW q2 X.env cpos).1 (C.gl hk2) (hmg C1 hns) (b7 hk1).1 hex FB.hasBase (C.stk ht) C.nd hi hkn pv) fun D σ H h=>?_
  obtain ⟨σd,ι,S,hE,hs,ho⟩:=h
  have ho:Out Γ xw ι H ((quiet (evs sub cf es σd)>>=fun ds=>cM k d (cf x ds)>>=fun v=>pure (Fl.rt v)) S) (FlK Γ D):=ho
  refine ⟨σd,ι,S,hE,hs,(Out.quiet ho.bind XF).mono fun ds S1 ι1 H1 _ _ ⟨s1,e1,o1⟩ vs rs=>?_⟩
  refine ⟨EW fun c' _ _ H'=>c'=k/\D.rt (kxV d) H',fun cls H' z=>?_,?_⟩
  ·rw [F.ew] at z
   obtain ⟨c',C',rfl,hn,_,_,rfl,q⟩:=z
   rw [hns] at hn; cases hn
   exact ⟨rfl,q⟩
  ·have hlen:vs.length=ps.length:=by
    by_cases z:ds.length=ps.length
    ·rw [<- rs.length]; exact z
    ·rw [bQ] at o1
     unfold cM at o1
     rw [hl ds S1 z] at o1
     exact o1.elim
   refine ⟨hlen,_,F.wt _,rfl,ι1,S1,ds,s1,rs,?_⟩
   rw [bQ] at o1
   unfold cM at o1
   cases q:cf x ds S1 with
   | bad=>rw [q] at o1; exact o1.elim
   | ok d S2=>rw [q] at o1; exact o1
   | exc c' S2 =>
    rw [q] at o1
    dsimp only at o1
    by_cases z:c'=k
    ·rw [if_pos z] at o1
     exact fun ι' H' e' s2=>⟨z,o1 ι' H' e' s2 _ (rep _ _)⟩
    ·rw [if_neg z] at o1; exact o1.elim
 ·rename_i x p a as cpos rpos k np n kx rp2 hpos
  split at h
  case isFalse=>cases h
  rename_i hc
  rw [Bool.and_eq_true,Bool.and_eq_true,Bool.and_eq_true,Bool.and_eq_true,Bool.and_eq_true,Bool.and_eq_true] at hc
  obtain ⟨⟨⟨ht,hx1,hx2⟩,hk1,hk2⟩,hn1,hn2⟩:=hc
  split at h
  case h_2=>cases h
  rename_i es d i h1 h2 h3 h4 h5
  cases h
  have hi:X.N[i]?=some n:=by rw [C.N]; exact eS h5
  have hkn:X.env.kindOf n=some .local:=by show X.env.scope.names.lookup n=_; rw [C.sc]; exact of_decide_eq_true hn2
  obtain ⟨n1,f,fd,ps,hf,hr,hm,hk,hb,hl⟩:=F.fn x h1
  obtain ⟨⟨C1,newId,initId,B,bmB,hns,hex,FB,v1,⟨L,l1,l2⟩,noP⟩,hmg⟩:=F.cls k h2
  rw [F.cx] at hf
  obtain ⟨a',b',q1,q2,_⟩:=bC h3
  obtain ⟨pv,rep⟩:=nX F C (fun e h=>mZ F C hi hkn (b7 hn1).1 v1 l1 l2 h) (fun e h=>nI F C hi hkn (b7 hn1).1 noP h) h4
  refine PS.imp (ur hf hr (C.gl hx2) hm hk hb (b7 hx1).1 (b6 (sub:=sub) F.nox C.nox (fun e e' h=>cR m c e e' h X.nox XF F.nox C.nox) h3) (aX q1 as X.env) (dW q2 X.env cpos).1 (C.gl hk2) (hmg C1 hns) (b7 hk1).1 hex FB.hasBase (C.stk ht) C.nd hi hkn pv) fun D σ H h=>?_
  obtain ⟨σd,ι,S,hE,hs,ho⟩:=h
  have ho:Out Γ xw ι H ((quiet (evs sub cf es σd)>>=fun ds=>gW k d σd (cf x ds)) S) (FlK Γ D):=ho
  refine ⟨σd,ι,S,hE,hs,(Out.quiet ho.bind XF).mono fun ds S1 ι1 H1 _ _ ⟨s1,e1,o1⟩ vs rs=>?_⟩
  refine ⟨EW fun c' _ _ H'=>c'=k/\D.rt (kxV d) H',fun cls H' z=>?_,?_⟩
  ·rw [F.ew] at z
   obtain ⟨c',C',rfl,hn,_,_,rfl,q⟩:=z
   rw [hns] at hn; cases hn
   exact ⟨rfl,q⟩
  ·have hlen:vs.length=ps.length:=by
    by_cases z:ds.length=ps.length
    ·rw [<- rs.length]; exact z
    ·unfold gW at o1
     rw [hl ds S1 z] at o1
     exact o1.elim
   refine ⟨hlen,_,F.wt _,rfl,ι1,S1,ds,s1,rs,?_⟩
   unfold gW at o1
   cases q:cf x ds S1 with
   | bad=>rw [q] at o1; exact o1.elim
   | ok d' S2 =>
    rw [q] at o1
    exact fun ι' H' e' s2 v r=>o1 ι' H' e' s2 σ (hE.ext (e1.trans e'))
   | exc c' S2 =>
    rw [q] at o1
    dsimp only at o1
    by_cases z:c'=k
    ·rw [if_pos z] at o1
     exact fun ι' H' e' s2=>⟨z,o1 ι' H' e' s2 _ (rep _ _)⟩
    ·rw [if_neg z] at o1; exact o1.elim
theorem qZ {m:Nat} {c:TC} {X:Cx} {xw:XW} {body:List Stmt} {hs:List ExceptHandler} {s':S} {pos:Pos} (F:Fam Γ W CX EW c.gt cf X xw) (C:Cok c X) (h:kI c (trE m c) body hs=some s'):PS X (.Try body hs [] [] pos) (tMS Γ xw (exec sub cf s')):=by
 unfold kI at h
 split at h
 case h_2=>exact xW F C h
 rename_i x p a as cpos rpos k np j kp rp2 hpos
 split at h
 case isFalse=>cases h
 rename_i hc
 rw [Bool.and_eq_true,Bool.and_eq_true,Bool.and_eq_true,Bool.and_eq_true] at hc
 obtain ⟨⟨ht,hx1,hx2⟩,hk1,hk2⟩:=hc
 split at h
 case h_2=>cases h
 rename_i es h1 h2 h3
 cases h
 obtain ⟨n,f,fd,ps,hf,hr,hm,hk,hb,hl⟩:=F.fn x h1
 obtain ⟨⟨C1,newId,initId,B,bmB,hns,hex,FB,_⟩,hmg⟩:=F.cls k h2
 rw [F.cx] at hf
 obtain ⟨a',b',q1,q2,_⟩:=bC h3
 refine PS.imp (yc (kv:=.non) hf hr (C.gl hx2) hm hk hb (b7 hx1).1 (b6 (sub:=sub) F.nox C.nox (fun e e' h=>cR m c e e' h X.nox XF F.nox C.nox) h3) (aX q1 as X.env) (dW q2 X.env cpos).1 (C.gl hk2) (hmg C1 hns) (b7 hk1).1 hex FB.hasBase (C.stk ht) fun A E s Q q=>Constant_none (q s.toks .none rfl)) fun D σ H h=>?_
 obtain ⟨σd,ι,S,hE,hs,ho⟩:=h
 have ho:Out Γ xw ι H ((quiet (evs sub cf es σd)>>=fun ds=>cM k .non (cf x ds)>>=fun v=>pure (Fl.rt v)) S) (FlK Γ D):=ho
 refine ⟨σd,ι,S,hE,hs,(Out.quiet ho.bind XF).mono fun ds S1 ι1 H1 _ _ ⟨s1,e1,o1⟩ vs rs=>?_⟩
 refine ⟨EW fun c' _ _ H'=>c'=k/\D.rt .non H',fun cls H' z=>?_,?_⟩
 ·rw [F.ew] at z
  obtain ⟨c',C',rfl,hn,_,_,rfl,q⟩:=z
  rw [hns] at hn; cases hn
  exact ⟨rfl,q⟩
 ·have hlen:vs.length=ps.length:=by
   by_cases z:ds.length=ps.length
   ·rw [<- rs.length]; exact z
   ·rw [bQ] at o1
    unfold cM at o1
    rw [hl ds S1 z] at o1
    exact o1.elim
  refine ⟨hlen,_,F.wt _,rfl,ι1,S1,ds,s1,rs,?_⟩
  rw [bQ] at o1
  unfold cM at o1
  cases q:cf x ds S1 with
  | bad=>rw [q] at o1; exact o1.elim
  | ok d S2=>rw [q] at o1; exact o1
  | exc c' S2 =>
   rw [q] at o1
   dsimp only at o1
   by_cases z:c'=k
   ·rw [if_pos z] at o1
    exact fun ι' H' e' s2=>⟨z,o1 ι' H' e' s2 .non .non⟩
   ·rw [if_neg z] at o1; exact o1.elim
theorem zZ (m:Nat):∀ (n:Nat) (c:TC) (s:Stmt) (s':S),trS m n c s=some s'->∀ (X:Cx) (xw:XW),Fam Γ W CX EW c.gt cf X xw->Cok c X->PS X s (tMS Γ xw (exec sub cf s')):=by
 intro n
 induction n with
 | zero=>intro c s s' h; cases h
 | succ n ihn =>
  intro c s s' h X xw F C
  have ih:∀ s s',trS m n c s=some s'->PS X s (tMS Γ xw (exec sub cf s')):=fun s s' h=>ihn c s s' h X xw F C
  have ihx:∀ s s',trS m n c s=some s'->PS X.nox s (tMS Γ XF (exec sub cf s')):=fun s s' h=>ihn c s s' h X.nox XF F.nox C.nox
  have ce:∀ {e e'},trE m c e=some e'->ClE Γ sub cf X xw e e':=fun {e e'} h=>cR m c e e' h X xw F C
  have cx:∀ {e e'},trE m c e=some e'->ClE Γ sub cf X.nox XF e e':=fun {e e'} h=>cR m c e e' h X.nox XF F.nox C.nox
  cases s with
  | Return v p =>
   cases v with
   | none=>cases h; exact xU
   | some e =>
    obtain ⟨e',h1,rfl⟩:=dz (f:=S.ret) h
    exact zV (ce h1).pe
  | Expr e p =>
   simp only [trS] at h
   split at h
   ·rename_i hd
    obtain ⟨x,j,q,rfl⟩:=nk hd
    cases h; exact yr
   ·split at h
    ·rename_i hn
     obtain ⟨e',h1,rfl⟩:=dz (f:=S.ex) h
     exact xP (ce h1).pe (gE hn _ _ _)
    ·cases h
  | Pass p=>cases h; exact Cg
  | Assign ts e p =>
   simp only [trS] at h
   split at h
   ·rename_i tg
    split at h
    ·rename_i ha
     split at h
     ·rename_i t e' h1 h2
      cases h
      exact r6 F C ha h1 h2
     ·cases h
    ·exact uW F C h
   ·cases h
  | If t a b p =>
   simp only [trS] at h
   split at h
   ·rename_i t' a' b' h1 h2 h3
    cases h
    exact xh (ce h1).pt (fH ih h2) (fH ih h3)
   ·cases h
  | For tg it body els p =>
   simp only [trS] at h
   split at h
   ·rename_i t i b h1 h2 h3
    cases h
    obtain ⟨PI1,hs⟩:=jS (X:=X.nox) (xw:=XF) F.nox C.nox (fun e e' h=>cx h) h2
    exact zy F.calm PI1 (gM (X:=X.nox) F.hK F.calm C.nox h1) (fH ihx h3) hs
   ·cases h
  | While t body els p =>
   simp only [trS] at h
   split at h
   ·rename_i t' b h1 h2
    cases h
    exact sd (cx h1).pt (fH ihx h2)
   ·cases h
  | Raise e cause p =>
   cases e with
   | none=>cases cause <;> cases h
   | some e =>
    cases cause with
    | none=>exact wL F C h
    | some _=>cases h
  | Try body hs els fin p =>
   cases els with
   | cons _ _=>cases h
   | nil =>
    cases fin with
    | cons _ _=>cases h
    | nil=>exact qZ F C h
  | _=>cases h
end
end EV

namespace EV
open PySem PySem.Spec PyProof.Rows L2
theorem jq:∀ {ns:List Str} {us:List Value} {i:Nat} {x:Str} {u:Value},ns.Nodup->ns[i]?=some x->us[i]?=some u->(ns.zip us).lookup x=some u
 | [],_,_,_,_,_,h,_=>by simp at h
 | _::_,[],_,_,_,_,_,h=>by simp at h
 | y::ns,v::us,0,x,u,_,h1,h2=>by
  simp at h1 h2; subst h1; subst h2
  simp [List.lookup]
 | y::ns,v::us,i+1,x,u,nd,h1,h2=>by
  have h1':ns[i]?=some x:=by simpa using h1
  have hne:¬ x=y:=fun e=>by
   subst e; exact (List.nodup_cons.mp nd).1 (List.mem_of_getElem? h1')
  have hb:(x==y)=false:=by simpa using hne
  show List.lookup x ((y,v)::ns.zip us)=some u
  rw [List.lookup_cons,hb]
  exact jq (List.nodup_cons.mp nd).2 h1' (by simpa using h2)
theorem rC {ns:List Str} {us:List Value} (nd:ns.Nodup) (hl:us.length=ns.length):ns.filterMap (fun n=>((ns.zip us).lookup n).map (n,·))=ns.zip us:=by
 have all:∀ (ms:List Str) (vs:List Value),vs.length=ms.length->(∀ (i:Nat) x u,ms[i]?=some x->vs[i]?=some u->(ns.zip us).lookup x=some u)->ms.filterMap (fun n=>((ns.zip us).lookup n).map (n,·))=ms.zip vs:=by
  intro ms
  induction ms with
  | nil=>intro vs _ _; rfl
  | cons m ms ih =>
   intro vs hl h
   cases vs with
   | nil=>simp at hl
   | cons v vs =>
    rw [List.filterMap_cons,h 0 m v rfl rfl]
    show (m,v)::_=(m,v)::ms.zip vs
    rw [ih vs (by simpa using hl) fun i x u h1 h2=>h (i+1) x u (by simpa using h1) (by simpa using h2)]
 exact all ns us hl fun i x u h1 h2=>jq nd h1 h2
theorem nu {x qual:Str} {a:Arguments} {body:List Stmt} {sc:Scope} {kV doc pm cdv ct:Value} {an:Option Addr} (hp:iO a=true) (nd:(argNames a).Nodup) {us:List Value} (hl:us.length=(argNames a).length) :
  bindArgs (PySem.W.fnOf x qual a body sc .none kV doc pm an cdv ct) ⟨us,[]⟩=pure ((argNames a).zip us):=by
 obtain ⟨po,as,va,ko,kd,kw,df⟩:=a
 unfold iO at hp
 simp only [Bool.and_eq_true,List.isEmpty_iff,Option.isNone_iff_eq_none] at hp
 obtain ⟨⟨⟨⟨⟨rfl,rfl⟩,rfl⟩,rfl⟩,rfl⟩,rfl⟩:=hp
 have nd:(as.map (·.arg)).Nodup:=nd
 have hl:us.length=(as.map (·.arg)).length:=hl
 show bindArgs _ _=pure ((as.map (·.arg)).zip us)
 unfold bindArgs
 simp only [PySem.W.fnOf,List.map_nil,List.nil_append,List.append_nil]
 generalize as.map (·.arg)=ns at nd hl
 have hnot:¬ us.length > ns.length:=by rw [hl]; exact Nat.lt_irrefl _
 have hmiss:(List.take ns.length ns).filter (fun n=>((ns.zip us).lookup n).isNone)=[]:=by
  rw [List.filter_eq_nil_iff]
  intro n hn
  obtain ⟨i,hi⟩:=List.getElem?_of_mem (List.mem_of_mem_take hn)
  have hi':i < us.length:=by rw [hl]; exact (List.getElem?_eq_some_iff.mp hi).1
  rw [jq nd hi (List.getElem?_eq_getElem hi')]
  simp
 have hb:=rC nd hl
 have hd:seqItems? .none=pure none:=rfl
 rw [hd]
 have hz:(#[]:Array Value).toList=[]:=rfl
 have hdec:decide (us.length > ns.length)=false:=decide_eq_false hnot
 simp only [List.forIn_nil,pure_bind,Option.getD_none,hz,List.length_nil,Nat.zero_sub,List.drop_nil,Nat.sub_zero,hmiss,hdec,Bool.false_and,Bool.false_eq_true,if_false,List.isEmpty_nil,Bool.not_true,List.zip_nil_right,hb]
noncomputable def jb (xw:XW):XW:=fun c _ _ H=>∃ S ι,xw c S ι H
structure Txt (K:PySem.W.Frag) (mg:Str->Option Value) (gt:List (Str × GE)) (defs:List (Str × Stmt)):Prop where
 fn:∀ x,gt.lookup x=some .fn->∃ st f fd,defs.lookup x=some st/\mg x=some (.ref f)/\Fun K x x st f fd
 blt:∀ x∈dB,gt.lookup x=none->mg x=none
 val:∀ x d,gt.lookup x=some (.val d)->∃ u v,mg x=some u/\RelV v u/\∀ ι H,Rep ⟨K⟩ ι H d v
 cls:∀ x,gt.lookup x=some .cls->ClsAt K x/\∀ C,PySem.W.nsIn K mainGlobals x=some (some (.ref C))->mg x=some (.ref C)
theorem wg {Γ:Gx} {ι:List Addr} {H:Hp} {ds:List D} {vs:List V} (rs:au Γ ι H ds vs) (N:List Str) {k:Nat} (hk:k=N.length):aQ Γ ι H (L2.start N vs) (ds.map some++List.replicate (k - ds.length) none):=by
 have hl:=rs.length
 refine ⟨by unfold L2.start; simp [hl,hk],fun i d h=>?_⟩
 by_cases hi:i < ds.length
 ·rw [List.getElem?_append_left (by simpa using hi),List.getElem?_map] at h
  have h:ds[i]?=some d:=by
   rw [List.getElem?_eq_getElem hi] at h ⊢
   simpa using h
  obtain ⟨v,hv,r⟩:=Paired.get rs h
  refine ⟨v,?_,r⟩
  unfold L2.start
  rw [List.getElem?_append_left (by rw [List.length_map,<- hl]; exact hi),List.getElem?_map,hv]
  rfl
 ·rw [List.getElem?_append_right (by simpa using hi),List.getElem?_replicate] at h
  split at h <;> cases h
theorem i_ {a:Arguments} {sc:Scope} (h:cP a sc=true):iR (namesOf a sc) (argNames a) sc/\iO a=true:=by
 unfold cP at h
 simp only [Bool.and_eq_true] at h
 obtain ⟨⟨⟨⟨⟨⟨h1,h2⟩,h3⟩,h4⟩,h5⟩,h6⟩,h7⟩:=h
 rw [List.all_eq_true] at h6 h7
 refine ⟨⟨of_decide_eq_true h2,by simpa using h3,by simpa using h4,g6 h5,?_,fun x hx=>?_,fun y hy hf=>?_⟩,h1⟩
 ·unfold namesOf; rw [List.take_append_of_le_length (Nat.le_refl _),List.take_length]
 ·have:=h6 x hx
  cases q:sc.names.lookup x with
  | none=>rw [q] at this; cases this
  | some k=>rw [q] at this; cases k <;> first|exact .inl rfl|exact .inr rfl|cases this
 ·have:=h7 y hy
  rw [hf] at this; simp at this
theorem qd {CX:CXT} {P:Program} {w:World} {K:PySem.W.Frag} {mg:Str->Option Value} {base:Heap} {N:List Str} {qual:Str} {scope:Scope} {f:Addr} {cd:Value} {A:Around} {outer:List Env} {s:Shared} {H:Hp} {E:XK} {pins:List (Addr × Obj)} {σ:L2.St} {H1:Hp} {s1:Shared} (I:Inv (cD CX P w K mg base N qual scope f cd A outer s H E) pins σ H1 s1):A.frames=some outer:=by
 have z:A.frames.map (envOfC qual scope s.heap.objs.size f cd :: ·)=some (envOfC qual scope s.heap.objs.size f cd::outer):=I.ok.frames
 cases q:A.frames with
 | none=>rw [q] at z; cases z
 | some l=>rw [q] at z; cases z; rfl
section
variable {P:Program} {w:World} {K:PySem.W.Frag} {mg:Str->Option Value} {base:Heap} {W:XW->Prop} {sub:Sub} {gt:List (Str × GE)} {defs:List (Str × Stmt)} {Pd:Prg}
theorem xV (T:Txt K mg gt defs) (hW:∀ xw,W xw) (hP:∀ x st,defs.lookup x=some st->∃ F,trF gt st=some F/\Pd.lookup x=some F) :
  ∀ (n:Nat) (x:Str) (st:Stmt) (f:Addr) (fd:FuncData),defs.lookup x=some st->Fun K x x st f fd->b_ P w K mg base (CXe P w) n f fd (argNames (cL st)) (spF ⟨K⟩ W (EWx K) (ai sub Pd n x) (argNames (cL st)).length):=by
 intro n
 induction n with
 | zero =>
  intro x st f fd _ _
  refine ⟨fun vs H Q E h=>h.1,fun A outer s H args us vs Q E _ _ _ _ h=>?_⟩
  obtain ⟨_,_,_,_,_,_,_,_,_,ho⟩:=h
  exact ho.elim
 | succ n ih =>
  intro x st f fd hst Fu
  obtain ⟨F,hF,hPi⟩:=hP x st hst
  cases st with
  | FunctionDef x0 a body d1 d2 d3 sc d4 d5 d6 =>
   have hF:(if cP a sc=true then (cB (trS depth depth (eB gt a sc)) body).map fun b=>(⟨(argNames a).length,(namesOf a sc).length,b⟩:Fn) else none)=some F:=hF
   by_cases hs:cP a sc=true
   ·rw [if_pos hs] at hF
    obtain ⟨b,hb,rfl⟩:=dz hF
    obtain ⟨SC,hpl⟩:=i_ hs
    obtain ⟨oc,od,kV,doc,pm,an,cdv,ct,osl,rfl,lk,hcd⟩:=Fu.ex
    refine tG (N:=namesOf a sc) lk hcd SC (fun vs H Q E h=>h.1) fun A outer s H vs Q E hr hsp=>?_
    obtain ⟨hl,xw,hw,rfl,ι,S,ds,hS,rs,ho⟩:=hsp
    have hew:∀ C H,EWx K (jb xw) (.ref C) none H->EWx K xw (.ref C) none H:=fun C H z=>by
     obtain ⟨c,C',z1,z2,_,_,S',ι',z3⟩:=z
     exact ⟨c,C',z1,z2,S',ι',z3⟩
    have FM:Fam ⟨K⟩ W (CXe P w) (EWx K) gt (ai sub Pd n) (cD (CXe P w) P w K mg base (namesOf a sc) x sc f cdv A outer s H (EWx K xw)) (jb xw):=by
     refine ⟨rfl,rfl,hr.units,T.blt,T.val,fun y hy=>?_,fun pins σ H1 s1 v s2 I hx=>m_ (fun _ _ _ _ z=>.inr z) hew (qd I) I hx,fun pins σ H1 s1 v s2 I hx=>m_ (fun _ _ _ _ z=>.inl z) hew (qd I) I hx,T.cls,rfl,rfl,hW⟩
     obtain ⟨st2,f2,fd2,h1,h2,h3⟩:=T.fn y hy
     obtain ⟨F2,hF2,hPj⟩:=hP y st2 h1
     have hb2:Binds K fd2 (argNames (cL st2)) []:=by
      cases st2 with
      | FunctionDef x1 a1 body1 e1 e2 e3 sc1 e4 e5 e6 =>
       have hF2:(if cP a1 sc1=true then (cB (trS depth depth (eB gt a1 sc1)) body1).map fun b=>(⟨(argNames a1).length,(namesOf a1 sc1).length,b⟩:Fn) else none)=some F2:=hF2
       by_cases hs1:cP a1 sc1=true
       ·obtain ⟨SC1,hpl1⟩:=i_ hs1
        refine h3.binds fun _ _ _ _ _ _ us hl=>?_
        have nd1:(argNames a1).Nodup:=by rw [<- SC1.pre]; exact SC1.nd.sublist (List.take_sublist _ _)
        exact nu hpl1 nd1 hl
       ·rw [if_neg hs1] at hF2; cases hF2
      | _=>cases hF2
     refine ⟨n,f2,fd2,argNames (cL st2),ih y st2 f2 fd2 h1 h3,hr,h2,h3.kp,hb2,fun ds S hne=>?_⟩
     cases n with
     | zero=>rfl
     | succ n =>
      have hpar:F2.par=(argNames (cL st2)).length:=by
       cases st2 with
       | FunctionDef x1 a1 body1 e1 e2 e3 sc1 e4 e5 e6 =>
        have hF2:(if cP a1 sc1=true then (cB (trS depth depth (eB gt a1 sc1)) body1).map fun b=>(⟨(argNames a1).length,(namesOf a1 sc1).length,b⟩:Fn) else none)=some F2:=hF2
        by_cases hs1:cP a1 sc1=true
        ·rw [if_pos hs1] at hF2
         obtain ⟨b1,_,rfl⟩:=dz hF2
         rfl
        ·rw [if_neg hs1] at hF2; cases hF2
       | _=>cases hF2
      exact q_ hPj (by rw [hpar]; exact hne)
    have CK:Cok (eB gt a sc) (cD (CXe P w) P w K mg base (namesOf a sc) x sc f cdv A outer s H (EWx K xw)):=⟨rfl,rfl,SC.nd,SC.kind,fun _ _=>rfl,fun _=>⟨rfl,rfl⟩⟩
    refine ⟨tMS ⟨K⟩ (jb xw) (exec sub (ai sub Pd n) b),fH (fun s s' h=>zZ depth depth (eB gt a sc) s s' h _ _ FM CK) hb,?_⟩
    have hdl:ds.length=(argNames a).length:=rs.length.trans hl
    refine ⟨ds.map some++List.replicate ((namesOf a sc).length - ds.length) none,ι,S,wg rs _ rfl,hS,?_⟩
    have ho:Out ⟨K⟩ xw ι H (ai sub Pd (n+1) x ds S) _:=ho
    rw [ju hPi hdl] at ho
    unfold frame at ho
    cases q:exec sub (ai sub Pd n) b (ds.map some++List.replicate ((namesOf a sc).length - ds.length) none) S with
    | bad=>rw [q] at ho; exact ho.elim
    | exc k S' =>
     rw [q] at ho
     intro ι' H' e' s'
     have ho:Out ⟨K⟩ xw ι H (if S'.take S.length=S then .exc k S else .exc k S') _:=ho
     by_cases ht:S'.take S.length=S
     ·rw [if_pos ht] at ho
      exact ⟨S,ι,ho ι H' e'.back (aq.back e' hS s' ht)⟩
     ·rw [if_neg ht] at ho
      exact ⟨S',ι',ho ι' H' e' s'⟩
    | ok fl S' =>
     rw [q] at ho
     intro ι' H' e' s'
     cases fl with
     | nx σ'=>exact fun σv hv=>oN hS e' s' .non ho
     | rt d=>exact fun v r=>oN hS e' s' r ho
     | bk σ'=>exact ho.elim
     | ct σ'=>exact ho.elim
   ·rw [if_neg hs] at hF; cases hF
  | _=>cases hF
end
end EV

namespace EV
open PySem PySem.Spec PyProof.Rows L2
inductive c7 (K:PySem.W.Frag):List (Str × Stmt)->Prop
 | nil:c7 K []
 | cons {x:Str} {st:Stmt} {r:List (Str × Stmt)} {f:Addr} {oc:Value} {od an:Option Addr} {osl:Array (Option Value)} {kV doc pm cdv ct:Value} :
   PySem.W.nsIn K mainGlobals x=some (some (.ref f)) ->
   K.lookup f=some ⟨oc,od,.func (PySem.W.fnOf x x (cL st) (fZ st) (gF st) .none kV doc pm an cdv ct),osl⟩ ->
   PySem.W.codeIn K cdv x=true->PySem.W.keepIn K (.ref f)=true->c7 K r->c7 K ((x,st)::r)
inductive dY:D->Value->Prop
 | non:dY .non .none
 | bl (b:Bool):dY (.bl b) (.bool b)
 | int (i:Int) (t:Tok):dY (.int i) (.int i t)
 | str (x:Str) (t:Tok):dY (.str x) (.str x t)
inductive dQ:List D->List Value->Prop
 | nil:dQ [] []
 | cons {d:D} {u:Value} {ds:List D} {us:List Value}:dY d u->dQ ds us->dQ (d::ds) (u::us)
inductive bY (K:PySem.W.Frag):List (Str × D)->Prop
 | nil:bY K []
 | flat {x:Str} {d:D} {u:Value} {r:List (Str × D)}:PySem.W.nsIn K mainGlobals x=some (some u)->dY d u->bY K r->bY K ((x,d)::r)
 | tup {x:Str} {ds:List D} {a:Addr} {od:Option Addr} {us:List Value} {n:Nat} {sl:Array (Option Value)} {r:List (Str × D)}:PySem.W.nsIn K mainGlobals x=some (some (.ref a)) ->
   K.lookup a=some ⟨.type "tuple",od,.seq us.toArray n,sl⟩->us.length<=1000->dQ ds us->bY K r->bY K ((x,.tup ds)::r)
inductive dH (K:PySem.W.Frag):List Str->Prop
 | nil:dH K []
 | cons {x:Str} {r:List Str}:PySem.W.nsIn K mainGlobals x=some none->dH K r->dH K (x::r)
noncomputable def iG:D->V
 | .bl b=>.bl b
 | .int i=>.int i
 | .str x=>.str x
 | _=>.non
theorem dY.rel {d:D} {u:Value} (h:dY d u):RelV (iG d) u/\∀ Γ ι H,Rep Γ ι H d (iG d):=by
 cases h with
 | non=>exact ⟨rfl,fun _ _ _=>.non⟩
 | bl b=>exact ⟨rfl,fun _ _ _=>.bl b⟩
 | int i t=>exact ⟨⟨t,rfl⟩,fun _ _ _=>.int i⟩
 | str x t=>exact ⟨⟨t,rfl⟩,fun _ _ _=>.str x⟩
theorem dQ.rel:∀ {ds:List D} {us:List Value},dQ ds us->Vals (ds.map iG) us/\∀ Γ ι H,au Γ ι H ds (ds.map iG)
 | _,_,.nil=>⟨.nil,fun _ _ _=>.nil⟩
 | _,_,.cons h r=>⟨.cons h.rel.1 (dQ.rel r).1,fun Γ ι H=>.cons (h.rel.2 Γ ι H) ((dQ.rel r).2 Γ ι H)⟩
theorem c7.get {K:PySem.W.Frag}:∀ {fns:List (Str × Stmt)} {x:Str} {st:Stmt},c7 K fns->(x,st)∈fns->∃ f fd,PySem.W.nsIn K mainGlobals x=some (some (.ref f))/\Fun K x x st f fd
 | _,_,_,.nil,h=>by simp at h
 | _,_,_,.cons a l c k r,h=>by
  rcases List.mem_cons.mp h with e|h
  ·cases e; exact ⟨_,_,a,zB l c k⟩
  ·exact c7.get r h
theorem bY.get {K:PySem.W.Frag}:∀ {vals:List (Str × D)} {x:Str} {d:D},bY K vals->(x,d)∈vals->∃ u v,PySem.W.nsIn K mainGlobals x=some (some u)/\RelV v u/\∀ ι H,Rep ⟨K⟩ ι H d v
 | _,_,_,.nil,h=>by simp at h
 | _,x,d,.flat a f r,h=>by
  rcases List.mem_cons.mp h with e|h
  ·cases e; exact ⟨_,_,a,f.rel.1,fun ι H=>f.rel.2 _ ι H⟩
  ·exact bY.get r h
 | _,x,d,.tup a l z f r,h=>by
  rcases List.mem_cons.mp h with e|h
  ·cases e
   refine ⟨_,.ref _,a,rfl,fun ι H=>?_⟩
   have hz:∀ {us:List Value},us.length<=1000->us.toArray.size<=sizeLine:=fun {us} h=>by rw [List.size_toArray,sizeLine_eq]; omega
   exact .gz (.inr ⟨_,_,_,l,rfl,rfl,hz z,by simpa using f.rel.1⟩) (f.rel.2 _ ι H)
  ·exact bY.get r h
theorem dH.get {K:PySem.W.Frag}:∀ {l:List Str} {x:Str},dH K l->x∈l->PySem.W.nsIn K mainGlobals x=some none
 | _,_,.nil,h=>by simp at h
 | _,_,.cons a r,h=>by
  rcases List.mem_cons.mp h with rfl|h
  ·exact a
  ·exact dH.get r h
inductive bF (K:PySem.W.Frag):List Str->Prop
 | nil:bF K []
 | cons {x:Str} {r:List Str} {C L:Addr} (a:PySem.W.nsIn K mainGlobals x=some (some (.ref C))) (b:PySem.W.excIn K C [.type "ValueError",.type "Exception",.type "BaseException",.type "object"] "ValueError.__new__" = true)
   (v:PySem.W.kitOne K (.ref C) (.type "ValueError")=some true) (l1:PySem.W.nsIn K mainGlobals "LapError" = some (some (.ref L))) (l2:PySem.W.kitOne K (.ref C) (.ref L)=some true) (n:x≠"NoLoop") (c:bF K r):bF K (x::r)
 | consN {r:List Str} {C L:Addr} (a:PySem.W.nsIn K mainGlobals "NoLoop" = some (some (.ref C))) (b:PySem.W.excIn K C [.type "ValueError",.type "Exception",.type "BaseException",.type "object"] "ValueError.__new__" = true)
   (v:PySem.W.kitOne K (.ref C) (.type "ValueError")=some true) (l1:PySem.W.nsIn K mainGlobals "LapError" = some (some (.ref L))) (l2:PySem.W.kitOne K (.ref C) (.ref L)=some true) (n:PySem.W.nsIn K mainGlobals "NoPlan" = some none) (c:bF K r):bF K ("NoLoop" :: r)
 | consP {r:List Str} {C L P:Addr} (a:PySem.W.nsIn K mainGlobals "NoLoop" = some (some (.ref C))) (b:PySem.W.excIn K C [.type "ValueError",.type "Exception",.type "BaseException",.type "object"] "ValueError.__new__" = true)
   (v:PySem.W.kitOne K (.ref C) (.type "ValueError")=some true) (l1:PySem.W.nsIn K mainGlobals "LapError" = some (some (.ref L))) (l2:PySem.W.kitOne K (.ref C) (.ref L)=some true)
   (n:PySem.W.nsIn K mainGlobals "NoPlan" = some (some (.ref P))) (p:PySem.W.kitOne K (.ref C) (.ref P)=some false)
   (e1:PySem.W.findIn K (.ref C) "__getattribute__" = some (some (.builtin "BaseException.__getattribute__")))
   (e2:PySem.W.findIn K (.ref C) "__getattr__" = some none)
   (e3:PySem.W.findIn K (.ref C) "__class__" = some (some (.builtin "object.__class__")))
   (e4:PySem.W.specialIn K (.builtin "object.__class__") "__get__" = some (some (.builtin "getset_descriptor.__get__")))
   (e5:PySem.W.takesIn K (.builtin "object.__class__")=some true)
   (e6:PySem.W.mroIn K C (.type "object")=some true)
   (e7:PySem.W.mroIn K C (.type "BaseException")=some true)
   (e8:(PySem.W.clsIn K C).isSome=true) (c:bF K r):bF K ("NoLoop" :: r)
theorem bF.get {K:PySem.W.Frag}:∀ {l:List Str} {x:Str},bF K l->x∈l->ClsAt K x
 | _,_,.nil,h=>by cases h
 | _,_,.cons a b v l1 l2 n r,h=>by
  rcases List.mem_cons.mp h with rfl|h
  ·exact ⟨_,_,_,_,_,a,b,PySem.F.excBase_ValueError,v,⟨_,l1,l2⟩,fun z=>absurd z n⟩
  ·exact bF.get r h
 | _,_,.consN a b v l1 l2 n r,h=>by
  rcases List.mem_cons.mp h with rfl|h
  ·exact ⟨_,_,_,_,_,a,b,PySem.F.excBase_ValueError,v,⟨_,l1,l2⟩,fun _ P z=>by rw [n] at z; cases z⟩
  ·exact bF.get r h
 | _,_,.consP a b v l1 l2 n p e1 e2 e3 e4 e5 e6 e7 e8 r,h=>by
  rcases List.mem_cons.mp h with rfl|h
  ·exact ⟨_,_,_,_,_,a,b,PySem.F.excBase_ValueError,v,⟨_,l1,l2⟩,fun _ P z=>by rw [n] at z; cases z; exact ⟨⟨e1,e2,e3,e4,e5,e6,e7,e8⟩,p⟩⟩
  ·exact bF.get r h
noncomputable def c_ (fns:List (Str × Stmt)) (vals:List (Str × D)) (cls:List Str):List (Str × GE):=(fns.map fun p=>(p.1,.fn))++(vals.map fun p=>(p.1,.val p.2))++cls.map fun x=>(x,.cls)
theorem jY {α β γ:Type} {f:Str × α->Str × β} (hf:∀ p,(f p).1=p.1) {g:Str × α->γ}:∀ {l:List (Str × α)} {x:Str} {b:β},(l.map f).lookup x=some b->∃ p∈l,p.1=x/\(f p).2=b/\l.lookup x=some p.2
 | [],_,_,h=>by simp at h
 | p::r,x,b,h=>by
  have e:f p=(p.1,(f p).2):=by rw [<- hf p]
  rw [List.map_cons,e,List.lookup_cons] at h
  obtain ⟨y,a⟩:=p
  cases q:x==y with
  | true =>
   simp only [q] at h
   have e:x=y:=by simpa using q
   subst e
   exact ⟨(x,a),List.mem_cons_self,rfl,by simpa using h,by rw [List.lookup_cons,q]⟩
  | false =>
   simp only [q] at h
   obtain ⟨p,h1,h2,h3,h4⟩:=jY hf (g:=g) h
   exact ⟨p,List.mem_cons_of_mem _ h1,h2,h3,by rw [List.lookup_cons,q]; exact h4⟩
theorem ki {β:Type}:∀ {l m:List (Str × β)} {x:Str},(l++m).lookup x=(match l.lookup x with|some b=>some b|none=>m.lookup x)
 | [],m,x=>by simp
 | (y,a)::r,m,x=>by
  rw [List.cons_append,List.lookup_cons,List.lookup_cons]
  cases x==y with
  | true=>rfl
  | false=>exact ki
theorem fS {α:Type}:∀ {l:List (Str × α)} {x:Str} {a:α},l.lookup x=some a->(x,a)∈l
 | [],_,_,h=>by simp at h
 | (y,b)::r,x,a,h=>by
  rw [List.lookup_cons] at h
  cases q:x==y with
  | true =>
   rw [q] at h
   have e:x=y:=by simpa using q
   subst e
   have e:b=a:=by simpa using h
   subst e
   exact List.mem_cons_self
  | false=>rw [q] at h; exact List.mem_cons_of_mem _ (fS h)
theorem mQ {K:PySem.W.Frag} {h:Heap} {mg:Str->Option Value} {fns:List (Str × Stmt)} {vals:List (Str × D)} {cls:List Str} (X:K.In h) (G:h.Ns mainGlobals mg) (hd:c7 K fns) (hv:bY K vals) (hc:∀ x∈cls,ClsAt K x)
  (hb:∀ x∈dB,(c_ fns vals cls).lookup x=none->PySem.W.nsIn K mainGlobals x=some none):Txt K mg (c_ fns vals cls) fns where
 fn:=fun x hx=>by
  unfold c_ at hx
  rw [ki,ki] at hx
  cases q:(fns.map fun p=>(p.1,GE.fn)).lookup x with
  | some b =>
   obtain ⟨p,h1,h2,_,h4⟩:=jY (g:=fun _=>()) (f:=fun p=>(p.1,GE.fn)) (fun _=>rfl) q
   obtain ⟨y,st⟩:=p
   have h2:y=x:=h2
   subst h2
   obtain ⟨f,fd,a,F⟩:=hd.get h1
   exact ⟨st,f,fd,h4,PySem.W.mg_of X G a,F⟩
  | none =>
   rw [q] at hx
   cases q2:(vals.map fun p=>(p.1,GE.val p.2)).lookup x with
   | some b =>
    rw [q2] at hx
    obtain ⟨p,h1,h2,h3,_⟩:=jY (g:=fun _=>()) (f:=fun p=>(p.1,GE.val p.2)) (fun _=>rfl) q2
    have hx:b=.fn:=by simpa using hx
    rw [hx] at h3; cases h3
   | none =>
    rw [q2] at hx
    have hm:=fS hx
    obtain ⟨p,_,e⟩:=List.mem_map.mp hm; cases e
 blt:=fun x hx hn=>PySem.W.mg_none_of X G (hb x hx hn)
 val:=fun x d hx=>by
  have hm:=fS hx
  unfold c_ at hm
  rcases List.mem_append.mp hm with hm|hm
  ·rcases List.mem_append.mp hm with hm|hm
   ·obtain ⟨p,hp,e⟩:=List.mem_map.mp hm; cases e
   ·obtain ⟨p,hp,e⟩:=List.mem_map.mp hm
    cases e
    obtain ⟨u,v,a,r,q⟩:=hv.get hp
    exact ⟨u,v,PySem.W.mg_of X G a,r,q⟩
  ·obtain ⟨p,_,e⟩:=List.mem_map.mp hm; cases e
 cls:=fun x hx=>by
  have hm:=fS hx
  unfold c_ at hm
  have hx:x∈cls:=by
   rcases List.mem_append.mp hm with hm|hm
   ·rcases List.mem_append.mp hm with hm|hm
    ·obtain ⟨p,_,e⟩:=List.mem_map.mp hm; cases e
    ·obtain ⟨p,_,e⟩:=List.mem_map.mp hm; cases e
   ·obtain ⟨p,hp,e⟩:=List.mem_map.mp hm; cases e; exact hp
  exact ⟨hc x hx,fun C a=>PySem.W.mg_of X G a⟩
theorem AK {K:PySem.W.Frag} {H:Hp} {a:Addr} {ns:List Int} (hO:fV H) (hS:SqL K H a (ns.map V.int)):aq ⟨K⟩ [] H []/\au ⟨K⟩ [] H [.fro (ns.map .int)] [.ref a]:=by
 refine ⟨⟨rfl,List.nodup_nil,fun l c h=>by simp at h⟩,.cons ?_ .nil⟩
 have hp:au ⟨K⟩ [] H (ns.map D.int) (ns.map V.int):=jl ns
 have hf:Fro K H a (ns.map V.int):=by
  rcases hS with (h|⟨o,h⟩)|h
  ·rcases hO a with z|⟨o,xs,z⟩
   ·rw [h] at z; cases z
   ·rw [h] at z; cases z
  ·exact .inl ⟨o,h⟩
  ·exact .inr fun H=>.inr h
 exact .fro hf (by simp) fun i d v e1 e2=>by
  obtain ⟨y,e,f⟩:=Paired.get hp e1
  rw [e2] at e; cases e; exact f
theorem Bp {fns:List (Str × Stmt)} {gt:List (Str × GE)} {Pd:Prg} (hP:fns.map (fun p=>(p.1,trF gt p.2))=Pd.map fun p=>(p.1,some p.2)):∀ x st,fns.lookup x=some st->∃ F,trF gt st=some F/\Pd.lookup x=some F:=by
 have all:∀ (fns:List (Str × Stmt)) (Pd:Prg),(fns.map (fun p=>(p.1,trF gt p.2))=Pd.map fun p=>(p.1,some p.2))->∀ x st,fns.lookup x=some st->∃ F,trF gt st=some F/\Pd.lookup x=some F:=by
  intro fns
  induction fns with
  | nil=>intro Pd _ x st h; simp at h
  | cons p r ih =>
   intro Pd hP x st h
   cases Pd with
   | nil=>simp at hP
   | cons F Pd =>
    obtain ⟨y,st0⟩:=p
    obtain ⟨y2,F⟩:=F
    rw [List.map_cons,List.map_cons] at hP
    injection hP with e1 e2
    have e1a:y=y2:=congrArg Prod.fst e1
    have e1b:trF gt st0=some F:=congrArg Prod.snd e1
    subst e1a
    rw [List.lookup_cons] at h
    rw [List.lookup_cons]
    cases q:x==y with
    | true =>
     rw [q] at h
     have h:st0=st:=by simpa using h
     subst h
     exact ⟨F,e1b,rfl⟩
    | false=>rw [q] at h; exact ih Pd e2 x st h
 exact all fns Pd hP
theorem vK {l:PySem.W.OpenLaw} {q:Program} {loose:List Str} {XP:(Str->Option Value)->Heap->Prop} {YP:World->Heap->Prop} {d:DefRec} {K:Params->PySem.W.Frag} {fns:List (Str × Stmt)} {vals:List (Str × D)} {cls:List Str} {Pd:Prg} {sub:Sub} {n:Nat} {st:Stmt} {x:Str}
  (hn:l.most=some 63) (hdf:d.params.defaults=[]) (hr:br n callerA) (hY:∀ (w:World) (h:Heap),YP w h->(K w.params).In h)
  (hP:fns.map (fun p=>(p.1,trF (c_ fns vals cls) p.2))=Pd.map fun p=>(p.1,some p.2)) (hL:fns.lookup d.name=some st) (hx:argNames (cL st)=[x])
  (hT:∀ w:World,∀ h:Heap,(K w.params).In h->c7 (K w.params) fns/\bY (K w.params) vals/\bF (K w.params) cls/\∀ x∈dB,(c_ fns vals cls).lookup x=none->PySem.W.nsIn (K w.params) mainGlobals x=some none)
  (hmain:∀ ns:List Int,ns.length<=63->∃ S',ai sub Pd n d.name [.fro (ns.map .int)] []=.ok (.bl true) S') :
  PySem.W.WalkO q loose XP YP l.row.toRowW d [] (fun f vs=>PySem.call f vs):=by
 have hP':=Bp hP
 refine L2.pR (n:=63) (k:=n) (x:=x) (CX:=fun w=>CXe l.prog w) (sp:=fun w=>spF ⟨K w.params⟩ (fun _=>True) (EWx (K w.params)) (ai sub Pd n d.name) 1) hn (by decide) hdf hr hY (fun w mg fa h KX G hmg=>?_) (fun w H a ns hl hO hS=>?_) fun _ _ _ _ _ ⟨_,_,_,_,_,_,_,_,_,_,_,_,z⟩=>z
 ·obtain ⟨h1,h2,h4,h3⟩:=hT w h KX
  have T:=mQ KX G h1 h2 (fun x hx=>h4.get hx) h3
  obtain ⟨f,fd,a,F⟩:=h1.get (fS hL)
  have e:=hmg.symm.trans (PySem.W.mg_of KX G a)
  cases e
  refine ⟨fd,fun s u=>?_,fun base kb nb=>?_⟩
  ·obtain ⟨F2,hF2,_⟩:=hP' d.name st hL
   obtain ⟨oc,od,kV,doc,pm,an,cdv,ct,osl,rfl,lk,hcd⟩:=F.ex
   cases st with
   | FunctionDef x1 a1 body1 e1 e2 e3 sc1 e4 e5 e6 =>
    have hF2:(if cP a1 sc1=true then (cB (trS depth depth (eB (c_ fns vals cls) a1 sc1)) body1).map fun b=>(⟨(argNames a1).length,(namesOf a1 sc1).length,b⟩:Fn) else none)=some F2:=hF2
    by_cases hs1:cP a1 sc1=true
    ·obtain ⟨SC1,hpl1⟩:=i_ hs1
     have nd1:(argNames a1).Nodup:=by rw [<- SC1.pre]; exact SC1.nd.sublist (List.take_sublist _ _)
     have hx:argNames a1=[x]:=hx
     have:=nu (x:=d.name) (qual:=d.name) (body:=body1) (sc:=sc1) (kV:=kV) (doc:=doc) (pm:=pm) (cdv:=cdv) (ct:=ct) (an:=an) hpl1 nd1 (us:=[u]) (by rw [hx]; rfl)
     rw [hx] at this
     exact .of_eq this
    ·rw [if_neg hs1] at hF2; cases hF2
   | _=>cases hF2
  ·have T':=mQ kb nb h1 h2 (fun x hx=>h4.get hx) h3
   have:=xV (sub:=sub) (P:=l.prog) (w:=w) (base:=base) T' (W:=fun _=>True) (fun _=>trivial) hP' n d.name st fa fd hL F
   rw [hx] at this
   exact this
 ·obtain ⟨hs,rs⟩:=AK hO hS
  obtain ⟨S',hm⟩:=hmain ns hl
  refine ⟨rfl,XF,trivial,funext fun _=>funext fun _=>funext fun _=>propext ⟨fun z=>z.elim,fun z=>(ewF z).elim⟩,[],[],[.fro (ns.map .int)],hs,rs,?_⟩
  rw [hm]
  intro ι' H' _ _ v r
  cases r
  rfl
end EV

namespace EV
open PySem
variable {α β:Type}
noncomputable def Res.bind (r:Res α) (f:α->af->Res β):Res β:=match r with
 | .ok a S=>f a S
 | .exc c S=>.exc c S
 | .bad=>.bad
@[simp] theorem Res.ao (a:α) (S:af) (f:α->af->Res β):(Res.ok a S).bind f=f a S:=id rfl
@[simp] theorem Res.bW (c:Str) (S:af) (f:α->af->Res β):(Res.exc c S:Res α).bind f=.exc c S:=id rfl
@[simp] theorem Res.aT (f:α->af->Res β):(Res.bad:Res α).bind f=.bad:=id rfl
theorem az (m:M α) (f:α->M β) (S:af):(m>>=f) S=(m S).bind fun a S'=>f a S':=by
 rw [bQ]; cases m S <;> rfl
@[simp] theorem yO (a:α) (S:af):(pure a:M α) S=.ok a S:=id rfl
@[simp] theorem gg (b:Bool) (m:M α) (S:af):guard b m S=if b=true then m S else .bad:=by cases b <;> rfl
@[simp] theorem ie (a:α) (S:af):opt (some a) S=.ok a S:=id rfl
@[simp] theorem k_ (c:Cell) (S:af):alloc c S=.ok (.loc S.length) (S++[c]):=id rfl
theorem sC (m:M α) (S:af):quiet m S=match m S with|.ok a S'=>.ok a S'|_=>.bad:=rfl
theorem eF {m:M α} {S S':af} {a:α} (h:m S=.ok a S'):quiet m S=.ok a S':=by rw [sC,h]
section
variable (sub:Sub) (cf:Str->List D->M D) (σ:Sg) (S:af)
@[simp] theorem rK (i:Nat):ev sub cf (.v i) σ S=bD σ i S:=id rfl
@[simp] theorem zM (o:Op2) (a b:E):ev sub cf (.bin o a b) σ S=(ev sub cf a σ S).bind fun x S1=>(ev sub cf b σ S1).bind fun y S2=>opD o x y S2:=by
 show (ev sub cf a σ>>=fun x=>ev sub cf b σ>>=fun y=>opD o x y) S=_
 simp only [az]
@[simp] theorem n_ (o:Cm) (a b:E):ev sub cf (.cmp o a b) σ S=(ev sub cf a σ S).bind fun x S1=>(ev sub cf b σ S1).bind fun y S2=>cmD o x y S2:=by
 show (ev sub cf a σ>>=fun x=>ev sub cf b σ>>=fun y=>cmD o x y) S=_
 simp only [az]
@[simp] theorem Ab (o o':Cm) (a b c:E):ev sub cf (.chn o o' a b c) σ S=(ev sub cf a σ S).bind fun x S1=>(ev sub cf b σ S1).bind fun y S2=>(cmD o x y S2).bind fun r S3=>match r with
  | .bl true=>(ev sub cf c σ S3).bind fun z S4=>cmD o' y z S4
  | .bl false=>.ok (.bl false) S3
  | _=>.bad:=by
 show (ev sub cf a σ>>=fun x=>ev sub cf b σ>>=fun y=>cmD o x y>>=fun r=>match r with|.bl true=>ev sub cf c σ>>=fun z=>cmD o' y z|.bl false=>pure (D.bl false)|_=>bad) S=_
 simp only [az]
 congr 1; funext x S1; congr 1; funext y S2; congr 1; funext r S3
 cases r <;> first|rfl|(rename_i b; cases b <;> simp [az])
@[simp] theorem yk (a b:E):ev sub cf (.and a b) σ S=(ev sub cf a σ S).bind fun r S1=>match r with|.bl true=>ev sub cf b σ S1|.bl false=>.ok (.bl false) S1|_=>.bad:=by
 show (ev sub cf a σ>>=fun r=>match r with|.bl true=>ev sub cf b σ|.bl false=>pure (D.bl false)|_=>bad) S=_
 rw [az]; congr 1; funext r S1
 cases r <;> first|rfl|(rename_i b; cases b <;> rfl)
@[simp] theorem uy (a:E):ev sub cf (.neg a) σ S=(ev sub cf a σ S).bind fun r S1=>match r with|.int i=>.ok (.int (-i)) S1|_=>.bad:=by
 show (ev sub cf a σ>>=fun r=>match r with|.int i=>pure (D.int (-i))|_=>bad) S=_
 rw [az]; congr 1; funext r S1; cases r <;> rfl
@[simp] theorem pK (c a b:E):ev sub cf (.ite c a b) σ S=(evT sub cf c σ S).bind fun k S1=>if k=true then ev sub cf a σ S1 else ev sub cf b σ S1:=by
 show (evT sub cf c σ>>=fun k=>if k=true then ev sub cf a σ else ev sub cf b σ) S=_
 rw [az]; congr 1; funext k S1; cases k <;> rfl
@[simp] theorem Cj:evs sub cf .nl σ S=.ok [] S:=id rfl
@[simp] theorem o6 (a r:E):evs sub cf (.cs a r) σ S=(ev sub cf a σ S).bind fun x S1=>(evs sub cf r σ S1).bind fun xs S2=>.ok (x::xs) S2:=by
 show (ev sub cf a σ>>=fun x=>evs sub cf r σ>>=fun xs=>pure (x::xs)) S=_
 simp only [az]; rfl
@[simp] theorem BG (es:E):ev sub cf (.tup es) σ S=(evs sub cf es σ S).bind fun ds S1=>if fits ds.length=true then .ok (.tup ds) S1 else .bad:=by
 show (evs sub cf es σ>>=fun ds=>guard (fits ds.length) (pure (D.tup ds))) S=_
 rw [az]; simp only [gg,yO]
@[simp] theorem rB (es:E):ev sub cf (.lst es) σ S=(evs sub cf es σ S).bind fun ds S1=>if fits ds.length=true then .ok (.loc S1.length) (S1++[.lst ds]) else .bad:=by
 show (evs sub cf es σ>>=fun ds=>guard (fits ds.length) (alloc (.lst ds))) S=_
 rw [az]; simp only [gg,k_]
@[simp] theorem xE (a i:E):ev sub cf (.ix a i) σ S=(ev sub cf a σ S).bind fun x S1=>(ev sub cf i σ S1).bind fun y S2=>ixD x y S2:=by
 show (ev sub cf a σ>>=fun x=>ev sub cf i σ>>=fun y=>ixD x y) S=_
 simp only [az]
noncomputable def ef (e:E) (S:af):Res (Option Int):=if e.aY=true then .ok none S else (ev sub cf e σ S).bind fun d S1=>eY d S1
@[simp] theorem qJ (a lo hi:E):ev sub cf (.sl a lo hi) σ S=(ev sub cf a σ S).bind fun x S1=>(ef sub cf σ lo S1).bind fun l S2=>(ef sub cf σ hi S2).bind fun h S3=>slD x l h S3:=by
 show (ev sub cf a σ>>=fun x=>(if lo.aY=true then pure none else ev sub cf lo σ>>=eY)>>=fun l=>(if hi.aY=true then pure none else ev sub cf hi σ>>=eY)>>=fun h=>slD x l h) S=_
 simp only [az]
 congr 1; funext x S1
 unfold ef
 cases lo.aY <;> cases hi.aY <;> simp [az]
@[simp] theorem xY (f:Str) (es:E):ev sub cf (.call f es) σ S=(evs sub cf es σ S).bind fun ds S1=>cf f ds S1:=by
 show (evs sub cf es σ>>=fun ds=>cf f ds) S=_
 rw [az]
@[simp] theorem yM (b:Bi) (es:E):ev sub cf (.bi b es) σ S=(evs sub cf es σ S).bind fun ds S1=>biD sub b ds S1:=by
 show (evs sub cf es σ>>=fun ds=>biD sub b ds) S=_
 rw [az]
@[simp] theorem nB (m:Me) (o es:E):ev sub cf (.me m o es) σ S=(ev sub cf o σ S).bind fun x S1=>if x.cS S1=true then (evs sub cf es σ S1).bind fun ds S2=>meD m x ds S2 else .bad:=by
 show (ev sub cf o σ>>=fun x=>ig x (evs sub cf es σ>>=fun ds=>meD m x ds)) S=_
 rw [az]; congr 1; funext x S1
 show guard (x.cS S1) (evs sub cf es σ>>=fun ds=>meD m x ds) S1=_
 rw [gg,az]
theorem jx (k:Nat) (el:E) (t:Tg) (it tt:E):ev sub cf (.comp k el t it tt) σ S=(evI sub cf it σ S).bind fun s S1=>(quiet (bq s (fun d=>aN t d (σ++List.replicate k none)>>=fun σ'=>(if tt.aY=true then pure true else evT sub cf tt σ')>>=fun b=>if b=true then ev sub cf el σ'>>=fun y=>pure (some y) else pure none) s.its) S1).bind fun ys S2=>if fits ys.length=true then .ok (.loc S2.length) (S2++[.lst ys]) else .bad:=by
 show (evI sub cf it σ>>=fun s=>quiet (bq s (fun d=>aN t d (σ++List.replicate k none)>>=fun σ'=>(if tt.aY=true then pure true else evT sub cf tt σ')>>=fun b=>if b=true then ev sub cf el σ'>>=fun y=>pure (some y) else pure none) s.its)>>=fun ys=>guard (fits ys.length) (alloc (.lst ys))) S=_
 simp only [az,gg,k_]
@[simp] theorem oH (a b:E):evT sub cf (.and a b) σ S=(evT sub cf a σ S).bind fun k S1=>if k=true then evT sub cf b σ S1 else .ok false S1:=by
 show (evT sub cf a σ>>=fun k=>if k=true then evT sub cf b σ else pure false) S=_
 rw [az]; congr 1; funext k S1; cases k <;> rfl
@[simp] theorem lg (a b:E):evT sub cf (.or a b) σ S=(evT sub cf a σ S).bind fun k S1=>if k=true then .ok true S1 else evT sub cf b σ S1:=by
 show (evT sub cf a σ>>=fun k=>if k=true then pure true else evT sub cf b σ) S=_
 rw [az]; congr 1; funext k S1; cases k <;> rfl
@[simp] theorem xZ (a:E):evT sub cf (.not a) σ S=(evT sub cf a σ S).bind fun k S1=>.ok (!k) S1:=by
 show (evT sub cf a σ>>=fun k=>pure (!k)) S=_
 rw [az]; rfl
@[simp] theorem vn (o:Cm) (a b:E):evT sub cf (.cmp o a b) σ S=(ev sub cf a σ S).bind fun x S1=>(ev sub cf b σ S1).bind fun y S2=>(cmD o x y S2).bind fun r S3=>truth r S3:=by
 show (ev sub cf a σ>>=fun x=>ev sub cf b σ>>=fun y=>cmD o x y>>=fun r=>truth r) S=_
 simp only [az]
@[simp] theorem Au (f:Str) (es:E):evT sub cf (.call f es) σ S=(ev sub cf (.call f es) σ S).bind fun d S1=>truth d S1:=by
 show (ev sub cf (.call f es) σ>>=truth) S=_
 rw [az]
@[simp] theorem BH (b:Bi) (es:E):evT sub cf (.bi b es) σ S=(ev sub cf (.bi b es) σ S).bind fun d S1=>truth d S1:=by
 show (ev sub cf (.bi b es) σ>>=truth) S=_
 rw [az]
@[simp] theorem vL (a:E):evI sub cf (.iSeq a) σ S=(ev sub cf a σ S).bind fun d S1=>srcOf d S1:=by
 show (ev sub cf a σ>>=srcOf) S=_
 rw [az]
@[simp] theorem rD (a:E):evI sub cf (.iEnum a) σ S=(ev sub cf a σ S).bind fun d S1=>(srcOf d S1).bind fun s S2=>.ok { s with its:=num 0 s.its } S2:=by
 show (ev sub cf a σ>>=fun d=>srcOf d>>=fun s=>pure { s with its:=num 0 s.its }) S=_
 simp only [az]; rfl
@[simp] theorem zq (es:E):evI sub cf (.iRng es) σ S=(evs sub cf es σ S).bind fun ds S1=>(opt (bJ ds) S1).bind fun is S2=>.ok ⟨is.map .int,none,[]⟩ S2:=by
 show (evs sub cf es σ>>=fun ds=>opt (bJ ds)>>=fun is=>pure (⟨is.map .int,none,[]⟩:Src)) S=_
 simp only [az]; rfl
@[simp] theorem tK (e:E):exec sub cf (.ret e) σ S=(ev sub cf e σ S).bind fun d S1=>.ok (.rt d) S1:=by
 show (ev sub cf e σ>>=fun d=>pure (Fl.rt d)) S=_
 rw [az]; rfl
@[simp] theorem lT (t:Tg) (e:E):exec sub cf (.set t e) σ S=(ev sub cf e σ S).bind fun d S1=>(aN t d σ S1).bind fun σ' S2=>.ok (.nx σ') S2:=by
 show (ev sub cf e σ>>=fun d=>aN t d σ>>=fun σ'=>pure (Fl.nx σ')) S=_
 simp only [az]; rfl
@[simp] theorem nD (e:E):exec sub cf (.ex e) σ S=(ev sub cf e σ S).bind fun _ S1=>.ok (.nx σ) S1:=by
 show (ev sub cf e σ>>=fun _=>pure (Fl.nx σ)) S=_
 rw [az]; rfl
@[simp] theorem mJ (c:E) (a b:EV.S):exec sub cf (.ite c a b) σ S=(evT sub cf c σ S).bind fun k S1=>if k=true then exec sub cf a σ S1 else exec sub cf b σ S1:=by
 show (evT sub cf c σ>>=fun k=>if k=true then exec sub cf a σ else exec sub cf b σ) S=_
 rw [az]; congr 1; funext k S1; cases k <;> rfl
theorem B8 (t:Tg) (it:E) (b:EV.S):exec sub cf (.forS t it b) σ S=quiet (evI sub cf it σ>>=fun s=>forL s (fun d σ=>aN t d σ>>=fun σ'=>exec sub cf b σ') s.its σ) S:=rfl
theorem Aw (c:E) (b:EV.S):exec sub cf (.whl c b) σ S=quiet (bx (evT sub cf c) (exec sub cf b) dP σ) S:=rfl
@[simp] theorem AQ (c:Str):exec sub cf (.rais c) σ S=.exc c S:=id rfl
noncomputable def ir (b:EV.S) (r:Res Fl):Res Fl:=r.bind fun f S1=>match f with|.nx σ'=>exec sub cf b σ' S1|f=>.ok f S1
@[simp] theorem tP (b:EV.S) (σ':Sg) (S1:af):ir sub cf b (.ok (.nx σ') S1)=exec sub cf b σ' S1:=id rfl
@[simp] theorem rP (b:EV.S) (d:D) (S1:af):ir sub cf b (.ok (.rt d) S1)=.ok (.rt d) S1:=id rfl
@[simp] theorem nT (a b:EV.S):exec sub cf (.seq a b) σ S=ir sub cf b (exec sub cf a σ S):=by
 show (exec sub cf a σ>>=fun f=>match f with|.nx σ'=>exec sub cf b σ'|f=>pure f) S=_
 rw [az]; unfold ir; congr 1; funext f S1; cases f <;> rfl
end
theorem zQ {sub:Sub} {cf:Str->List D->M D} {σ σ':Sg} {S S':af} {a r:EV.S} (h:exec sub cf a σ S=.ok (.nx σ') S'):exec sub cf (.seq a r) σ S=exec sub cf r σ' S':=by
 rw [nT,h,tP]
theorem Bs (σ:Sg) (i:Nat) (S:af):bD σ i S=match σ[i]? with|some (some d)=>.ok d S|_=>.bad:=by
 unfold bD
 cases σ[i]? with
 | none=>rfl
 | some x=>cases x <;> rfl
@[simp] theorem iU (i:Nat) (d:D) (σ:Sg) (S:af):aN (.one i) d σ S=.ok (σ.set i (some d)) S:=id rfl
@[simp] theorem kg (is:List Nat) (ds:List D) (σ:Sg) (S:af):aN (.many is) (.tup ds) σ S=if ds.length=is.length then .ok (bM is ds σ) S else .bad:=by
 show guard (decide (ds.length=is.length)) (pure (bM is ds σ)) S=_
 simp
@[simp] theorem bT (i j:Int) (S:af):opD .add (.int i) (.int j) S=.ok (.int (i+j)) S:=id rfl
@[simp] theorem sf (xs ys:List D) (S:af):opD .add (.tup xs) (.tup ys) S=if fits (xs.length+ys.length)=true then .ok (.tup (xs++ys)) S else .bad:=by
 show guard _ _ S=_
 simp
@[simp] theorem cF (i j:Int) (S:af):opD .sub (.int i) (.int j) S=.ok (.int (i - j)) S:=id rfl
@[simp] theorem Aj (i j:Int) (S:af):opD .mul (.int i) (.int j) S=if (small i||small j)=true then .ok (.int (i * j)) S else .bad:=by
 show guard _ _ S=_
 simp
@[simp] theorem zK (i j:Int) (S:af):opD .fdiv (.int i) (.int j) S=if (decide (0 < j)&&decide (j < 1073741824))=true then .ok (.int (i / j)) S else .bad:=by
 show guard _ _ S=_
 simp
theorem rY (i j:Int) (S:af):opD .pow (.int i) (.int j) S=if (decide (0<=j)&&decide (j<=1000)&&decide (i.natAbs < 2 ^ 64))=true then .ok (.int (i ^ j.toNat)) S else .bad:=by
 show guard _ _ S=_
 simp
@[simp] theorem wK (i j:Int) (S:af):opD .mod (.int i) (.int j) S=if 0 < j then .ok (.int (i % j)) S else .bad:=by
 show guard _ _ S=_
 simp
@[simp] theorem iz {n:Nat} (h:n<=1000):fits n=true:=decide_eq_true (by unfold aO; omega)
@[simp] theorem gK (i j:Int) (S:af):cmD .lt (.int i) (.int j) S=.ok (.bl (decide (i < j))) S:=id rfl
@[simp] theorem kJ (i j:Int) (S:af):cmD .le (.int i) (.int j) S=.ok (.bl (decide (i<=j))) S:=id rfl
@[simp] theorem fX (i j:Int) (S:af):cmD .gt (.int i) (.int j) S=.ok (.bl (decide (j < i))) S:=id rfl
@[simp] theorem iA (i j:Int) (S:af):cmD .ge (.int i) (.int j) S=.ok (.bl (decide (j<=i))) S:=id rfl
theorem oU (x y:D) (S:af):cmD .eq x y S=match eqD deep S x y with|some k=>.ok (.bl k) S|none=>.bad:=by
 show (eqM x y>>=fun b=>pure (D.bl b)) S=_
 rw [az]
 unfold eqM
 cases eqD deep S x y <;> rfl
theorem kC (x y:D) (S:af):cmD .ne x y S=if c6 x y=true then (match eqD deep S x y with|some k=>.ok (.bl (!k)) S|none=>.bad) else .bad:=by
 show guard (c6 x y) (eqM x y>>=fun b=>pure (D.bl (!b))) S=_
 rw [gg,az]
 unfold eqM
 cases eqD deep S x y <;> rfl
@[simp] theorem gy (i j:Int) (S:af):cmD .eq (.int i) (.int j) S=.ok (.bl (i==j)) S:=id rfl
@[simp] theorem jw (i j:Str) (S:af):cmD .eq (.str i) (.str j) S=.ok (.bl (i==j)) S:=id rfl
@[simp] theorem qt (i j:Int) (S:af):cmD .ne (.int i) (.int j) S=.ok (.bl (!(i==j))) S:=id rfl
theorem fQ {l:Nat} {ds:List D} {S:af} (h:S[l]?=some (.lst ds)):items (.loc l) S=.ok ds S:=by
 show (match listAt S l with|some ds=>Res.ok ds S|none=>.bad)=_
 unfold listAt; rw [h]
theorem jR (a:D) (j:Int) (S:af):ixD a (.int j) S=(items a S).bind fun xs S1=>opt (atI xs j) S1:=by
 show (items a>>=fun xs=>opt (atI xs j)) S=_
 rw [az]
@[simp] theorem wA (xs:List D) (j:Int) (S:af):ixD (.tup xs) (.int j) S=opt (atI xs j) S:=by rw [jR]; rfl
@[simp] theorem vf (xs:List D) (j:Int) (S:af):ixD (.fro xs) (.int j) S=opt (atI xs j) S:=by rw [jR]; rfl
theorem Bh {l:Nat} {xs:List D} {j:Int} {S:af} (h:S[l]?=some (.lst xs)):ixD (.loc l) (.int j) S=opt (atI xs j) S:=by rw [jR,fQ h]; rfl
theorem iN {xs:List D} {j:Nat}:atI xs (j:Int)=xs[j]?:=by
 unfold atI ixN
 rw [if_pos (by omega)]
 by_cases h:j < xs.length
 ·rw [if_pos (by omega)]; simp
 ·rw [if_neg (by omega)]; rw [List.getElem?_eq_none (by omega)]; rfl
@[simp] theorem mS (xs:List D):atI xs 0=xs[0]?:=iN (j:=0)
@[simp] theorem jE (sub:Sub) (d:D) (S:af):biD sub .len [d] S=(items d S).bind fun ds S1=>.ok (.int ds.length) S1:=by
 show (items d>>=fun ds=>pure (D.int ds.length)) S=_
 rw [az]; rfl
@[simp] theorem vj (sub:Sub) (t:Ty) (d:D) (S:af):biD sub (.inst t) [d] S=match fN sub S d t with|some k=>.ok (.bl k) S|none=>.bad:=id rfl
@[simp] theorem yR (sub:Sub) (d:D) (S:af):biD sub .tuple [d] S=(items d S).bind fun ds S1=>.ok (.tup ds) S1:=by
 show (items d>>=fun ds=>pure (D.tup ds)) S=_
 rw [az]; rfl
theorem BV (sub:Sub) (d:D) (S:af):biD sub .all [d] S=(items d S).bind fun ds S1=>(opt (cT ds) S1).bind fun bs S2=>.ok (.bl (bs.all id)) S2:=by
 show (items d>>=fun ds=>opt (cT ds)>>=fun bs=>pure (D.bl (bs.all id))) S=_
 simp only [az]; rfl
theorem l_ {l:Nat} {ds:List D} {d:D} {S:af} (h:S[l]?=some (.lst ds)) (hz:ds.length < aO):meD .append (.loc l) [d] S=.ok .non (S.set l (.lst (ds++[d]))):=by
 show bg l (fun ds=>guard (gB ds.length) (put l (.lst (ds++[d])))) S=_
 unfold bg
 rw [h]
 simp [gB,hz,put]
theorem jU {l k:Nat} {ds es:List D} {S:af} (h:S[l]?=some (.lst ds)) (h2:S[k]?=some (.lst es)) (hz:ds.length+es.length<=aO):meD .extend (.loc l) [.loc k] S=.ok .non (S.set l (.lst (ds++es))):=by
 show bg l (fun ds=>bg k fun es=>guard (fits (ds.length+es.length)) (put l (.lst (ds++es)))) S=_
 unfold bg
 rw [h]
 simp only
 rw [h2]
 simp [fits,hz,put]
@[simp] theorem bL (S T:af) (c:Cell):(S++c::T)[S.length]?=some c:=by simp
@[simp] theorem vN (S T:af) (k:Nat):(S++T)[S.length+k]?=T[k]?:=by
 rw [List.getElem?_append_right (by omega)]; congr 1; omega
@[simp] theorem fM (S T:af) (c d:Cell):(S++c::T).set S.length d=S++d::T:=by simp
@[simp] theorem dN (S T:af):(S++T).take S.length=S:=by simp
theorem gk {S T:af} {xs:List D} {d:D} (h:xs.length<=1000000):meD .append (.loc S.length) [d] (S++.lst xs::T)=.ok .non (S++.lst (xs++[d])::T):=by
 rw [l_ (ds:=xs) (bL S T _) (by unfold aO; omega),fM]
theorem jI {s:Src} {S:af} (h:s.l=none\/∃ l,s.l=some l/\S[l]?=some (.lst s.raw)):aK s S=.ok () S:=by
 unfold aK
 rcases h with h|⟨l,h,h2⟩
 ·rw [h]; rfl
 ·rw [h]; unfold listAt; simp [h2]
theorem gR (s:Src) (f:D->Sg->M Fl) (σ:Sg) (S:af):forL s f [] σ S=(aK s S).bind fun _ S1=>.ok (.nx σ) S1:=by
 show (aK s>>=fun _=>pure (Fl.nx σ)) S=_
 rw [az]; rfl
theorem iI (s:Src) (f:D->Sg->M Fl) (d:D) (ds:List D) (σ:Sg) (S:af):forL s f (d::ds) σ S=(aK s S).bind fun _ S1=>(f d σ S1).bind fun fl S2=>match fl with
  | .nx σ'=>forL s f ds σ' S2|.ct σ'=>forL s f ds σ' S2|.bk σ'=>.ok (.nx σ') S2|.rt d=>.ok (.rt d) S2:=by
 show (aK s>>=fun _=>f d σ>>=fun fl=>match fl with|.nx σ'=>forL s f ds σ'|.ct σ'=>forL s f ds σ'|.bk σ'=>pure (Fl.nx σ')|.rt d=>pure (Fl.rt d)) S=_
 simp only [az]
 congr 1; funext _ S1; congr 1; funext fl S2; cases fl <;> rfl
theorem pW (s:Src) (f:D->M (Option D)) (S:af):bq s f [] S=(aK s S).bind fun _ S1=>.ok [] S1:=by
 show (aK s>>=fun _=>pure []) S=_
 rw [az]; rfl
theorem pG (s:Src) (f:D->M (Option D)) (d:D) (ds:List D) (S:af):bq s f (d::ds) S=(aK s S).bind fun _ S1=>(f d S1).bind fun y S2=>(bq s f ds S2).bind fun ys S3=>.ok (match y with|some y=>y::ys|none=>ys) S3:=by
 show (aK s>>=fun _=>f d>>=fun y=>bq s f ds>>=fun ys=>pure (match y with|some y=>y::ys|none=>ys)) S=_
 simp only [az]; rfl
theorem jm {s:Src} {f:D->M (Option D)} {g:D->Option D} {S:af} (hs:aK s S=.ok () S):∀ {its:List D},(∀ d∈its,f d S=.ok (g d) S)->bq s f its S=.ok (its.filterMap g) S
 | [],_=>by rw [pW,hs]; rfl
 | d::ds,h=>by
  rw [pG,hs]
  simp only [Res.ao]
  rw [h d List.mem_cons_self]
  simp only [Res.ao]
  rw [jm hs fun e he=>h e (List.mem_cons_of_mem _ he)]
  simp only [Res.ao,List.filterMap_cons]
  cases g d <;> rfl
theorem ym (S S':af) (d:D):gh S (.ok (.rt d) S')=leave S d S':=rfl
mutual
theorem nE:∀ {d:D} {n m:Nat},n<=m->d.low n=true->d.low m=true
 | .tup ds,n,m,h,q=>gp h q
 | .fro ds,n,m,h,q=>gp h q
 | .loc l,n,m,h,q=>decide_eq_true (Nat.lt_of_lt_of_le (of_decide_eq_true q) h)
 | .non,_,_,_,_=>rfl
 | .bl _,_,_,_,_=>rfl
 | .int _,_,_,_,_=>rfl
 | .str _,_,_,_,_=>rfl
 | .exn _,_,_,_,_=>rfl
theorem gp:∀ {ds:List D} {n m:Nat},n<=m->D.lows n ds=true->D.lows m ds=true
 | [],_,_,_,_=>rfl
 | d::r,n,m,h,q=>by
  rw [D.lows,Bool.and_eq_true] at q ⊢
  exact ⟨nE h q.1,gp h q.2⟩
end
abbrev D.cl (d:D):Prop:=d.low 0=true
theorem bu {S S':af} {d:D} (h:d.cl) (ht:S'.take S.length=S):leave S d S'=.ok d S:=by
 unfold leave
 rw [if_pos ht,if_pos (nE (Nat.zero_le _) h)]
theorem leave_new {S T:af} {ds:List D} {k:Nat} (h:T[k]?=some (.lst ds)) (hc:D.lows 0 ds=true):leave S (.loc (S.length+k)) (S++T)=.ok (.loc S.length) (S++[.lst ds]):=by
 unfold leave
 rw [if_pos (by simp)]
 rw [if_neg (by show ¬ decide (S.length+k < S.length)=true; simp)]
 simp only
 rw [vN,h]
 simp only
 rw [if_pos (show Cell.low S.length (.lst ds)=true from gp (Nat.zero_le _) hc)]
theorem jL {n:Nat}:∀ {ds:List D},D.lows n ds=true ↔ ∀ d∈ds,d.low n=true
 | []=>by simp [D.lows]
 | d::r=>by rw [D.lows,Bool.and_eq_true,jL]; simp
theorem oW {n:Nat} (is:List Int):D.lows n (is.map .int)=true:=jL.mpr fun d h=>by
 obtain ⟨i,_,rfl⟩:=List.mem_map.mp h; rfl
theorem fh {α:Type} {n:Nat} {f:α->D} (hf:∀ a,(f a).low n=true) (l:List α):D.lows n (l.map f)=true:=jL.mpr fun d h=>by
 obtain ⟨i,_,rfl⟩:=List.mem_map.mp h; exact hf i
theorem vt (is:List Bool):cT (is.map .bl)=some is:=by
 induction is with
 | nil=>rfl
 | cons i r ih=>simp [cT,ih]
section
variable {sub:Sub} {cf:Str->List D->M D} {σ:Sg} {S S1:af} {k i:Nat} {el it tt:E} {s:Src}
theorem BS {g:D->D} {p:D->Bool} (hn:tt.aY=false) (hi:evI sub cf it σ S=.ok s S1) (hs:aK s S1=.ok () S1) (hp:∀ d∈s.its,evT sub cf tt ((σ++List.replicate k none).set i (some d)) S1=.ok (p d) S1)
  (hg:∀ d∈s.its,p d=true->ev sub cf el ((σ++List.replicate k none).set i (some d)) S1=.ok (g d) S1) (hz:s.its.length<=aO) :
  ev sub cf (.comp k el (.one i) it tt) σ S=.ok (.loc S1.length) (S1++[.lst ((s.its.filter p).map g)]):=by
 rw [jx,hi]
 simp only [Res.ao]
 have:=jm (s:=s) (f:=fun d=>aN (.one i) d (σ++List.replicate k none)>>=fun σ'=>(if tt.aY=true then pure true else evT sub cf tt σ')>>=fun b=>if b=true then ev sub cf el σ'>>=fun y=>pure (some y) else pure none) (g:=fun d=>if p d=true then some (g d) else none) (S:=S1) hs (its:=s.its) (fun d hd=>by
  simp only [az,iU,Res.ao,hn,Bool.false_eq_true,if_false]
  rw [hp d hd]
  cases q:p d with
  | false=>simp
  | true=>simp [az,hg d hd q])
 rw [eF this]
 have e:s.its.filterMap (fun d=>if p d=true then some (g d) else none)=(s.its.filter p).map g:=by
  induction s.its with
  | nil=>rfl
  | cons a r ih=>cases q:p a <;> simp [q,ih]
 rw [e]
 have hz':((s.its.filter p).map g).length<=aO:=by
  rw [List.length_map]; exact Nat.le_trans (List.length_filter_le _ _) hz
 simp only [Res.ao]
 rw [if_pos (show fits ((s.its.filter p).map g).length=true from decide_eq_true hz')]
theorem sN {is:List Nat} {g:D->D} (hi:evI sub cf it σ S=.ok s S1) (hs:aK s S1=.ok () S1) (hg:∀ d∈s.its,∃ ds,d=.tup ds/\ds.length=is.length/\ev sub cf el (bM is ds (σ++List.replicate k none)) S1=.ok (g d) S1) (hz:s.its.length<=aO) :
  ev sub cf (.comp k el (.many is) it .nl) σ S=.ok (.loc S1.length) (S1++[.lst (s.its.map g)]):=by
 rw [jx,hi]
 simp only [Res.ao]
 have:=jm (s:=s) (f:=fun d=>aN (.many is) d (σ++List.replicate k none)>>=fun σ'=>(if E.aY .nl=true then pure true else evT sub cf .nl σ')>>=fun b=>if b=true then ev sub cf el σ'>>=fun y=>pure (some y) else pure none) (g:=fun d=>some (g d)) (S:=S1) hs (its:=s.its) (fun d hd=>by
  obtain ⟨ds,rfl,hl,hd⟩:=hg d hd
  simp only [az,kg,hl,if_true,Res.ao]
  show (ev sub cf el (bM is ds (σ++List.replicate k none))>>=fun y=>pure (some y)) S1=_
  rw [az,hd]; rfl)
 rw [eF this]
 have e:s.its.filterMap (fun d=>some (g d))=s.its.map g:=by rw [<- List.filterMap_eq_map]; rfl
 rw [e]
 simp [fits,hz]
end
theorem ku {l:Nat} {ds:List D} {S:af} (h:S[l]?=some (.lst ds)):srcOf (.loc l) S=.ok ⟨ds,some l,ds⟩ S:=by
 show (items (.loc l)>>=fun ds=>pure (⟨ds,some l,ds⟩:Src)) S=_
 rw [az,fQ h]; rfl
theorem lX {sub:Sub} {S:af} {α:Type} (l:List α) (g:α->Bool):biD sub .all [.loc S.length] (S++[.lst (l.map fun a=>.bl (g a))])=.ok (.bl (l.all g)) (S++[.lst (l.map fun a=>.bl (g a))]):=by
 rw [BV,fQ (ds:=l.map fun a=>D.bl (g a)) (bL S [] _)]
 simp only [Res.ao]
 rw [show cT (l.map fun a=>D.bl (g a))=some (l.map g) from by rw [<- vt,List.map_map]; rfl]
 simp [List.all_map]
section
variable {sub:Sub} {cf:Str->List D->M D} {σ:Sg} {S S1 S2:af} {t:Tg} {it:E} {b:EV.S} {s:Src} {fl:Fl}
noncomputable def bE (sub:Sub) (cf:Str->List D->M D) (t:Tg) (b:EV.S):D->Sg->M Fl:=fun d σ=>aN t d σ>>=fun σ'=>exec sub cf b σ'
theorem gr (i:Nat) (b:EV.S) (d:D) (σ:Sg) (S:af):bE sub cf (.one i) b d σ S=exec sub cf b (σ.set i (some d)) S:=by
 unfold bE; rw [az]; rfl
theorem CF (is:List Nat) (b:EV.S) (ds:List D) (σ:Sg) (S:af) (h:ds.length=is.length):bE sub cf (.many is) b (.tup ds) σ S=exec sub cf b (bM is ds σ) S:=by
 unfold bE; rw [az,kg,if_pos h]; rfl
theorem gZ (hi:evI sub cf it σ S=.ok s S1) (hf:forL s (bE sub cf t b) s.its σ S1=.ok fl S2):exec sub cf (.forS t it b) σ S=.ok fl S2:=by
 rw [B8]
 apply eF
 rw [az,hi]
 exact hf
end
section
variable {sub:Sub} {cf:Str->List D->M D} {s:Src} {i j l:Nat} {e:E} {g:D->D}
noncomputable def ee (i:Nat) (its:List D) (σ:Sg):Sg:=match its.getLast? with
 | some d=>σ.set i (some d)
 | none=>σ
@[simp] theorem CH (i:Nat) (σ:Sg):ee i [] σ=σ:=id rfl
theorem yg (i:Nat) (d:D) (its:List D) (σ:Sg):ee i (d::its) σ=ee i its (σ.set i (some d)):=by
 unfold ee
 rw [List.getLast?_cons]
 cases q:its.getLast? with
 | none=>rfl
 | some e=>simp [List.set_set]
theorem gu {α:Type} {S:List α} {l:Nat} {c:α} (h:S[l]?=some c):S.set l c=S:=by
 apply List.ext_getElem?
 intro k
 rw [List.getElem?_set]
 split
 ·rename_i e; subst e
  split
  ·exact h.symm
  ·rename_i h2; exact absurd (List.getElem?_eq_some_iff.mp h).1 h2
 ·rfl
theorem get_set {α:Type} {S:List α} {l:Nat} {c d:α} (h:S[l]?=some c):(S.set l d)[l]?=some d:=by
 rw [List.getElem?_set_self (List.getElem?_eq_some_iff.mp h).1]
theorem tE {σ:Sg} {S:af} {xs:List D} {d:D} (hj:σ[j]?=some (some (.loc l))) (hS:S[l]?=some (.lst xs)) (he:ev sub cf e σ S=.ok d S) (hz:xs.length < aO) :
  exec sub cf (.ex (.me .append (.v j) (.cs e .nl))) σ S=.ok (.nx σ) (S.set l (.lst (xs++[d]))):=by
 have hv:bD σ j S=.ok (.loc l) S:=by rw [Bs,hj]
 have hL:(D.loc l).cS S=true:=by show (match S[l]? with|some (.lst _)=>true|_=>false)=true; rw [hS]
 simp only [nD,nB,rK,hv,Res.ao,hL,if_true,o6,he,Cj,l_ hS hz]
theorem qA {α:Type} {f g:α->D} (hij:i≠j):∀ {ks:List α} {σ:Sg} {S:af} {xs:List D},σ[j]?=some (some (.loc l))->S[l]?=some (.lst xs)->(∀ ys,aK s (S.set l (.lst ys))=.ok () (S.set l (.lst ys))) ->
  (∀ a∈ks,∀ ys,ev sub cf e (σ.set i (some (f a))) (S.set l (.lst ys))=.ok (g a) (S.set l (.lst ys)))->xs.length+ks.length<=aO ->
  forL s (bE sub cf (.one i) (.ex (.me .append (.v j) (.cs e .nl)))) (ks.map f) σ S=.ok (.nx (ee i (ks.map f) σ)) (S.set l (.lst (xs++ks.map g)))
 | [],σ,S,xs,h1,h2,h3,h4,h5=>by
  have:=h3 xs
  rw [gu h2] at this
  rw [List.map_nil,gR,this]
  simp [gu h2]
 | d::ks,σ,S,xs,h1,h2,h3,h4,h5=>by
  have hst:=h3 xs
  rw [gu h2] at hst
  rw [List.map_cons,iI,hst]
  simp only [Res.ao,gr]
  have h1':(σ.set i (some (f d)))[j]?=some (some (.loc l)):=by rw [List.getElem?_set_ne hij]; exact h1
  have hd:=h4 d List.mem_cons_self xs
  rw [gu h2] at hd
  rw [tE h1' h2 hd (by simp at h5; omega)]
  simp only [Res.ao]
  rw [qA hij (xs:=xs++[g d]) h1' (get_set h2) (fun ys=>by rw [List.set_set]; exact h3 ys)
   (fun a ha ys=>by rw [List.set_set,List.set_set]; exact h4 a (List.mem_cons_of_mem _ ha) ys) (by simp at h5 ⊢; omega)]
  rw [yg,List.set_set,List.map_cons,List.append_assoc]
  rfl
end
theorem zv {i:Nat} {its:List D} {σ:Sg} (h:i < σ.length):∃ x,ee i its σ=σ.set i x:=by
 unfold ee
 cases its.getLast? with
 | some d=>exact ⟨_,rfl⟩
 | none=>exact ⟨σ[i],(gu (List.getElem?_eq_getElem h)).symm⟩
theorem A1 {i:Int} (h1:-1000000000<=i) (h2:i<=1000000000):near i=true:=decide_eq_true ⟨by omega,by omega⟩
theorem yy (j:Int):rng 0 j 1=(List.range j.toNat).map fun (k:Nat)=>(k:Int):=by
 unfold rng
 rw [if_pos (by decide)]
 have:(j - 0+1 - 1) / 1=j:=by rw [Int.ediv_one]; omega
 rw [this]
 simp
theorem uR {j:Int} (h1:-1000000000<=j) (h2:j<=1000000000):bJ [.int j]=some ((List.range j.toNat).map fun (k:Nat)=>(k:Int)):=by
 show (if near j=true then some (rng 0 j 1) else none)=_
 rw [if_pos (A1 h1 h2),yy]
theorem i7 {sub:Sub} {cf:Str->List D->M D} {i j l:Nat} {it e:E} {σ:Sg} {S S1:af} {xs:List D} {α:Type} {ks:List α} {f g:α->D} {o:Option Nat} {raw:List D}
  (hit:evI sub cf it σ S=.ok ⟨ks.map f,o,raw⟩ S1) (hj:σ[j]?=some (some (.loc l))) (hS:S1[l]?=some (.lst xs)) (hij:i≠j) (hi:i < σ.length) (hst:∀ ys,aK ⟨ks.map f,o,raw⟩ (S1.set l (.lst ys))=.ok () (S1.set l (.lst ys)))
  (he:∀ a∈ks,∀ ys,ev sub cf e (σ.set i (some (f a))) (S1.set l (.lst ys))=.ok (g a) (S1.set l (.lst ys))) (hz:xs.length+ks.length<=aO) :
  ∃ x,exec sub cf (.forS (.one i) it (.ex (.me .append (.v j) (.cs e .nl)))) σ S=.ok (.nx (σ.set i x)) (S1.set l (.lst (xs++ks.map g))):=by
 obtain ⟨x,hx⟩:=zv (i:=i) (its:=ks.map f) (σ:=σ) hi
 refine ⟨x,?_⟩
 rw [<- hx]
 exact gZ hit (qA hij hj hS hst he hz)
theorem xD {S:af} {a b:Nat} {xs ys:List D} (ha:S[a]?=some (.lst xs)) (hb:S[b]?=some (.lst ys)):eqD deep S (.loc a) (.loc b)=if xs.length=ys.length then bA (eqD 11 S) xs ys else some false:=by
 have e1:listAt S a=some xs:=by unfold listAt; rw [ha]
 have e2:listAt S b=some ys:=by unfold listAt; rw [hb]
 show (match listAt S a,listAt S b with|some xs,some ys=>if xs.length=ys.length then bA (eqD 11 S) xs ys else some false|_,_=>none)=_
 rw [e1,e2]
theorem nR {S:af} {a b:Nat} {xs:List D} (ha:S[a]?=some (.lst xs)) (hb:S[b]?=some (.lst [])):cmD .eq (.loc a) (.loc b) S=.ok (.bl xs.isEmpty) S:=by
 rw [oU,xD ha hb]
 cases xs <;> simp [bA]
theorem lJ {s:Src} {f:D->Sg->M Fl}:∀ {its:List D} (I:Nat->Sg->af->Prop) {σ:Sg} {S:af},I 0 σ S->(∀ i σ T,I i σ T->aK s T=.ok () T) ->
  (∀ i (h:i < its.length) σ T,I i σ T->∃ σ' T',f its[i] σ T=.ok (.nx σ') T'/\I (i+1) σ' T')->∃ σ' T',forL s f its σ S=.ok (.nx σ') T'/\I its.length σ' T'
 | [],I,σ,S,h0,h1,_=>⟨σ,S,by rw [gR,h1 0 σ S h0]; rfl,h0⟩
 | d::ds,I,σ,S,h0,h1,h2=>by
  obtain ⟨σ1,T1,e1,i1⟩:=h2 0 (by simp) σ S h0
  obtain ⟨σ2,T2,e2,i2⟩:=lJ (its:=ds) (fun i=>I (i+1)) i1 (fun i=>h1 (i+1)) fun i hi=>h2 (i+1) (by simpa using hi)
  refine ⟨σ2,T2,?_,i2⟩
  rw [iI,h1 0 σ S h0]
  simp only [Res.ao]
  rw [show f d σ S=.ok (.nx σ1) T1 from e1]
  exact e2
theorem dm {sub:Sub} {cf:Str->List D->M D} {t:Tg} {it:E} {b:EV.S} {σ:Sg} {S S1:af} {s:Src} (I:Nat->Sg->af->Prop) (hi:evI sub cf it σ S=.ok s S1) (h0:I 0 σ S1) (h1:∀ i σ T,I i σ T->aK s T=.ok () T)
  (h2:∀ i (h:i < s.its.length) σ T,I i σ T->∃ σ' T',bE sub cf t b s.its[i] σ T=.ok (.nx σ') T'/\I (i+1) σ' T'):∃ σ' T',exec sub cf (.forS t it b) σ S=.ok (.nx σ') T'/\I s.its.length σ' T':=by
 obtain ⟨σ',T',e,i⟩:=lJ I h0 h1 h2
 exact ⟨σ',T',gZ hi e,i⟩
theorem p6 {α:Type} {s:Src} {fn:D->M (Option D)} {f:α->D} {g:α->Option D} {S:af} (hs:aK s S=.ok () S):∀ {ks:List α},(∀ a∈ks,fn (f a) S=.ok (g a) S)->bq s fn (ks.map f) S=.ok (ks.filterMap g) S
 | [],_=>by rw [List.map_nil,pW,hs]; rfl
 | d::ds,h=>by
  rw [List.map_cons,pG,hs]
  simp only [Res.ao]
  rw [h d List.mem_cons_self]
  simp only [Res.ao]
  rw [p6 hs fun e he=>h e (List.mem_cons_of_mem _ he)]
  simp only [Res.ao,List.filterMap_cons]
  cases g d <;> rfl
theorem dX {sub:Sub} {cf:Str->List D->M D} {σ:Sg} {S S1:af} {k i:Nat} {el it:E} {α:Type} {ks:List α} {f g:α->D} {o:Option Nat} {raw:List D} (hi:evI sub cf it σ S=.ok ⟨ks.map f,o,raw⟩ S1) (hs:aK ⟨ks.map f,o,raw⟩ S1=.ok () S1)
  (hg:∀ a∈ks,ev sub cf el ((σ++List.replicate k none).set i (some (f a))) S1=.ok (g a) S1) (hz:ks.length<=aO) :
  ev sub cf (.comp k el (.one i) it .nl) σ S=.ok (.loc S1.length) (S1++[.lst (ks.map g)]):=by
 rw [jx,hi]
 simp only [Res.ao]
 have:=p6 (s:=⟨ks.map f,o,raw⟩) (f:=f) (fn:=fun d=>aN (.one i) d (σ++List.replicate k none)>>=fun σ'=>(if E.aY .nl=true then pure true else evT sub cf .nl σ')>>=fun b=>if b=true then ev sub cf el σ'>>=fun y=>pure (some y) else pure none) (g:=fun a=>some (g a)) (S:=S1) hs (ks:=ks) (fun d hd=>by
  simp only [az,iU,Res.ao]
  show (ev sub cf el ((σ++List.replicate k none).set i (some (f d)))>>=fun y=>pure (some y)) S1=_
  rw [az,hg d hd]; rfl)
 rw [eF this]
 have e:ks.filterMap (fun d=>some (g d))=ks.map g:=by rw [<- List.filterMap_eq_map]; rfl
 rw [e]
 simp only [Res.ao]
 rw [if_pos (show fits (ks.map g).length=true from decide_eq_true (by rw [List.length_map]; exact hz))]
section
variable {sub:Sub} {cf:Str->List D->M D} {σ:Sg} {S:af}
theorem l5 (n d m:Nat):sIx n d (some (m:Int))=min m n:=by
 show (if (m:Int) < 0 then ((m:Int)+(n:Int)).toNat else min (m:Int).toNat n)=_
 rw [if_neg (by omega)]; simp
theorem kU {f:D->D->Option Bool}:∀ {xs:List D},(∀ x∈xs,f x x=some true)->bA f xs xs=some true
 | [],_=>rfl
 | x::r,h=>by
  show (match f x x,bA f r r with|some a,some b=>some (a&&b)|_,_=>none)=_
  rw [h x List.mem_cons_self,kU fun y hy=>h y (List.mem_cons_of_mem _ hy)]
  rfl
theorem cQ (n:Nat) (i:Int):eqD (n+1) S (.int i) (.int i)=some true:=by
 show some (i==i)=_
 simp
theorem nK (n:Nat) (is:List Int):eqD (n+2) S (.tup (is.map .int)) (.tup (is.map .int))=some true:=by
 show (bA (eqD (n+1) S) (is.map .int) (is.map .int)).map (fun r=>r&&((is.map D.int).length==(is.map D.int).length))=_
 rw [kU fun x hx=>by obtain ⟨i,_,rfl⟩:=List.mem_map.mp hx; exact cQ n i]
 simp
end
theorem mU (ds:List D):∀ (k i:Nat) (h:i < (num k ds).length),(num k ds)[i]=.tup [.int ((k+i:Nat):Int),ds[i]'(by have:(num k ds).length=ds.length:=(by clear h; induction ds generalizing k with|nil=>rfl|cons _ _ ih=>simp [num,ih]); omega)]:=by
 induction ds with
 | nil=>intro k i h; simp [num] at h
 | cons d r ih =>
  intro k i h
  cases i with
  | zero=>simp [num]
  | succ i =>
   simp only [num,List.getElem_cons_succ]
   rw [ih (k+1) i (by simpa [num] using h)]
   congr 3
   omega
theorem gG:∀ (ds:List D) (k:Nat),(num k ds).length=ds.length
 | [],_=>rfl
 | _::r,k=>by simp [num,gG r]
end EV

namespace GO
open PySem EV
theorem iu {S:af} {l:Nat} {ds:List D} (h:S[l]?=some (.lst ds)):(D.loc l).cS S=true:=by show (match S[l]? with|some (.lst _)=>true|_=>false)=true; rw [h]
theorem oz (T:af) (ds:List D):(D.loc T.length).cS (T++[.lst ds])=true:=iu (ds:=ds) (by simp)
theorem fj (T:af) (ds:List D) (G:af):(D.loc T.length).cS (T++.lst ds::G)=true:=iu (ds:=ds) (by simp)
theorem BJ (T:af) (ds:List D) (G U:af):(D.loc T.length).cS ((T++.lst ds::G)++U)=true:=by rw [List.append_assoc,List.cons_append]; exact fj _ _ _
section
variable {sub:Sub} {cf:Str->List D->M D} {σ σ1:Sg} {S S1 S2 S3:af} {R:Res D} {RF:Res Fl} {x y z d:D} {ds:List D} {a b c r es:E} {u v w:EV.S}
theorem r_v {i:Nat} (h:bD σ i S=.ok d S):ev sub cf (.v i) σ S=.ok d S:=h
theorem r_c:ev sub cf (.c d) σ S=.ok d S:=id rfl
theorem aC {o:Op2} (ha:ev sub cf a σ S=.ok x S1) (hb:ev sub cf b σ S1=.ok y S2) (h:opD o x y S2=R):ev sub cf (.bin o a b) σ S=R:=by rw [zM,ha,Res.ao,hb,Res.ao,h]
theorem aL {o:Cm} (ha:ev sub cf a σ S=.ok x S1) (hb:ev sub cf b σ S1=.ok y S2) (h:cmD o x y S2=R):ev sub cf (.cmp o a b) σ S=R:=by rw [n_,ha,Res.ao,hb,Res.ao,h]
theorem eo (ha:ev sub cf a σ S=.ok (.bl true) S1) (hb:ev sub cf b σ S1=R):ev sub cf (.and a b) σ S=R:=by rw [yk,ha]; exact hb
theorem e9 {i:Int} (ha:ev sub cf a σ S=.ok (.int i) S1):ev sub cf (.neg a) σ S=.ok (.int (-i)) S1:=by rw [uy,ha]; rfl
theorem qp (hc:evT sub cf c σ S=.ok true S1) (ha:ev sub cf a σ S1=R):ev sub cf (.ite c a b) σ S=R:=by rw [pK,hc,Res.ao,if_pos rfl,ha]
theorem mz (hc:evT sub cf c σ S=.ok false S1) (hb:ev sub cf b σ S1=R):ev sub cf (.ite c a b) σ S=R:=by rw [pK,hc,Res.ao,if_neg (by decide),hb]
theorem ah:evs sub cf .nl σ S=.ok [] S:=id rfl
theorem aa (ha:ev sub cf a σ S=.ok x S1) (hr:evs sub cf r σ S1=.ok ds S2):evs sub cf (.cs a r) σ S=.ok (x::ds) S2:=by rw [o6,ha,Res.ao,hr,Res.ao]
theorem bK (hs:evs sub cf es σ S=.ok ds S1) (hz:fits ds.length=true):ev sub cf (.tup es) σ S=.ok (.tup ds) S1:=by rw [BG,hs,Res.ao,if_pos hz]
theorem bP (hs:evs sub cf es σ S=.ok ds S1) (hz:fits ds.length=true):ev sub cf (.lst es) σ S=.ok (.loc S1.length) (S1++[.lst ds]):=by rw [rB,hs,Res.ao,if_pos hz]
theorem ay (ha:ev sub cf a σ S=.ok x S1) (hb:ev sub cf b σ S1=.ok y S2) (h:ixD x y S2=R):ev sub cf (.ix a b) σ S=R:=by rw [xE,ha,Res.ao,hb,Res.ao,h]
theorem sM {lo hi:E} {p q:Option Int} (ha:ev sub cf a σ S=.ok x S1) (hl:ef sub cf σ lo S1=.ok p S2) (hh:ef sub cf σ hi S2=.ok q S3) (h:slD x p q S3=R):ev sub cf (.sl a lo hi) σ S=R:=by
 rw [qJ,ha,Res.ao,hl,Res.ao,hh,Res.ao,h]
theorem aD {f:Str} (hs:evs sub cf es σ S=.ok ds S1) (h:cf f ds S1=R):ev sub cf (.call f es) σ S=R:=by rw [xY,hs,Res.ao,h]
theorem aF {o:Bi} (hs:evs sub cf es σ S=.ok ds S1) (h:biD sub o ds S1=R):ev sub cf (.bi o es) σ S=R:=by rw [yM,hs,Res.ao,h]
theorem dh {m:Me} {l:Nat} (ha:ev sub cf a σ S=.ok (.loc l) S1) (hs:evs sub cf es σ S1=.ok ds S2) (h:meD m (.loc l) ds S2=R) (hL:(D.loc l).cS S1=true:=by first|assumption|exact oz _ _|exact fj _ _ _|exact iu (by assumption)):ev sub cf (.me m a es) σ S=R:=by
 rw [nB,ha,Res.ao,if_pos hL,hs,Res.ao,h]
theorem kc {k:Bool} (h:ev sub cf a σ S=.ok (.bl k) S1) (ht:evT sub cf a σ S=(ev sub cf a σ S).bind fun d S1=>truth d S1):evT sub cf a σ S=.ok k S1:=by rw [ht,h]; rfl
theorem bI {f:Str} {k:Bool} (h:ev sub cf (.call f es) σ S=.ok (.bl k) S1):evT sub cf (.call f es) σ S=.ok k S1:=kc h (Au _ _ _ _ _ _)
theorem fP {o:Bi} {k:Bool} (h:ev sub cf (.bi o es) σ S=.ok (.bl k) S1):evT sub cf (.bi o es) σ S=.ok k S1:=kc h (BH _ _ _ _ _ _)
theorem aG {o:Cm} {k:Bool} (h:ev sub cf (.cmp o a b) σ S=.ok (.bl k) S1):evT sub cf (.cmp o a b) σ S=.ok k S1:=kc h (by
 rw [vn,n_]; cases ev sub cf a σ S <;> simp [Res.bind]; rename_i q Q; cases ev sub cf b σ Q <;> simp [Res.bind])
theorem gm {k:Bool} (ha:evT sub cf a σ S=.ok true S1) (hb:evT sub cf b σ S1=.ok k S2):evT sub cf (.and a b) σ S=.ok k S2:=by rw [oH,ha,Res.ao,if_pos rfl,hb]
theorem jO (ha:evT sub cf a σ S=.ok false S1):evT sub cf (.and a b) σ S=.ok false S1:=by rw [oH,ha,Res.ao,if_neg (by decide)]
theorem je (ha:evT sub cf a σ S=.ok true S1):evT sub cf (.or a b) σ S=.ok true S1:=by rw [lg,ha,Res.ao,if_pos rfl]
theorem bS {k:Bool} (ha:evT sub cf a σ S=.ok false S1) (hb:evT sub cf b σ S1=.ok k S2):evT sub cf (.or a b) σ S=.ok k S2:=by rw [lg,ha,Res.ao,if_neg (by decide),hb]
theorem bw {k:Bool} (ha:evT sub cf a σ S=.ok k S1):evT sub cf (.not a) σ S=.ok (!k) S1:=by rw [xZ,ha,Res.ao]
theorem t_k {k k':Bool} (h:evT sub cf a σ S=.ok k' S1) (e:k'=k):evT sub cf a σ S=.ok k S1:=by rw [h,e]
theorem zj (h:Nat.ble ds.length 1000=true):fits ds.length=true:=iz (Nat.le_of_ble_eq_true h)
theorem ia {i j:Int} (h:0 < j):opD .mod (.int i) (.int j) S=.ok (.int (i % j)) S:=by rw [wK,if_pos h]
theorem l8 {i j:Int} (h:(small i||small j)=true):opD .mul (.int i) (.int j) S=.ok (.int (i * j)) S:=by rw [Aj,if_pos h]
theorem qk {i:Int} (h:-1000000000000 < i/\i < 1000000000000):small i=true:=decide_eq_true ⟨by omega,by omega⟩
theorem cH {i j:Int} (h:-1000000000000 < i/\i < 1000000000000):opD .mul (.int i) (.int j) S=.ok (.int (i * j)) S:=l8 (by rw [qk h,Bool.true_or])
theorem d7 {i j:Int} (h:-1000000000000 < j/\j < 1000000000000):opD .mul (.int i) (.int j) S=.ok (.int (i * j)) S:=l8 (by rw [qk h,Bool.or_true])
theorem iW {i j:Int} (h:0 < j/\j < 1073741824):opD .fdiv (.int i) (.int j) S=.ok (.int (i / j)) S:=by rw [zK,if_pos (by rw [decide_eq_true h.1,decide_eq_true h.2]; rfl)]
theorem iV {xs ys:List D} (h:fits (xs.length+ys.length)=true):opD .add (.tup xs) (.tup ys) S=.ok (.tup (xs++ys)) S:=by rw [sf,if_pos h]
theorem aA {xs:List D} {j:Int} (h:atI xs j=some d):ixD (.tup xs) (.int j) S=.ok d S:=by rw [wA,h,ie]
theorem pA {xs:List D} {j:Int} (h:atI xs j=some d):ixD (.fro xs) (.int j) S=.ok d S:=by rw [vf,h,ie]
theorem Bt {xs:List D} {j:Int} {l:Nat} (hl:S[l]?=some (.lst xs)) (h:atI xs j=some d):ixD (.loc l) (.int j) S=.ok d S:=by rw [Bh hl,h,ie]
theorem cz {xs:List D}:biD sub .len [.tup xs] S=.ok (.int xs.length) S:=by rw [jE]; rfl
theorem o7 {xs:List D}:biD sub .len [.fro xs] S=.ok (.int xs.length) S:=by rw [jE]; rfl
theorem iD {xs:List D} {l:Nat} (hl:S[l]?=some (.lst xs)):biD sub .len [.loc l] S=.ok (.int xs.length) S:=by rw [jE,fQ hl]; rfl
theorem bX {xs:List D} {l:Nat} (hl:S[l]?=some (.lst xs)):biD sub .tuple [.loc l] S=.ok (.tup xs) S:=by rw [yR,fQ hl]; rfl
theorem fC {t:Ty} {k:Bool} (h:fN sub S x t=some k):biD sub (.inst t) [x] S=.ok (.bl k) S:=by rw [vj,h]
theorem bO {α:Type} (T:List α) (c:α):(T++[c])[T.length]?=some c:=by simp
theorem lW {T:af} {xs:List D} {j:Int} (h:atI xs j=some d):ixD (.loc T.length) (.int j) (T++[.lst xs])=.ok d (T++[.lst xs]):=Bt (bO T _) h
theorem gi {T:af} {xs:List D}:biD sub .tuple [.loc T.length] (T++[.lst xs])=.ok (.tup xs) (T++[.lst xs]):=bX (bO T _)
theorem rN {T:af} {xs:List D}:biD sub .len [.loc T.length] (T++[.lst xs])=.ok (.int xs.length) (T++[.lst xs]):=iD (bO T _)
theorem cu {s:Src} (ha:ev sub cf a σ S=.ok x S1) (h:srcOf x S1=.ok s S2):evI sub cf (.iSeq a) σ S=.ok s S2:=by rw [vL,ha,Res.ao,h]
theorem nP {is:List Int} (hs:evs sub cf es σ S=.ok ds S1) (h:bJ ds=some is):evI sub cf (.iRng es) σ S=.ok ⟨is.map .int,none,[]⟩ S1:=by rw [zq,hs,Res.ao,h,ie,Res.ao]
theorem dj {j:Int} {k:Nat} {f:Nat->D} (hs:evs sub cf es σ S=.ok [.int j] S1) (hj:j=(k:Int)) (hk:k<=1000000) (hf:∀ i:Nat,f i=.int (i:Int)):evI sub cf (.iRng es) σ S=.ok ⟨(List.range k).map f,none,[]⟩ S1:=by
 subst hj
 rw [nP hs (uR (by omega) (by omega)),Int.toNat_natCast,List.map_map,show (D.int ∘ fun k:Nat=>(k:Int))=f from funext fun i=>(hf i).symm]
theorem aB {i:Nat} (h:ev sub cf a σ S=.ok d S1):exec sub cf (.set (.one i) a) σ S=.ok (.nx (σ.set i (some d))) S1:=by rw [lT,h,Res.ao,iU,Res.ao]
theorem lz {is:List Nat} (h:ev sub cf a σ S=.ok (.tup ds) S1) (hl:ds.length=is.length):exec sub cf (.set (.many is) a) σ S=.ok (.nx (bM is ds σ)) S1:=by rw [lT,h,Res.ao,kg,if_pos hl,Res.ao]
theorem c9 (h:ev sub cf a σ S=.ok d S1):exec sub cf (.ex a) σ S=.ok (.nx σ) S1:=by rw [nD,h,Res.ao]
theorem aI (h:ev sub cf a σ S=.ok d S1):exec sub cf (.ret a) σ S=.ok (.rt d) S1:=by rw [tK,h,Res.ao]
theorem bU (hc:evT sub cf c σ S=.ok true S1) (h:exec sub cf u σ S1=RF):exec sub cf (.ite c u v) σ S=RF:=by rw [mJ,hc,Res.ao,if_pos rfl,h]
theorem aJ (hc:evT sub cf c σ S=.ok false S1) (h:exec sub cf v σ S1=RF):exec sub cf (.ite c u v) σ S=RF:=by rw [mJ,hc,Res.ao,if_neg (by decide),h]
theorem aj (hu:exec sub cf u σ S=.ok (.nx σ1) S1) (h:exec sub cf v σ1 S1=RF):exec sub cf (.seq u v) σ S=RF:=(zQ hu).trans h
theorem cI (hu:exec sub cf u σ S=.ok (.rt d) S1):exec sub cf (.seq u v) σ S=.ok (.rt d) S1:=by rw [nT,hu,rP]
theorem aH:exec sub cf .skip σ S=.ok (.nx σ) S:=id rfl
theorem x_call {P:Prg} {n:Nat} {f:Str} {F:Fn} (hP:P.lookup f=some F) (hl:ds.length=F.par) (hb:exec sub (ai sub P n) F.body (frame F ds) S=.ok (.rt d) S1) (h:leave S d S1=R):ai sub P (n+1) f ds S=R:=by
 rw [ju hP hl,hb,ym,h]
theorem jJ {s:Src} {f:D->Sg->M Fl} {ds:List D} (hs:aK s S=.ok () S) (hb:f d σ S=.ok (.nx σ1) S1) (h:forL s f ds σ1 S1=RF):forL s f (d::ds) σ S=RF:=by
 rw [iI,hs,Res.ao,hb]; exact h
theorem dD {i:Nat} (h:exec sub cf u (σ.set i (some d)) S=RF):bE sub cf (.one i) u d σ S=RF:=(gr i u d σ S).trans h
theorem qj {is:List Nat} (hl:ds.length=is.length) (h:exec sub cf u (bM is ds σ) S=RF):bE sub cf (.many is) u (.tup ds) σ S=RF:=(CF is u ds σ S hl).trans h
theorem vO {P:Prg} {n:Nat} {f:Str} {F:Fn} (hP:P.lookup f=some F) (hl:ds.length=F.par) (hb:exec sub (ai sub P n) F.body (frame F ds) S=RF) (h:∃ S',RF=.ok (.rt d) S'/\S'.take S.length=S) (hc:d.cl):ai sub P (n+1) f ds S=.ok d S:=by
 obtain ⟨S',e,ht⟩:=h
 exact x_call hP hl (hb.trans e) (bu hc ht)
end
end GO

namespace RL
open PySem EV GO
noncomputable def jf:Fn:=⟨3,3,(.seq (.ite (.or (.not (.bi (.inst .int) (.cs (.v 0) .nl))) (.bi (.inst .bool) (.cs (.v 0) .nl)))
  (.ret (.c (.bl false)))
  .skip)
 (.ret (.chn .le .le (.v 1) (.v 0) (.v 2))))⟩
noncomputable def o9:Fn:=⟨1,1,(.ret (.call "is_whole" (.cs (.v 0) (.cs (.c (.int 0)) (.cs (.bin .sub (.c (.int 9973)) (.c (.int 1))) .nl)))))⟩
noncomputable def gT:Fn:=⟨3,3,(.ret (.and (.bi (.inst .tuple) (.cs (.v 0) .nl)) (.chn .le .le (.v 1) (.bi .len (.cs (.v 0) .nl)) (.v 2))))⟩
noncomputable def qh:Fn:=⟨1,1,(.ret (.and (.call "is_row" (.cs (.v 0) (.cs (.c (.int 2)) (.cs (.c (.int 2)) .nl)))) (.and (.call "is_whole" (.cs (.ix (.v 0) (.c (.int 0))) (.cs (.c (.int 1)) (.cs (.c (.int 3)) .nl)))) (.call "is_whole" (.cs (.ix (.v 0) (.c (.int 1))) (.cs (.c (.int 1)) (.cs (.c (.int 4)) .nl)))))))⟩
noncomputable def l0:Fn:=⟨1,1,(.ret (.and (.call "is_row" (.cs (.v 0) (.cs (.c (.int 1)) (.cs (.c (.int 3)) .nl)))) (.bi .all (.cs (.comp 2 (.call "is_crew" (.cs (.v 2) .nl)) (.one 2) (.iSeq (.v 0)) .nl) .nl))))⟩
noncomputable def nC:Fn:=⟨3,4,(.seq (.ite (.or (.not (.call "is_row" (.cs (.v 0) (.cs (.c (.int 3)) (.cs (.c (.int 3)) .nl))))) (.not (.call "is_whole" (.cs (.ix (.v 0) (.c (.int 2))) (.cs (.c (.int 0)) (.cs (.c (.int 3)) .nl))))))
  (.ret (.c (.bl false)))
  .skip)
 (.seq (.set (.one 3) (.ite (.cmp .eq (.ix (.v 0) (.c (.int 2))) (.c (.int 0))) (.v 1) (.v 2)))
 (.ret (.call "is_whole" (.cs (.ix (.v 0) (.c (.int 1))) (.cs (.c (.int 0)) (.cs (.bin .sub (.v 3) (.c (.int 1))) .nl)))))))⟩
noncomputable def qv:Fn:=⟨4,4,(.seq (.ite (.or (.not (.call "is_row" (.cs (.v 0) (.cs (.c (.int 2)) (.cs (.c (.int 3)) .nl))))) (.not (.bi (.inst .str) (.cs (.ix (.v 0) (.c (.int 0))) .nl))))
  (.ret (.c (.bl false)))
  .skip)
 (.seq (.ite (.cmp .eq (.ix (.v 0) (.c (.int 0))) (.c (.str "work")))
  (.ret (.call "is_work_source" (.cs (.v 0) (.cs (.v 1) (.cs (.v 2) .nl)))))
  .skip)
 (.seq (.ite (.cmp .ne (.bi .len (.cs (.v 0) .nl)) (.c (.int 2)))
  (.ret (.c (.bl false)))
  .skip)
 (.seq (.ite (.cmp .eq (.ix (.v 0) (.c (.int 0))) (.c (.str "input")))
  (.ret (.call "is_whole" (.cs (.ix (.v 0) (.c (.int 1))) (.cs (.c (.int 0)) (.cs (.bin .sub (.v 3) (.c (.int 1))) .nl)))))
  .skip)
 (.ret (.and (.cmp .eq (.ix (.v 0) (.c (.int 0))) (.c (.str "value"))) (.call "is_value" (.cs (.ix (.v 0) (.c (.int 1))) .nl))))))))⟩
noncomputable def pQ:Fn:=⟨1,1,(.ret (.and (.call "is_row" (.cs (.v 0) (.cs (.c (.int 3)) (.cs (.c (.int 3)) .nl)))) (.bi .all (.cs (.comp 2 (.call "is_value" (.cs (.v 2) .nl)) (.one 2) (.iSeq (.v 0)) .nl) .nl))))⟩
noncomputable def k7:Fn:=⟨5,6,(.seq (.ite (.not (.call "is_row" (.cs (.v 0) (.cs (.c (.int 5)) (.cs (.c (.int 5)) .nl)))))
  (.ret (.c (.bl false)))
  .skip)
 (.seq (.ite (.or (.not (.call "is_whole" (.cs (.ix (.v 0) (.c (.int 0))) (.cs (.c (.int 0)) (.cs (.bin .sub (.v 4) (.c (.int 1))) .nl))))) (.not (.call "is_whole" (.cs (.ix (.v 0) (.c (.int 1))) (.cs (.c (.int 1)) (.cs (.c (.int 8)) .nl))))))
  (.ret (.c (.bl false)))
  .skip)
 (.seq (.ite (.or (.not (.bi (.inst .str) (.cs (.ix (.v 0) (.c (.int 2))) .nl))) (.cmp .dM (.ix (.v 0) (.c (.int 2))) (.c (.tup [(.str "plus"),(.str "less"),(.str "times"),(.str "least"),(.str "greatest")]))))
  (.ret (.c (.bl false)))
  .skip)
 (.seq (.set (.one 5) (.ix (.v 0) (.c (.int 3))))
 (.seq (.ite (.or (.not (.call "is_row" (.cs (.v 5) (.cs (.c (.int 1)) (.cs (.c (.int 3)) .nl))))) (.not (.call "are_starts" (.cs (.ix (.v 0) (.c (.int 4))) .nl))))
  (.ret (.c (.bl false)))
  .skip)
 (.ret (.bi .all (.cs (.comp 2 (.call "is_source" (.cs (.v 7) (.cs (.v 1) (.cs (.v 2) (.cs (.v 3) .nl))))) (.one 7) (.iSeq (.v 5)) .nl) .nl))))))))⟩
noncomputable def o8:Fn:=⟨3,4,(.seq (.ite (.not (.call "is_row" (.cs (.v 0) (.cs (.c (.int 1)) (.cs (.c (.int 8)) .nl)))))
  (.ret (.c (.bl false)))
  .skip)
 (.seq (.set (.one 3) (.bi .len (.cs (.v 0) .nl)))
 (.ret (.bi .all (.cs (.comp 3 (.call "is_work" (.cs (.v 6) (.cs (.v 5) (.cs (.v 3) (.cs (.v 1) (.cs (.v 2) .nl)))))) (.many [5,6]) (.iEnum (.v 0)) .nl) .nl)))))⟩
noncomputable def lS:Fn:=⟨2,4,(.seq (.ite (.not (.call "is_row" (.cs (.v 0) (.cs (.c (.int 1)) (.cs (.v 1) .nl)))))
  (.ret (.c (.bl false)))
  .skip)
 (.seq (.set (.one 2) (.c (.int 0)))
 (.seq (.forS (.one 3) (.iSeq (.v 0))
  (.seq (.ite (.not (.call "is_whole" (.cs (.v 3) (.cs (.v 2) (.cs (.bin .sub (.v 1) (.c (.int 1))) .nl)))))
  (.ret (.c (.bl false)))
  .skip)
 (.set (.one 2) (.bin .add (.v 3) (.c (.int 1))))))
 (.ret (.c (.bl true))))))⟩
noncomputable def oV:Fn:=⟨1,1,(.seq (.ite (.not (.call "is_row" (.cs (.v 0) (.cs (.c (.int 4)) (.cs (.c (.int 4)) .nl)))))
  (.ret (.c (.bl false)))
  .skip)
 (.seq (.ite (.or (.not (.call "is_whole" (.cs (.ix (.v 0) (.c (.int 0))) (.cs (.c (.int 0)) (.cs (.c (.int 6)) .nl))))) (.not (.call "are_crews" (.cs (.ix (.v 0) (.c (.int 1))) .nl))))
  (.ret (.c (.bl false)))
  .skip)
 (.ret (.and (.call "are_works" (.cs (.ix (.v 0) (.c (.int 2))) (.cs (.ix (.v 0) (.c (.int 0))) (.cs (.bi .len (.cs (.ix (.v 0) (.c (.int 1))) .nl)) .nl)))) (.call "are_outs" (.cs (.ix (.v 0) (.c (.int 3))) (.cs (.bi .len (.cs (.ix (.v 0) (.c (.int 2))) .nl)) .nl)))))))⟩
noncomputable def oE:Fn:=⟨1,1,(.seq (.ite (.not (.call "is_loop" (.cs (.v 0) .nl)))
  (.rais "NoLoop")
  .skip)
 (.ret (.v 0)))⟩
noncomputable def cW:List Str:=["plus","less","times","least","greatest"]
noncomputable def C2 (S:af):Prop:=∀ (l:Nat) c,S[l]?=some c->∃ ds,c=.lst ds
noncomputable def Has (P:Prg) (x:String) (F:Fn):Prop:=P.lookup (Str.ofString x)=some F
inductive Srs where|val (v:Int)|inp (k:Nat)|wrk (w b:Nat)
noncomputable def Srs.toD:Srs->D
 | .val v=>.tup [.str "value",.int v]
 | .inp k=>.tup [.str "input",.int k]
 | .wrk w b=>.tup [.str "work",.int w,.int b]
structure Wk where
 crew:Nat
 long:Nat
 doing:Str
 srcs:List Srs
 starts:List Int
noncomputable def Wk.toD (w:Wk):D:=.tup [.int w.crew,.int w.long,.str w.doing,.tup (w.srcs.map Srs.toD),.tup (w.starts.map .int)]
structure Lp where
 streams:Nat
 crews:List (Nat × Nat)
 works:List Wk
 outs:List Nat
noncomputable def aS (c:Nat × Nat):D:=.tup [.int c.1,.int c.2]
noncomputable def av (k:Nat):D:=.int k
noncomputable def Lp.toD (l:Lp):D:=.tup [.int l.streams,.tup (l.crews.map aS),.tup (l.works.map Wk.toD),.tup (l.outs.map av)]
noncomputable def Srs.WF (own many streams:Nat):Srs->Prop
 | .val v=>0<=v/\v<=9972
 | .inp k=>k < streams
 | .wrk w b=>b<=3/\w < (if b=0 then own else many)
structure Wk.WF (own many streams ncrews:Nat) (w:Wk):Prop where
 crew:w.crew < ncrews
 long:1<=w.long/\w.long<=8
 doing:w.doing∈cW
 some:1<=w.srcs.length/\w.srcs.length<=3
 srcs:∀ s∈w.srcs,s.WF own many streams
 three:w.starts.length=3
 starts:∀ v∈w.starts,0<=v/\v<=9972
noncomputable def bN:Nat->Nat->List Nat->Prop
 | _,_,[]=>True
 | many,least,k::r=>least<=k/\k < many/\bN many (k+1) r
structure Lp.WF (l:Lp):Prop where
 streams:l.streams<=6
 ncrews:1<=l.crews.length/\l.crews.length<=3
 crews:∀ c∈l.crews,(1<=c.1/\c.1<=3)/\(1<=c.2/\c.2<=4)
 nworks:1<=l.works.length/\l.works.length<=8
 works:∀ (i:Nat) w,l.works[i]?=some w->w.WF i l.works.length l.streams l.crews.length
 nouts:1<=l.outs.length
 outs:bN l.works.length 0 l.outs
structure HB (P:Prg):Prop where
 whole:Has P "is_whole" jf
 value:Has P "is_value" o9
 row:Has P "is_row" gT
 crew:Has P "is_crew" qh
 crews:Has P "are_crews" l0
 worksource:Has P "is_work_source" nC
 source:Has P "is_source" qv
 starts:Has P "are_starts" pQ
 work:Has P "is_work" k7
 works:Has P "are_works" o8
 outs:Has P "are_outs" lS
 loop:Has P "is_loop" oV
 checked:Has P "checked" oE
variable {sub:Sub} {P:Prg} {n:Nat} {S:af}
@[simp] theorem h_ (S T:af) (b:Bool):leave S (.bl b) (S++T)=.ok (.bl b) S:=bu rfl (dN _ _)
@[simp] theorem cU (S:af) (b:Bool):leave S (.bl b) S=.ok (.bl b) S:=bu rfl (List.take_length)
@[simp] theorem oA (S T:af) (b:Int):leave S (.int b) (S++T)=.ok (.int b) S:=bu rfl (dN _ _)
@[simp] theorem iy (S:af) (b:Int):leave S (.int b) S=.ok (.int b) S:=bu rfl (List.take_length)
theorem short {ds:List D} {k:Int} (h:(ds.length:Int)<=k) (hk:k<=1000):ds.length<=aO:=by unfold aO; omega
theorem mV {σ:Sg} {cf:Str->List D->M D} {a b c:E} {i j k:Int} (ha:ev sub cf a σ S=.ok (.int i) S) (hb:ev sub cf b σ S=.ok (.int j) S) (hc:ev sub cf c σ S=.ok (.int k) S) (h1:i<=j) (h2:j<=k) :
  ev sub cf (.chn .le .le a b c) σ S=.ok (.bl true) S:=by
 rw [Ab,ha,Res.ao,hb,Res.ao,kJ,Res.ao,decide_eq_true h1]
 show (ev sub cf c σ S).bind _=_
 rw [hc,Res.ao,kJ,decide_eq_true h2]
theorem cO (h:Has P "is_whole" jf) {i lo hi:Int} (h1:lo<=i) (h2:i<=hi):ai sub P (n+1) "is_whole" [.int i,.int lo,.int hi] S=.ok (.bl true) S :=
 x_call h rfl (aj (aJ (bS (bw (k:=true) (fP (aF (aa (r_v rfl) ah) (fC rfl)))) (k:=false) (fP (aF (aa (r_v rfl) ah) (fC rfl)))) aH) (aI (mV (r_v rfl) (r_v rfl) (r_v rfl) h1 h2))) (cU _ _)
theorem nO (h:HB P) {v:Int} (h1:0<=v) (h2:v<=9972):ai sub P (n+2) "is_value" [.int v] S=.ok (.bl true) S :=
 x_call h.value rfl (aI (aD (aa (r_v rfl) (aa r_c (aa (aC r_c r_c (cF _ _ _)) ah))) (cO h.whole h1 h2))) (cU _ _)
theorem fD (h:Has P "is_row" gT) {ds:List D} {lo hi:Int} (h1:lo<=(ds.length:Int)) (h2:(ds.length:Int)<=hi):ai sub P (n+1) "is_row" [.tup ds,.int lo,.int hi] S=.ok (.bl true) S :=
 x_call h rfl (aI (eo (aF (aa (r_v rfl) ah) (fC rfl)) (mV (r_v rfl) (aF (aa (r_v rfl) ah) cz) (r_v rfl) h1 h2))) (cU _ _)
theorem gf (h:Has P "is_row" gT) {ds:List D} {lo hi:Int} (m:Nat) (hm:ds.length=m) (h1:lo<=(m:Int)) (h2:(m:Int)<=hi):ai sub P (n+1) "is_row" [.tup ds,.int lo,.int hi] S=.ok (.bl true) S :=
 fD h (by rw [hm]; exact h1) (by rw [hm]; exact h2)
theorem Ae (h:HB P) {c:Nat × Nat} (hc:(1<=c.1/\c.1<=3)/\(1<=c.2/\c.2<=4)):ai sub P (n+2) "is_crew" [aS c] S=.ok (.bl true) S :=
 x_call h.crew rfl (aI (eo (aD (aa (r_v rfl) (aa r_c (aa r_c ah))) (gf h.row 2 rfl (by decide) (by decide)))
  (eo (aD (aa (ay (r_v rfl) r_c (aA rfl)) (aa r_c (aa r_c ah))) (cO h.whole (Int.ofNat_le.mpr hc.1.1) (Int.ofNat_le.mpr hc.1.2)))
   (aD (aa (ay (r_v rfl) r_c (aA rfl)) (aa r_c (aa r_c ah))) (cO h.whole (Int.ofNat_le.mpr hc.2.1) (Int.ofNat_le.mpr hc.2.2)))))) (cU _ _)
theorem jo {cf:Str->List D->M D} {σ:Sg} {i k:Nat} {el a:E} {α:Type} {l:List α} {f:α->D} (ha:ev sub cf a σ S=.ok (.tup (l.map f)) S) (hn:l.length<=1000) (h:∀ x∈l,ev sub cf el ((σ++List.replicate k none).set i (some (f x))) S=.ok (.bl true) S) :
  ∃ T,ev sub cf (.bi .all (.cs (.comp k el (.one i) (.iSeq a) .nl) .nl)) σ S=.ok (.bl true) (S++T):=by
 have hc:=dX (sub:=sub) (cf:=cf) (k:=k) (i:=i) (el:=el) (it:=.iSeq a) (σ:=σ) (S:=S) (S1:=S) (ks:=l) (f:=f) (g:=fun _=>.bl true) (o:=none) (raw:=l.map f) (cu ha rfl) rfl h (by unfold aO; omega)
 refine ⟨[.lst (l.map fun _=>.bl true)],aF (R:=.ok (.bl true) _) (aa hc ah) ((lX l fun _=>true).trans ?_)⟩
 rw [List.all_eq_true.mpr fun _ _=>rfl]
theorem yt (h:HB P) {cs:List (Nat × Nat)} (h1:1<=cs.length) (h2:cs.length<=3) (hc:∀ c∈cs,(1<=c.1/\c.1<=3)/\(1<=c.2/\c.2<=4)):ai sub P (n+3) "are_crews" [.tup (cs.map aS)] S=.ok (.bl true) S:=by
 obtain ⟨T,e⟩:=jo (sub:=sub) (cf:=ai sub P (n+2)) (σ:=[some (.tup (cs.map aS))]) (S:=S) (i:=2) (k:=2) (el:=.call "is_crew" (.cs (.v 2) .nl)) (a:=.v 0) (l:=cs) (f:=aS) (r_v rfl) (by omega) (fun c hm=>aD (aa (r_v rfl) ah) (Ae h (hc c hm)))
 exact x_call h.crews rfl (aI (eo (aD (aa (r_v rfl) (aa r_c (aa r_c ah))) (fD h.row (by rw [List.length_map]; omega) (by rw [List.length_map]; omega))) e)) (h_ _ _ _)
theorem AO (h:HB P) {vs:List Int} (h1:vs.length=3) (hv:∀ v∈vs,0<=v/\v<=9972):ai sub P (n+3) "are_starts" [.tup (vs.map .int)] S=.ok (.bl true) S:=by
 obtain ⟨T,e⟩:=jo (sub:=sub) (cf:=ai sub P (n+2)) (σ:=[some (.tup (vs.map .int))]) (S:=S) (i:=2) (k:=2) (el:=.call "is_value" (.cs (.v 2) .nl)) (a:=.v 0) (l:=vs) (f:=.int) (r_v rfl) (by omega) (fun c hm=>aD (aa (r_v rfl) ah) (nO h (hv c hm).1 (hv c hm).2))
 exact x_call h.starts rfl (aI (eo (aD (aa (r_v rfl) (aa r_c (aa r_c ah))) (fD h.row (by rw [List.length_map,h1]; decide) (by rw [List.length_map,h1]; decide))) e)) (h_ _ _ _)
theorem sV (h:HB P) {x:D} {w b own many:Nat} (hb:b<=3) (hw:w < (if b=0 then own else many)):ai sub P (n+2) "is_work_source" [.tup [x,.int w,.int b],.int own,.int many] S=.ok (.bl true) S:=by
 have h0:∀ k:Nat,(0:Int)<=(k:Int):=fun k=>Int.natCast_nonneg k
 refine x_call h.worksource rfl (aj (aJ (bS (bw (k:=true) (bI (aD (aa (r_v rfl) (aa r_c (aa r_c ah))) (gf h.row 3 rfl (by decide) (by decide)))))
  (k:=false) (bw (k:=true) (bI (aD (aa (ay (r_v rfl) r_c (aA rfl)) (aa r_c (aa r_c ah))) (cO h.whole (h0 b) (Int.ofNat_le.mpr hb)))))) aH)
  (aj (aB (d:=.int ((if b=0 then own else many:Nat):Int)) (S1:=S) ?_) (aI (aD (aa (ay (r_v rfl) r_c (aA rfl)) (aa r_c (aa (aC (r_v rfl) r_c (cF _ _ _)) ah))) (cO h.whole (h0 w) (by omega)))))) (cU _ _)
 by_cases z:b=0
 ·rw [if_pos z]; subst z
  exact qp (S1:=S) (aG (aL (ay (r_v rfl) r_c (aA rfl)) r_c (gy _ _ _))) (r_v rfl)
 ·rw [if_neg z]
  exact mz (S1:=S) (t_k (aG (aL (ay (r_v rfl) r_c (aA rfl)) r_c (gy _ _ _))) (beq_false_of_ne (by omega))) (r_v rfl)
theorem uA (h:HB P) {s:Srs} {own many streams:Nat} (hs:s.WF own many streams):ai sub P (n+3) "is_source" [s.toD,.int own,.int many,.int streams] S=.ok (.bl true) S:=by
 have first:∀ {x:Str} {r:List D} {σ:Sg} (e:bD σ 0 S=.ok (.tup (.str x::r)) S) (m:Nat) (hm:(D.str x::r).length=m) (h1:2<=(m:Int)) (h2:(m:Int)<=3),evT sub (ai sub P (n+2)) (.or (.not (.call "is_row" (.cs (.v 0) (.cs (.c (.int 2)) (.cs (.c (.int 3)) .nl))))) (.not (.bi (.inst .str) (.cs (.ix (.v 0) (.c (.int 0))) .nl)))) σ S=.ok false S:=fun {x r σ} e m hm h1 h2 =>
  bS (bw (k:=true) (bI (aD (aa (r_v e) (aa r_c (aa r_c ah))) (gf h.row m hm h1 h2)))) (k:=false) (bw (k:=true) (fP (aF (aa (ay (r_v e) r_c (aA (d:=.str x) (mS _))) ah) (fC rfl))))
 have word:∀ {x:Str} {r:List D} {σ:Sg} (y:Str) {k:Bool} (e:bD σ 0 S=.ok (.tup (.str x::r)) S) (hk:(x==y)=k),ev sub (ai sub P (n+2)) (.cmp .eq (.ix (.v 0) (.c (.int 0))) (.c (.str y))) σ S=.ok (.bl k) S:=fun y k e hk=>by
  rw [<- hk]; exact aL (ay (r_v e) r_c (aA (mS _))) r_c (jw _ _ _)
 have two:∀ {x y:D} {σ:Sg} (e:bD σ 0 S=.ok (.tup [x,y]) S),evT sub (ai sub P (n+2)) (.cmp .ne (.bi .len (.cs (.v 0) .nl)) (.c (.int 2))) σ S=.ok false S:=fun e =>
  aG (aL (aF (aa (r_v e) ah) cz) r_c (qt _ _ _))
 cases s with
 | val v =>
  exact x_call h.source rfl (aj (aJ (first (x:="value") rfl 2 rfl (by decide) (by decide)) aH) (aj (aJ (aG (word "work" (x:="value") rfl (by decide +kernel))) aH) (aj (aJ (two rfl) aH) (aj (aJ (aG (word "input" (x:="value") rfl (by decide +kernel))) aH)
   (aI (eo (word "value" (x:="value") rfl (by decide +kernel)) (aD (aa (ay (r_v rfl) r_c (aA rfl)) ah) (nO h hs.1 hs.2)))))))) (cU _ _)
 | inp k =>
  have hk:k < streams:=hs
  exact x_call h.source rfl (aj (aJ (first (x:="input") rfl 2 rfl (by decide) (by decide)) aH) (aj (aJ (aG (word "work" (x:="input") rfl (by decide +kernel))) aH) (aj (aJ (two rfl) aH) (cI (bU (aG (word "input" (x:="input") rfl (by decide +kernel)))
   (aI (aD (aa (ay (r_v rfl) r_c (aA rfl)) (aa r_c (aa (aC (r_v rfl) r_c (cF _ _ _)) ah))) (cO h.whole (Int.natCast_nonneg k) (by omega))))))))) (cU _ _)
 | wrk w b =>
  exact x_call h.source rfl (aj (aJ (first (x:="work") rfl 3 rfl (by decide) (by decide)) aH) (cI (bU (aG (word "work" (x:="work") rfl (by decide +kernel))) (aI (aD (aa (r_v rfl) (aa (r_v rfl) (aa (r_v rfl) ah))) (sV h hs.1 hs.2)))))) (cU _ _)
theorem Ci {x:Str} (h:x∈cW):cmD .dM (.str x) (.tup [(.str "plus"),(.str "less"),(.str "times"),(.str "least"),(.str "greatest")]) S=.ok (.bl false) S:=by
 have h:x = "plus"\/x = "less"\/x = "times"\/x = "least"\/x = "greatest":=by simpa [cW] using h
 rcases h with rfl|rfl|rfl|rfl|rfl <;> rfl
theorem CB (h:HB P) {w:Wk} {own many streams ncrews:Nat} (hw:w.WF own many streams ncrews):ai sub P (n+4) "is_work" [w.toD,.int own,.int many,.int streams,.int ncrews] S=.ok (.bl true) S:=by
 have hc:=hw.crew
 obtain ⟨T,e⟩:=jo (sub:=sub) (cf:=ai sub P (n+3)) (σ:=[some w.toD,some (.int own),some (.int many),some (.int streams),some (.int ncrews),some (.tup (w.srcs.map Srs.toD))]) (S:=S) (i:=7) (k:=2) (el:=.call "is_source" (.cs (.v 7) (.cs (.v 1) (.cs (.v 2) (.cs (.v 3) .nl))))) (a:=.v 5) (l:=w.srcs) (f:=Srs.toD) (r_v rfl) (by have:=hw.some; omega) (fun s hm=>aD (aa (r_v rfl) (aa (r_v rfl) (aa (r_v rfl) (aa (r_v rfl) ah)))) (uA h (hw.srcs s hm)))
 refine x_call h.work rfl (aj (aJ (bw (k:=true) (bI (aD (aa (r_v rfl) (aa r_c (aa r_c ah))) (gf h.row 5 rfl (by decide) (by decide))))) aH)
  (aj (aJ (bS (bw (k:=true) (bI (aD (aa (ay (r_v rfl) r_c (aA rfl)) (aa r_c (aa (aC (r_v rfl) r_c (cF _ _ _)) ah))) (cO h.whole (Int.natCast_nonneg _) (by omega))))) (k:=false)
   (bw (k:=true) (bI (aD (aa (ay (r_v rfl) r_c (aA rfl)) (aa r_c (aa r_c ah))) (cO h.whole (Int.ofNat_le.mpr hw.long.1) (Int.ofNat_le.mpr hw.long.2)))))) aH)
  (aj (aJ (bS (bw (k:=true) (fP (aF (aa (ay (r_v rfl) r_c (aA rfl)) ah) (fC rfl)))) (aG (aL (ay (r_v rfl) r_c (aA rfl)) r_c (Ci hw.doing)))) aH)
  (aj (aB (ay (r_v rfl) r_c (aA rfl)))
  (aj (aJ (bS (bw (k:=true) (bI (aD (aa (r_v rfl) (aa r_c (aa r_c ah))) (fD h.row (ds:=w.srcs.map Srs.toD) ?_ ?_)))) (k:=false) (bw (k:=true) (bI (aD (aa (ay (r_v rfl) r_c (aA rfl)) ah) (AO h hw.three hw.starts))))) aH)
  (aI e)))))) (h_ _ _ _)
 ·rw [List.length_map]; have:=hw.some; omega
 ·rw [List.length_map]; have:=hw.some; omega
theorem vM (h:HB P) {ws:List Wk} {streams ncrews:Nat} (h1:1<=ws.length) (h2:ws.length<=8) (hw:∀ (i:Nat) w,ws[i]?=some w->w.WF i ws.length streams ncrews):ai sub P (n+5) "are_works" [.tup (ws.map Wk.toD),.int streams,.int ncrews] S=.ok (.bl true) S:=by
 have hc:=sN (sub:=sub) (cf:=ai sub P (n+4)) (k:=3) (is:=[5,6]) (el:=.call "is_work" (.cs (.v 6) (.cs (.v 5) (.cs (.v 3) (.cs (.v 1) (.cs (.v 2) .nl)))))) (it:=.iEnum (.v 0))
  (σ:=[some (.tup (ws.map Wk.toD)),some (.int streams),some (.int ncrews),some (.int ws.length)]) (S:=S) (S1:=S) (s:=⟨num 0 (ws.map Wk.toD),none,ws.map Wk.toD⟩) (g:=fun _=>.bl true) rfl rfl (fun d hd=>by
   obtain ⟨i,hi,rfl⟩:=List.mem_iff_getElem.mp hd
   have hi':i < ws.length:=by rw [gG,List.length_map] at hi; exact hi
   refine ⟨_,mU _ 0 i hi,rfl,?_⟩
   rw [List.getElem_map,Nat.zero_add]
   exact aD (aa (r_v rfl) (aa (r_v rfl) (aa (r_v rfl) (aa (r_v rfl) (aa (r_v rfl) ah))))) (CB h (hw i _ (List.getElem?_eq_getElem hi')))) (by unfold aO; rw [gG,List.length_map]; omega)
 have ha:ev sub (ai sub P (n+4)) (.bi .all (.cs (.comp 3 (.call "is_work" (.cs (.v 6) (.cs (.v 5) (.cs (.v 3) (.cs (.v 1) (.cs (.v 2) .nl)))))) (.many [5,6]) (.iEnum (.v 0)) .nl) .nl)) [some (.tup (ws.map Wk.toD)),some (.int streams),some (.int ncrews),some (.int ws.length)] S=.ok (.bl true) (S++[.lst ((num 0 (ws.map Wk.toD)).map fun _=>.bl true)]) :=
  aF (aa hc ah) ((lX _ fun _=>true).trans (by rw [List.all_eq_true.mpr fun _ _=>rfl]))
 refine x_call h.works rfl (aj (aJ (bw (k:=true) (bI (aD (aa (r_v rfl) (aa r_c (aa r_c ah))) (fD h.row (ds:=ws.map Wk.toD) ?_ ?_)))) aH)
  (aj (aB (d:=.int ws.length) (S1:=S) ?_) (aI ha))) (h_ _ _ _)
 ·rw [List.length_map]; omega
 ·rw [List.length_map]; omega
 ·have:=cz (sub:=sub) (S:=S) (xs:=ws.map Wk.toD)
  rw [List.length_map] at this
  exact aF (aa (r_v rfl) ah) this
theorem nv (h:HB P) {d0:D} {many:Nat} {s:Src} (hs:∀ T,aK s T=.ok () T):∀ (l:List Nat) (least:Nat) (x:Option D),bN many least l->∃ σ',forL s (bE sub (ai sub P (n+1)) (.one 3) (.seq (.ite (.not (.call "is_whole" (.cs (.v 3) (.cs (.v 2) (.cs (.bin .sub (.v 1) (.c (.int 1))) .nl))))) (.ret (.c (.bl false))) .skip) (.set (.one 2) (.bin .add (.v 3) (.c (.int 1))))))
   (l.map av) [some d0,some (.int many),some (.int least),x] S=.ok (.nx σ') S
 | [],least,x,_=>⟨_,by rw [List.map_nil,gR,hs,Res.ao]⟩
 | k::r,least,x,⟨h1,h2,h3⟩=>by
  obtain ⟨σ',e⟩:=nv h hs r (k+1) (some (av k)) h3
  refine ⟨σ',?_⟩
  rw [List.map_cons,iI,hs,Res.ao,gr,aj (aJ (bw (k:=true) (bI (aD (aa (r_v rfl) (aa (r_v rfl) (aa (aC (r_v rfl) r_c (cF _ _ _)) ah))) (cO h.whole (Int.ofNat_le.mpr h1) (by omega))))) aH) (aB (aC (r_v rfl) r_c (bT _ _ _)))]
  exact e
theorem gI {many:Nat}:∀ {l:List Nat} {least:Nat},bN many least l->least<=many->l.length+least<=many
 | [],_,_,h=>by simpa using h
 | k::r,least,⟨h1,h2,h3⟩,_=>by
  have:=gI h3 (by omega)
  simp only [List.length_cons]; omega
theorem vm (h:HB P) {os:List Nat} {many:Nat} (h1:1<=os.length) (hr:bN many 0 os):ai sub P (n+2) "are_outs" [.tup (os.map av),.int many] S=.ok (.bl true) S:=by
 have hl:=gI hr (Nat.zero_le _)
 obtain ⟨σ',e⟩:=nv (sub:=sub) (n:=n) (S:=S) (d0:=.tup (os.map av)) (s:=⟨os.map av,none,os.map av⟩) h (fun _=>rfl) os 0 none hr
 exact x_call h.outs rfl (aj (aJ (bw (k:=true) (bI (aD (aa (r_v rfl) (aa r_c (aa (r_v rfl) ah))) (fD h.row (ds:=os.map av) (by rw [List.length_map]; omega) (by rw [List.length_map]; omega))))) aH)
  (aj (aB r_c) (aj (gZ (cu (r_v rfl) rfl) e) (aI r_c)))) (cU _ _)
theorem uC (h:HB P) {l:Lp} (hl:l.WF):ai sub P (n+6) "is_loop" [l.toD] S=.ok (.bl true) S:=by
 have e1:=cz (sub:=sub) (S:=S) (xs:=l.crews.map aS)
 have e2:=cz (sub:=sub) (S:=S) (xs:=l.works.map Wk.toD)
 rw [List.length_map] at e1 e2
 exact x_call h.loop rfl (aj (aJ (bw (k:=true) (bI (aD (aa (r_v rfl) (aa r_c (aa r_c ah))) (gf h.row 4 rfl (by decide) (by decide))))) aH)
  (aj (aJ (bS (bw (k:=true) (bI (aD (aa (ay (r_v rfl) r_c (aA rfl)) (aa r_c (aa r_c ah))) (cO h.whole (Int.natCast_nonneg _) (Int.ofNat_le.mpr hl.streams))))) (k:=false)
   (bw (k:=true) (bI (aD (aa (ay (r_v rfl) r_c (aA rfl)) ah) (yt h hl.ncrews.1 hl.ncrews.2 hl.crews))))) aH)
  (aI (eo (aD (aa (ay (r_v rfl) r_c (aA rfl)) (aa (ay (r_v rfl) r_c (aA rfl)) (aa (aF (aa (ay (r_v rfl) r_c (aA rfl)) ah) e1) ah))) (vM h hl.nworks.1 hl.nworks.2 hl.works))
   (aD (aa (ay (r_v rfl) r_c (aA rfl)) (aa (aF (aa (ay (r_v rfl) r_c (aA rfl)) ah) e2) ah)) (vm h hl.nouts hl.outs)))))) (cU _ _)
end RL

namespace RL
open PySem EV GO
section
local macro_rules|`(tactic| done)=>`(tactic| (first|with_reducible exact r_c|((with_reducible apply r_v); exact rfl)|with_reducible apply aC|with_reducible apply aL|with_reducible apply ay|with_reducible apply aD|with_reducible exact ah|with_reducible apply aa|with_reducible apply aF|with_reducible apply dh|with_reducible apply bK|with_reducible apply bP|((with_reducible apply zj); exact rfl)|with_reducible apply e9|with_reducible apply bI|with_reducible apply fP|with_reducible apply aG|with_reducible exact bT _ _ _|with_reducible exact cF _ _ _|((with_reducible apply ia); first|decide|assumption|omega)|((with_reducible apply cH); first|decide|omega)|((with_reducible apply d7); first|decide|omega)|((with_reducible apply iW); decide)|with_reducible exact gK _ _ _|with_reducible exact kJ _ _ _|with_reducible exact fX _ _ _|with_reducible exact iA _ _ _|with_reducible exact gy _ _ _|with_reducible exact jw _ _ _|((with_reducible apply lW); assumption)|with_reducible exact gi|with_reducible exact rN|with_reducible exact cz|with_reducible exact o7|((with_reducible apply aA); exact rfl)|with_reducible assumption|((apply ia); first|decide|assumption)|apply gy|apply jw))
noncomputable def pq:Fn:=⟨2,2,(.seq (.ite (.cmp .lt (.v 1) (.bi .len (.cs (.v 0) .nl)))
  (.ret (.ix (.v 0) (.v 1)))
  .skip)
 (.seq (.ite (.cmp .eq (.v 0) (.lst .nl))
  (.ret (.c (.int 0)))
  .skip)
 (.ret (.bin .add (.bin .mul (.ix (.v 0) (.bin .mod (.v 1) (.bi .len (.cs (.v 0) .nl)))) (.c (.int 31))) (.v 1)))))⟩
noncomputable def oM:Fn:=⟨3,4,(.seq (.set (.one 3) (.bin .mod (.bin .mul (.bin .add (.bin .add (.call "_law_cell_at" (.cs (.v 0) (.cs (.v 1) .nl))) (.bin .mul (.c (.int 7919)) (.v 1))) (.c (.int 1))) (.c (.int 48271))) (.c (.int 2147483647))))
 (.ret (.bin .mod (.bin .mod (.bin .add (.bin .add (.bin .mul (.v 3) (.v 3)) (.bin .mul (.c (.int 7)) (.v 3))) (.v 1)) (.c (.int 2147483629))) (.v 2))))⟩
noncomputable def lN:Fn:=⟨5,7,(.seq (.set (.one 5) (.call "_law_mixed" (.cs (.v 0) (.cs (.v 1) (.cs (.c (.int 7)) .nl)))))
 (.seq (.ite (.or (.cmp .eq (.v 5) (.c (.int 0))) (.and (.cmp .eq (.v 5) (.c (.int 1))) (.cmp .eq (.v 2) (.c (.int 0)))))
  (.ret (.tup (.cs (.c (.str "value")) (.cs (.call "_law_mixed" (.cs (.v 0) (.cs (.bin .add (.v 1) (.c (.int 1))) (.cs (.c (.int 9973)) .nl)))) .nl))))
  .skip)
 (.seq (.ite (.cmp .eq (.v 5) (.c (.int 1)))
  (.ret (.tup (.cs (.c (.str "input")) (.cs (.call "_law_mixed" (.cs (.v 0) (.cs (.bin .add (.v 1) (.c (.int 1))) (.cs (.v 2) .nl)))) .nl))))
  .skip)
 (.seq (.set (.one 6) (.call "_law_mixed" (.cs (.v 0) (.cs (.bin .add (.v 1) (.c (.int 1))) (.cs (.v 3) .nl)))))
 (.seq (.ite (.and (.cmp .lt (.v 6) (.v 4)) (.cmp .lt (.v 5) (.c (.int 5))))
  (.ret (.tup (.cs (.c (.str "work")) (.cs (.v 6) (.cs (.c (.int 0)) .nl)))))
  .skip)
 (.ret (.tup (.cs (.c (.str "work")) (.cs (.v 6) (.cs (.bin .add (.c (.int 1)) (.call "_law_mixed" (.cs (.v 0) (.cs (.bin .add (.v 1) (.c (.int 2))) (.cs (.c (.int 3)) .nl))))) .nl))))))))))⟩
noncomputable def l9:Fn:=⟨4,12,(.seq (.set (.many [4,5,6]) (.v 2))
 (.seq (.set (.one 7) (.lst .nl))
 (.seq (.forS (.one 8) (.iRng (.cs (.bin .add (.c (.int 1)) (.call "_law_mixed" (.cs (.v 0) (.cs (.bin .add (.v 1) (.c (.int 2))) (.cs (.c (.int 2)) .nl))))) .nl))
  (.ex (.me .append (.v 7) (.cs (.call "_law_source" (.cs (.v 0) (.cs (.bin .add (.bin .add (.v 1) (.c (.int 3))) (.bin .mul (.c (.int 3)) (.v 8))) (.cs (.v 4) (.cs (.v 6) (.cs (.v 3) .nl)))))) .nl))))
 (.seq (.set (.one 9) (.ix (.lst (.cs (.c (.str "plus")) (.cs (.c (.str "less")) (.cs (.c (.str "times")) (.cs (.c (.str "least")) (.cs (.c (.str "greatest")) .nl)))))) (.call "_law_mixed" (.cs (.v 0) (.cs (.v 1) (.cs (.c (.int 5)) .nl))))))
 (.seq (.set (.one 10) (.bin .add (.c (.int 1)) (.call "_law_mixed" (.cs (.v 0) (.cs (.bin .add (.v 1) (.c (.int 1))) (.cs (.ix (.lst (.cs (.c (.int 2)) (.cs (.c (.int 5)) .nl))) (.call "_law_mixed" (.cs (.v 0) (.cs (.bin .add (.v 1) (.c (.int 2))) (.cs (.c (.int 2)) .nl))))) .nl))))))
 (.seq (.set (.one 11) (.bi .tuple (.cs (.comp 2 (.call "_law_mixed" (.cs (.v 0) (.cs (.bin .add (.v 1) (.v 13)) (.cs (.c (.int 9973)) .nl)))) (.one 13) (.iSeq (.tup (.cs (.c (.int 0)) (.cs (.c (.int 5)) (.cs (.c (.int 6)) .nl))))) .nl) .nl)))
 (.ret (.tup (.cs (.call "_law_mixed" (.cs (.v 0) (.cs (.bin .add (.v 1) (.c (.int 7))) (.cs (.v 5) .nl)))) (.cs (.v 10) (.cs (.v 9) (.cs (.bi .tuple (.cs (.v 7) .nl)) (.cs (.v 11) .nl)))))))))))))⟩
noncomputable def lZ:Fn:=⟨3,9,(.seq (.set (.one 3) (.call "_law_mixed" (.cs (.v 0) (.cs (.v 1) (.cs (.c (.int 3)) .nl)))))
 (.seq (.set (.one 4) (.bin .add (.c (.int 1)) (.call "_law_mixed" (.cs (.v 0) (.cs (.bin .add (.v 1) (.c (.int 1))) (.cs (.v 2) .nl))))))
 (.seq (.set (.one 5) (.lst .nl))
 (.seq (.forS (.one 6) (.iRng (.cs (.bin .add (.c (.int 1)) (.call "_law_mixed" (.cs (.v 0) (.cs (.bin .add (.v 1) (.c (.int 2))) (.cs (.c (.int 2)) .nl))))) .nl))
  (.ex (.me .append (.v 5) (.cs (.tup (.cs (.bin .add (.c (.int 1)) (.call "_law_mixed" (.cs (.v 0) (.cs (.bin .add (.bin .add (.v 1) (.c (.int 3))) (.v 6)) (.cs (.c (.int 2)) .nl))))) (.cs (.bin .add (.c (.int 1)) (.bin .fdiv (.call "_law_mixed" (.cs (.v 0) (.cs (.bin .add (.bin .add (.v 1) (.c (.int 5))) (.v 6)) (.cs (.c (.int 5)) .nl)))) (.c (.int 2)))) .nl))) .nl))))
 (.seq (.set (.one 7) (.lst .nl))
 (.seq (.forS (.one 6) (.iRng (.cs (.v 4) .nl))
  (.ex (.me .append (.v 7) (.cs (.call "_law_work" (.cs (.v 0) (.cs (.bin .add (.bin .add (.v 1) (.c (.int 7))) (.bin .mul (.c (.int 9)) (.v 6))) (.cs (.tup (.cs (.v 3) (.cs (.bi .len (.cs (.v 5) .nl)) (.cs (.v 4) .nl)))) (.cs (.v 6) .nl))))) .nl))))
 (.seq (.set (.one 8) (.comp 2 (.v 10) (.one 10) (.iRng (.cs (.v 4) .nl)) (.cmp .gt (.call "_law_mixed" (.cs (.v 0) (.cs (.bin .add (.bin .add (.v 1) (.c (.int 7))) (.v 10)) (.cs (.c (.int 3)) .nl)))) (.c (.int 0)))))
 (.seq (.ite (.cmp .eq (.v 8) (.lst .nl))
  (.set (.one 8) (.lst (.cs (.bin .sub (.v 4) (.c (.int 1))) .nl)))
  .skip)
 (.ret (.tup (.cs (.v 3) (.cs (.bi .tuple (.cs (.v 5) .nl)) (.cs (.bi .tuple (.cs (.v 7) .nl)) (.cs (.bi .tuple (.cs (.v 8) .nl)) .nl))))))))))))))⟩
noncomputable def jc:Fn:=⟨4,10,(.seq (.set (.one 4) (.call "_law_mixed" (.cs (.v 0) (.cs (.v 1) (.cs (.bin .pow (.c (.int 10)) (.c (.int 9))) .nl)))))
 (.seq (.set (.one 5) (.lst .nl))
 (.seq (.forS (.one 6) (.iRng (.cs (.call "_law_mixed" (.cs (.v 0) (.cs (.bin .add (.v 1) (.c (.int 1))) (.cs (.bin .add (.v 3) (.c (.int 1))) .nl)))) .nl))
  (.seq (.set (.one 7) (.lst .nl))
 (.seq (.forS (.one 8) (.iRng (.cs (.v 2) .nl))
  (.seq (.set (.one 9) (.bin .mod (.bin .mul (.bin .add (.bin .add (.bin .add (.v 4) (.bin .mul (.bin .mul (.c (.int 104729)) (.v 6)) (.v 6))) (.bin .mul (.c (.int 7919)) (.v 6))) (.bin .mul (.c (.int 31)) (.v 8))) (.c (.int 48271))) (.c (.int 2147483647))))
 (.ex (.me .append (.v 7) (.cs (.ix (.lst (.cs (.bin .mod (.bin .fdiv (.v 9) (.c (.int 7))) (.c (.int 9973))) (.cs (.bin .mod (.bin .fdiv (.v 9) (.c (.int 7))) (.c (.int 4))) .nl))) (.bin .mod (.v 9) (.c (.int 2)))) .nl)))))
 (.ex (.me .append (.v 5) (.cs (.bi .tuple (.cs (.v 7) .nl)) .nl))))))
 (.ret (.v 5)))))⟩
theorem Srs.cl (s:Srs):s.toD.cl:=by cases s <;> rfl
theorem Wk.cl (w:Wk):w.toD.cl:=by
 show (true&&(true&&(true&&(D.lows 0 (w.srcs.map Srs.toD)&&(D.lows 0 (w.starts.map .int)&&true)))))=true
 rw [fh Srs.cl,oW]; rfl
theorem Lp.cl (l:Lp):l.toD.cl:=by
 show (true&&(D.lows 0 (l.crews.map aS)&&(D.lows 0 (l.works.map Wk.toD)&&(D.lows 0 (l.outs.map av)&&true))))=true
 rw [fh (f:=aS) fun _=>rfl,fh Wk.cl,fh (f:=av) fun _=>rfl]; rfl
theorem j_ {sub:Sub} {P:Prg} {n:Nat} {S:af} (h:HB P) {l:Lp} (hw:l.WF):ai sub P (n+7) "checked" [l.toD] S=.ok l.toD S :=
 x_call h.checked rfl (aj (aJ (bw (k:=true) (bI (aD (aa (r_v rfl) ah) (uC h hw)))) aH) (aI (r_v rfl))) (bu l.cl List.take_length)
noncomputable def cellAt (ns:List Int) (k:Int):Int:=if k < ns.length then ns.getD k.toNat 0 else if ns.length=0 then 0 else ns.getD (k % (ns.length:Int)).toNat 0 * 31+k
noncomputable def drawn (ns:List Int) (k:Int):Int:=(cellAt ns k+7919 * k+1) * 48271 % 2147483647
noncomputable def mixed (ns:List Int) (k m:Int):Int:=(drawn ns k * drawn ns k+7 * drawn ns k+k) % 2147483629 % m
theorem vR (ns:List Int) (k:Int) {m:Int} (h:0 < m):0<=mixed ns k m/\mixed ns k m < m:=⟨Int.emod_nonneg _ (by omega),Int.emod_lt_of_pos _ h⟩
structure HG (P:Prg):Prop where
 cell:Has P "_law_cell_at" pq
 mix:Has P "_law_mixed" oM
 source:Has P "_law_source" lN
 work:Has P "_law_work" l9
 loop:Has P "_law_loop" lZ
variable {sub:Sub} {P:Prg} {n:Nat} {S:af}
theorem pV {ns:List Int} {k:Int} (h0:0<=k) (h:k < ns.length):atI (ns.map D.int) k=some (.int (ns.getD k.toNat 0)):=by
 obtain ⟨j,rfl⟩:=Int.eq_ofNat_of_zero_le h0
 rw [iN]
 have hj:j < ns.length:=by omega
 simp [hj]
theorem eq_empty (ns:List Int) (S:af):cmD .eq (.fro (ns.map .int)) (.loc S.length) (S++[.lst []])=.ok (.bl (decide (ns.length=0))) (S++[.lst []]):=by
 rw [oU]
 have:eqD deep (S++[.lst []]) (.fro (ns.map .int)) (.loc S.length)=some (decide (ns.length=0)):=by
  show (match some (ns.map D.int),listAt (S++[.lst []]) S.length with|some xs,some ys=>if xs.length=ys.length then bA _ xs ys else some false|_,_=>none)=_
  have e:listAt (S++[.lst []]) S.length=some []:=by unfold listAt; simp
  rw [e]
  cases ns <;> simp [bA]
 rw [this]
theorem yK (h:HG P) (ns:List Int) {k:Int} (hk:0<=k):ai sub P (n+1) "_law_cell_at" [.fro (ns.map .int),.int k] S=.ok (.int (cellAt ns k)) S:=by
 have hl:∀ S:af,biD sub .len [.fro (ns.map .int)] S=.ok (.int ns.length) S:=fun S=>by
  have:=o7 (sub:=sub) (S:=S) (xs:=ns.map .int)
  rw [List.length_map] at this
  exact this
 have e1:∀ {b:Bool},decide (k < (ns.length:Int))=b->evT sub (ai sub P n) (.cmp .lt (.v 1) (.bi .len (.cs (.v 0) .nl))) [some (.fro (ns.map .int)),some (.int k)] S=.ok b S:=fun e=>t_k (aG (aL (r_v rfl) (aF (aa (r_v rfl) ah) (hl _)) (gK _ _ _))) e
 have e2:∀ {b:Bool},decide (ns.length=0)=b->evT sub (ai sub P n) (.cmp .eq (.v 0) (.lst .nl)) [some (.fro (ns.map .int)),some (.int k)] S=.ok b (S++[.lst []]):=fun e=>t_k (aG (aL (r_v rfl) (bP ah rfl) (eq_empty ns S))) e
 unfold cellAt
 by_cases h1:k < ns.length
 ·rw [if_pos h1]
  exact x_call h.cell rfl (cI (bU (e1 (decide_eq_true h1)) (aI (ay (r_v rfl) (r_v rfl) (pA (pV hk h1)))))) (iy _ _)
 rw [if_neg h1]
 by_cases h2:ns.length=0
 ·rw [if_pos h2]
  exact x_call h.cell rfl (aj (aJ (e1 (decide_eq_false h1)) aH) (cI (bU (e2 (decide_eq_true h2)) (aI r_c)))) (oA _ _ _)
 ·rw [if_neg h2]
  have h3:0 < (ns.length:Int):=by omega
  exact x_call h.cell rfl (aj (aJ (e1 (decide_eq_false h1)) aH) (aj (aJ (e2 (decide_eq_false h2)) aH) (aI (aC (aC (ay (r_v rfl) (aC (r_v rfl) (aF (aa (r_v rfl) ah) (hl _)) (ia h3)) (pA (pV (Int.emod_nonneg k (by omega)) (Int.emod_lt_of_pos k h3)))) r_c (d7 (by decide))) (r_v rfl) (bT _ _ _))))) (oA _ _ _)
theorem uz (h:HG P) (ns:List Int) {k m:Int} (hk:0<=k) (hm:0 < m):ai sub P (n+2) "_law_mixed" [.fro (ns.map .int),.int k,.int m] S=.ok (.int (mixed ns k m)) S:=by
 have hc:=yK (sub:=sub) (n:=n) (S:=S) h ns hk
 have h1:0<=drawn ns k:=Int.emod_nonneg _ (by decide)
 have h2:drawn ns k < 2147483647:=Int.emod_lt_of_pos _ (by decide)
 refine x_call h.mix rfl (aj (aB (d:=.int (drawn ns k)) (S1:=S) ?_) (aI (d:=.int (mixed ns k m)) (S1:=S) ?_)) (bu rfl (by simp)) <;> (repeat' done)
structure Mix (P:Prg) (mx:List Int->Int->Int->Int):Prop where
 ok:∀ {sub:Sub} {n:Nat} {S:af} (ns:List Int) {k m:Int},0<=k->0 < m->ai sub P (n+2) "_law_mixed" [.fro (ns.map .int),.int k,.int m] S=.ok (.int (mx ns k m)) S
 rng:∀ (ns:List Int) (k:Int) {m:Int},0 < m->0<=mx ns k m/\mx ns k m < m
theorem uH (h:HG P):∃ mx,Mix P mx:=⟨mixed,fun ns _ _ hk hm=>uz h ns hk hm,fun ns k _ h=>vR ns k h⟩
variable {mx:List Int->Int->Int->Int}
noncomputable def dF (mx:List Int->Int->Int->Int) (ns:List Int) (at':Int) (streams many own:Nat):Srs :=
 if mx ns at' 7=0\/(mx ns at' 7=1/\streams=0) then .val (mx ns (at' + 1) 9973)
 else if mx ns at' 7=1 then .inp (mx ns (at' + 1) streams).toNat
 else if (mx ns (at' + 1) many).toNat < own/\mx ns at' 7 < 5 then .wrk (mx ns (at' + 1) many).toNat 0
 else .wrk (mx ns (at' + 1) many).toNat (1+mx ns (at' + 2) 3).toNat
theorem jg (S:af) (s:Srs):leave S s.toD S=.ok s.toD S:=bu s.cl (by simp)
theorem toNat_cast {i:Int} (h:0<=i):((i.toNat:Nat):Int)=i:=Int.toNat_of_nonneg h
theorem sA (h:HG P) (M:Mix P mx) (ns:List Int) {at':Int} {streams many own:Nat} (hat:0<=at') (hm:0 < many):ai sub P (n+3) "_law_source" [.fro (ns.map .int),.int at',.int streams,.int many,.int own] S=.ok (dF mx ns at' streams many own).toD S:=by
 have hm':(0:Int) < many:=by omega
 have a1:0<=at' + 1:=by omega
 have a2:0<=at' + 2:=by omega
 have m0:=M.ok (sub:=sub) (n:=n) (S:=S) ns (k:=at') (m:=7) hat (by decide)
 have r3:=M.rng ns (at' + 1) hm'
 have m1:=M.ok (sub:=sub) (n:=n) (S:=S) ns (k:=at' + 1) (m:=9973) a1 (by decide)
 have m3:=M.ok (sub:=sub) (n:=n) (S:=S) ns (k:=at' + 1) (m:=many) a1 hm'
 have m4:=M.ok (sub:=sub) (n:=n) (S:=S) ns (k:=at' + 2) (m:=3) a2 (by decide)
 have r4:=M.rng ns (at' + 2) (show (0:Int) < 3 by decide)
 unfold dF
 generalize hw:mx ns at' 7=w at m0
 refine x_call (S1:=S) h.source rfl (aj (aB (d:=.int w) (S1:=S) (by (repeat' done))) ?_) (jg S _)
 by_cases w0:w=0\/(w=1/\streams=0)
 ·rw [if_pos w0]
  refine cI (bU (S1:=S) ?_ (show _=Res.ok (Fl.rt (.tup [.str "value",.int _])) S from aI (by (repeat' done))))
  rcases w0 with rfl|⟨rfl,rfl⟩
  ·exact je (t_k (by (repeat' done)) rfl)
  ·exact bS (t_k (S1:=S) (by (repeat' done)) rfl) (gm (t_k (S1:=S) (by (repeat' done)) rfl) (t_k (by (repeat' done)) rfl))
 ·rw [if_neg w0]
  refine aj (aJ (S1:=S) ?_ aH) ?_
  ·by_cases z:w=0
   ·exact (w0 (.inl z)).elim
   ·by_cases z1:w=1
    ·have hs2:¬ (streams=0):=fun q=>w0 (.inr ⟨z1,q⟩)
     exact bS (t_k (S1:=S) (by (repeat' done)) (beq_false_of_ne z)) (gm (t_k (S1:=S) (by (repeat' done)) (beq_iff_eq.mpr z1)) (t_k (by (repeat' done)) (by simp [hs2])))
    ·exact bS (t_k (S1:=S) (by (repeat' done)) (beq_false_of_ne z)) (jO (t_k (by (repeat' done)) (beq_false_of_ne z1)))
  ·by_cases w1:w=1
   ·have hs':(0:Int) < streams:=by have:¬ streams=0:=fun q=>w0 (.inr ⟨w1,q⟩); omega
    have m2:=M.ok (sub:=sub) (n:=n) (S:=S) ns (k:=at' + 1) (m:=streams) a1 hs'
    have r2:=toNat_cast (M.rng ns (at' + 1) hs').1
    rw [if_pos w1]
    refine cI (bU (S1:=S) (t_k (by (repeat' done)) (beq_iff_eq.mpr w1)) ?_)
    show _=Res.ok (Fl.rt (.tup [.str "input",.int _])) S
    rw [r2]
    exact aI (by (repeat' done))
   ·rw [if_neg w1]
    have t3:=toNat_cast r3.1
    generalize hv:mx ns (at' + 1) many=v at m3 r3 t3
    refine aj (aJ (S1:=S) (t_k (by (repeat' done)) (beq_false_of_ne w1)) aH) (aj (aB (d:=.int v) (S1:=S) (by (repeat' done))) ?_)
    by_cases w2:v.toNat < own/\w < 5
    ·rw [if_pos w2]
     refine cI (bU (S1:=S) (gm (t_k (S1:=S) (by (repeat' done)) (decide_eq_true (by omega))) (t_k (by (repeat' done)) (decide_eq_true w2.2))) ?_)
     show _=Res.ok (Fl.rt (.tup [.str "work",.int _,.int 0])) S
     rw [t3]
     exact aI (by (repeat' done))
    ·rw [if_neg w2]
     refine aj (aJ (S1:=S) ?_ aH) ?_
     ·by_cases w3:v < own
      ·exact gm (t_k (S1:=S) (by (repeat' done)) (decide_eq_true w3)) (t_k (by (repeat' done)) (decide_eq_false fun z=>w2 ⟨by omega,z⟩))
      ·exact jO (t_k (by (repeat' done)) (decide_eq_false w3))
     ·show _=Res.ok (Fl.rt (.tup [.str "work",.int _,.int _])) S
      rw [t3,toNat_cast (show 0<=1+mx ns (at' + 2) 3 by omega)]
      exact aI (by (repeat' done))
theorem qX (M:Mix P mx) (ns:List Int) (at':Int) {streams many own:Nat} (hm:0 < many):(dF mx ns at' streams many own).WF own many streams:=by
 have r1:=M.rng ns (at' + 1) (show (0:Int) < 9973 by decide)
 have r3:=M.rng ns (at' + 1) (show (0:Int) < many by omega)
 have r4:=M.rng ns (at' + 2) (show (0:Int) < 3 by decide)
 unfold dF
 by_cases w0:mx ns at' 7=0\/(mx ns at' 7=1/\streams=0)
 ·rw [if_pos w0]; exact ⟨r1.1,by omega⟩
 ·rw [if_neg w0]
  by_cases w1:mx ns at' 7=1
  ·rw [if_pos w1]
   have hs:streams≠0:=fun z=>w0 (.inr ⟨w1,z⟩)
   have r2:=M.rng ns (at' + 1) (show (0:Int) < streams by omega)
   show _ < streams
   omega
  ·rw [if_neg w1]
   split
   ·rename_i h; exact ⟨by omega,by simpa using h.1⟩
   ·refine ⟨by omega,?_⟩
    rw [if_neg (by omega)]
    omega
noncomputable def cC (i:Int):Int:=if i=0 then 2 else 5
noncomputable def cY (mx:List Int->Int->Int->Int) (ns:List Int) (at':Int) (streams ncrews many own:Nat):Wk where
 crew:=(mx ns (at' + 7) ncrews).toNat
 long:=(1+mx ns (at' + 1) (cC (mx ns (at' + 2) 2))).toNat
 doing:=cW.getD (mx ns at' 5).toNat "plus"
 srcs:=(List.range (1+mx ns (at' + 2) 2).toNat).map fun (k:Nat)=>dF mx ns (at' + 3+3 * (k:Int)) streams many own
 starts:=[mx ns (at' + 0) 9973,mx ns (at' + 5) 9973,mx ns (at' + 6) 9973]
theorem cj (k:Nat):av k=.int (k:Int):=rfl
theorem Cn {i:Int} (h:0<=i/\i < 2):atI [D.int 2,D.int 5] i=some (.int (cC i)):=by
 rcases (show i=0\/i=1 by omega) with rfl|rfl <;> rfl
theorem uI {i:Int} (h:0<=i/\i < 5):atI [D.str "plus",D.str "less",D.str "times",D.str "least",D.str "greatest"] i=some (.str (cW.getD i.toNat "plus")):=by
 obtain ⟨k,rfl⟩:=Int.eq_ofNat_of_zero_le h.1
 rw [iN]
 have hk:k < 5:=by omega
 exact (by decide:∀ k:Fin 5,[D.str "plus",D.str "less",D.str "times",D.str "least",D.str "greatest"][k.1]?=some (.str (cW.getD ((k.1:Nat):Int).toNat "plus"))) ⟨k,hk⟩
theorem xQ (h:HG P) (M:Mix P mx) (ns:List Int) {at':Int} {streams ncrews many own:Nat} (hat:0<=at') (hm:0 < many) (hc:0 < ncrews) :
  ai sub P (n+4) "_law_work" [.fro (ns.map .int),.int at',.tup [.int streams,.int ncrews,.int many],.int own] S=.ok (cY mx ns at' streams ncrews many own).toD S:=by
 have r2:=M.rng ns (at' + 2) (show (0:Int) < 2 by decide)
 have rl:0 < cC (mx ns (at' + 2) 2):=by unfold cC; split <;> decide
 have hn:(0:Int) < ncrews:=by omega
 have m (k m:Int) (hk:0<=k) (hm:0 < m) (S:af):ai sub P (n+3) "_law_mixed" [.fro (ns.map .int),.int k,.int m] S=.ok (.int (mx ns k m)) S:=M.ok ns hk hm
 have m2:=m (at' + 2) 2 (by omega) (by decide)
 have m0:=m at' 5 hat (by decide)
 have m7:=m (at' + 7) ncrews (by omega) hn
 have m1:=m (at' + 1) (cC (mx ns (at' + 2) 2)) (by omega) rl
 have hw:=uI (M.rng ns at' (show (0:Int) < 5 by decide))
 have h25:=Cn r2
 have val:(cY mx ns at' streams ncrews many own).toD=.tup [.int (mx ns (at' + 7) ncrews),.int (1+mx ns (at' + 1) (cC (mx ns (at' + 2) 2))),.str (cW.getD (mx ns at' 5).toNat "plus"),
   .tup ((List.range (1+mx ns (at' + 2) 2).toNat).map fun (k:Nat)=>(dF mx ns (at' + 3+3 * (k:Int)) streams many own).toD),.tup [.int (mx ns (at' + 0) 9973),.int (mx ns (at' + 5) 9973),.int (mx ns (at' + 6) 9973)]]:=by
  have e1:=toNat_cast (M.rng ns (at' + 7) hn).1
  have e2:=toNat_cast (i:=1+mx ns (at' + 1) (cC (mx ns (at' + 2) 2))) (by have:=M.rng ns (at' + 1) rl; omega)
  unfold cY Wk.toD
  rw [e1,e2,List.map_map]; rfl
 have hcl:=(cY mx ns at' streams ncrews many own).cl
 rw [val] at hcl ⊢
 generalize hq:(1+mx ns (at' + 2) 2).toNat=q at hcl
 have hq':(1+mx ns (at' + 2) 2)=(q:Int):=by omega
 obtain ⟨x,loop⟩:=i7 (sub:=sub) (cf:=ai sub P (n+3)) (i:=8) (j:=7) (l:=S.length)
   (it:=.iRng (.cs (.bin .add (.c (.int 1)) (.call "_law_mixed" (.cs (.v 0) (.cs (.bin .add (.v 1) (.c (.int 2))) (.cs (.c (.int 2)) .nl))))) .nl))
   (e:=.call "_law_source" (.cs (.v 0) (.cs (.bin .add (.bin .add (.v 1) (.c (.int 3))) (.bin .mul (.c (.int 3)) (.v 8))) (.cs (.v 4) (.cs (.v 6) (.cs (.v 3) .nl))))))
   (σ:=[some (.fro (ns.map .int)),some (.int at'),some (.tup [.int streams,.int ncrews,.int many]),some (.int own),some (.int streams),some (.int ncrews),some (.int many),some (.loc S.length),none,none,none,none])
   (S:=S++[.lst []]) (S1:=S++[.lst []]) (xs:=[]) (ks:=List.range q) (f:=av) (g:=fun (k:Nat)=>(dF mx ns (at' + 3+3 * (k:Int)) streams many own).toD) (o:=none) (raw:=[])
   (dj (by (repeat' (first|done|with_reducible exact m2 _))) hq' (by omega) cj) rfl (bO _ _) (by decide) (Nat.lt_of_sub_pos (by exact Nat.succ_pos 3)) (fun _=>rfl)
   (fun k _ ys=>by
    have:=sA (sub:=sub) (n:=n) (S:=List.set (S++[.lst []]) S.length (.lst ys)) h M ns (at':=at' + 3+3 * (k:Int)) (streams:=streams) (many:=many) (own:=own) (by omega) hm
    rw [cj]
    (repeat' done)) (by unfold aO; rw [List.length_range,List.length_nil]; omega)
 rw [fM,List.nil_append] at loop
 have comp:∀ (y:Option D) (d1 d2:D) (T:af),ev sub (ai sub P (n+3)) (.comp 2 (.call "_law_mixed" (.cs (.v 0) (.cs (.bin .add (.v 1) (.v 13)) (.cs (.c (.int 9973)) .nl)))) (.one 13) (.iSeq (.tup (.cs (.c (.int 0)) (.cs (.c (.int 5)) (.cs (.c (.int 6)) .nl))))) .nl)
   [some (.fro (ns.map .int)),some (.int at'),some (.tup [.int streams,.int ncrews,.int many]),some (.int own),some (.int streams),some (.int ncrews),some (.int many),some (.loc S.length),y,some d1,some d2,none] T =
   .ok (.loc T.length) (T++[.lst [.int (mx ns (at' + 0) 9973),.int (mx ns (at' + 5) 9973),.int (mx ns (at' + 6) 9973)]]):=fun y d1 d2 T =>
  dX (ks:=[0,5,6]) (f:=D.int) (g:=fun k=>.int (mx ns (at' + k) 9973)) (cu (x:=.tup [.int 0,.int 5,.int 6]) (by (repeat' done)) rfl) rfl (fun k hk=>by
   have hk:0<=k:=by
    have:k=0\/k=5\/k=6:=by simpa using hk
    omega
   have:=m (at' + k) 9973 (by omega) (by decide) T
   (repeat' done)) (by decide)
 have go:∀ (T:af),(S++.lst ((List.range q).map fun (k:Nat)=>(dF mx ns (at' + 3+3 * (k:Int)) streams many own).toD)::T)[S.length]?=some (.lst ((List.range q).map fun (k:Nat)=>(dF mx ns (at' + 3+3 * (k:Int)) streams many own).toD)):=fun T=>bL S T _
 refine x_call h.work rfl (aj (lz (ds:=[.int streams,.int ncrews,.int many]) (r_v rfl) rfl) (aj (aB (bP ah rfl)) (aj loop (aj (aB (by (repeat' (first|done|with_reducible exact m0 _))))
  (aj (aB (by (repeat' (first|done|with_reducible exact m2 _|with_reducible exact m1 _)))) (aj (aB (aF (aa (comp _ _ _ _) ah) gi)) (aI (bK (aa (by (repeat' (first|done|with_reducible exact m7 _))) (aa (r_v rfl) (aa (r_v rfl) (aa (aF (aa (r_v rfl) ah) (bX (by rw [List.append_assoc,List.append_assoc,List.append_assoc]; exact go _))) (aa (r_v rfl) ah))))) rfl)))))))) (bu hcl (by rw [List.append_assoc,List.append_assoc,List.append_assoc]; exact dN _ _))
theorem zJ (M:Mix P mx) (ns:List Int) (at':Int) {streams ncrews many own:Nat} (hm:0 < many) (hc:0 < ncrews):(cY mx ns at' streams ncrews many own).WF own many streams ncrews:=by
 have r2:=M.rng ns (at' + 2) (show (0:Int) < 2 by decide)
 have r5:=M.rng ns at' (show (0:Int) < 5 by decide)
 have rl:0 < cC (mx ns (at' + 2) 2)/\cC (mx ns (at' + 2) 2)<=5:=by unfold cC; split <;> decide
 have r1:=M.rng ns (at' + 1) rl.1
 have r7:=M.rng ns (at' + 7) (show (0:Int) < ncrews by omega)
 refine ⟨?_,⟨?_,?_⟩,?_,⟨?_,?_⟩,fun s hs=>?_,rfl,fun v hv=>?_⟩
 ·show (mx ns (at' + 7) ncrews).toNat < ncrews; omega
 ·show 1<=(1+mx ns (at' + 1) (cC (mx ns (at' + 2) 2))).toNat; omega
 ·show (1+mx ns (at' + 1) (cC (mx ns (at' + 2) 2))).toNat<=8; omega
 ·show cW.getD (mx ns at' 5).toNat "plus"∈cW
  rw [List.getD_eq_getElem?_getD,List.getElem?_eq_getElem (show (mx ns at' 5).toNat < cW.length by show _ < 5; omega)]
  exact List.getElem_mem _
 ·show 1<=((List.range (1+mx ns (at' + 2) 2).toNat).map _).length
  rw [List.length_map,List.length_range]; omega
 ·show ((List.range (1+mx ns (at' + 2) 2).toNat).map _).length<=3
  rw [List.length_map,List.length_range]; omega
 ·obtain ⟨k,_,rfl⟩:=List.mem_map.mp hs
  exact qX M ns _ hm
 ·have:∀ k,0<=mx ns k 9973/\mx ns k 9973<=9972:=fun k=>by have:=M.rng ns k (show (0:Int) < 9973 by decide); omega
  have hv:v∈[mx ns (at' + 0) 9973,mx ns (at' + 5) 9973,mx ns (at' + 6) 9973]:=hv
  simp at hv
  rcases hv with rfl|rfl|rfl <;> exact this _
noncomputable def fF (mx:List Int->Int->Int->Int) (ns:List Int) (at':Int) (k:Nat):Nat × Nat:=((1+mx ns (at' + 3+(k:Int)) 2).toNat,(1+mx ns (at' + 5+(k:Int)) 5 / 2).toNat)
noncomputable def b8 (mx:List Int->Int->Int->Int) (ns:List Int) (at':Int) (many:Nat):List Nat:=(List.range many).filter fun k=>decide (0 < mx ns (at' + 7+(k:Int)) 3)
noncomputable def cV (mx:List Int->Int->Int->Int) (ns:List Int) (at' most:Int):Lp where
 streams:=(mx ns at' 3).toNat
 crews:=(List.range (1+mx ns (at' + 2) 2).toNat).map (fF mx ns at')
 works:=(List.range (1+mx ns (at' + 1) most).toNat).map fun (k:Nat)=>cY mx ns (at' + 7+9 * (k:Int)) (mx ns at' 3).toNat (1+mx ns (at' + 2) 2).toNat (1+mx ns (at' + 1) most).toNat k
 outs:=if b8 mx ns at' (1+mx ns (at' + 1) most).toNat=[] then [(1+mx ns (at' + 1) most).toNat - 1] else b8 mx ns at' (1+mx ns (at' + 1) most).toNat
theorem rH (M:Mix P mx) (ns:List Int) {at' most:Int} {nc many:Nat} {os:List Nat} (hq:(1+mx ns (at' + 2) 2).toNat=nc) (hw:(1+mx ns (at' + 1) most).toNat=many) (ho:(if b8 mx ns at' many=[] then [many - 1] else b8 mx ns at' many)=os):(cV mx ns at' most).toD =
  .tup [.int (mx ns at' 3),.tup ((List.range nc).map fun (k:Nat)=>aS (fF mx ns at' k)),.tup ((List.range many).map fun (k:Nat)=>(cY mx ns (at' + 7+9 * (k:Int)) (mx ns at' 3).toNat nc many k).toD),.tup (os.map av)]:=by
 have e0:=toNat_cast (M.rng ns at' (show (0:Int) < 3 by decide)).1
 unfold cV Lp.toD
 simp only [hq,hw,ho,e0,List.map_map]
 rfl
theorem xK (h:HG P) (M:Mix P mx) (ns:List Int) {at' most:Int} (hat:0<=at') (hmo:0 < most) (hmo2:most<=8) :
  ai sub P (n+5) "_law_loop" [.fro (ns.map .int),.int at',.int most] S=.ok (cV mx ns at' most).toD S:=by
 have r1:=M.rng ns (at' + 1) hmo
 have r2:=M.rng ns (at' + 2) (show (0:Int) < 2 by decide)
 have m (k m:Int) (hk:0<=k) (hm:0 < m) (S:af):ai sub P (n+4) "_law_mixed" [.fro (ns.map .int),.int k,.int m] S=.ok (.int (mx ns k m)) S:=M.ok ns hk hm
 have m0:=m at' 3 hat (by decide)
 have m1:=m (at' + 1) most (by omega) hmo
 have m2:=m (at' + 2) 2 (by omega) (by decide)
 have e0:=toNat_cast (M.rng ns at' (show (0:Int) < 3 by decide)).1
 generalize hq:(1+mx ns (at' + 2) 2).toNat=nc
 generalize hw:(1+mx ns (at' + 1) most).toNat=many
 have hq':(1+mx ns (at' + 2) 2)=(nc:Int):=by omega
 have hw':(1+mx ns (at' + 1) most)=(many:Int):=by omega
 have hcl:=(cV mx ns at' most).cl
 generalize ho:(if b8 mx ns at' many=[] then [many - 1] else b8 mx ns at' many)=os
 rw [rH M ns hq hw ho] at hcl ⊢
 generalize hs:(mx ns at' 3).toNat=streams at e0 hcl ⊢
 obtain ⟨x,loop1⟩:=i7 (sub:=sub) (cf:=ai sub P (n+4)) (i:=6) (j:=5) (l:=S.length) (it:=.iRng (.cs (.bin .add (.c (.int 1)) (.call "_law_mixed" (.cs (.v 0) (.cs (.bin .add (.v 1) (.c (.int 2))) (.cs (.c (.int 2)) .nl))))) .nl))
   (e:=.tup (.cs (.bin .add (.c (.int 1)) (.call "_law_mixed" (.cs (.v 0) (.cs (.bin .add (.bin .add (.v 1) (.c (.int 3))) (.v 6)) (.cs (.c (.int 2)) .nl))))) (.cs (.bin .add (.c (.int 1)) (.bin .fdiv (.call "_law_mixed" (.cs (.v 0) (.cs (.bin .add (.bin .add (.v 1) (.c (.int 5))) (.v 6)) (.cs (.c (.int 5)) .nl)))) (.c (.int 2)))) .nl)))
   (σ:=[some (.fro (ns.map .int)),some (.int at'),some (.int most),some (.int (mx ns at' 3)),some (.int (1+mx ns (at' + 1) most)),some (.loc S.length),none,none,none])
   (S:=S++[.lst []]) (S1:=S++[.lst []]) (xs:=[]) (ks:=List.range nc) (f:=av) (g:=fun (k:Nat)=>aS (fF mx ns at' k)) (o:=none) (raw:=[])
   (dj (by (repeat' (first|done|with_reducible exact m2 _))) hq' (by omega) cj) rfl (bO _ _) (by decide) (Nat.lt_of_sub_pos (by exact Nat.succ_pos 2)) (fun _=>rfl)
   (fun k _ ys=>by
    have q1:=m (at' + 3+(k:Int)) 2 (by omega) (by decide)
    have q2:=m (at' + 5+(k:Int)) 5 (by omega) (by decide)
    have g1:=M.rng ns (at' + 3+(k:Int)) (show (0:Int) < 2 by decide)
    have g2:=M.rng ns (at' + 5+(k:Int)) (show (0:Int) < 5 by decide)
    have t1:=toNat_cast (i:=1+mx ns (at' + 3+(k:Int)) 2) (by omega)
    have t2:=toNat_cast (i:=1+mx ns (at' + 5+(k:Int)) 5 / 2) (by omega)
    rw [cj]
    unfold aS fF
    rw [t1,t2]
    (repeat' (first|done|with_reducible exact q1 _|with_reducible exact q2 _))) (by unfold aO; rw [List.length_range,List.length_nil]; omega)
 rw [fM,List.nil_append] at loop1
 generalize hcr:((List.range nc).map fun (k:Nat)=>aS (fF mx ns at' k))=cr at loop1 hcl ⊢
 have hcrl:cr.length=nc:=by rw [<- hcr,List.length_map,List.length_range]
 obtain ⟨y,loop2⟩:=i7 (sub:=sub) (cf:=ai sub P (n+4)) (i:=6) (j:=7) (l:=(S++[Cell.lst cr]).length) (it:=.iRng (.cs (.v 4) .nl))
   (e:=.call "_law_work" (.cs (.v 0) (.cs (.bin .add (.bin .add (.v 1) (.c (.int 7))) (.bin .mul (.c (.int 9)) (.v 6))) (.cs (.tup (.cs (.v 3) (.cs (.bi .len (.cs (.v 5) .nl)) (.cs (.v 4) .nl)))) (.cs (.v 6) .nl)))))
   (σ:=[some (.fro (ns.map .int)),some (.int at'),some (.int most),some (.int (mx ns at' 3)),some (.int (1+mx ns (at' + 1) most)),some (.loc S.length),x,some (.loc (S++[Cell.lst cr]).length),none])
   (S:=(S++[.lst cr])++[.lst []]) (S1:=(S++[.lst cr])++[.lst []]) (xs:=[]) (ks:=List.range many) (f:=av)
   (g:=fun (k:Nat)=>(cY mx ns (at' + 7+9 * (k:Int)) streams nc many k).toD) (o:=none) (raw:=[])
   (dj (by (repeat' done)) hw' (by omega) cj) rfl (bO _ _) (by decide) (Nat.lt_of_sub_pos (by exact Nat.succ_pos 2)) (fun _=>rfl)
   (fun k _ ys=>by
    rw [fM,cj]
    have hd:=xQ (sub:=sub) (n:=n) (S:=(S++[.lst cr])++[.lst ys]) h M ns (at':=at' + 7+9 * (k:Int)) (streams:=streams) (ncrews:=nc) (many:=many) (own:=k) (by omega) (by omega) (by omega)
    rw [e0,<- hw'] at hd
    have hl:biD sub .len [.loc S.length] ((S++[.lst cr])++[.lst ys])=.ok (.int (nc:Int)) ((S++[.lst cr])++[.lst ys]):=by
     rw [<- hcrl]; exact iD (by rw [List.append_assoc]; exact bL _ _ _)
    (repeat' done)) (by unfold aO; rw [List.length_range,List.length_nil]; omega)
 rw [fM,List.nil_append] at loop2
 generalize hwk:((List.range many).map fun (k:Nat)=>(cY mx ns (at' + 7+9 * (k:Int)) streams nc many k).toD)=wk at loop2 hcl ⊢
 generalize hT:(S++[Cell.lst cr])++[Cell.lst wk]=T at loop2
 have gc:∀ U:af,(T++U)[S.length]?=some (.lst cr):=fun U=>by rw [<- hT,List.append_assoc,List.append_assoc]; exact bL _ _ _
 have gw:∀ U:af,(T++U)[(S++[Cell.lst cr]).length]?=some (.lst wk):=fun U=>by rw [<- hT,List.append_assoc]; exact bL _ _ _
 have tk:∀ U:af,(T++U).take S.length=S:=fun U=>by rw [<- hT,List.append_assoc,List.append_assoc]; exact dN _ _
 have comp:=BS (sub:=sub) (cf:=ai sub P (n+4)) (k:=2) (i:=10) (el:=.v 10) (it:=.iRng (.cs (.v 4) .nl)) (tt:=.cmp .gt (.call "_law_mixed" (.cs (.v 0) (.cs (.bin .add (.bin .add (.v 1) (.c (.int 7))) (.v 10)) (.cs (.c (.int 3)) .nl)))) (.c (.int 0)))
   (σ:=[some (.fro (ns.map .int)),some (.int at'),some (.int most),some (.int (mx ns at' 3)),some (.int (1+mx ns (at' + 1) most)),some (.loc S.length),y,some (.loc (S++[Cell.lst cr]).length),none]) (S:=T) (S1:=T) (s:=⟨(List.range many).map av,none,[]⟩) (g:=id) (p:=fun d=>match d with|.int k=>decide (0 < mx ns (at' + 7+k) 3)|_=>false) rfl
   (dj (by (repeat' done)) hw' (by omega) cj) rfl
   (fun d hd=>by
    obtain ⟨k,_,rfl⟩:=List.mem_map.mp hd
    have:=m (at' + 7+(k:Int)) 3 (by omega) (by decide) T
    rw [cj]
    (repeat' done))
   (fun d hd _=>r_v rfl) (by unfold aO; rw [List.length_map,List.length_range]; omega)
 rw [List.map_id,List.filter_map,show List.filter ((fun d=>match d with|.int k=>decide (0 < mx ns (at' + 7+k) 3)|_=>false) ∘ av) (List.range many)=b8 mx ns at' many from rfl] at comp
 refine vO h.loop rfl (aj (aB (by (repeat' (first|done|with_reducible exact m0 _)))) (aj (aB (by (repeat' (first|done|with_reducible exact m1 _)))) (aj (aB (bP ah rfl)) (aj loop1 (aj (aB (bP ah rfl)) (aj loop2 (aj (aB comp) rfl))))))) ?_ hcl
 cases hu:b8 mx ns at' many with
 | nil =>
  rw [hu,if_pos rfl] at ho
  subst ho
  have t3:((many - 1:Nat):Int)=1+mx ns (at' + 1) most - 1:=by omega
  have hE:cmD .eq (.loc T.length) (.loc (T++[Cell.lst []]).length) ((T++[.lst []])++[.lst []])=.ok (.bl true) ((T++[.lst []])++[.lst []]):=nR (xs:=[]) (by rw [List.append_assoc]; exact bL _ _ _) (bO _ _)
  refine ⟨_,aj (bU (aG (aL (r_v rfl) (bP ah rfl) hE)) (aB (by (repeat' done)))) (aI (bK (aa (r_v rfl) (aa (aF (aa (r_v rfl) ah) (bX ?_)) (aa (aF (aa (r_v rfl) ah) (bX ?_)) (aa (aF (aa (r_v rfl) ah) (bX ?_)) ah)))) rfl)),?_⟩
  ·rw [List.append_assoc,List.append_assoc]; exact gc _
  ·rw [List.append_assoc,List.append_assoc]; exact gw _
  ·rw [List.map_cons,cj,t3]; exact bO _ _
  ·rw [List.append_assoc,List.append_assoc]; exact tk _
 | cons a r =>
  rw [hu,if_neg (by intro z; cases z)] at ho
  subst ho
  have hE:cmD .eq (.loc T.length) (.loc (T++[Cell.lst ((a::r).map av)]).length) ((T++[.lst ((a::r).map av)])++[.lst []])=.ok (.bl false) ((T++[.lst ((a::r).map av)])++[.lst []]):=nR (xs:=(a::r).map av) (by rw [List.append_assoc]; exact bL _ _ _) (bO _ _)
  refine ⟨_,aj (aJ (aG (aL (r_v rfl) (bP ah rfl) hE)) aH) (aI (bK (aa (r_v rfl) (aa (aF (aa (r_v rfl) ah) (bX ?_)) (aa (aF (aa (r_v rfl) ah) (bX ?_)) (aa (aF (aa (r_v rfl) ah) (bX ?_)) ah)))) rfl)),?_⟩
  ·rw [List.append_assoc]; exact gc _
  ·rw [List.append_assoc]; exact gw _
  ·rw [List.append_assoc]; exact bL _ _ _
  ·rw [List.append_assoc]; exact tk _
theorem mG (p:Nat->Bool) (many:Nat):∀ (k c:Nat),k+c<=many->bN many k ((List.range' k c).filter p)
 | k,0,_=>trivial
 | k,c+1,h=>by
  rw [List.range'_succ,List.filter_cons]
  have:=mG p many (k+1) c (by omega)
  split
  ·exact ⟨Nat.le_refl _,by omega,this⟩
  ·have low:∀ (l:List Nat) (a b:Nat),a<=b->bN many b l->bN many a l:=by
    intro l
    cases l with
    | nil=>intros; trivial
    | cons x r=>intro a b hab ⟨h1,h2,h3⟩; exact ⟨by omega,h2,h3⟩
   exact low _ _ _ (Nat.le_succ _) this
theorem zE (M:Mix P mx) (ns:List Int) {at' most:Int} (hmo:0 < most) (hmo2:most<=8):(cV mx ns at' most).WF:=by
 have r0:=M.rng ns at' (show (0:Int) < 3 by decide)
 have r1:=M.rng ns (at' + 1) hmo
 have r2:=M.rng ns (at' + 2) (show (0:Int) < 2 by decide)
 have hw:(cV mx ns at' most).works.length=(1+mx ns (at' + 1) most).toNat:=by simp [cV]
 have hc:(cV mx ns at' most).crews.length=(1+mx ns (at' + 2) 2).toNat:=by simp [cV]
 refine ⟨?_,?_,fun c hcm=>?_,?_,fun i w hi=>?_,?_,?_⟩
 ·show (mx ns at' 3).toNat<=6; omega
 ·rw [hc]; omega
 ·obtain ⟨k,_,rfl⟩:=List.mem_map.mp hcm
  have q1:=M.rng ns (at' + 3+(k:Int)) (show (0:Int) < 2 by decide)
  have q2:=M.rng ns (at' + 5+(k:Int)) (show (0:Int) < 5 by decide)
  simp only [fF]
  omega
 ·rw [hw]; omega
 ·rw [hw,hc]
  have hi':i < (1+mx ns (at' + 1) most).toNat:=by rw [<- hw]; exact (List.getElem?_eq_some_iff.mp hi).1
  have hi:((List.range (1+mx ns (at' + 1) most).toNat).map fun (k:Nat)=>cY mx ns (at' + 7+9 * (k:Int)) (mx ns at' 3).toNat (1+mx ns (at' + 2) 2).toNat (1+mx ns (at' + 1) most).toNat k)[i]?=some w:=hi
  rw [List.getElem?_map,List.getElem?_range hi'] at hi
  cases hi
  exact zJ M ns _ (by omega) (by omega)
 ·show 1<=(if b8 mx ns at' (1+mx ns (at' + 1) most).toNat=[] then [(1+mx ns (at' + 1) most).toNat - 1] else b8 mx ns at' (1+mx ns (at' + 1) most).toNat).length
  split
  ·simp
  ·rename_i h; exact List.length_pos_iff.mpr h
 ·rw [hw]
  show bN _ 0 (if b8 mx ns at' (1+mx ns (at' + 1) most).toNat=[] then [(1+mx ns (at' + 1) most).toNat - 1] else b8 mx ns at' (1+mx ns (at' + 1) most).toNat)
  split
  ·exact ⟨Nat.zero_le _,by omega,trivial⟩
  ·unfold b8
   rw [List.range_eq_range']
   exact mG _ _ 0 _ (by omega)
noncomputable def ak (r:List Int):D:=.tup (r.map .int)
structure pM (streams:Nat) (rows:List (List Int)):Prop where
 len:∀ r∈rows,r.length=streams
 val:∀ r∈rows,∀ v∈r,0<=v/\v<=9972
noncomputable def c8 (seed:Int) (k j:Nat):Int:=(seed+104729 * (k:Int) * (k:Int)+7919 * (k:Int)+31 * (j:Int)) * 48271 % 2147483647
noncomputable def dS (d:Int):Int:=if d % 2=0 then d / 7 % 9973 else d / 7 % 4
noncomputable def cE (seed:Int) (streams k:Nat):List Int:=(List.range streams).map fun j=>dS (c8 seed k j)
theorem nN (n:Nat):List.range (n+1)=List.range n++[n]:=List.range_succ
theorem tB (d:Int):atI [D.int (d / 7 % 9973),D.int (d / 7 % 4)] (d % 2)=some (.int (dS d)):=by
 unfold dS
 rcases Int.emod_two_eq d with e|e <;> rw [e] <;> rfl
theorem vY (h:HG P) (hi:Has P "_law_inputs" jc) (M:Mix P mx) (ns:List Int) {at':Int} {streams most:Nat} (hat:0<=at') (hmo:most<=100) (hst:streams<=100) :
  ∃ rows,rows.length<=most/\pM streams rows/\ai sub P (n+3) "_law_inputs" [.fro (ns.map .int),.int at',.int streams,.int most] S=.ok (.loc S.length) (S++[.lst (rows.map ak)]):=by
 have r1:=M.rng ns (at' + 1) (show (0:Int) < (most:Int)+1 by omega)
 have m0:∀ S,ai sub P (n+2) "_law_mixed" [.fro (ns.map .int),.int at',.int 1000000000] S=.ok (.int (mx ns at' 1000000000)) S:=fun S=>M.ok ns hat (by decide)
 have m1:∀ S,ai sub P (n+2) "_law_mixed" [.fro (ns.map .int),.int (at' + 1),.int ((most:Int)+1)] S=.ok (.int (mx ns (at' + 1) ((most:Int)+1))) S:=fun S=>M.ok ns (by omega) (by omega)
 generalize hq:(mx ns (at' + 1) ((most:Int)+1)).toNat=q
 have hq':mx ns (at' + 1) ((most:Int)+1)=(q:Int):=by omega
 generalize mx ns at' 1000000000=seed at m0
 refine ⟨(List.range q).map (cE seed streams),by simp; omega,⟨fun r hr=>?_,fun r hr v hv=>?_⟩,?_⟩
 ·obtain ⟨k,_,rfl⟩:=List.mem_map.mp hr
  simp [cE]
 ·obtain ⟨k,_,rfl⟩:=List.mem_map.mp hr
  obtain ⟨j,_,rfl⟩:=List.mem_map.mp hv
  unfold dS
  split <;> omega
 ·have inner:∀ (k:Nat) (hk:k < 1000) (d5:D) (y z:Option D) (S2:af),∃ y' z' G',exec sub (ai sub P (n+2)) (.forS (.one 8) (.iRng (.cs (.v 2) .nl)) (.seq (.set (.one 9) (.bin .mod (.bin .mul (.bin .add (.bin .add (.bin .add (.v 4) (.bin .mul (.bin .mul (.c (.int 104729)) (.v 6)) (.v 6))) (.bin .mul (.c (.int 7919)) (.v 6))) (.bin .mul (.c (.int 31)) (.v 8))) (.c (.int 48271))) (.c (.int 2147483647))))
     (.ex (.me .append (.v 7) (.cs (.ix (.lst (.cs (.bin .mod (.bin .fdiv (.v 9) (.c (.int 7))) (.c (.int 9973))) (.cs (.bin .mod (.bin .fdiv (.v 9) (.c (.int 7))) (.c (.int 4))) .nl))) (.bin .mod (.v 9) (.c (.int 2)))) .nl)))))
    [some (.fro (ns.map .int)),some (.int at'),some (.int streams),some (.int most),some (.int seed),some d5,some (.int k),some (.loc S2.length),y,z] (S2++[.lst []]) =
    .ok (.nx [some (.fro (ns.map .int)),some (.int at'),some (.int streams),some (.int most),some (.int seed),some d5,some (.int k),some (.loc S2.length),y',z']) (S2++.lst ((cE seed streams k).map .int)::G'):=by
   intro k hk d5 y z S2
   obtain ⟨σ',T',e,y',z',G',hσ,hT⟩:=dm (sub:=sub) (cf:=ai sub P (n+2)) (t:=.one 8) (it:=.iRng (.cs (.v 2) .nl)) (b:=.seq (.set (.one 9) (.bin .mod (.bin .mul (.bin .add (.bin .add (.bin .add (.v 4) (.bin .mul (.bin .mul (.c (.int 104729)) (.v 6)) (.v 6))) (.bin .mul (.c (.int 7919)) (.v 6))) (.bin .mul (.c (.int 31)) (.v 8))) (.c (.int 48271))) (.c (.int 2147483647))))
     (.ex (.me .append (.v 7) (.cs (.ix (.lst (.cs (.bin .mod (.bin .fdiv (.v 9) (.c (.int 7))) (.c (.int 9973))) (.cs (.bin .mod (.bin .fdiv (.v 9) (.c (.int 7))) (.c (.int 4))) .nl))) (.bin .mod (.v 9) (.c (.int 2)))) .nl))))
    (σ:=[some (.fro (ns.map .int)),some (.int at'),some (.int streams),some (.int most),some (.int seed),some d5,some (.int k),some (.loc S2.length),y,z]) (S:=S2++[.lst []]) (S1:=S2++[.lst []]) (s:=⟨(List.range streams).map av,none,[]⟩)
    (fun i σ T=>∃ y' z' G',σ=[some (.fro (ns.map .int)),some (.int at'),some (.int streams),some (.int most),some (.int seed),some d5,some (.int k),some (.loc S2.length),y',z']/\T=S2++.lst ((List.range i).map fun (j:Nat)=>.int (dS (c8 seed k j)))::G')
    (dj (by (repeat' done)) rfl (by omega) cj) ⟨y,z,[],rfl,rfl⟩ (fun _ _ _ _=>rfl) (fun i hi σ T ⟨y',z',G',hσ,hT⟩=>by
     subst hσ; subst hT
     have hi':i < streams:=by simpa using hi
     rw [gr,List.getElem_map,List.getElem_range,cj]
     refine ⟨_,_,?_,some (.int i),some (.int (c8 seed k i)),G'++[.lst [.int (c8 seed k i / 7 % 9973),.int (c8 seed k i / 7 % 4)]],rfl,rfl⟩
     have hap:∀ c:Cell,meD .append (.loc S2.length) [.int (dS (c8 seed k i))] ((S2++.lst ((List.range i).map fun (j:Nat)=>.int (dS (c8 seed k j)))::G')++[c])=.ok .non (S2++.lst ((List.range (i+1)).map fun (j:Nat)=>.int (dS (c8 seed k j)))::(G'++[c])):=fun c=>by
      rw [List.append_assoc,List.cons_append,gk (by rw [List.length_map,List.length_range]; omega),nN,List.map_append]; rfl
     have hat:=tB (c8 seed k i)
     exact aj (aB (d:=.int (c8 seed k i)) (by (repeat' done))) (c9 (dh (r_v rfl) (by (repeat' done)) (hap _))))
   subst hσ; subst hT
   refine ⟨y',z',G',?_⟩
   rw [e]
   simp [cE]
  obtain ⟨σ',T',e,a,b,c,d,G,hσ,hT⟩:=dm (sub:=sub) (cf:=ai sub P (n+2)) (t:=.one 6) (it:=.iRng (.cs (.call "_law_mixed" (.cs (.v 0) (.cs (.bin .add (.v 1) (.c (.int 1))) (.cs (.bin .add (.v 3) (.c (.int 1))) .nl)))) .nl)) (b:=.seq (.set (.one 7) (.lst .nl)) (.seq (.forS (.one 8) (.iRng (.cs (.v 2) .nl))
     (.seq (.set (.one 9) (.bin .mod (.bin .mul (.bin .add (.bin .add (.bin .add (.v 4) (.bin .mul (.bin .mul (.c (.int 104729)) (.v 6)) (.v 6))) (.bin .mul (.c (.int 7919)) (.v 6))) (.bin .mul (.c (.int 31)) (.v 8))) (.c (.int 48271))) (.c (.int 2147483647))))
     (.ex (.me .append (.v 7) (.cs (.ix (.lst (.cs (.bin .mod (.bin .fdiv (.v 9) (.c (.int 7))) (.c (.int 9973))) (.cs (.bin .mod (.bin .fdiv (.v 9) (.c (.int 7))) (.c (.int 4))) .nl))) (.bin .mod (.v 9) (.c (.int 2)))) .nl)))))
     (.ex (.me .append (.v 5) (.cs (.bi .tuple (.cs (.v 7) .nl)) .nl)))))
    (σ:=[some (.fro (ns.map .int)),some (.int at'),some (.int streams),some (.int most),some (.int seed),some (.loc S.length),none,none,none,none]) (S:=S++[.lst []]) (S1:=S++[.lst []]) (s:=⟨(List.range q).map av,none,[]⟩)
    (fun i σ T=>∃ a b c d G,σ=[some (.fro (ns.map .int)),some (.int at'),some (.int streams),some (.int most),some (.int seed),some (.loc S.length),a,b,c,d]/\T=S++.lst ((List.range i).map fun (j:Nat)=>ak (cE seed streams j))::G)
    (dj (by (repeat' (first|done|with_reducible exact m1 _))) hq' (by omega) cj) ⟨none,none,none,none,[],rfl,rfl⟩ (fun _ _ _ _=>rfl) (fun i hi σ T ⟨a,b,c,d,G,hσ,hT⟩=>by
     subst hσ; subst hT
     have hi':i < q:=by simpa using hi
     rw [gr,List.getElem_map,List.getElem_range,cj]
     obtain ⟨y',z',G',hin⟩:=inner i (by omega) (.loc S.length) c d (S++.lst ((List.range i).map fun (j:Nat)=>ak (cE seed streams j))::G)
     have hap:∀ c:Cell,∀ U:af,meD .append (.loc S.length) [ak (cE seed streams i)] ((S++.lst ((List.range i).map fun (j:Nat)=>ak (cE seed streams j))::G)++c::U)=.ok .non (S++.lst ((List.range (i+1)).map fun (j:Nat)=>ak (cE seed streams j))::(G++c::U)):=fun c U=>by
      rw [List.append_assoc,List.cons_append,gk (by rw [List.length_map,List.length_range]; omega),nN,List.map_append]; rfl
     refine ⟨_,_,?_,some (.int i),some (.loc (S++.lst ((List.range i).map fun (j:Nat)=>ak (cE seed streams j))::G).length),y',z',G++.lst ((cE seed streams i).map .int)::G',rfl,rfl⟩
     exact aj (aB (bP ah rfl)) (aj hin (c9 (dh (r_v rfl) (aa (aF (aa (r_v rfl) ah) (bX (bL _ _ _))) ah) (hap _ _) (BJ _ _ _ _)))))
  subst hσ; subst hT
  have h10:opD .pow (.int 10) (.int 9) S=.ok (.int 1000000000) S:=by rw [rY]; rfl
  have hlv:=leave_new (S:=S) (T:=.lst ((List.range q).map fun (j:Nat)=>ak (cE seed streams j))::G) (k:=0) rfl (fh (fun j=>by show D.lows 0 _=true; exact oW _) _)
  rw [List.length_map,List.length_range] at e
  rw [List.map_map]
  exact x_call hi rfl (aj (aB (aD (aa (r_v rfl) (aa (r_v rfl) (aa (aC r_c r_c h10) ah))) (m0 _))) (aj (aB (bP ah rfl)) (aj e (aI (r_v rfl))))) hlv
end
end RL

namespace RL
open PySem EV GO
noncomputable def ue:Fn:=⟨2,2,(.ret (.and (.call "is_row" (.cs (.v 0) (.cs (.v 1) (.cs (.v 1) .nl)))) (.bi .all (.cs (.comp 2 (.call "is_value" (.cs (.v 3) .nl)) (.one 3) (.iSeq (.v 0)) .nl) .nl))))⟩
noncomputable def rz:Fn:=⟨2,2,(.seq (.ite (.or (.not (.bi (.inst .list) (.cs (.v 0) .nl))) (.cmp .gt (.bi .len (.cs (.v 0) .nl)) (.c (.int 40))))
  (.ret (.c (.bl false)))
  .skip)
 (.ret (.bi .all (.cs (.comp 2 (.call "is_given" (.cs (.v 3) (.cs (.v 1) .nl))) (.one 3) (.iSeq (.v 0)) .nl) .nl))))⟩
noncomputable def vp:Fn:=⟨2,2,(.seq (.ite (.not (.call "are_inputs" (.cs (.v 1) (.cs (.ix (.v 0) (.c (.int 0))) .nl))))
  (.rais "NoInputs")
  .skip)
 (.ret (.v 1)))⟩
noncomputable def w_:Fn:=⟨1,3,(.seq (.set (.one 1) (.c (.int 1)))
 (.seq (.forS (.one 2) (.iSeq (.v 0))
  (.set (.one 1) (.bin .mul (.v 1) (.v 2))))
 (.ret (.v 1))))⟩
noncomputable def xJ:Fn:=⟨2,2,(.seq (.ite (.cmp .eq (.v 0) (.c (.str "plus")))
  (.ret (.bin .mod (.bi .sum (.cs (.v 1) .nl)) (.c (.int 9973))))
  .skip)
 (.seq (.ite (.cmp .eq (.v 0) (.c (.str "less")))
  (.ret (.bin .mod (.bin .sub (.ix (.v 1) (.c (.int 0))) (.bi .sum (.cs (.sl (.v 1) (.c (.int 1)) .nl) .nl))) (.c (.int 9973))))
  .skip)
 (.seq (.ite (.cmp .eq (.v 0) (.c (.str "times")))
  (.ret (.bin .mod (.call "product" (.cs (.v 1) .nl)) (.c (.int 9973))))
  .skip)
 (.seq (.ite (.cmp .eq (.v 0) (.c (.str "least")))
  (.ret (.bi .min (.cs (.v 1) .nl)))
  .skip)
 (.ret (.bi .max (.cs (.v 1) .nl)))))))⟩
noncomputable def yE:Fn:=⟨1,3,(.seq (.set (.one 1) (.lst .nl))
 (.seq (.forS (.one 2) (.iRng (.cs (.c (.int 3)) (.cs (.c (.int 0)) (.cs (.neg (.c (.int 1))) .nl))))
  (.ex (.me .append (.v 1) (.cs (.comp 2 (.ix (.ix (.v 4) (.c (.int 4))) (.bin .sub (.v 2) (.c (.int 1)))) (.one 4) (.iSeq (.v 0)) .nl) .nl))))
 (.ret (.v 1))))⟩
noncomputable def yJ:Fn:=⟨3,3,(.seq (.ite (.cmp .eq (.ix (.v 0) (.c (.int 0))) (.c (.str "value")))
  (.ret (.ix (.v 0) (.c (.int 1))))
  .skip)
 (.seq (.ite (.cmp .eq (.ix (.v 0) (.c (.int 0))) (.c (.str "input")))
  (.ret (.ix (.v 2) (.ix (.v 0) (.c (.int 1)))))
  .skip)
 (.ret (.ix (.ix (.v 1) (.bin .sub (.neg (.c (.int 1))) (.ix (.v 0) (.c (.int 2))))) (.ix (.v 0) (.c (.int 1)))))))⟩
noncomputable def zO:Fn:=⟨2,8,(.seq (.set (.one 2) (.ix (.call "checked" (.cs (.v 0) .nl)) (.c (.int 2))))
 (.seq (.set (.one 3) (.call "start_rows" (.cs (.v 2) .nl)))
 (.seq (.set (.one 4) (.lst .nl))
 (.seq (.forS (.one 5) (.iSeq (.call "checked_inputs" (.cs (.v 0) (.cs (.v 1) .nl))))
  (.seq (.set (.one 6) (.lst .nl))
 (.seq (.ex (.me .append (.v 3) (.cs (.v 6) .nl)))
 (.seq (.forS (.one 7) (.iSeq (.v 2))
  (.ex (.me .append (.v 6) (.cs (.call "outcome" (.cs (.ix (.v 7) (.c (.int 2))) (.cs (.comp 2 (.call "source_value" (.cs (.v 9) (.cs (.v 3) (.cs (.v 5) .nl)))) (.one 9) (.iSeq (.ix (.v 7) (.c (.int 3)))) .nl) .nl))) .nl))))
 (.ex (.me .append (.v 4) (.cs (.bi .tuple (.cs (.comp 2 (.ix (.v 6) (.v 9)) (.one 9) (.iSeq (.ix (.v 0) (.c (.int 3)))) .nl) .nl)) .nl)))))))
 (.ret (.v 4))))))⟩
structure HV (P:Prg):Prop where
 given:Has P "is_given" ue
 inputs:Has P "are_inputs" rz
 checked:Has P "checked_inputs" vp
 product:Has P "product" w_
 outcome:Has P "outcome" xJ
 startrows:Has P "start_rows" yE
 sourcevalue:Has P "source_value" yJ
 answers:Has P "answers" zO
variable {sub:Sub} {P:Prg} {n:Nat} {S:af}
noncomputable def pX:Int->List Int->Int
 | a,[]=>a
 | a,v::r=>pX (a * v) r
noncomputable def rj (doing:Str) (vs:List Int):Int :=
 if doing = "plus" then vs.sum % 9973 else if doing = "less" then (vs.getD 0 0 - (vs.drop 1).sum) % 9973 else if doing = "times" then pX 1 vs % 9973
 else if doing = "least" then (vs.drop 1).foldl min (vs.getD 0 0) else (vs.drop 1).foldl max (vs.getD 0 0)
noncomputable def kO (works:List Wk) (b:Nat):List Int:=works.map fun w=>w.starts.getD b 0
structure Cs (T:af) (locs:List Nat) (rows:List (List Int)):Prop where
 len:locs.length=rows.length
 row:∀ (m l:Nat) r,locs[m]?=some l->rows[m]?=some r->T[l]?=some (.lst (r.map .int))
noncomputable def zz (rows:List (List Int)) (given:List Int):Srs->Int
 | .val v=>v
 | .inp k=>given.getD k 0
 | .wrk w b=>(rows.getD (rows.length - 1 - b) []).getD w 0
abbrev VR (v:Int):Prop:=0<=v/\v<=9972
theorem VR.small {v:Int} (h:VR v):small v=true:=decide_eq_true ⟨by have:=h.1; omega,by have:=h.2; omega⟩
noncomputable def gv (rows:List (List Int)) (given:List Int):List Wk->List Int->List Int
 | [],row=>row
 | w::ws,row=>gv rows given ws (row++[rj w.doing (w.srcs.map (zz (rows++[row]) given))])
structure AT (S T:af) (locs:List Nat) (rows:List (List Int)) (told:List D):Prop where
 pre:T.take S.length=S
 rws:T[S.length]?=some (.lst (locs.map .loc))
 td:T[S.length+4]?=some (.lst told)
 ra:Cs T locs rows
 lo:∀ l∈locs,S.length < l/\l≠S.length+4
 nd:locs.Nodup
theorem take_set {α:Type} {T:List α} {k l:Nat} {c:α} (h:k<=l):(T.set l c).take k=T.take k:=by
 apply List.ext_getElem?
 intro i
 by_cases hi:i < k
 ·rw [List.getElem?_take_of_lt hi,List.getElem?_take_of_lt hi,List.getElem?_set_ne (by omega)]
 ·rw [List.getElem?_eq_none (by simp; omega),List.getElem?_eq_none (by simp; omega)]
section
variable {T:af} {locs:List Nat} {rows:List (List Int)} {told:List D}
theorem AT.len (h:AT S T locs rows told):S.length+4 < T.length:=(List.getElem?_eq_some_iff.mp h.td).1
theorem AT.lt (h:AT S T locs rows told) {l:Nat} (hl:l∈locs):l < T.length:=by
 obtain ⟨m,hm⟩:=List.getElem?_of_mem hl
 have hm':m < rows.length:=by rw [<- h.ra.len]; exact (List.getElem?_eq_some_iff.mp hm).1
 exact (List.getElem?_eq_some_iff.mp (h.ra.row m l _ hm (List.getElem?_eq_getElem hm'))).1
theorem AT.more (h:AT S T locs rows told) (c:Cell):AT S (T++[c]) locs rows told:=by
 have hl:=h.len
 refine ⟨by rw [List.take_append_of_le_length (by omega)]; exact h.pre,by rw [List.getElem?_append_left (by omega)]; exact h.rws,by rw [List.getElem?_append_left (by omega)]; exact h.td,⟨h.ra.len,fun m l r h1 h2=>?_⟩,h.lo,h.nd⟩
 rw [List.getElem?_append_left (h.lt (List.mem_of_getElem? h1))]
 exact h.ra.row m l r h1 h2
theorem AT.push {L:Nat} {row:List Int} (h:AT S T (locs++[L]) (rows++[row]) told) (v:Int):AT S (T.set L (.lst ((row++[v]).map .int))) (locs++[L]) (rows++[row++[v]]) told:=by
 have hL:=h.lo L (by simp)
 have hLt:=h.lt (l:=L) (by simp)
 have hll:locs.length=rows.length:=by have:=h.ra.len; simpa using this
 refine ⟨by rw [take_set (by omega)]; exact h.pre,by rw [List.getElem?_set_ne (by omega)]; exact h.rws,by rw [List.getElem?_set_ne (by omega)]; exact h.td,⟨by simp [hll],fun m l r h1 h2=>?_⟩,h.lo,h.nd⟩
 by_cases hm:m < locs.length
 ·have h1':locs[m]?=some l:=by rw [List.getElem?_append_left hm] at h1; exact h1
  have hne:L≠l:=by
   intro e
   subst e
   exact (List.nodup_append.mp h.nd).2.2 L (List.mem_of_getElem? h1') L (by simp) rfl
  rw [List.getElem?_set_ne hne]
  refine h.ra.row m l r h1 ?_
  rw [List.getElem?_append_left (by omega)] at h2 ⊢
  exact h2
 ·rw [List.getElem?_append_right (by omega)] at h1
  rw [List.getElem?_append_right (by omega)] at h2
  have hm2:m - locs.length=0:=by
   have:=(List.getElem?_eq_some_iff.mp h1).1; simp at this; omega
  rw [hm2] at h1
  rw [<- hll,hm2] at h2
  simp at h1 h2
  subst h1; subst h2
  rw [List.getElem?_set_self hLt]
theorem AT.last {L:Nat} {row:List Int} (h:AT S T (locs++[L]) (rows++[row]) told):T[L]?=some (.lst (row.map .int)):=by
 have hll:locs.length=rows.length:=by have:=h.ra.len; simpa using this
 exact h.ra.row locs.length L row (by simp) (by rw [hll]; simp)
end
structure C0 (N:Nat) (rows:List (List Int)):Prop where
 len:∀ r∈rows,r.length=N
 val:∀ r∈rows,∀ v∈r,VR v
theorem A6 {T:af} {ds:List D} {k:Nat} (ht:T.take S.length=S) (h:T[S.length+k]?=some (.lst ds)) (hc:D.lows 0 ds=true):leave S (.loc (S.length+k)) T=.ok (.loc S.length) (S++[.lst ds]):=by
 unfold leave
 rw [if_pos ht,if_neg (by show ¬ decide (S.length+k < S.length)=true; simp)]
 simp only [h]
 rw [if_pos (show Cell.low S.length (.lst ds)=true from gp (Nat.zero_le _) hc)]
noncomputable def outD (outs:List Nat) (row:List Int):D:=.tup (outs.map fun k=>.int (row.getD k 0))
noncomputable def mP (works:List Wk) (outs:List Nat):List (List Int)->List (List Int)->List D
 | _,[]=>[]
 | rows,g::gs=>outD outs (gv rows g works [])::mP works outs (rows++[gv rows g works []]) gs
noncomputable def kZ (works:List Wk):List (List Int):=[kO works 2,kO works 1,kO works 0]
noncomputable def CU (l:Lp) (inputs:List (List Int)):List D:=mP l.works l.outs (kZ l.works) inputs
noncomputable def pB (works:List Wk):List (List Int)->List (List Int)->List (List Int)
 | _,[]=>[]
 | rows,g::gs=>gv rows g works []::pB works (rows++[gv rows g works []]) gs
noncomputable def ug:List Wk->List Wk->Prop
 | [],[]=>True
 | w::ws,v::vs=>w.doing=v.doing/\w.srcs=v.srcs/\ug ws vs
 | _,_=>False
end RL

namespace RL
open PySem EV GO
theorem mY {xs:List D} {k:Nat} {d:D} (h:xs[k]?=some d):atI xs (k:Int)=some d:=by rw [iN]; exact h
theorem lQ (k:List Int):∀ kvs:List (List Int × D),(kvs.any fun kv=>decide (kv.1=k))=(aW kvs k).isSome
 | []=>rfl
 | p::r=>by
  have ih:=lQ k r
  unfold aW at ih ⊢
  rw [List.any_cons,List.find?_cons,ih]
  cases decide (p.1=k) <;> rfl
theorem qc (k j:List Int) (d:D):∀ kvs:List (List Int × D),aW (kvs.map fun kv=>if kv.1=k then (kv.1,d) else kv) j=(aW kvs j).map fun e=>if j=k then d else e
 | []=>rfl
 | p::r=>by
  have ih:=qc k j d r
  unfold aW at ih ⊢
  rw [List.map_cons,List.find?_cons,List.find?_cons]
  have e1:(if p.1=k then (p.1,d) else p).1=p.1:=by split <;> rfl
  rw [e1]
  by_cases h:p.1=j
  ·rw [decide_eq_true h]
   by_cases hk:p.1=k
   ·rw [if_pos hk]
    show some d=some (if j=k then d else p.2)
    rw [if_pos (h.symm.trans hk)]
   ·rw [if_neg hk]
    show some p.2=some (if j=k then d else p.2)
    rw [if_neg fun e=>hk (h.trans e)]
  ·rw [decide_eq_false h]
   exact ih
theorem ny (k j:List Int) (d:D):∀ kvs:List (List Int × D),aW kvs k=none->aW (kvs++[(k,d)]) j=if j=k then some d else aW kvs j
 | [],_=>by
  unfold aW
  rw [List.nil_append,List.find?_cons]
  by_cases h:k=j
  ·rw [decide_eq_true (show (k,d).1=j from h),if_pos h.symm]; rfl
  ·rw [decide_eq_false (show ¬ (k,d).1=j from h),if_neg (Ne.symm h)]
 | p::r,hn=>by
  have hn':aW r k=none:=by
   unfold aW at hn ⊢
   rw [List.find?_cons] at hn
   cases q:decide (p.1=k) with
   | true=>rw [q] at hn; cases hn
   | false=>rw [q] at hn; exact hn
  have ih:=ny k j d r hn'
  have hpk:¬ p.1=k:=fun e=>by
   unfold aW at hn
   rw [List.find?_cons,decide_eq_true e] at hn; cases hn
  unfold aW at ih ⊢
  rw [List.cons_append,List.find?_cons,List.find?_cons]
  by_cases h:p.1=j
  ·rw [decide_eq_true h,if_neg fun e=>hpk (h.trans e)]
  ·rw [decide_eq_false h]; exact ih
theorem vh (kvs:List (List Int × D)) (k j:List Int) (d:D):aW (fk kvs k d) j=if j=k then some d else aW kvs j:=by
 unfold fk
 rw [lQ]
 by_cases h:(aW kvs k).isSome=true
 ·rw [if_pos h,qc]
  by_cases e:j=k
  ·subst e
   obtain ⟨x,hx⟩:=Option.isSome_iff_exists.mp h
   rw [hx,if_pos rfl]; simp
  ·rw [if_neg e]
   cases aW kvs j with
   | none=>rfl
   | some x=>show some (if j=k then d else x)=_; rw [if_neg e]
 ·rw [if_neg h]
  have hn:aW kvs k=none:=by
   cases q:aW kvs k with
   | none=>rfl
   | some x=>rw [q] at h; exact absurd rfl h
  exact ny k j d kvs hn
section
variable {sub:Sub} {cf:Str->List D->M D} {σ:Sg} {S S1 S2 S3:af} {d x:D} {ds:List D}
end
noncomputable def CL:Fn:=⟨2,4,(.seq (.ite (.cmp .eq (.v 0) (.c (.str "plus")))
  (.ret (.bin .mod (.bi .sum (.cs (.v 1) .nl)) (.c (.int 9973))))
  .skip)
 (.seq (.ite (.cmp .eq (.v 0) (.c (.str "less")))
  (.ret (.bin .mod (.bin .sub (.ix (.v 1) (.c (.int 0))) (.bi .sum (.cs (.sl (.v 1) (.c (.int 1)) .nl) .nl))) (.c (.int 9973))))
  .skip)
 (.seq (.ite (.cmp .eq (.v 0) (.c (.str "times")))
  (.seq (.set (.one 2) (.c (.int 1)))
 (.seq (.forS (.one 3) (.iSeq (.v 1))
  (.set (.one 2) (.bin .mul (.v 2) (.v 3))))
 (.ret (.bin .mod (.v 2) (.c (.int 9973))))))
  .skip)
 (.ret (.ix (.bi .sorted (.cs (.v 1) .nl)) (.ix (.lst (.cs (.c (.int 0)) (.cs (.neg (.c (.int 1))) .nl))) (.bi .int (.cs (.cmp .eq (.v 0) (.c (.str "greatest"))) .nl))))))))⟩
section
variable {sub:Sub} {P:Prg} {n:Nat} {S:af}
end
end RL

namespace RL
open PySem EV GO
noncomputable def CJ:Fn:=⟨5,6,(.seq (.ite (.cmp .eq (.ix (.v 4) (.c (.int 0))) (.c (.str "value")))
  (.ret (.ix (.v 4) (.c (.int 1))))
  .skip)
 (.seq (.ite (.cmp .eq (.ix (.v 4) (.c (.int 0))) (.c (.str "input")))
  (.ret (.ix (.ix (.v 3) (.v 2)) (.ix (.v 4) (.c (.int 1)))))
  .skip)
 (.seq (.set (.one 5) (.bin .sub (.v 2) (.ix (.v 4) (.c (.int 2)))))
 (.seq (.ite (.cmp .lt (.v 5) (.c (.int 0)))
  (.ret (.ix (.ix (.ix (.ix (.v 0) (.c (.int 2))) (.ix (.v 4) (.c (.int 1)))) (.c (.int 4))) (.bin .sub (.neg (.c (.int 1))) (.v 5))))
  .skip)
 (.ret (.dget (.v 1) (.cs (.ix (.v 4) (.c (.int 1))) (.cs (.v 5) .nl))))))))⟩
noncomputable def CV:Fn:=⟨2,7,(.seq (.set (.one 2) .dnew)
 (.seq (.forS (.one 3) (.iRng (.cs (.bi .len (.cs (.v 1) .nl)) .nl))
  (.forS (.many [4,5]) (.iEnum (.ix (.v 0) (.c (.int 2))))
  (.seq (.set (.one 6) (.comp 2 (.call "_law_value" (.cs (.v 0) (.cs (.v 2) (.cs (.v 3) (.cs (.v 1) (.cs (.v 8) .nl)))))) (.one 8) (.iSeq (.ix (.v 5) (.c (.int 3)))) .nl))
 (.dset (.v 2) (.cs (.v 4) (.cs (.v 3) .nl)) (.call "_law_done" (.cs (.ix (.v 5) (.c (.int 2))) (.cs (.v 6) .nl)))))))
 (.ret (.comp 2 (.bi .tuple (.cs (.comp 2 (.dget (.v 2) (.cs (.v 10) (.cs (.v 8) .nl))) (.one 10) (.iSeq (.ix (.v 0) (.c (.int 3)))) .nl) .nl)) (.one 8) (.iRng (.cs (.bi .len (.cs (.v 1) .nl)) .nl)) .nl))))⟩
noncomputable def Kn (kvs:List (List Int × D)) (rs:List (List Int)):Prop:=∀ (m w:Nat) r,rs[m]?=some r->w < r.length->aW kvs [(w:Int),(m:Int)]=some (.int (r.getD w 0))
theorem Kn.put {kvs:List (List Int × D)} {A:List (List Int)} {row:List Int} (h:Kn kvs (A++[row])) (v:Int):Kn (fk kvs [(row.length:Int),(A.length:Int)] (.int v)) (A++[row++[v]]):=fun m w r e hw=>by
 rw [vh]
 by_cases hm:m < A.length
 ·rw [List.getElem?_append_left hm] at e
  rw [if_neg fun z=>by
   have:=(List.cons.inj (List.cons.inj z).2).1
   omega]
  exact h m w r (by rw [List.getElem?_append_left hm]; exact e) hw
 ·rw [List.getElem?_append_right (by omega)] at e
  cases q:m - A.length with
  | succ j=>rw [q] at e; simp at e
  | zero =>
   rw [q] at e
   have er:r=row++[v]:=(Option.some.inj e).symm
   have em:m=A.length:=by omega
   subst er; subst em
   by_cases hl:w=row.length
   ·subst hl
    rw [if_pos rfl]; simp
   ·have hw':w < row.length:=by simp at hw; omega
    rw [if_neg fun z=>by
     have:=(List.cons.inj z).1
     omega]
    rw [h A.length w row (bO _ _) hw']
    congr 2
    rw [List.getD_eq_getElem?_getD,List.getD_eq_getElem?_getD,List.getElem?_append_left hw']
section
variable {sub:Sub} {P:Prg} {n:Nat} {S:af}
noncomputable def CQ:EV.S:=.seq (.set (.one 6) (.comp 2 (.call "_law_value" (.cs (.v 0) (.cs (.v 2) (.cs (.v 3) (.cs (.v 1) (.cs (.v 8) .nl)))))) (.one 8) (.iSeq (.ix (.v 5) (.c (.int 3)))) .nl))
 (.dset (.v 2) (.cs (.v 4) (.cs (.v 3) .nl)) (.call "_law_done" (.cs (.ix (.v 5) (.c (.int 2))) (.cs (.v 6) .nl))))
end
end RL

namespace RL
open PySem EV GO
theorem dR {α:Type} (f:Nat->List α) (n:Nat):∀ t,(∀ p,p < t->(f p).length=n)->((List.range t).flatMap f).length=t * n
 | 0,_=>by simp
 | t+1,h=>by
  rw [List.range_succ,List.flatMap_append,List.length_append,dR f n t fun p hp=>h p (by omega)]
  simp [h t (by omega),Nat.succ_mul]
theorem oB {α:Type} (f:Nat->List α) (n:Nat):∀ t,(∀ p,p < t->(f p).length=n)->∀ p k,p < t->k < n->((List.range t).flatMap f)[p * n+k]?=(f p)[k]?
 | 0,_,p,k,hp,_=>by omega
 | t+1,h,p,k,hp,hk=>by
  have hl:=dR f n t fun p hp=>h p (by omega)
  rw [List.range_succ,List.flatMap_append]
  by_cases e:p < t
  ·have h1:p * n+k < t * n:=by
    have:(p+1) * n<=t * n:=Nat.mul_le_mul_right n e
    rw [Nat.succ_mul] at this; omega
   rw [List.getElem?_append_left (by rw [hl]; exact h1)]
   exact oB f n t (fun p hp=>h p (by omega)) p k e hk
  ·have e:p=t:=by omega
   subst e
   rw [List.getElem?_append_right (by rw [hl]; omega),hl,show p * n+k - p * n=k by omega]
   simp
noncomputable def mvS (n st t p:Nat):Srs->Srs
 | .val v=>.val v
 | .inp k=>.inp (p * st+k)
 | .wrk w b=>.wrk ((((p:Int) - (b:Int)) % (t:Int)).toNat * n+w) (-(((p:Int) - (b:Int)) / (t:Int))).toNat
noncomputable def aR (starts:List Int) (m:Int):Int:=if m ≥ -3 then starts.getD (-1 - m).toNat 0 else 0
noncomputable def mvW (n st t p:Nat) (w:Wk):Wk:={ w with srcs:=w.srcs.map (mvS n st t p),starts:=[aR w.starts ((p:Int) - 1 * (t:Int)),aR w.starts ((p:Int) - 2 * (t:Int)),aR w.starts ((p:Int) - 3 * (t:Int))] }
noncomputable def unr (l:Lp) (t:Nat):Lp where
 streams:=l.streams * t
 crews:=l.crews
 works:=(List.range t).flatMap fun p=>l.works.map (mvW l.works.length l.streams t p)
 outs:=(List.range t).flatMap fun p=>l.outs.map fun k=>p * l.works.length+k
noncomputable def blk (F:List (List Int)) (t r:Nat):List Int:=(List.range t).flatMap fun q=>F.getD (r * t+q) []
noncomputable def tog (F:List (List Int)) (t m:Nat):List (List Int):=(List.range m).map (blk F t)
theorem Cd {t p b:Nat} (ht:t=2\/t=3) (hp:p < t) (hb:b<=3):(((p:Int) - (b:Int)) % (t:Int)).toNat < t/\p+(-(((p:Int) - (b:Int)) / (t:Int))).toNat * t=b+(((p:Int) - (b:Int)) % (t:Int)).toNat/\(-(((p:Int) - (b:Int)) / (t:Int))).toNat<=2:=by
 rcases ht with rfl|rfl
 ·refine ⟨by omega,by omega,by omega⟩
 ·refine ⟨by omega,by omega,by omega⟩
section
variable {l:Lp} {t:Nat} {F inputs:List (List Int)}
theorem uJ (l:Lp) (t:Nat) {q w:Nat} (hq:q < t) (hw:w < l.works.length):(unr l t).works[q * l.works.length+w]?=some (mvW l.works.length l.streams t q l.works[w]):=by
 show ((List.range t).flatMap fun p=>l.works.map (mvW l.works.length l.streams t p))[q * l.works.length+w]?=_
 rw [oB _ l.works.length t (fun p _=>by rw [List.length_map]) q w hq hw,List.getElem?_map,List.getElem?_eq_getElem hw]; rfl
theorem z_ (l:Lp) (t:Nat):(unr l t).works.length=t * l.works.length:=dR _ _ _ fun p _=>by rw [List.length_map]
theorem getD_some {α:Type} {F:List α} {i:Nat} (d:α) (h:i < F.length):F[i]?=some (F.getD i d):=by
 rw [List.getD_eq_getElem?_getD,List.getElem?_eq_getElem h]; rfl
end
end RL

namespace RL
open PySem EV GO
section
variable {l:Lp} {t:Nat} {inputs:List (List Int)}
theorem qa {many B:Nat}:∀ (xs:List Nat) (ys:List Nat) (least:Nat),least<=B->B<=many->bN B least xs->bN many B ys->bN many least (xs++ys)
 | [],ys,least,h1,h2,_,h4=>by
  cases ys with
  | nil=>trivial
  | cons k r=>exact ⟨by have:=h4.1; omega,h4.2.1,h4.2.2⟩
 | k::r,ys,least,h1,h2,h3,h4=>⟨h3.1,by have:=h3.2.1; omega,qa r ys (k+1) (by have:=h3.2.1; omega) h2 h3.2.2 h4⟩
theorem lY {n p:Nat}:∀ (os:List Nat) (least:Nat),bN n least os->bN (p * n+n) (p * n+least) (os.map fun k=>p * n+k)
 | [],_,_=>trivial
 | k::r,least,h=>⟨by show p * n+least<=p * n+k; have:=h.1; omega,by show p * n+k < p * n+n; have:=h.2.1; omega,by have:=lY (p:=p) r (k+1) h.2.2; rw [show p * n+(k+1)=p * n+k+1 by omega] at this; exact this⟩
theorem mL {n:Nat} {os:List Nat} (h:bN n 0 os):∀ t,bN (t * n) 0 ((List.range t).flatMap fun p=>os.map fun k=>p * n+k)
 | 0=>trivial
 | t+1=>by
  rw [List.range_succ,List.flatMap_append,List.flatMap_singleton,Nat.succ_mul]
  exact qa _ _ 0 (Nat.zero_le _) (by omega) (mL h t) (lY os 0 h)
theorem kj {starts:List Int} (h:∀ v∈starts,0<=v/\v<=9972) (m:Int):0<=aR starts m/\aR starts m<=9972:=by
 unfold aR
 split
 ·rw [List.getD_eq_getElem?_getD]
  cases q:starts[(-1 - m).toNat]? with
  | none=>exact ⟨by decide,by decide⟩
  | some v=>exact h v (List.mem_of_getElem? q)
 ·exact ⟨by decide,by decide⟩
theorem rW (ht:t=2\/t=3) {p j n st:Nat} (hp:p < t) (hj:j < n) {s:Srs} (hs:s.WF j n st):(mvS n st t p s).WF (p * n+j) (t * n) (st * t):=by
 have hpn:p * n+n<=t * n:=by
  have:(p+1) * n<=t * n:=Nat.mul_le_mul_right n hp
  rw [Nat.succ_mul] at this; exact this
 cases s with
 | val v=>exact hs
 | inp k =>
  have hk:k < st:=hs
  show p * st+k < st * t
  have:(p+1) * st<=t * st:=Nat.mul_le_mul_right st hp
  rw [Nat.succ_mul,Nat.mul_comm t st] at this; omega
 | wrk w b =>
  obtain ⟨hb,hw0⟩:=(show b<=3/\w < (if b=0 then j else n) from hs)
  have hw:w < n:=by split at hw0 <;> omega
  obtain ⟨hq,he,hb2⟩:=Cd ht hp hb
  show (-(((p:Int) - (b:Int)) / (t:Int))).toNat<=3/\(((p:Int) - (b:Int)) % (t:Int)).toNat * n+w < if (-(((p:Int) - (b:Int)) / (t:Int))).toNat=0 then p * n+j else t * n
  generalize (((p:Int) - (b:Int)) % (t:Int)).toNat=q at hq he
  generalize (-(((p:Int) - (b:Int)) / (t:Int))).toNat=b' at he hb2
  refine ⟨by omega,?_⟩
  split
  ·rename_i h0
   subst h0
   by_cases hb0:b=0
   ·subst hb0
    rw [if_pos rfl] at hw0
    have:q=p:=by omega
    subst this; omega
   ·have hqp:q+1<=p:=by omega
    have:(q+1) * n<=p * n:=Nat.mul_le_mul_right n hqp
    rw [Nat.succ_mul] at this; omega
  ·have:(q+1) * n<=t * n:=Nat.mul_le_mul_right n hq
   rw [Nat.succ_mul] at this; omega
theorem qS (ht:t=2\/t=3) (hl:l.WF) (h8:l.works.length * t<=8) (h6:l.streams * t<=6):(unr l t).WF:=by
 have hn:=hl.nworks.1
 have ht2:1<=t:=by rcases ht with rfl|rfl <;> omega
 have hlen:=z_ l t
 refine ⟨h6,hl.ncrews,hl.crews,⟨?_,?_⟩,fun i w h=>?_,?_,?_⟩
 ·rw [hlen]; exact Nat.mul_pos ht2 hn
 ·rw [hlen,Nat.mul_comm]; exact h8
 ·have hi:i < t * l.works.length:=by rw [<- hlen]; exact (List.getElem?_eq_some_iff.mp h).1
  have hq:i / l.works.length < t:=Nat.div_lt_of_lt_mul (by rw [Nat.mul_comm]; exact hi)
  have hj:i % l.works.length < l.works.length:=Nat.mod_lt _ hn
  have hix:i / l.works.length * l.works.length+i % l.works.length=i:=by rw [Nat.mul_comm]; exact Nat.div_add_mod i _
  have hw:=hl.works _ _ (List.getElem?_eq_getElem hj)
  have h1:=uJ l t hq hj
  rw [hix,h] at h1
  have h2:=Option.some.inj h1
  subst h2
  rw [hlen]
  generalize l.works[i % l.works.length]=w at hw
  refine ⟨hw.crew,hw.long,hw.doing,?_,fun s hs=>?_,rfl,fun v hv=>?_⟩
  ·show 1<=(w.srcs.map _).length/\(w.srcs.map _).length<=3
   rw [List.length_map]; exact hw.some
  ·obtain ⟨s0,hs0,rfl⟩:=List.mem_map.mp hs
   have:=rW ht hq hj (hw.srcs s0 hs0)
   rw [hix] at this
   exact this
  ·have hv:v∈[aR w.starts (((i / l.works.length:Nat):Int) - 1 * (t:Int)),aR w.starts (((i / l.works.length:Nat):Int) - 2 * (t:Int)),aR w.starts (((i / l.works.length:Nat):Int) - 3 * (t:Int))]:=hv
   rcases List.mem_cons.mp hv with rfl|hv
   ·exact kj hw.starts _
   ·rcases List.mem_cons.mp hv with rfl|hv
    ·exact kj hw.starts _
    ·rw [List.mem_singleton.mp hv]; exact kj hw.starts _
 ·show 1<=((List.range t).flatMap _).length
  rw [dR (n:=l.outs.length) _ t fun p _=>by rw [List.length_map]]
  exact Nat.mul_pos ht2 hl.nouts
 ·rw [hlen]
  exact mL hl.outs t
noncomputable def CN (l:Lp) (inputs:List (List Int)):List (List Int):=(pB l.works (kZ l.works) inputs).map fun r=>l.outs.map fun k=>r.getD k 0
end
end RL

namespace RL
open PySem EV GO
noncomputable def qy:Fn:=⟨1,1,(.seq (.ite (.not (.call "is_whole" (.cs (.v 0) (.cs (.c (.int 2)) (.cs (.c (.int 3)) .nl)))))
  (.rais "NoRounds")
  .skip)
 (.ret (.v 0)))⟩
noncomputable def mO:Fn:=⟨4,5,(.seq (.ite (.cmp .eq (.ix (.v 3) (.c (.int 0))) (.c (.str "value")))
  (.ret (.v 3))
  .skip)
 (.seq (.ite (.cmp .eq (.ix (.v 3) (.c (.int 0))) (.c (.str "input")))
  (.ret (.tup (.cs (.c (.str "input")) (.cs (.bin .add (.bin .mul (.v 2) (.ix (.v 0) (.c (.int 0)))) (.ix (.v 3) (.c (.int 1)))) .nl))))
  .skip)
 (.seq (.set (.one 4) (.bin .sub (.v 2) (.ix (.v 3) (.c (.int 2)))))
 (.ret (.tup (.cs (.c (.str "work")) (.cs (.bin .add (.bin .mul (.bin .mod (.v 4) (.v 1)) (.bi .len (.cs (.ix (.v 0) (.c (.int 2))) .nl))) (.ix (.v 3) (.c (.int 1)))) (.cs (.neg (.bin .fdiv (.v 4) (.v 1))) .nl))))))))⟩
noncomputable def p8:Fn:=⟨2,2,(.ret (.ite (.cmp .ge (.v 1) (.neg (.c (.int 3)))) (.ix (.v 0) (.bin .sub (.neg (.c (.int 1))) (.v 1))) (.c (.int 0))))⟩
noncomputable def k8:Fn:=⟨4,6,(.seq (.set (.one 4) (.bi .tuple (.cs (.comp 2 (.call "moved_source" (.cs (.v 0) (.cs (.v 1) (.cs (.v 2) (.cs (.v 7) .nl))))) (.one 7) (.iSeq (.ix (.v 3) (.c (.int 3)))) .nl) .nl)))
 (.seq (.set (.one 5) (.bi .tuple (.cs (.comp 2 (.call "start_of" (.cs (.ix (.v 3) (.c (.int 4))) (.cs (.bin .sub (.v 2) (.bin .mul (.v 7) (.v 1))) .nl))) (.one 7) (.iRng (.cs (.c (.int 1)) (.cs (.bin .add (.c (.int 3)) (.c (.int 1))) .nl))) .nl) .nl)))
 (.ret (.tup (.cs (.ix (.v 3) (.c (.int 0))) (.cs (.ix (.v 3) (.c (.int 1))) (.cs (.ix (.v 3) (.c (.int 2))) (.cs (.v 4) (.cs (.v 5) .nl)))))))))⟩
noncomputable def oh:Fn:=⟨2,6,(.seq (.set (.one 2) (.bi .len (.cs (.ix (.call "checked" (.cs (.v 0) .nl)) (.c (.int 2))) .nl)))
 (.seq (.ex (.call "checked_times" (.cs (.v 1) .nl)))
 (.seq (.ite (.or (.cmp .gt (.bin .mul (.v 2) (.v 1)) (.c (.int 8))) (.cmp .gt (.bin .mul (.ix (.v 0) (.c (.int 0))) (.v 1)) (.c (.int 6))))
  (.rais "TooBig")
  .skip)
 (.seq (.set (.one 3) (.lst .nl))
 (.seq (.set (.one 4) (.lst .nl))
 (.seq (.forS (.one 5) (.iRng (.cs (.v 1) .nl))
  (.seq (.ex (.me .extend (.v 3) (.cs (.comp 2 (.call "moved_work" (.cs (.v 0) (.cs (.v 1) (.cs (.v 5) (.cs (.v 7) .nl))))) (.one 7) (.iSeq (.ix (.v 0) (.c (.int 2)))) .nl) .nl)))
 (.ex (.me .extend (.v 4) (.cs (.comp 2 (.bin .add (.bin .mul (.v 5) (.v 2)) (.v 7)) (.one 7) (.iSeq (.ix (.v 0) (.c (.int 3)))) .nl) .nl)))))
 (.ret (.tup (.cs (.bin .mul (.ix (.v 0) (.c (.int 0))) (.v 1)) (.cs (.ix (.v 0) (.c (.int 1))) (.cs (.bi .tuple (.cs (.v 3) .nl)) (.cs (.bi .tuple (.cs (.v 4) .nl)) .nl))))))))))))⟩
noncomputable def nA:Fn:=⟨2,6,(.seq (.set (.one 2) (.lst .nl))
 (.seq (.set (.one 3) (.tup .nl))
 (.seq (.set (.one 4) (.c (.int 0)))
 (.seq (.forS (.one 5) (.iSeq (.v 0))
  (.seq (.set (.one 3) (.bin .add (.v 3) (.v 5)))
 (.seq (.set (.one 4) (.bin .add (.v 4) (.c (.int 1))))
 (.ite (.cmp .eq (.v 4) (.v 1))
  (.seq (.ex (.me .append (.v 2) (.cs (.v 3) .nl)))
 (.seq (.set (.one 3) (.tup .nl))
 (.set (.one 4) (.c (.int 0)))))
  .skip))))
 (.ret (.v 2))))))⟩
structure HU (P:Prg):Prop where
 times:Has P "checked_times" qy
 msrc:Has P "moved_source" mO
 st:Has P "start_of" p8
 mw:Has P "moved_work" k8
 unr:Has P "unrolled" oh
 tog:Has P "rows_together" nA
section
variable {sub:Sub} {P:Prg} {n:Nat} {S:af}
theorem m6 (h:HB P) (hu:HU P) {t:Nat} (ht:t=2\/t=3):ai sub P (n+2) "checked_times" [.int (t:Int)] S=.ok (.int (t:Int)) S :=
 x_call (ds:=[.int (t:Int)]) hu.times rfl (aj (aJ (bw (k:=true) (bI (aD (aa (r_v rfl) (aa r_c (aa r_c ah))) (cO h.whole (by rcases ht with rfl|rfl <;> decide) (by rcases ht with rfl|rfl <;> decide))))) aH) (aI (r_v rfl))) (iy _ _)
theorem A7 (hu:HU P) {l:Lp} {t p:Nat} (ht:t=2\/t=3) (hp:p < t) (hn:l.works.length<=8) (hst:l.streams<=6) {s:Srs} (hs:match s with|.wrk _ b=>b<=3|_=>True) :
  ai sub P (n+1) "moved_source" [l.toD,.int (t:Int),.int (p:Int),s.toD] S=.ok (mvS l.works.length l.streams t p s).toD S:=by
 have hp3:p < 3:=by rcases ht with rfl|rfl <;> omega
 cases s with
 | val v=>exact x_call (ds:=[l.toD,.int (t:Int),.int (p:Int),(Srs.val v).toD]) hu.msrc rfl (cI (bU (aG (aL (ay (r_v rfl) r_c (aA rfl)) r_c rfl)) (aI (r_v rfl)))) (jg _ _)
 | inp k =>
  have e:(mvS l.works.length l.streams t p (.inp k)).toD=.tup [.str "input",.int ((p:Int) * (l.streams:Int)+(k:Int))]:=by
   show D.tup [.str "input",.int ((p * l.streams+k:Nat):Int)]=_
   rw [Int.natCast_add,Int.natCast_mul]
  rw [e]
  exact x_call (ds:=[l.toD,.int (t:Int),.int (p:Int),(Srs.inp k).toD]) hu.msrc rfl (aj (aJ (aG (aL (ay (r_v rfl) r_c (aA rfl)) r_c rfl)) aH) (cI (bU (aG (aL (ay (r_v rfl) r_c (aA rfl)) r_c rfl)) (aI (bK (aa r_c (aa (aC (aC (r_v rfl) (ay (r_v rfl) r_c (aA rfl)) (cH ⟨by omega,by omega⟩)) (ay (r_v rfl) r_c (aA rfl)) (bT _ _ _)) ah)) rfl))))) (bu rfl List.take_length)
 | wrk w b =>
  have hb:b<=3:=hs
  have htp:(0:Int) < (t:Int)/\(t:Int) < 1073741824:=by rcases ht with rfl|rfl <;> decide
  have e:(mvS l.works.length l.streams t p (.wrk w b)).toD=.tup [.str "work",.int ((((p:Int) - (b:Int)) % (t:Int)) * (l.works.length:Int)+(w:Int)),.int (-(((p:Int) - (b:Int)) / (t:Int)))]:=by
   show D.tup [.str "work",.int (((((p:Int) - (b:Int)) % (t:Int)).toNat * l.works.length+w:Nat):Int),.int (((-(((p:Int) - (b:Int)) / (t:Int))).toNat:Nat):Int)]=_
   have e1:(((((p:Int) - (b:Int)) % (t:Int)).toNat:Nat):Int)=((p:Int) - (b:Int)) % (t:Int):=Int.toNat_of_nonneg (Int.emod_nonneg _ (by omega))
   have e2:(((-(((p:Int) - (b:Int)) / (t:Int))).toNat:Nat):Int)=-(((p:Int) - (b:Int)) / (t:Int)):=Int.toNat_of_nonneg (by rcases ht with rfl|rfl <;> omega)
   rw [Int.natCast_add,Int.natCast_mul,e1,e2]
  rw [e]
  have hlen:biD sub .len [.tup (l.works.map Wk.toD)] S=.ok (.int (l.works.length:Int)) S:=by rw [cz,List.length_map]
  exact x_call (ds:=[l.toD,.int (t:Int),.int (p:Int),(Srs.wrk w b).toD]) hu.msrc rfl (aj (aJ (aG (aL (ay (r_v rfl) r_c (aA rfl)) r_c rfl)) aH) (aj (aJ (aG (aL (ay (r_v rfl) r_c (aA rfl)) r_c rfl)) aH) (aj (aB (aC (r_v rfl) (ay (r_v rfl) r_c (aA rfl)) (cF _ _ _)))
   (aI (bK (aa r_c (aa (aC (aC (aC (r_v rfl) (r_v rfl) (ia htp.1)) (aF (aa (ay (r_v rfl) r_c (aA rfl)) ah) hlen) (d7 ⟨by omega,by omega⟩)) (ay (r_v rfl) r_c (aA rfl)) (bT _ _ _)) (aa (e9 (aC (r_v rfl) (r_v rfl) (iW htp))) ah))) rfl))))) (bu rfl List.take_length)
theorem we (hu:HU P) {starts:List Int} (h3:starts.length=3) {m:Int} (hm:m<=-1):ai sub P (n+1) "start_of" [.tup (starts.map .int),.int m] S=.ok (.int (aR starts m)) S:=by
 unfold aR
 by_cases h:m ≥ -3
 ·rw [if_pos h]
  have hix:atI (starts.map D.int) (-1 - m)=some (.int (starts.getD (-1 - m).toNat 0)):=by
   have e:(-1 - m)=(((-1 - m).toNat:Nat):Int):=by omega
   rw [e]
   exact mY (by rw [List.getElem?_map,Int.toNat_natCast,List.getD_eq_getElem?_getD,List.getElem?_eq_getElem (by omega)]; rfl)
  exact x_call (ds:=[.tup (starts.map .int),.int m]) hu.st rfl (aI (qp (t_k (aG (aL (r_v rfl) (e9 r_c) (iA _ _ _))) (decide_eq_true h)) (ay (r_v rfl) (aC (e9 r_c) (r_v rfl) (cF _ _ _)) (aA hix)))) (iy _ _)
 ·rw [if_neg h]
  exact x_call (ds:=[.tup (starts.map .int),.int m]) hu.st rfl (aI (mz (t_k (aG (aL (r_v rfl) (e9 r_c) (iA _ _ _))) (decide_eq_false h)) r_c)) (iy _ _)
theorem rQ (hu:HU P) {l:Lp} {t p:Nat} (ht:t=2\/t=3) (hp:p < t) (hn:l.works.length<=8) (hst:l.streams<=6) {w:Wk} {own ncrews:Nat} (hw:w.WF own l.works.length l.streams ncrews) :
  ai sub P (n+2) "moved_work" [l.toD,.int (t:Int),.int (p:Int),w.toD] S=.ok (mvW l.works.length l.streams t p w).toD S:=by
 have hc:=dX (sub:=sub) (cf:=ai sub P (n+1)) (σ:=[some l.toD,some (.int (t:Int)),some (.int (p:Int)),some w.toD,none,none]) (S:=S) (S1:=S) (k:=2) (i:=7) (el:=.call "moved_source" (.cs (.v 0) (.cs (.v 1) (.cs (.v 2) (.cs (.v 7) .nl))))) (it:=.iSeq (.ix (.v 3) (.c (.int 3))))
  (ks:=w.srcs) (f:=Srs.toD) (g:=fun s=>(mvS l.works.length l.streams t p s).toD) (o:=none) (raw:=w.srcs.map Srs.toD) (cu (ay (r_v rfl) r_c (aA rfl)) rfl) rfl
  (fun s hs=>aD (aa (r_v rfl) (aa (r_v rfl) (aa (r_v rfl) (aa (r_v rfl) ah)))) (A7 hu ht hp hn hst (by
   have:=hw.srcs s hs
   cases s with
   | wrk w b=>exact this.1
   | _=>trivial))) (by have:=hw.some.2; unfold aO; omega)
 have hc2:∀ (T:af) (d:D),ev sub (ai sub P (n+1)) (.comp 2 (.call "start_of" (.cs (.ix (.v 3) (.c (.int 4))) (.cs (.bin .sub (.v 2) (.bin .mul (.v 7) (.v 1))) .nl))) (.one 7) (.iRng (.cs (.c (.int 1)) (.cs (.bin .add (.c (.int 3)) (.c (.int 1))) .nl))) .nl) [some l.toD,some (.int (t:Int)),some (.int (p:Int)),some w.toD,some d,none] T =
   .ok (.loc T.length) (T++[.lst ([1,2,3].map fun (b:Int)=>.int (aR w.starts ((p:Int) - b * (t:Int))))]):=fun T d =>
  dX (ks:=[1,2,3]) (f:=D.int) (g:=fun (b:Int)=>.int (aR w.starts ((p:Int) - b * (t:Int)))) (o:=none) (raw:=[]) (nP (aa r_c (aa (aC r_c r_c (bT _ _ _)) ah)) rfl) rfl (fun b hb=>by
   have hb:b=1\/b=2\/b=3:=by simpa using hb
   exact aD (aa (ay (r_v rfl) r_c (aA rfl)) (aa (aC (r_v rfl) (aC (r_v rfl) (r_v rfl) (cH ⟨by omega,by omega⟩)) (cF _ _ _)) ah)) (we hu hw.three (by rcases ht with rfl|rfl <;> rcases hb with rfl|rfl|rfl <;> omega))) (by decide)
 have e:(mvW l.works.length l.streams t p w).toD=.tup [.int w.crew,.int w.long,.str w.doing,.tup (w.srcs.map fun s=>(mvS l.works.length l.streams t p s).toD),.tup ([1,2,3].map fun (b:Int)=>.int (aR w.starts ((p:Int) - b * (t:Int))))]:=by
  show D.tup [_,_,_,.tup ((w.srcs.map _).map _),.tup [_,_,_]]=_
  rw [List.map_map]; rfl
 have hcl:=(mvW l.works.length l.streams t p w).cl
 rw [e] at hcl ⊢
 exact x_call (ds:=[l.toD,.int (t:Int),.int (p:Int),w.toD]) hu.mw rfl (aj (aB (aF (aa hc ah) gi)) (aj (aB (aF (aa (hc2 _ _) ah) gi)) (aI (bK (aa (ay (r_v rfl) r_c (aA rfl)) (aa (ay (r_v rfl) r_c (aA rfl)) (aa (ay (r_v rfl) r_c (aA rfl)) (aa (r_v rfl) (aa (r_v rfl) ah))))) rfl)))) (bu hcl (by rw [List.append_assoc,dN]))
end
end RL

namespace RL
open PySem EV GO
section
variable {sub:Sub} {cf:Str->List D->M D} {σ:Sg} {S S1 S2:af} {u v:EV.S} {d:D} {ds:List D} {c:Str}
theorem zo (hu:exec sub cf u σ S=.exc c S1):exec sub cf (.seq u v) σ S=.exc c S1:=by
 show (exec sub cf u σ>>=fun f=>match f with|.nx σ'=>exec sub cf v σ'|f=>pure f) S=_
 exact bW hu
theorem BL {P:Prg} {n:Nat} {f:Str} {F:Fn} (hP:P.lookup f=some F) (hl:ds.length=F.par) (hb:exec sub (ai sub P n) F.body (frame F ds) S=.exc c S):ai sub P (n+1) f ds S=.exc c S:=by
 rw [ju hP hl,hb]
 show (if S.take S.length=S then Res.exc c S else .exc c S)=_
 rw [if_pos List.take_length]
theorem xG {f:Str} {es:E} {x:D} (hs:evs sub cf es σ S=.ok ds S1) (h:cf f ds S1=.ok x S2):exec sub cf (.tryR f es c d) σ S=.ok (.rt x) S2:=by
 show (quiet (evs sub cf es σ)>>=fun ds=>cM c d (cf f ds)>>=fun v=>(pure (Fl.rt v):M Fl)) S=_
 rw [az,eF hs,Res.ao,az]
 unfold cM
 rw [h]; rfl
theorem Ac {f:Str} {es:E} (hs:evs sub cf es σ S=.ok ds S1) (h:cf f ds S1=.exc c S2):exec sub cf (.tryR f es c d) σ S=.ok (.rt d) S2:=by
 show (quiet (evs sub cf es σ)>>=fun ds=>cM c d (cf f ds)>>=fun v=>(pure (Fl.rt v):M Fl)) S=_
 rw [az,eF hs,Res.ao,az]
 unfold cM
 rw [h]
 dsimp only
 rw [if_pos rfl]; rfl
end
section
variable {sub:Sub} {P:Prg} {n:Nat} {S:af}
theorem jz {a b:Cell} {G:af}:(S++a::b::G)[S.length+1]?=some b:=by
 rw [List.getElem?_append_right (by omega),show S.length+1 - S.length=1 by omega]; rfl
theorem Bu {a b x:Cell} {G:af}:(S++a::b::G).set S.length x=S++x::b::G:=by
 rw [List.set_append_right _ _ (Nat.le_refl _),Nat.sub_self]; rfl
theorem Ax {a b x:Cell} {G:af}:(S++a::b::G).set (S.length+1) x=S++a::x::G:=by
 rw [List.set_append_right _ _ (by omega),show S.length+1 - S.length=1 by omega]; rfl
theorem mC {cf:Str->List D->M D} {l:Lp} {t:Nat} {x3 x4 x5:Option D} (hn:l.works.length<=8) (hst:l.streams<=6):evT sub cf (.or (.cmp .gt (.bin .mul (.v 2) (.v 1)) (.c (.int 8))) (.cmp .gt (.bin .mul (.ix (.v 0) (.c (.int 0))) (.v 1)) (.c (.int 6)))) [some l.toD,some (.int (t:Int)),some (.int (l.works.length:Int)),x3,x4,x5] S=.ok (decide (l.works.length * t > 8\/l.streams * t > 6)) S:=by
 have h1:evT sub cf (.cmp .gt (.bin .mul (.v 2) (.v 1)) (.c (.int 8))) [some l.toD,some (.int (t:Int)),some (.int (l.works.length:Int)),x3,x4,x5] S=.ok (decide (l.works.length * t > 8)) S:=by
  refine t_k (aG (aL (aC (r_v rfl) (r_v rfl) (cH ⟨by omega,by omega⟩)) r_c (fX _ _ _))) ?_
  rw [<- Int.natCast_mul]
  by_cases h:l.works.length * t > 8
  ·rw [decide_eq_true h,decide_eq_true (by omega)]
  ·rw [decide_eq_false h,decide_eq_false (by omega)]
 have h2:evT sub cf (.cmp .gt (.bin .mul (.ix (.v 0) (.c (.int 0))) (.v 1)) (.c (.int 6))) [some l.toD,some (.int (t:Int)),some (.int (l.works.length:Int)),x3,x4,x5] S=.ok (decide (l.streams * t > 6)) S:=by
  refine t_k (aG (aL (aC (ay (r_v rfl) r_c (aA rfl)) (r_v rfl) (cH ⟨by omega,by omega⟩)) r_c (fX _ _ _))) ?_
  rw [<- Int.natCast_mul]
  by_cases h:l.streams * t > 6
  ·rw [decide_eq_true h,decide_eq_true (by omega)]
  ·rw [decide_eq_false h,decide_eq_false (by omega)]
 by_cases h:l.works.length * t > 8
 ·rw [decide_eq_true h] at h1
  rw [decide_eq_true (.inl h)]
  exact je h1
 ·rw [decide_eq_false h] at h1
  refine t_k (bS h1 h2) ?_
  by_cases h':l.streams * t > 6
  ·rw [decide_eq_true h',decide_eq_true (.inr h')]
  ·rw [decide_eq_false h',decide_eq_false fun z=>z.elim h h']
theorem yD (h:HB P) (hu:HU P) {l:Lp} (hl:l.WF) {t:Nat} (ht:t=2\/t=3) (hb:l.works.length * t > 8\/l.streams * t > 6):ai sub P (n+8) "unrolled" [l.toD,.int (t:Int)] S=.exc "TooBig" S:=by
 have hlen:biD sub .len [.tup (l.works.map Wk.toD)] S=.ok (.int (l.works.length:Int)) S:=by rw [cz,List.length_map]
 have htest:=mC (sub:=sub) (cf:=ai sub P (n+7)) (S:=S) (l:=l) (t:=t) (x3:=none) (x4:=none) (x5:=none) hl.nworks.2 hl.streams
 rw [decide_eq_true hb] at htest
 refine BL (ds:=[l.toD,.int (t:Int)]) hu.unr rfl ?_
 refine aj (aB (aF (aa (ay (aD (aa (r_v rfl) ah) (j_ h hl)) r_c (aA rfl)) ah) hlen)) (aj (c9 (aD (aa (r_v rfl) ah) (m6 h hu ht))) (zo (bU htest ?_)))
 exact AQ sub _ _ _ _
theorem su (h:HB P) (hu:HU P) {l:Lp} (hl:l.WF) {t:Nat} (ht:t=2\/t=3) (h8:l.works.length * t<=8) (h6:l.streams * t<=6):ai sub P (n+8) "unrolled" [l.toD,.int (t:Int)] S=.ok (unr l t).toD S:=by
 have hn8:=hl.nworks.2
 have hst6:=hl.streams
 have ht3:t<=3:=by rcases ht with rfl|rfl <;> omega
 have hlen:biD sub .len [.tup (l.works.map Wk.toD)] S=.ok (.int (l.works.length:Int)) S:=by rw [cz,List.length_map]
 have htest:=mC (sub:=sub) (cf:=ai sub P (n+7)) (S:=S) (l:=l) (t:=t) (x3:=none) (x4:=none) (x5:=none) hn8 hst6
 rw [decide_eq_false (fun z=>z.elim (by omega) (by omega))] at htest
 have hol:=gI hl.outs (Nat.zero_le _)
 obtain ⟨σ',T',e,x5,G,rfl,rfl⟩:=dm (sub:=sub) (cf:=ai sub P (n+7)) (t:=.one 5) (it:=.iRng (.cs (.v 1) .nl))
  (b:=.seq (.ex (.me .extend (.v 3) (.cs (.comp 2 (.call "moved_work" (.cs (.v 0) (.cs (.v 1) (.cs (.v 5) (.cs (.v 7) .nl))))) (.one 7) (.iSeq (.ix (.v 0) (.c (.int 2)))) .nl) .nl))) (.ex (.me .extend (.v 4) (.cs (.comp 2 (.bin .add (.bin .mul (.v 5) (.v 2)) (.v 7)) (.one 7) (.iSeq (.ix (.v 0) (.c (.int 3)))) .nl) .nl))))
  (σ:=[some l.toD,some (.int (t:Int)),some (.int (l.works.length:Int)),some (.loc S.length),some (.loc (S.length+1)),none]) (S:=S++[.lst [],.lst []]) (S1:=S++[.lst [],.lst []]) (s:=⟨(List.range t).map av,none,[]⟩)
  (fun p σ T=>∃ x5 G,σ=[some l.toD,some (.int (t:Int)),some (.int (l.works.length:Int)),some (.loc S.length),some (.loc (S.length+1)),x5]/\T=S++.lst (((List.range p).flatMap fun p=>l.works.map (mvW l.works.length l.streams t p)).map Wk.toD)::.lst (((List.range p).flatMap fun p=>l.outs.map fun k=>p * l.works.length+k).map av)::G)
  (dj (aa (r_v rfl) ah) rfl (by omega) fun _=>rfl) ⟨none,[],rfl,rfl⟩ (fun _ _ _ _=>rfl) (fun p hp σ T ⟨x5,G,hσ,hT⟩=>by
   subst hσ; subst hT
   have hp':p < t:=by simpa using hp
   have hit:((List.range t).map av)[p]'hp=.int (p:Int):=by simp [av]
   show ∃ σ' T',bE sub (ai sub P (n+7)) _ _ (((List.range t).map av)[p]'hp) _ _=_/\_
   rw [hit]
   have hWl:((List.range p).flatMap fun p=>l.works.map (mvW l.works.length l.streams t p)).length=p * l.works.length:=dR _ _ _ fun q _=>by rw [List.length_map]
   have hOl:((List.range p).flatMap fun p=>l.outs.map fun k=>p * l.works.length+k).length=p * l.outs.length:=dR _ _ _ fun q _=>by rw [List.length_map]
   have hpn:p * l.works.length<=3 * 8:=Nat.mul_le_mul (by omega) hn8
   have hpo:p * l.outs.length<=3 * 8:=Nat.mul_le_mul (by omega) (by omega)
   have eW:((List.range (p+1)).flatMap fun p=>l.works.map (mvW l.works.length l.streams t p)).map Wk.toD=((List.range p).flatMap fun p=>l.works.map (mvW l.works.length l.streams t p)).map Wk.toD++l.works.map fun w=>(mvW l.works.length l.streams t p w).toD:=by
    rw [List.range_succ,List.flatMap_append,List.flatMap_singleton,List.map_append,List.map_map]; rfl
   have eO:((List.range (p+1)).flatMap fun p=>l.outs.map fun k=>p * l.works.length+k).map av=((List.range p).flatMap fun p=>l.outs.map fun k=>p * l.works.length+k).map av++l.outs.map fun k=>.int ((p:Int) * (l.works.length:Int)+(k:Int)):=by
    rw [List.range_succ,List.flatMap_append,List.flatMap_singleton,List.map_append,List.map_map]
    have ek:∀ k:Nat,av (p * l.works.length+k)=.int ((p:Int) * (l.works.length:Int)+(k:Int)):=fun k=>by
     show D.int ((p * l.works.length+k:Nat):Int)=_
     rw [Int.natCast_add,Int.natCast_mul]
    rw [show (av ∘ fun k=>p * l.works.length+k)=fun (k:Nat)=>D.int ((p:Int) * (l.works.length:Int)+(k:Int)) from funext ek]
   generalize hW:((List.range p).flatMap fun p=>l.works.map (mvW l.works.length l.streams t p)).map Wk.toD=W at eW
   generalize hO:((List.range p).flatMap fun p=>l.outs.map fun k=>p * l.works.length+k).map av=O at eO
   have hWl':W.length=p * l.works.length:=by rw [<- hW,List.length_map,hWl]
   have hOl':O.length=p * l.outs.length:=by rw [<- hO,List.length_map,hOl]
   have hc1:=dX (sub:=sub) (cf:=ai sub P (n+7)) (σ:=[some l.toD,some (.int (t:Int)),some (.int (l.works.length:Int)),some (.loc S.length),some (.loc (S.length+1)),some (.int (p:Int))]) (S:=S++.lst W::.lst O::G) (S1:=S++.lst W::.lst O::G) (k:=2) (i:=7) (el:=.call "moved_work" (.cs (.v 0) (.cs (.v 1) (.cs (.v 5) (.cs (.v 7) .nl))))) (it:=.iSeq (.ix (.v 0) (.c (.int 2))))
    (ks:=l.works) (f:=Wk.toD) (g:=fun w=>(mvW l.works.length l.streams t p w).toD) (o:=none) (raw:=l.works.map Wk.toD) (cu (ay (r_v rfl) r_c (aA rfl)) rfl) rfl
    (fun w hw=>by
     obtain ⟨i,hi⟩:=List.getElem?_of_mem hw
     exact aD (aa (r_v rfl) (aa (r_v rfl) (aa (r_v rfl) (aa (r_v rfl) ah)))) (rQ hu ht hp' hn8 hst6 (hl.works i w hi))) (by unfold aO; omega)
   have hx1:=jU (l:=S.length) (k:=(S++Cell.lst W::.lst O::G).length) (ds:=W) (es:=l.works.map fun w=>(mvW l.works.length l.streams t p w).toD) (S:=(S++Cell.lst W::.lst O::G)++[.lst (l.works.map fun w=>(mvW l.works.length l.streams t p w).toD)]) (by rw [List.append_assoc]; exact bL _ _ _) (bO _ _) (by rw [hWl',List.length_map]; unfold aO; omega)
   rw [List.append_assoc,List.cons_append,List.cons_append,Bu,<- eW] at hx1
   generalize hW2:((List.range (p+1)).flatMap fun p=>l.works.map (mvW l.works.length l.streams t p)).map Wk.toD=W2 at hx1
   generalize hG2:G++[Cell.lst (l.works.map fun w=>(mvW l.works.length l.streams t p w).toD)]=G2 at hx1
   have hc2:=dX (sub:=sub) (cf:=ai sub P (n+7)) (σ:=[some l.toD,some (.int (t:Int)),some (.int (l.works.length:Int)),some (.loc S.length),some (.loc (S.length+1)),some (.int (p:Int))]) (S:=S++.lst W2::.lst O::G2) (S1:=S++.lst W2::.lst O::G2) (k:=2) (i:=7) (el:=.bin .add (.bin .mul (.v 5) (.v 2)) (.v 7)) (it:=.iSeq (.ix (.v 0) (.c (.int 3))))
    (ks:=l.outs) (f:=av) (g:=fun k=>.int ((p:Int) * (l.works.length:Int)+(k:Int))) (o:=none) (raw:=l.outs.map av) (cu (ay (r_v rfl) r_c (aA rfl)) rfl) rfl
    (fun k hk=>aC (aC (r_v rfl) (r_v rfl) (cH ⟨by omega,by omega⟩)) (r_v rfl) (bT _ _ _)) (by unfold aO; omega)
   have hx2:=jU (l:=S.length+1) (k:=(S++Cell.lst W2::.lst O::G2).length) (ds:=O) (es:=l.outs.map fun (k:Nat)=>D.int ((p:Int) * (l.works.length:Int)+(k:Int))) (S:=(S++Cell.lst W2::.lst O::G2)++[.lst (l.outs.map fun (k:Nat)=>D.int ((p:Int) * (l.works.length:Int)+(k:Int)))]) (by rw [List.append_assoc]; exact jz) (bO _ _) (by rw [hOl',List.length_map]; unfold aO; omega)
   rw [List.append_assoc,List.cons_append,List.cons_append,Ax,<- eO] at hx2
   have hx1':meD .extend (.loc S.length) [.loc (S++Cell.lst W::.lst O::G).length] ((S++Cell.lst W::.lst O::G)++[.lst (l.works.map fun w=>(mvW l.works.length l.streams t p w).toD)])=.ok .non (S++.lst W2::.lst O::G2):=by
    rw [List.append_assoc,List.cons_append,List.cons_append,hG2]; exact hx1
   refine ⟨_,_,dD (aj (c9 (dh (r_v rfl) (aa hc1 ah) hx1' (fj _ _ _))) (c9 (dh (r_v rfl) (aa hc2 ah) (by rw [List.append_assoc,List.cons_append,List.cons_append]; exact hx2) (iu jz)))),some (.int (p:Int)),_,rfl,rfl⟩)
 rw [List.length_map,List.length_range,show ((List.range t).flatMap fun p=>l.works.map (mvW l.works.length l.streams t p))=(unr l t).works from rfl,show ((List.range t).flatMap fun p=>l.outs.map fun k=>p * l.works.length+k)=(unr l t).outs from rfl] at e
 have e1:opD .mul (.int (l.streams:Int)) (.int (t:Int))=fun T=>.ok (.int ((l.streams * t:Nat):Int)) T:=funext fun T=>by rw [Int.natCast_mul]; exact cH ⟨by omega,by omega⟩
 have hcl:=(unr l t).cl
 have eU:(unr l t).toD=.tup [.int ((l.streams * t:Nat):Int),.tup (l.crews.map aS),.tup ((unr l t).works.map Wk.toD),.tup ((unr l t).outs.map av)]:=rfl
 rw [eU] at hcl ⊢
 generalize (unr l t).works.map Wk.toD=W at e hcl
 generalize (unr l t).outs.map av=O at e hcl
 have hret:exec sub (ai sub P (n+7)) (.ret (.tup (.cs (.bin .mul (.ix (.v 0) (.c (.int 0))) (.v 1)) (.cs (.ix (.v 0) (.c (.int 1))) (.cs (.bi .tuple (.cs (.v 3) .nl)) (.cs (.bi .tuple (.cs (.v 4) .nl)) .nl)))))) [some l.toD,some (.int (t:Int)),some (.int (l.works.length:Int)),some (.loc S.length),some (.loc (S.length+1)),x5] (S++.lst W::.lst O::G)=.ok (.rt (.tup [.int ((l.streams * t:Nat):Int),.tup (l.crews.map aS),.tup W,.tup O])) (S++.lst W::.lst O::G) :=
  aI (bK (aa (aC (ay (r_v rfl) r_c (aA rfl)) (r_v rfl) (congrFun e1 _)) (aa (ay (r_v rfl) r_c (aA rfl)) (aa (aF (aa (r_v rfl) ah) (bX (bL _ _ _))) (aa (aF (aa (r_v rfl) ah) (bX jz)) ah)))) rfl)
 have hl4:ev sub (ai sub P (n+7)) (.lst .nl) [some l.toD,some (.int (t:Int)),some (.int (l.works.length:Int)),some (.loc S.length),none,none] (S++[.lst []])=.ok (.loc (S.length+1)) (S++[.lst [],.lst []]):=by
  have:=bP (sub:=sub) (cf:=ai sub P (n+7)) (σ:=[some l.toD,some (.int (t:Int)),some (.int (l.works.length:Int)),some (.loc S.length),none,none]) (S:=S++[.lst []]) ah rfl
  rw [List.length_append,List.append_assoc] at this
  exact this
 have h4:=aB (i:=4) hl4
 have h3:exec sub (ai sub P (n+7)) (.set (.one 3) (.lst .nl)) [some l.toD,some (.int (t:Int)),some (.int (l.works.length:Int)),none,none,none] S=.ok (.nx [some l.toD,some (.int (t:Int)),some (.int (l.works.length:Int)),some (.loc S.length),none,none]) (S++[.lst []]):=aB (bP ah rfl)
 have h2:exec sub (ai sub P (n+7)) (.set (.one 2) (.bi .len (.cs (.ix (.call "checked" (.cs (.v 0) .nl)) (.c (.int 2))) .nl))) [some l.toD,some (.int (t:Int)),none,none,none,none] S=.ok (.nx [some l.toD,some (.int (t:Int)),some (.int (l.works.length:Int)),none,none,none]) S:=aB (aF (aa (ay (aD (aa (r_v rfl) ah) (j_ h hl)) r_c (aA rfl)) ah) hlen)
 have h5:=aj h4 (aj e hret)
 exact x_call (ds:=[l.toD,.int (t:Int)]) hu.unr rfl (aj h2 (aj (c9 (aD (aa (r_v rfl) ah) (m6 h hu ht))) (aj (aJ htest aH) (aj h3 h5)))) (bu hcl (dN _ _))
theorem wu (hu:HU P) {t c:Nat} (ht:t=2\/t=3) {rows:List (List Int)} (hc:S[c]?=some (.lst (rows.map ak))) (hr:∀ r∈rows,r.length<=100) (hn:rows.length<=1000):ai sub P (n+1) "rows_together" [.loc c,.int (t:Int)] S=.ok (.loc S.length) (S++[.lst ((tog rows t (rows.length / t)).map ak)]):=by
 have hcS:c < S.length:=(List.getElem?_eq_some_iff.mp hc).1
 have hT:∀ xs:List D,(S++[Cell.lst xs])[c]?=some (.lst (rows.map ak)):=fun xs=>by rw [List.getElem?_append_left hcS]; exact hc
 have t3:t<=3:=by rcases ht with rfl|rfl <;> omega
 obtain ⟨σ',T',e,x5,rfl,rfl⟩:=dm (sub:=sub) (cf:=ai sub P n) (t:=.one 5) (it:=.iSeq (.v 0)) (b:=.seq (.set (.one 3) (.bin .add (.v 3) (.v 5))) (.seq (.set (.one 4) (.bin .add (.v 4) (.c (.int 1)))) (.ite (.cmp .eq (.v 4) (.v 1)) (.seq (.ex (.me .append (.v 2) (.cs (.v 3) .nl))) (.seq (.set (.one 3) (.tup .nl)) (.set (.one 4) (.c (.int 0))))) .skip)))
  (σ:=[some (.loc c),some (.int (t:Int)),some (.loc S.length),some (.tup []),some (.int 0),none]) (S:=S++[.lst []]) (S1:=S++[.lst []]) (s:=⟨rows.map ak,some c,rows.map ak⟩)
  (fun i σ T=>∃ x5,σ=[some (.loc c),some (.int (t:Int)),some (.loc S.length),some (ak ((List.range (i % t)).flatMap fun q=>rows.getD (i / t * t+q) [])),some (.int ((i % t:Nat):Int)),x5]/\T=S++[.lst ((tog rows t (i / t)).map ak)])
  (cu (r_v rfl) (ku (hT []))) ⟨none,by rw [Nat.zero_mod]; rfl,by rw [Nat.zero_div]; rfl⟩ (fun i σ T h=>by obtain ⟨_,_,rfl⟩:=h; exact jI (.inr ⟨c,rfl,hT _⟩)) (fun i hi σ T ⟨x5,hσ,hT'⟩=>by
   subst hσ; subst hT'
   have hi':i < rows.length:=by simpa using hi
   have hit:(rows.map ak)[i]'hi=ak rows[i]:=List.getElem_map _
   show ∃ σ' T',bE sub (ai sub P n) _ _ ((rows.map ak)[i]'hi) _ _=_/\_
   rw [hit]
   have hdm:i / t * t+i % t=i:=by rw [Nat.mul_comm]; exact Nat.div_add_mod i t
   have hmt:i % t < t:=Nat.mod_lt _ (by rcases ht with rfl|rfl <;> omega)
   have hjl:((List.range (i % t)).flatMap fun q=>rows.getD (i / t * t+q) []).length<=300:=by
    have:∀ k,k<=i % t->((List.range k).flatMap fun q=>rows.getD (i / t * t+q) []).length<=k * 100:=by
     intro k
     induction k with
     | zero=>intro _; simp
     | succ k ih =>
      intro hk
      rw [List.range_succ,List.flatMap_append,List.flatMap_singleton,List.length_append]
      have:=ih (by omega)
      have:=hr _ (List.mem_of_getElem? (getD_some (F:=rows) (i:=i / t * t+k) [] (by omega)))
      omega
    have:=this (i % t) (Nat.le_refl _)
    omega
   have hrl:=hr _ (List.getElem_mem hi')
   have ejoin:(List.range (i % t+1)).flatMap (fun q=>rows.getD (i / t * t+q) [])=((List.range (i % t)).flatMap fun q=>rows.getD (i / t * t+q) [])++rows[i]:=by
    rw [List.range_succ,List.flatMap_append,List.flatMap_singleton,hdm,List.getD_eq_getElem?_getD,List.getElem?_eq_getElem hi']; rfl
   generalize (List.range (i % t)).flatMap (fun q=>rows.getD (i / t * t+q) [])=J at hjl ejoin
   have hadd:∀ T:af,opD .add (ak J) (ak rows[i]) T=.ok (ak (J++rows[i])) T:=fun T=>by
    have:=iV (S:=T) (xs:=J.map D.int) (ys:=(rows[i]).map D.int) (iz (by rw [List.length_map,List.length_map]; omega))
    rw [<- List.map_append] at this
    exact this
   have e4:((i % t:Nat):Int)+1=((i % t+1:Nat):Int):=by omega
   have hadd4:∀ T:af,opD .add (.int ((i % t:Nat):Int)) (.int 1) T=.ok (.int ((i % t+1:Nat):Int)) T:=fun T=>by rw [<- e4]; exact bT _ _ _
   have heq:∀ T:af,cmD .eq (.int ((i % t+1:Nat):Int)) (.int (t:Int)) T=.ok (.bl (decide (i % t+1=t))) T:=fun T=>by
    rw [gy]
    congr 2
    by_cases z:i % t+1=t
    ·rw [z,decide_eq_true rfl]; exact beq_self_eq_true _
    ·rw [decide_eq_false z]; exact beq_eq_false_iff_ne.mpr (by omega)
   by_cases hf:i % t+1=t
   ·have d1:(i+1) / t=i / t+1:=by rcases ht with rfl|rfl <;> omega
    have d2:(i+1) % t=0:=by rcases ht with rfl|rfl <;> omega
    refine ⟨_,_,dD (aj (aB (aC (r_v rfl) (r_v rfl) (hadd _))) (aj (aB (aC (r_v rfl) r_c (hadd4 _))) (bU (aG (aL (r_v rfl) (r_v rfl) (by rw [heq,decide_eq_true hf]))) (aj (c9 (dh (r_v rfl) (aa (r_v rfl) ah) (gk (S:=S) (T:=[]) (by rw [List.length_map]; unfold tog; rw [List.length_map,List.length_range]; have:=Nat.div_le_self i t; omega)) (oz _ _))) (aj (aB (bK ah rfl)) (aB r_c)))))),some (ak rows[i]),?_,?_⟩
    ·rw [d2]; rfl
    ·rw [d1]
     unfold tog
     rw [List.range_succ,List.map_append,List.map_append]
     have e6:blk rows t (i / t)=J++rows[i]:=by
      unfold blk
      rw [<- ejoin,hf]
     rw [List.map_singleton,List.map_singleton,e6]
   ·have d1:(i+1) / t=i / t:=by rcases ht with rfl|rfl <;> omega
    have d2:(i+1) % t=i % t+1:=by rcases ht with rfl|rfl <;> omega
    refine ⟨_,_,dD (aj (aB (aC (r_v rfl) (r_v rfl) (hadd _))) (aj (aB (aC (r_v rfl) r_c (hadd4 _))) (aJ (aG (aL (r_v rfl) (r_v rfl) (by rw [heq,decide_eq_false hf]))) aH))),some (ak rows[i]),?_,?_⟩
    ·rw [d1,d2,ejoin]; rfl
    ·rw [d1])
 rw [List.length_map] at e
 have hlow:D.lows 0 ((tog rows t (rows.length / t)).map ak)=true:=fh (n:=0) (f:=ak) (fun r=>show D.lows 0 (r.map .int)=true from fh (n:=0) (f:=D.int) (fun _=>rfl) r) _
 exact x_call (ds:=[.loc c,.int (t:Int)]) hu.tog rfl (aj (aB (bP ah rfl)) (aj (aB (bK ah rfl)) (aj (aB r_c) (aj e (aI (r_v rfl)))))) (A6 (k:=0) (dN _ _) (bO _ _) hlow)
end
end RL

namespace RL
open PySem EV GO
noncomputable def fL:Fn:=⟨5,7,(.seq (.ite (.cmp .eq (.ix (.v 4) (.c (.int 0))) (.c (.str "value")))
  (.ret (.v 4))
  .skip)
 (.seq (.ite (.cmp .eq (.ix (.v 4) (.c (.int 0))) (.c (.str "input")))
  (.ret (.tup (.cs (.c (.str "input")) (.cs (.bin .add (.bin .mul (.v 1) (.v 3)) (.ix (.v 4) (.c (.int 1)))) .nl))))
  .skip)
 (.seq (.set (.one 5) (.bin .sub (.v 3) (.ix (.v 4) (.c (.int 2)))))
 (.seq (.set (.one 6) (.c (.int 0)))
 (.seq (.whl (.cmp .lt (.v 5) (.c (.int 0)))
  (.seq (.set (.one 5) (.bin .add (.v 5) (.v 2)))
 (.set (.one 6) (.bin .add (.v 6) (.c (.int 1))))))
 (.ret (.tup (.cs (.c (.str "work")) (.cs (.bin .add (.bin .mul (.v 5) (.v 0)) (.ix (.v 4) (.c (.int 1)))) (.cs (.v 6) .nl))))))))))⟩
noncomputable def iM:Fn:=⟨2,18,(.seq (.set (.many [2,3,4,5]) (.v 0))
 (.seq (.set (.one 6) (.lst .nl))
 (.seq (.forS (.one 7) (.iRng (.cs (.v 1) .nl))
  (.forS (.many [8,9,10,11,12]) (.iSeq (.v 4))
  (.seq (.set (.one 13) (.bi .tuple (.cs (.comp 2 (.call "_law_source_in" (.cs (.bi .len (.cs (.v 4) .nl)) (.cs (.v 2) (.cs (.v 1) (.cs (.v 7) (.cs (.v 19) .nl)))))) (.one 19) (.iSeq (.v 11)) .nl) .nl)))
 (.seq (.set (.one 14) (.lst .nl))
 (.seq (.forS (.one 15) (.iSeq (.tup (.cs (.c (.int 1)) (.cs (.c (.int 2)) (.cs (.c (.int 3)) .nl)))))
  (.seq (.set (.one 16) (.bin .sub (.v 7) (.bin .mul (.v 15) (.v 1))))
 (.ex (.me .append (.v 14) (.cs (.ix (.lst (.cs (.c (.int 0)) (.cs (.ix (.bin .add (.v 12) (.bin .mul (.tup (.cs (.c (.int 0)) .nl)) (.c (.int 9)))) (.bin .sub (.neg (.c (.int 1))) (.v 16))) .nl))) (.bi .int (.cs (.cmp .ge (.v 16) (.neg (.c (.int 3)))) .nl))) .nl)))))
 (.ex (.me .append (.v 6) (.cs (.tup (.cs (.v 8) (.cs (.v 9) (.cs (.v 10) (.cs (.v 13) (.cs (.bi .tuple (.cs (.v 14) .nl)) .nl)))))) .nl))))))))
 (.seq (.set (.one 17) (.lst .nl))
 (.seq (.forS (.one 7) (.iRng (.cs (.v 1) .nl))
  (.ex (.me .extend (.v 17) (.cs (.comp 2 (.bin .add (.bin .mul (.v 7) (.bi .len (.cs (.v 4) .nl))) (.v 19)) (.one 19) (.iSeq (.v 5)) .nl) .nl))))
 (.ret (.tup (.cs (.bin .mul (.v 2) (.v 1)) (.cs (.v 3) (.cs (.bi .tuple (.cs (.v 6) .nl)) (.cs (.bi .tuple (.cs (.v 17) .nl)) .nl)))))))))))⟩
section
variable {c:Sg->M Bool} {f:Sg->M Fl} {n:Nat} {σ σ':Sg} {S S1 S2:af}
theorem yY (hc:c σ S=.ok true S1) (hf:f σ S1=.ok (.nx σ') S2):bx c f (n+1) σ S=bx c f n σ' S2:=by
 show (c σ>>=fun k=>if k=true then f σ>>=fun fl=>match fl with|.nx σ'=>bx c f n σ'|.ct σ'=>bx c f n σ'|.bk σ'=>pure (.nx σ')|.rt d=>pure (.rt d) else pure (.nx σ)) S=_
 rw [az,hc,Res.ao,if_pos rfl,az,hf,Res.ao]
theorem wR (hc:c σ S=.ok false S1):bx c f (n+1) σ S=.ok (.nx σ) S1:=by
 show (c σ>>=fun k=>if k=true then f σ>>=fun fl=>match fl with|.nx σ'=>bx c f n σ'|.ct σ'=>bx c f n σ'|.bk σ'=>pure (.nx σ')|.rt d=>pure (.rt d) else pure (.nx σ)) S=_
 rw [az,hc,Res.ao,if_neg (by decide)]; rfl
end
section
variable {sub:Sub} {P:Prg} {n:Nat} {S:af}
theorem nh {cf:Str->List D->M D} {a0 a1 a3 a4:Option D} {t:Nat} {m:Int} (h0:0<=m) (ht:m < (t:Int)):∀ (k N:Nat) (bk:Int),k < N ->
  bx (evT sub cf (.cmp .lt (.v 5) (.c (.int 0)))) (exec sub cf (.seq (.set (.one 5) (.bin .add (.v 5) (.v 2))) (.set (.one 6) (.bin .add (.v 6) (.c (.int 1)))))) N [a0,a1,some (.int (t:Int)),a3,a4,some (.int (m - (k:Int) * (t:Int))),some (.int bk)] S=.ok (.nx [a0,a1,some (.int (t:Int)),a3,a4,some (.int m),some (.int (bk+(k:Int)))]) S
 | 0,N+1,bk,_=>by
  refine (wR (t_k (aG (aL (r_v rfl) r_c (gK _ _ _))) (decide_eq_false (by omega)))).trans ?_
  rw [show m - ((0:Nat):Int) * (t:Int)=m by omega,show bk+((0:Nat):Int)=bk by omega]
 | k+1,N+1,bk,h=>by
  have e:((k+1:Nat):Int) * (t:Int)=(k:Int) * (t:Int)+(t:Int):=by rw [Int.natCast_add,Int.add_mul]; simp
  have hk:(0:Int)<=(k:Int) * (t:Int):=Int.mul_nonneg (by omega) (by omega)
  refine (yY (t_k (aG (aL (r_v rfl) r_c (gK _ _ _))) (decide_eq_true (by omega))) (aj (aB (aC (r_v rfl) (r_v rfl) (bT _ _ _))) (aB (aC (r_v rfl) r_c (bT _ _ _))))).trans ?_
  have:=nh (cf:=cf) (a0:=a0) (a1:=a1) (a3:=a3) (a4:=a4) h0 ht k N (bk+1) (by omega)
  rw [show bk+1+(k:Int)=bk+((k+1:Nat):Int) by omega,show m - (k:Int) * (t:Int)=m - ((k+1:Nat):Int) * (t:Int)+(t:Int) by omega] at this
  exact this
theorem vd (hs:Has P "_law_source_in" fL) {nw st t p:Nat} (ht:t=2\/t=3) (hp:p < t) (hn:nw<=8) (hst:st<=6) {s:Srs} (hb:match s with|.wrk _ b=>b<=3|_=>True) :
  ai sub P (n+1) "_law_source_in" [.int (nw:Int),.int (st:Int),.int (t:Int),.int (p:Int),s.toD] S=.ok (mvS nw st t p s).toD S:=by
 have hp3:p < 3:=by rcases ht with rfl|rfl <;> omega
 cases s with
 | val v=>exact x_call (ds:=[.int (nw:Int),.int (st:Int),.int (t:Int),.int (p:Int),(Srs.val v).toD]) hs rfl (cI (bU (aG (aL (ay (r_v rfl) r_c (aA rfl)) r_c rfl)) (aI (r_v rfl)))) (jg _ _)
 | inp k =>
  have e:(mvS nw st t p (.inp k)).toD=.tup [.str "input",.int ((st:Int) * (p:Int)+(k:Int))]:=by
   show D.tup [.str "input",.int ((p * st+k:Nat):Int)]=_
   rw [Int.natCast_add,Int.natCast_mul,Int.mul_comm]
  rw [e]
  exact x_call (ds:=[.int (nw:Int),.int (st:Int),.int (t:Int),.int (p:Int),(Srs.inp k).toD]) hs rfl (aj (aJ (aG (aL (ay (r_v rfl) r_c (aA rfl)) r_c rfl)) aH) (cI (bU (aG (aL (ay (r_v rfl) r_c (aA rfl)) r_c rfl)) (aI (bK (aa r_c (aa (aC (aC (r_v rfl) (r_v rfl) (cH ⟨by omega,by omega⟩)) (ay (r_v rfl) r_c (aA rfl)) (bT _ _ _)) ah)) rfl))))) (bu rfl List.take_length)
 | wrk w b =>
  have hb:b<=3:=hb
  have e1:(((((p:Int) - (b:Int)) % (t:Int)).toNat:Nat):Int)=((p:Int) - (b:Int)) % (t:Int):=Int.toNat_of_nonneg (Int.emod_nonneg _ (by omega))
  have e2:(((-(((p:Int) - (b:Int)) / (t:Int))).toNat:Nat):Int)=-(((p:Int) - (b:Int)) / (t:Int)):=Int.toNat_of_nonneg (by rcases ht with rfl|rfl <;> omega)
  have hm1:0<=((p:Int) - (b:Int)) % (t:Int):=Int.emod_nonneg _ (by omega)
  have hm2:((p:Int) - (b:Int)) % (t:Int) < (t:Int):=Int.emod_lt_of_pos _ (by omega)
  have e3:(p:Int) - (b:Int)=((p:Int) - (b:Int)) % (t:Int) - (((-(((p:Int) - (b:Int)) / (t:Int))).toNat:Nat):Int) * (t:Int):=by
   rw [e2,Int.neg_mul,Int.sub_neg,Int.mul_comm]
   exact (Int.emod_add_mul_ediv _ _).symm
  have hk:(-(((p:Int) - (b:Int)) / (t:Int))).toNat < 1000000:=by rcases ht with rfl|rfl <;> omega
  have e:(mvS nw st t p (.wrk w b)).toD=.tup [.str "work",.int ((((p:Int) - (b:Int)) % (t:Int)) * (nw:Int)+(w:Int)),.int (0+(((-(((p:Int) - (b:Int)) / (t:Int))).toNat:Nat):Int))]:=by
   show D.tup [.str "work",.int (((((p:Int) - (b:Int)) % (t:Int)).toNat * nw+w:Nat):Int),.int (((-(((p:Int) - (b:Int)) / (t:Int))).toNat:Nat):Int)]=_
   rw [Int.natCast_add,Int.natCast_mul,e1,Int.zero_add]
  rw [e]
  generalize ((p:Int) - (b:Int)) % (t:Int)=m at hm1 hm2 e3
  generalize (-(((p:Int) - (b:Int)) / (t:Int))).toNat=k at e3 hk
  have hw:exec sub (ai sub P n) (.whl (.cmp .lt (.v 5) (.c (.int 0))) (.seq (.set (.one 5) (.bin .add (.v 5) (.v 2))) (.set (.one 6) (.bin .add (.v 6) (.c (.int 1)))))) [some (.int (nw:Int)),some (.int (st:Int)),some (.int (t:Int)),some (.int (p:Int)),some (Srs.wrk w b).toD,some (.int ((p:Int) - (b:Int))),some (.int 0)] S=.ok (.nx [some (.int (nw:Int)),some (.int (st:Int)),some (.int (t:Int)),some (.int (p:Int)),some (Srs.wrk w b).toD,some (.int m),some (.int (0+(k:Int)))]) S:=by
   rw [Aw,e3]
   exact eF (nh hm1 hm2 k dP 0 hk)
  exact x_call (ds:=[.int (nw:Int),.int (st:Int),.int (t:Int),.int (p:Int),(Srs.wrk w b).toD]) hs rfl (aj (aJ (aG (aL (ay (r_v rfl) r_c (aA rfl)) r_c rfl)) aH) (aj (aJ (aG (aL (ay (r_v rfl) r_c (aA rfl)) r_c rfl)) aH) (aj (aB (aC (r_v rfl) (ay (r_v rfl) r_c (aA rfl)) (cF _ _ _))) (aj (aB r_c) (aj hw
   (aI (bK (aa r_c (aa (aC (aC (r_v rfl) (r_v rfl) (d7 ⟨by omega,by omega⟩)) (ay (r_v rfl) r_c (aA rfl)) (bT _ _ _)) (aa (r_v rfl) ah))) rfl))))))) (bu rfl List.take_length)
end
end RL

namespace RL
open PySem EV GO
section
variable {sub:Sub} {P:Prg} {n:Nat} {S:af}
noncomputable def eZ:EV.S:=.seq (.set (.one 16) (.bin .sub (.v 7) (.bin .mul (.v 15) (.v 1))))
 (.ex (.me .append (.v 14) (.cs (.ix (.lst (.cs (.c (.int 0)) (.cs (.ix (.bin .add (.v 12) (.bin .mul (.tup (.cs (.c (.int 0)) .nl)) (.c (.int 9)))) (.bin .sub (.neg (.c (.int 1))) (.v 16))) .nl))) (.bi .int (.cs (.cmp .ge (.v 16) (.neg (.c (.int 3)))) .nl))) .nl)))
noncomputable def gP:EV.S:=.seq (.set (.one 13) (.bi .tuple (.cs (.comp 2 (.call "_law_source_in" (.cs (.bi .len (.cs (.v 4) .nl)) (.cs (.v 2) (.cs (.v 1) (.cs (.v 7) (.cs (.v 19) .nl)))))) (.one 19) (.iSeq (.v 11)) .nl) .nl)))
 (.seq (.set (.one 14) (.lst .nl))
 (.seq (.forS (.one 15) (.iSeq (.tup (.cs (.c (.int 1)) (.cs (.c (.int 2)) (.cs (.c (.int 3)) .nl))))) eZ)
 (.ex (.me .append (.v 6) (.cs (.tup (.cs (.v 8) (.cs (.v 9) (.cs (.v 10) (.cs (.v 13) (.cs (.bi .tuple (.cs (.v 14) .nl)) .nl)))))) .nl)))))
theorem Ay {T:af}:opD .mul (.tup [.int 0]) (.int 9) T=.ok (.tup (List.replicate 9 (.int 0))) T:=rfl
theorem j0 {cf:Str->List D->M D} {a0 a2 a3 a4 a5 a6 a8 a9 a10 a11 a13 a16 a17:Option D} {t p:Nat} {starts:List Int} (ht:t=2\/t=3) (hp:p < t) (h3:starts.length=3) {b:Int} (hb:b=1\/b=2\/b=3) {T:af} {xs:List D} {G:af} (hx:xs.length<=100) :
  exec sub cf eZ [a0,some (.int (t:Int)),a2,a3,a4,a5,a6,some (.int (p:Int)),a8,a9,a10,a11,some (.tup (starts.map .int)),a13,some (.loc T.length),some (.int b),a16,a17] (T++.lst xs::G) =
  .ok (.nx [a0,some (.int (t:Int)),a2,a3,a4,a5,a6,some (.int (p:Int)),a8,a9,a10,a11,some (.tup (starts.map .int)),a13,some (.loc T.length),some (.int b),some (.int ((p:Int) - b * (t:Int))),a17]) (T++.lst (xs++[.int (aR starts ((p:Int) - b * (t:Int)))])::(G++[.lst [.int 0,.int ((starts++List.replicate 9 0).getD (-1 - ((p:Int) - b * (t:Int))).toNat 0)]])):=by
 have hm:-9<=(p:Int) - b * (t:Int)/\(p:Int) - b * (t:Int)<=-1:=by rcases ht with rfl|rfl <;> rcases hb with rfl|rfl|rfl <;> omega
 generalize hM:(p:Int) - b * (t:Int)=M at hm
 have hix:atI (starts.map D.int++List.replicate 9 (.int 0)) (-1 - M)=some (.int ((starts++List.replicate 9 0).getD (-1 - M).toNat 0)):=by
  have e:(-1 - M)=(((-1 - M).toNat:Nat):Int):=by omega
  rw [e]
  refine mY ?_
  rw [show starts.map D.int++List.replicate 9 (D.int 0)=(starts++List.replicate 9 0).map D.int by rw [List.map_append,List.map_replicate],List.getElem?_map,Int.toNat_natCast,List.getD_eq_getElem?_getD,List.getElem?_eq_getElem (by rw [List.length_append,List.length_replicate]; omega)]; rfl
 have hpick:∀ X:Int,X=(starts++List.replicate 9 0).getD (-1 - M).toNat 0->atI [D.int 0,D.int X] (if decide (-3<=M)=true then 1 else 0)=some (.int (aR starts M)):=fun X hX=>by
  unfold aR
  by_cases h:M ≥ -3
  ·rw [if_pos h,decide_eq_true (show -3<=M from h),if_pos rfl,hX,List.getD_eq_getElem?_getD,List.getElem?_append_left (by omega),<- List.getD_eq_getElem?_getD]; rfl
  ·rw [if_neg h,decide_eq_false (show ¬ -3<=M from h),if_neg (by decide)]; rfl
 generalize (starts++List.replicate 9 0).getD (-1 - M).toNat 0=X at hix hpick
 have hint:∀ U:af,biD sub .int [.bl (decide (-3<=M))] U=.ok (.int (if decide (-3<=M)=true then 1 else 0)) U:=fun U=>by cases decide (-3<=M) <;> rfl
 have hpk:=hpick X rfl
 unfold eZ
 refine (aj (aB (aC (r_v rfl) (aC (r_v rfl) (r_v rfl) (cH ⟨by omega,by omega⟩)) (cF _ _ _))) ?_)
 rw [hM]
 have hl:ev sub cf (.lst (.cs (.c (.int 0)) (.cs (.ix (.bin .add (.v 12) (.bin .mul (.tup (.cs (.c (.int 0)) .nl)) (.c (.int 9)))) (.bin .sub (.neg (.c (.int 1))) (.v 16))) .nl))) [a0,some (.int (t:Int)),a2,a3,a4,a5,a6,some (.int (p:Int)),a8,a9,a10,a11,some (.tup (starts.map .int)),a13,some (.loc T.length),some (.int b),some (.int M),a17] (T++.lst xs::G)=.ok (.loc (T++Cell.lst xs::G).length) ((T++.lst xs::G)++[.lst [.int 0,.int X]]) :=
  bP (aa r_c (aa (ay (aC (r_v rfl) (aC (bK (aa r_c ah) rfl) r_c Ay) (iV (iz (by rw [List.length_map,List.length_replicate]; omega)))) (aC (e9 r_c) (r_v rfl) (cF _ _ _)) (aA hix)) ah)) rfl
 refine c9 (d:=.non) (dh (r_v rfl) (aa (ay hl (aF (aa (aL (r_v rfl) (e9 r_c) (iA _ _ _)) ah) (hint _)) (lW hpk)) ah) ?_ (fj _ _ _))
 rw [List.append_assoc,List.cons_append]
 exact gk (by omega)
theorem ve (hs:Has P "_law_source_in" fL) {l:Lp} {t p:Nat} (ht:t=2\/t=3) (hp:p < t) (hn:l.works.length<=8) (hst:l.streams<=6) {w:Wk} {own ncrews:Nat} (hw:w.WF own l.works.length l.streams ncrews)
  {a0 a3 a5 x13 x14 x15 x16 x17:Option D} {W:List D} {G:af} (hW:W.length<=100):∃ y13 y14 y15 y16 G',exec sub (ai sub P (n+1)) gP [a0,some (.int (t:Int)),some (.int (l.streams:Int)),a3,some (.tup (l.works.map Wk.toD)),a5,some (.loc S.length),some (.int (p:Int)),some (.int w.crew),some (.int w.long),some (.str w.doing),some (.tup (w.srcs.map Srs.toD)),some (.tup (w.starts.map .int)),x13,x14,x15,x16,x17] (S++.lst W::G) =
   .ok (.nx [a0,some (.int (t:Int)),some (.int (l.streams:Int)),a3,some (.tup (l.works.map Wk.toD)),a5,some (.loc S.length),some (.int (p:Int)),some (.int w.crew),some (.int w.long),some (.str w.doing),some (.tup (w.srcs.map Srs.toD)),some (.tup (w.starts.map .int)),y13,y14,y15,y16,x17]) (S++.lst (W++[(mvW l.works.length l.streams t p w).toD])::G'):=by
 have hlen:∀ U:af,biD sub .len [.tup (l.works.map Wk.toD)] U=.ok (.int (l.works.length:Int)) U:=fun U=>by rw [cz,List.length_map]
 have hc:=dX (sub:=sub) (cf:=ai sub P (n+1)) (σ:=[a0,some (.int (t:Int)),some (.int (l.streams:Int)),a3,some (.tup (l.works.map Wk.toD)),a5,some (.loc S.length),some (.int (p:Int)),some (.int w.crew),some (.int w.long),some (.str w.doing),some (.tup (w.srcs.map Srs.toD)),some (.tup (w.starts.map .int)),x13,x14,x15,x16,x17]) (S:=S++.lst W::G) (S1:=S++.lst W::G) (k:=2) (i:=19)
  (el:=.call "_law_source_in" (.cs (.bi .len (.cs (.v 4) .nl)) (.cs (.v 2) (.cs (.v 1) (.cs (.v 7) (.cs (.v 19) .nl)))))) (it:=.iSeq (.v 11))
  (ks:=w.srcs) (f:=Srs.toD) (g:=fun s=>(mvS l.works.length l.streams t p s).toD) (o:=none) (raw:=w.srcs.map Srs.toD) (cu (r_v rfl) rfl) rfl
  (fun s hs'=>aD (aa (aF (aa (r_v rfl) ah) (hlen _)) (aa (r_v rfl) (aa (r_v rfl) (aa (r_v rfl) (aa (r_v rfl) ah))))) (vd hs ht hp hn hst (by
   have:=hw.srcs s hs'
   cases s with
   | wrk w b=>exact this.1
   | _=>trivial))) (by have:=hw.some.2; unfold aO; omega)
 generalize hC:(w.srcs.map fun s=>(mvS l.works.length l.streams t p s).toD)=C at hc
 have e:(mvW l.works.length l.streams t p w).toD=.tup [.int w.crew,.int w.long,.str w.doing,.tup C,.tup [.int (aR w.starts ((p:Int) - 1 * (t:Int))),.int (aR w.starts ((p:Int) - 2 * (t:Int))),.int (aR w.starts ((p:Int) - 3 * (t:Int)))]]:=by
  rw [<- hC]
  show D.tup [.int w.crew,.int w.long,.str w.doing,.tup ((w.srcs.map (mvS l.works.length l.streams t p)).map Srs.toD),_]=_
  rw [List.map_map]; rfl
 rw [e]
 generalize hT:(S++Cell.lst W::G)++[Cell.lst C]=T
 have hT':T=S++.lst W::(G++[.lst C]):=by rw [<- hT,List.append_assoc,List.cons_append]
 have h14:ev sub (ai sub P (n+1)) (.lst .nl) [a0,some (.int (t:Int)),some (.int (l.streams:Int)),a3,some (.tup (l.works.map Wk.toD)),a5,some (.loc S.length),some (.int (p:Int)),some (.int w.crew),some (.int w.long),some (.str w.doing),some (.tup (w.srcs.map Srs.toD)),some (.tup (w.starts.map .int)),some (.tup C),x14,x15,x16,x17] T=.ok (.loc T.length) (T++.lst []::[]):=bP ah rfl
 have s1:=fun a16 G=>j0 (sub:=sub) (cf:=ai sub P (n+1)) (a0:=a0) (a2:=some (.int (l.streams:Int))) (a3:=a3) (a4:=some (.tup (l.works.map Wk.toD))) (a5:=a5) (a6:=some (.loc S.length)) (a8:=some (.int w.crew)) (a9:=some (.int w.long)) (a10:=some (.str w.doing)) (a11:=some (.tup (w.srcs.map Srs.toD))) (a13:=some (.tup C)) (a16:=a16) (a17:=x17) ht hp hw.three (b:=1) (.inl rfl) (T:=T) (xs:=[]) (G:=G) (Nat.zero_le _)
 have s2:=fun a16 d1 G=>j0 (sub:=sub) (cf:=ai sub P (n+1)) (a0:=a0) (a2:=some (.int (l.streams:Int))) (a3:=a3) (a4:=some (.tup (l.works.map Wk.toD))) (a5:=a5) (a6:=some (.loc S.length)) (a8:=some (.int w.crew)) (a9:=some (.int w.long)) (a10:=some (.str w.doing)) (a11:=some (.tup (w.srcs.map Srs.toD))) (a13:=some (.tup C)) (a16:=a16) (a17:=x17) ht hp hw.three (b:=2) (.inr (.inl rfl)) (T:=T) (xs:=[d1]) (G:=G) (by show 1<=100; decide)
 have s3:=fun a16 d1 d2 G=>j0 (sub:=sub) (cf:=ai sub P (n+1)) (a0:=a0) (a2:=some (.int (l.streams:Int))) (a3:=a3) (a4:=some (.tup (l.works.map Wk.toD))) (a5:=a5) (a6:=some (.loc S.length)) (a8:=some (.int w.crew)) (a9:=some (.int w.long)) (a10:=some (.str w.doing)) (a11:=some (.tup (w.srcs.map Srs.toD))) (a13:=some (.tup C)) (a16:=a16) (a17:=x17) ht hp hw.three (b:=3) (.inr (.inr rfl)) (T:=T) (xs:=[d1,d2]) (G:=G) (by show 2<=100; decide)
 have b1:=fun x15=>dD (sub:=sub) (cf:=ai sub P (n+1)) (i:=15) (u:=eZ) (d:=.int 1) (σ:=[a0,some (.int (t:Int)),some (.int (l.streams:Int)),a3,some (.tup (l.works.map Wk.toD)),a5,some (.loc S.length),some (.int (p:Int)),some (.int w.crew),some (.int w.long),some (.str w.doing),some (.tup (w.srcs.map Srs.toD)),some (.tup (w.starts.map .int)),some (.tup C),some (.loc T.length),x15,x16,x17]) (s1 x16 [])
 have b2:=fun x15 x16 d G=>dD (sub:=sub) (cf:=ai sub P (n+1)) (i:=15) (u:=eZ) (d:=.int 2) (σ:=[a0,some (.int (t:Int)),some (.int (l.streams:Int)),a3,some (.tup (l.works.map Wk.toD)),a5,some (.loc S.length),some (.int (p:Int)),some (.int w.crew),some (.int w.long),some (.str w.doing),some (.tup (w.srcs.map Srs.toD)),some (.tup (w.starts.map .int)),some (.tup C),some (.loc T.length),x15,x16,x17]) (s2 x16 d G)
 have b3:=fun x15 x16 d e G=>dD (sub:=sub) (cf:=ai sub P (n+1)) (i:=15) (u:=eZ) (d:=.int 3) (σ:=[a0,some (.int (t:Int)),some (.int (l.streams:Int)),a3,some (.tup (l.works.map Wk.toD)),a5,some (.loc S.length),some (.int (p:Int)),some (.int w.crew),some (.int w.long),some (.str w.doing),some (.tup (w.srcs.map Srs.toD)),some (.tup (w.starts.map .int)),some (.tup C),some (.loc T.length),x15,x16,x17]) (s3 x16 d e G)
 obtain ⟨G3,hf⟩:∃ G3,exec sub (ai sub P (n+1)) (.forS (.one 15) (.iSeq (.tup (.cs (.c (.int 1)) (.cs (.c (.int 2)) (.cs (.c (.int 3)) .nl))))) eZ) [a0,some (.int (t:Int)),some (.int (l.streams:Int)),a3,some (.tup (l.works.map Wk.toD)),a5,some (.loc S.length),some (.int (p:Int)),some (.int w.crew),some (.int w.long),some (.str w.doing),some (.tup (w.srcs.map Srs.toD)),some (.tup (w.starts.map .int)),some (.tup C),some (.loc T.length),x15,x16,x17] (T++.lst []::[])=.ok (.nx [a0,some (.int (t:Int)),some (.int (l.streams:Int)),a3,some (.tup (l.works.map Wk.toD)),a5,some (.loc S.length),some (.int (p:Int)),some (.int w.crew),some (.int w.long),some (.str w.doing),some (.tup (w.srcs.map Srs.toD)),some (.tup (w.starts.map .int)),some (.tup C),some (.loc T.length),some (.int 3),some (.int ((p:Int) - 3 * (t:Int))),x17]) (T++.lst [.int (aR w.starts ((p:Int) - 1 * (t:Int))),.int (aR w.starts ((p:Int) - 2 * (t:Int))),.int (aR w.starts ((p:Int) - 3 * (t:Int)))]::G3) :=
  ⟨_,gZ (s:=⟨[.int 1,.int 2,.int 3],none,[.int 1,.int 2,.int 3]⟩) (S1:=T++.lst []::[]) (cu (bK (aa r_c (aa r_c (aa r_c ah))) rfl) rfl)
   (jJ rfl (b1 _) (jJ rfl (b2 _ _ _ _) (jJ rfl (b3 _ _ _ _ _) (gR _ _ _ _))))⟩
 subst hT'
 refine ⟨some (.tup C),some (.loc (S++Cell.lst W::(G++[.lst C])).length),some (.int 3),some (.int ((p:Int) - 3 * (t:Int))),G++[.lst C]++.lst [.int (aR w.starts ((p:Int) - 1 * (t:Int))),.int (aR w.starts ((p:Int) - 2 * (t:Int))),.int (aR w.starts ((p:Int) - 3 * (t:Int)))]::G3,?_⟩
 generalize hO:[D.int (aR w.starts ((p:Int) - 1 * (t:Int))),.int (aR w.starts ((p:Int) - 2 * (t:Int))),.int (aR w.starts ((p:Int) - 3 * (t:Int)))]=O at hf
 have hU:S++Cell.lst W::(G++[.lst C])++Cell.lst O::G3=S++.lst W::(G++[.lst C]++.lst O::G3):=by rw [List.append_assoc,List.cons_append]
 have h13:=aB (i:=13) (aF (aa hc ah) gi)
 rw [hT] at h13
 refine aj h13 (aj (aB (i:=14) h14) (aj hf (c9 (d:=.non) (dh (l:=S.length) (r_v rfl) (aa (bK (aa (r_v rfl) (aa (r_v rfl) (aa (r_v rfl) (aa (r_v rfl) (aa (aF (aa (r_v rfl) ah) (bX (xs:=O) (bL _ _ _))) ah))))) rfl) ah) ?_ ?_))))
 ·rw [hU]; exact gk (by omega)
 ·rw [hU]; exact fj _ _ _
end
end RL

namespace RL
open PySem EV GO
section
variable {sub:Sub} {P:Prg} {n:Nat} {S:af}
theorem A9 {a0 a1 a2 a3 a4 a5 a6 a7 a8 a9 a10 a11 a12 a13 a14 a15 a16 a17:Option D} {x y z u v:D}:bM [8,9,10,11,12] [x,y,z,u,v] [a0,a1,a2,a3,a4,a5,a6,a7,a8,a9,a10,a11,a12,a13,a14,a15,a16,a17]=[a0,a1,a2,a3,a4,a5,a6,a7,some x,some y,some z,some u,some v,a13,a14,a15,a16,a17]:=rfl
theorem sI (hs:Has P "_law_source_in" fL) {l:Lp} (hl:l.WF) {t p:Nat} (ht:t=2\/t=3) (hp:p < t) {a0 a3 a5 x8 x9 x10 x11 x12 x13 x14 x15 x16 x17:Option D} {W:List D} {G:af} (hW:W.length<=50) :
  ∃ y8 y9 y10 y11 y12 y13 y14 y15 y16 G',exec sub (ai sub P (n+1)) (.forS (.many [8,9,10,11,12]) (.iSeq (.v 4)) gP) [a0,some (.int (t:Int)),some (.int (l.streams:Int)),a3,some (.tup (l.works.map Wk.toD)),a5,some (.loc S.length),some (.int (p:Int)),x8,x9,x10,x11,x12,x13,x14,x15,x16,x17] (S++.lst W::G) =
   .ok (.nx [a0,some (.int (t:Int)),some (.int (l.streams:Int)),a3,some (.tup (l.works.map Wk.toD)),a5,some (.loc S.length),some (.int (p:Int)),y8,y9,y10,y11,y12,y13,y14,y15,y16,x17]) (S++.lst (W++(l.works.map (mvW l.works.length l.streams t p)).map Wk.toD)::G'):=by
 have hn8:=hl.nworks.2
 have hst6:=hl.streams
 obtain ⟨σ',T',e,y8,y9,y10,y11,y12,y13,y14,y15,y16,G',rfl,rfl⟩:=dm (sub:=sub) (cf:=ai sub P (n+1)) (t:=.many [8,9,10,11,12]) (it:=.iSeq (.v 4)) (b:=gP) (σ:=[a0,some (.int (t:Int)),some (.int (l.streams:Int)),a3,some (.tup (l.works.map Wk.toD)),a5,some (.loc S.length),some (.int (p:Int)),x8,x9,x10,x11,x12,x13,x14,x15,x16,x17]) (S:=S++.lst W::G) (S1:=S++.lst W::G) (s:=⟨l.works.map Wk.toD,none,l.works.map Wk.toD⟩)
  (fun i σ T=>∃ y8 y9 y10 y11 y12 y13 y14 y15 y16 G',σ=[a0,some (.int (t:Int)),some (.int (l.streams:Int)),a3,some (.tup (l.works.map Wk.toD)),a5,some (.loc S.length),some (.int (p:Int)),y8,y9,y10,y11,y12,y13,y14,y15,y16,x17]/\T=S++.lst (W++((l.works.take i).map (mvW l.works.length l.streams t p)).map Wk.toD)::G')
  (cu (r_v rfl) rfl) ⟨_,_,_,_,_,_,_,_,_,G,rfl,by simp⟩ (fun _ _ _ _=>rfl) (fun i hi σ T ⟨y8,y9,y10,y11,y12,y13,y14,y15,y16,G1,hσ,hT⟩=>by
   subst hσ; subst hT
   have hi':i < l.works.length:=by simpa using hi
   have hit:(l.works.map Wk.toD)[i]'hi=l.works[i].toD:=List.getElem_map _
   show ∃ σ' T',bE sub (ai sub P (n+1)) _ _ ((l.works.map Wk.toD)[i]'hi) _ _=_/\_
   rw [hit]
   have hlen:(W++((l.works.take i).map (mvW l.works.length l.streams t p)).map Wk.toD).length<=100:=by
    rw [List.length_append,List.length_map,List.length_map,List.length_take]; omega
   obtain ⟨z13,z14,z15,z16,G2,h⟩:=ve (sub:=sub) (n:=n) (S:=S) hs ht hp hn8 hst6 (hl.works i l.works[i] (List.getElem?_eq_getElem hi')) (a0:=a0) (a3:=a3) (a5:=a5) (x13:=y13) (x14:=y14) (x15:=y15) (x16:=y16) (x17:=x17) (G:=G1) hlen
   refine ⟨_,_,qj (ds:=[.int l.works[i].crew,.int l.works[i].long,.str l.works[i].doing,.tup (l.works[i].srcs.map Srs.toD),.tup (l.works[i].starts.map .int)]) rfl (by rw [A9]; exact h),_,_,_,_,_,_,_,_,_,G2,rfl,?_⟩
   rw [List.take_succ_eq_append_getElem hi',List.map_append,List.map_append,<- List.append_assoc]; rfl)
 have e2:(⟨l.works.map Wk.toD,none,l.works.map Wk.toD⟩:Src).its.length=l.works.length:=by simp
 rw [e2,List.take_length] at e
 exact ⟨_,_,_,_,_,_,_,_,_,_,e⟩
theorem tW (hs:Has P "_law_source_in" fL) (hu:Has P "_law_unrolled" iM) {l:Lp} (hl:l.WF) {t:Nat} (ht:t=2\/t=3):ai sub P (n+2) "_law_unrolled" [l.toD,.int (t:Int)] S=.ok (unr l t).toD S:=by
 have hn8:=hl.nworks.2
 have hst6:=hl.streams
 have ht3:t<=3:=by rcases ht with rfl|rfl <;> omega
 have hol:=gI hl.outs (Nat.zero_le _)
 have hlen:∀ U:af,biD sub .len [.tup (l.works.map Wk.toD)] U=.ok (.int (l.works.length:Int)) U:=fun U=>by rw [cz,List.length_map]
 obtain ⟨σ1,T1,e1,x7,y8,y9,y10,y11,y12,y13,y14,y15,y16,G1,rfl,rfl⟩:=dm (sub:=sub) (cf:=ai sub P (n+1)) (t:=.one 7) (it:=.iRng (.cs (.v 1) .nl)) (b:=.forS (.many [8,9,10,11,12]) (.iSeq (.v 4)) gP)
  (σ:=[some l.toD,some (.int (t:Int)),some (.int (l.streams:Int)),some (.tup (l.crews.map aS)),some (.tup (l.works.map Wk.toD)),some (.tup (l.outs.map av)),some (.loc S.length),none,none,none,none,none,none,none,none,none,none,none]) (S:=S++[.lst []]) (S1:=S++[.lst []]) (s:=⟨(List.range t).map av,none,[]⟩)
  (fun p σ T=>∃ x7 y8 y9 y10 y11 y12 y13 y14 y15 y16 G,σ=[some l.toD,some (.int (t:Int)),some (.int (l.streams:Int)),some (.tup (l.crews.map aS)),some (.tup (l.works.map Wk.toD)),some (.tup (l.outs.map av)),some (.loc S.length),x7,y8,y9,y10,y11,y12,y13,y14,y15,y16,none]/\T=S++.lst (((List.range p).flatMap fun p=>l.works.map (mvW l.works.length l.streams t p)).map Wk.toD)::G)
  (dj (aa (r_v rfl) ah) rfl (by omega) fun _=>rfl) ⟨_,_,_,_,_,_,_,_,_,_,[],rfl,rfl⟩ (fun _ _ _ _=>rfl) (fun p hp σ T ⟨x7,y8,y9,y10,y11,y12,y13,y14,y15,y16,G,hσ,hT⟩=>by
   subst hσ; subst hT
   have hp':p < t:=by simpa using hp
   have hit:((List.range t).map av)[p]'hp=.int (p:Int):=by simp [av]
   show ∃ σ' T',bE sub (ai sub P (n+1)) _ _ (((List.range t).map av)[p]'hp) _ _=_/\_
   rw [hit]
   have hWl:((List.range p).flatMap fun p=>l.works.map (mvW l.works.length l.streams t p)).length=p * l.works.length:=dR _ _ _ fun q _=>by rw [List.length_map]
   have hpn:p * l.works.length<=3 * 8:=Nat.mul_le_mul (by omega) hn8
   have eW:((List.range (p+1)).flatMap fun p=>l.works.map (mvW l.works.length l.streams t p)).map Wk.toD=((List.range p).flatMap fun p=>l.works.map (mvW l.works.length l.streams t p)).map Wk.toD++(l.works.map (mvW l.works.length l.streams t p)).map Wk.toD:=by
    rw [List.range_succ,List.flatMap_append,List.flatMap_singleton,List.map_append]
   obtain ⟨z8,z9,z10,z11,z12,z13,z14,z15,z16,G2,h⟩:=sI (sub:=sub) (n:=n) (S:=S) hs hl ht hp' (a0:=some l.toD) (a3:=some (.tup (l.crews.map aS))) (a5:=some (.tup (l.outs.map av))) (x8:=y8) (x9:=y9) (x10:=y10) (x11:=y11) (x12:=y12) (x13:=y13) (x14:=y14) (x15:=y15) (x16:=y16) (x17:=none) (W:=((List.range p).flatMap fun p=>l.works.map (mvW l.works.length l.streams t p)).map Wk.toD) (G:=G) (by rw [List.length_map,hWl]; omega)
   exact ⟨_,_,dD h,_,_,_,_,_,_,_,_,_,_,G2,rfl,by rw [eW]⟩)
 have hl1:(⟨(List.range t).map av,none,[]⟩:Src).its.length=t:=by simp
 rw [hl1,show ((List.range t).flatMap fun p=>l.works.map (mvW l.works.length l.streams t p))=(unr l t).works from rfl] at e1
 generalize hWW:(unr l t).works.map Wk.toD=WW at e1
 generalize hPP:S++Cell.lst WW::G1=PP at e1
 have hPS:PP[S.length]?=some (.lst WW):=by rw [<- hPP]; exact bL _ _ _
 have hPt:PP.take S.length=S:=by rw [<- hPP]; exact dN _ _
 have hPl:S.length < PP.length:=(List.getElem?_eq_some_iff.mp hPS).1
 obtain ⟨σ2,T2,e2,x7',G2,rfl,rfl⟩:=dm (sub:=sub) (cf:=ai sub P (n+1)) (t:=.one 7) (it:=.iRng (.cs (.v 1) .nl)) (b:=.ex (.me .extend (.v 17) (.cs (.comp 2 (.bin .add (.bin .mul (.v 7) (.bi .len (.cs (.v 4) .nl))) (.v 19)) (.one 19) (.iSeq (.v 5)) .nl) .nl)))
  (σ:=[some l.toD,some (.int (t:Int)),some (.int (l.streams:Int)),some (.tup (l.crews.map aS)),some (.tup (l.works.map Wk.toD)),some (.tup (l.outs.map av)),some (.loc S.length),x7,y8,y9,y10,y11,y12,y13,y14,y15,y16,some (.loc PP.length)]) (S:=PP++[.lst []]) (S1:=PP++[.lst []]) (s:=⟨(List.range t).map av,none,[]⟩)
  (fun p σ T=>∃ x7 G,σ=[some l.toD,some (.int (t:Int)),some (.int (l.streams:Int)),some (.tup (l.crews.map aS)),some (.tup (l.works.map Wk.toD)),some (.tup (l.outs.map av)),some (.loc S.length),x7,y8,y9,y10,y11,y12,y13,y14,y15,y16,some (.loc PP.length)]/\T=PP++.lst (((List.range p).flatMap fun p=>l.outs.map fun k=>p * l.works.length+k).map av)::G)
  (dj (aa (r_v rfl) ah) rfl (by omega) fun _=>rfl) ⟨_,[],rfl,rfl⟩ (fun _ _ _ _=>rfl) (fun p hp σ T ⟨x7,G,hσ,hT⟩=>by
   subst hσ; subst hT
   have hp':p < t:=by simpa using hp
   have hit:((List.range t).map av)[p]'hp=.int (p:Int):=by simp [av]
   show ∃ σ' T',bE sub (ai sub P (n+1)) _ _ (((List.range t).map av)[p]'hp) _ _=_/\_
   rw [hit]
   have hOl:((List.range p).flatMap fun p=>l.outs.map fun k=>p * l.works.length+k).length=p * l.outs.length:=dR _ _ _ fun q _=>by rw [List.length_map]
   have hpo:p * l.outs.length<=3 * 8:=Nat.mul_le_mul (by omega) (by omega)
   have eO:((List.range (p+1)).flatMap fun p=>l.outs.map fun k=>p * l.works.length+k).map av=((List.range p).flatMap fun p=>l.outs.map fun k=>p * l.works.length+k).map av++l.outs.map fun k=>.int ((p:Int) * (l.works.length:Int)+(k:Int)):=by
    rw [List.range_succ,List.flatMap_append,List.flatMap_singleton,List.map_append,List.map_map]
    have ek:∀ k:Nat,av (p * l.works.length+k)=.int ((p:Int) * (l.works.length:Int)+(k:Int)):=fun k=>by
     show D.int ((p * l.works.length+k:Nat):Int)=_
     rw [Int.natCast_add,Int.natCast_mul]
    rw [show (av ∘ fun k=>p * l.works.length+k)=fun (k:Nat)=>D.int ((p:Int) * (l.works.length:Int)+(k:Int)) from funext ek]
   generalize hO:((List.range p).flatMap fun p=>l.outs.map fun k=>p * l.works.length+k).map av=O at eO
   have hOl':O.length=p * l.outs.length:=by rw [<- hO,List.length_map,hOl]
   have hc2:=dX (sub:=sub) (cf:=ai sub P (n+1)) (σ:=[some l.toD,some (.int (t:Int)),some (.int (l.streams:Int)),some (.tup (l.crews.map aS)),some (.tup (l.works.map Wk.toD)),some (.tup (l.outs.map av)),some (.loc S.length),some (.int (p:Int)),y8,y9,y10,y11,y12,y13,y14,y15,y16,some (.loc PP.length)]) (S:=PP++.lst O::G) (S1:=PP++.lst O::G) (k:=2) (i:=19) (el:=.bin .add (.bin .mul (.v 7) (.bi .len (.cs (.v 4) .nl))) (.v 19)) (it:=.iSeq (.v 5))
    (ks:=l.outs) (f:=av) (g:=fun k=>.int ((p:Int) * (l.works.length:Int)+(k:Int))) (o:=none) (raw:=l.outs.map av) (cu (r_v rfl) rfl) rfl
    (fun k hk=>aC (aC (r_v rfl) (aF (aa (r_v rfl) ah) (hlen _)) (cH ⟨by omega,by omega⟩)) (r_v rfl) (bT _ _ _)) (by unfold aO; omega)
   have hx2:=jU (l:=PP.length) (k:=(PP++Cell.lst O::G).length) (ds:=O) (es:=l.outs.map fun (k:Nat)=>D.int ((p:Int) * (l.works.length:Int)+(k:Int))) (S:=(PP++Cell.lst O::G)++[.lst (l.outs.map fun (k:Nat)=>D.int ((p:Int) * (l.works.length:Int)+(k:Int)))]) (by rw [List.append_assoc]; exact bL _ _ _) (bO _ _) (by rw [hOl',List.length_map]; unfold aO; omega)
   rw [List.append_assoc,List.cons_append,fM,<- eO] at hx2
   exact ⟨_,_,dD (c9 (dh (r_v rfl) (aa hc2 ah) (by rw [List.append_assoc,List.cons_append]; exact hx2) (fj _ _ _))),_,_,rfl,rfl⟩)
 rw [hl1,show ((List.range t).flatMap fun p=>l.outs.map fun k=>p * l.works.length+k)=(unr l t).outs from rfl] at e2
 have em:opD .mul (.int (l.streams:Int)) (.int (t:Int))=fun T=>.ok (.int ((l.streams * t:Nat):Int)) T:=funext fun T=>by rw [Int.natCast_mul]; exact cH ⟨by omega,by omega⟩
 have hcl:=(unr l t).cl
 have eU:(unr l t).toD=.tup [.int ((l.streams * t:Nat):Int),.tup (l.crews.map aS),.tup ((unr l t).works.map Wk.toD),.tup ((unr l t).outs.map av)]:=rfl
 rw [eU] at hcl ⊢
 rw [hWW] at hcl ⊢
 generalize (unr l t).outs.map av=O at e2 hcl
 have hG:(PP++Cell.lst O::G2)[S.length]?=some (.lst WW):=by rw [List.getElem?_append_left hPl]; exact hPS
 have hTk:(PP++Cell.lst O::G2).take S.length=S:=by rw [List.take_append_of_le_length (Nat.le_of_lt hPl)]; exact hPt
 have hret:=aI (sub:=sub) (cf:=ai sub P (n+1)) (σ:=[some l.toD,some (.int (t:Int)),some (.int (l.streams:Int)),some (.tup (l.crews.map aS)),some (.tup (l.works.map Wk.toD)),some (.tup (l.outs.map av)),some (.loc S.length),x7',y8,y9,y10,y11,y12,y13,y14,y15,y16,some (.loc PP.length)]) (S:=PP++.lst O::G2)
  (bK (aa (aC (r_v (i:=2) rfl) (r_v (i:=1) rfl) (congrFun em _)) (aa (r_v (i:=3) rfl) (aa (aF (aa (r_v (i:=6) rfl) ah) (bX hG)) (aa (aF (aa (r_v (i:=17) rfl) ah) (bX (bL _ _ _))) ah)))) rfl)
 have h17:exec sub (ai sub P (n+1)) (.set (.one 17) (.lst .nl)) [some l.toD,some (.int (t:Int)),some (.int (l.streams:Int)),some (.tup (l.crews.map aS)),some (.tup (l.works.map Wk.toD)),some (.tup (l.outs.map av)),some (.loc S.length),x7,y8,y9,y10,y11,y12,y13,y14,y15,y16,none] PP=.ok (.nx [some l.toD,some (.int (t:Int)),some (.int (l.streams:Int)),some (.tup (l.crews.map aS)),some (.tup (l.works.map Wk.toD)),some (.tup (l.outs.map av)),some (.loc S.length),x7,y8,y9,y10,y11,y12,y13,y14,y15,y16,some (.loc PP.length)]) (PP++[.lst []]):=aB (bP ah rfl)
 have h6:exec sub (ai sub P (n+1)) (.set (.one 6) (.lst .nl)) [some l.toD,some (.int (t:Int)),some (.int (l.streams:Int)),some (.tup (l.crews.map aS)),some (.tup (l.works.map Wk.toD)),some (.tup (l.outs.map av)),none,none,none,none,none,none,none,none,none,none,none,none] S=.ok (.nx [some l.toD,some (.int (t:Int)),some (.int (l.streams:Int)),some (.tup (l.crews.map aS)),some (.tup (l.works.map Wk.toD)),some (.tup (l.outs.map av)),some (.loc S.length),none,none,none,none,none,none,none,none,none,none,none]) (S++[.lst []]):=aB (bP ah rfl)
 have h0:exec sub (ai sub P (n+1)) (.set (.many [2,3,4,5]) (.v 0)) (frame iM [l.toD,.int (t:Int)]) S=.ok (.nx [some l.toD,some (.int (t:Int)),some (.int (l.streams:Int)),some (.tup (l.crews.map aS)),some (.tup (l.works.map Wk.toD)),some (.tup (l.outs.map av)),none,none,none,none,none,none,none,none,none,none,none,none]) S:=lz (ds:=[.int (l.streams:Int),.tup (l.crews.map aS),.tup (l.works.map Wk.toD),.tup (l.outs.map av)]) (r_v rfl) rfl
 exact x_call (ds:=[l.toD,.int (t:Int)]) hu rfl (aj h0 (aj h6 (aj e1 (aj h17 (aj e2 hret))))) (bu hcl hTk)
end
end RL

namespace RL
open PySem EV GO
section
variable {S:af}
theorem cZ {n:Nat} {xs:List D} (h:∀ x∈xs,eqD n S x x=some true):eqD (n+1) S (.tup xs) (.tup xs)=some true:=by
 show (bA (eqD n S) xs xs).map (fun r=>r&&(xs.length==xs.length))=_
 rw [kU h]
 simp
theorem gS (n:Nat) (x:Str):eqD (n+1) S (.str x) (.str x)=some true:=by
 show some (x==x)=_
 simp
theorem B_ (n:Nat) (s:Srs):eqD (n+2) S s.toD s.toD=some true:=by
 cases s with
 | val v=>exact cZ fun x hx=>by rcases (by simpa using hx:x=_\/x=_) with rfl|rfl; exact gS _ _; exact cQ _ _
 | inp v=>exact cZ fun x hx=>by rcases (by simpa using hx:x=_\/x=_) with rfl|rfl; exact gS _ _; exact cQ _ _
 | wrk a b=>exact cZ fun x hx=>by rcases (by simpa using hx:x=_\/x=_\/x=_) with rfl|rfl|rfl; exact gS _ _; exact cQ _ _; exact cQ _ _
theorem rA (n:Nat) (w:Wk):eqD (n+4) S w.toD w.toD=some true:=cZ fun x hx=>by
 rcases (by simpa using hx:x=_\/x=_\/x=_\/x=_\/x=_) with rfl|rfl|rfl|rfl|rfl
 ·exact cQ _ _
 ·exact cQ _ _
 ·exact gS _ _
 ·exact cZ fun x hx=>by obtain ⟨s,_,rfl⟩:=List.mem_map.mp hx; exact B_ n s
 ·exact nK _ _
theorem tw (l:Lp):eqD 12 S l.toD l.toD=some true:=cZ fun x hx=>by
 rcases (by simpa using hx:x=_\/x=_\/x=_\/x=_) with rfl|rfl|rfl|rfl
 ·exact cQ _ _
 ·exact cZ fun x hx=>by
   obtain ⟨c,_,rfl⟩:=List.mem_map.mp hx
   exact cZ fun x hx=>by rcases (by simpa using hx:x=_\/x=_) with rfl|rfl <;> exact cQ _ _
 ·exact cZ fun x hx=>by obtain ⟨w,_,rfl⟩:=List.mem_map.mp hx; exact rA 6 w
 ·exact cZ fun x hx=>by obtain ⟨k,_,rfl⟩:=List.mem_map.mp hx; exact cQ _ _
theorem tX (l:Lp):cmD .ne l.toD l.toD S=.ok (.bl false) S:=by
 rw [kC,if_pos (show c6 l.toD l.toD=true from rfl),show deep=12 from rfl,tw]; rfl
theorem w6 (r:List Int):cmD .ne (ak r) (ak r) S=.ok (.bl false) S:=by
 rw [kC,if_pos (show c6 (ak r) (ak r)=true from rfl),show deep=12 from rfl,show eqD 12 S (ak r) (ak r)=some true from nK 10 r]; rfl
theorem Co (xs:List D) (a b:Nat) (hb:b<=xs.length):cut xs (some (a:Int)) (some (b:Int))=(xs.drop (min a xs.length)).take (b - min a xs.length):=by
 unfold cut
 rw [l5,l5,Nat.min_eq_left hb]
theorem ow {sub:Sub} {cf:Str->List D->M D} {σ:Sg} {S1:af} {e:E} {i:Int} (hn:e.aY=false) (h:ev sub cf e σ S=.ok (.int i) S1):ef sub cf σ e S=.ok (some i) S1:=by
 unfold ef
 rw [hn,if_neg (by decide),h]; rfl
theorem yW {a m k:Nat} {xs:List D} (h:S[a]?=some (.lst xs)):slD (.loc a) (some (m:Int)) (some (k:Int)) S=.ok (.loc S.length) (S++[.lst (cut xs (some (m:Int)) (some (k:Int)))]):=by
 show (items (.loc a)>>=fun xs=>alloc (.lst (cut xs (some (m:Int)) (some (k:Int))))) S=_
 rw [az,fQ h]
 rfl
end
end RL
namespace K19
open PySem EV RL GO
noncomputable def iY:Fn:=⟨2,3,(.tryR "unrolled" (.cs (.v 0) (.cs (.v 1) .nl)) "TooBig" (.str "big"))⟩
noncomputable def j6:Fn:=⟨1,10,(.seq (.set (.one 1) (.call "_law_loop" (.cs (.v 0) (.cs (.c (.int 3)) (.cs (.c (.int 3)) .nl)))))
 (.seq (.set (.one 2) (.bin .add (.c (.int 2)) (.call "_law_mixed" (.cs (.v 0) (.cs (.c (.int 0)) (.cs (.c (.int 2)) .nl))))))
 (.seq (.set (.one 3) (.call "_law_unrolled" (.cs (.v 1) (.cs (.v 2) .nl))))
 (.seq (.ite (.or (.cmp .gt (.bin .mul (.v 2) (.bi .len (.cs (.ix (.v 1) (.c (.int 2))) .nl))) (.c (.int 8))) (.cmp .gt (.bin .mul (.v 2) (.ix (.v 1) (.c (.int 0)))) (.c (.int 6))))
  (.set (.one 3) (.c (.str "big")))
  .skip)
 (.seq (.ite (.or (.cmp .ne (.call "_law_told" (.cs (.v 1) (.cs (.v 2) .nl))) (.v 3)) (.and (.cmp .ne (.v 3) (.c (.str "big"))) (.cmp .ne (.call "checked" (.cs (.v 3) .nl)) (.v 3))))
  (.ret (.c (.bl false)))
  .skip)
 (.seq (.set (.one 4) (.call "_law_inputs" (.cs (.v 0) (.cs (.c (.int 1)) (.cs (.ix (.v 1) (.c (.int 0))) (.cs (.c (.int 9)) .nl))))))
 (.seq (.set (.one 5) (.call "rows_together" (.cs (.v 4) (.cs (.v 2) .nl))))
 (.seq (.ite (.or (.not (.bi (.inst .list) (.cs (.v 5) .nl))) (.cmp .ne (.bi .len (.cs (.v 5) .nl)) (.bin .fdiv (.bi .len (.cs (.v 4) .nl)) (.v 2))))
  (.ret (.c (.bl false)))
  .skip)
 (.seq (.forS (.many [6,7]) (.iEnum (.v 5))
  (.seq (.set (.one 8) (.tup .nl))
 (.seq (.forS (.one 9) (.iSeq (.sl (.v 4) (.bin .mul (.v 6) (.v 2)) (.bin .mul (.bin .add (.v 6) (.c (.int 1))) (.v 2))))
  (.set (.one 8) (.bin .add (.v 8) (.v 9))))
 (.ite (.cmp .ne (.v 7) (.v 8))
  (.ret (.c (.bl false)))
  .skip))))
 (.ret (.c (.bl true))))))))))))⟩
noncomputable def Pd:Prg:=[(("is_whole" : Str),jf),(("is_value" : Str),o9),(("is_row" : Str),gT),(("is_crew" : Str),qh),(("are_crews" : Str),l0),(("is_work_source" : Str),nC),(("is_source" : Str),qv),(("are_starts" : Str),pQ),(("is_work" : Str),k7),(("are_works" : Str),o8),(("are_outs" : Str),lS),(("is_loop" : Str),oV),(("checked" : Str),oE),(("checked_times" : Str),qy),(("moved_source" : Str),mO),(("start_of" : Str),p8),(("moved_work" : Str),k8),(("unrolled" : Str),oh),(("rows_together" : Str),nA),(("_law_cell_at" : Str),pq),(("_law_mixed" : Str),oM),(("_law_source" : Str),lN),(("_law_work" : Str),l9),(("_law_loop" : Str),lZ),(("_law_inputs" : Str),jc),(("_law_source_in" : Str),fL),(("_law_unrolled" : Str),iM),(("_law_told" : Str),iY),(("law" : Str),j6)]
theorem hB:HB Pd:=⟨rfl,rfl,rfl,rfl,rfl,rfl,rfl,rfl,rfl,rfl,rfl,rfl,rfl⟩
theorem hG:HG Pd:=⟨rfl,rfl,rfl,rfl,rfl⟩
theorem hI:Has Pd "_law_inputs" jc:=rfl
theorem hU:HU Pd:=⟨rfl,rfl,rfl,rfl,rfl,rfl⟩
theorem hS:Has Pd "_law_source_in" fL:=rfl
theorem hL:Has Pd "_law_unrolled" iM:=rfl
abbrev sb:Sub:=fun _ _=>false
noncomputable def kD:EV.S:=.seq (.set (.one 8) (.tup .nl))
 (.seq (.forS (.one 9) (.iSeq (.sl (.v 4) (.bin .mul (.v 6) (.v 2)) (.bin .mul (.bin .add (.v 6) (.c (.int 1))) (.v 2))))
  (.set (.one 8) (.bin .add (.v 8) (.v 9))))
 (.ite (.cmp .ne (.v 7) (.v 8))
  (.ret (.c (.bl false)))
  .skip))
theorem qQ {cf:Str->List D->M D} {a0 a1 a3 a5 x8 x9:Option D} {t j:Nat} (ht:t=2\/t=3) {inp:List (List Int)} (hr:∀ r∈inp,r.length<=100) (hj:(j+1) * t<=inp.length) (hin:inp.length<=100) {T:af} (hT:T[0]?=some (.lst (inp.map ak))) :
  ∃ y8 y9 G,exec sb cf kD [a0,a1,some (.int (t:Int)),a3,some (.loc 0),a5,some (.int (j:Int)),some (ak (blk inp t j)),x8,x9] T=.ok (.nx [a0,a1,some (.int (t:Int)),a3,some (.loc 0),a5,some (.int (j:Int)),some (ak (blk inp t j)),y8,y9]) (T++G):=by
 have t3:t<=3:=by rcases ht with rfl|rfl <;> omega
 have ej:(j+1) * t=j * t+t:=Nat.succ_mul j t
 have hc:cut (inp.map ak) (some ((j * t:Nat):Int)) (some (((j+1) * t:Nat):Int))=((List.range t).map fun q=>ak (inp.getD (j * t+q) [])):=by
  rw [Co _ _ _ (by rw [List.length_map]; exact hj),List.length_map,Nat.min_eq_left (by omega),ej,show j * t+t - j * t=t by omega]
  refine List.ext_getElem? fun i=>?_
  by_cases h:i < t
  ·rw [List.getElem?_take_of_lt h,List.getElem?_drop,List.getElem?_map,List.getElem?_map,List.getElem?_range h,getD_some [] (by omega)]; rfl
  ·rw [List.getElem?_eq_none (by rw [List.length_take]; omega),List.getElem?_eq_none (by rw [List.length_map,List.length_range]; omega)]
 have e1:ev sb cf (.sl (.v 4) (.bin .mul (.v 6) (.v 2)) (.bin .mul (.bin .add (.v 6) (.c (.int 1))) (.v 2))) [a0,a1,some (.int (t:Int)),a3,some (.loc 0),a5,some (.int (j:Int)),some (ak (blk inp t j)),some (.tup []),x9] T=.ok (.loc T.length) (T++[.lst ((List.range t).map fun q=>ak (inp.getD (j * t+q) []))]):=by
  rw [<- hc]
  refine sM (r_v rfl) (ow rfl (aC (r_v rfl) (r_v rfl) (d7 ⟨by omega,by omega⟩))) (ow rfl (aC (aC (r_v rfl) r_c (bT _ _ _)) (r_v rfl) (d7 ⟨by omega,by omega⟩))) ?_
  rw [show (j:Int) * (t:Int)=((j * t:Nat):Int) by rw [Int.natCast_mul],show ((j:Int)+1) * (t:Int)=(((j+1) * t:Nat):Int) by rw [Int.natCast_mul,Int.natCast_add]; rfl]
  exact yW hT
 have hrl:∀ q,q < t->(inp.getD (j * t+q) []).length<=100:=fun q hq=>hr _ (List.mem_of_getElem? (getD_some [] (show j * t+q < inp.length by omega)))
 obtain ⟨σ',T',e2,x9',rfl,rfl⟩:=dm (sub:=sb) (cf:=cf) (t:=.one 9) (it:=.iSeq (.sl (.v 4) (.bin .mul (.v 6) (.v 2)) (.bin .mul (.bin .add (.v 6) (.c (.int 1))) (.v 2)))) (b:=.set (.one 8) (.bin .add (.v 8) (.v 9)))
  (σ:=[a0,a1,some (.int (t:Int)),a3,some (.loc 0),a5,some (.int (j:Int)),some (ak (blk inp t j)),some (.tup []),x9]) (S:=T) (S1:=T++[.lst ((List.range t).map fun q=>ak (inp.getD (j * t+q) []))]) (s:=⟨(List.range t).map fun q=>ak (inp.getD (j * t+q) []),some T.length,(List.range t).map fun q=>ak (inp.getD (j * t+q) [])⟩)
  (fun q σ U=>∃ x9,σ=[a0,a1,some (.int (t:Int)),a3,some (.loc 0),a5,some (.int (j:Int)),some (ak (blk inp t j)),some (ak ((List.range q).flatMap fun q=>inp.getD (j * t+q) [])),x9]/\U=T++[.lst ((List.range t).map fun q=>ak (inp.getD (j * t+q) []))])
  (cu e1 (ku (bO _ _))) ⟨_,rfl,rfl⟩ (fun _ _ _ ⟨_,_,h⟩=>by subst h; exact jI (.inr ⟨_,rfl,bO _ _⟩)) (fun q hq σ U ⟨x9,hσ,hU⟩=>by
   subst hσ; subst hU
   have hq':q < t:=by simpa using hq
   have hit:((List.range t).map fun q=>ak (inp.getD (j * t+q) []))[q]'hq=ak (inp.getD (j * t+q) []):=by simp
   show ∃ σ' T',bE sb cf _ _ (((List.range t).map fun q=>ak (inp.getD (j * t+q) []))[q]'hq) _ _=_/\_
   rw [hit]
   have hjl:((List.range q).flatMap fun q=>inp.getD (j * t+q) []).length<=300:=by
    have:∀ k,k<=q->((List.range k).flatMap fun q=>inp.getD (j * t+q) []).length<=k * 100:=by
     intro k
     induction k with
     | zero=>intro _; simp
     | succ k ih =>
      intro hk
      rw [List.range_succ,List.flatMap_append,List.flatMap_singleton,List.length_append]
      have:=ih (by omega)
      have:=hrl k (by omega)
      omega
    have:=this q (Nat.le_refl _)
    omega
   have hx:=hrl q hq'
   have eq':(List.range (q+1)).flatMap (fun q=>inp.getD (j * t+q) [])=((List.range q).flatMap fun q=>inp.getD (j * t+q) [])++inp.getD (j * t+q) []:=by
    rw [List.range_succ,List.flatMap_append,List.flatMap_singleton]
   generalize (List.range q).flatMap (fun q=>inp.getD (j * t+q) [])=J at hjl eq'
   generalize inp.getD (j * t+q) []=K at hx eq'
   have hadd:∀ U:af,opD .add (ak J) (ak K) U=.ok (ak (J++K)) U:=fun U=>by
    have:=iV (S:=U) (xs:=J.map D.int) (ys:=K.map D.int) (iz (by rw [List.length_map,List.length_map]; omega))
    rw [<- List.map_append] at this
    exact this
   exact ⟨_,_,dD (aB (aC (r_v rfl) (r_v rfl) (hadd _))),some (ak K),by rw [eq']; rfl,rfl⟩)
 have hl1:(⟨(List.range t).map fun q=>ak (inp.getD (j * t+q) []),some T.length,(List.range t).map fun q=>ak (inp.getD (j * t+q) [])⟩:Src).its.length=t:=by simp
 rw [hl1,show ((List.range t).flatMap fun q=>inp.getD (j * t+q) [])=blk inp t j from rfl] at e2
 exact ⟨_,_,_,aj (aB (bK ah rfl)) (aj e2 (aJ (aG (aL (r_v rfl) (r_v rfl) (w6 _))) aH))⟩
noncomputable def AJ:EV.S:=(.seq (.set (.one 4) (.call "_law_inputs" (.cs (.v 0) (.cs (.c (.int 1)) (.cs (.ix (.v 1) (.c (.int 0))) (.cs (.c (.int 9)) .nl))))))
 (.seq (.set (.one 5) (.call "rows_together" (.cs (.v 4) (.cs (.v 2) .nl))))
 (.seq (.ite (.or (.not (.bi (.inst .list) (.cs (.v 5) .nl))) (.cmp .ne (.bi .len (.cs (.v 5) .nl)) (.bin .fdiv (.bi .len (.cs (.v 4) .nl)) (.v 2))))
  (.ret (.c (.bl false)))
  .skip)
 (.seq (.forS (.many [6,7]) (.iEnum (.v 5)) kD)
 (.ret (.c (.bl true)))))))
theorem mK {ns:List Int} {l:Lp} (hl:l.WF) {t:Nat} (ht:t=2\/t=3) {inp:List (List Int)} (hil:inp.length<=9) (hi:pM l.streams inp) {due:D}
  (ei:ai sb Pd 29 "_law_inputs" [.fro (ns.map .int),.int 1,.int l.streams,.int 9] []=.ok (.loc 0) [.lst (inp.map ak)]) :
  ∃ S',exec sb (ai sb Pd 29) AJ [some (.fro (ns.map .int)),some l.toD,some (.int (t:Int)),some due,none,none,none,none,none,none] []=.ok (.rt (.bl true)) S':=by
 have hst6:=hl.streams
 have hin:∀ r∈inp,r.length<=100:=fun r hr=>by rw [hi.len r hr]; omega
 have eg:ai sb Pd 29 "rows_together" [.loc 0,.int (t:Int)] [.lst (inp.map ak)]=.ok (.loc 1) [.lst (inp.map ak),.lst ((tog inp t (inp.length / t)).map ak)]:=wu (n:=28) (S:=[.lst (inp.map ak)]) hU ht rfl hin (by omega)
 have hm:inp.length / t * t<=inp.length:=Nat.div_mul_le_self _ _
 have htp:(0:Int) < (t:Int)/\(t:Int) < 1073741824:=by rcases ht with rfl|rfl <;> decide
 have htl:((tog inp t (inp.length / t)).map ak).length=inp.length / t:=by unfold tog; rw [List.length_map,List.length_map,List.length_range]
 have hlen1:biD sb .len [.loc 1] [.lst (inp.map ak),.lst ((tog inp t (inp.length / t)).map ak)]=.ok (.int ((inp.length / t:Nat):Int)) [.lst (inp.map ak),.lst ((tog inp t (inp.length / t)).map ak)]:=by
  rw [iD (xs:=(tog inp t (inp.length / t)).map ak) rfl,htl]
 have hlen0:biD sb .len [.loc 0] [.lst (inp.map ak),.lst ((tog inp t (inp.length / t)).map ak)]=.ok (.int ((inp.length:Nat):Int)) [.lst (inp.map ak),.lst ((tog inp t (inp.length / t)).map ak)]:=by
  rw [iD (xs:=inp.map ak) rfl,List.length_map]
 have hcm:cmD .ne (.int ((inp.length / t:Nat):Int)) (.int (((inp.length:Nat):Int) / (t:Int))) [.lst (inp.map ak),.lst ((tog inp t (inp.length / t)).map ak)]=.ok (.bl false) [.lst (inp.map ak),.lst ((tog inp t (inp.length / t)).map ak)]:=by
  rw [qt,Int.natCast_ediv,beq_self_eq_true]; rfl
 obtain ⟨σ',T',e,x6,x7,x8,x9,G,rfl,rfl⟩:=dm (sub:=sb) (cf:=ai sb Pd 29) (t:=.many [6,7]) (it:=.iEnum (.v 5)) (b:=kD)
  (σ:=[some (.fro (ns.map .int)),some l.toD,some (.int (t:Int)),some due,some (.loc 0),some (.loc 1),none,none,none,none]) (S:=[.lst (inp.map ak),.lst ((tog inp t (inp.length / t)).map ak)]) (S1:=[.lst (inp.map ak),.lst ((tog inp t (inp.length / t)).map ak)]) (s:=⟨num 0 ((tog inp t (inp.length / t)).map ak),some 1,(tog inp t (inp.length / t)).map ak⟩)
  (fun j σ T=>∃ x6 x7 x8 x9 G,σ=[some (.fro (ns.map .int)),some l.toD,some (.int (t:Int)),some due,some (.loc 0),some (.loc 1),x6,x7,x8,x9]/\T=[.lst (inp.map ak),.lst ((tog inp t (inp.length / t)).map ak)]++G)
  (by rw [rD,r_v (d:=.loc 1) rfl,Res.ao,ku (l:=1) (ds:=(tog inp t (inp.length / t)).map ak) rfl]; rfl) ⟨_,_,_,_,[],rfl,rfl⟩ (fun _ _ _ ⟨_,_,_,_,_,_,h⟩=>by subst h; exact jI (.inr ⟨1,rfl,rfl⟩)) (fun j hj σ T ⟨x6,x7,x8,x9,G,hσ,hT⟩=>by
   subst hσ; subst hT
   have hj1:j < ((tog inp t (inp.length / t)).map ak).length:=by
    have:=hj
    rw [show (⟨num 0 ((tog inp t (inp.length / t)).map ak),some 1,(tog inp t (inp.length / t)).map ak⟩:Src).its=num 0 ((tog inp t (inp.length / t)).map ak) from rfl,gG] at this
    exact this
   have hj':j < inp.length / t:=by rw [htl] at hj1; exact hj1
   have hit:(num 0 ((tog inp t (inp.length / t)).map ak))[j]'hj=.tup [.int (j:Int),ak (blk inp t j)]:=by
    rw [mU]
    congr 2
    ·rw [Nat.zero_add]
    ·congr 1
     unfold tog
     simp
   show ∃ σ' T',bE sb (ai sb Pd 29) _ _ ((num 0 ((tog inp t (inp.length / t)).map ak))[j]'hj) _ _=_/\_
   rw [hit]
   have h1:(j+1) * t<=inp.length:=Nat.le_trans (Nat.mul_le_mul_right t hj') hm
   obtain ⟨y8,y9,G2,h⟩:=qQ (cf:=ai sb Pd 29) (a0:=some (.fro (ns.map .int))) (a1:=some l.toD) (a3:=some due) (a5:=some (.loc 1)) (x8:=x8) (x9:=x9) ht hin h1 (by omega) (T:=[.lst (inp.map ak),.lst ((tog inp t (inp.length / t)).map ak)]++G) rfl
   exact ⟨_,_,qj (is:=[6,7]) (ds:=[.int (j:Int),ak (blk inp t j)]) rfl h,_,_,_,_,_,rfl,List.append_assoc _ _ _⟩)
 exact ⟨_,aj (aB (aD (aa (r_v rfl) (aa r_c (aa (ay (r_v rfl) r_c (aA rfl)) (aa r_c ah)))) ei)) (aj (aB (aD (aa (r_v rfl) (aa (r_v rfl) ah)) eg))
  (aj (aJ (bS (bw (k:=true) (fP (aF (aa (r_v rfl) ah) (fC rfl)))) (aG (aL (aF (aa (r_v rfl) ah) hlen1) (aC (aF (aa (r_v rfl) ah) hlen0) (r_v rfl) (iW htp)) hcm))) aH) (aj e (aI r_c))))⟩
theorem main (ns:List Int) (h:ns.length<=63):∃ S',ai (fun _ _=>false) Pd 30 "law" [.fro (ns.map .int)] []=.ok (.bl true) S':=by
 obtain ⟨mx,M⟩:=uH hG
 have hl:=zE M ns (at':=3) (most:=3) (by decide) (by decide)
 have ed:=xK (sub:=sb) (n:=24) (S:=[]) hG M ns (at':=3) (most:=3) (by decide) (by decide) (by decide)
 generalize cV mx ns 3 3=l at hl ed
 have rg:=M.rng ns 0 (show (0:Int) < 2 by decide)
 obtain ⟨t,hg⟩:∃ t:Nat,2+mx ns 0 2=(t:Int):=⟨(2+mx ns 0 2).toNat,by omega⟩
 have ht:t=2\/t=3:=by omega
 have mt:ai sb Pd 29 "_law_mixed" [.fro (ns.map .int),.int 0,.int 2] []=.ok (.int (mx ns 0 2)) []:=M.ok (n:=27) ns (by decide) (by decide)
 have e2:opD .add (.int 2) (.int (mx ns 0 2)) []=.ok (.int (t:Int)) []:=by rw [<- hg]; exact bT _ _ _
 obtain ⟨inp,hil,hi,ei⟩:=vY (sub:=sb) (n:=26) (S:=[]) hG hI M ns (at':=1) (streams:=l.streams) (most:=9) (by decide) (by decide) (by have:=hl.streams; omega)
 have ei:ai sb Pd 29 "_law_inputs" [.fro (ns.map .int),.int 1,.int l.streams,.int 9] []=.ok (.loc 0) [.lst (inp.map ak)]:=ei
 have hn8:=hl.nworks.2
 have hst6:=hl.streams
 have eu:ai sb Pd 29 "_law_unrolled" [l.toD,.int (t:Int)] []=.ok (unr l t).toD []:=tW (n:=27) hS hL hl ht
 have hlen:biD sb .len [.tup (l.works.map Wk.toD)] []=.ok (.int (l.works.length:Int)) []:=by rw [cz,List.length_map]
 have htest:∀ due:D,evT sb (ai sb Pd 29) (.or (.cmp .gt (.bin .mul (.v 2) (.bi .len (.cs (.ix (.v 1) (.c (.int 2))) .nl))) (.c (.int 8))) (.cmp .gt (.bin .mul (.v 2) (.ix (.v 1) (.c (.int 0)))) (.c (.int 6)))) [some (.fro (ns.map .int)),some l.toD,some (.int (t:Int)),some due,none,none,none,none,none,none] []=.ok (decide (l.works.length * t > 8\/l.streams * t > 6)) []:=fun due=>by
  have c1:evT sb (ai sb Pd 29) (.cmp .gt (.bin .mul (.v 2) (.bi .len (.cs (.ix (.v 1) (.c (.int 2))) .nl))) (.c (.int 8))) [some (.fro (ns.map .int)),some l.toD,some (.int (t:Int)),some due,none,none,none,none,none,none] []=.ok (decide (l.works.length * t > 8)) []:=by
   refine t_k (aG (aL (aC (r_v rfl) (aF (aa (ay (r_v rfl) r_c (aA rfl)) ah) hlen) (d7 ⟨by omega,by omega⟩)) r_c (fX _ _ _))) ?_
   rw [<- Int.natCast_mul,Nat.mul_comm]
   by_cases z:l.works.length * t > 8
   ·rw [decide_eq_true z,decide_eq_true (by omega)]
   ·rw [decide_eq_false z,decide_eq_false (by omega)]
  have c2:evT sb (ai sb Pd 29) (.cmp .gt (.bin .mul (.v 2) (.ix (.v 1) (.c (.int 0)))) (.c (.int 6))) [some (.fro (ns.map .int)),some l.toD,some (.int (t:Int)),some due,none,none,none,none,none,none] []=.ok (decide (l.streams * t > 6)) []:=by
   refine t_k (aG (aL (aC (r_v rfl) (ay (r_v rfl) r_c (aA rfl)) (d7 ⟨by omega,by omega⟩)) r_c (fX _ _ _))) ?_
   rw [<- Int.natCast_mul,Nat.mul_comm]
   by_cases z:l.streams * t > 6
   ·rw [decide_eq_true z,decide_eq_true (by omega)]
   ·rw [decide_eq_false z,decide_eq_false (by omega)]
  by_cases z:l.works.length * t > 8
  ·rw [decide_eq_true z] at c1
   rw [decide_eq_true (.inl z)]
   exact je c1
  ·rw [decide_eq_false z] at c1
   refine t_k (bS c1 c2) ?_
   by_cases z':l.streams * t > 6
   ·rw [decide_eq_true z',decide_eq_true (.inr z')]
   ·rw [decide_eq_false z',decide_eq_false fun w=>w.elim z z']
 by_cases hb:l.works.length * t > 8\/l.streams * t > 6
 ·have et:ai sb Pd 29 "_law_told" [l.toD,.int (t:Int)] []=.ok (.str "big") [] :=
   x_call (n:=28) (ds:=[l.toD,.int (t:Int)]) (show Has Pd "_law_told" iY from rfl) rfl (Ac (aa (r_v rfl) (aa (r_v rfl) ah)) (yD (n:=20) hB hU hl ht hb)) (bu rfl rfl)
  obtain ⟨S',er⟩:=mK hl ht hil hi (due:=.str "big") ei
  have ht1:=htest (unr l t).toD
  rw [decide_eq_true hb] at ht1
  generalize (unr l t).toD=UD at eu ht1
  exact ⟨[],x_call (ds:=[.fro (ns.map .int)]) (show Has Pd "law" j6 from rfl) rfl (aj (aB (aD (aa (r_v rfl) (aa r_c (aa r_c ah))) ed)) (aj (aB (aC r_c (aD (aa (r_v rfl) (aa r_c (aa r_c ah))) mt) e2)) (aj (aB (aD (aa (r_v rfl) (aa (r_v rfl) ah)) eu))
   (aj (bU ht1 (aB r_c)) (aj (aJ (bS (aG (aL (aD (aa (r_v rfl) (aa (r_v rfl) ah)) et) (r_v rfl) rfl)) (jO (aG (aL (r_v rfl) r_c rfl)))) aH) er))))) (bu (S:=[]) (d:=.bl true) rfl rfl)⟩
 ·have h8:l.works.length * t<=8:=by
   by_cases z:l.works.length * t<=8
   ·exact z
   ·exact absurd (Or.inl (Nat.lt_of_not_le z)) hb
  have h6:l.streams * t<=6:=by
   by_cases z:l.streams * t<=6
   ·exact z
   ·exact absurd (Or.inr (Nat.lt_of_not_le z)) hb
  have hUw:=qS ht hl h8 h6
  have hok:ai sb Pd 28 "unrolled" [l.toD,.int (t:Int)] []=.ok (unr l t).toD []:=su (n:=20) hB hU hl ht h8 h6
  have hck:ai sb Pd 29 "checked" [(unr l t).toD] []=.ok (unr l t).toD []:=j_ (n:=22) hB hUw
  have hcl:=(unr l t).cl
  have hne:cmD .ne (unr l t).toD (unr l t).toD []=.ok (.bl false) []:=tX _
  have hbig:cmD .ne (unr l t).toD (.str "big") []=.ok (.bl true) []:=by
   rw [kC,if_pos (show c6 (unr l t).toD (.str "big")=true from rfl)]; rfl
  have ht1:=htest (unr l t).toD
  rw [decide_eq_false hb] at ht1
  obtain ⟨S',er⟩:=mK hl ht hil hi (due:=(unr l t).toD) ei
  generalize (unr l t).toD=UD at eu hok hck hcl hne hbig ht1 er
  have et:ai sb Pd 29 "_law_told" [l.toD,.int (t:Int)] []=.ok UD [] :=
   x_call (n:=28) (ds:=[l.toD,.int (t:Int)]) (show Has Pd "_law_told" iY from rfl) rfl (xG (aa (r_v rfl) (aa (r_v rfl) ah)) hok) (bu hcl rfl)
  exact ⟨[],x_call (ds:=[.fro (ns.map .int)]) (show Has Pd "law" j6 from rfl) rfl (aj (aB (aD (aa (r_v rfl) (aa r_c (aa r_c ah))) ed)) (aj (aB (aC r_c (aD (aa (r_v rfl) (aa r_c (aa r_c ah))) mt) e2)) (aj (aB (aD (aa (r_v rfl) (aa (r_v rfl) ah)) eu))
   (aj (aJ ht1 aH) (aj (aJ (bS (aG (aL (aD (aa (r_v rfl) (aa (r_v rfl) ah)) et) (r_v rfl) hne)) (gm (aG (aL (r_v rfl) r_c hbig)) (aG (aL (aD (aa (r_v rfl) ah) hck) (r_v rfl) hne)))) aH) er))))) (bu (S:=[]) (d:=.bl true) rfl rfl)⟩
end K19

namespace K19
open PySem EV RL
noncomputable def top (i:Nat):Stmt:=PySem.Challenge.pw_roundlap_k19_unrolled.main.body.getD i (.Pass ⟨0,0,0,0⟩)
noncomputable def fns:List (Str × Stmt):=[(("is_whole" : Str),top 16),(("is_value" : Str),top 17),(("is_row" : Str),top 18),(("is_crew" : Str),top 19),(("are_crews" : Str),top 20),(("is_work_source" : Str),top 21),(("is_source" : Str),top 22),(("are_starts" : Str),top 23),(("is_work" : Str),top 24),(("are_works" : Str),top 25),(("are_outs" : Str),top 26),(("is_loop" : Str),top 27),(("checked" : Str),top 28),(("checked_times" : Str),top 31),(("moved_source" : Str),top 32),(("start_of" : Str),top 33),(("moved_work" : Str),top 34),(("unrolled" : Str),top 35),(("rows_together" : Str),top 36),(("_law_cell_at" : Str),top 38),(("_law_mixed" : Str),top 39),(("_law_source" : Str),top 40),(("_law_work" : Str),top 41),(("_law_loop" : Str),top 42),(("_law_inputs" : Str),top 43),(("_law_source_in" : Str),top 44),(("_law_unrolled" : Str),top 45),(("_law_told" : Str),top 46),(("law" : Str),top 47)]
noncomputable def vals:List (Str × D):=[("REST",(.int 9973)),("MOST_STREAMS",(.int 6)),("MOST_CREWS",(.int 3)),("MOST_MACHINES",(.int 3)),("MOST_BUSY",(.int 4)),("MOST_WORKS",(.int 8)),("MOST_LONG",(.int 8)),("MOST_SOURCES",(.int 3)),("MOST_BACK",(.int 3)),("WORDS",(.tup [(.str "plus"),(.str "less"),(.str "times"),(.str "least"),(.str "greatest")])),("MOST_UNROLLED",(.int 3))]
noncomputable def cls:List Str:=["LapError","NoLoop","NoRounds","TooBig"]
set_option maxRecDepth 100000 in
set_option maxHeartbeats 0 in
theorem hP:fns.map (fun p=>(p.1,trF (c_ fns vals cls) p.2))=Pd.map fun p=>(p.1,some p.2):=by kernel_rfl
end K19
noncomputable def PySem.W.Fast.tw12718288933680335557:Nat:=0
noncomputable def PySem.W.Fast.tw15128297317392373826:Nat:=0
noncomputable def PySem.W.Fast.tw13534339803212449648:Nat:=0
noncomputable def PySem.W.Fast.tw15330256343285681725:Nat:=0
noncomputable def PySem.W.Fast.tw4481115350655463770:Nat:=0
noncomputable def PySem.W.Fast.tw3409563963142408255:Nat:=0
noncomputable def PySem.W.Fast.tw8250467303409793569:Nat:=0
noncomputable def PySem.W.Fast.tw13650055515241208202:Nat:=0
noncomputable def PySem.W.Fast.tw7221744071718018102:Nat:=0
noncomputable def PySem.W.Fast.tw11771339123448486687:Nat:=0
noncomputable def PySem.W.Fast.tw1321704985100307187:Nat:=0
noncomputable def PySem.W.Fast.tw16988184187920340177:Nat:=0
noncomputable def PySem.W.Fast.tw7923766294181859955:Nat:=0
noncomputable def PySem.W.Fast.tw8330143616770104624:Nat:=0
noncomputable def PySem.W.Fast.tw6278160210375305740:Nat:=0
noncomputable def PySem.W.Fast.tw3684508257935984689:Nat:=0
noncomputable def PySem.W.Fast.tw4812500677445966981:Nat:=0
noncomputable def PySem.W.Fast.tw8394455677382554547:Nat:=0
noncomputable def PySem.W.Fast.tw13405036738564657383:Nat:=0
noncomputable def PySem.W.Fast.tw6684112011700767467:Nat:=0
noncomputable def PySem.W.Fast.tw14640958096443032608:Nat:=0
noncomputable def PySem.W.Fast.tw15917339361977289526:Nat:=0
noncomputable def PySem.W.Fast.tw15571604879341954156:Nat:=0
noncomputable def PySem.W.Fast.tw9306757548783525534:Nat:=0
noncomputable def PySem.W.Fast.tw111685461560170766:Nat:=0
noncomputable def PySem.W.Fast.tw7041988570414636390:Nat:=0
noncomputable def PySem.W.Fast.tw14105386474847161438:Nat:=0
noncomputable def PySem.W.Fast.tw3475026400251766023:Nat:=0
noncomputable def PySem.W.Fast.tw5755887601809786113:Nat:=0
noncomputable def PySem.W.Fast.tw6887158227180161654:Nat:=0
noncomputable def PySem.W.Fast.tw4177707458769823508:Nat:=0
noncomputable def PySem.W.Fast.tw16950488811863483839:Nat:=0
noncomputable def PySem.W.Fast.tw9380809559016198795:Nat:=0
noncomputable def PySem.W.Fast.tw9782866406422549974:Nat:=0
noncomputable def PySem.W.Fast.tw5120965545267330792:Nat:=0
noncomputable def PySem.W.Fast.tw4691147031760971630:Nat:=0
noncomputable def PySem.W.Fast.tw10073406790854445755:Nat:=0
noncomputable def PySem.W.Fast.tw14212054392085607456:Nat:=0
noncomputable def PySem.W.Fast.tw14019670656942480994:Nat:=0
noncomputable def PySem.W.Fast.tw9390340749140425922:Nat:=0
noncomputable def PySem.W.Fast.tw3934487400777375297:Nat:=0
noncomputable def PySem.W.Fast.tw16654844268894805212:Nat:=0
noncomputable def PySem.W.Fast.tw328175971513942708:Nat:=0
noncomputable def PySem.W.Fast.tw2433583010925349233:Nat:=0
noncomputable def PySem.W.Fast.tw6624903225350419874:Nat:=0
noncomputable def PySem.W.Fast.tw13575047551531358034:Nat:=0
noncomputable def PySem.W.Fast.tw9246516229132168704:Nat:=0
noncomputable def PySem.W.Fast.tw14827357649767613867:Nat:=0
noncomputable def PySem.W.Fast.tw17554686365900510790:Nat:=0
noncomputable def PySem.W.Fast.tw16350049986810087469:Nat:=0
noncomputable def PySem.W.Fast.tw9942635646073103904:Nat:=0
noncomputable def PySem.W.Fast.tw16140030743015073797:Nat:=0
noncomputable def PySem.W.Fast.tw5199189151543660182:Nat:=0
noncomputable def PySem.W.Fast.tw6345712120807357880:Nat:=0
noncomputable def PySem.W.Fast.tw8739115121883782253:Nat:=0
noncomputable def PySem.W.Fast.tw12178494228056030516:Nat:=0
noncomputable def PySem.W.Fast.tw180382987342639119:Nat:=0
noncomputable def PySem.W.Fast.tw13746572179461246173:Nat:=0
noncomputable def PySem.W.Fast.tw512882790570995695:Nat:=0
noncomputable def PySem.W.Fast.tw8008968282111109642:Nat:=0
noncomputable def PySem.W.Fast.tw170964443665034460:Nat:=0
noncomputable def PySem.W.Fast.tw14630647700856652835:Nat:=0
noncomputable def PySem.W.Fast.tw11345722698326646174:Nat:=0
noncomputable def PySem.W.Fast.tw18225393754077509869:Nat:=0
noncomputable def PySem.W.Fast.tw17378196771081184148:Nat:=0
noncomputable def PySem.W.Fast.tw4296617195433229254:Nat:=0
noncomputable def PySem.W.Fast.tw12333801795763502073:Nat:=0
noncomputable def PySem.W.Fast.tw10894051651102363838:Nat:=0
noncomputable def PySem.W.Fast.tw16735951065390256026:Nat:=0
noncomputable def PySem.W.Fast.tw8889042354307800971:Nat:=0
noncomputable def PySem.W.Fast.tw9730733887449571737:Nat:=0
noncomputable def PySem.W.Fast.tw17906485061538814216:Nat:=0
noncomputable def PySem.W.Fast.tw11166390978616374774:Nat:=0
noncomputable def PySem.W.Fast.tw17053273986063338120:Nat:=0
noncomputable def PySem.W.Fast.tw13821676081807216536:Nat:=0
noncomputable def PySem.W.Fast.tw10815368855059426582:Nat:=0
noncomputable def PySem.W.Fast.tw4921224731409262071:Nat:=0
noncomputable def PySem.W.Fast.tw10397453870187733669:Nat:=0
noncomputable def PySem.W.Fast.tw4961161596094931559:Nat:=0
noncomputable def PySem.W.Fast.tw6007361111606893381:Nat:=0
noncomputable def PySem.W.Fast.tw1767826158959680863:Nat:=0
noncomputable def PySem.W.Fast.tw11979894410334664761:Nat:=0
noncomputable def PySem.W.Fast.tw5541495506691810823:Nat:=0
noncomputable def PySem.W.Fast.tw16565528451677626989:Nat:=0
noncomputable def PySem.W.Fast.tw9362981547909930689:Nat:=0
noncomputable def PySem.W.Fast.tw5280371263898081471:Nat:=0
noncomputable def PySem.W.Fast.tw10964219319799098265:Nat:=0
noncomputable def PySem.W.Fast.tw4120185051633564665:Nat:=0
noncomputable def PySem.W.Fast.tw13645321682950933317:Nat:=0
noncomputable def PySem.W.Fast.tw14342643186384791672:Nat:=0
noncomputable def PySem.W.Fast.tw16164299435755148130:Nat:=0
noncomputable def PySem.W.Fast.tw16936436660121642400:Nat:=0
noncomputable def PySem.W.Fast.tw18272607701623628735:Nat:=0
noncomputable def PySem.W.Fast.tw11559692303055494070:Nat:=0
noncomputable def PySem.W.Fast.tw9610837558157950358:Nat:=0
noncomputable def PySem.W.Fast.tw752788012853291015:Nat:=0
noncomputable def PySem.W.Fast.tw3129204360479798651:Nat:=0
noncomputable def PySem.W.Fast.tw13724754406388593800:Nat:=0
noncomputable def PySem.W.Fast.tw9600716818105913531:Nat:=0
noncomputable def PySem.W.Fast.tw18424101622796334401:Nat:=0
noncomputable def PySem.W.Fast.tw16712501110333119614:Nat:=0
noncomputable def PySem.W.Fast.tw11407753124791143855:Nat:=0
noncomputable def PySem.W.Fast.tw6353394966786114545:Nat:=0
noncomputable def PySem.W.Fast.tw4663619968898377064:Nat:=0
noncomputable def PySem.W.Fast.tw14230524902197783767:Nat:=0
noncomputable def PySem.W.Fast.tw218325783751192445:Nat:=0
noncomputable def PySem.W.Fast.tw1755896643416702063:Nat:=0
noncomputable def PySem.W.Fast.tw12081187122746631277:Nat:=0
noncomputable def PySem.W.Fast.tw6161949210666928468:Nat:=0
noncomputable def PySem.W.Fast.tw12866071099937548984:Nat:=0
noncomputable def PySem.W.Fast.tw3987219762997335560:Nat:=0
noncomputable def PySem.W.Fast.tw880166734747493598:Nat:=0
noncomputable def PySem.W.Fast.tw14751291618367466721:Nat:=0
noncomputable def PySem.W.Fast.tw14738875692023734943:Nat:=0
noncomputable def PySem.W.Fast.tw6673252417800408815:Nat:=0
noncomputable def PySem.W.Fast.tw2808589295131721534:Nat:=0
noncomputable def PySem.W.Fast.tw10478523829994499328:Nat:=0
noncomputable def PySem.W.Fast.tw10202306131072643620:Nat:=0
noncomputable def PySem.W.Fast.tw16368294417521686646:Nat:=0
noncomputable def PySem.W.Fast.tw11360284014956765942:Nat:=0
noncomputable def PySem.W.Fast.tw5760959420705456645:Nat:=0
noncomputable def PySem.W.Fast.tw9344850105739614329:Nat:=0
noncomputable def PySem.W.Fast.tw12345227078263015212:Nat:=0
noncomputable def PySem.W.Fast.tw5710531669113825154:Nat:=0
noncomputable def PySem.W.Fast.tw2166593974706412225:Nat:=0
noncomputable def PySem.W.Fast.tw16249314368153306237:Nat:=0
noncomputable def PySem.W.Fast.tw8824460849809059881:Nat:=0
noncomputable def PySem.W.Fast.tw14348173979483073681:Nat:=0
noncomputable def PySem.W.Fast.tw10438861508846325385:Nat:=0
noncomputable def PySem.W.Fast.tw10312476329395649778:Nat:=0
noncomputable def PySem.W.Fast.tw2248985713613286369:Nat:=0
noncomputable def PySem.W.Fast.tw7523010087811921000:Nat:=0
noncomputable def PySem.W.Fast.tw3764253198160183343:Nat:=0
noncomputable def PySem.W.Fast.tw14589865629908421476:Nat:=0
noncomputable def PySem.W.Fast.tw12050873047618140431:Nat:=0
noncomputable def PySem.W.Fast.tw5638214955246879157:Nat:=0
noncomputable def PySem.W.Fast.tw13428789077497492343:Nat:=0
noncomputable def PySem.W.Fast.tw17199174997759037448:Nat:=0
noncomputable def PySem.W.Fast.tw15726411252388230697:Nat:=0
noncomputable def PySem.W.Fast.tw4689750841203897131:Nat:=0
noncomputable def PySem.W.Fast.tw17385212672037153266:Nat:=0
noncomputable def PySem.W.Fast.tw9169579495943069221:Nat:=0
noncomputable def PySem.W.Fast.tw625553878198264930:Nat:=0
noncomputable def PySem.W.Fast.tw18157924184406738518:Nat:=0
noncomputable def PySem.W.Fast.tw18361002013919887536:Nat:=0
noncomputable def PySem.W.Fast.tw14695778117759723739:Nat:=0
noncomputable def PySem.W.Fast.tw2081071531146068073:Nat:=0
noncomputable def PySem.W.Fast.tw5323781731511002039:Nat:=0
noncomputable def PySem.W.Fast.tw11634358294310070889:Nat:=0
noncomputable def PySem.W.Fast.tw16856038398117272916:Nat:=0
noncomputable def PySem.W.Fast.tw7613471355057326338:Nat:=0
noncomputable def PySem.W.Fast.tw5226173131206295112:Nat:=0
noncomputable def PySem.W.Fast.tw12750515215200349746:Nat:=0
noncomputable def PySem.W.Fast.tw1596047534987920188:Nat:=0
noncomputable def PySem.W.Fast.tw8130960008028733215:Nat:=0
noncomputable def PySem.W.Fast.tw6343191589389720093:Nat:=0
noncomputable def PySem.W.Fast.tw4024012318057453:Nat:=0
noncomputable def PySem.W.Fast.tw7269252158855046526:Nat:=0
noncomputable def PySem.W.Fast.tw813081351277029084:Nat:=0
noncomputable def PySem.W.Fast.tw7097458645618060307:Nat:=0
noncomputable def PySem.W.Fast.tw6158359683605665531:Nat:=0
noncomputable def PySem.W.Fast.tw13172988874662779364:Nat:=0
noncomputable def PySem.W.Fast.tw1238692868551845704:Nat:=0
noncomputable def PySem.W.Fast.tw13198934322005528642:Nat:=0
noncomputable def PySem.W.Fast.tw5194229107678964011:Nat:=0
noncomputable def PySem.W.Fast.tw3870925192768344035:Nat:=0
noncomputable def PySem.W.Fast.tw5762680541364668006:Nat:=0
noncomputable def PySem.W.Fast.tw1561288308707843917:Nat:=0
noncomputable def PySem.W.Fast.tw8414421879530184180:Nat:=0
noncomputable def PySem.W.Fast.tw3456732620894034048:Nat:=0
noncomputable def PySem.W.Fast.tw17558054350015427321:Nat:=0
noncomputable def PySem.W.Fast.tw3094201164520945907:Nat:=0
noncomputable def PySem.W.Fast.tw7130032339707237236:Nat:=0
noncomputable def PySem.W.Fast.tw5846909329638481742:Nat:=0
noncomputable def PySem.W.Fast.tw13030160320517014576:Nat:=0
noncomputable def PySem.W.Fast.tw16856630997988704942:Nat:=0
noncomputable def PySem.W.Fast.tw8999010890720930793:Nat:=0
noncomputable def PySem.W.Fast.tw6390607111496864479:Nat:=0
noncomputable def PySem.W.Fast.tw18246382763137603524:Nat:=0
noncomputable def PySem.W.Fast.tw17484716134401451967:Nat:=0
noncomputable def PySem.W.Fast.tw12877324846240651352:Nat:=0
noncomputable def PySem.W.Fast.tw5917666064304133621:Nat:=0
noncomputable def PySem.W.Fast.tw11236430091855171249:Nat:=0
noncomputable def PySem.W.Fast.tw9672793536785447117:Nat:=0
noncomputable def PySem.W.Fast.tw4708114131135559194:Nat:=0
noncomputable def PySem.W.Fast.tw5222079945073220622:Nat:=0
noncomputable def PySem.W.Fast.tw7448850317096286957:Nat:=0
noncomputable def PySem.W.Fast.tw5207615861408870953:Nat:=0
noncomputable def PySem.W.Fast.tw2564423594515617851:Nat:=0
noncomputable def PySem.W.Fast.tw4501546325147652286:Nat:=0
noncomputable def PySem.W.Fast.tw7886115040994088778:Nat:=0
noncomputable def PySem.W.Fast.tw12781533427111445670:Nat:=0
noncomputable def PySem.W.Fast.tw8416084070595590922:Nat:=0
noncomputable def PySem.W.Fast.tw11516111193783865842:Nat:=0
noncomputable def PySem.W.Fast.tw16036375394560701314:Nat:=0
noncomputable def PySem.W.Fast.tw1597043735559401443:Nat:=0
noncomputable def PySem.W.Fast.tw14884989034514992248:Nat:=0
noncomputable def PySem.W.Fast.tw13469340105815464111:Nat:=0
noncomputable def PySem.W.Fast.tw12722480594933496923:Nat:=0
noncomputable def PySem.W.Fast.tw13584717189340074676:Nat:=0
noncomputable def PySem.W.Fast.tw12833701105334982362:Nat:=0
noncomputable def PySem.W.Fast.tw18283090053922019606:Nat:=0
noncomputable def PySem.W.Fast.tw6338969814690341520:Nat:=0
noncomputable def PySem.W.Fast.tw5442486905483021711:Nat:=0
noncomputable def PySem.W.Fast.tw3118280986097172646:Nat:=0
noncomputable def PySem.W.Fast.tw5494657306171200843:Nat:=0
noncomputable def PySem.W.Fast.tw1139187503432872971:Nat:=0
noncomputable def PySem.W.Fast.tw14042850087541495938:Nat:=0
noncomputable def PySem.W.Fast.tw1809561980292432950:Nat:=0
noncomputable def PySem.W.Fast.tw13202075698329238983:Nat:=0
noncomputable def PySem.W.Fast.tw489242369730526145:Nat:=0
noncomputable def PySem.W.Fast.tw15739622008728427863:Nat:=0
noncomputable def PySem.W.Fast.tw11287778557474696958:Nat:=0
noncomputable def PySem.W.Fast.tw3818748615864765775:Nat:=0
noncomputable def PySem.W.Fast.tw6204140112063323375:Nat:=0
noncomputable def PySem.W.Fast.tw11648235330678973352:Nat:=0
noncomputable def PySem.W.Fast.tw15267249540215089731:Nat:=0
noncomputable def PySem.W.Fast.tw14415321753752473015:Nat:=0
noncomputable def PySem.W.Fast.tw268196389650177968:Nat:=0
noncomputable def PySem.W.Fast.tw8928693053710507068:Nat:=0
noncomputable def PySem.W.Fast.tw958025589432626509:Nat:=0
noncomputable def PySem.W.Fast.tw4180479693756743455:Nat:=0
noncomputable def PySem.W.Fast.tw12375665028682911419:Nat:=0
noncomputable def PySem.W.Fast.tw11430184308020476881:Nat:=0
noncomputable def PySem.W.Fast.tw17284708425429990856:Nat:=0
noncomputable def PySem.W.Fast.tw11922390592862346939:Nat:=0
noncomputable def PySem.W.Fast.tw10429996983082132651:Nat:=0
noncomputable def PySem.W.Fast.tw16840581734322399798:Nat:=0
noncomputable def PySem.W.Fast.tw15960833282371330300:Nat:=0
noncomputable def PySem.W.Fast.tw4429503083122835023:Nat:=0
noncomputable def PySem.W.Fast.tw1516658357846859139:Nat:=0
noncomputable def PySem.W.Fast.tw5805752709402598797:Nat:=0
noncomputable def PySem.W.Fast.tw16089811338466136421:Nat:=0
noncomputable def PySem.W.Fast.tw2719192844254073463:Nat:=0
noncomputable def PySem.W.Fast.tw15665779142804128502:Nat:=0
noncomputable def PySem.W.Fast.tw8098863991030540644:Nat:=0
open PySem PySem.W PyProof.Rows
set_option maxRecDepth 100000 in
set_option maxHeartbeats 0 in
theorem PySem.Challenge.cw_roundlap_k19_unrolled_holds : PySem.Challenge.rw_roundlap_k19_unrolled.Holds := by
 w_on; o_law; k_head; (case hw=>w_witness2)
 k_fill
 refine EV.vK (l:=PySem.Challenge.rw_roundlap_k19_unrolled) (fns:=K19.fns) (vals:=K19.vals) (cls:=K19.cls) (Pd:=K19.Pd) (sub:=fun _ _=>false) (n:=30) (st:=K19.top 47) (x:="_law_script") rfl rfl ⟨rfl,by decide,by decide⟩ (fun w h Y=>PySem.W.kIn_of Y) K19.hP rfl rfl ?T K19.main
 case T =>
  intro w h KX
  refine ⟨?_,?_,?_,?_⟩
  ·unfold K19.fns
   repeat (apply EV.c7.cons; k_is; k_is; k_is; k_is)
   exact EV.c7.nil
  ·unfold K19.vals
   repeat first
    | (apply EV.bY.flat; k_is; constructor)
    | (apply EV.bY.tup; k_is; k_is; decide; (focus (repeat' constructor)))
   exact EV.bY.nil
  ·unfold K19.cls
   repeat first
    | (apply EV.bF.cons; k_is; k_exc; kit_is; k_is; kit_is; decide +kernel)
    | (apply EV.bF.consN; k_is; k_exc; kit_is; k_is; kit_is; k_is)
    | (apply EV.bF.consP; k_is; k_exc; kit_is; k_is; kit_is; k_is; kit_is; k_is; k_is; k_is; k_is; k_is; k_is; k_is; k_is)
   exact EV.bF.nil
  ·refine fun x hx _=>EV.dH.get (l:=EV.dB) ?hNone0 hx
   unfold EV.dB
   repeat (apply EV.dH.cons; k_is)
   exact EV.dH.nil
end
