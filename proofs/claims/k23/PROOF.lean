import PyProof.Rows.All
import Wide.All
import OpenK.AllK
import Wide.FinOn
import Lean
import PyProof.EqAt
import PyProof.EqKinds
import PyProof.TupleCall
import PyProof.ListRange
import PyProof.TupleOfSeq
import PySem.Str
import PyProof.NeKinds
import OpenK.KRaise
import OpenK.KOwn
import PyProof.NsDelKeeps
import PyProof.StrOps2
import PyProof.ExcAttrAll.ValueError
import PySem.Eval
import PyProof.ExcBaseAll.ValueError
import PySem.Challenge.RW_roundlap_k23_texts
set_option genSizeOfSpec false
set_option bootstrap.genMatcherCode false
noncomputable section
set_option Elab.async false
set_option linter.all false
set_option maxRecDepth 100000
namespace L2
open PySem PySem.Spec PyProof.Rows
abbrev Key:=Sum Int Str
noncomputable def sR:Key->Value->Bool
 | .inl k,v=>Value.isInt k v
 | .inr x,v=>Value.isStrOf x v
noncomputable def BQ (w:World):Key->Int
 | .inl k=>hashInt k
 | .inr x=>hashStr w x
theorem fy:∀ {k:Key} {v:Value},sR k v=true->(∃ i t,k=Sum.inl i/\v=Value.int i t)\/(∃ x t,k=Sum.inr x/\v=Value.str x t)
 | .inl i,v,h=>by
  obtain ⟨t,e⟩:=Value.isInt_shape (k:=i) (v:=v) h
  exact .inl ⟨i,t,rfl,e⟩
 | .inr x,v,h=>by
  obtain ⟨t,e⟩:=Value.isStrOf_shape (x:=x) (v:=v) h
  exact .inr ⟨x,t,rfl,e⟩
theorem Bf (a b:Int):decide ((Sum.inl a:Key)=Sum.inl b)=(a==b):=by
 by_cases e:a=b
 ·subst e; simp
 ·have h:¬ (Sum.inl a:Key)=Sum.inl b:=fun q=>e (Sum.inl.inj q)
  rw [decide_eq_false h]
  exact (beq_eq_false_iff_ne.mpr e).symm
theorem Cw (a b:Str):decide ((Sum.inr a:Key)=Sum.inr b)=decide (a=b):=by
 by_cases e:a=b
 ·subst e; simp
 ·have h:¬ (Sum.inr a:Key)=Sum.inr b:=fun q=>e (Sum.inr.inj q)
  rw [decide_eq_false h,decide_eq_false e]
theorem vO (a:Int) (b:Str):decide ((Sum.inl a:Key)=Sum.inr b)=false:=decide_eq_false (fun q=>nomatch q)
theorem Ad (a:Str) (b:Int):decide ((Sum.inr a:Key)=Sum.inl b)=false:=decide_eq_false (fun q=>nomatch q)
noncomputable def mT (prog:Program) (w:World):PySem.KeyKind prog w Key where
 is:=sR
 hash:=BQ w
 inj:=fun v a b ha hb=>by
  rcases fy ha with ⟨i,t,rfl,rfl⟩|⟨x,t,rfl,rfl⟩
  ·rcases fy hb with ⟨j,u,rfl,e⟩|⟨y,u,rfl,e⟩
   ·injection e with e1 _; rw [e1]
   ·exact nomatch e
  ·rcases fy hb with ⟨j,u,rfl,e⟩|⟨y,u,rfl,e⟩
   ·exact nomatch e
   ·injection e with e1 _; rw [e1]
 byValue:=fun k v h=>by
  rcases fy h with ⟨i,t,rfl,rfl⟩|⟨x,t,rfl,rfl⟩ <;> rfl
 pyHash:=fun hv h=>by
  rcases fy hv with ⟨i,t,rfl,rfl⟩|⟨x,t,rfl,rfl⟩
  ·exact wpAny_pyHash_int h
  ·exact wpAny_pyHash_str h
 eqBool:=fun hu hv h=>by
  rcases fy hu with ⟨i,t,rfl,rfl⟩|⟨x,t,rfl,rfl⟩
  ·rcases fy hv with ⟨j,u,rfl,rfl⟩|⟨y,u,rfl,rfl⟩
   ·rw [Bf] at h; exact wpAny_eqBool_int h
   ·rw [vO] at h; exact SeqAt.EqAt.int_str i t y u _ _ _ _ h
  ·rcases fy hv with ⟨j,u,rfl,rfl⟩|⟨y,u,rfl,rfl⟩
   ·rw [Ad] at h; exact SeqAt.EqAt.str_int x t j u _ _ _ _ h
   ·rw [Cw] at h; exact wpAny_eqBool_str h
 «strs»:=fun k x t v h=>by
  rcases fy h with ⟨i,u,rfl,e⟩|⟨y,u,rfl,e⟩
  ·exact nomatch e
  ·injection e with e1 _
   subst e1
   cases v <;> rfl
end L2
namespace L2
open PySem PySem.Spec PyProof.Rows
inductive V where
 | non|bl (b:Bool)|int (i:Int)|str (x:Str)|byt (b:Array UInt8)|flt (b:UInt64)|ref (a:Addr)|ty (n:String)
 deriving DecidableEq
noncomputable def RelV:V->Value->Prop
 | .non,u=>u=Value.none
 | .bl b,u=>u=Value.bool b
 | .int i,u=>∃ t,u=Value.int i t
 | .str x,u=>∃ t,u=Value.str x t
 | .byt b,u=>∃ t,u=Value.bytes b t
 | .flt b,u=>∃ t,u=Value.float b t
 | .ref a,u=>u=Value.ref a
 | .ty n,u=>u=Value.type n
abbrev Vals:List V->List Value->Prop:=Paired RelV
theorem Vals.length {xs:List V} {us:List Value} (r:Vals xs us):xs.length=us.length:=Paired.length r
theorem Vals.get:∀ {xs:List V} {us:List Value} {i:Nat} {x:V},Vals xs us->xs[i]?=some x->∃ u,us[i]?=some u/\RelV x u
 | _,_,_,_,.nil,e=>by simp at e
 | _,_,0,_,.cons r _,e=>by simp at e; subst e; exact ⟨_,rfl,r⟩
 | _,_,i+1,x,.cons _ t,e=>by
  obtain ⟨u,h1,h2⟩:=Vals.get (i:=i) (x:=x) t (by simpa using e)
  exact ⟨u,by simpa using h1,h2⟩
theorem Vals.append:∀ {xs ys:List V} {us ws:List Value},Vals xs us->Vals ys ws->Vals (xs++ys) (us++ws)
 | _,_,_,_,.nil,s=>s
 | _,_,_,_,.cons r t,s=>.cons r (Vals.append t s)
theorem Vals.take:∀ {xs:List V} {us:List Value} (n:Nat),Vals xs us->Vals (xs.take n) (us.take n)
 | _,_,0,_=>.nil
 | _,_,_+1,.nil=>.nil
 | _,_,n+1,.cons r t=>.cons r (Vals.take n t)
theorem Vals.drop:∀ {xs:List V} {us:List Value} (n:Nat),Vals xs us->Vals (xs.drop n) (us.drop n)
 | _,_,0,r=>r
 | _,_,_+1,.nil=>.nil
 | _,_,n+1,.cons _ t=>Vals.drop n t
noncomputable def t8:Option V->Option Value->Prop
 | some v,some u=>RelV v u
 | none,none=>True
 | _,_=>False
noncomputable def KV {κ:Type}:List (κ × V)->List (κ × Value)->Prop:=Paired fun (p:κ × V) (q:κ × Value)=>p.1=q.1/\RelV p.2 q.2
noncomputable def kV:Key->V
 | .inl i=>.int i
 | .inr x=>.str x
inductive HO where
 /-- a list -/
 | lst (xs:List V)
 /-- a tuple (never changes) -/
 | tup (xs:List V)
 /-- a dict whose keys are ints and texts; one whose keys are tuples of ints and texts (the empty one is both) -/
 | dK (kvs:List (Key × V))|dT (kvs:List (List Key × V))
 /-- a set of ints: its members,its size -/
 | set (S:Int->Bool) (n:Nat)
 /-- an instance of the class at C,its dict at dx,its attributes -/
 | ins (C dx:Addr) (fs:List (Str × V))
 /-- the dict of the instance at x -/
 | own (x:Addr)
 /-- the dict of an exception -/
 | xd (fs:List (Str × V))
 /-- a bound method,f of x -/
 | met (f x:Addr)
 /-- a range object lo,lo+1,.. below hi -/
 | rng (lo hi:Int)
 /-- a thing that is known to the object (the script; a dict while a loop walks it): read,never written while it is so -/
 | frz (o:Obj) (u:HO)
 /-- a code object's table -/
 | tbl (ps:Array Value)
 /-- any other thing,by what is true of its one object (a def of one's own: SetO a S n:=HO.ext fun h=>..) -/
 | ext (φ:Heap->Prop)
abbrev Hp:=Addr->Option HO
noncomputable def upd (H:Hp) (a:Addr) (o:HO):Hp:=fun b=>if b=a then some o else H b
theorem fH {H:Hp} {a:Addr} {o:HO}:upd H a o a=some o:=by unfold upd; rw [if_pos rfl]
theorem aK {H:Hp} {a b:Addr} {o:HO} (h:b≠a):upd H a o b=H b:=by unfold upd; rw [if_neg h]
theorem qx {H:Hp} {a b:Addr} {o u:HO} (h:H a=some o) (h':H b=some u) (d:o≠u):a≠b:=by
 intro e; subst e; rw [h] at h'; exact d (Option.some.inj h')
theorem bT {H:Hp} {a b:Addr} {o:HO} (h:H a=some o) (h':H b=none):a≠b:=by
 intro e; subst e; rw [h] at h'; cases h'
section
variable (P:Program) (w:World)
noncomputable def cB (H:Hp) (h:Heap) (a:Addr):HO->Prop
 | .lst xs=>xs.length<=sizeLine/\∃ (its:List Value) (n:Nat),Vals xs its/\h.get? a=some { cls:=.type "list",data:=.seq its.toArray n }
 | .tup xs=>xs.length<=sizeLine/\∃ its:List Value,Vals xs its/\IsTup h a its.toArray
 | .dK kvs=>kvs.length<=sizeLine/\(a==sysModules)=false/\∃ vs,KV kvs vs/\h.DictOf (mT P w) a vs
 | .dT kvs=>kvs.length<=sizeLine/\(a==sysModules)=false/\∃ xs:List (List Key × Addr × Value),
   Paired (fun (p:List Key × V) (q:List Key × Addr × Value)=>p.1=q.1/\H q.2.1=some (.tup (p.1.map kV))/\RelV p.2 q.2.2) kvs xs /\
   ∃ o es ep,h.get? a=some o/\o.ExactDict/\o.data=.dict es ep/\es.toList=xs.map (entryOfKey (tupleKind (mT P w)))/\(xs.map (·.1)).Nodup
 | .set S n=>h.SetOf (intKind P w) a S n
 | .ins C dx fs=>H dx=some (.own a)/\fs.length<=1000/\dx≠a/\h.get? a=some (PySem.W.instObj C dx) /\
   ∃ mA,h.Ns1 dx mA/\(∀ f,t8 (fs.lookup f) (mA f))/\PySem.Within mA (fs.map (·.1))
 | .own _=>∃ o,h.get? a=some o
 | .xd fs=>∃ mA,h.Ns1 a mA/\∀ f,t8 (fs.lookup f) (mA f)
 | .rng lo hi=>∃ t u v,h.get? a=some { cls:=.type "range",data:=.fields #[.int lo t,.int hi u,.int 1 v] }
 | .frz o u=>h.get? a=some o/\cB H h a u
 | .tbl ps=>h.get? a=some { cls:=.none,data:=.fields ps }
 | .met f x=>h.get? a=some (PySem.W.methodObj (.ref f) (.ref x))
 | .ext φ=>φ h/\(∃ o,h.get? a=some o)/\∀ h1 h2:Heap,φ h1->(∀ o,h1.get? a=some o->h2.get? a=some o)->φ h2
noncomputable def HOk (H:Hp) (h:Heap):Prop:=∀ a o,H a=some o->cB P w H h a o
end
section
variable {P:Program} {w:World} {H H':Hp} {h h':Heap} {a:Addr} {o:HO}
theorem cB.lt (x:cB P w H h a o):a < h.objs.size:=by
 cases o with
 | lst xs=>obtain ⟨_,_,_,_,e⟩:=x; exact Heap.lt_size e
 | tup xs=>obtain ⟨_,_,_,p⟩:=x; exact p.lt
 | dK kvs=>obtain ⟨_,_,_,_,o,_,_,e,_⟩:=x; exact Heap.lt_size e
 | dT kvs=>obtain ⟨_,_,_,_,o,_,_,e,_⟩:=x; exact Heap.lt_size e
 | set S n=>obtain ⟨o,_,_,_,e,_⟩:=x; exact Heap.lt_size e
 | ins C dx fs=>obtain ⟨_,_,_,e,_⟩:=x; exact Heap.lt_size e
 | own y=>obtain ⟨_,e⟩:=x; exact Heap.lt_size e
 | xd fs=>obtain ⟨_,⟨_,_,_,e,_⟩,_⟩:=x; exact Heap.lt_size e
 | rng lo hi=>obtain ⟨_,_,_,e⟩:=x; exact Heap.lt_size e
 | frz ob u=>obtain ⟨e,_⟩:=x; exact Heap.lt_size e
 | tbl ps=>exact Heap.lt_size (show h.get? a=some _ from x)
 | met f y=>exact Heap.lt_size (show h.get? a=some _ from x)
 | ext φ=>obtain ⟨_,⟨_,e⟩,_⟩:=x; exact Heap.lt_size e
theorem Paired.rC {α β:Type} {F G:α->β->Prop}:∀ {l₁:List α} {l₂:List β},Paired F l₁ l₂->(∀ a b,F a b->G a b)->Paired G l₁ l₂
 | _,_,.nil,_=>.nil
 | _,_,.cons r t,f=>.cons (f _ _ r) (Paired.rC t f)
theorem cB.stay (x:cB P w H h a o) (k:∀ b u,(b=a\/H b=some (.own a))->h.get? b=some u->h'.get? b=some u)
  (ho:∀ b,H b=some (.own a)->H' b=some (.own a)) (ht:∀ b xs,H b=some (.tup xs)->H' b=some (.tup xs)):cB P w H' h' a o:=by
 induction o with
 | lst xs=>obtain ⟨z,its,n,r,e⟩:=x; exact ⟨z,its,n,r,k _ _ (.inl rfl) e⟩
 | tup xs=>obtain ⟨z,its,r,ob,e,c⟩:=x; exact ⟨z,its,r,ob,k _ _ (.inl rfl) e,c⟩
 | dK kvs=>obtain ⟨z,y,vs,r,ob,es,ep,e,c⟩:=x; exact ⟨z,y,vs,r,ob,es,ep,k _ _ (.inl rfl) e,c⟩
 | dT kvs =>
  obtain ⟨z,y,xs,r,ob,es,ep,e,c⟩:=x
  exact ⟨z,y,xs,Paired.rC r fun p q z=>⟨z.1,ht _ _ z.2.1,z.2.2⟩,ob,es,ep,k _ _ (.inl rfl) e,c⟩
 | set S n=>obtain ⟨ob,es,ep,t,e,c⟩:=x; exact ⟨ob,es,ep,t,k _ _ (.inl rfl) e,c⟩
 | ins C dx fs =>
  obtain ⟨d,z,ne,e,mA,⟨od,es,ep,e2,c⟩,r⟩:=x
  exact ⟨ho _ d,z,ne,k _ _ (.inl rfl) e,mA,⟨od,es,ep,k _ _ (.inr d) e2,c⟩,r⟩
 | own y=>obtain ⟨ob,e⟩:=x; exact ⟨ob,k _ _ (.inl rfl) e⟩
 | xd fs=>obtain ⟨mA,⟨od,es,ep,e,c⟩,r⟩:=x; exact ⟨mA,⟨od,es,ep,k _ _ (.inl rfl) e,c⟩,r⟩
 | rng lo hi=>obtain ⟨t,u,v,e⟩:=x; exact ⟨t,u,v,k _ _ (.inl rfl) e⟩
 | frz ob u ih=>obtain ⟨e,q⟩:=x; exact ⟨k _ _ (.inl rfl) e,ih q⟩
 | tbl ps =>
  have e:h.get? a=some { cls:=.none,data:=.fields ps }:=x
  show h'.get? a=some { cls:=.none,data:=.fields ps }
  exact k a _ (.inl rfl) e
 | met f y =>
  have e:h.get? a=some (PySem.W.methodObj (.ref f) (.ref y)):=x
  show h'.get? a=some (PySem.W.methodObj (.ref f) (.ref y))
  exact k a _ (.inl rfl) e
 | ext φ=>obtain ⟨p,⟨o,e⟩,st⟩:=x; exact ⟨st _ _ p fun o q=>k _ _ (.inl rfl) q,⟨o,k _ _ (.inl rfl) e⟩,st⟩
theorem HOk.lt (x:HOk P w H h) (e:H a=some o):a < h.objs.size:=(x a o e).lt
theorem HOk.fresh (x:HOk P w H h) (e:h.objs.size<=a):H a=none:=by
 cases q:H a with
 | none=>rfl
 | some u=>exact absurd (Nat.lt_of_lt_of_le (x.lt q) e) (Nat.lt_irrefl _)
theorem HOk.kept (x:HOk P w H h) (k:∀ b u,h.get? b=some u->h'.get? b=some u):HOk P w H h':=fun a o e =>
 (x a o e).stay (fun b u _ q=>k b u q) (fun _ q=>q) fun _ _ q=>q
theorem HOk.laid (x:HOk P w H h) (k:∀ b u,h.get? b=some u->h'.get? b=some u) (hp:h.objs.size<=a) (new:cB P w (upd H a o) h' a o):HOk P w (upd H a o) h':=fun b u e=>by
 have hn:=x.fresh hp
 by_cases hb:b=a
 ·subst hb; rw [fH] at e; cases e; exact new
 ·rw [aK hb] at e
  exact (x b u e).stay (fun c v _ q=>k c v q) (fun c q=>by rw [aK (bT q hn)]; exact q) fun c xs q=>by rw [aK (bT q hn)]; exact q
end
noncomputable def Rd (H:Hp) (a:Addr) (u:HO):Prop:=H a=some u\/∃ o,H a=some (.frz o u)
theorem Rd.ok {P:Program} {w:World} {H:Hp} {h:Heap} {a:Addr} {u:HO} (r:Rd H a u) (x:HOk P w H h):cB P w H h a u:=by
 rcases r with r|⟨o,r⟩
 ·exact x a u r
 ·obtain ⟨_,q⟩:=x a _ r
  exact q
noncomputable def Mut:Option HO->Prop
 | some (.lst _)=>True
 | some (.dK _)=>True
 | some (.dT _)=>True
 | some (.set _ _)=>True
 | some (.ins _ _ _)=>True
 | some (.ext _)=>True
 | _=>False
section
variable {P:Program} {w:World} {H:Hp} {h h':Heap} {x e:Addr} {o':HO}
theorem HOk.write (ok:HOk P w H h) (mu:Mut (H x)) (he:e=x\/H e=some (.own x)) (k:∀ b u,b≠e->h.get? b=some u->h'.get? b=some u) (heo:∃ u,h'.get? e=some u)
  (new:cB P w (upd H x o') h' x o'):HOk P w (upd H x o') h':=fun b u q=>by
 have nown:∀ c y,H c=some (.own y)->c≠x:=fun c y r z=>by subst z; rw [r] at mu; exact mu
 have ntup:∀ c xs,H c=some (.tup xs)->c≠x:=fun c xs r z=>by subst z; rw [r] at mu; exact mu
 by_cases hb:b=x
 ·subst hb; rw [fH] at q; cases q; exact new
 ·rw [aK hb] at q
  by_cases hbe:b=e
  ·have q':H b=some (.own x):=by
    rcases he with z|z
    ·exact absurd (hbe.trans z) hb
    ·rw [hbe]; exact z
   rw [q] at q'; cases q'
   obtain ⟨v,hv⟩:=heo
   exact ⟨v,by rw [hbe]; exact hv⟩
  ·refine (ok b u q).stay (fun c v hc r=>k c v ?_ r) (fun c r=>by rw [aK (nown c b r)]; exact r) fun c xs r=>by rw [aK (ntup c xs r)]; exact r
   rcases hc with rfl|hc
   ·exact hbe
   ·rintro rfl
    rcases he with z|z
    ·exact nown c b hc z
    ·rw [hc] at z; cases z; exact hb rfl
end
structure Un (fs ex:List Addr) (H H':Hp) (h h':Heap):Prop where
 keep:∀ b o,h.get? b=some o->H b=none->b ∉ fs->b ∉ ex->h'.get? b=some o
 slot:∀ b o,h.get? b=some o->H b=none->b∈fs->b ∉ ex->∃ sl,h'.get? b=some { o with slots:=sl }
 free:∀ b o,h.get? b=some o->H b=none->b ∉ ex->H' b=none
 there:∀ b o,h.get? b=some o->b ∉ ex->∃ o',h'.get? b=some o'
 tups:∀ b xs,H b=some (.tup xs)->H' b=some (.tup xs)
 frzs:∀ b o u,H b=some (.frz o u)->H' b=some (.frz o u)
 tbls:∀ b ps,H b=some (.tbl ps)->∃ more,H' b=some (.tbl (ps++more))
section
variable {fs fs' ex ex':List Addr} {H H1 H2:Hp} {h h1 h2 h':Heap} {a x e:Addr} {o:HO}
theorem Un.any (u:Un fs ex H H1 h h1) {b:Addr} {ob:Obj} (q:h.get? b=some ob) (n:H b=none) (hx:b ∉ ex):∃ sl,h1.get? b=some { ob with slots:=sl }:=by
 by_cases hb:b∈fs
 ·exact u.slot b ob q n hb hx
 ·exact ⟨ob.slots,u.keep b ob q n hb hx⟩
theorem Un.kept (k:∀ b u,h.get? b=some u->h'.get? b=some u):Un fs ex H H h h' :=
 ⟨fun b ob q _ _ _=>k b ob q,fun b ob q _ _ _=>⟨ob.slots,k b ob q⟩,fun _ _ _ n _=>n,fun b ob q _=>⟨ob,k b ob q⟩,fun _ _ q=>q,fun _ _ _ q=>q,fun _ ps q=>⟨#[],by rw [q]; simp⟩⟩
theorem Un.refl:Un fs ex H H h h:=Un.kept fun _ _ q=>q
theorem Un.laid (k:∀ b u,h.get? b=some u->h'.get? b=some u) (hp:h.objs.size<=a) (hn:H a=none):Un fs ex H (upd H a o) h h' where
 keep:=fun b u q _ _ _=>k b u q
 slot:=fun b u q _ _ _=>⟨u.slots,k b u q⟩
 free:=fun b u q n _=>by rw [aK (Nat.ne_of_lt (Nat.lt_of_lt_of_le (Heap.lt_size q) hp))]; exact n
 there:=fun b u q _=>⟨u,k b u q⟩
 tups:=fun b xs q=>by rw [aK (bT q hn)]; exact q
 frzs:=fun b u xs q=>by rw [aK (bT q hn)]; exact q
 tbls:=fun b ps q=>⟨#[],by rw [aK (bT q hn),q]; simp⟩
theorem Un.write (mu:Mut (H x)) (he:e=x\/H e=some (.own x)) (k:∀ b u,b≠e->h.get? b=some u->h'.get? b=some u) (heo:∃ u,h'.get? e=some u):Un fs ex H (upd H x o) h h':=by
 have hx:∀ b,H b=none->b≠x:=fun b n z=>by subst z; rw [n] at mu; exact mu
 have hb:∀ b,H b=none->b≠e:=fun b n z=>by
  subst z
  rcases he with r|r
  ·exact hx b n r
  ·rw [n] at r; cases r
 have hm:∀ b u,H b=some u->¬ Mut (some u)->b≠x:=fun b u q nm z=>by subst z; rw [q] at mu; exact nm mu
 refine ⟨fun b u q n _ _=>k b u (hb b n) q,fun b u q n _ _=>⟨u.slots,k b u (hb b n) q⟩,fun b u q n _=>by rw [aK (hx b n)]; exact n,fun b u q _=>?_,
  fun b xs q=>by rw [aK (hm b _ q fun z=>z)]; exact q,fun b u xs q=>by rw [aK (hm b _ q fun z=>z)]; exact q,fun b ps q=>⟨#[],by rw [aK (hm b _ q fun z=>z),q]; simp⟩⟩
 by_cases hbe:b=e
 ·subst hbe; exact heo
 ·exact ⟨u,k b u hbe q⟩
end
noncomputable def trk (h:Heap) (H:Hp):List Addr:=(List.range h.objs.size).filter fun a=>(H a).isSome
noncomputable def fq (h:Heap) (H:Hp):Heap:=PySem.W.hideAll h (trk h H)
theorem zg (h:Heap) (H:Hp):(fq h H).objs.size=h.objs.size:=PySem.W.hideAll_size _ _
theorem FL {h:Heap} {H:Hp} {b:Addr} {o:Obj} (e:h.get? b=some o) (n:H b=none):(fq h H).get? b=some o :=
 PySem.W.hideAll_get _ e fun hm=>by
  have q:(H b).isSome=true:=(List.mem_filter.mp hm).2
  rw [n] at q; simp at q
theorem vQ {h:Heap} {H:Hp} {b:Addr} {o:Obj} (e:(fq h H).get? b=some o):h.get? b=some o/\H b=none:=by
 have e':h.get? b=some o:=PySem.W.of_hideAll (trk h H) e
 refine ⟨e',?_⟩
 cases q:H b with
 | none=>rfl
 | some x =>
  have hm:b∈trk h H:=List.mem_filter.mpr ⟨List.mem_range.mpr (Heap.lt_size e'),by simp [q]⟩
  have z:(fq h H).get? b=none:=PySem.W.hideAll_none (trk h H) hm
  rw [z] at e; cases e
end L2
namespace L2
open PySem PySem.Spec PyProof.Rows
structure Mod (K:PySem.W.Frag) (mg:Str->Option Value) (base:Heap):Prop where
 kin:K.In base
 glob:base.Ns mainGlobals mg
 blt:∃ mb,base.Ns builtinsNs mb/\∀ x:Str,x≠"__name__"->mb x=bootBuiltins x
 nolimit:base.NoLimit
structure Cx where
 prog:Program
 w:World
 K:PySem.W.Frag
 mg:Str->Option Value
 base:Heap
 A:Around
 N:List Str
 s₀:Shared
 H₀:Hp
 env:Env
 outer:List Env
 stack:List Env
 ex:List Addr
 fn:Str->Bool
 calm:Bool
 pn:List (Addr × Obj)
 xe:Value->Shared->Prop
noncomputable def frs (l:List Env):List Addr:=l.filterMap (·.frame)
abbrev Cx.fs (X:Cx):List Addr:=frs X.outer
noncomputable def Vis (sc:Scope) (x:Str):Prop:=sc.names.lookup x=some .local\/sc.names.lookup x=some .cell\/sc.names.lookup x=some .free
noncomputable def Loc (sc:Scope) (x:Str):Prop:=sc.names.lookup x=some .local\/sc.names.lookup x=some .cell
noncomputable def Look (env:Env) (h:Heap) (m:Str->Option Value) (x:Str) (u:Value):Prop :=
 (env.kindOf x=some .local/\m x=some u)\/((env.kindOf x=some .cell\/env.kindOf x=some .free)/\∃ c,env.cells.lookup x=some c/\h.IsCell c (some u))
structure Cx.Ok (X:Cx):Prop where
 mod:Mod X.K X.mg X.base
 kind:X.env.scope.kind=.function
 glob:X.env.globals=mainGlobals
 blt:X.env.builtins=builtinsNs
 above:X.s₀.heap.objs.size<=X.env.locals
 inj:∀ x y c,X.env.cells.lookup x=some c->X.env.cells.lookup y=some c->x=y
 has:∀ x,(X.env.kindOf x=some .cell\/X.env.kindOf x=some .free)->∃ c,X.env.cells.lookup x=some c
 cab:∀ x c,X.fn x=true->X.env.cells.lookup x=some c->X.s₀.heap.objs.size<=c
 hd:X.calm=true->X.A.handled=none
 frames:X.A.frames=some X.stack
 stk:X.stack=X.outer\/(X.stack=X.env::X.outer/\X.env.frame=some X.env.locals)
 exf:∀ b∈X.ex,b≠X.env.locals/\∀ x c,X.env.cells.lookup x=some c->c≠b
 bs:∀ b o,X.base.get? b=some o->X.s₀.heap.get? b=some o/\X.H₀ b=none
 bsz:X.base.objs.size<=X.s₀.heap.objs.size
 noex:∀ b o,X.base.get? b=some o->b ∉ X.ex
 exfs:∀ b∈X.ex,b ∉ X.fs
 dY:X.s₀.heap.FunFrames X.base X.outer
 frf:∀ b∈X.fs,X.H₀ b=none
structure Inv (X:Cx) (pins:List (Addr × Obj)) (σ:List (Option V)) (H:Hp) (s:Shared):Prop where
 ok:X.Ok
 os:s.os=X.s₀.os
 bare:AllBare s.gens
 base:Un X.fs X.ex X.H₀ H X.s₀.heap s.heap
 loc:∃ m,s.heap.Ns X.env.locals m/\∀ (i:Nat) (x:Str) (v:V),X.N[i]?=some x->σ[i]?=some (some v)->Vis X.env.scope x->∃ u,RelV v u/\Look X.env s.heap m x u
 cell:∀ x c,X.env.cells.lookup x=some c->∃ v,s.heap.IsCell c v
 free:H X.env.locals=none
 freeC:∀ x c,X.env.cells.lookup x=some c->H c=none
 pin:∀ p∈X.pn++pins,s.heap.get? p.1=some p.2/\H p.1=none/\p.1≠X.env.locals/\p.1 ∉ X.fs/\∀ v,p.2.data≠.cell v
 hok:HOk X.prog X.w H s.heap
 len:σ.length=X.N.length
section
variable {X:Cx} {pins:List (Addr × Obj)} {σ:List (Option V)} {H H':Hp} {s:Shared} {h':Heap}
theorem Cx.Ok.FW (ok:X.Ok) {b:Addr} {o:Obj} (e:X.base.get? b=some o):b ∉ X.fs:=fun hb=>by
 have:=(ok.dY.mem hb).1
 rw [e] at this; cases this
theorem Inv.bs (I:Inv X pins σ H s):∀ b o,X.base.get? b=some o->s.heap.get? b=some o/\H b=none:=fun b o e =>
 ⟨I.base.keep b o (I.ok.bs b o e).1 (I.ok.bs b o e).2 (I.ok.FW e) (I.ok.noex b o e),I.base.free b o (I.ok.bs b o e).1 (I.ok.bs b o e).2 (I.ok.noex b o e)⟩
theorem Inv.bk (I:Inv X pins σ H s):∀ b o,X.base.get? b=some o->s.heap.get? b=some o:=fun b o e=>(I.bs b o e).1
theorem Inv.mod (I:Inv X pins σ H s):Mod X.K X.mg X.base:=I.ok.mod
theorem Inv.kIn (I:Inv X pins σ H s):X.K.In s.heap:=I.ok.mod.kin.keeps I.bk
theorem Inv.lt (I:Inv X pins σ H s):X.env.locals < s.heap.objs.size:=let ⟨_,hn,_⟩:=I.loc; hn.lt
theorem Inv.sz (I:Inv X pins σ H s):X.s₀.heap.objs.size<=s.heap.objs.size:=Nat.le_trans I.ok.above (Nat.le_of_lt I.lt)
theorem Inv.Cd (I:Inv X pins σ H s) {a:Addr} (h:s.heap.objs.size<=a):a ∉ X.fs:=fun hb=>by
 obtain ⟨_,o,ho,_⟩:=I.ok.dY.mem hb
 exact absurd (Nat.lt_of_lt_of_le (Heap.lt_size ho) (Nat.le_trans I.sz h)) (Nat.lt_irrefl _)
theorem Inv.cne (I:Inv X pins σ H s):∀ x c,X.env.cells.lookup x=some c->c≠X.env.locals:=fun x c e z=>by
 obtain ⟨v,o,ho,hd⟩:=I.cell x c e
 obtain ⟨m,⟨o',es,ep,ho',hd',_⟩,_⟩:=I.loc
 rw [z,ho'] at ho; cases ho; rw [hd'] at hd; cases hd
theorem Inv.dY (I:Inv X pins σ H s):s.heap.FunFrames X.base X.outer:=by
 have all:∀ (l:List Env),(∀ b∈frs l,b∈X.fs)->X.s₀.heap.FunFrames X.base l->s.heap.FunFrames X.base l:=by
  intro l
  induction l with
  | nil=>intro _ _; trivial
  | cons env r ih =>
   intro hs hl
   obtain ⟨hk,⟨L,o,hf,hn,ho,hd⟩,hr⟩:=hl
   have hL:L∈X.fs:=hs L (by unfold frs; rw [List.filterMap_cons,hf]; exact List.mem_cons_self)
   obtain ⟨sl,e⟩:=I.base.slot L o ho (I.ok.frf L hL) hL fun z=>I.ok.exfs L z hL
   exact ⟨hk,⟨L,_,hf,hn,e,hd⟩,ih (fun b hb=>hs b (by unfold frs; rw [List.filterMap_cons,hf]; exact List.mem_cons_of_mem _ hb)) hr⟩
 exact all X.outer (fun _ hb=>hb) I.ok.dY
theorem Inv.stack (I:Inv X pins σ H s):s.heap.FunFrames X.base X.stack:=by
 rcases I.ok.stk with e|⟨e,hf⟩
 ·rw [e]; exact I.dY
 ·rw [e]
  obtain ⟨m,hn,_⟩:=I.loc
  refine .cons (by rw [I.ok.kind]; decide) hf hn ?_ I.dY
  exact Heap.get?_none_of_le (Nat.le_trans I.ok.bsz I.ok.above)
theorem Inv.ly (I:Inv X pins σ H s):∀ b∈frs X.stack,b∈X.env.locals::X.fs:=fun b hb=>by
 rcases I.ok.stk with e|⟨e,hf⟩
 ·rw [e] at hb; exact List.mem_cons_of_mem _ hb
 ·rw [e] at hb
  unfold frs at hb
  rw [List.filterMap_cons,hf] at hb
  exact hb
theorem Inv.mE (I:Inv X pins σ H s):∀ b∈frs X.stack,H b=none:=fun b hb=>by
 rcases List.mem_cons.mp (I.ly b hb) with e|hb
 ·rw [e]; exact I.free
 ·obtain ⟨_,o,ho,_⟩:=I.ok.dY.mem hb
  exact I.base.free b o ho (I.ok.frf b hb) fun z=>I.ok.exfs b z hb
theorem Inv.step {g':Array GenState} {t':Nat} {d':Drawn} {ch:List Addr} (I:Inv X pins σ H s)
  (hch:∀ b∈ch,(b∈X.ex\/X.s₀.heap.objs.size<=b)/\b≠X.env.locals/\(∀ x c,X.env.cells.lookup x=some c->c≠b)/\∀ p∈X.pn++pins,p.1≠b)
  (keep:∀ b o,b≠X.env.locals->b ∉ X.fs->b ∉ ch->s.heap.get? b=some o->H b=none->h'.get? b=some o)
  (slot:∀ b o,b≠X.env.locals->b∈X.fs->b ∉ ch->s.heap.get? b=some o->H b=none->∃ sl,h'.get? b=some { o with slots:=sl }) (free:∀ b o,b ∉ ch->s.heap.get? b=some o->H b=none->H' b=none)
  (there:∀ b o,b ∉ ch->s.heap.get? b=some o->∃ o',h'.get? b=some o')
  (tups:∀ b xs,H b=some (.tup xs)->H' b=some (.tup xs)) (frzs:∀ b o u,H b=some (.frz o u)->H' b=some (.frz o u)) (tbls:∀ b ps,H b=some (.tbl ps)->∃ more,H' b=some (.tbl (ps++more)))
  (ns:∀ m,s.heap.Ns X.env.locals m->h'.Ns X.env.locals m) (hok:HOk X.prog X.w H' h') (hg:AllBare g') :
  Inv X pins σ H' { s with heap:=h',gens:=g',drawn:=d',toks:=t' }:=by
 have neL:∀ b o,X.s₀.heap.get? b=some o->b≠X.env.locals:=fun b o e=>Nat.ne_of_lt (Nat.lt_of_lt_of_le (Heap.lt_size e) I.ok.above)
 have neC:∀ b o,X.s₀.heap.get? b=some o->b ∉ X.ex->b ∉ ch:=fun b o e hx hb=>by
  rcases (hch b hb).1 with z|z
  ·exact hx z
  ·exact absurd (Nat.lt_of_lt_of_le (Heap.lt_size e) z) (Nat.lt_irrefl _)
 have cellK:∀ x c,X.env.cells.lookup x=some c->∀ v,s.heap.IsCell c v->h'.IsCell c v:=fun x c e v ⟨o,ho,hd⟩=>by
  have nch:c ∉ ch:=fun z=>(hch c z).2.2.1 x c e rfl
  by_cases hc:c∈X.fs
  ·obtain ⟨sl,q⟩:=slot c o (I.cne x c e) hc nch ho (I.freeC x c e)
   exact ⟨_,q,hd⟩
  ·exact ⟨o,keep c o (I.cne x c e) hc nch ho (I.freeC x c e),hd⟩
 refine ⟨I.ok,I.os,hg,⟨fun b o e n hb hx=>?_,fun b o e n hb hx=>?_,fun b o e n hx=>?_,fun b o e hx=>?_,fun b xs e=>tups b xs (I.base.tups b xs e),fun b o xs e=>frzs b o xs (I.base.frzs b o xs e),fun b ps e=>?_⟩,?_,fun x c e=>?_,?_,fun x c e=>?_,fun p hp=>?_,hok,I.len⟩
 ·exact keep b o (neL b o e) hb (neC b o e hx) (I.base.keep b o e n hb hx) (I.base.free b o e n hx)
 ·obtain ⟨sl,e1⟩:=I.base.slot b o e n hb hx
  obtain ⟨sl',e2⟩:=slot b _ (neL b o e) hb (neC b o e hx) e1 (I.base.free b o e n hx)
  exact ⟨sl',e2⟩
 ·obtain ⟨o',e1⟩:=I.base.there b o e hx
  exact free b o' (neC b o e hx) e1 (I.base.free b o e n hx)
 ·obtain ⟨o',e1⟩:=I.base.there b o e hx
  exact there b o' (neC b o e hx) e1
 ·obtain ⟨m1,e1⟩:=I.base.tbls b ps e
  obtain ⟨m2,e2⟩:=tbls b _ e1
  exact ⟨m1++m2,by rw [e2,Array.append_assoc]⟩
 ·obtain ⟨m,hn,hl⟩:=I.loc
  refine ⟨m,ns m hn,fun i x v e1 e2 e3=>?_⟩
  obtain ⟨u,r,l⟩:=hl i x v e1 e2 e3
  refine ⟨u,r,?_⟩
  rcases l with l|⟨k,c,e,z⟩
  ·exact .inl l
  ·exact .inr ⟨k,c,e,cellK x c e _ z⟩
 ·obtain ⟨v,z⟩:=I.cell x c e
  exact ⟨v,cellK x c e v z⟩
 ·obtain ⟨m,⟨o,_,_,ho,_⟩,_⟩:=I.loc
  exact free _ o (fun z=>(hch _ z).2.1 rfl) ho I.free
 ·obtain ⟨v,o,ho,hd⟩:=I.cell x c e
  exact free c o (fun z=>(hch c z).2.2.1 x c e rfl) ho (I.freeC x c e)
 ·obtain ⟨e,n,ne,nf,d⟩:=I.pin p hp
  have nch:p.1 ∉ ch:=fun z=>(hch p.1 z).2.2.2 p hp rfl
  exact ⟨keep p.1 p.2 ne nf nch e n,free p.1 p.2 nch e n,ne,nf,d⟩
theorem Inv.un {t':Nat} (I:Inv X pins σ H s) (u:Un X.fs [] H H' s.heap h') (hok:HOk X.prog X.w H' h'):Inv X pins σ H' { s with heap:=h',toks:=t' }:=by
 obtain ⟨m,⟨o,es,ep,ho,r⟩,_⟩:=id I.loc
 obtain ⟨sl,hL⟩:=u.any ho I.free (by simp)
 exact I.step (g':=s.gens) (d':=s.drawn) (ch:=[]) (fun _ z=>nomatch z) (fun b o _ hb _ e n=>u.keep b o e n hb (by simp)) (fun b o _ hb _ e n=>u.slot b o e n hb (by simp)) (fun b o _ e n=>u.free b o e n (by simp)) (fun b o _ e=>u.there b o e (by simp)) u.tups u.frzs u.tbls (fun m' hm=>by
  obtain ⟨o',es',ep',ho',r'⟩:=hm
  rw [ho] at ho'; cases ho'
  exact ⟨_,es',ep',hL,r'⟩) hok I.bare
theorem Inv.call {g':Array GenState} {t':Nat} {d':Drawn} {ch:List Addr} (I:Inv X pins σ H s) (u:Un (frs X.stack) ch H H' s.heap h') (hok:HOk X.prog X.w H' h') (hg:AllBare g')
  (hch:∀ b∈ch,(b∈X.ex\/X.s₀.heap.objs.size<=b)/\b≠X.env.locals/\(∀ x c,X.env.cells.lookup x=some c->c≠b)/\∀ p∈X.pn++pins,p.1≠b) :
  Inv X pins σ H' { s with heap:=h',gens:=g',drawn:=d',toks:=t' }:=by
 obtain ⟨m,⟨o,es,ep,ho,r⟩,_⟩:=id I.loc
 obtain ⟨sl,hL⟩:=u.any ho I.free fun z=>(hch _ z).2.1 rfl
 exact I.step (ch:=ch) hch (fun b o hL hb hc e n=>u.keep b o e n (fun z=>(List.mem_cons.mp (I.ly b z)).elim hL hb) hc) (fun b o _ _ hc e n=>u.any e n hc) (fun b o hc e n=>u.free b o e n hc) (fun b o hc e=>u.there b o e hc) u.tups u.frzs u.tbls (fun m' hm=>by
  obtain ⟨o',es',ep',ho',r'⟩:=hm
  rw [ho] at ho'; cases ho'
  exact ⟨_,es',ep',hL,r'⟩) hok hg
theorem Inv.turned {t':Nat} {it:Addr} (I:Inv X pins σ H s) (k:∀ b o,b≠it->s.heap.get? b=some o->h'.get? b=some o) (hn:H it=none) (hL:it≠X.env.locals)
  (h1:it∈X.ex\/X.s₀.heap.objs.size<=it) (h2:∀ x c,X.env.cells.lookup x=some c->c≠it) (h3:∀ p∈X.pn++pins,p.1≠it):Inv X pins σ H { s with heap:=h',toks:=t' }:=by
 have nit:∀ b u,H b=some u->b≠it:=fun b u e z=>by rw [z,hn] at e; cases e
 refine I.step (g':=s.gens) (d':=s.drawn) (ch:=[it]) (fun b hb=>?_) (fun b o _ _ hc e _=>k b o (fun z=>hc (by simp [z])) e) (fun b o _ _ hc e _=>⟨o.slots,k b o (fun z=>hc (by simp [z])) e⟩) (fun _ _ _ _ n=>n)
  (fun b o hc e=>⟨o,k b o (fun z=>hc (by simp [z])) e⟩) (fun _ _ e=>e) (fun _ _ _ e=>e) (fun b ps e=>⟨#[],by rw [e]; simp⟩) (fun m hm=>?_) (fun b u e=>?_) I.bare
 ·have e:b=it:=by simpa using hb
  subst e
  exact ⟨h1,hL,h2,h3⟩
 ·obtain ⟨o,es,ep,ho,r⟩:=hm
  exact ⟨o,es,ep,k _ o (Ne.symm hL) ho,r⟩
 ·refine (I.hok b u e).stay (fun c v hc q=>k c v ?_ q) (fun _ q=>q) fun _ _ q=>q
  rcases hc with z|z
  ·rw [z]; exact nit b u e
  ·exact nit c _ z
theorem Inv.tok (I:Inv X pins σ H s) (t:Nat):Inv X pins σ H { s with toks:=t }:=I.un (h':=s.heap) (t':=t) Un.refl I.hok
theorem Inv.kept {t':Nat} (I:Inv X pins σ H s) (k:∀ b u,s.heap.get? b=some u->h'.get? b=some u):Inv X pins σ H { s with heap:=h',toks:=t' }:=I.un (Un.kept k) (I.hok.kept k)
theorem Inv.laid {a:Addr} {o:HO} {t':Nat} (I:Inv X pins σ H s) (k:∀ b u,s.heap.get? b=some u->h'.get? b=some u) (hp:s.heap.objs.size<=a) (new:cB X.prog X.w (upd H a o) h' a o) :
  Inv X pins σ (upd H a o) { s with heap:=h',toks:=t' }:=I.un (Un.laid k hp (I.hok.fresh hp)) (I.hok.laid k hp new)
theorem Inv.write {x e:Addr} {o:HO} {t':Nat} (I:Inv X pins σ H s) (mu:Mut (H x)) (he:e=x\/H e=some (.own x)) (k:∀ b u,b≠e->s.heap.get? b=some u->h'.get? b=some u) (heo:∃ u,h'.get? e=some u)
  (new:cB X.prog X.w (upd H x o) h' x o):Inv X pins σ (upd H x o) { s with heap:=h',toks:=t' }:=I.un (Un.write mu he k heo) (I.hok.write mu he k heo new)
theorem Inv.weak {σ':List (Option V)} (I:Inv X pins σ H s) (hl:σ'.length=σ.length) (w:∀ (i:Nat) v,σ'[i]?=some (some v)->σ[i]?=some (some v)):Inv X pins σ' H s :=
 ⟨I.ok,I.os,I.bare,I.base,let ⟨m,hn,hl'⟩:=I.loc; ⟨m,hn,fun i x v e1 e2 e3=>hl' i x v e1 (w i v e2) e3⟩,I.cell,I.free,I.freeC,I.pin,I.hok,hl.trans I.len⟩
theorem Inv.oU {pins':List (Addr × Obj)} (I:Inv X pins σ H s) (h:∀ p∈pins',s.heap.get? p.1=some p.2/\H p.1=none/\p.1≠X.env.locals/\p.1 ∉ X.fs/\∀ v,p.2.data≠.cell v):Inv X pins' σ H s :=
 ⟨I.ok,I.os,I.bare,I.base,I.loc,I.cell,I.free,I.freeC,fun p hp=>(List.mem_append.mp hp).elim (fun z=>I.pin p (List.mem_append_left _ z)) (h p),I.hok,I.len⟩
theorem lX {N:List Str} (hN:N.Nodup) {i j:Nat} {x:Str} (a:N[i]?=some x) (b:N[j]?=some x):i=j:=by
 obtain ⟨h1,e1⟩:=List.getElem?_eq_some_iff.mp a
 obtain ⟨h2,e2⟩:=List.getElem?_eq_some_iff.mp b
 exact (List.getElem_inj hN).mp (e1.trans e2.symm)
theorem mW {M:Model} {A:Around} {E:Value->Shared->Prop} {i:Nat} {x:Str} {v:V} {u:Value} {Q:Unit->Shared->Prop} (I:Inv X pins σ H s) (hN:X.N.Nodup) (hi:X.N[i]?=some x) (hx:Loc X.env.scope x) (r:RelV v u)
  (h:∀ s',Inv X pins (σ.set i (some v)) H s'->(∃ a,Heap.SameBut a s.heap s'.heap/\(a=X.env.locals\/X.env.cells.lookup x=some a))->Q () s') (hf:X.fn x=true\/X.env.scope.names.lookup x=some .local:=by first|exact .inl rfl|exact .inr rfl|assumption):wpAny M A (storeName X.env x u) Q E s:=by
 obtain ⟨m,hn,hl⟩:=id I.loc
 have hcls:(X.env.scope.kind==.class||(X.env.scope.kind==.module&&X.env.locals != X.env.globals))=false:=by rw [I.ok.kind]; rfl
 have hiσ:i < σ.length:=by rw [I.len]; exact (List.getElem?_eq_some_iff.mp hi).1
 have cne:=I.cne
 have tracked:∀ {a:Addr} {h':Heap},(∃ o,s.heap.get? a=some o/\H a=none)->Heap.SameBut a s.heap h'->HOk X.prog X.w H h':=fun {a h'} ha hs b ob e=>by
  obtain ⟨_,_,hfree⟩:=ha
  refine (I.hok b ob e).stay (fun c w' hc q=>(hs.2 c ?_).trans q) (fun _ q=>q) fun _ _ q=>q
  rintro rfl
  rcases hc with rfl|hc
  ·rw [hfree] at e; cases e
  ·rw [hfree] at hc; cases hc
 rcases hx with hk|hk
 ·refine wpAny_storeName_local hk hn (fun h' hn' hs=>?_) hcls
  obtain ⟨oL,_,_,hoL,_⟩:=id hn
  refine h _ ⟨I.ok,I.os,I.bare,⟨fun b o e n hb hx=>?_,fun b o e n hb hx=>?_,I.base.free,fun b o e hx=>?_,I.base.tups,I.base.frzs,I.base.tbls⟩,⟨_,hn',fun j y v' e1 e2 e3=>?_⟩,fun y c e=>?_,I.free,I.freeC,fun p hp=>?_,tracked ⟨oL,hoL,I.free⟩ hs,by simpa using I.len⟩ ⟨_,hs,.inl rfl⟩
  ·exact (hs.2 b (Nat.ne_of_lt (Nat.lt_of_lt_of_le (Heap.lt_size e) I.ok.above))).trans (I.base.keep b o e n hb hx)
  ·obtain ⟨sl,e1⟩:=I.base.slot b o e n hb hx
   exact ⟨sl,(hs.2 b (Nat.ne_of_lt (Nat.lt_of_lt_of_le (Heap.lt_size e) I.ok.above))).trans e1⟩
  ·obtain ⟨o',e1⟩:=I.base.there b o e hx
   exact ⟨o',(hs.2 b (Nat.ne_of_lt (Nat.lt_of_lt_of_le (Heap.lt_size e) I.ok.above))).trans e1⟩
  ·by_cases hj:j=i
   ·subst hj
    rw [hi] at e1; cases e1
    rw [List.getElem?_set_self hiσ] at e2
    cases e2
    exact ⟨u,r,.inl ⟨hk,by simp⟩⟩
   ·rw [List.getElem?_set_ne (Ne.symm hj)] at e2
    obtain ⟨u',r',q⟩:=hl j y v' e1 e2 e3
    refine ⟨u',r',?_⟩
    rcases q with ⟨k,e⟩|⟨k,c,e,z⟩
    ·refine .inl ⟨k,?_⟩
     have:y≠x:=fun e=>hj (lX hN e1 (e ▸ hi))
     simp [this,e]
    ·exact .inr ⟨k,c,e,z.sameBut hs (cne y c e)⟩
  ·obtain ⟨w',z⟩:=I.cell y c e
   exact ⟨w',z.sameBut hs (cne y c e)⟩
  ·obtain ⟨e,n,ne,nf,d⟩:=I.pin p hp
   exact ⟨(hs.2 p.1 ne).trans e,n,ne,nf,d⟩
 ·have hfn:X.fn x=true:=by
   rcases hf with z|z
   ·exact z
   ·rw [z] at hk; cases hk
  obtain ⟨c,hc⟩:=I.ok.has x (.inl hk)
  obtain ⟨w',z⟩:=I.cell x c hc
  refine wpAny_storeName_cell I.ok.kind hk hc z (fun h' hc' hs=>?_)
  obtain ⟨oc,hoc,hocd⟩:=id z
  refine h { s with heap:=h' } ⟨I.ok,I.os,I.bare,⟨fun b o e n hb hx=>?_,fun b o e n hb hx=>?_,I.base.free,fun b o e hx=>?_,I.base.tups,I.base.frzs,I.base.tbls⟩,⟨m,hn.sameBut hs (Ne.symm (cne x c hc)),fun j y v' e1 e2 e3=>?_⟩,fun y c' e=>?_,I.free,I.freeC,fun p hp=>?_,tracked ⟨oc,hoc,I.freeC x c hc⟩ hs,by simpa using I.len⟩ ⟨c,hs,.inr hc⟩
  ·exact (hs.2 b (Nat.ne_of_lt (Nat.lt_of_lt_of_le (Heap.lt_size e) (I.ok.cab x c hfn hc)))).trans (I.base.keep b o e n hb hx)
  ·obtain ⟨sl,e1⟩:=I.base.slot b o e n hb hx
   exact ⟨sl,(hs.2 b (Nat.ne_of_lt (Nat.lt_of_lt_of_le (Heap.lt_size e) (I.ok.cab x c hfn hc)))).trans e1⟩
  ·obtain ⟨o',e1⟩:=I.base.there b o e hx
   exact ⟨o',(hs.2 b (Nat.ne_of_lt (Nat.lt_of_lt_of_le (Heap.lt_size e) (I.ok.cab x c hfn hc)))).trans e1⟩
  ·by_cases hj:j=i
   ·subst hj
    rw [hi] at e1; cases e1
    rw [List.getElem?_set_self hiσ] at e2
    cases e2
    exact ⟨u,r,.inr ⟨.inl hk,c,hc,hc'⟩⟩
   ·rw [List.getElem?_set_ne (Ne.symm hj)] at e2
    obtain ⟨u',r',q⟩:=hl j y v' e1 e2 e3
    refine ⟨u',r',?_⟩
    rcases q with q|⟨k,c',e,z'⟩
    ·exact .inl q
    ·refine .inr ⟨k,c',e,z'.sameBut hs ?_⟩
     rintro rfl
     exact hj (lX hN e1 (I.ok.inj _ _ _ e hc ▸ hi))
  ·by_cases hcc:c'=c
   ·subst hcc; exact ⟨_,hc'⟩
   ·obtain ⟨w2,z2⟩:=I.cell y c' e
    exact ⟨w2,z2.sameBut hs hcc⟩
  ·obtain ⟨e,n,ne,nf,d⟩:=I.pin p hp
   refine ⟨(hs.2 p.1 ?_).trans e,n,ne,nf,d⟩
   intro q
   rw [q,hoc] at e
   have q':oc=p.2:=Option.some.inj e
   exact d w' (by rw [<- q']; exact hocd)
theorem B7 {M:Model} {A:Around} {E:Value->Shared->Prop} {i:Nat} {x:Str} {v:V} {u:Value} {Q:Unit->Shared->Prop} (I:Inv X pins σ H s) (hN:X.N.Nodup) (hi:X.N[i]?=some x) (hx:Loc X.env.scope x) (r:RelV v u)
  (h:∀ s',Inv X pins (σ.set i (some v)) H s'->Q () s') (hf:X.fn x=true\/X.env.scope.names.lookup x=some .local:=by first|exact .inl rfl|exact .inr rfl|assumption):wpAny M A (storeName X.env x u) Q E s :=
 mW I hN hi hx r (fun s' I' _=>h s' I') hf
theorem Inv.l6 {s':Shared} {ch:List Addr} (I:Inv X pins σ H s) (ho:s'.os=s.os) (u:Un (frs X.stack) ch H H' s.heap s'.heap) (hok:HOk X.prog X.w H' s'.heap) (hg:AllBare s'.gens)
  (hch:∀ b∈ch,(b∈X.ex\/X.s₀.heap.objs.size<=b)/\b≠X.env.locals/\(∀ x c,X.env.cells.lookup x=some c->c≠b)/\∀ p∈X.pn++pins,p.1≠b):Inv X pins σ H' s':=by
 obtain ⟨h',g',d',t',o'⟩:=s'
 have e:o'=s.os:=ho
 subst e
 exact I.call (g':=g') (t':=t') (d':=d') u hok hg hch
end
abbrev XK:=Value->Option Addr->Hp->Prop
abbrev St:=List (Option V)
abbrev VK:=V->Hp->Prop
abbrev TE:=St->Hp->VK->Prop
abbrev TT:=St->Hp->(Bool->Hp->Prop)->Prop
abbrev TA:=St->Hp->(List V->Hp->Prop)->Prop
structure Ends where
 nx:St->Hp->Prop
 rt:VK
 bk:St->Hp->Prop:=fun _ _=>False
 ct:St->Hp->Prop:=fun _ _=>False
abbrev TS:=Ends->St->Hp->Prop
noncomputable def EP (X:Cx) (pins:List (Addr × Obj)) (σ:St) (Q:VK) (u:Value) (s':Shared):Prop:=∃ v H',Inv X pins σ H' s'/\RelV v u/\Q v H'
noncomputable def TP (X:Cx) (pins:List (Addr × Obj)) (σ:St) (Q:Bool->Hp->Prop) (b:Bool) (s':Shared):Prop:=∃ H',Inv X pins σ H' s'/\Q b H'
noncomputable def AP (X:Cx) (pins:List (Addr × Obj)) (σ:St) (Q:List V->Hp->Prop) (us:List Value) (s':Shared):Prop:=∃ vs H',Inv X pins σ H' s'/\Vals vs us/\Q vs H'
noncomputable def SP (X:Cx) (pins:List (Addr × Obj)) (D:Ends) (f:Flow) (s':Shared):Prop :=
 match f with
 | .next=>∃ σ' H',Inv X pins σ' H' s'/\D.nx σ' H'
 | .brk=>∃ σ' H',Inv X pins σ' H' s'/\D.bk σ' H'
 | .cont=>∃ σ' H',Inv X pins σ' H' s'/\D.ct σ' H'
 | .ret u=>∃ v σ' H',Inv X pins σ' H' s'/\RelV v u/\D.rt v H'
noncomputable def PE (X:Cx) (e:Expr) (t:TE):Prop :=
 ∀ (pins:List (Addr × Obj)) (s:Shared) (σ:St) (H:Hp) (Q:VK),Inv X pins σ H s->t σ H Q->wpAny (model X.prog X.w) X.A (eval e X.env) (EP X pins σ Q) X.xe s
noncomputable def PT (X:Cx) (e:Expr) (t:TT):Prop :=
 ∀ (pins:List (Addr × Obj)) (s:Shared) (σ:St) (H:Hp) (Q:Bool->Hp->Prop),Inv X pins σ H s->t σ H Q->wpAny (model X.prog X.w) X.A (isTrue e X.env (eval e X.env)) (TP X pins σ Q) X.xe s
noncomputable def PW (X:Cx) (e:Expr) (t:TT):Prop :=
 ∀ (whole:Sem Value) (pins:List (Addr × Obj)) (s:Shared) (σ:St) (H:Hp) (Q:Bool->Hp->Prop),Inv X pins σ H s->t σ H Q->wpAny (model X.prog X.w) X.A (isTrue e X.env whole) (TP X pins σ Q) X.xe s
theorem PW.pt {X:Cx} {e:Expr} {t:TT} (h:PW X e t):PT X e t:=h _
noncomputable def PA (X:Cx) (es:List Expr) (t:TA):Prop :=
 ∀ (pos:Pos) (pins:List (Addr × Obj)) (s:Shared) (σ:St) (H:Hp) (Q:List V->Hp->Prop),Inv X pins σ H s->t σ H Q->wpAny (model X.prog X.w) X.A (spliced (backTo pos (starEach es X.env))) (AP X pins σ Q) X.xe s
noncomputable def PS (X:Cx) (st:Stmt) (t:TS):Prop :=
 ∀ (pins:List (Addr × Obj)) (s:Shared) (σ:St) (H:Hp) (D:Ends),Inv X pins σ H s->t D σ H->wpAny (model X.prog X.w) X.A (exec st X.env) (SP X pins D) X.xe s
noncomputable def PSs (X:Cx) (st:List Stmt) (t:TS):Prop :=
 ∀ (pins:List (Addr × Obj)) (s:Shared) (σ:St) (H:Hp) (D:Ends),Inv X pins σ H s->t D σ H->wpAny (model X.prog X.w) X.A (execs st X.env) (SP X pins D) X.xe s
theorem thn {α:Type} {t:Sem α} {Q Q':α->Shared->Prop} {M:Model} {A:Around} {E:Value->Shared->Prop} {s:Shared} (h:wpAny M A t Q E s) (hQ:∀ a s,Q a s->Q' a s):wpAny M A t Q' E s:=wpAny_mono h hQ fun _ _ x=>x
end L2
namespace L2
open PySem PySem.Spec PyProof.Rows
section
variable {X:Cx}
noncomputable def zD (i:Nat):TE:=fun σ H Q=>∃ v,σ[i]?=some (some v)/\Q v H
noncomputable def tC (v:V):TE:=fun _ H Q=>Q v H
theorem vn {i:Nat} {x:Str} {pos:Pos} (hN:X.N[i]?=some x) (hv:Vis X.env.scope x) (hd:(x==("__debug__" : Str))=false:=by decide) (hcd:(x==("__classdict__" : Str))=false:=by decide):PE X (.Name x pos) (zD i):=by
 intro pins s σ H Q I h
 obtain ⟨v,e,h⟩:=h
 obtain ⟨m,hn,hl⟩:=I.loc
 obtain ⟨u,r,l⟩:=hl i x v hN e hv
 have fin:EP X pins σ Q u s:=⟨v,H,I,r,h⟩
 rcases l with ⟨hk,hm⟩|⟨hk,c,hc,hcell⟩
 ·exact wpAny_Name (wpAny_loadName_local I.ok.kind hk hn hm fin) hd
 ·rcases hk with hk|hk
  ·exact wpAny_Name (wpAny_loadName_cell I.ok.kind hk hc hcell fin) hd
  ·exact wpAny_Name (wpAny_loadName_free I.ok.kind hk hc hcell fin hcd) hd
theorem yy {i j pos}:PE X (.Constant (.int i) j pos) (tC (.int i)):=fun _ _ _ H _ I h=>wpAny_Constant_int ⟨.int i,H,I.tok _,⟨_,rfl⟩,h⟩
theorem zO {b j pos}:PE X (.Constant (.bool b) j pos) (tC (.bl b)):=fun _ _ _ H _ I h=>Constant_bool ⟨.bl b,H,I,rfl,h⟩
theorem vV {j pos}:PE X (.Constant .none j pos) (tC .non):=fun _ _ _ H _ I h=>Constant_none ⟨.non,H,I,rfl,h⟩
theorem pX {x j pos}:PE X (.Constant (.str x) j pos) (tC (.str x)):=fun _ _ _ H _ I h=>Calls.Constant_str ⟨.str x,H,I.tok _,⟨_,rfl⟩,h⟩
noncomputable def Gl (X:Cx) (x:Str):Prop:=X.env.kindOf x=some .globalImplicit
theorem gr {E:Value->Shared->Prop} {pins:List (Addr × Obj)} {s:Shared} {σ:St} {H:Hp} {x:Str} {u:Value} {pos:Pos} {Q:Value->Shared->Prop} (I:Inv X pins σ H s) (hg:Gl X x) (hm:X.mg x=some u) (h:Q u s)
  (hd:(x==("__debug__" : Str))=false:=by decide):wpAny (model X.prog X.w) X.A (eval (.Name x pos) X.env) Q E s :=
 Calls.Name_function_global I.ok.kind hg (Calls.loadGlobal_global (by rw [I.ok.glob]; exact I.mod.glob.keeps I.bk) hm h) hd
theorem gx {E:Value->Shared->Prop} {pins:List (Addr × Obj)} {s:Shared} {σ:St} {H:Hp} {x:Str} {u:Value} {pos:Pos} {Q:Value->Shared->Prop} (I:Inv X pins σ H s) (hg:Gl X x) (hm:X.mg x=none) (hv:bootBuiltins x=some u) (h:Q u s)
  (hn:x≠"__name__":=by decide) (hd:(x==("__debug__" : Str))=false:=by decide):wpAny (model X.prog X.w) X.A (eval (.Name x pos) X.env) Q E s:=by
 obtain ⟨mb,h1,h2⟩:=I.mod.blt
 exact Calls.Name_function_global I.ok.kind hg (Calls.loadGlobal_builtin (by rw [I.ok.glob]; exact I.mod.glob.keeps I.bk) hm (by rw [I.ok.blt]; exact h1.keeps I.bk) ((h2 x hn).trans hv) h) hd
theorem GA {x:Str} {v:V} {u:Value} {pos:Pos} (hg:Gl X x) (hm:X.mg x=some u) (r:RelV v u) (hd:(x==("__debug__" : Str))=false:=by decide):PE X (.Name x pos) (tC v) :=
 fun _ _ _ H _ I h=>gr I hg hm ⟨v,H,I,r,h⟩ hd
theorem yT {x:Str} {v:V} {u:Value} {pos:Pos} (hg:Gl X x) (hm:X.mg x=none) (hv:bootBuiltins x=some u) (r:RelV v u) (hn:x≠"__name__":=by decide) (hd:(x==("__debug__" : Str))=false:=by decide):PE X (.Name x pos) (tC v) :=
 fun _ _ _ H _ I h=>gx I hg hm hv ⟨v,H,I,r,h⟩ hn hd
variable {a b:Expr} {ta tb:TE} {pos:Pos}
noncomputable def PC (X:Cx) (op:CmpOp) (a b:Expr) (t:TE):Prop :=
 ∀ (pins:List (Addr × Obj)) (s:Shared) (σ:St) (H:Hp) (Q:VK),Inv X pins σ H s->t σ H Q ->
  wpAny (model X.prog X.w) X.A (eval a X.env) (fun v s₁=>wpAny (model X.prog X.w) X.A (eval b X.env) (fun u s₂=>wpAny (model X.prog X.w) X.A (compareOp op v u) (EP X pins σ Q) X.xe s₂) X.xe s₁) X.xe s
theorem qa (b:Expr) {op:CmpOp} (h:op≠.In) (h2:op≠.NotIn):behindInMarks op b=false:=by
 have e1:(op==CmpOp.In)=false:=by cases op <;> first|rfl|exact absurd rfl h
 have e2:(op==CmpOp.NotIn)=false:=by cases op <;> first|rfl|exact absurd rfl h2
 cases b <;> simp [behindInMarks,e1,e2]
noncomputable def Av (ta:TE):TE:=fun σ H Q=>ta σ H fun x H1=>Q (.bl (decide (x=.non))) H1
noncomputable def CJ (ta:TE):TE:=fun σ H Q=>ta σ H fun x H1=>Q (.bl (!decide (x=.non))) H1
theorem RelV.qj {x:V} {v:Value} (r:RelV x v):(v==Value.none)=decide (x=.non):=by
 cases x with
 | non=>cases r; rfl
 | bl _=>cases r; rfl
 | int _=>obtain ⟨t,rfl⟩:=r; rfl
 | str _=>obtain ⟨t,rfl⟩:=r; rfl
 | byt _=>obtain ⟨t,rfl⟩:=r; rfl
 | flt _=>obtain ⟨t,rfl⟩:=r; rfl
 | ref _=>cases r; rfl
 | ty _=>cases r; rfl
theorem tV {j pos'} (ha:PE X a ta):PC X .Is a (.Constant .none j pos') (Av ta):=by
 intro pins s σ H Q I h
 refine thn (ha pins s σ H _ I h) fun v s1 ⟨x,H1,I1,r1,q1⟩=>?_
 exact Constant_none (is_none_gen ⟨.bl _,H1,I1,by rw [r1.qj]; rfl,q1⟩)
theorem pB {j pos'} (ha:PE X a ta):PC X .IsNot a (.Constant .none j pos') (CJ ta):=by
 intro pins s σ H Q I h
 refine thn (ha pins s σ H _ I h) fun v s1 ⟨x,H1,I1,r1,q1⟩=>?_
 exact Constant_none (isnot_none_gen ⟨.bl _,H1,I1,by rw [r1.qj]; rfl,q1⟩)
noncomputable def tB (t:TE):TT:=fun σ H Q=>t σ H fun x H1=>∃ c,x=.bl c/\Q c H1
theorem pY {op:CmpOp} {t:TE} (h:PC X op a b t) (h1:behindInMarks op b=false:=by first|exact qa _ (by decide) (by decide)|rfl):PE X (.Compare a [op] [b] pos) t:=fun pins s σ H Q I hw=>wpAny_Compare1 (h pins s σ H Q I hw) h1
theorem rQ {op:CmpOp} {t:TE} (h:PC X op a b t) (h1:behindInMarks op b=false:=by first|exact qa _ (by decide) (by decide)|rfl):PT X (.Compare a [op] [b] pos) (tB t):=by
 intro pins s σ H Q I hw
 refine wpAny_isTrue_Compare1 (thn (h pins s σ H _ I hw) fun v s1 h1=>thn h1 fun u s2 h2=>thn h2 fun c s3 ⟨x,H1,I1,r1,q1⟩=>?_) h1
 obtain ⟨d,rfl,q⟩:=q1
 cases r1
 exact wpAny_truthy_bool ⟨H1,I1,q⟩
variable {tA tB':TT} {rest:List Expr}
noncomputable def Dz (t u:TT):TT:=fun σ H Q=>t σ H fun c H1=>if c=true then u σ H1 Q else Q false H1
noncomputable def tOr (t u:TT):TT:=fun σ H Q=>t σ H fun c H1=>if c=true then Q true H1 else u σ H1 Q
noncomputable def FI (t:TT):TT:=fun σ H Q=>t σ H fun c H1=>Q (!c) H1
theorem sS (ha:PT X a tA):PW X (.BoolOp .And [a] pos) tA:=by
 intro wh pins s σ H Q I h
 refine isTrue_and (thn (ha pins s σ H Q I h) fun c s1 e=>?_)
 cases c with
 | true=>exact isTrue_and_nil e
 | false=>exact e
theorem qV (ha:PT X a tA):PW X (.BoolOp .Or [a] pos) tA:=by
 intro wh pins s σ H Q I h
 refine isTrue_or (thn (ha pins s σ H Q I h) fun c s1 e=>?_)
 cases c with
 | false=>exact isTrue_or_nil e
 | true=>exact e
theorem Al (ha:PT X a tA) (hb:PW X (.BoolOp .And (b::rest) pos) tB'):PW X (.BoolOp .And (a::b::rest) pos) (Dz tA tB'):=by
 intro wh pins s σ H Q I h
 refine isTrue_and (thn (ha pins s σ H _ I h) fun c s1 ⟨H1,I1,q1⟩=>?_)
 cases c with
 | true=>exact hb wh pins s1 σ H1 Q I1 q1
 | false=>exact ⟨H1,I1,q1⟩
theorem w6 (ha:PT X a tA) (hb:PW X (.BoolOp .Or (b::rest) pos) tB'):PW X (.BoolOp .Or (a::b::rest) pos) (tOr tA tB'):=by
 intro wh pins s σ H Q I h
 refine isTrue_or (thn (ha pins s σ H _ I h) fun c s1 ⟨H1,I1,q1⟩=>?_)
 cases c with
 | true=>exact ⟨H1,I1,q1⟩
 | false=>exact hb wh pins s1 σ H1 Q I1 q1
theorem wU (ha:PT X a tA):PT X (.UnaryOp .Not a pos) (FI tA):=by
 intro pins s σ H Q I h
 exact isTrue_not (ha pins s σ H (fun c H1=>Q (!c) H1) I h)
noncomputable def CN (ta tb:TE):TE:=fun σ H Q=>ta σ H fun x H1=>∃ c,x=.bl c/\if c=true then tb σ H1 Q else Q (.bl false) H1
noncomputable def DB (ta tb:TE):TE:=fun σ H Q=>ta σ H fun x H1=>∃ c,x=.bl c/\if c=true then Q (.bl true) H1 else tb σ H1 Q
noncomputable def DE (ta:TE):TE:=fun σ H Q=>ta σ H fun x H1=>∃ c,x=.bl c/\Q (.bl (!c)) H1
theorem ri {op} {t:TE} (h:PE X a t):PE X (.BoolOp op [a] pos) t:=fun pins s σ H Q I hw=>BoolOp_one (h pins s σ H Q I hw)
theorem B5 (ha:PE X a ta) (hb:PE X (.BoolOp .And (b::rest) pos) tb):PE X (.BoolOp .And (a::b::rest) pos) (CN ta tb):=by
 intro pins s σ H Q I h
 refine BoolOp_and (thn (ha pins s σ H _ I h) fun v s1 ⟨x,H1,I1,r1,q1⟩=>?_)
 obtain ⟨c,rfl,q1⟩:=q1
 cases r1
 refine wpAny_truthy_bool ?_
 cases c with
 | true=>exact hb pins s1 σ H1 Q I1 q1
 | false=>exact ⟨.bl false,H1,I1,rfl,q1⟩
theorem Ae (ha:PE X a ta) (hb:PE X (.BoolOp .Or (b::rest) pos) tb):PE X (.BoolOp .Or (a::b::rest) pos) (DB ta tb):=by
 intro pins s σ H Q I h
 refine BoolOp_or (thn (ha pins s σ H _ I h) fun v s1 ⟨x,H1,I1,r1,q1⟩=>?_)
 obtain ⟨c,rfl,q1⟩:=q1
 cases r1
 refine wpAny_truthy_bool ?_
 cases c with
 | false=>exact hb pins s1 σ H1 Q I1 q1
 | true=>exact ⟨.bl true,H1,I1,rfl,q1⟩
theorem B6 (ha:PE X a ta):PE X (.UnaryOp .Not a pos) (DE ta):=by
 intro pins s σ H Q I h
 refine UnaryOp_ (thn (ha pins s σ H _ I h) fun v s1 ⟨x,H1,I1,r1,q1⟩=>?_)
 obtain ⟨c,rfl,q1⟩:=q1
 cases r1
 exact not_of (wpAny_truthy_bool ⟨.bl (!c),H1,I1,rfl,q1⟩)
noncomputable def tIf (t:TT) (ta tb:TE):TE:=fun σ H Q=>t σ H fun c H1=>if c=true then ta σ H1 Q else tb σ H1 Q
theorem E2 {c:Expr} (hc:PT X c tA) (ha:PE X a ta) (hb:PE X b tb):PE X (.IfExp c a b pos) (tIf tA ta tb):=by
 intro pins s σ H Q I h
 refine wpAny_IfExp (thn (hc pins s σ H _ I h) fun d s1 ⟨H1,I1,q1⟩=>?_)
 cases d with
 | true=>exact ha pins s1 σ H1 Q I1 q1
 | false=>exact hb pins s1 σ H1 Q I1 q1
end
end L2
namespace L2
open PySem PySem.Spec PyProof.Rows
noncomputable def SqL (K:PySem.W.Frag) (H:Hp) (a:Addr) (xs:List V):Prop :=
 Rd H a (.lst xs) \/
  ∃ (o:Obj) (its:Array Value) (n:Nat),K.lookup a=some o/\o.cls=.type "list"/\o.dict=none/\o.data=.seq its n/\its.size<=sizeLine/\Vals xs its.toList
noncomputable def SqT (K:PySem.W.Frag) (H:Hp) (a:Addr) (xs:List V):Prop :=
 Rd H a (.tup xs) \/
  ∃ (o:Obj) (its:Array Value) (n:Nat),K.lookup a=some o/\o.cls=.type "tuple"/\o.data=.seq its n/\its.size<=sizeLine/\Vals xs its.toList
noncomputable def wu:Value->Option V
 | .none=>some .non
 | .bool b=>some (.bl b)
 | .int i _=>some (.int i)
 | .str x _=>some (.str x)
 | .bytes b _=>some (.byt b)
 | .float b _=>some (.flt b)
 | .ref a=>some (.ref a)
 | .type n=>some (.ty n)
 | _=>none
theorem RelV.abs {x:V} {u:Value} (r:RelV x u):wu u=some x:=by
 cases x with
 | non=>cases r; rfl
 | bl _=>cases r; rfl
 | int _=>obtain ⟨t,rfl⟩:=r; rfl
 | str _=>obtain ⟨t,rfl⟩:=r; rfl
 | byt _=>obtain ⟨t,rfl⟩:=r; rfl
 | flt _=>obtain ⟨t,rfl⟩:=r; rfl
 | ref _=>cases r; rfl
 | ty _=>cases r; rfl
theorem RelV.inj {x y:V} {u:Value} (r:RelV x u) (q:RelV y u):x=y:=Option.some.inj (r.abs.symm.trans q.abs)
theorem Vals.inj:∀ {xs ys:List V} {us:List Value},Vals xs us->Vals ys us->xs=ys
 | _,_,_,.nil,.nil=>rfl
 | _,_,_,.cons r t,.cons r' t'=>by rw [r.inj r',Vals.inj t t']
section
variable {X:Cx} {pins:List (Addr × Obj)} {σ:St} {H:Hp} {s:Shared} {a:Addr} {xs ys:List V}
theorem SqL.of {K:PySem.W.Frag} (h:H a=some (.lst xs)):SqL K H a xs:=.inl (.inl h)
theorem SqT.of {K:PySem.W.Frag} (h:H a=some (.tup xs)):SqT K H a xs:=.inl (.inl h)
theorem Inv.list (I:Inv X pins σ H s) (h:SqL X.K H a xs):∃ its:List Value,Vals xs its/\PlainL s.heap a its.toArray/\xs.length<=sizeLine:=by
 rcases h with h|⟨o,its,n,hk,hc,hd,hs,hz,r⟩
 ·obtain ⟨z,its,n,r,e⟩:=h.ok I.hok
  exact ⟨its,r,⟨_,n,e,rfl,rfl,rfl⟩,z⟩
 ·refine ⟨its.toList,r,⟨o,n,I.kIn a o hk,hc,hd,by simpa using hs⟩,?_⟩
  have e:=r.length
  simp only [Array.length_toList] at e
  omega
theorem Inv.tuple (I:Inv X pins σ H s) (h:SqT X.K H a xs):∃ its:List Value,Vals xs its/\IsTup s.heap a its.toArray/\xs.length<=sizeLine:=by
 rcases h with h|⟨o,its,n,hk,hc,hs,hz,r⟩
 ·obtain ⟨z,its,r,p⟩:=h.ok I.hok
  exact ⟨its,r,p,z⟩
 ·refine ⟨its.toList,r,⟨o,I.kIn a o hk,hc,n,by simpa using hs⟩,?_⟩
  have e:=r.length
  simp only [Array.length_toList] at e
  omega
theorem Inv.j3 (I:Inv X pins σ H s) (h:SqL X.K H a xs) (h':SqL X.K H a ys):xs=ys:=by
 obtain ⟨its,r,⟨o,n,e,_,_,d⟩,_⟩:=I.list h
 obtain ⟨its',r',⟨o',n',e',_,_,d'⟩,_⟩:=I.list h'
 rw [e] at e'; cases e'
 rw [d] at d'
 injection d' with d1 _
 have:its=its':=by simpa using congrArg Array.toList d1
 subst this
 exact r.inj r'
theorem Inv.k6 (I:Inv X pins σ H s) (h:SqT X.K H a xs) (h':SqT X.K H a ys):xs=ys:=by
 obtain ⟨its,r,⟨o,e,_,n,d⟩,_⟩:=I.tuple h
 obtain ⟨its',r',⟨o',e',_,n',d'⟩,_⟩:=I.tuple h'
 rw [e] at e'; cases e'
 rw [d] at d'
 injection d' with d1 _
 have:its=its':=by simpa using congrArg Array.toList d1
 subst this
 exact r.inj r'
end
abbrev Cx.cV (X:Cx) (E:Value->Shared->Prop):Cx:={ X with xe:=E }
abbrev Cx.nox (X:Cx):Cx:=X.cV fun _ _=>False
theorem Cx.Ok.cV {X:Cx} (ok:X.Ok) (E:Value->Shared->Prop):(X.cV E).Ok :=
 ⟨ok.mod,ok.kind,ok.glob,ok.blt,ok.above,ok.inj,ok.has,ok.cab,ok.hd,ok.frames,ok.stk,ok.exf,ok.bs,ok.bsz,ok.noex,ok.exfs,ok.dY,ok.frf⟩
theorem Cx.Ok.cM {X:Cx} {E:Value->Shared->Prop} (ok:(X.cV E).Ok):X.Ok :=
 ⟨ok.mod,ok.kind,ok.glob,ok.blt,ok.above,ok.inj,ok.has,ok.cab,ok.hd,ok.frames,ok.stk,ok.exf,ok.bs,ok.bsz,ok.noex,ok.exfs,ok.dY,ok.frf⟩
section
variable {X:Cx} {pins:List (Addr × Obj)} {σ:St} {H:Hp} {s:Shared} {E:Value->Shared->Prop}
theorem Inv.cV (I:Inv X pins σ H s) (E:Value->Shared->Prop):Inv (X.cV E) pins σ H s:=⟨I.ok.cV E,I.os,I.bare,I.base,I.loc,I.cell,I.free,I.freeC,I.pin,I.hok,I.len⟩
theorem Inv.cM (I:Inv (X.cV E) pins σ H s):Inv X pins σ H s:=⟨I.ok.cM,I.os,I.bare,I.base,I.loc,I.cell,I.free,I.freeC,I.pin,I.hok,I.len⟩
theorem SP.cM {D:Ends} {f:Flow} {s':Shared} (h:SP (X.cV E) pins D f s'):SP X pins D f s':=by
 cases f with
 | next=>obtain ⟨σ',H',I,q⟩:=h; exact ⟨σ',H',I.cM,q⟩
 | brk=>obtain ⟨σ',H',I,q⟩:=h; exact ⟨σ',H',I.cM,q⟩
 | cont=>obtain ⟨σ',H',I,q⟩:=h; exact ⟨σ',H',I.cM,q⟩
 | ret u=>obtain ⟨v,σ',H',I,r,q⟩:=h; exact ⟨v,σ',H',I.cM,r,q⟩
end
section
variable {X:Cx} {st:Stmt} {rest:List Stmt} {t u:TS} {e:Expr} {te:TE} {pos:Pos}
noncomputable def nY:TS:=fun D σ H=>D.nx σ H
noncomputable def Ge (t u:TS):TS:=fun D σ H=>t { D with nx:=u D } σ H
theorem Gb:PSs X [] nY:=fun _ _ σ H _ I h=>wpAny_execs_nil ⟨σ,H,I,h⟩
theorem F_ (h1:PS X st t) (h2:PSs X rest u):PSs X (st::rest) (Ge t u):=by
 intro pins s σ H D I h
 refine wpAny_execs_cons (thn (h1 pins s σ H { D with nx:=u D } I h) fun f s1 q=>?_)
 cases f with
 | next =>
  obtain ⟨σ',H',I',q⟩:=q
  exact h2 pins s1 σ' H' D I' q
 | ret v=>exact q
 | brk=>exact q
 | cont=>exact q
theorem A6 (h1:PS X st t):PSs X [st] t:=by
 intro pins s σ H D I h
 refine wpAny_execs_cons (thn (h1 pins s σ H D I h) fun f s1 q=>?_)
 cases f with
 | next=>exact wpAny_execs_nil q
 | ret v=>exact q
 | brk=>exact q
 | cont=>exact q
theorem Ep:PS X (.Pass pos) nY:=fun _ _ σ H _ I h=>wpAny_Pass ⟨σ,H,I,h⟩
theorem Inv.quiet {pins:List (Addr × Obj)} {σ:St} {H:Hp} {s:Shared} (I:Inv X pins σ H s):interactive X.env=false:=by simp [interactive,I.ok.kind]
theorem yZ {x j pos pos'}:PS X (.Expr (.Constant (.str x) j pos) pos') nY:=fun _ s σ H _ I h=>wpAny_Expr (Calls.Constant_str (show SP X _ _ .next { s with toks:=s.toks+1 } from ⟨σ,H,I.tok _,h⟩)) I.quiet
noncomputable def yG (te:TE):TS:=fun D σ H=>te σ H fun _ H1=>D.nx σ H1
theorem yH (he:PE X e te) (hs:swapsWith e none pos.line X.env=pure false:=by rfl):PS X (.Expr e pos) (yG te):=by
 intro pins s σ H D I h
 exact wpAny_Expr_any (thn (he pins s σ H _ I h) fun v s1 ⟨x,H1,I1,r1,q1⟩=>⟨σ,H1,I1,q1⟩) I.quiet hs
noncomputable def D7 (te:TE):TS:=fun D σ H=>te σ H D.rt
theorem FZ (he:PE X e te):PS X (.Return (some e) pos) (D7 te):=by
 intro pins s σ H D I h
 exact wpAny_Return_some (thn (he pins s σ H _ I h) fun v s1 ⟨x,H1,I1,r1,q1⟩=>⟨x,σ,H1,I1,r1,q1⟩)
noncomputable def Fx:TS:=fun D _ H=>D.rt .non H
theorem xu:PS X (.Return none pos) Fx:=fun _ _ σ H _ I h=>wpAny_Return_none ⟨.non,σ,H,I,rfl,h⟩
noncomputable def Cn (c:TT) (t u:TS):TS:=fun D σ H=>c σ H fun b H1=>if b=true then t D σ H1 else u D σ H1
theorem E7 {c:Expr} {a b:List Stmt} {tc:TT} (hc:PT X c tc) (ha:PSs X a t) (hb:PSs X b u):PS X (.If c a b pos) (Cn tc t u):=by
 intro pins s σ H D I h
 refine wpAny_If (thn (hc pins s σ H _ I h) fun d s1 ⟨H1,I1,q1⟩=>?_)
 cases d with
 | true=>exact ha pins s1 σ H1 D I1 q1
 | false=>exact hb pins s1 σ H1 D I1 q1
end
abbrev TG:=V->St->Hp->(St->Hp->Prop)->Prop
abbrev TGs:=List V->St->Hp->(St->Hp->Prop)->Prop
noncomputable def PG (X:Cx) (target:Expr) (t:TG):Prop :=
 ∀ (pins:List (Addr × Obj)) (s:Shared) (σ:St) (H:Hp) (v:V) (u:Value) (Q:St->Hp->Prop),Inv X pins σ H s->RelV v u->t v σ H Q ->
  wpAny (model X.prog X.w) X.A (assign target X.env u) (fun _ s'=>∃ σ' H',Inv X pins σ' H' s'/\Q σ' H') X.xe s
noncomputable def PGs (X:Cx) (ts:List Expr) (t:TGs):Prop :=
 ∀ (pins:List (Addr × Obj)) (s:Shared) (σ:St) (H:Hp) (vs:List V) (us:List Value) (Q:St->Hp->Prop),Inv X pins σ H s->Vals vs us->t vs σ H Q ->
  wpAny (model X.prog X.w) X.A (assignInOrder ((assignEach ts X.env).map (·.2)) us) (fun _ s'=>∃ σ' H',Inv X pins σ' H' s'/\Q σ' H') X.xe s
section
variable {X:Cx} {pos:Pos}
noncomputable def iL (i:Nat):TG:=fun v σ H Q=>Q (σ.set i (some v)) H
theorem tF {i:Nat} {x:Str} (hN:X.N.Nodup) (hi:X.N[i]?=some x) (hx:Loc X.env.scope x) (hf:X.fn x=true\/X.env.scope.names.lookup x=some .local:=by first|exact .inl rfl|exact .inr rfl|assumption):PG X (.Name x pos) (iL i):=by
 intro pins s σ H v u Q I r h
 exact wpAny_assign_Name (B7 I hN hi hx r (fun s' I'=>⟨_,H,I',h⟩) hf)
noncomputable def qD:TGs:=fun vs σ H Q=>vs=[]/\Q σ H
noncomputable def pI (t:TG) (u:TGs):TGs:=fun vs σ H Q=>∃ v r,vs=v::r/\t v σ H fun σ' H'=>u r σ' H' Q
theorem Dn:PGs X [] qD:=by
 intro pins s σ H vs us Q I r h
 obtain ⟨e,h⟩:=h
 subst e
 cases r
 exact assignInOrder_nil ⟨σ,H,I,h⟩
theorem GC {e:Expr} {es:List Expr} {t:TG} {u:TGs} (h1:PG X e t) (h2:PGs X es u)
  (hs:(assignEach (e::es) X.env).map (·.2)=assign e X.env::(assignEach es X.env).map (·.2):=by rfl):PGs X (e::es) (pI t u):=by
 intro pins s σ H vs us Q I r h
 obtain ⟨v,vr,e1,h⟩:=h
 subst e1
 cases r with
 | cons r rr =>
  rw [hs]
  refine assignInOrder_cons (thn (h1 pins s σ H _ _ _ I r h) fun _ s1 ⟨σ1,H1,I1,q1⟩=>?_)
  exact h2 pins s1 σ1 H1 _ _ Q I1 rr q1
noncomputable def C5 (K:PySem.W.Frag) (n:Nat) (t:TGs):TG:=fun v σ H Q=>∃ a xs,v=.ref a/\SqT K H a xs/\xs.length=n/\t xs σ H Q
theorem Ar {es:List Expr} {k:Nat} {t:TGs} {n:Nat} (hc:X.calm=true) (h:PGs X es t)
  (hn:(assignEach es X.env).length=n:=by rfl) (hst:(assignEach es X.env).findIdx? (·.1)=none:=by rfl):PG X (.Tuple es k pos) (C5 X.K n t):=by
 intro pins s σ H v u Q I r hw
 obtain ⟨a,xs,e1,hq,hl,hw⟩:=hw
 subst e1
 cases r
 obtain ⟨its,rv,ht,hz⟩:=I.tuple hq
 refine assign_Tuple_tuple (I.ok.hd hc) ht (by simp [hn,<- hl,rv.length]) hst fun h' hx=>?_
 have I1:Inv X pins σ H { s with heap:=h' }:=I.kept (t':=s.toks) fun b o e=>hx b o (Nat.ne_of_lt (Heap.lt_size e)) e
 exact h pins _ σ H xs _ Q I1 (by simpa using rv) hw
noncomputable def oF (te:TE) (g:TG):TS:=fun D σ H=>te σ H fun x H1=>g x σ H1 D.nx
theorem AL {tg e:Expr} {te:TE} {g:TG} (he:PE X e te) (hg:PG X tg g) (hs:swapsWithSole [tg] e pos.line X.env=pure false:=by rfl) (hw:swappedStores [tg] e X.env=pure none:=by rfl)
  (h1:(assignEach [tg] X.env).map (·.2)=[assign tg X.env]:=by rfl):PS X (.Assign [tg] e pos) (oF te g):=by
 intro pins s σ H D I h
 refine wpAny_Assign_stores (thn (he pins s σ H _ I h) fun v s1 ⟨x,H1,I1,r1,q1⟩=>?_) hs hw
 rw [h1]
 exact thn (hg pins s1 σ H1 x v _ I1 r1 q1) fun _ s2 q=>q
end
section
variable {X:Cx} {pos:Pos}
end
structure It where
 go:Nat->Hp->Prop
 yld:Nat->Hp->V->Hp->Prop
 stop:Nat->Hp->Prop
noncomputable def di (X:Cx) (pins:List (Addr × Obj)) (H:Hp) (b:Addr):Prop :=
 H b=none/\b≠X.env.locals/\b ∉ X.fs/\(b∈X.ex\/X.s₀.heap.objs.size<=b)/\(∀ x c,X.env.cells.lookup x=some c->c≠b)/\∀ p∈X.pn++pins,p.1≠b
theorem Inv.gf {X:Cx} {pins:List (Addr × Obj)} {σ:St} {H H':Hp} {s:Shared} {b:Addr} (I:Inv X pins σ H s) (hb:s.heap.objs.size<=b) (hn:H' b=none):di X pins H' b:=by
 refine ⟨hn,Nat.ne_of_gt (Nat.lt_of_lt_of_le I.lt hb),I.Cd hb,.inr (Nat.le_trans I.sz hb),fun x c e z=>?_,fun p hp z=>?_⟩
 ·obtain ⟨v,q⟩:=I.cell x c e
  exact absurd (Nat.lt_of_lt_of_le q.lt (by rw [z]; exact hb)) (Nat.lt_irrefl _)
 ·exact absurd (Nat.lt_of_lt_of_le (Heap.lt_size (I.pin p hp).1) (by rw [z]; exact hb)) (Nat.lt_irrefl _)
structure Turn (P:Program) (w:World) (K:PySem.W.Frag) (tg:Expr) (J:It) (fp:List Addr) (it:Addr) (tn:Nat->Heap->Prop):Prop where
 mem:it∈fp
 obj:∀ i h,tn i h->∀ b∈fp,∃ o,h.get? b=some o/\∀ v,o.data≠.cell v
 keep:∀ i h h',tn i h->(∀ b∈fp,∀ o,h.get? b=some o->h'.get? b=some o)->tn i h'
 item:∀ (X:Cx),X.prog=P->X.w=w->X.K=K->X.calm=true->∀ (i:Nat) (pins:List (Addr × Obj)) (s:Shared) (σ:St) (H:Hp) (E:Value->Shared->Prop),Inv X pins σ H s->(∀ b∈fp,di X pins H b)->tn i s.heap->J.go i H ->
  wpAny (model P w) X.A (pyNext (.ref it)) (fun r s1=>∃ u,r=some u /\
   wpAny (model P w) X.A (letOwnedTupleGo tg (.ref it) u) (fun _ s2=>∃ x H',Inv X pins σ H' s2/\RelV x u/\J.yld i H x H'/\tn (i+1) s2.heap/\∀ b∈fp,H' b=none) E s1) E s
 done:∀ (X:Cx),X.prog=P->X.w=w->X.K=K->X.calm=true->∀ (i:Nat) (pins:List (Addr × Obj)) (s:Shared) (σ:St) (H:Hp) (E:Value->Shared->Prop),Inv X pins σ H s->(∀ b∈fp,di X pins H b)->tn i s.heap->J.stop i H ->
  wpAny (model P w) X.A (pyNext (.ref it)) (fun r s1=>r=none/\Inv X pins σ H s1) E s
 self:∀ (A:Around) (i:Nat) (s:Shared) (Q:Value->Shared->Prop) (E:Value->Shared->Prop),tn i s.heap->Q (.ref it) s->wpAny (model P w) A (pyIter (.ref it)) Q E s
abbrev TI:=St->Hp->(It->Hp->Prop)->Prop
noncomputable def PIE (X:Cx) (pins:List (Addr × Obj)) (σ:St) (tg:Expr) (R:It->Hp->Prop) (itv:Value) (s2:Shared):Prop :=
 ∃ (it:Addr) (fp:List Addr) (tn:Nat->Heap->Prop) (J:It) (H':Hp),itv=.ref it/\Inv X pins σ H' s2/\Turn X.prog X.w X.K tg J fp it tn/\tn 0 s2.heap/\(∀ b∈fp,di X pins H' b)/\R J H'
noncomputable def PI (X:Cx) (tg iter:Expr) (wi:TI):Prop :=
 ∀ (pins:List (Addr × Obj)) (s:Shared) (σ:St) (H:Hp) (R:It->Hp->Prop),Inv X pins σ H s->wi σ H R ->
  wpAny (model X.prog X.w) X.A (eval iter X.env) (fun v s1=>wpAny (model X.prog X.w) X.A (pyIter v) (PIE X pins σ tg R) X.xe s1) X.xe s
theorem kK {M:Model} {A:Around} {E:Value->Shared->Prop} {s:Shared} {tg:Expr} {it:Addr} {u:Value} {o:Obj} {n:String} {vs:Array Value} {Q:Unit->Shared->Prop} (ho:s.heap.get? it=some o) (hc:o.cls=.type n) (hd:o.data=.fields vs)
  (hn:["enumerate","zip","dict_itemiterator","dict_reverseitemiterator","odict_iterator","itertools.zip_longest","itertools.pairwise"].contains n=false) (hQ:Q () s):wpAny M A (letOwnedTupleGo tg (.ref it) u) Q E s:=by
 unfold letOwnedTupleGo
 cases tg <;> first
  | exact wpAny_pure hQ
  | (cases u <;> first
    | exact wpAny_pure hQ
    | (
      refine wpAny_bind (wpAny_load ho ?_)
      rw [hc,hd]
      show wpAny M A (if (["enumerate","zip","dict_itemiterator","dict_reverseitemiterator","odict_iterator","itertools.zip_longest","itertools.pairwise"].contains n&&vs[0]?==some (rawInt _))=true then _ else _) Q E s
      rw [if_neg (by intro h; rw [hn,Bool.false_and] at h; cases h)]
      exact wpAny_pure hQ))
noncomputable def Itl (K:PySem.W.Frag) (a:Addr):It :=
 ⟨fun i H=>∃ xs x,SqL K H a xs/\xs[i]?=some x,fun i H x H'=>H'=H/\∀ xs,SqL K H a xs->xs[i]?=some x,fun i H=>∃ xs,SqL K H a xs/\xs.length<=i⟩
noncomputable def Itt (K:PySem.W.Frag) (a:Addr):It :=
 ⟨fun i H=>∃ xs x,SqT K H a xs/\xs[i]?=some x,fun i H x H'=>H'=H/\∀ xs,SqT K H a xs->xs[i]?=some x,fun i H=>∃ xs,SqT K H a xs/\xs.length<=i⟩
noncomputable def Itr (lo:Int) (n:Nat):It:=⟨fun i _=>i < n,fun i H x H'=>H'=H/\x=.int (lo+i),fun i _=>n<=i⟩
theorem ER {P:Program} {w:World} {K:PySem.W.Frag} {tg:Expr} (a it:Addr):Turn P w K tg (Itl K a) [it] it (fun i h=>h.IsListIter it a i) where
 mem:=by simp
 obj:=fun i h st b hb=>by
  have e:b=it:=by simpa using hb
  subst e
  obtain ⟨o,e,c,d⟩:=st
  exact ⟨o,e,fun v z=>by rw [d] at z; cases z⟩
 keep:=fun i h h' st k=>st.at fun o e=>k it (by simp) o e
 item:=by
  intro X hP hw hK hc i pins s σ H E I hf st hg
  subst hP hw hK
  obtain ⟨xs,x,hq,hx⟩:=hg
  obtain ⟨its,rv,p,hz⟩:=I.list hq
  obtain ⟨u,hu,ru⟩:=rv.get hx
  obtain ⟨f0,f1,f2,f3,f4,f5⟩:=hf it (by simp)
  refine wpAny_pyNext_list_item st p.isList (x:=u) (by simpa using hu) fun h' st' sb=>?_
  have I1:Inv X pins σ H { s with heap:=h' }:=I.turned (t':=s.toks) (fun b o hb e=>(sb.2 b hb).trans e) f0 f1 f3 f4 f5
  obtain ⟨o,e,c,d⟩:=id st'
  exact ⟨u,rfl,kK (s:={ s with heap:=h' }) e c d (by decide) ⟨x,H,I1,ru,⟨rfl,fun ys hy=>by rw [I.j3 hy hq]; exact hx⟩,st',fun b hb=>(hf b hb).1⟩⟩
 done:=by
  intro X hP hw hK hc i pins s σ H E I hf st hg
  subst hP hw hK
  obtain ⟨xs,hq,hx⟩:=hg
  obtain ⟨its,rv,p,hz⟩:=I.list hq
  obtain ⟨f0,f1,f2,f3,f4,f5⟩:=hf it (by simp)
  have hl:=rv.length
  exact wpAny_pyNext_list_end (I.ok.hd hc) st p.isList (by simp; omega) fun h' eb=>⟨rfl,I.turned (t':=s.toks) (fun b o hb e=>eb b o hb e) f0 f1 f3 f4 f5⟩
 self:=fun _ _ _ _ _ st h=>wpAny_pyIter_listiter st h
theorem xP {P:Program} {w:World} {K:PySem.W.Frag} {tg:Expr} (a it:Addr):Turn P w K tg (Itt K a) [it] it (fun i h=>h.IsTupleIter it a i) where
 mem:=by simp
 obj:=fun i h st b hb=>by
  have e:b=it:=by simpa using hb
  subst e
  obtain ⟨o,e,c,d⟩:=st
  exact ⟨o,e,fun v z=>by rw [d] at z; cases z⟩
 keep:=fun i h h' st k=>st.at fun o e=>k it (by simp) o e
 item:=by
  intro X hP hw hK hc i pins s σ H E I hf st hg
  subst hP hw hK
  obtain ⟨xs,x,hq,hx⟩:=hg
  obtain ⟨its,rv,p,hz⟩:=I.tuple hq
  obtain ⟨u,hu,ru⟩:=rv.get hx
  obtain ⟨f0,f1,f2,f3,f4,f5⟩:=hf it (by simp)
  refine wpAny_pyNext_tuple_item st (show s.heap.IsTuple a its.toArray from p) (x:=u) (by simpa using hu) fun h' st' sb=>?_
  have I1:Inv X pins σ H { s with heap:=h' }:=I.turned (t':=s.toks) (fun b o hb e=>(sb.2 b hb).trans e) f0 f1 f3 f4 f5
  obtain ⟨o,e,c,d⟩:=id st'
  exact ⟨u,rfl,kK (s:={ s with heap:=h' }) e c d (by decide) ⟨x,H,I1,ru,⟨rfl,fun ys hy=>by rw [I.k6 hy hq]; exact hx⟩,st',fun b hb=>(hf b hb).1⟩⟩
 done:=by
  intro X hP hw hK hc i pins s σ H E I hf st hg
  subst hP hw hK
  obtain ⟨xs,hq,hx⟩:=hg
  obtain ⟨its,rv,p,hz⟩:=I.tuple hq
  obtain ⟨f0,f1,f2,f3,f4,f5⟩:=hf it (by simp)
  have hl:=rv.length
  exact wpAny_pyNext_tuple_end (I.ok.hd hc) st (show s.heap.IsTuple a its.toArray from p) (by simp; omega) fun h' eb=>⟨rfl,I.turned (t':=s.toks) (fun b o hb e=>eb b o hb e) f0 f1 f3 f4 f5⟩
 self:=fun _ _ _ _ _ st h=>wpAny_pyIter_tupleiter st h
theorem Bu {P:Program} {w:World} {K:PySem.W.Frag} {tg:Expr} (it:Addr) (lo:Int) (n:Nat):Turn P w K tg (Itr lo n) [it] it (fun i h=>IsRangeIter h it (lo+(i:Nat) * 1) ((n:Int) - (i:Nat)) 1) where
 mem:=by simp
 obj:=fun i h st b hb=>by
  have e:b=it:=by simpa using hb
  subst e
  exact ⟨_,st,fun v z=>by
   have z':Data.fields _=Data.cell v:=z
   cases z'⟩
 keep:=fun i h h' st k=>k it (by simp) _ st
 item:=by
  intro X hP hw hK hc i pins s σ H E I hf st hg
  subst hP hw hK
  obtain ⟨f0,f1,f2,f3,f4,f5⟩:=hf it (by simp)
  have W:=Walks.range (prog:=X.prog) (w:=X.w) (I.ok.hd hc) it lo 1 n
  refine W.item i s _ _ hg st fun v h' tk hv st' kk=>?_
  obtain ⟨t,rfl⟩:=hv
  have I1:Inv X pins σ H { s with heap:=h',toks:=tk }:=I.turned (fun b o hb e=>kk b o (by simpa using hb) e) f0 f1 f3 f4 f5
  refine ⟨_,rfl,kK (s:={ s with heap:=h',toks:=tk }) (n:="range_iterator") st' rfl rfl (by decide) ⟨.int (lo+i),H,I1,⟨t,?_⟩,⟨rfl,rfl⟩,st',fun b hb=>(hf b hb).1⟩⟩
  rw [Int.mul_one]
 done:=by
  intro X hP hw hK hc i pins s σ H E I hf st hg
  subst hP hw hK
  obtain ⟨f0,f1,f2,f3,f4,f5⟩:=hf it (by simp)
  exact wpAny_pyNext_range_end (I.ok.hd hc) st (by have:n<=i:=hg; omega) fun h' eb=>⟨rfl,I.turned (t':=s.toks) (fun b o hb e=>eb b o hb e) f0 f1 f3 f4 f5⟩
 self:=fun _ _ _ _ _ st h=>wpAny_pyIter_rangeiter st h
end L2
namespace L2
open PySem PySem.Spec PyProof.Rows
section
variable {X:Cx} {tg:Expr}
theorem um {pins:List (Addr × Obj)} {σ:St} {H:Hp} {s:Shared} {R:It->Hp->Prop} {E:Value->Shared->Prop} {lo hi:Int} {t u v:Tok} {tk:Nat} (I:Inv X pins σ H s) (h1:-(2 ^ 62)<=lo) (h2:lo < 2 ^ 62) (h3:-(2 ^ 62)<=hi) (h4:hi < 2 ^ 62)
  (q:R (Itr lo (hi - lo).toNat) H):wpAny (model X.prog X.w) X.A (pyIter (.ref s.heap.objs.size)) (PIE X pins σ tg R) E { s with heap:=s.heap.push { cls:=.type "range",data:=.fields #[.int lo t,.int hi u,.int 1 v] },toks:=tk }:=by
 refine wpAny_pyIter_range (IsRange.new ..) (small_one h1 h2 h3 h4) ?_
 have I1:Inv X pins σ H { s with heap:=s.heap.push { cls:=.type "range",data:=.fields #[.int lo t,.int hi u,.int 1 v] },toks:=tk }:=I.kept fun b o e=>Heap.get?_push_of_some _ e
 refine ⟨(s.heap.push { cls:=.type "range",data:=.fields #[.int lo t,.int hi u,.int 1 v] }).objs.size,[(s.heap.push { cls:=.type "range",data:=.fields #[.int lo t,.int hi u,.int 1 v] }).objs.size],_,_,H,rfl,
  I1.kept (t':=tk) fun b o e=>Heap.get?_push_of_some _ e,Bu _ lo (hi - lo).toNat,?_,fun b hb=>?_,q⟩
 ·have e1:lo+((0:Nat):Int) * 1=lo:=by simp
  have e2:(((hi - lo).toNat:Nat):Int) - ((0:Nat):Int)=Builtin.Range.rangeSize lo hi 1:=by rw [rangeSize_one]; split <;> omega
  show IsRangeIter _ _ (lo+((0:Nat):Int) * 1) ((((hi - lo).toNat:Nat):Int) - ((0:Nat):Int)) 1
  rw [e1,e2]
  exact Heap.get?_push_size _ rfl
 ·have e:b=(s.heap.push { cls:=.type "range",data:=.fields #[.int lo t,.int hi u,.int 1 v] }).objs.size:=by simpa using hb
  subst e
  exact I1.gf (Nat.le_refl _) (I1.hok.fresh (Nat.le_refl _))
noncomputable def Aw (ta:TA):TI:=fun σ H R=>ta σ H fun vs H1=>∃ j:Int,vs=[.int j]/\-(2 ^ 62)<=j/\j < 2 ^ 62/\R (Itr 0 j.toNat) H1
noncomputable def EG (ta:TA):TI:=fun σ H R=>ta σ H fun vs H1=>∃ i j:Int,vs=[.int i,.int j]/\(-(2 ^ 62)<=i/\i < 2 ^ 62/\-(2 ^ 62)<=j/\j < 2 ^ 62)/\R (Itr i (j - i).toNat) H1
theorem zK {a:Expr} {ta:TA} {p pos:Pos} (hg:Gl X "range") (hm:X.mg "range" = none) (ha:PA X [a] ta) (hs:starEach [a] X.env=[(false,eval a X.env)]:=by rfl):PI X tg (.Call (.Name "range" p) [a] [] pos) (Aw ta):=by
 intro pins s σ H R I h
 refine Call_ (gx I hg hm boot_range (PyProof.Rows.callWith_type1 (thn (ha pos pins s σ H _ I h) fun us s1 ⟨vs,H1,I1,r1,q1⟩=>?_) hs rfl))
 obtain ⟨j,e,q1,q2,q⟩:=q1
 subst e
 cases r1 with
 | cons r rr =>
  cases rr
  obtain ⟨t,rfl⟩:=r
  exact call_range_1 (um I1 (by omega) (by omega) q1 q2 (by simpa using q))
theorem DT {a b:Expr} {ta:TA} {p pos:Pos} (hg:Gl X "range") (hm:X.mg "range" = none) (ha:PA X [a,b] ta) (hs:starEach [a,b] X.env=[(false,eval a X.env),(false,eval b X.env)]:=by rfl) (hs2:starEach [b] X.env=[(false,eval b X.env)]:=by rfl) :
  PI X tg (.Call (.Name "range" p) [a,b] [] pos) (EG ta):=by
 intro pins s σ H R I h
 refine Call_ (gx I hg hm boot_range (PyProof.Rows.callWith_type1 (thn (ha pos pins s σ H _ I h) fun us s1 ⟨vs,H1,I1,r1,q1⟩=>?_) (by rw [hs,hs2]) (by rw [hs2]; rfl)))
 obtain ⟨i,j,e,⟨q1,q2,q3,q4⟩,q⟩:=q1
 subst e
 cases r1 with
 | cons r rr =>
  cases rr with
  | cons r' rr =>
   cases rr
   obtain ⟨t,rfl⟩:=r
   obtain ⟨t',rfl⟩:=r'
   exact call_range_2 (um I1 q1 q2 q3 q4 q)
noncomputable def t_ (wi:TI) (g:TG) (tb:TS):TS:=fun D σ H=>wi σ H fun J H1=>∃ W:Nat->Nat->St->Hp->Prop,(∃ m,W 0 m σ H1)/\∀ i m σ H,W i m σ H ->
 (J.stop i H/\D.nx σ H)\/(J.go i H/\∃ N:St->Hp->Prop,(∀ σ' H',N σ' H'->∃ m',m' < m/\W (i+1) m' σ' H')/\∀ x H',J.yld i H x H'->g x σ H' fun σ2 H2=>tb { D with nx:=N,ct:=N,bk:=D.nx } σ2 H2)
noncomputable def i_ (fp:List Addr) (h:Heap):List (Addr × Obj):=fp.filterMap fun b=>(h.get? b).map fun o=>(b,o)
theorem jL {fp:List Addr} {h:Heap} {b:Addr} {o:Obj} (hb:b∈fp) (e:h.get? b=some o):(b,o)∈i_ fp h:=List.mem_filterMap.mpr ⟨b,hb,by rw [e]; rfl⟩
theorem zd {fp:List Addr} {h:Heap} {p:Addr × Obj} (hp:p∈i_ fp h):p.1∈fp/\h.get? p.1=some p.2:=by
 obtain ⟨b,hb,e⟩:=List.mem_filterMap.mp hp
 cases q:h.get? b with
 | none=>rw [q] at e; cases e
 | some o =>
  rw [q] at e
  have e':(b,o)=p:=Option.some.inj e
  subst e'
  exact ⟨hb,q⟩
theorem Inv.pinned {pins:List (Addr × Obj)} {σ:St} {H:Hp} {s:Shared} {fp:List Addr} (I:Inv X pins σ H s) (hf:∀ b∈fp,di X pins H b) (ho:∀ b∈fp,∃ o,s.heap.get? b=some o/\∀ v,o.data≠.cell v):Inv X (pins++i_ fp s.heap) σ H s :=
 I.oU fun p hp=>(List.mem_append.mp hp).elim (fun z=>I.pin p (List.mem_append_right _ z)) fun z=>by
  obtain ⟨hb,e⟩:=zd z
  obtain ⟨f0,f1,f2,_⟩:=hf p.1 hb
  obtain ⟨o,e',d⟩:=ho p.1 hb
  rw [e] at e'; cases e'
  exact ⟨e,f0,f1,f2,d⟩
theorem Inv.jM {pins pl:List (Addr × Obj)} {σ:St} {H:Hp} {s:Shared} (I:Inv X (pins++pl) σ H s):Inv X pins σ H s:=I.oU fun p hp=>I.pin p (List.mem_append_right _ (List.mem_append_left _ hp))
theorem Cr {iter:Expr} {body:List Stmt} {wi:TI} {g:TG} {tb:TS} {pos:Pos} (hp:PassesOwn (model X.prog X.w) X.A X.env X.xe) (hc:X.calm=true) (hi:PI X tg iter wi) (hg:PG X tg g) (hb:PSs X body tb)
  (hs:∀ x,foldedSetIterable iter X.env x=pure x:=by intro _; rfl):PS X (.For tg iter body [] pos) (t_ wi g tb):=by
 intro pins s σ H D I h
 refine wpAny_For (thn (hi pins s σ H _ I h) fun v s1 h1=>thn h1 fun itv s2 h2=>?_) hs
 obtain ⟨it,fp,tn,J,H2,e,I2,T,st2,f2,W,⟨m0,w0⟩,turn⟩:=h2
 subst e
 have stat:∀ {H':Hp},(∀ b∈fp,H' b=none)->∀ b∈fp,di X pins H' b:=fun hn b hb=>⟨hn b hb,(f2 b hb).2⟩
 refine codeAny_forLoop_any (fun n s'=>∃ i σ' H',Inv X pins σ' H' s'/\tn i s'.heap/\(∀ b∈fp,H' b=none)/\W i n σ' H') ?_ m0 ⟨0,σ,H2,I2,st2,fun b hb=>(f2 b hb).1,w0⟩
 rintro n s3 ⟨i,σ3,H3,I3,st3,fr3,w3⟩
 rcases turn i n σ3 H3 w3 with ⟨stop,qn⟩|⟨go,N,hN,step⟩
 ·refine wpAny_passesOwn hp (thn (T.done X rfl rfl rfl hc i pins s3 σ3 H3 X.xe I3 (stat fr3) st3 stop) fun r s4 ⟨hr,I4⟩=>?_)
  subst hr
  exact wpAny_execs_nil ⟨σ3,H3,I4,qn⟩
 ·refine wpAny_passesOwn hp (thn (T.item X rfl rfl rfl hc i pins s3 σ3 H3 X.xe I3 (stat fr3) st3 go) fun r s4 ⟨u,hr,h4⟩=>?_)
  subst hr
  refine wpAny_passesOwn hp (thn h4 fun _ s5 ⟨x,H5,I5,r5,y5,st5,fr5⟩=>?_)
  have I5':=I5.pinned (stat fr5) (T.obj _ _ st5)
  refine wpAny_passesOwn hp (thn (hg _ s5 σ3 H5 x u _ I5' r5 (step x H5 y5)) fun _ s6 ⟨σ6,H6,I6,q6⟩=>?_)
  refine wpAny_passesOwn hp (thn (hb _ s6 σ6 H6 _ I6 q6) fun f s7 q7=>?_)
  have again:∀ {σ7:St} {H7:Hp},Inv X (pins++i_ fp s5.heap) σ7 H7 s7->N σ7 H7->∃ m,m < n/\∃ i σ' H',Inv X pins σ' H' s7/\tn i s7.heap/\(∀ b∈fp,H' b=none)/\W i m σ' H':=fun {σ7 H7} I7 n7=>by
   obtain ⟨m',hm,w7⟩:=hN σ7 H7 n7
   refine ⟨m',hm,i+1,σ7,H7,I7.jM,T.keep _ _ _ st5 fun b hb o e=>(I7.pin (b,o) (List.mem_append_right _ (List.mem_append_right _ (jL hb e)))).1,fun b hb=>?_,w7⟩
   obtain ⟨o,e,d⟩:=T.obj _ _ st5 b hb
   exact (I7.pin (b,o) (List.mem_append_right _ (List.mem_append_right _ (jL hb e)))).2.1
  cases f with
  | next=>obtain ⟨σ7,H7,I7,n7⟩:=q7; exact again I7 n7
  | cont=>obtain ⟨σ7,H7,I7,n7⟩:=q7; exact again I7 n7
  | brk=>obtain ⟨σ7,H7,I7,q7⟩:=q7; exact ⟨σ7,H7,I7.jM,q7⟩
  | ret v=>obtain ⟨x7,σ7,H7,I7,r7,q7⟩:=q7; exact ⟨x7,σ7,H7,I7.jM,r7,q7⟩
end
end L2
namespace L2
open PySem PySem.Spec PyProof.Rows
abbrev R2:=V->V->Hp->VK->Prop
noncomputable def OpR (X:Cx) (f:Value->Value->Sem Value) (r:R2):Prop :=
 ∀ (pins:List (Addr × Obj)) (s:Shared) (σ:St) (H:Hp) (x y:V) (v u:Value) (Q:VK),Inv X pins σ H s->RelV x v->RelV y u->r x y H Q ->
  wpAny (model X.prog X.w) X.A (f v u) (EP X pins σ Q) X.xe s
noncomputable def UnR (X:Cx) (f:Value->Sem Value) (r:V->Hp->VK->Prop):Prop :=
 ∀ (pins:List (Addr × Obj)) (s:Shared) (σ:St) (H:Hp) (x:V) (v:Value) (Q:VK),Inv X pins σ H s->RelV x v->r x H Q ->
  wpAny (model X.prog X.w) X.A (f v) (EP X pins σ Q) X.xe s
noncomputable def b_ (X:Cx) (f:Value) (r:List V->Hp->VK->Prop):Prop :=
 ∀ (pins:List (Addr × Obj)) (s:Shared) (σ:St) (H:Hp) (xs:List V) (us:List Value) (Q:VK),Inv X pins σ H s->Vals xs us->r xs H Q ->
  wpAny (model X.prog X.w) X.A (call f us) (EP X pins σ Q) X.xe s
noncomputable def tE (X:Cx) (r:V->Hp->(Bool->Hp->Prop)->Prop):Prop :=
 ∀ (pins:List (Addr × Obj)) (s:Shared) (σ:St) (H:Hp) (x:V) (v:Value) (Q:Bool->Hp->Prop),Inv X pins σ H s->RelV x v->r x H Q ->
  wpAny (model X.prog X.w) X.A (truthy v) (TP X pins σ Q) X.xe s
noncomputable def tOp (r:R2) (ta tb:TE):TE:=fun σ H Q=>ta σ H fun x H1=>tb σ H1 fun y H2=>r x y H2 Q
noncomputable def tUn (r:V->Hp->VK->Prop) (ta:TE):TE:=fun σ H Q=>ta σ H fun x H1=>r x H1 Q
noncomputable def rI (C:Int->Int->Prop) (g:Int->Int->V):R2:=fun x y H Q=>∃ i j,x=.int i/\y=.int j/\C i j/\Q (g i j) H
noncomputable def rI0 (g:Int->Int->V):R2:=fun x y H Q=>∃ i j,x=.int i/\y=.int j/\Q (g i j) H
noncomputable def rU (g:Int->V):V->Hp->VK->Prop:=fun x H Q=>∃ i,x=.int i/\Q (g i) H
section
variable {X:Cx} {a b c:Expr} {ta tb tc:TE} {pos:Pos}
theorem mD (ha:PE X a ta) (hb:PE X b tb) {pins:List (Addr × Obj)} {s:Shared} {σ:St} {H:Hp} {R:V->V->Hp->Prop} (I:Inv X pins σ H s)
  (h:ta σ H fun x H1=>tb σ H1 fun y H2=>R x y H2) {Q:Value->Shared->Prop} {f:Value->Value->Sem Value}
  (hf:∀ v u s2 x y H2,Inv X pins σ H2 s2->RelV x v->RelV y u->R x y H2->wpAny (model X.prog X.w) X.A (f v u) Q X.xe s2) :
  wpAny (model X.prog X.w) X.A (eval a X.env) (fun v s₁=>wpAny (model X.prog X.w) X.A (eval b X.env) (fun u s₂=>wpAny (model X.prog X.w) X.A (f v u) Q X.xe s₂) X.xe s₁) X.xe s:=by
 refine thn (ha pins s σ H _ I h) fun v s1 ⟨x,H1,I1,r1,q1⟩=>?_
 refine thn (hb pins s1 σ H1 _ I1 q1) fun u s2 ⟨y,H2,I2,r2,q2⟩=>?_
 exact hf v u s2 x y H2 I2 r1 r2 q2
theorem zx {op:Operator} {r:R2} (ho:OpR X (binaryOp op) r) (ha:PE X a ta) (hb:PE X b tb):PE X (.BinOp a op b pos) (tOp r ta tb):=by
 intro pins s σ H Q I h
 exact wpAny_BinOp (mD ha hb I h fun v u s2 x y H2 I2 rx ry q=>ho pins s2 σ H2 x y v u Q I2 rx ry q)
theorem Ai {op:UnaryOp} {r:V->Hp->VK->Prop} (ho:UnR X (unaryOp op) r) (ha:PE X a ta):PE X (.UnaryOp op a pos) (tUn r ta):=by
 intro pins s σ H Q I h
 exact UnaryOp_ (thn (ha pins s σ H _ I h) fun v s1 ⟨x,H1,I1,r1,q1⟩=>ho pins s1 σ H1 x v Q I1 r1 q1)
theorem opI {f:Value->Value->Sem Value} {C:Int->Int->Prop} {g:Int->Int->Int}
  (rule:∀ (i j:Int) (t u:Tok) (s:Shared) (Q:Value->Shared->Prop) (E:Value->Shared->Prop),C i j->Q (.int (g i j) s.toks) { s with toks:=s.toks+1 }->wpAny (model X.prog X.w) X.A (f (.int i t) (.int j u)) Q E s) :
  OpR X f (rI C fun i j=>.int (g i j)):=by
 intro pins s σ H x y v u Q I rx ry h
 obtain ⟨i,j,rfl,rfl,hc,q⟩:=h
 obtain ⟨t,rfl⟩:=rx
 obtain ⟨t',rfl⟩:=ry
 exact rule i j t t' s _ _ hc ⟨.int (g i j),H,I.tok _,⟨_,rfl⟩,q⟩
theorem qm {f:Value->Value->Sem Value} {g:Int->Int->Int}
  (rule:∀ (i j:Int) (t u:Tok) (s:Shared) (Q:Value->Shared->Prop) (E:Value->Shared->Prop),Q (.int (g i j) s.toks) { s with toks:=s.toks+1 }->wpAny (model X.prog X.w) X.A (f (.int i t) (.int j u)) Q E s) :
  OpR X f (rI0 fun i j=>.int (g i j)):=by
 intro pins s σ H x y v u Q I rx ry h
 obtain ⟨i,j,rfl,rfl,q⟩:=h
 obtain ⟨t,rfl⟩:=rx
 obtain ⟨t',rfl⟩:=ry
 exact rule i j t t' s _ _ ⟨.int (g i j),H,I.tok _,⟨_,rfl⟩,q⟩
theorem jQ {f:Value->Value->Sem Value} {g:Int->Int->Bool}
  (rule:∀ (i j:Int) (t u:Tok) (s:Shared) (Q:Value->Shared->Prop) (E:Value->Shared->Prop),Q (.bool (g i j)) s->wpAny (model X.prog X.w) X.A (f (.int i t) (.int j u)) Q E s) :
  OpR X f (rI0 fun i j=>.bl (g i j)):=by
 intro pins s σ H x y v u Q I rx ry h
 obtain ⟨i,j,rfl,rfl,q⟩:=h
 obtain ⟨t,rfl⟩:=rx
 obtain ⟨t',rfl⟩:=ry
 exact rule i j t t' s _ _ ⟨.bl (g i j),H,I,rfl,q⟩
noncomputable def F3 (i j:Int):Prop:=0 < j/\j < 1073741824
noncomputable def yM (i j:Int):Prop:=0<=j/\j<=1000000/\i.natAbs < 2 ^ 64
noncomputable def mF (i j:Int):Prop:=(-(2 ^ 64) < i/\i < 2 ^ 64)\/(-(2 ^ 64) < j/\j < 2 ^ 64)
theorem mF.ok {i j:Int} (h:mF i j):IntMulOk i j:=by
 rcases h with ⟨h1,h2⟩|⟨h1,h2⟩
 ·exact .of_left (intBits_le_64 h1 h2)
 ·exact .of_right (intBits_le_64 h1 h2)
theorem vg:OpR X (binaryOp .Add) (rI0 fun i j=>.int (i+j)):=qm fun _ _ _ _ _ _ _ q=>add_int q
theorem vX:OpR X (binaryOp .Sub) (rI0 fun i j=>.int (i - j)):=qm fun _ _ _ _ _ _ _ q=>sub_int q
theorem Ej:OpR X (binaryOp .Mult) (rI mF fun i j=>.int (i * j)):=opI fun _ _ _ _ _ _ _ hc q=>mul_int q hc.ok
theorem Gz:OpR X (binaryOp .FloorDiv) (rI F3 fun i j=>.int (i / j)):=opI fun i j _ _ _ _ _ hc q=>by
 have h1:(0:Int) < j:=hc.1
 have h2:j < 1073741824:=hc.2
 exact floordiv_int (by omega) (by rw [Int.fdiv_eq_ediv_of_nonneg i (by omega)]; exact q) (.inl (PyProof.noPylong_small (by omega)))
theorem zL:OpR X (binaryOp .Mod) (rI (fun _ j=>0 < j) fun i j=>.int (i % j)):=opI fun i j _ _ _ _ _ hc q=>by
 have h1:(0:Int) < j:=hc
 exact mod_int' (by omega) (by rw [Int.fmod_eq_emod_of_nonneg i (by omega)]; exact q)
theorem C6:OpR X (binaryOp .Pow) (rI yM fun i j=>.int (i ^ j.toNat)):=opI fun _ _ _ _ _ _ _ hc q=>pow_int_small hc.1 hc.2.1 hc.2.2 q
theorem unI {f:Value->Sem Value} {g:Int->Int}
  (rule:∀ (i:Int) (t:Tok) (s:Shared) (Q:Value->Shared->Prop) (E:Value->Shared->Prop),Q (.int (g i) s.toks) { s with toks:=s.toks+1 }->wpAny (model X.prog X.w) X.A (f (.int i t)) Q E s) :
  UnR X f (rU fun i=>.int (g i)):=by
 intro pins s σ H x v Q I rx h
 obtain ⟨i,rfl,q⟩:=h
 obtain ⟨t,rfl⟩:=rx
 exact rule i t s _ _ ⟨.int (g i),H,I.tok _,⟨_,rfl⟩,q⟩
theorem Dp:UnR X (unaryOp .USub) (rU fun i=>.int (-i)):=unI fun _ _ _ _ _ q=>neg_int q
end
noncomputable def tP:V->V->Bool
 | .non,.non=>true|.non,.int _=>true|.int _,.non=>true|.non,.bl _=>true|.bl _,.non=>true|.non,.str _=>true|.str _,.non=>true
 | .int _,.int _=>true|.bl _,.bl _=>true|.str _,.str _=>true|.byt _,.byt _=>true
 | .int _,.str _=>true|.str _,.int _=>true|.bl _,.str _=>true|.str _,.bl _=>true
 | _,_=>false
noncomputable def rNe:R2:=fun x y H Q=>tP x y=true/\Q (.bl (!decide (x=y))) H
theorem l_ {i j:Int}:decide (V.int i=V.int j)=(i==j):=by
 rw [Bool.eq_iff_iff]
 simp
theorem pP {i j:Bool}:decide (V.bl i=V.bl j)=(i==j):=by
 rw [Bool.eq_iff_iff]
 simp
theorem uE {i j:Str}:decide (V.str i=V.str j)=(i==j):=by
 rw [Bool.eq_iff_iff]
 simp
theorem wz {i j:Array UInt8}:decide (V.byt i=V.byt j)=(i.toList==j.toList):=by
 rw [Bool.eq_iff_iff]
 cases i
 cases j
 simp
section
variable {X:Cx} {a b c:Expr} {ta tb tc:TE} {pos:Pos}
theorem cC {pins:List (Addr × Obj)} {σ:St} {H:Hp} {s:Shared} {Q:VK} {k k':Bool} (I:Inv X pins σ H s) (q:Q (.bl k) H) (e:k=k'):EP X pins σ Q (.bool k') s:=by
 subst e
 exact ⟨.bl k,H,I,rfl,q⟩
theorem z0:OpR X (compareOp .NotEq) rNe:=by
 intro pins s σ H x y v u Q I rx ry h
 obtain ⟨hs,q⟩:=h
 cases x with
 | non =>
  cases rx
  cases y with
  | non=>cases ry; exact PySem.EqNone.ne_none_none (cC I q (by simp))
  | bl j=>cases ry; exact PySem.EqNone.ne_none_bool (cC I q (by simp))
  | int j=>obtain ⟨t',rfl⟩:=ry; exact PySem.EqNone.ne_none_int (cC I q (by simp))
  | str j=>obtain ⟨t',rfl⟩:=ry; exact PySem.EqNone.ne_none_str (cC I q (by simp))
  | _=>exact absurd (show false=true from hs) Bool.false_ne_true
 | bl i =>
  cases rx
  cases y with
  | non=>cases ry; exact PySem.EqNone.ne_bool_none (cC I q (by simp))
  | bl j=>cases ry; exact ne_bool (cC I q (congrArg not pP))
  | str j=>obtain ⟨t',rfl⟩:=ry; exact PySem.EqMixed.ne_bool_str (cC I q (by simp))
  | _=>exact absurd (show false=true from hs) Bool.false_ne_true
 | int i =>
  obtain ⟨t,rfl⟩:=rx
  cases y with
  | non=>cases ry; exact PySem.EqNone.ne_int_none (cC I q (by simp))
  | int j=>obtain ⟨t',rfl⟩:=ry; exact ne_int (cC I q (congrArg not l_))
  | str j=>obtain ⟨t',rfl⟩:=ry; exact PySem.EqMixed.ne_int_str (cC I q (by simp))
  | _=>exact absurd (show false=true from hs) Bool.false_ne_true
 | str i =>
  obtain ⟨t,rfl⟩:=rx
  cases y with
  | non=>cases ry; exact PySem.EqNone.ne_str_none (cC I q (by simp))
  | bl j=>cases ry; exact PySem.EqMixed.ne_str_bool (cC I q (by simp))
  | int j=>obtain ⟨t',rfl⟩:=ry; exact PySem.EqMixed.ne_str_int (cC I q (by simp))
  | str j=>obtain ⟨t',rfl⟩:=ry; exact ne_str (cC I q (congrArg not uE))
  | _=>exact absurd (show false=true from hs) Bool.false_ne_true
 | byt i =>
  obtain ⟨t,rfl⟩:=rx
  cases y with
  | byt j=>obtain ⟨t',rfl⟩:=ry; exact PySem.W.ne_bytes (cC I q (congrArg not wz))
  | _=>exact absurd (show false=true from hs) Bool.false_ne_true
 | _=>cases y <;> exact absurd (show false=true from hs) Bool.false_ne_true
theorem vH:OpR X (compareOp .Lt) (rI0 fun i j=>.bl (decide (i < j))):=jQ fun _ _ _ _ _ _ _ q=>lt_int q
theorem yh:OpR X (compareOp .LtE) (rI0 fun i j=>.bl (decide (i<=j))):=jQ fun _ _ _ _ _ _ _ q=>le_int q
theorem Dh:OpR X (compareOp .Gt) (rI0 fun i j=>.bl (decide (j < i))):=jQ fun _ _ _ _ _ _ _ q=>gt_int q
theorem wW:OpR X (compareOp .GtE) (rI0 fun i j=>.bl (decide (j<=i))):=jQ fun _ _ _ _ _ _ _ q=>ge_int q
theorem yO:OpR X (compareOp .In) (fun x y H Q=>∃ i j,x=.str i/\y=.str j/\Q (.bl (!(Builtin.Str.occurrences j i 0 j.length 1).isEmpty)) H):=by
 intro pins s σ H x y v u Q I rx ry h
 obtain ⟨i,j,rfl,rfl,q⟩:=h
 obtain ⟨t,rfl⟩:=rx
 obtain ⟨t',rfl⟩:=ry
 exact in_str (cC I q rfl)
theorem BJ {op:CmpOp} {r:R2} (ho:OpR X (compareOp op) r) (ha:PE X a ta) (hb:PE X b tb) (hm:behindInMarks op b=false):PE X (.Compare a [op] [b] pos) (tOp r ta tb):=by
 intro pins s σ H Q I h
 exact wpAny_Compare1 (mD ha hb I h fun v u s2 x y H2 I2 rx ry q=>ho pins s2 σ H2 x y v u Q I2 rx ry q) hm
noncomputable def qA (t:TE):TT:=fun σ H Q=>t σ H fun x H'=>∃ k,x=.bl k/\Q k H'
theorem zS {op:CmpOp} {r:R2} (ho:OpR X (compareOp op) r) (ha:PE X a ta) (hb:PE X b tb) (hm:behindInMarks op b=false):PT X (.Compare a [op] [b] pos) (qA (tOp r ta tb)):=by
 intro pins s σ H Q I h
 refine wpAny_isTrue_Compare1 (thn (ha pins s σ H _ I h) fun v s1 ⟨x,H1,I1,r1,q1⟩=>thn (hb pins s1 σ H1 _ I1 q1) fun u s2 ⟨y,H2,I2,r2,q2⟩ =>
  thn (ho pins s2 σ H2 x y v u _ I2 r1 r2 q2) fun c s3 ⟨z,H3,I3,r3,k,e,q3⟩=>?_) hm
 subst e
 cases r3
 exact wpAny_truthy_bool ⟨H3,I3,q3⟩
noncomputable def rq (r r':R2) (ta tb tc:TE):TE:=fun σ H Q=>ta σ H fun x H1=>tb σ H1 fun y H2=>r x y H2 fun z H3=>∃ k,z=.bl k /\
 (if k=true then tc σ H3 fun w' H4=>r' y w' H4 Q else Q (.bl false) H3)
theorem vJ {op op':CmpOp} {r r':R2} (ho:OpR X (compareOp op) r) (ho':OpR X (compareOp op') r') (ha:PE X a ta) (hb:PE X b tb) (hc:PE X c tc)
  (hm:lastMarks [op,op'] [b,c]=false:=by with_unfolding_all rfl):PE X (.Compare a [op,op'] [b,c] pos) (rq r r' ta tb tc):=by
 intro pins s σ H Q I h
 refine Compare_chain (thn (ha pins s σ H _ I h) fun v s1 ⟨x,H1,I1,r1,q1⟩=>chain_link (thn (hb pins s1 σ H1 _ I1 q1) fun u s2 ⟨y,H2,I2,r2,q2⟩ =>
  thn (ho pins s2 σ H2 x y v u _ I2 r1 r2 q2) fun d s3 ⟨z,H3,I3,r3,k,e,q3⟩=>?_)) hm
 subst e
 cases r3
 refine wpAny_truthy_bool ?_
 cases k with
 | false=>exact ite_ff ⟨.bl false,H3,I3,rfl,q3⟩
 | true=>exact ite_tt (chain_last (thn (hc pins s3 σ H3 _ I3 q3) fun w' s4 ⟨z',H4,I4,r4,q4⟩=>ho' pins s4 σ H4 y z' u w' Q I4 r2 r4 q4))
theorem Cz {op op':CmpOp} {r r':R2} (ho:OpR X (compareOp op) r) (ho':OpR X (compareOp op') r') (ha:PE X a ta) (hb:PE X b tb) (hc:PE X c tc)
  (hm:lastMarks [op,op'] [b,c]=false:=by with_unfolding_all rfl):PT X (.Compare a [op,op'] [b,c] pos) (qA (rq r r' ta tb tc)):=by
 intro pins s σ H Q I h
 refine isTrue_chain (thn (ha pins s σ H _ I h) fun v s1 ⟨x,H1,I1,r1,q1⟩=>test_link (thn (hb pins s1 σ H1 _ I1 q1) fun u s2 ⟨y,H2,I2,r2,q2⟩ =>
  thn (ho pins s2 σ H2 x y v u _ I2 r1 r2 q2) fun d s3 ⟨z,H3,I3,r3,k,e,q3⟩=>?_)) hm
 subst e
 cases r3
 refine wpAny_truthy_bool ?_
 cases k with
 | false =>
  obtain ⟨k',e',q'⟩:=q3
  cases e'
  exact ite_ff ⟨H3,I3,q'⟩
 | true =>
  refine ite_tt (test_last (thn (hc pins s3 σ H3 _ I3 q3) fun w' s4 ⟨z',H4,I4,r4,q4⟩=>thn (ho' pins s4 σ H4 y z' u w' _ I4 r2 r4 q4) fun d' s5 ⟨z2,H5,I5,r5,k2,e2,q5⟩=>?_))
  subst e2
  cases r5
  exact wpAny_truthy_bool ⟨H5,I5,q5⟩
noncomputable def Eh (K:PySem.W.Frag) (x:V) (H:Hp) (k:Bool):Prop :=
 match x with
 | .non=>k=false
 | .bl b=>k=b
 | .int i=>k=(i != 0)
 | .str y=>y.length<=sizeLine/\k=((y.length:Int) != 0)
 | .byt y=>y.size<=sizeLine/\k=((y.size:Int) != 0)
 | .ref p=>(∃ xs,SqL K H p xs/\k=!xs.isEmpty)\/(∃ xs,SqT K H p xs/\k=!xs.isEmpty)\/∃ kvs,H p=some (.dK kvs)/\k=!kvs.isEmpty
 | _=>False
theorem BE {κ:Type} {kvs:List (κ × V)} {vs:List (κ × Value)} (r:KV kvs vs):(!vs.isEmpty)=!kvs.isEmpty:=by
 cases r <;> rfl
theorem uR {xs:List V} {its:List Value} (r:Vals xs its):(!its.toArray.isEmpty)=!xs.isEmpty:=by
 cases r <;> simp
theorem gQ:(sizeLine:Nat) < 2 ^ 63:=by rw [sizeLine_eq]; decide
theorem yi:tE X (fun x H Q=>∃ k,Eh X.K x H k/\Q k H):=by
 intro pins s σ H x v Q I rx h
 obtain ⟨k,e,q⟩:=h
 have hl:=gQ
 have hs:sizeLine=16777216:=sizeLine_eq
 cases x with
 | non =>
  cases rx
  have e':k=false:=e
  subst e'
  exact truthy_none ⟨H,I,q⟩
 | bl b =>
  cases rx
  have e':k=b:=e
  subst e'
  exact wpAny_truthy_bool ⟨H,I,q⟩
 | int i =>
  obtain ⟨t,rfl⟩:=rx
  have e':k=(i != 0):=e
  subst e'
  exact PySem.P.truthy_int ⟨H,I,q⟩
 | str y =>
  obtain ⟨t,rfl⟩:=rx
  obtain ⟨hy,e'⟩:y.length<=sizeLine/\k=((y.length:Int) != 0):=e
  subst e'
  exact PySem.P.truthy_str (by omega) ⟨H,I.tok _,q⟩
 | byt y =>
  obtain ⟨t,rfl⟩:=rx
  obtain ⟨hy,e'⟩:y.size<=sizeLine/\k=((y.size:Int) != 0):=e
  subst e'
  exact PySem.W.truthy_bytes (by omega) ⟨H,I.tok _,q⟩
 | ref p =>
  cases rx
  have e':(∃ xs,SqL X.K H p xs/\k=!xs.isEmpty)\/(∃ xs,SqT X.K H p xs/\k=!xs.isEmpty)\/∃ kvs,H p=some (.dK kvs)/\k=!kvs.isEmpty:=e
  rcases e' with ⟨xs,hx,e'⟩|⟨xs,hx,e'⟩|⟨kvs,hx,e'⟩
  ·subst e'
   obtain ⟨its,r,pl,hz⟩:=I.list hx
   have hlen:=r.length
   exact wpAny_truthy_list pl.isList (by simp only [List.size_toArray]; omega) ⟨H,I.tok _,by rw [uR r]; exact q⟩
  ·subst e'
   obtain ⟨its,r,pl,hz⟩:=I.tuple hx
   have hlen:=r.length
   exact truthy_tuple pl (by simp only [List.size_toArray]; omega) ⟨H,I.tok _,by rw [uR r]; exact q⟩
  ·subst e'
   obtain ⟨hz,hS,vs,r,m⟩:kvs.length<=sizeLine/\(p==sysModules)=false/\∃ vs,KV kvs vs/\s.heap.DictOf (mT X.prog X.w) p vs:=I.hok p _ hx
   have hlen:kvs.length=vs.length:=Paired.length r
   exact wpAny_truthy_dict hS m (by omega) ⟨H,I.tok _,by rw [BE r]; exact q⟩
 | _=>exact (show False from e).elim
theorem DQ:OpR X (binaryOp .Add) (fun x y H Q=>∃ i j,x=.str i/\y=.str j/\i.length+j.length<=sizeLine/\Q (.str (i++j)) H):=by
 intro pins s σ H x y v u Q I rx ry h
 obtain ⟨i,j,rfl,rfl,hz,q⟩:=h
 obtain ⟨t,rfl⟩:=rx
 obtain ⟨t',rfl⟩:=ry
 exact add_str (fun t' tk=>⟨.str (i++j),H,I.tok _,⟨_,rfl⟩,q⟩) hz
theorem vals1 {x:V} {us:List Value} (r:Vals [x] us):∃ u,us=[u]/\RelV x u:=by
 cases r with
 | cons r1 r2=>cases r2; exact ⟨_,rfl,r1⟩
theorem EA:b_ X (.type "str") (fun xs H Q=>∃ i,xs=[.int i]/\i.natAbs.log2 < 1920/\Q (.str (toString i)) H):=by
 intro pins s σ H xs us Q I r h
 obtain ⟨i,rfl,hz,q⟩:=h
 obtain ⟨u,rfl,t,rfl⟩:=vals1 r
 exact PySem.P.str_of_int hz ⟨.str _,H,I.tok _,⟨_,rfl⟩,q⟩
end
end L2
namespace L2
open PySem PySem.Spec PyProof.Rows
structure GR (h:Heap) (x dx C:Addr) (mA:Str->Option Value):Prop where
 obj:h.get? x=some (PySem.W.instObj C dx)
 ns:h.Ns1 dx mA
 ne:dx≠x
section
variable {prog:Program} {w:World} {A:Around} {E:Value->Shared->Prop} {s:Shared} {K:PySem.W.Frag} {x dx C f:Addr} {mA:Str->Option Value} {name:Str} {v:Value}
end
section
variable {P:Program} {w:World} {H H':Hp} {h h':Heap} {a C dx:Addr} {fs fs':List (Str × V)}
end
structure Cls (K:PySem.W.Frag) (C:Addr):Prop where
 pg:PySem.W.plainGet K C Str.empty=true
 hd:PySem.W.hasDictIn K C=true
 po:PySem.W.plainOver K C=true
 sa:PySem.W.findIn K (.ref C) "__setattr__" = some (some (.builtin "object.__setattr__"))
structure Con (K:PySem.W.Frag) (C:Addr) (f:Str) (v:V) (u:Value):Prop where
 at_:PySem.W.findIn K (.ref C) f=some (some u)
 rel:RelV v u
 get:PySem.W.specialIn K u "__get__" = some none
 cp:PySem.W.copiedNames.contains f=false
section
variable {X:Cx} {pins:List (Addr × Obj)} {σ:St} {H:Hp} {s:Shared} {a C dx:Addr} {fs:List (Str × V)} {f:Str} {v:V} {A:Around} {E:Value->Shared->Prop}
end
section
variable {X:Cx} {o e value:Expr} {f:Str} {pos pos' tpos:Pos} {ta tv:TE}
end
section
variable {X:Cx} {pins:List (Addr × Obj)} {σ:St} {H:Hp} {s:Shared} {A:Around} {E:Value->Shared->Prop} {Q:Value->Shared->Prop} {c:Value} {b:Bool}
inductive dJ (K:PySem.W.Frag) (H:Hp):V->Value->Prop where
 | non:dJ K H .non (.type "NoneType")
 | bl (x:Bool):dJ K H (.bl x) (.type "bool")
 | int (i:Int):dJ K H (.int i) (.type "int")
 | str (x:Str):dJ K H (.str x) (.type "str")
 | flt (x:UInt64):dJ K H (.flt x) (.type "float")
 | lst {a:Addr} {xs:List V} (e:H a=some (.lst xs)):dJ K H (.ref a) (.type "list")
 | frz {a:Addr} {o:Obj} {xs:List V} (e:H a=some (.frz o (.lst xs))):dJ K H (.ref a) (.type "list")
 | tup {a:Addr} {xs:List V} (e:H a=some (.tup xs)):dJ K H (.ref a) (.type "tuple")
 | dK {a:Addr} {kvs:List (Key × V)} (e:H a=some (.dK kvs)):dJ K H (.ref a) (.type "dict")
 | dT {a:Addr} {kvs:List (List Key × V)} (e:H a=some (.dT kvs)):dJ K H (.ref a) (.type "dict")
 | ins {a C dx:Addr} {fs:List (Str × V)} (e:H a=some (.ins C dx fs)) (cl:Cls K C) (ha:PySem.W.findIn K (.ref C) "__class__" = some (some (.builtin "object.__class__")))
   (hn:PySem.W.specialIn K (.builtin "object.__class__") "__get__" = some (some (.builtin "getset_descriptor.__get__"))) (htk:PySem.W.takesIn K (.builtin "object.__class__")=some true)
   (hm:PySem.W.mroIn K C (.type "object")=some true):dJ K H (.ref a) (.ref C)
end
end L2
namespace L2
open PySem PySem.Spec PyProof.Rows
structure bS (k:Nat) (A:Around):Prop where
 hd:A.handled=none
 dp:A.depth+3 * k+5 < recursionLimit
 un:A.units+16 * k+200 < cLine
theorem bS.deeper {k:Nat} {A:Around} (r:bS (k+1) A) (env:Env):bS k (A.deeper env) :=
 ⟨r.hd,by have:=r.dp; show A.depth+1+3 * k+5 < _; omega,by have:=r.un; show A.units+3+16 * k+200 < _; omega⟩
theorem bS.depth {k:Nat} {A:Around} (r:bS k A):A.depth < recursionLimit:=by have:=r.dp; omega
theorem bS.units {k:Nat} {A:Around} (r:bS k A):A.units+64 < cLine:=by have:=r.un; omega
noncomputable def tW:TA:=fun _ H Q=>Q [] H
noncomputable def BL (ta:TE) (tr:TA):TA:=fun σ H Q=>ta σ H fun x H1=>tr σ H1 fun xs H2=>Q (x::xs) H2
section
variable {X:Cx} {e:Expr} {es:List Expr} {te:TE} {t:TA} {pos:Pos}
theorem jC:PA X [] tW:=fun _ _ _ _ H Q I h=>Calls.spliced_nil ⟨[],H,I,.nil,h⟩
theorem iG (ha:PE X e te) (hr:PA X es t) (hs:starEach (e::es) X.env=(false,eval e X.env)::starEach es X.env:=by rfl):PA X (e::es) (BL te t):=by
 intro pos pins s σ H Q I h
 rw [hs]
 show wpAny _ _ (spliced ((false,eval e X.env)::backTo pos (starEach es X.env))) _ _ s
 refine Calls.spliced_cons (thn (ha pins s σ H _ I h) fun u s1 ⟨x,H1,I1,r1,q1⟩=>?_)
 exact thn (hr pos pins s1 σ H1 _ I1 q1) fun us s2 ⟨xs,H2,I2,r2,q2⟩=>⟨x::xs,H2,I2,.cons r1 r2,q2⟩
noncomputable def xy (t:TA):TE:=fun σ H Q=>t σ H fun xs H1=>xs.length<=sizeLine/\∀ p,H1 p=none->Q (.ref p) (upd H1 p (.tup xs))
noncomputable def xT (t:TA):TE:=fun σ H Q=>t σ H fun xs H1=>xs.length<=sizeLine/\∀ p,H1 p=none->Q (.ref p) (upd H1 p (.lst xs))
theorem AW {x1} (h:PA X es t):PE X (.Tuple es x1 pos) (xy t):=by
 intro pins s σ H Q I hq
 refine wpAny_Tuple_spliced (thn (h pos pins s σ H _ I hq) fun us s1 ⟨xs,H1,I1,r,z,q⟩=>⟨by rw [<- r.length]; exact z,?_⟩)
 have hf:H1 s1.heap.objs.size=none:=I1.hok.fresh (Nat.le_refl _)
 refine ⟨.ref s1.heap.objs.size,upd H1 s1.heap.objs.size (.tup xs),I1.laid (t':=s1.toks) (fun b u e=>Heap.get?_push_of_some _ e) (Nat.le_refl _) ?_,rfl,q _ hf⟩
 exact ⟨z,us,r,⟨_,Heap.get?_push_size _ rfl,rfl,_,rfl⟩⟩
theorem CA (h:PA X es t):PE X (.List es pos) (xT t):=by
 intro pins s σ H Q I hq
 refine wpAny_List_spliced (thn (h pos pins s σ H _ I hq) fun us s1 ⟨xs,H1,I1,r,z,q⟩=>⟨by rw [<- r.length]; exact z,?_⟩)
 have hf:H1 s1.heap.objs.size=none:=I1.hok.fresh (Nat.le_refl _)
 refine ⟨.ref s1.heap.objs.size,upd H1 s1.heap.objs.size (.lst xs),I1.laid (t':=s1.toks) (fun b u e=>Heap.get?_push_of_some _ e) (Nat.le_refl _) ?_,rfl,q _ hf⟩
 exact ⟨z,us,0,r,Heap.get?_push_size _ rfl⟩
end
abbrev Sp:=List V->Hp->VK->XK->Prop
abbrev CXT:=List Env->Hp->Shared->XK->Value->Shared->Prop
structure jV (P:Program) (w:World) (K:PySem.W.Frag) (mg:Str->Option Value) (base:Heap) (A:Around) (outer:List Env) (s:Shared) (H:Hp):Prop where
 frames:A.frames=some outer
 mod:Mod K mg base
 bs:∀ b o,base.get? b=some o->s.heap.get? b=some o/\H b=none
 bsz:base.objs.size<=s.heap.objs.size
 dY:s.heap.FunFrames base outer
 frf:∀ b∈frs outer,H b=none
 hok:HOk P w H s.heap
 bare:AllBare s.gens
noncomputable def CE (outer:List Env) (P:Program) (w:World) (H:Hp) (s:Shared) (Q:VK) (u:Value) (s':Shared):Prop :=
 ∃ v H',s'.os=s.os/\AllBare s'.gens/\Un (frs outer) [] H H' s.heap s'.heap/\HOk P w H' s'.heap/\RelV v u/\Q v H'
noncomputable def CR (CX:CXT) (outer:List Env) (P:Program) (w:World) (H:Hp) (s:Shared) (Q:VK) (E:XK) (r:Result) (s':Shared):Prop :=
 match r with
 | .ok (.ret u)=>CE outer P w H s Q u s'
 | .ok _=>False
 | .error e=>CX outer H s E e s'
structure c6 (P:Program) (w:World) (K:PySem.W.Frag) (mg:Str->Option Value) (base:Heap) (CX:CXT) (k:Nat) (f:Addr) (fd:FuncData) (ps:List Str) (sp:Sp):Prop where
 len:∀ vs H Q E,sp vs H Q E->vs.length=ps.length
 run:∀ (A:Around) (outer:List Env) (s:Shared) (H:Hp) (args:Args) (us:List Value) (vs:List V) (Q:VK) (E:XK),bS k A->jV P w K mg base A outer s H->BindsTo s fd args (ps.zip us)->Vals vs us->sp vs H Q E ->
  codeAny (model P w) A (.call (.ref f) args) (CR CX outer P w H s Q E) s
section
variable {X:Cx} {pins:List (Addr × Obj)} {σ:St} {H:Hp} {s s':Shared}
theorem Inv.tL (I:Inv X pins σ H s):jV X.prog X.w X.K X.mg X.base X.A X.stack s H :=
 ⟨I.ok.frames,I.ok.mod,I.bs,Nat.le_trans I.ok.bsz I.sz,I.stack,I.mE,I.hok,I.bare⟩
theorem Inv.after {Q:VK} {u:Value} (I:Inv X pins σ H s) (h:CE X.stack X.prog X.w H s Q u s'):EP X pins σ Q u s':=by
 obtain ⟨v,H',os,bare,un,hok,r,q⟩:=h
 obtain ⟨hh,g,d,t,os'⟩:=s'
 obtain rfl:os'=s.os:=os
 exact ⟨v,H',I.call (h':=hh) (g':=g) (d':=d) (t':=t) (ch:=[]) un hok bare (fun b z=>absurd z (by simp)),r,q⟩
end
noncomputable def mQ (sp:Sp) (dvs:List V) (E:XK) (t:TA):TE:=fun σ H Q=>t σ H fun vs H1=>sp (vs++dvs) H1 Q E
noncomputable def Binds (K:PySem.W.Frag) (fd:FuncData) (ps:List Str) (ds:List Value):Prop :=
 ∀ (s:Shared) (us:List Value),K.In s.heap->(us++ds).length=ps.length->BindsTo s fd ⟨us,[]⟩ (ps.zip (us++ds))
theorem Binds.all {K:PySem.W.Frag} {fd:FuncData} {ps:List Str} (h:∀ us:List Value,us.length=ps.length->bindArgs fd ⟨us,[]⟩=pure (ps.zip us)):Binds K fd ps []:=fun s us _ hl=>by
 rw [List.append_nil] at hl ⊢
 exact .of_eq (h us hl)
noncomputable def Passes (CX:CXT) (X:Cx) (E:XK):Prop:=∀ (pins:List (Addr × Obj)) (σ:St) (H:Hp) (s:Shared) (e:Value) (s':Shared),Inv X pins σ H s->CX X.stack H s E e s'->X.xe e s'
section
variable {X:Cx} {CX:CXT} {k:Nat} {f C:Addr} {fd:FuncData} {ps:List Str} {sp:Sp} {dvs:List V} {ds:List Value} {E:XK} {x m:Str} {p pos apos:Pos} {e o:Expr} {es:List Expr} {ta:TE} {t:TA}
theorem rP {pins:List (Addr × Obj)} {σ:St} {H:Hp} {s:Shared} {Q:VK} {us:List Value} {vs:List V} (F:c6 X.prog X.w X.K X.mg X.base CX k f fd ps sp) (hr:bS k X.A) (hb:Binds X.K fd ps ds) (hd:Vals dvs ds) (hx:Passes CX X E)
  (I:Inv X pins σ H s) (r:Vals vs us) (h:sp (vs++dvs) H Q E):wpAny (model X.prog X.w) X.A (call (.ref f) us) (EP X pins σ Q) X.xe s:=by
 have r2:Vals (vs++dvs) (us++ds):=r.append hd
 have hl:(us++ds).length=ps.length:=by rw [<- r2.length]; exact F.len _ _ _ _ h
 refine wpAny_call (codeAny_mono (F.run X.A X.stack s H ⟨us,[]⟩ (us++ds) (vs++dvs) Q E hr I.tL (hb s us I.kIn hl) r2 h) fun r s' hq=>?_)
 cases r with
 | error e=>exact hx pins σ H s e s' I hq
 | ok fl =>
  cases fl with
  | ret u=>exact I.after hq
  | next=>exact False.elim hq
  | brk=>exact False.elim hq
  | cont=>exact False.elim hq
theorem DS (F:c6 X.prog X.w X.K X.mg X.base CX k f fd ps sp) (hr:bS k X.A) (hg:Gl X x) (hm:X.mg x=some (.ref f)) (hk:PySem.W.keepIn X.K (.ref f)=true) (hb:Binds X.K fd ps ds) (hd:Vals dvs ds) (hx:Passes CX X E)
  (ha:PA X (e::es) t) (hdb:(x==("__debug__" : Str))=false:=by decide) (he:starEach (e::es) X.env=(false,eval e X.env)::starEach es X.env:=by rfl) (hpl:(backTo pos (starEach es X.env)).any (·.1)=false:=by rfl) :
  PE X (.Call (.Name x p) (e::es) [] pos) (mQ sp dvs E t):=by
 intro pins s σ H Q I h
 refine wpAny_Call_Name_kw (gr I hg hm ?_ hdb)
 refine PySem.W.callWith_K (h₀:=X.base) I.ok.mod.kin hk (thn (ha pos pins s σ H _ I h) fun us s1 ⟨vs,H1,I1,r,q⟩=>⟨I1.kIn,?_⟩) he hpl
 exact rP F hr hb hd hx I1 r q
theorem C2 (F:c6 X.prog X.w X.K X.mg X.base CX k f fd ps sp) (hr:bS k X.A) (hg:Gl X x) (hm:X.mg x=some (.ref f)) (hk:PySem.W.keepIn X.K (.ref f)=true) (hb:Binds X.K fd ps ds) (hd:Vals dvs ds) (hx:Passes CX X E)
  (hdb:(x==("__debug__" : Str))=false:=by decide):PE X (.Call (.Name x p) [] [] pos) (mQ sp dvs E tW):=by
 intro pins s σ H Q I h
 refine wpAny_Call_Name_kw (gr I hg hm ?_ hdb)
 exact PySem.W.callWith_K0 I.kIn hk (rP (us:=[]) F hr hb hd hx I .nil h)
structure Mk (K:PySem.W.Frag) (C f:Addr):Prop where
 makes:PySem.W.makesIn K C=true
 init:PySem.W.findIn K (.ref C) "__init__" = some (some (.ref f))
 fn:PySem.W.isFn K (.ref f)=true
 kp:PySem.W.keepIn K (.ref C)=true
end
section
variable {X:Cx} {CX:CXT} {k:Nat} {f C:Addr} {fd:FuncData} {ps ks:List Str} {sp:Sp} {E:XK} {x m:Str} {p pos apos kpos:Pos} {e o:Expr} {es:List Expr} {kws:List Keyword} {te ta:TE} {t tk:TA} {nm:Option Str}
structure G7 (K:PySem.W.Frag) (fd:FuncData) (ps ks:List Str) (g:List Value->List Value->List Value) (gV:List V->List V->List V):Prop where
 to:∀ (s:Shared) (us ws:List Value),K.In s.heap->(g us ws).length=ps.length->BindsTo s fd ⟨us,ks.zip ws⟩ (ps.zip (g us ws))
 rel:∀ {vs:List V} {us:List Value} {zs:List V} {ws:List Value},Vals vs us->Vals zs ws->Vals (gV vs zs) (g us ws)
variable {g:List Value->List Value->List Value} {gV:List V->List V->List V}
end
structure mj (N P:List Str) (sc:Scope):Prop where
 kind:sc.kind=.function
 co:sc.isCoroutine=false
 gen:sc.isGenerator=false
 nd:N.Nodup
 pre:N.take P.length=P
 par:∀ x∈P,sc.names.lookup x=some .local\/sc.names.lookup x=some .cell
 nofree:∀ y∈sc.names,y.2≠.free
theorem tO {kindOf:Str->Option NameKind} {x:Str}:∀ {binds:List (Str × Value)} {m:Str->Option Value},(∀ v,(x,v) ∉ binds)->bindL kindOf binds m x=m x
 | [],_,_=>rfl
 | (n,v)::r,m,h=>by
  unfold bindL
  rw [tO fun w hw=>h w (List.mem_cons_of_mem _ hw)]
  split
  ·have:x≠n:=by rintro rfl; exact h v List.mem_cons_self
   simp [this]
  ·rfl
theorem oR {kindOf:Str->Option NameKind} {x:Str}:∀ {binds:List (Str × Value)} {m:Str->Option Value},(∀ v,(x,v) ∉ binds)->bindC kindOf binds m x=m x
 | [],_,_=>rfl
 | (n,v)::r,m,h=>by
  unfold bindC
  rw [oR fun w hw=>h w (List.mem_cons_of_mem _ hw)]
  split
  ·rfl
  ·have:x≠n:=by rintro rfl; exact h v List.mem_cons_self
   simp [this]
theorem uN {kindOf:Str->Option NameKind} {x:Str} {v:Value}:∀ {P:List Str} {vs:List Value} {i:Nat} {m:Str->Option Value},P.Nodup->P[i]?=some x->vs[i]?=some v->kindOf x=some .local ->
  bindL kindOf (P.zip vs) m x=some v
 | [],_,_,_,_,h,_,_=>by simp at h
 | _::_,[],_,_,_,_,h,_=>by simp at h
 | p::P,w::vs,0,m,nd,h1,h2,hk=>by
  simp at h1 h2; subst h1; subst h2
  show bindL kindOf ((p,w)::P.zip vs) m p=_
  unfold bindL
  rw [tO fun v hv=>(List.nodup_cons.mp nd).1 (List.of_mem_zip hv).1,if_pos hk]
  simp
 | p::P,w::vs,i+1,m,nd,h1,h2,hk=>by
  show bindL kindOf ((p,w)::P.zip vs) m x=_
  unfold bindL
  exact uN (i:=i) (List.nodup_cons.mp nd).2 (by simpa using h1) (by simpa using h2) hk
theorem o8 {kindOf:Str->Option NameKind} {x:Str} {v:Value}:∀ {P:List Str} {vs:List Value} {i:Nat} {m:Str->Option Value},P.Nodup->P[i]?=some x->vs[i]?=some v->kindOf x≠some .local ->
  bindC kindOf (P.zip vs) m x=some v
 | [],_,_,_,_,h,_,_=>by simp at h
 | _::_,[],_,_,_,_,h,_=>by simp at h
 | p::P,w::vs,0,m,nd,h1,h2,hk=>by
  simp at h1 h2; subst h1; subst h2
  show bindC kindOf ((p,w)::P.zip vs) m p=_
  unfold bindC
  rw [oR fun v hv=>(List.nodup_cons.mp nd).1 (List.of_mem_zip hv).1,if_neg hk]
  simp
 | p::P,w::vs,i+1,m,nd,h1,h2,hk=>by
  show bindC kindOf ((p,w)::P.zip vs) m x=_
  unfold bindC
  exact o8 (i:=i) (List.nodup_cons.mp nd).2 (by simpa using h1) (by simpa using h2) hk
noncomputable def start (N:List Str) (vs:List V):St:=vs.map some++List.replicate (N.length - vs.length) none
noncomputable def dc (CX:CXT) (P:Program) (w:World) (K:PySem.W.Frag) (mg:Str->Option Value) (base:Heap) (N:List Str) (qual:Str) (scope:Scope) (f:Addr) (cd:Value) (A:Around) (outer:List Env) (s:Shared) (H:Hp) (E:XK):Cx where
 prog:=P
 w:=w
 K:=K
 mg:=mg
 base:=base
 A:=A.deeper (envOfC qual scope s.heap.objs.size f cd)
 N:=N
 s₀:=s
 H₀:=H
 env:=envOfC qual scope s.heap.objs.size f cd
 outer:=outer
 stack:=envOfC qual scope s.heap.objs.size f cd::outer
 ex:=[]
 calm:=true
 fn:=fun _=>true
 pn:=[]
 xe:=fun e s'=>wpAny (model P w) (A.deeper (envOfC qual scope s.heap.objs.size f cd)) (leaving (envOfC qual scope s.heap.objs.size f cd) e) (fun _ s''=>CX outer H s E e s'') (fun e' s''=>CX outer H s E e' s'') s'
theorem nv {sc:Scope} {n:Nat} {x:Str} (h:sc.names.lookup x=some .cell):∃ c,(cellsFrom n sc.names []).lookup x=some c:=by
 have q:=PySem.W.cellsFrom_some sc.names n [] (.inl h)
 exact Option.isSome_iff_exists.mp q
theorem Ds {CX:CXT} {P:Program} {w:World} {K:PySem.W.Frag} {mg:Str->Option Value} {base:Heap} {N ps:List Str} {qual:Str} {scope:Scope} {f:Addr} {cd:Value} {A:Around} {outer:List Env} {s s1:Shared} {H:Hp} {E:XK} {us:List Value} {vs:List V}
  (S:mj N ps scope) (hd:A.handled=none) (e0:jV P w K mg base A outer s H) (hl:vs.length=ps.length) (r:Vals vs us)
  (x:InCallC s s.heap.objs.size (bindL (envOfC qual scope s.heap.objs.size f cd).kindOf (ps.zip us) fun _=>none) (cellsFrom (s.heap.objs.size+1) scope.names []) (bindC (envOfC qual scope s.heap.objs.size f cd).kindOf (ps.zip us) fun _=>none) s1) :
  Inv (dc CX P w K mg base N qual scope f cd A outer s H E) [] (start N vs) H s1:=by
 have hpl:ps.length<=N.length:=by have:=congrArg List.length S.pre; rw [List.length_take] at this; omega
 obtain ⟨h1,tk,rfl,hk⟩:=x.done
 have noA:∀ b:Addr,b ∉ (dc CX P w K mg base N qual scope f cd A outer s H E).ex:=fun b z=>absurd (show b∈([]:List Addr) from z) (by simp)
 refine ⟨⟨e0.mod,S.kind,rfl,rfl,Nat.le_refl _,fun y z c h1 h2=>?_,fun y hy=>?_,fun y c _ h=>?_,fun _=>hd,Around.frames_deeper e0.frames,.inr ⟨rfl,rfl⟩,fun b z=>absurd z (noA b),e0.bs,e0.bsz,fun b _ _=>noA b,fun b z=>absurd z (noA b),e0.dY,e0.frf⟩,
  rfl,e0.bare,Un.kept hk,⟨_,x.toInCall.ns,fun i y v h1 h2 h3=>?_⟩,fun y c h=>⟨_,x.cell y c h⟩,e0.hok.fresh (Nat.le_refl _),fun y c h=>?_,fun p hp=>absurd (show p∈([]:List (Addr × Obj)) from hp) (by simp),e0.hok.kept hk,?_⟩
 ·exact name_of_addr x.apart (PySem.mem_of_lookup h1) (PySem.mem_of_lookup h2)
 ·have hy:scope.names.lookup y=some .cell\/scope.names.lookup y=some .free:=hy
  rcases hy with hy|hy
  ·exact nv hy
  ·exact absurd rfl (S.nofree _ (PySem.mem_of_lookup hy))
 ·exact Nat.le_of_lt (x.above y c (PySem.mem_of_lookup h))
 ·have hi:i < vs.length:=by
   unfold start at h2
   by_cases hi:i < vs.length
   ·exact hi
   ·rw [List.getElem?_append_right (by simpa using hi)] at h2
    rw [List.getElem?_replicate] at h2
    split at h2 <;> cases h2
  have ha:vs[i]?=some v:=by
   unfold start at h2
   rw [List.getElem?_append_left (by simpa using hi),List.getElem?_map] at h2
   cases e:vs[i]? with
   | none=>rw [e] at h2; cases h2
   | some a=>rw [e] at h2; cases h2; rfl
  obtain ⟨u,hu,rv⟩:=r.get ha
  have hp:ps[i]?=some y:=by
   rw [<- S.pre,List.getElem?_take_of_lt (by omega)]; exact h1
  have ndP:ps.Nodup:=by rw [<- S.pre]; exact S.nd.sublist (List.take_sublist _ _)
  refine ⟨u,rv,?_⟩
  rcases S.par y (List.mem_of_getElem? hp) with k|k
  ·exact .inl ⟨k,uN ndP hp hu k⟩
  ·obtain ⟨c,e⟩:=nv (n:=s.heap.objs.size+1) k
   refine .inr ⟨.inl k,c,e,?_⟩
   have q:=x.cell y c e
   rw [o8 ndP hp hu (by show scope.names.lookup y≠_; rw [k]; decide)] at q
   exact q
 ·exact e0.hok.fresh (Nat.le_of_lt (x.above y c (PySem.mem_of_lookup h)))
 ·unfold start
  show _=N.length
  rw [List.length_append,List.length_map,List.length_replicate]
  omega
theorem zU {CX:CXT} {P:Program} {w:World} {K:PySem.W.Frag} {mg:Str->Option Value} {base:Heap} {k:Nat} {f:Addr} {name qual:Str} {params:Arguments} {body:List Stmt} {scope:Scope} {dV kV doc pm cdv ct oc:Value} {an od:Option Addr}
  {osl:Array (Option Value)} {N ps:List Str} {sp:Sp} (lk:K.lookup f=some ⟨oc,od,.func (PySem.W.fnOf name qual params body scope dV kV doc pm an cdv ct),osl⟩) (hcd:PySem.W.codeIn K cdv qual=true) (S:mj N ps scope)
  (len:∀ vs H Q E,sp vs H Q E->vs.length=ps.length)
  (hbody:∀ (A:Around) (outer:List Env) (s:Shared) (H:Hp) (vs:List V) (Q:VK) (E:XK),bS k (A.deeper (envOfC qual scope s.heap.objs.size f cdv))->sp vs H Q E ->
   ∃ t,PSs (dc CX P w K mg base N qual scope f cdv A outer s H E) body t/\t { nx:=fun _ H'=>Q .non H',rt:=Q } (start N vs) H) :
  c6 P w K mg base CX (k+1) f (PySem.W.fnOf name qual params body scope dV kV doc pm an cdv ct) ps sp:=by
 refine ⟨len,fun A outer s H args us vs Q E hr e0 hb r hsp=>?_⟩
 have hl:=len _ _ _ _ hsp
 have KX:K.In s.heap:=e0.mod.kin.keeps fun b o e=>(e0.bs b o e).1
 have lim:s.heap.NoLimit:=e0.mod.nolimit.keeps fun b o e=>(e0.bs b o e).1
 have hkind:∀ y∈ps.zip us,scope.names.lookup y.1=some .local\/(scope.names.lookup y.1=some .cell/\((cellsFrom (s.heap.objs.size+1) scope.names []).lookup y.1).isSome=true):=fun ⟨n,v⟩ hy=>by
  rcases S.par n (List.of_mem_zip hy).1 with q|q
  ·exact .inl q
  ·exact .inr ⟨q,PySem.W.cellsFrom_some _ _ _ (.inl q)⟩
 refine codeAny_call_function hr.depth (KX _ _ lk) rfl S.co S.gen rfl (PySem.W.codeRec_of KX hcd) (hb _ _ _ _ ?_)
 refine wpAny_newFunctionEnv_cells S.kind hkind fun env he s1 x=>?_
 subst he
 refine ⟨lim.keeps x.toInCall.keep,codeAny_func ?_⟩
 obtain ⟨t,ht,hq⟩:=hbody A outer s H vs Q E (hr.deeper _) hsp
 have I:Inv (dc CX P w K mg base N qual scope f cdv A outer s H E) [] (start N vs) H s1:=Ds S hr.hd e0 hl r x
 refine wpAny_mono (ht [] s1 (start N vs) H _ I hq) (fun fl s' hs=>?_) fun e s' hs=>hs
 have fin:∀ {σ':St} {H':Hp} {v:V} {u:Value},Inv (dc CX P w K mg base N qual scope f cdv A outer s H E) [] σ' H' s'->RelV v u->Q v H'->CE outer P w H s Q u s' :=
  fun {σ' H' v u} J rv q=>⟨v,H',J.os,J.bare,J.base,J.hok,rv,q⟩
 cases fl with
 | ret u =>
  obtain ⟨v,σ',H',J,rv,q⟩:=hs
  exact fin J rv q
 | next =>
  obtain ⟨σ',H',J,q⟩:=hs
  exact fin (v:=V.non) (u:=Value.none) J rfl q
 | brk =>
  obtain ⟨_,_,_,q⟩:=hs
  exact False.elim q
 | cont =>
  obtain ⟨_,_,_,q⟩:=hs
  exact False.elim q
end L2
namespace L2
open PySem PySem.Spec PyProof.Rows
section
variable {X:Cx} {x:Str} {p pos:Pos} {e:Expr} {es:List Expr} {t:TA} {id T:String} {r:List V->Hp->VK->Prop}
noncomputable def tCB (r:List V->Hp->VK->Prop) (t:TA):TE:=fun σ H Q=>t σ H fun vs H1=>r vs H1 Q
theorem qX (hc:b_ X (.builtin id) r) (hg:Gl X x) (hm:X.mg x=none) (hv:bootBuiltins x=some (.builtin id)) (ha:PA X (e::es) t) (hn:x≠"__name__":=by decide) (hdb:(x==("__debug__" : Str))=false:=by decide)
  (he:starEach (e::es) X.env=(false,eval e X.env)::starEach es X.env:=by rfl) (hpl:(backTo pos (starEach es X.env)).any (·.1)=false:=by rfl):PE X (.Call (.Name x p) (e::es) [] pos) (tCB r t):=by
 intro pins s σ H Q I h
 refine wpAny_Call_Name_kw (gx I hg hm hv ?_ hn hdb)
 exact PyProof.Rows.callWith_builtin1 (thn (ha pos pins s σ H _ I h) fun us s1 ⟨vs,H1,I1,r1,q1⟩=>hc pins s1 σ H1 vs us Q I1 r1 q1) he hpl
theorem vM (hc:b_ X (.type T) r) (hg:Gl X x) (hm:X.mg x=none) (hv:bootBuiltins x=some (.type T)) (ha:PA X (e::es) t) (hn:x≠"__name__":=by decide) (hdb:(x==("__debug__" : Str))=false:=by decide)
  (he:starEach (e::es) X.env=(false,eval e X.env)::starEach es X.env:=by rfl) (hpl:(backTo pos (starEach es X.env)).any (·.1)=false:=by rfl):PE X (.Call (.Name x p) (e::es) [] pos) (tCB r t):=by
 intro pins s σ H Q I h
 refine wpAny_Call_Name_kw (gx I hg hm hv ?_ hn hdb)
 exact PyProof.Rows.callWith_type1 (thn (ha pos pins s σ H _ I h) fun us s1 ⟨vs,H1,I1,r1,q1⟩=>hc pins s1 σ H1 vs us Q I1 r1 q1) he hpl
end
end L2
namespace HT
open PySem PyProof.Rows
section
open PySem.SeqAt
open PySem.AutoSeq1 (wpAny_loadPart')
open PySem.MeetsSeq PySem.MeetsSeq2 PySem.MeetsSeq3
end
section
variable {prog:Program} {w:World} {A:Around} {E:Value->Shared->Prop} {s:Shared}
theorem yF {t b:Addr} {vs ws:List Value} {Q:Value->Shared->Prop} (ht:IsTup s.heap t vs.toArray) (hb:IsTup s.heap b ws.toArray) (hv:vs≠[])
  (h1:ws=[]->Q (.ref t) s) (h2:ws≠[]->Q (.ref s.heap.objs.size) { s with heap:=s.heap.push { cls:=.type "tuple",data:=.seq (vs++ws).toArray } })
  (hsz:vs.length+ws.length<=sizeLine):wpAny (model prog w) A (binaryOp .Add (.ref t) (.ref b)) Q E s:=by
 obtain ⟨⟨cls,dd,data,sl⟩,ho,hc,n,hd⟩:=id ht
 obtain ⟨⟨cls2,dd2,data2,sl2⟩,ho2,hc2,n2,hd2⟩:=id hb
 simp only at hc hd hc2 hd2
 subst hc hd hc2 hd2
 have e:vs.toArray++ws.toArray=(vs++ws).toArray:=by simp
 by_cases hw:ws=[]
 ·exact concat_meets ⟨_,ho,rfl⟩ ⟨_,ho2,rfl⟩ noFill_tuple_add seq_tuple_add PySem.F.slot_tuple_add PySem.F.entry_tuple_add (PySem.F.args_tuple_add_2 _ _)
   (tuple_addW1 t b vs.toArray ws.toArray n n2 dd dd2 sl sl2 (by simpa using hv) (by simp [hw])) ⟨ho,ho2,h1 hw⟩
 ·refine concat_meets ⟨_,ho,rfl⟩ ⟨_,ho2,rfl⟩ noFill_tuple_add seq_tuple_add PySem.F.slot_tuple_add PySem.F.entry_tuple_add (PySem.F.args_tuple_add_2 _ _)
   (tuple_addW2 t b vs.toArray ws.toArray n n2 dd dd2 sl sl2 (by simpa using hv) (by simpa using hw) (by rw [List.size_toArray,List.size_toArray]; exact hsz)) ⟨ho,ho2,?_⟩
  rw [e]
  exact h2 hw
noncomputable def sIx (n d:Nat):Option Int->Nat
 | none=>d
 | some v=>if v < 0 then (v+(n:Int)).toNat else min v.toNat n
theorem A4 (n d:Nat) (hd:d<=n) (o:Option Int):sIx n d o<=n:=by
 cases o with
 | none=>exact hd
 | some v =>
  show (if v < 0 then (v+(n:Int)).toNat else min v.toNat n)<=n
  by_cases hv:v < 0
  ·rw [if_pos hv]; omega
  ·rw [if_neg hv]; exact Nat.min_le_right _ _
theorem ua (v:Int) (n d:Nat):(if v < 0 then max (v+(n:Int)) 0 else min v (n:Int))=((sIx n d (some v):Nat):Int):=by
 show (if v < 0 then max (v+(n:Int)) 0 else min v (n:Int))=(((if v < 0 then (v+(n:Int)).toNat else min v.toNat n):Nat):Int)
 by_cases hv:v < 0
 ·simp only [if_pos hv]; omega
 ·simp only [if_neg hv]; omega
theorem Bv (lo hi:Option Int) (n:Nat):Builtin.Slice.sliceAdjust lo hi 1 (n:Int)=(((sIx n 0 lo:Nat):Int),((sIx n n hi:Nat):Int)):=by
 have h1:¬ ((1:Int) < 0):=by omega
 unfold Builtin.Slice.sliceAdjust
 simp only [h1,if_false]
 refine Prod.ext ?_ ?_
 ·cases lo with
  | none=>rfl
  | some v=>exact ua v n 0
 ·cases hi with
  | none=>rfl
  | some v=>exact ua v n n
theorem CF (i j:Nat):Builtin.Slice.slicePlaces (i:Int) (j:Int) 1=j - i:=by
 unfold Builtin.Slice.slicePlaces
 have h1:(1:Int) > 0:=by omega
 simp only [h1,if_true,Int.ediv_one]
 split <;> omega
theorem tT {v:Value} {o:Option Int} {Q:Option Int->Shared->Prop} (p:IsPart v o) (h:Q o s):wpAny (model prog w) A (Builtin.Slice.slicePartIndex v) Q E s:=by
 cases p with
 | none=>exact slicePart_none h
 | int i t=>exact slicePart_int h
theorem sD {sl:Addr} {vl vu:Value} {lo hi:Option Int} {n:Nat} {Q:Int × Int × Nat->Shared->Prop} (hs:s.heap.IsSliceOf sl vl vu .none) (pl:IsPart vl lo) (pu:IsPart vu hi)
  (h:Q (((sIx n 0 lo:Nat):Int),1,sIx n n hi - sIx n 0 lo) s):wpAny (model prog w) A (Builtin.Slice.sliceApplied (.ref sl) (pure (n:Int))) Q E s:=by
 obtain ⟨os,hos,hcs,hds⟩:=id hs
 unfold Builtin.Slice.sliceApplied Builtin.Slice.sliceFields
 refine wpAny_bind (wpAny_bind (wpAny_field hos hds (x:=vl) rfl (wpAny_bind (wpAny_field hos hds (x:=vu) rfl (wpAny_bind (wpAny_field hos hds (x:=.none) rfl (wpAny_pure ?_)))))))
 refine wpAny_bind (slicePart_none ?_)
 show wpAny _ _ (if ((1:Int)==0)=true then _ else _) _ _ s
 rw [if_neg (by decide)]
 refine wpAny_bind (tT pl (wpAny_bind (tT pu (wpAny_bind (wpAny_pure ?_)))))
 show wpAny _ _ (match Builtin.Slice.sliceAdjust lo hi 1 (n:Int) with|(lo,hi)=>pure (lo,(1:Int),Builtin.Slice.slicePlaces lo hi 1)) _ _ s
 rw [Bv lo hi n]
 show wpAny _ _ (pure (((sIx n 0 lo:Nat):Int),(1:Int),Builtin.Slice.slicePlaces ((sIx n 0 lo:Nat):Int) ((sIx n n hi:Nat):Int) 1)) _ _ s
 rw [CF]
 exact wpAny_pure h
theorem yp (xs:Array Value) (i k:Nat):((List.range k).filterMap fun (m:Nat)=>xs[((i:Int)+(m:Int) * 1).toNat]?).toArray=((xs.toList.drop i).take k).toArray:=by
 have e:(fun (m:Nat)=>xs[((i:Int)+(m:Int) * 1).toNat]?)=fun m=>xs[i+m]?:=by
  funext m
  have:((i:Int)+(m:Int) * 1).toNat=i+m:=by omega
  rw [this]
 rw [e]
 have:=pick_run xs i k
 rw [List.filterMap_map] at this
 have e2:((fun x=>xs[x]?) ∘ fun x=>i+x)=fun m=>xs[i+m]?:=rfl
 rw [e2] at this
 rw [this]
theorem EX {t sl:Addr} {items:Array Value} {vl vu:Value} {lo hi:Option Int} {Q:Value->Shared->Prop} (ht:IsTup s.heap t items) (hs:s.heap.IsSliceOf sl vl vu .none) (pl:IsPart vl lo) (pu:IsPart vu hi)
  (hw:¬ (sIx items.size 0 lo=0/\sIx items.size items.size hi=items.size))
  (h:Q (.ref s.heap.objs.size) { s with heap:=s.heap.push { cls:=.type "tuple",data:=.seq ((items.toList.drop (sIx items.size 0 lo)).take (sIx items.size items.size hi - sIx items.size 0 lo)).toArray } })
  (hsz:items.size<=sizeLine):wpAny (model prog w) A (getItem (.ref t) (.ref sl)) Q E s:=by
 have htake:sizeOk (.seq ((items.toList.drop (sIx items.size 0 lo)).take (sIx items.size items.size hi - sIx items.size 0 lo)).toArray):=by
  show ((items.toList.drop (sIx items.size 0 lo)).take (sIx items.size items.size hi - sIx items.size 0 lo)).toArray.size<=sizeLine
  rw [List.size_toArray,List.length_take,List.length_drop,Array.length_toList]
  omega
 have hj:sIx items.size items.size hi<=items.size:=A4 _ _ (Nat.le_refl _) hi
 obtain ⟨os,hos,hcs,hds⟩:=id hs
 have hTs:s.TypeIs (.ref sl) "slice":=⟨os,hos,hcs⟩
 unfold getItem
 try with_reducible refine wpAny_holding ?_
 first|refine wpAny_bind (wpAny_pure ?_)|skip
 refine wpAny_bind (wpAny_sequenceKey ht.typeIs (by decide) ?_)
 refine wpAny_bind (wpAny_callSpecial?_slot (name:=Str.ofString "__getitem__") ht.typeIs PyProof.Rows.slot_tuple_getitem
  (wpAny_call_entry PyProof.Rows.slot_tuple_getitem ht.typeIs entry_tuple_getitem ?_ (args_tuple_getitem _ _)))
 show wpAny _ _ (Builtin.Tuple.tupleItemsOf (.ref t)>>=_) _ _ s
 refine wpAny_bind (tupleItemsOf_ ht ?_)
 refine wpAny_bind (wpAny_typeOf hTs ?_)
 rw [if_pos (by decide)]
 refine wpAny_bind (sD hs pl pu ?_)
 have hno:¬ ((((sIx items.size 0 lo:Nat):Int)==0&&(1:Int)==1&&(sIx items.size items.size hi - sIx items.size 0 lo)==items.size)=true):=by
  intro q
  rw [Bool.and_eq_true,Bool.and_eq_true] at q
  have q1:((sIx items.size 0 lo:Nat):Int)=0:=eq_of_beq q.1.1
  have q2:sIx items.size items.size hi - sIx items.size 0 lo=items.size:=eq_of_beq q.2
  exact hw ⟨by omega,by omega⟩
 show wpAny _ _ (if (((sIx items.size 0 lo:Nat):Int)==0&&(1:Int)==1&&(sIx items.size items.size hi - sIx items.size 0 lo)==items.size)=true then _ else _) _ _ s
 rw [if_neg hno,yp]
 first
  | exact wpAny_bind (m:=Builtin.Tuple.tupleExact _) (wpAny_newObj_type (wpAny_pure ⟨_,rfl,wpAny_pure h⟩) htake)
  | exact wpAny_bind (m:=Builtin.Tuple.tupleExact _) (wpAny_newObj_type (wpAny_bind (wpAny_pure (wpAny_pure ⟨_,rfl,wpAny_pure h⟩))) htake)
  | exact wpAny_bind (wpAny_bind (m:=Builtin.Tuple.tupleExact _) (wpAny_newObj_type (wpAny_pure (wpAny_pure ⟨_,rfl,wpAny_pure h⟩)) htake))
  | exact wpAny_bind (wpAny_bind (m:=Builtin.Tuple.tupleExact _) (wpAny_newObj_type (wpAny_pure ⟨_,rfl,wpAny_pure h⟩) htake))
end
end HT
namespace L2
open PySem PySem.Spec PyProof.Rows
abbrev TO:=St->Hp->(Option Int->Hp->Prop)->Prop
noncomputable def PO (X:Cx) (e:Option Expr) (t:TO):Prop :=
 ∀ (pins:List (Addr × Obj)) (s:Shared) (σ:St) (H:Hp) (Q:Option Int->Hp->Prop),Inv X pins σ H s->t σ H Q ->
  wpAny (model X.prog X.w) X.A (evalPart e X.env) (fun u s'=>∃ o H',Inv X pins σ H' s'/\IsPart u o/\Q o H') X.xe s
noncomputable def vR:TO:=fun _ H Q=>Q none H
noncomputable def E3 (t:TE):TO:=fun σ H Q=>t σ H fun x H1=>∃ i,x=.int i/\Q (some i) H1
section
variable {X:Cx} {e:Expr} {te:TE} {lo hi:Option Expr} {tl th:TO} {pos p2:Pos}
theorem lE:PO X none vR:=by
 intro pins s σ H Q I h
 rw [evalPart_none]
 exact wpAny_pure ⟨none,H,I,.none,h⟩
theorem oz (h:PE X e te):PO X (some e) (E3 te):=by
 intro pins s σ H Q I hw
 rw [evalPart_some]
 refine thn (h pins s σ H _ I hw) fun u s1 ⟨x,H1,I1,r1,q1⟩=>?_
 obtain ⟨i,rfl,q⟩:=q1
 obtain ⟨t,rfl⟩:=r1
 exact ⟨some i,H1,I1,.int i t,q⟩
noncomputable def SlR (X:Cx) (r:V->Option Int->Option Int->Hp->VK->Prop):Prop :=
 ∀ (pins:List (Addr × Obj)) (s:Shared) (σ:St) (H:Hp) (x:V) (v vl vu:Value) (lo hi:Option Int) (sl:Addr) (Q:VK),Inv X pins σ H s->RelV x v->s.heap.IsSliceOf sl vl vu .none->IsPart vl lo->IsPart vu hi->r x lo hi H Q ->
  ∃ T id,typeLookup (.type T) "__getitem__" = pure (some (.builtin id))/\s.TypeIs v T/\wpAny (model X.prog X.w) X.A (getItem v (.ref sl)) (EP X pins σ Q) X.xe s
noncomputable def tSl (r:V->Option Int->Option Int->Hp->VK->Prop) (te:TE) (tl th:TO):TE:=fun σ H Q=>te σ H fun x H1=>tl σ H1 fun l H2=>th σ H2 fun u H3=>r x l u H3 Q
theorem lJ {r:V->Option Int->Option Int->Hp->VK->Prop} (hr:SlR X r) (he:PE X e te) (hl:PO X lo tl) (hu:PO X hi th):PE X (.Subscript e (.Slice lo hi none p2) pos) (tSl r te tl th):=by
 intro pins s σ H Q I h
 refine Subscript_ (thn (he pins s σ H _ I h) fun v s1 ⟨x,H1,I1,r1,q1⟩=>?_)
 refine wpAny_Slice (thn (hl pins s1 σ H1 _ I1 q1) fun vl s2 ⟨l,H2,I2,pl,q2⟩=>thn (hu pins s2 σ H2 _ I2 q2) fun vu s3 ⟨u,H3,I3,pu,q3⟩=>?_)
 rw [evalPart_none]
 refine wpAny_pure ?_
 have I4:Inv X pins σ H3 { s3 with heap:=s3.heap.push { cls:=.type "slice",data:=.fields #[vl,vu,.none] } }:=I3.kept (t':=s3.toks) fun b ob q=>Heap.get?_push_of_some _ q
 obtain ⟨T,id,hT,ht,hg⟩:=hr pins { s3 with heap:=s3.heap.push { cls:=.type "slice",data:=.fields #[vl,vu,.none] } } σ H3 x v vl vu l u s3.heap.objs.size Q I4 r1 (Heap.IsSliceOf.new ..) pl pu q3
 show wpAny (model X.prog X.w) X.A (subscriptTail e (.Slice lo hi none p2) v (.ref s3.heap.objs.size)) (EP X pins σ Q) X.xe { s3 with heap:=s3.heap.push { cls:=.type "slice",data:=.fields #[vl,vu,.none] } }
 exact tail_any (ops:=[.ref s3.heap.objs.size,v]) ht hT hg (by with_unfolding_all rfl)
noncomputable def d7 (xs:List V) (lo hi:Option Int):List V:=(xs.drop (HT.sIx xs.length 0 lo)).take (HT.sIx xs.length xs.length hi - HT.sIx xs.length 0 lo)
theorem qd (xs:List V) (lo hi:Option Int):(d7 xs lo hi).length<=xs.length:=by
 unfold d7
 rw [List.length_take,List.length_drop]
 omega
noncomputable def AS (K:PySem.W.Frag):V->Option Int->Option Int->Hp->VK->Prop:=fun x lo hi H Q=>∃ a xs,x=.ref a/\SqT K H a xs /\
 ¬ (HT.sIx xs.length 0 lo=0/\HT.sIx xs.length xs.length hi=xs.length)/\∀ p,H p=none->Q (.ref p) (upd H p (.tup (d7 xs lo hi)))
theorem Ft:SlR X (AS X.K):=by
 intro pins s σ H x v vl vu lo hi sl Q I rx hs pl pu h
 obtain ⟨a,xs,rfl,hx,hw,q⟩:=h
 cases rx
 obtain ⟨its,r,ht,hz⟩:=I.tuple hx
 have hlen:its.toArray.size=xs.length:=by rw [List.size_toArray]; exact r.length.symm
 refine ⟨"tuple",_,PyProof.Rows.slot_tuple_getitem.lookup,ht.typeIs,?_⟩
 refine HT.EX ht hs pl pu (by rw [hlen]; exact hw) ?_ (by rw [hlen]; exact hz)
 rw [hlen]
 refine ⟨.ref s.heap.objs.size,_,I.laid (t':=s.toks) (o:=.tup (d7 xs lo hi)) (fun b ob q=>Heap.get?_push_of_some _ q) (Nat.le_refl _) ?_,rfl,q _ (I.hok.fresh (Nat.le_refl _))⟩
 exact ⟨Nat.le_trans (qd xs lo hi) hz,_,(r.drop (HT.sIx xs.length 0 lo)).take (HT.sIx xs.length xs.length hi - HT.sIx xs.length 0 lo),IsTup.new _ _⟩
noncomputable def ym (K:PySem.W.Frag):R2:=fun x y H Q=>∃ a b xs ys,x=.ref a/\y=.ref b/\SqT K H a xs/\SqT K H b ys/\xs≠[]/\xs.length+ys.length<=sizeLine /\
 (ys=[]->Q (.ref a) H)/\(ys≠[]->∀ p,H p=none->Q (.ref p) (upd H p (.tup (xs++ys))))
theorem Vals.lR {xs:List V} {us:List Value} (r:Vals xs us):us=[] ↔ xs=[]:=by
 cases r with
 | nil=>simp
 | cons _ _=>simp
theorem vK:OpR X (binaryOp .Add) (ym X.K):=by
 intro pins s σ H x y v u Q I rx ry h
 obtain ⟨a,b,xs,ys,rfl,rfl,ha,hb,hx,hz,q1,q2⟩:=h
 cases rx
 cases ry
 obtain ⟨its,r1,p1,_⟩:=I.tuple ha
 obtain ⟨its2,r2,p2,_⟩:=I.tuple hb
 refine HT.yF p1 p2 (fun z=>hx (r1.lR.mp z)) (fun z=>⟨.ref a,H,I,rfl,q1 (r2.lR.mp z)⟩) (fun z=>?_) (by rw [<- r1.length,<- r2.length]; exact hz)
 refine ⟨.ref s.heap.objs.size,_,I.laid (t':=s.toks) (o:=.tup (xs++ys)) (fun b ob q=>Heap.get?_push_of_some _ q) (Nat.le_refl _) ?_,rfl,q2 (fun w=>z (r2.lR.mpr w)) _ (I.hok.fresh (Nat.le_refl _))⟩
 exact ⟨by rw [List.length_append]; exact hz,_,r1.append r2,IsTup.new _ _⟩
end
end L2
namespace L2
open PySem PySem.Spec PyProof.Rows
noncomputable def ixN (n:Nat) (i:Int):Option Nat:=if 0<=i then (if i < n then some i.toNat else none) else if -(n:Int)<=i then some (i+n).toNat else none
noncomputable def atI {α:Type} (xs:List α) (i:Int):Option α:=(ixN xs.length i).bind fun j=>xs[j]?
theorem AI {n:Nat} {i:Int} {j:Nat} (h:ixN n i=some j):seqIndex? i n=some j/\j < n/\-(n:Int)<=i/\i < n:=by
 unfold ixN at h
 by_cases h0:0<=i
 ·rw [if_pos h0] at h
  by_cases h1:i < n
  ·rw [if_pos h1] at h
   have e:i.toNat=j:=Option.some.inj h
   exact ⟨by rw [seqIndex_of h0 h1,e],by omega,by omega,h1⟩
  ·rw [if_neg h1] at h; cases h
 ·rw [if_neg h0] at h
  by_cases h1:-(n:Int)<=i
  ·rw [if_pos h1] at h
   have e:(i+n).toNat=j:=Option.some.inj h
   exact ⟨by rw [seqIndex_neg (by omega) h1,e],by omega,h1,by omega⟩
  ·rw [if_neg h1] at h; cases h
theorem mX {α:Type} {xs:List α} {i:Int} {v:α} (h:atI xs i=some v):∃ j,seqIndex? i xs.length=some j/\xs[j]?=some v/\j < xs.length/\-(xs.length:Int)<=i/\i < xs.length:=by
 unfold atI at h
 cases e:ixN xs.length i with
 | none=>rw [e] at h; cases h
 | some j =>
  rw [e] at h
  obtain ⟨h1,h2,h3,h4⟩:=AI e
  exact ⟨j,h1,h,h2,h3,h4⟩
noncomputable def kE (b:Expr):Prop:=∀ o i,subscripted b false o i=operate [o,i] (getItem o i)
noncomputable def IxR (X:Cx) (r:R2):Prop :=
 ∀ (value slice:Expr) (pins:List (Addr × Obj)) (s:Shared) (σ:St) (H:Hp) (x y:V) (v u:Value) (Q:VK),Inv X pins σ H s->RelV x v->RelV y u->r x y H Q ->
  subscripted slice false v u=operate [v,u] (getItem v u)->wpAny (model X.prog X.w) X.A (subscriptTail value slice v u) (EP X pins σ Q) X.xe s
noncomputable def MtR (X:Cx) (id:String) (r:V->List V->Hp->VK->Prop):Prop :=
 ∀ (pins:List (Addr × Obj)) (s:Shared) (σ:St) (H:Hp) (x:V) (xs:List V) (v:Value) (us:List Value) (Q:VK),Inv X pins σ H s->RelV x v->Vals xs us->r x xs H Q ->
  wpAny (model X.prog X.w) X.A (call (.builtin id) (v::us)) (EP X pins σ Q) X.xe s
section
variable {X:Cx} {a b:Expr} {ta tb:TE} {pos:Pos}
theorem pK {r:R2} (hr:IxR X r) (ha:PE X a ta) (hb:PE X b tb) (hs:kE b):PE X (.Subscript a b pos) (tOp r ta tb):=by
 intro pins s σ H Q I h
 exact Subscript_ (mD ha hb I h fun v u s2 x y H2 I2 rx ry q=>hr a b pins s2 σ H2 x y v u Q I2 rx ry q (hs _ _))
noncomputable def Fw (K:PySem.W.Frag):R2:=fun x y H Q=>∃ p xs i v,x=.ref p/\y=.int i/\SqL K H p xs/\atI xs i=some v/\Q v H
noncomputable def zY (K:PySem.W.Frag):R2:=fun x y H Q=>∃ p xs i v,x=.ref p/\y=.int i/\SqT K H p xs/\atI xs i=some v/\Q v H
noncomputable def w_:R2:=fun x y H Q=>∃ z i c,x=.str z/\y=.int i/\z.length<=sizeLine/\atI z.cps.toList i=some c/\Q (.str ⟨#[c]⟩) H
theorem Ed:IxR X (Fw X.K):=by
 intro value slice pins s σ H x y v u Q I rx ry h hs
 obtain ⟨p,xs,i,z,rfl,rfl,hq,he,q⟩:=h
 cases rx
 obtain ⟨t,rfl⟩:=ry
 obtain ⟨its,r,pl,hz⟩:=I.list hq
 obtain ⟨j,h1,h2,h3,h4,h5⟩:=mX he
 obtain ⟨w,ew,rw'⟩:=r.get h2
 have hl:=r.length
 have hn:=gQ
 have fin:EP X pins σ Q w s:=⟨z,H,I,rw',q⟩
 by_cases h0:0<=i
 ·have hj:i.toNat=j:=by
   rw [seqIndex_of h0 h5] at h1
   exact Option.some.inj h1
  exact item_listR pl.isList h0 (by omega) (by rw [hj]; simpa using ew) fin hs
 ·have hj:(i+(its.toArray.size:Int)).toNat=j:=by
   rw [seqIndex_neg (by omega) h4] at h1
   rw [List.size_toArray,<- hl]
   exact Option.some.inj h1
  exact subscriptTail_builtinR (x:=w) pl.isList.typeIs slot_list_getitem.lookup
   (wpAny_getItem_list_neg (Q:=fun r s'=>r=w/\EP X pins σ Q r s') pl.isList (by omega) (by rw [List.size_toArray] <;> omega) (by omega) (by rw [hj]; simpa using ew) ⟨rfl,fin⟩) hs
theorem xR:IxR X (zY X.K):=by
 intro value slice pins s σ H x y v u Q I rx ry h hs
 obtain ⟨p,xs,i,z,rfl,rfl,hq,he,q⟩:=h
 cases rx
 obtain ⟨t,rfl⟩:=ry
 obtain ⟨its,r,pl,hz⟩:=I.tuple hq
 obtain ⟨j,h1,h2,h3,h4,h5⟩:=mX he
 obtain ⟨w,ew,rw'⟩:=r.get h2
 have hl:=r.length
 have hn:=gQ
 have fin:EP X pins σ Q w s:=⟨z,H,I,rw',q⟩
 exact subscriptTail_builtinR (x:=w) pl.typeIs slot_tuple_getitem.lookup
  (getItem_tuple (j:=j) (Q:=fun r s'=>r=w/\EP X pins σ Q r s') pl (by omega) (by omega) (by rw [List.size_toArray,<- hl]; exact h1) (by simpa using ew) ⟨rfl,fin⟩) hs
theorem AY:IxR X w_:=by
 intro value slice pins s σ H x y v u Q I rx ry h hs
 obtain ⟨z,i,c,rfl,rfl,hz,he,q⟩:=h
 obtain ⟨t,rfl⟩:=rx
 obtain ⟨t',rfl⟩:=ry
 obtain ⟨j,h1,h2,h3,h4,h5⟩:=mX he
 have hl:z.cps.toList.length=z.length:=by simp [Str.length]
 rw [hl] at h1 h4 h5
 have hn:=gQ
 exact tail_any (typeIs_str s z t) slot_str_getitem.lookup (getItem_str (c:=c) (by
  have e1:decide (i < -(2 ^ 63:Int))=false:=decide_eq_false (by omega)
  have e2:decide (i ≥ 2 ^ 63)=false:=decide_eq_false (by omega)
  rw [e1,e2,Bool.or_false]) (by rw [h1]; simpa using h2) ⟨.str ⟨#[c]⟩,H,I.tok _,⟨_,rfl⟩,q⟩) hs
theorem Ao (lo hi:Option Int) (n:Nat):(sliceBounds lo hi none n).1=((HT.sIx n 0 lo:Nat):Int)/\(sliceBounds lo hi none n).2.1=((HT.sIx n n hi:Nat):Int)/\(sliceBounds lo hi none n).2.2=1:=by
 refine ⟨?_,?_,rfl⟩
 ·cases lo with
  | none=>simp [sliceBounds,HT.sIx]
  | some i =>
   simp only [sliceBounds,HT.sIx,Option.getD_none,show (1:Int) > 0 by decide,if_true]
   by_cases h:i < 0
   ·simp only [h,if_true] <;> omega
   ·simp only [h,if_false] <;> omega
 ·cases hi with
  | none=>simp [sliceBounds,HT.sIx]
  | some i =>
   simp only [sliceBounds,HT.sIx,Option.getD_none,show (1:Int) > 0 by decide,if_true]
   by_cases h:i < 0
   ·simp only [h,if_true] <;> omega
   ·simp only [h,if_false] <;> omega
theorem BO (its:List Value) (lo hi:Option Int):slicePick its.toArray lo hi none=((its.drop (HT.sIx its.length 0 lo)).take (HT.sIx its.length its.length hi - HT.sIx its.length 0 lo)).toArray:=by
 obtain ⟨h1,h2,h3⟩:=Ao lo hi its.toArray.size
 unfold slicePick
 rw [h1,h2,h3]
 simp only [sliceRange_one,pick_run,List.size_toArray] <;> rfl
noncomputable def D8 (K:PySem.W.Frag):V->Option Int->Option Int->Hp->VK->Prop:=fun x lo hi H Q=>∃ a xs,x=.ref a/\SqL K H a xs/\∀ p,H p=none->Q (.ref p) (upd H p (.lst (d7 xs lo hi)))
theorem rL:SlR X (D8 X.K):=by
 intro pins s σ H x v vl vu lo hi sl Q I rx hs pl pu h
 obtain ⟨a,xs,rfl,hx,q⟩:=h
 cases rx
 obtain ⟨its,r,ht,hz⟩:=I.list hx
 have hlen:=r.length
 refine ⟨"list",_,slot_list_getitem.lookup,ht.isList.typeIs,?_⟩
 refine wpAny_getItem_list_slice ht.isList hs pl pu .none (by simp) ?_ (by rw [List.size_toArray] <;> omega)
 rw [BO,<- hlen]
 refine ⟨.ref s.heap.objs.size,_,I.laid (t':=s.toks) (o:=.lst (d7 xs lo hi)) (fun b ob q=>Heap.get?_push_of_some _ q) (Nat.le_refl _) ?_,rfl,q _ (I.hok.fresh (Nat.le_refl _))⟩
 exact ⟨Nat.le_trans (qd xs lo hi) hz,_,0,(r.drop (HT.sIx xs.length 0 lo)).take (HT.sIx xs.length xs.length hi - HT.sIx xs.length 0 lo),Heap.get?_push_size _ rfl⟩
noncomputable def xJ:V->Bool
 | .non=>true
 | .bl _=>true
 | .int _=>true
 | .str _=>true
 | _=>false
theorem yw:b_ X (.builtin "len") (fun xs H Q=>∃ p ys,xs=[.ref p]/\(SqL X.K H p ys\/SqT X.K H p ys)/\Q (.int ys.length) H):=by
 intro pins s σ H xs us Q I r h
 obtain ⟨p,ys,rfl,hq,q⟩:=h
 obtain ⟨u,rfl,rx⟩:=vals1 r
 cases rx
 have hn:=gQ
 rcases hq with hq|hq
 ·obtain ⟨its,r',pl,hz⟩:=I.list hq
  have hlen:=r'.length
  exact Calls.call_len_list pl.isList (by simp only [List.size_toArray] <;> omega) ⟨.int ys.length,H,I.tok _,⟨s.toks+1,by rw [List.size_toArray,hlen]⟩,q⟩
 ·obtain ⟨its,r',pl,hz⟩:=I.tuple hq
  have hlen:=r'.length
  exact len_tuple pl (by simp only [List.size_toArray] <;> omega) ⟨.int ys.length,H,I.tok _,⟨s.toks+1,by rw [List.size_toArray,hlen]⟩,q⟩
theorem Et:b_ X (.builtin "len") (fun xs H Q=>∃ z,xs=[.str z]/\z.length<=sizeLine/\Q (.int z.length) H):=by
 intro pins s σ H xs us Q I r h
 obtain ⟨z,rfl,hz,q⟩:=h
 obtain ⟨u,rfl,t,rfl⟩:=vals1 r
 have hn:=gQ
 exact len_str (by omega) ⟨.int z.length,H,I.tok _,⟨_,rfl⟩,q⟩
theorem Dm:b_ X (.type "list") (fun xs H Q=>∃ p ys,xs=[.ref p]/\(SqL X.K H p ys\/SqT X.K H p ys)/\∀ l,H l=none->Q (.ref l) (upd H l (.lst ys))):=by
 intro pins s σ H xs us Q I r h
 obtain ⟨p,ys,rfl,hq,q⟩:=h
 obtain ⟨u,rfl,rx⟩:=vals1 r
 cases rx
 have fin:∀ (its:List Value),Vals ys its->ys.length<=sizeLine->∀ (h':Heap) (c':Nat),(∀ b o',s.heap.get? b=some o'->h'.get? b=some o') ->
   h'.get? s.heap.objs.size=some { cls:=.type "list",dict:=none,data:=.seq its.toArray c',slots:=#[] }->EP X pins σ Q (.ref s.heap.objs.size) { s with heap:=h' }:=fun its r' hz h' c' kp e =>
  ⟨.ref s.heap.objs.size,_,I.laid (t':=s.toks) kp (Nat.le_refl _) (show cB X.prog X.w _ h' _ (.lst ys) from ⟨hz,its,c',r',e⟩),rfl,q _ (I.hok.fresh (Nat.le_refl _))⟩
 rcases hq with hq|hq
 ·obtain ⟨its,r',pl,hz⟩:=I.list hq
  have hlen:=r'.length
  obtain ⟨o,ho,hc,n,hd⟩:=pl.isList
  exact call_list_seq p (.inl rfl) ho hc hd (fun h' c' kp e=>fin its r' hz h' c' kp e) (by simp only [List.size_toArray] <;> omega)
 ·obtain ⟨its,r',pl,hz⟩:=I.tuple hq
  have hlen:=r'.length
  obtain ⟨o,ho,hc,n,hd⟩:=pl
  exact call_list_seq p (.inr rfl) ho hc hd (fun h' c' kp e=>fin its r' hz h' c' kp e) (by simp only [List.size_toArray] <;> omega)
theorem nA:b_ X (.type "tuple") (fun xs H Q=>∃ p ys,xs=[.ref p]/\((SqL X.K H p ys/\∀ l,H l=none->Q (.ref l) (upd H l (.tup ys)))\/(SqT X.K H p ys/\Q (.ref p) H))):=by
 intro pins s σ H xs us Q I r h
 obtain ⟨p,ys,rfl,h⟩:=h
 obtain ⟨u,rfl,rx⟩:=vals1 r
 cases rx
 rcases h with ⟨hq,q⟩|⟨hq,q⟩
 ·obtain ⟨its,r',pl,hz⟩:=I.list hq
  have hlen:=r'.length
  refine call_tuple_list pl.isList (fun h' kp=>?_) (by simp only [List.size_toArray] <;> omega)
  have I1:Inv X pins σ H { s with heap:=h' }:=I.kept (t':=s.toks) kp
  have I2:Inv X pins σ (upd H h'.objs.size (.tup ys)) { s with heap:=h'.push { cls:=.type "tuple",data:=.seq its.toArray } } :=
   I1.laid (t':=s.toks) (fun b o e=>Heap.get?_push_of_some _ e) (Nat.le_refl _) (show cB X.prog X.w _ _ _ (.tup ys) from ⟨hz,its,r',IsTup.new _ _⟩)
  exact ⟨.ref h'.objs.size,_,I2,rfl,q _ (I1.hok.fresh (Nat.le_refl _))⟩
 ·obtain ⟨its,r',pl,hz⟩:=I.tuple hq
  exact call_tuple_same pl ⟨.ref p,H,I,rfl,q⟩
noncomputable def tyV (K:PySem.W.Frag) (T:String) (x:V) (H:Hp):Prop:=match x with
 | .str _=>T = "str"
 | .int _=>T = "int"
 | .ref p=>(T = "list"/\∃ xs,SqL K H p xs)\/(T = "tuple"/\∃ o,K.lookup p=some o/\o.cls=.type "tuple"/\o.dict=none) \/
   (T = "dict"/\((∃ kvs,H p=some (.dK kvs))\/∃ kvs,H p=some (.dT kvs)))\/(T = "set"/\∃ S n,H p=some (.set S n))
 | _=>False
theorem Fb {pins:List (Addr × Obj)} {σ:St} {H:Hp} {s:Shared} {T:String} {x:V} {v:Value} (I:Inv X pins σ H s) (r:RelV x v) (ty:tyV X.K T x H) :
  s.TypeIs v T/\∀ a,v=.ref a->∃ ob,s.heap.get? a=some ob/\ob.dict=none:=by
 cases x with
 | str z =>
  obtain ⟨t,rfl⟩:=r
  cases (show T = "str" from ty)
  exact ⟨typeIs_str s z t,fun _ e=>nomatch e⟩
 | int i =>
  obtain ⟨t,rfl⟩:=r
  cases (show T = "int" from ty)
  exact ⟨typeIs_int s i t,fun _ e=>nomatch e⟩
 | ref p =>
  cases r
  rcases ty with ⟨rfl,xs,hq⟩|⟨rfl,o,hk,hc,hd⟩|⟨rfl,hk⟩|⟨rfl,S,n,hk⟩
  ·obtain ⟨its,_,pl,_⟩:=I.list hq
   refine ⟨pl.isList.typeIs,fun a e=>?_⟩
   cases e
   obtain ⟨o,n,e,c,hd,_⟩:=pl
   exact ⟨o,e,hd⟩
  ·refine ⟨⟨o,I.kIn p o hk,hc⟩,fun a e=>?_⟩
   cases e
   exact ⟨o,I.kIn _ o hk,hd⟩
  ·have z:∃ o,s.heap.get? p=some o/\o.ExactDict:=by
    rcases hk with ⟨kvs,hk⟩|⟨kvs,hk⟩
    ·obtain ⟨_,_,_,_,o,_,_,e,ex,_⟩:=I.hok p _ hk
     exact ⟨o,e,ex⟩
    ·obtain ⟨_,_,_,_,o,_,_,e,ex,_⟩:=I.hok p _ hk
     exact ⟨o,e,ex⟩
   obtain ⟨o,e,ex⟩:=z
   refine ⟨⟨o,e,ex.1⟩,fun a e2=>?_⟩
   cases e2
   exact ⟨o,e,ex.2.1⟩
  ·obtain ⟨o,_,_,_,e,ex,_⟩:=I.hok p _ hk
   refine ⟨⟨o,e,ex.1⟩,fun a e2=>?_⟩
   cases e2
   exact ⟨o,e,ex.2.1⟩
 | _=>exact False.elim ty
noncomputable def tBM (K:PySem.W.Frag) (T:String) (r:V->List V->Hp->VK->Prop) (to:TE) (t:TA):TE:=fun σ H Q=>to σ H fun x H1=>tyV K T x H1/\t σ H1 fun xs H2=>r x xs H2 Q
variable {o e:Expr} {es:List Expr} {to:TE} {t:TA} {name:Str} {apos cpos:Pos} {T id:String} {r:V->List V->Hp->VK->Prop}
theorem rf (pa:PlainAttrs T) (slot:Slot T name id) (hty:typeOf (.builtin id)=pure (.type "method_descriptor")) (hm:MtR X id r) (ho:PE X o to) (ha:PA X (e::es) t)
  (hbase:attributeBase o name X.env (eval o X.env)=eval o X.env:=by rfl)
  (hfew:((backTo cpos (starEach (e::es) X.env)).all (fun x=>!x.1)&&(backToKw cpos (keywordEach [] X.env)).all (fun x=>x.1.isSome)
  &&decide ((e::es).length+([]:List Keyword).length+(if ([]:List Keyword).isEmpty then 0 else 1) < 30))=true:=by rfl)
  (hline:(apos.endLine==cpos.line)=true:=by rfl) (hs:starEach (e::es) X.env=(false,eval e X.env)::starEach es X.env:=by rfl) (hplain:(backTo cpos (starEach es X.env)).any (·.1)=false:=by rfl) :
  PE X (.Call (.Attribute o name apos) (e::es) [] cpos) (tBM X.K T r to t):=by
 intro pins s σ H Q I h
 refine wpAny_Call_method_late hbase hfew hline rfl (thn (ho pins s σ H _ I h) fun v s1 ⟨x,H1,I1,r1,ty,q1⟩=>?_)
 obtain ⟨h1,h2⟩:=Fb I1 r1 ty
 refine ⟨T,id,pa,slot,hty,h1,h2,?_⟩
 have hA:=ha cpos pins s1 σ H1 _ I1 q1
 rw [hs] at hA ⊢
 refine Calls.callWith_builtin (by show (false||(backTo cpos (starEach es X.env)).any (·.1))=false; rw [hplain] <;> rfl) (Calls.evalArgs_plain ?_)
 exact thn hA fun us s2 ⟨vs,H2,I2,r2,q2⟩=>hm pins s2 σ H2 x vs v us Q I2 r1 r2 q2
/- xs.append(e),list.index on a module's tuple .. are MtR facts of 06m -/
end
end L2
namespace L2
open PySem PySem.Spec PyProof.Rows
noncomputable def MtM (X:Cx) (id:String) (r:V->List V->Hp->VK->Prop):Prop :=
 ∀ (pins:List (Addr × Obj)) (s:Shared) (σ:St) (H:Hp) (x:V) (xs:List V) (v:Value) (us:List Value) (Q:VK),Inv X pins σ H s->RelV x v->Vals xs us->r x xs H Q ->
  wpAny (model X.prog X.w) X.A (call (.builtin id) (v::us)) (EP X pins σ Q) X.xe s
theorem Vals.one:∀ {x:V} {us:List Value},Vals [x] us->∃ u,us=[u]/\RelV x u
 | _,_,.cons r .nil=>⟨_,rfl,r⟩
theorem Vals.two:∀ {x y:V} {us:List Value},Vals [x,y] us->∃ u v,us=[u,v]/\RelV x u/\RelV y v
 | _,_,_,.cons r (.cons q .nil)=>⟨_,_,rfl,r,q⟩
section
variable {X:Cx} {pins:List (Addr × Obj)} {σ:St} {H:Hp} {s:Shared} {l b:Addr} {xs ys zs:List V}
theorem Inv.pQ {its its':List Value} {n:Nat} {f:Array Value->Array Value} {t':Nat} (I:Inv X pins σ H s) (hH:H l=some (.lst xs))
  (e:s.heap.get? l=some { cls:=.type "list",data:=.seq its.toArray n }) (hf:f its.toArray=its'.toArray) (hv:Vals ys its') (hz:ys.length<=sizeLine) :
  Inv X pins σ (upd H l (.lst ys)) { s with heap:=s.heap.update l (Obj.mapSeq f),toks:=t' }:=by
 have q:=PySem.IsL.update e f
 rw [hf] at q
 refine I.write (x:=l) (e:=l) (by rw [hH]; exact trivial) (.inl rfl) (fun b' u hb hu=>(Heap.get?_update_other s.heap (Obj.mapSeq f) (Ne.symm hb)).trans hu) ⟨_,q⟩ ?_
 exact ⟨hz,its',_,hv,q⟩
theorem Inv.Ek {its:List Value} {t':Nat} (I:Inv X pins σ H s) (hv:Vals ys its) (hz:ys.length<=sizeLine) :
  Inv X pins σ (upd H s.heap.objs.size (.lst ys)) { s with heap:=s.heap.push { cls:=.type "list",data:=.seq its.toArray },toks:=t' } :=
 I.laid (fun _ _ q=>Heap.get?_push_of_some _ q) (Nat.le_refl _) ⟨hz,its,0,hv,Heap.get?_push_size _ rfl⟩
theorem Inv.fresh (I:Inv X pins σ H s):H s.heap.objs.size=none:=I.hok.fresh (Nat.le_refl _)
theorem Inv.i9 (I:Inv X pins σ H s) (hH:H l=some (.lst xs)):xs.length<=sizeLine/\∃ (its:List Value) (n:Nat),Vals xs its/\xs.length=its.length/\s.heap.get? l=some { cls:=.type "list",data:=.seq its.toArray n }:=by
 obtain ⟨z,its,n,r,e⟩:=I.hok l _ hH
 exact ⟨z,its,n,r,r.length,e⟩
theorem BV {n:Nat} (h:n<=sizeLine):Builtin.List.listTooLong n=false:=by
 unfold Builtin.List.listTooLong
 exact decide_eq_false (by omega)
end
section
variable {X:Cx}
noncomputable def vE:V->List V->Hp->VK->Prop:=fun x vs H Q=>∃ l xs y,x=.ref l/\vs=[y]/\H l=some (.lst xs)/\xs.length < sizeLine/\Q .non (upd H l (.lst (xs++[y])))
theorem pF:MtM X "list.append" vE:=by
 intro pins s σ H x vs v us Q I rx rv h
 obtain ⟨l,xs,y,rfl,rfl,hH,hz,q⟩:=h
 cases rx
 obtain ⟨u,rfl,ru⟩:=rv.one
 obtain ⟨z,its,n,r,hl,e⟩:=I.i9 hH
 refine call_meets F.slot_list_append ⟨_,e,rfl⟩ F.entry_list_append (F.args_list_append_2 _ _) (PySem.list_append l its.toArray n u (by rw [List.size_toArray]; omega)) ⟨e,?_⟩
 refine ⟨.non,_,I.pQ (its':=its++[u]) hH e (by simp) (r.append (.cons ru .nil)) ?_,rfl,q⟩
 rw [List.length_append,List.length_singleton]
 omega
noncomputable def vW:V->List V->Hp->VK->Prop:=fun x vs H Q=>∃ l b xs zs,x=.ref l/\vs=[.ref b]/\H l=some (.lst xs)/\H b=some (.lst zs)/\xs.length+zs.length<=sizeLine/\Q .non (upd H l (.lst (xs++zs)))
theorem zQ:MtM X "list.extend" vW:=by
 intro pins s σ H x vs v us Q I rx rv h
 obtain ⟨l,b,xs,zs,rfl,rfl,hH,hB,hz,q⟩:=h
 cases rx
 obtain ⟨u,rfl,ru⟩:=rv.one
 cases ru
 obtain ⟨z,its,n,r,hl,e⟩:=I.i9 hH
 obtain ⟨z2,its2,n2,r2,hl2,e2⟩:=I.i9 hB
 have hsz:its.toArray.size+its2.toArray.size<=sizeLine:=by rw [List.size_toArray,List.size_toArray]; omega
 have hlong:¬ (!its.toArray.isEmpty&&Builtin.List.listTooLong (its.toArray.size+its2.toArray.size))=true:=by
  rw [BV hsz,Bool.and_false]
  exact Bool.false_ne_true
 refine call_meets F.slot_list_extend ⟨_,e,rfl⟩ F.entry_list_extend (F.args_list_extend_2 _ _)
  (AutoSeq1.list_extend_list_list_0 l its.toArray n b its2.toArray n2 hlong (by rw [List.size_toArray]; omega) (by omega)) ⟨e,e2,?_⟩
 refine ⟨.non,_,I.pQ (its':=its++its2) hH e (by simp) (r.append r2) ?_,rfl,q⟩
 rw [List.length_append]
 omega
noncomputable def xo:R2:=fun x y H Q=>∃ l b xs zs,x=.ref l/\y=.ref b/\H l=some (.lst xs)/\H b=some (.lst zs)/\xs.length+zs.length<=sizeLine/\∀ p,H p=none->Q (.ref p) (upd H p (.lst (xs++zs)))
theorem zz:OpR X (binaryOp .Add) xo:=by
 intro pins s σ H x y v u Q I rx ry h
 obtain ⟨l,b,xs,zs,rfl,rfl,hH,hB,hz,q⟩:=h
 cases rx
 cases ry
 obtain ⟨z,its,n,r,hl,e⟩:=I.i9 hH
 obtain ⟨z2,its2,n2,r2,hl2,e2⟩:=I.i9 hB
 refine PySem.P.add_list e e2 ?_ (by rw [List.size_toArray,List.size_toArray]; omega)
 have ea:its.toArray++its2.toArray=(its++its2).toArray:=by simp
 rw [ea]
 exact ⟨.ref _,_,I.Ek (t':=s.toks) (r.append r2) (by rw [List.length_append]; omega),rfl,q _ I.fresh⟩
end
section
variable {prog:Program} {w:World} {A:Around} {E:Value->Shared->Prop} {s:Shared}
end
section
variable {X:Cx}
end
end L2
namespace Att
open PySem PySem.W PySem.Calls PyProof.Rows
theorem yI {P:Params} {h:Heap}:∀ (ns:List Int) (vs:List Value),WellAll P h vs (ns.map WData.int)->IntsAre vs ns:=by
 intro ns
 induction ns with
 | nil =>
  intro vs w
  rw [List.map_nil] at w
  cases w
  exact .nil
 | cons n ns ih =>
  intro vs w
  rw [List.map_cons] at w
  cases w with
  | cons a b =>
   cases a
   exact .cons _ _ (ih _ b)
theorem DP {l:OpenLaw} {n:Nat} (hn:l.most=some n) {P:Params} {h:Heap} {args:List WData} {vals:List Value}
  (hpre:l.row.toRowW.claim.pre args=true) (hwl:WellAll P h vals args) :
  ∃ a vs ns,vals=[Value.ref a]/\args=[WData.list (ns.map WData.int)]/\h.get? a=some { cls:=.type "list",data:=.seq vs.toArray }/\IntsAre vs ns/\ns.length<=n:=by
 have hsh:WShape.hasAll [] args [.list .int]=true:=(pre_splitW hpre).1
 have hc:l.pre.holds [] { args:=args }=true:=(pre_splitW hpre).2
 obtain ⟨d,r,rfl,h1,h2⟩:=hasAllW_cons hsh
 obtain rfl:=hasAllW_nil h2
 obtain ⟨xs,rfl,h3⟩:=hasW_list h1
 obtain ⟨ns,rfl⟩:=items_int h3
 have hlen:ns.length<=n:=by
  unfold OpenLaw.pre at hc
  have h4:(WTm.not (.lt (.lit (.int (n:Int))) (.len (.arg 0)))).holds [] { args:=[.list (ns.map .int)] }=true:=by
   have h4:=(holds_andW hc).1
   rw [hn] at h4
   exact h4
  have h5:=condW_of h4 (w_not (w_lt w_lit (w_len_list (w_arg rfl))))
  rw [List.length_map] at h5
  refine Nat.le_of_not_lt fun q=>?_
  have q':(n:Int) < ((ns.length:Nat):Int):=by omega
  first
   | (rw [decide_eq_true q'] at h5; exact absurd h5 (by decide))
   | (simp at h5; omega)
 cases hwl with
 | cons w1 w2 =>
  cases w2
  cases w1 with
  | list ho hall=>exact ⟨_,_,ns,rfl,rfl,ho,yI ns _ hall,hlen⟩
theorem CI (l:OpenLaw) (args:List WData):l.row.toRowW.claim.post args (.bool true) args=true :=
 postW_of (r:=l.row.toRowW) (X:=(true==true))
  (show WShape.has [] (.bool true) .bool=true by first|rfl|decide|simp [WShape.has,WShape.arms,WShape.armsAll])
  (show (WTm.eq .res (.lit (.bool true))).value [] { args:=args,res:=some (.bool true),after:=args }=some (.bool (true==true)) from w_eq_bool (w_res rfl) w_lit) rfl
theorem vC {l:OpenLaw} {n:Nat} {q:Program} {loose:List Str} {XP:(Str->Option Value)->Heap->Prop} {YP:World->Heap->Prop} {d:DefRec}
  (hn:l.most=some n) (hdf:d.params.defaults=[])
  (call:∀ (w:World) (s₀ s₁:Shared) (mg mb:Str->Option Value) (fa:Addr) (o:Obj) (pm cd doc:Value) (a:Addr) (vs:List Value) (ns:List Int),
   Ground q loose [] XP w s₀ mg mb s₁.heap->YP w s₁.heap ->
   s₁.heap.get? fa=some o->o.data=.func (docDef d.name d.params d.body d.scope pm cd doc)->s₁.heap.CodeRec cd d.name->mg d.name=some (.ref fa) ->
   s₁.heap.get? a=some { cls:=.type "list",data:=.seq vs.toArray }->IntsAre vs ns->ns.length<=n->s₁.gens=#[] ->
   codeAny (model l.prog w) callerA (.call (.ref fa) ⟨[.ref a],[]⟩) (fun r s'=>r=.ok (.ret (.bool true))/\OldK s₁.heap s'.heap/\s'.os=s₁.os/\AllBare s'.gens) s₁) :
  WalkO q loose XP YP l.row.toRowW d [] (fun f vs=>PySem.call f vs):=by
 intro w s₀ s₁ mg mb G Y fa o pm cd doc dV kV ho hd hcd hD hmg hg args vals as hpre hlay hrd hwl hlo
 obtain rfl:dV=.none:=Dflts.none hD hdf
 obtain rfl:kV=.none:=Dflts.noKw hD
 obtain ⟨a,vs,ns,rfl,rfl,hobj,hints,hlen⟩:=DP hn hpre hwl
 refine enter_call (codeAny_mono (call w s₀ s₁ mg mb fa o pm cd doc a vs ns G Y ho (fd_plain hd) hcd hmg hobj hints hlen hg) fun r s' hq=>?_)
 obtain ⟨rfl,h2,h3,h4⟩:=hq
 exact ⟨.inl ⟨.bool true,.bool true,[],rfl,fun _=>rfl,.bool true,CI l _,fun _=>⟨List.Pairwise.nil,fun _ hm=>(nomatch hm)⟩⟩,h2,h3,h4⟩
section
variable {prog:Program} {w:World} {A:Around} {E:Value->Shared->Prop} {s:Shared} {K:Frag}
end
end Att
namespace L2
open PySem PySem.Spec PyProof.Rows
theorem r8:∀ {vs:List Value} {ns:List Int},IntsAre vs ns->Vals (ns.map V.int) vs
 | _,_,.nil=>.nil
 | _,_,.cons n t h=>.cons ⟨t,rfl⟩ (r8 h)
noncomputable def jg (H:Hp):Prop:=∀ b,H b=none\/∃ o xs,H b=some (.frz o (.lst xs))
theorem yC {P:Program} {w:World} {K:PySem.W.Frag} {mg mb:Str->Option Value} {CX:CXT} {k:Nat} {fa a:Addr} {fd:FuncData} {x:Str} {sp:Sp} {s₁:Shared} {vs:List Value} {ns:List Int}
  (KX:K.In s₁.heap) (hns:s₁.heap.Ns mainGlobals mg) (hb:s₁.heap.Ns builtinsNs mb) (hbb:∀ x:Str,x≠"__name__"->mb x=bootBuiltins x) (hlim:s₁.heap.NoLimit) (hg:s₁.gens=#[])
  (ha:s₁.heap.get? a=some { cls:=.type "list",data:=.seq vs.toArray }) (hi:IntsAre vs ns) (hl:ns.length<=sizeLine) (hr:bS k callerA)
  (F:∀ base:Heap,K.In base->base.Ns mainGlobals mg->c6 P w K mg base CX k fa fd [x] sp) (hbind:∀ (s:Shared) (u:Value),BindsTo s fd ⟨[u],[]⟩ [(x,u)])
  (hsp:∀ H:Hp,jg H->SqL K H a (ns.map V.int)->sp [.ref a] H (fun v _=>v=.bl true) fun _ _ _=>False)
  (hCX:∀ H e s',CX [] H s₁ (fun _ _ _=>False) e s'->False) :
  codeAny (model P w) callerA (.call (.ref fa) ⟨[.ref a],[]⟩) (fun r s'=>r=.ok (.ret (.bool true))/\OldK s₁.heap s'.heap/\s'.os=s₁.os/\AllBare s'.gens) s₁:=by
 have rv:=r8 hi
 have lenV:=hi.length
 have core:∀ H:Hp,jg H->SqL K H a (ns.map V.int)->HOk P w H s₁.heap->(∀ b,H b≠none->b=a)->(H a≠none->K.lookup a=none) ->
   codeAny (model P w) callerA (.call (.ref fa) ⟨[.ref a],[]⟩) (fun r s'=>r=.ok (.ret (.bool true))/\OldK s₁.heap s'.heap/\s'.os=s₁.os/\AllBare s'.gens) s₁:=by
  intro H hO hS hok hA hK
  have base_of:∀ {b:Addr} {o:Obj},s₁.heap.get? b=some o->H b=none->(fq s₁.heap H).get? b=some o:=fun e n=>FL e n
  have noA:∀ {b:Addr} {o:Obj} {es:Array DictEntry} {ep:Nat},s₁.heap.get? b=some o->o.data=.dict es ep->H b=none:=fun {b o es ep} e d=>by
   cases q:H b with
   | none=>rfl
   | some u =>
    have e':b=a:=hA b (by rw [q]; simp)
    subst e'
    rw [ha] at e; cases e
    have d':Data.seq vs.toArray _=Data.dict es ep:=d
    cases d'
  have nsK:∀ {b:Addr} {m:Str->Option Value},s₁.heap.Ns b m->(fq s₁.heap H).Ns b m:=fun {b m} ⟨o,es,ep,e,d,r⟩=>⟨o,es,ep,base_of e (noA e d),d,r⟩
  have hKb:K.In (fq s₁.heap H):=fun b o e=>base_of (KX b o e) (by
   cases q:H b with
   | none=>rfl
   | some u =>
    have e':b=a:=hA b (by rw [q]; simp)
    subst e'
    rw [hK (by rw [q]; simp)] at e; cases e)
  have hM:Mod K mg (fq s₁.heap H):=⟨hKb,nsK hns,⟨mb,nsK hb,hbb⟩,let ⟨mc,h1,h2⟩:=hlim; ⟨mc,nsK h1,h2⟩⟩
  have e0:jV P w K mg (fq s₁.heap H) callerA [] s₁ H:=⟨rfl,hM,fun b o e=>vQ e,Nat.le_of_eq (zg _ _),trivial,fun b hb=>absurd (show b∈([]:List Addr) from hb) (by simp),hok,.of_eq hg⟩
  refine codeAny_mono ((F _ hKb (nsK hns)).run callerA [] s₁ H ⟨[.ref a],[]⟩ [.ref a] [.ref a] _ _ hr e0 (hbind s₁ (.ref a)) (.cons rfl .nil) (hsp H hO hS)) fun r s' h=>?_
  cases r with
  | error e=>exact (hCX H e s' h).elim
  | ok fl =>
   cases fl with
   | next=>exact False.elim h
   | brk=>exact False.elim h
   | cont=>exact False.elim h
   | ret u =>
    obtain ⟨v,H',os,bare,un,hok',r',q⟩:=h
    have q':v=.bl true:=q
    subst q'
    obtain rfl:u=Value.bool true:=r'
    refine ⟨rfl,OldK.of_keep fun b o e=>?_,os,bare⟩
    cases q:H b with
    | none=>exact un.keep b o e q (by intro z; exact absurd (show b∈([]:List Addr) from z) (by simp)) (by simp)
    | some u =>
     rcases hO b with z|⟨ob,xs,z⟩
     ·rw [q] at z; cases z
     ·have z2:=un.frzs b ob _ z
      obtain ⟨e1,_⟩:=hok b _ z
      obtain ⟨e2,_⟩:=hok' b _ z2
      rw [e] at e1; cases e1
      exact e2
 cases hk:K.lookup a with
 | some o =>
  have e:=KX a o hk
  rw [ha] at e
  cases e
  refine core (fun _=>none) (fun _=>.inl rfl) (.inr ⟨_,vs.toArray,_,hk,rfl,rfl,rfl,by rw [List.size_toArray,lenV]; exact hl,by simpa using rv⟩) (fun b u z=>by have z':(none:Option HO)=some u:=z; cases z') (fun b z=>absurd rfl z) fun z=>absurd rfl z
 | none =>
  refine core (fun b=>if b=a then some (.frz { cls:=.type "list",data:=.seq vs.toArray } (.lst (ns.map V.int))) else none) (fun b=>?_) (.inl (.inr ⟨{ cls:=.type "list",data:=.seq vs.toArray },if_pos rfl⟩)) (fun b u z=>?_) (fun b z=>?_) fun _=>hk
  ·by_cases hb:b=a
   ·exact .inr ⟨_,_,if_pos hb⟩
   ·exact .inl (if_neg hb)
  ·by_cases hb:b=a
   ·have z':=(if_pos hb).symm.trans z
    cases z'
    subst hb
    exact ⟨ha,by rw [List.length_map]; exact hl,vs,_,rv,ha⟩
   ·have z':=(if_neg hb).symm.trans z
    cases z'
  ·by_cases hb:b=a
   ·exact hb
   ·exact absurd (if_neg hb) z
end L2
namespace L2
open PySem PySem.Spec PyProof.Rows
theorem uv {l:PySem.W.OpenLaw} {n k:Nat} {q:Program} {loose:List Str} {XP:(Str->Option Value)->Heap->Prop} {YP:World->Heap->Prop} {d:DefRec} {K:Params->PySem.W.Frag} {CX:World->CXT} {sp:World->Sp} {x:Str}
  (hn:l.most=some n) (hn2:n<=sizeLine) (hdf:d.params.defaults=[]) (hr:bS k callerA)
  (hY:∀ (w:World) (h:Heap),YP w h->(K w.params).In h)
  (F:∀ (w:World) (mg:Str->Option Value) (fa:Addr) (h:Heap),(K w.params).In h->h.Ns mainGlobals mg->mg d.name=some (.ref fa) ->
   ∃ fd:FuncData,(∀ (s:Shared) (u:Value),BindsTo s fd ⟨[u],[]⟩ [(x,u)]) /\
    ∀ base:Heap,(K w.params).In base->base.Ns mainGlobals mg->c6 l.prog w (K w.params) mg base (CX w) k fa fd [x] (sp w))
  (hsp:∀ (w:World) (H:Hp) (a:Addr) (ns:List Int),ns.length<=n->jg H->SqL (K w.params) H a (ns.map V.int)->sp w [.ref a] H (fun v _=>v=.bl true) fun _ _ _=>False)
  (hCX:∀ (w:World) (H:Hp) (s:Shared) (e:Value) (s':Shared),CX w [] H s (fun _ _ _=>False) e s'->False) :
  PySem.W.WalkO q loose XP YP l.row.toRowW d [] (fun f vs=>PySem.call f vs):=by
 refine Att.vC hn hdf fun w s₀ s₁ mg mb fa o pm cd doc a vs ns G Y ho hd hcd hmg hobj hints hlen hg=>?_
 have KX:=hY w _ Y
 obtain ⟨fd,hb,hF⟩:=F w mg fa _ KX G.T.g hmg
 exact yC KX G.T.g G.T.b G.T.builtins G.T.nolimit hg hobj hints (Nat.le_trans hlen hn2) hr hF hb (fun H hO hS=>hsp w H a ns hlen hO hS) fun H e s'=>hCX w H s₁ e s'
theorem G4 {l:PySem.W.OpenLaw} {n k:Nat} {q:Program} {loose:List Str} {XP:(Str->Option Value)->Heap->Prop} {YP:World->Heap->Prop} {d:DefRec} {K:Params->PySem.W.Frag} {CX:CXT} {sp:PySem.W.Frag->Sp} {x:Str}
  (hn:l.most=some n) (hn2:n<=sizeLine) (hdf:d.params.defaults=[]) (hr:bS k callerA)
  (hY:∀ (w:World) (h:Heap),YP w h->(K w.params).In h)
  (F:∀ (w:World) (mg:Str->Option Value) (fa:Addr) (h:Heap),(K w.params).In h->h.Ns mainGlobals mg->mg d.name=some (.ref fa) ->
   ∃ fd:FuncData,(∀ (s:Shared) (u:Value),BindsTo s fd ⟨[u],[]⟩ [(x,u)]) /\
    ∀ base:Heap,(K w.params).In base->base.Ns mainGlobals mg->c6 l.prog w (K w.params) mg base CX k fa fd [x] (sp (K w.params)))
  (hsp:∀ (K:PySem.W.Frag) (H:Hp) (a:Addr) (ns:List Int),ns.length<=n->jg H->SqL K H a (ns.map V.int)->sp K [.ref a] H (fun v _=>v=.bl true) fun _ _ _=>False)
  (hCX:∀ (H:Hp) (s:Shared) (e:Value) (s':Shared),CX [] H s (fun _ _ _=>False) e s'->False) :
  PySem.W.WalkO q loose XP YP l.row.toRowW d [] (fun f vs=>PySem.call f vs) :=
 uv (K:=K) (CX:=fun _=>CX) (sp:=fun w=>sp (K w.params)) hn hn2 hdf hr hY F (fun w H a ns h1 h2 h3=>hsp (K w.params) H a ns h1 h2 h3) fun _ H s e s'=>hCX H s e s'
end L2
namespace L2
open PySem PySem.Spec PyProof.Rows
noncomputable def dR (s:Stmt):Arguments:=match s with
 | .FunctionDef _ a _ _ _ _ _ _ _ _=>a
 | _=>{ posonlyargs:=[],args:=[],vararg:=none,kwonlyargs:=[],kw_defaults:=[],kwarg:=none,defaults:=[] }
noncomputable def jo (s:Stmt):List Stmt:=match s with
 | .FunctionDef _ _ b _ _ _ _ _ _ _=>b
 | _=>[]
noncomputable def iO (s:Stmt):Scope:=match s with
 | .FunctionDef _ _ _ _ _ _ sc _ _ _=>sc
 | _=>{ kind:=.function,names:=[],isGenerator:=false,isCoroutine:=false }
structure Fun (K:PySem.W.Frag) (x qual:Str) (st:Stmt) (f:Addr) (fd:FuncData):Prop where
 ex:∃ (oc:Value) (od:Option Addr) (kV doc pm:Value) (an:Option Addr) (cdv ct:Value) (osl:Array (Option Value)),
  fd=PySem.W.fnOf x qual (dR st) (jo st) (iO st) .none kV doc pm an cdv ct/\K.lookup f=some ⟨oc,od,.func fd,osl⟩/\PySem.W.codeIn K cdv qual=true
 kp:PySem.W.keepIn K (.ref f)=true
section
variable {P:Program} {w:World} {K:PySem.W.Frag} {mg:Str->Option Value} {base:Heap}
theorem Fun.binds {x qual:Str} {st:Stmt} {f:Addr} {fd:FuncData} {ps:List Str} (F:Fun K x qual st f fd)
  (h:∀ (kV doc pm:Value) (an:Option Addr) (cdv ct:Value) (us:List Value),us.length=ps.length->bindArgs (PySem.W.fnOf x qual (dR st) (jo st) (iO st) .none kV doc pm an cdv ct) ⟨us,[]⟩=pure (ps.zip us)):Binds K fd ps []:=by
 obtain ⟨oc,od,kV,doc,pm,an,cdv,ct,osl,rfl,lk,hcd⟩:=F.ex
 exact .all (h kV doc pm an cdv ct)
theorem wm {x qual:Str} {st:Stmt} {f:Addr} {oc:Value} {od an:Option Addr} {osl:Array (Option Value)} {kV doc pm cdv ct:Value} (l:K.lookup f=some ⟨oc,od,.func (PySem.W.fnOf x qual (dR st) (jo st) (iO st) .none kV doc pm an cdv ct),osl⟩)
  (c:PySem.W.codeIn K cdv qual=true) (k:PySem.W.keepIn K (.ref f)=true):Fun K x qual st f (PySem.W.fnOf x qual (dR st) (jo st) (iO st) .none kV doc pm an cdv ct):=⟨⟨oc,od,kV,doc,pm,an,cdv,ct,osl,rfl,l,c⟩,k⟩
end
section
variable {X:Cx}
end
end L2

namespace EV
open PySem
inductive D where
 | non|bl (b:Bool)|int (i:Int)|str (x:Str)|tup (ds:List D)|loc (l:Nat)|exn (c:Str)|fro (ds:List D)
 deriving Inhabited
mutual
noncomputable def D.dec:(a b:D)->Decidable (a=b)
 | .non,b=>match b with|.non=>.isTrue rfl|.bl _|.int _|.str _|.tup _|.loc _|.exn _|.fro _=>.isFalse (fun h=>nomatch h)
 | .bl x,b=>match b with
  | .bl y=>if h:x=y then .isTrue (by rw [h]) else .isFalse (fun e=>h (D.bl.inj e))
  | .non|.int _|.str _|.tup _|.loc _|.exn _|.fro _=>.isFalse (fun h=>nomatch h)
 | .int x,b=>match b with
  | .int y=>if h:x=y then .isTrue (by rw [h]) else .isFalse (fun e=>h (D.int.inj e))
  | .non|.bl _|.str _|.tup _|.loc _|.exn _|.fro _=>.isFalse (fun h=>nomatch h)
 | .str x,b=>match b with
  | .str y=>if h:x=y then .isTrue (by rw [h]) else .isFalse (fun e=>h (D.str.inj e))
  | .non|.bl _|.int _|.tup _|.loc _|.exn _|.fro _=>.isFalse (fun h=>nomatch h)
 | .tup x,b=>match b with
  | .tup y=>match D.decs x y with
   | .isTrue h=>.isTrue (by rw [h])
   | .isFalse h=>.isFalse (fun e=>h (D.tup.inj e))
  | .non|.bl _|.int _|.str _|.loc _|.exn _|.fro _=>.isFalse (fun h=>nomatch h)
 | .loc x,b=>match b with
  | .loc y=>if h:x=y then .isTrue (by rw [h]) else .isFalse (fun e=>h (D.loc.inj e))
  | .non|.bl _|.int _|.str _|.tup _|.exn _|.fro _=>.isFalse (fun h=>nomatch h)
 | .exn x,b=>match b with
  | .exn y=>if h:x=y then .isTrue (by rw [h]) else .isFalse (fun e=>h (D.exn.inj e))
  | .non|.bl _|.int _|.str _|.tup _|.loc _|.fro _=>.isFalse (fun h=>nomatch h)
 | .fro x,b=>match b with
  | .fro y=>match D.decs x y with
   | .isTrue h=>.isTrue (by rw [h])
   | .isFalse h=>.isFalse (fun e=>h (D.fro.inj e))
  | .non|.bl _|.int _|.str _|.loc _|.exn _|.tup _=>.isFalse (fun h=>nomatch h)
noncomputable def D.decs:(a b:List D)->Decidable (a=b)
 | [],[]=>.isTrue rfl
 | [],_::_=>.isFalse (fun h=>nomatch h)
 | _::_,[]=>.isFalse (fun h=>nomatch h)
 | x::xs,y::ys=>match D.dec x y with
  | .isFalse h=>.isFalse (fun e=>h (List.cons.inj e).1)
  | .isTrue h=>match D.decs xs ys with
   | .isTrue h'=>.isTrue (by rw [h,h'])
   | .isFalse h'=>.isFalse (fun e=>h' (List.cons.inj e).2)
end
noncomputable instance:DecidableEq D:=D.dec
inductive Cell where
 | lst (ds:List D)|dct (kvs:List (List Int × D))|fdc (kvs:List (List Int × D))
 deriving DecidableEq,Inhabited
abbrev af:=List Cell
inductive Res (α:Type) where
 | ok (a:α) (S:af)|exc (c:Str) (S:af)|bad
noncomputable def M (α:Type):=af->Res α
noncomputable instance:Monad M where
 pure a:=fun S=>.ok a S
 bind m f:=fun S=>match m S with
  | .ok a S'=>f a S'
  | .exc c S'=>.exc c S'
  | .bad=>.bad
theorem bB {α β:Type} (m:M α) (f:α->M β) (S:af):(m>>=f) S=match m S with|.ok a S'=>f a S'|.exc c S'=>.exc c S'|.bad=>.bad:=rfl
theorem ao {α β:Type} {m:M α} {f:α->M β} {S S':af} {a:α} (h:m S=.ok a S'):(m>>=f) S=f a S':=by rw [bB,h]
theorem dS {α β:Type} {m:M α} {f:α->M β} {S S':af} {c:Str} (h:m S=.exc c S'):(m>>=f) S=.exc c S':=by rw [bB,h]
theorem bz {α β:Type} {m:M α} {f:α->M β} {S:af} (h:m S=.bad):(m>>=f) S=.bad:=by rw [bB,h]
noncomputable def bad {α:Type}:M α:=fun _=>.bad
noncomputable def opt {α:Type}:Option α->M α
 | some a=>pure a
 | none=>bad
noncomputable def alloc (c:Cell):M D:=fun S=>.ok (.loc S.length) (S++[c])
noncomputable def quiet {α:Type} (m:M α):M α:=fun S=>match m S with
 | .ok a S'=>.ok a S'
 | _=>.bad
noncomputable def aJ:Nat:=16777216
noncomputable def fits (n:Nat):Bool:=decide (n<=aJ)
noncomputable def jh (n:Nat):Bool:=decide (n < aJ)
noncomputable def guard {α:Type} (b:Bool) (m:M α):M α:=match b with
 | true=>m
 | false=>bad
noncomputable def listAt (S:af) (l:Nat):Option (List D):=match S[l]? with
 | some (.lst ds)=>some ds
 | _=>none
noncomputable def items:D->M (List D)
 | .tup ds=>pure ds
 | .loc l=>fun S=>match listAt S l with
  | some ds=>.ok ds S
  | none=>.bad
 | .fro ds=>pure ds
 | _=>bad
noncomputable def cu:D->M (List D)
 | .loc l=>items (.loc l)
 | .fro ds=>pure ds
 | _=>bad
noncomputable def asL (S:af):D->Option (List D)
 | .loc l=>listAt S l
 | .fro ds=>some ds
 | _=>none
noncomputable def i2b (b:Bool):Int:=if b then 1 else 0
noncomputable def jz:D->D->Option Bool
 | .non,.non=>some true
 | .non,.bl _|.non,.int _|.non,.str _|.bl _,.non|.int _,.non|.str _,.non=>some false
 | .bl a,.bl b=>some (a==b)
 | .bl a,.int b=>some (i2b a==b)
 | .int a,.bl b=>some (a==i2b b)
 | .int a,.int b=>some (a==b)
 | .str a,.str b=>some (a==b)
 | .bl _,.str _|.int _,.str _|.str _,.bl _|.str _,.int _=>some false
 | _,_=>none
noncomputable def bX (f:D->D->Option Bool):List D->List D->Option Bool
 | x::xs,y::ys=>match f x y,bX f xs ys with
  | some a,some b=>some (a&&b)
  | _,_=>none
 | _,_=>some true
inductive Kd where|flat|tup|list|other
noncomputable def D.kd:D->Kd
 | .non|.bl _|.int _|.str _=>.flat
 | .tup _=>.tup
 | .loc _|.fro _=>.list
 | .exn _=>.other
noncomputable def D.its:D->List D
 | .tup ds=>ds
 | _=>[]
noncomputable def eqD:Nat->af->D->D->Option Bool
 | 0,_,_,_=>none
 | n+1,S,a,b=>match a.kd,b.kd with
  | .flat,.flat=>jz a b
  | .tup,.tup=>(bX (eqD n S) a.its b.its).map fun r=>r&&(a.its.length==b.its.length)
  | .list,.list=>match asL S a,asL S b with
   | some xs,some ys=>if xs.length=ys.length then bX (eqD n S) xs ys else some false
   | _,_=>none
  | .list,.tup=>(asL S a).map fun _=>false
  | .tup,.list=>(asL S b).map fun _=>false
  | .list,.flat=>(asL S a).map fun _=>false
  | .flat,.list=>(asL S b).map fun _=>false
  | .tup,.flat=>some false
  | .flat,.tup=>some false
  | _,_=>none
noncomputable def deep:Nat:=12
noncomputable def eqM (a b:D):M Bool:=fun S=>match eqD deep S a b with
 | some k=>.ok k S
 | none=>.bad
noncomputable def inL (S:af) (x:D):List D->Option Bool
 | []=>some false
 | y::ys=>match eqD deep S y x,inL S x ys with
  | some a,some b=>some (a||b)
  | _,_=>none
inductive Op2 where|add|sub|mul|fdiv|mod|pow
inductive Cm where|lt|le|gt|ge|eq|ne|isin|d9|din|dnin|nisB|tin
inductive Ty where|int|bool|str|list|tuple|dict|cls (c:Str)
 deriving DecidableEq
inductive Bi where|len|inst (t:Ty)|all|any|sum|min|max|sorted|sortedSet|list|tuple|int|abs|rangeT|rangeL|vals|lenS|rev|iA|lenT|intT|str1|signs|tTo|tFrom|tAt
inductive Tm where|join|split|starts|part
inductive Me where|append|extend
noncomputable def small (i:Int):Bool:=decide (-(2 ^ 64) < i/\i < 2 ^ 64)
noncomputable def bI (l:Nat) (f:List D->M D):M D:=fun S=>match S[l]? with
 | some (.lst ds)=>f ds S
 | _=>.bad
noncomputable def put (l:Nat) (c:Cell):M D:=fun S=>.ok .non (S.set l c)
noncomputable def F8 (a b:Nat):M D:=bI a fun xs=>bI b fun ys=>guard (fits (xs.length+ys.length)) (alloc (.lst (xs++ys)))
noncomputable def Bt:D->D->M D
 | .int i,.int j=>pure (.int (i+j))
 | .tup xs,.tup ys=>guard (fits (xs.length+ys.length)) (pure (.tup (xs++ys)))
 | .str x,.str y=>guard (fits (x.length+y.length)) (pure (.str (x++y)))
 | .loc a,.loc b=>F8 a b
 | _,_=>bad
noncomputable def DM:D->D->M D
 | .int i,.int j=>pure (.int (i - j))
 | _,_=>bad
noncomputable def GP (l:Nat) (j:Int):M D:=bI l fun xs=>guard (decide (-(2 ^ 63)<=j)&&decide (j < 2 ^ 63)&&fits (xs.length * j.toNat)) (alloc (.lst (List.replicate j.toNat xs).flatten))
noncomputable def vS:D->D->M D
 | .int i,.int j=>guard (small i||small j) (pure (.int (i * j)))
 | _,_=>bad
noncomputable def CM:D->D->M D
 | .int i,.int j=>guard (decide (0 < j)&&decide (j < 1073741824)) (pure (.int (i / j)))
 | _,_=>bad
noncomputable def FO:D->D->M D
 | .int i,.int j=>guard (decide (0 < j)) (pure (.int (i % j)))
 | _,_=>bad
noncomputable def za:D->D->M D
 | .int i,.int j=>guard (decide (0<=j)&&decide (j<=1000)&&decide (i.natAbs < 2 ^ 64)) (pure (.int (i ^ j.toNat)))
 | _,_=>bad
noncomputable def opD:Op2->D->D->M D
 | .add=>Bt
 | .sub=>DM
 | .mul=>vS
 | .fdiv=>CM
 | .mod=>FO
 | .pow=>za
noncomputable def ig (p:Int->Int->Bool):D->D->M D
 | .int i,.int j=>pure (.bl (p i j))
 | _,_=>bad
noncomputable def inA (neg:Bool) (a:D) (ys:List D):M D:=fun S=>match inL S a ys with
 | some k=>.ok (.bl (k != neg)) S
 | none=>.bad
noncomputable def inM (neg:Bool) (a b:D):M D:=do
 let ys <- items b
 inA neg a ys
noncomputable def allInts:List D->Option (List Int)
 | []=>some []
 | .int i::r=>(allInts r).map (i :: ·)
 | _=>none
noncomputable def je (kvs:List (List Int × D)) (k:List Int):Option D:=(kvs.find? fun kv=>decide (kv.1=k)).map (·.2)
noncomputable def wL (kvs:List (List Int × D)) (k:List Int) (d:D):List (List Int × D) :=
 if (kvs.any fun kv=>decide (kv.1=k))=true then kvs.map (fun kv=>if kv.1=k then (kv.1,d) else kv) else kvs++[(k,d)]
noncomputable def gX (l:Nat) (f:List (List Int × D)->M D):M D:=fun S=>match S[l]? with
 | some (.dct kvs)=>f kvs S
 | some (.fdc kvs)=>f kvs S
 | _=>.bad
noncomputable def AK:D->D->M D
 | .loc l,.tup ds=>do
  let k <- opt (allInts ds)
  gX l fun kvs=>opt (je kvs k)
 | _,_=>bad
noncomputable def nD (neg:Bool):D->D->M D
 | .tup ds,.loc l=>do
  let k <- opt (allInts ds)
  gX l fun kvs=>pure (.bl ((je kvs k).isSome != neg))
 | _,_=>bad
noncomputable def u0:D->M D
 | .loc l=>gX l fun kvs=>guard (fits kvs.length) (alloc (.lst (kvs.map (·.2))))
 | _=>bad
noncomputable def xD (acc:List Int) (x:Int):List Int:=if acc.contains x then acc else acc++[x]
noncomputable def rB (xs:List Int):Nat:=(xs.foldl xD []).length
noncomputable def Gq:D->D->M D
 | .bl a,.bl b=>pure (.bl (a != b))
 | _,_=>bad
noncomputable def tx (xs:List Nat):Str:=⟨xs.toArray⟩
noncomputable def cN (c:Nat):D:=.str ⟨#[c]⟩
noncomputable def aT (c:Nat):List Nat->List (List Nat)
 | []=>[[]]
 | a::r=>if a=c then []::aT c r else match aT c r with
  | h::t=>(a::h)::t
  | []=>[[a]]
noncomputable def dN (a:Str):List Str->Str
 | []=>tx []
 | [y]=>y
 | y::r=>y++a++dN a r
noncomputable def allStrs:List D->Option (List Str)
 | []=>some []
 | .str y::r=>(allStrs r).map (y :: ·)
 | _=>none
noncomputable def C3 (x:Str):D->M D
 | .str y=>match y.cps.toList with
  | [c]=>guard (decide (x.length<=1000000)) (alloc (.lst ((aT c x.cps.toList).map fun p=>.str (tx p))))
  | _=>bad
 | _=>bad
noncomputable def dP (c:Nat) (xs:List Nat):List D:=if c∈xs then [.str (tx (xs.takeWhile fun a=>a != c)),.str ⟨#[c]⟩,.str (tx ((xs.dropWhile fun a=>a != c).drop 1))] else [.str (tx xs),.str (tx []),.str (tx [])]
noncomputable def zJ (x:Str):D->M D
 | .str y=>match y.cps.toList with
  | [c]=>guard (decide (x.length<=1000000)) (pure (.tup (dP c x.cps.toList)))
  | _=>bad
 | _=>bad
noncomputable def zm (x:Str):D->M D
 | .str y=>match y.cps.toList with
  | [c]=>pure (.bl (decide (x.cps.toList.head?=some c)))
  | _=>bad
 | _=>bad
noncomputable def joinM (x:Str) (ys:List Str):M D:=guard (decide ((ys.map (fun y=>y.length)).sum+ys.length * x.length<=16777216)) (pure (.str (dN x ys)))
noncomputable def wR (x:Str) (d:D):M D:=do
 let ds <- cu d
 let ys <- opt (allStrs ds)
 joinM x ys
noncomputable def tmD:Tm->Str->D->M D
 | .join=>wR
 | .split=>C3
 | .starts=>zm
 | .part=>zJ
noncomputable def g9 (m:Tm) (s:Str) (as:List D):M D:=match as with
 | [y]=>tmD m s y
 | _=>bad
noncomputable def iE (x:D) (f:Str->M D):M D:=match x with
 | .str s=>f s
 | _=>bad
noncomputable def mw:D->D->M D
 | .str x,.str y=>match x.cps.toList with
  | [c]=>pure (.bl (decide (c∈y.cps.toList)))
  | _=>bad
 | _,_=>bad
noncomputable def cI (c:Nat):Bool:=decide (48<=c)&&decide (c<=57)
noncomputable def valN (xs:List Nat):Nat:=xs.foldl (fun acc c=>acc * 10+(c - 48)) 0
noncomputable def xq:D->M D
 | .str x=>guard (x.cps.toList.all cI&&decide (1<=x.length)&&decide (x.length<=4)) (pure (.int (valN x.cps.toList:Nat)))
 | _=>bad
noncomputable def lD:D->M D
 | .int i=>guard (small i) (pure (.str (Str.ofString (toString i))))
 | .str x=>pure (.str x)
 | _=>bad
noncomputable def wG:D->M D
 | .str x=>guard (fits x.length) (pure (.int x.length))
 | _=>bad
noncomputable def ja:D->M D
 | .str x=>guard (x.cps.toList.all fun c=>decide (c < 128)) (pure (.tup (x.cps.toList.map cN)))
 | _=>bad
noncomputable def uM:D->D->M D
 | .str x,.int j=>guard (decide (-(x.length:Int)<=j)&&decide (j<=(x.length:Int))&&fits x.length) (pure (.str (tx (x.cps.toList.take (if j < 0 then (j+(x.length:Int)).toNat else j.toNat)))))
 | _,_=>bad
noncomputable def pR:D->D->M D
 | .str x,.int j=>guard (decide (0<=j)&&fits x.length) (pure (.str (tx (x.cps.toList.drop j.toNat))))
 | _,_=>bad
noncomputable def mq:D->D->M D
 | .str x,.int j=>guard (decide (0<=j)&&fits x.length) (match x.cps.toList[j.toNat]? with
  | some c=>pure (cN c)
  | none=>bad)
 | _,_=>bad
noncomputable def fY:D->D->Bool
 | .bl _,.int _=>false
 | .int _,.bl _=>false
 | .tup _,.str _=>true
 | .tup _,.int _=>true
 | a,b=>match a.kd,b.kd with
  | .flat,.flat=>true
  | .tup,.tup=>true
  | .list,.list=>true
  | _,_=>false
noncomputable def cmD:Cm->D->D->M D
 | .lt=>ig fun i j=>decide (i < j)
 | .le=>ig fun i j=>decide (i<=j)
 | .gt=>ig fun i j=>decide (j < i)
 | .ge=>ig fun i j=>decide (j<=i)
 | .eq=>fun a b=>do pure (.bl (<- eqM a b))
 | .ne=>fun a b=>guard (fY a b) (do pure (.bl (!(<- eqM a b))))
 | .isin=>inM false
 | .d9=>inM true
 | .din=>nD false
 | .dnin=>nD true
 | .nisB=>Gq
 | .tin=>mw
noncomputable def truth:D->M Bool
 | .bl b=>pure b
 | .non=>pure false
 | .int i=>pure (i != 0)
 | .tup ds=>pure (!ds.isEmpty)
 | .loc l=>do
  let xs <- items (.loc l)
  pure (!xs.isEmpty)
 | .fro ds=>pure (!ds.isEmpty)
 | _=>bad
noncomputable def ixN (n:Nat) (i:Int):Option Nat:=if 0<=i then (if i < n then some i.toNat else none) else if -(n:Int)<=i then some (i+n).toNat else none
noncomputable def atI (xs:List D) (i:Int):Option D:=(ixN xs.length i).bind fun j=>xs[j]?
noncomputable def ixD (a i:D):M D:=match i with
 | .int j=>do
  let xs <- items a
  opt (atI xs j)
 | _=>bad
noncomputable def Ba:D->D->D->M D
 | .loc l,.int k,d=>bI l fun xs=>match ixN xs.length k with
  | some j=>put l (.lst (xs.set j d))
  | none=>bad
 | _,_,_=>bad
noncomputable def sIx (n d:Nat):Option Int->Nat
 | none=>d
 | some v=>if v < 0 then (v+(n:Int)).toNat else min v.toNat n
noncomputable def cut (xs:List D) (lo hi:Option Int):List D:=(xs.drop (sIx xs.length 0 lo)).take (sIx xs.length xs.length hi - sIx xs.length 0 lo)
noncomputable def slD (a:D) (lo hi:Option Int):M D:=match a with
 | .tup xs=>pure (.tup (cut xs lo hi))
 | .loc l=>do
  let xs <- items (.loc l)
  alloc (.lst (cut xs lo hi))
 | .fro xs=>alloc (.lst (cut xs lo hi))
 | _=>bad
noncomputable def dm:List D->Option (List Bool)
 | []=>some []
 | .bl i::r=>(dm r).map (i :: ·)
 | _=>none
noncomputable def ins (i:Int):List Int->List Int
 | []=>[i]
 | j::r=>if i<=j then i::j::r else j::ins i r
noncomputable def sV:List Int->List Int
 | []=>[]
 | i::r=>ins i (sV r)
abbrev Sub:=Str->Str->Bool
noncomputable def cK (sub:Sub) (S:af):D->Ty->Option Bool
 | .non,t=>match t with|.cls _=>none|_=>some false
 | .bl _,t=>match t with|.cls _=>none|.int=>some true|.bool=>some true|_=>some false
 | .int _,t=>match t with|.cls _=>none|.int=>some true|_=>some false
 | .str _,t=>match t with|.cls _=>none|.str=>some true|_=>some false
 | .tup _,t=>match t with|.cls _=>none|.tuple=>some true|_=>some false
 | .loc l,t=>match S[l]?,t with
  | _,.cls _=>none
  | some (.lst _),.list=>some true
  | some (.lst _),_=>some false
  | some (.dct _),_=>none
  | some (.fdc _),_=>none
  | none,_=>none
 | .fro _,t=>match t with|.cls _=>none|.list=>some true|_=>some false
 | .exn c,t=>match t with|.cls d=>some (sub c d)|_=>none
noncomputable def lexLe:List Int->List Int->Bool
 | [],_=>true
 | _::_,[]=>false
 | a::r,b::q=>if a < b then true else if a=b then lexLe r q else false
noncomputable def oY (t:List Int):List (List Int)->List (List Int)
 | []=>[t]
 | u::r=>if t=u then u::r else if lexLe t u then t::u::r else u::oY t r
noncomputable def lu:List (List Int)->List (List Int)
 | []=>[]
 | t::r=>oY t (lu r)
noncomputable def tups:List D->Option (List (List Int))
 | []=>some []
 | .tup ds::r=>match allInts ds,tups r with
  | some t,some q=>some (t::q)
  | _,_=>none
 | _=>none
noncomputable def rng (lo hi step:Int):List Int :=
 if 0 < step then (List.range ((hi - lo+step - 1) / step).toNat).map fun (k:Nat)=>lo+k * step
 else if step < 0 then (List.range ((lo - hi - step - 1) / (-step)).toNat).map fun (k:Nat)=>lo+k * step
 else []
noncomputable def near (i:Int):Bool:=decide (-(2 ^ 62)<=i/\i < 2 ^ 62)
noncomputable def cS:List D->Option (List Int)
 | [.int j]=>if near j then some (rng 0 j 1) else none
 | [.int i,.int j]=>if near i&&near j then some (rng i j 1) else none
 | [.int i,.int j,.int k]=>if near i&&near j&&decide (k=-1) then some (rng i j k) else none
 | _=>none
noncomputable def DI:List Int->M D
 | []=>bad
 | i::r=>pure (.int (r.foldl min i))
noncomputable def DX:List Int->M D
 | []=>bad
 | i::r=>pure (.int (r.foldl max i))
noncomputable def min2:D->D->M D
 | .int i,.int j=>pure (.int (if j < i then j else i))
 | _,_=>bad
noncomputable def max2:D->D->M D
 | .int i,.int j=>pure (.int (if j > i then j else i))
 | _,_=>bad
noncomputable def toInt:D->M D
 | .int i=>pure (.int i)
 | .bl b=>pure (.int (i2b b))
 | _=>bad
noncomputable def CL:D->M D
 | .int i=>pure (.int (if i < 0 then -i else i))
 | _=>bad
noncomputable def jq (sub:Sub) (t:Ty) (a:D):M D:=fun S=>match cK sub S a t with
 | some k=>.ok (.bl k) S
 | none=>.bad
noncomputable def GG:D->M D
 | .tup ds=>pure (.tup ds)
 | a=>do pure (.tup (<- items a))
noncomputable def xr:Option (List (List Int))->M D
 | some ts=>guard (decide (ts.length < 64)&&decide ts.Nodup&&ts.all fun t=>!t.isEmpty) (alloc (.lst ((lu ts).map fun t=>.tup (t.map .int))))
 | none=>bad
noncomputable def AX (r:M D):Option (List Int)->M D
 | some is=>guard (decide (is.length < 64)) (alloc (.lst ((sV is).map .int)))
 | none=>r
noncomputable def zH (ds:List D):M D:=AX (xr (tups ds)) (allInts ds)
noncomputable def Du:D->Option Int
 | .tup [.int n,_]=>some n
 | _=>none
noncomputable def firstsP:List D->Option (List Int)
 | []=>some []
 | d::r=>match Du d,firstsP r with
  | some n,some ns=>some (n::ns)
  | _,_=>none
noncomputable def bi1 (sub:Sub):Bi->D->M D
 | .len,a=>do
  let ds <- items a
  pure (.int ds.length)
 | .inst t,a=>jq sub t a
 | .all,a=>do
  let ds <- items a
  let bs <- opt (dm ds)
  pure (.bl (bs.all id))
 | .any,a=>do
  let ds <- items a
  let bs <- opt (dm ds)
  pure (.bl (bs.any id))
 | .sum,a=>do
  let ds <- items a
  let is <- opt (allInts ds)
  pure (.int is.sum)
 | .min,a=>do
  let ds <- items a
  let is <- opt (allInts ds)
  DI is
 | .max,a=>do
  let ds <- items a
  let is <- opt (allInts ds)
  DX is
 | .sorted,a=>do
  let ds <- items a
  zH ds
 | .sortedSet,a=>do
  let ds <- cu a
  let ts <- opt (tups ds)
  guard (decide (ts.length<=18)&&ts.all fun t=>!t.isEmpty) (alloc (.lst ((lu ts).map fun t=>.tup (t.map .int))))
 | .list,a=>do
  let ds <- items a
  alloc (.lst ds)
 | .tuple,a=>do
  let ds <- items a
  pure (.tup ds)
 | .int,a=>toInt a
 | .abs,a=>CL a
 | .vals,a=>u0 a
 | .lenS,a=>do
  let ds <- cu a
  let is <- opt (allInts ds)
  guard (decide (is.length<=18)) (pure (.int (rB is)))
 | .rev,a=>do
  let ds <- cu a
  alloc (.lst ds.reverse)
 | .iA,a=>do
  let ds <- cu a
  let is <- opt (firstsP ds)
  guard (decide (is.length<=18)) (pure (.int (rB is)))
 | .lenT,a=>wG a
 | .intT,a=>xq a
 | .str1,a=>lD a
 | .signs,a=>ja a
 | .tTo,_=>bad
 | .tFrom,_=>bad
 | .tAt,_=>bad
 | .rangeT,_=>bad
 | .rangeL,_=>bad
noncomputable def bi2:Bi->D->D->M D
 | .min=>min2
 | .max=>max2
 | .tTo=>uM
 | .tFrom=>pR
 | .tAt=>mq
 | _=>fun _ _=>bad
noncomputable def biR:Bi->List D->M D
 | .rangeT,as=>do
  let is <- opt (cS as)
  guard (fits is.length) (pure (.tup (is.map .int)))
 | .rangeL,as=>do
  let is <- opt (cS as)
  guard (fits is.length) (alloc (.lst (is.map .int)))
 | _,_=>bad
noncomputable def Bi.isR:Bi->Bool
 | .rangeT=>true
 | .rangeL=>true
 | _=>false
noncomputable def biD (sub:Sub) (b:Bi) (as:List D):M D:=match b.isR with
 | true=>biR b as
 | false=>match as with
  | [a]=>bi1 sub b a
  | [a,c]=>bi2 b a c
  | _=>bad
noncomputable def FP:D->D->M D
 | .loc l,d=>bI l fun ds=>guard (jh ds.length) (put l (.lst (ds++[d])))
 | _,_=>bad
noncomputable def FG:D->D->M D
 | .loc l,.loc k=>bI l fun ds=>bI k fun es=>guard (fits (ds.length+es.length)) (put l (.lst (ds++es)))
 | _,_=>bad
noncomputable def Eb:D->M D
 | .loc l=>bI l fun ds=>match ds.getLast? with
  | some d=>fun S=>.ok d (S.set l (.lst ds.dropLast))
  | none=>bad
 | _=>bad
noncomputable def meD (m:Me) (o:D) (as:List D):M D:=match as with
 | [d]=>match m with
  | .append=>FP o d
  | .extend=>FG o d
 | _=>bad
inductive Tg where
 | one (i:Nat)|many (is:List Nat)
abbrev Sg:=List (Option D)
noncomputable def Tg.has:Tg->Nat->Bool
 | .one i,j=>i==j
 | .many is,j=>is.contains j
noncomputable def cA:List Nat->List D->Sg->Sg
 | i::is,d::ds,σ=>cA is ds (σ.set i (some d))
 | _,_,σ=>σ
noncomputable def aV:Tg->D->Sg->M Sg
 | .one i,d,σ=>pure (σ.set i (some d))
 | .many is,.tup ds,σ=>guard (decide (ds.length=is.length)) (pure (cA is ds σ))
 | _,_,_=>bad
inductive E where
 | v (i:Nat)|c (d:D)|bin (op:Op2) (a b:E)|cmp (op:Cm) (a b:E)|chn (o o':Cm) (a b c:E)|and (a b:E)|or (a b:E)|not (a:E)|neg (a:E)|isN (a:E)|notN (a:E)|ite (c a b:E)
 | nl|cs (a r:E)|tup (es:E)|lst (es:E)|ix (a i:E)|sl (a lo hi:E)|call (f:Str) (es:E)|bi (b:Bi) (es:E)|me (m:Me) (o es:E)
 | iSeq (a:E)|iEnum (a:E)|iRng (es:E)|iZip (es:E)|comp (k:Nat) (elt:E) (t:Tg) (it ife:E)|dget (o es:E)|dnew|dgv (o i:E)|iDct (o:E)|pop (o:E)|tm (m:Tm) (o es:E)
structure Src where
 its:List D
 l:Option Nat
 raw:List D
noncomputable def aN (s:Src):M Unit:=match s.l with
 | none=>pure ()
 | some l=>fun S=>match listAt S l with
  | some ds=>guard (decide (ds=s.raw)) (pure ()) S
  | none=>.bad
noncomputable def srcOf:D->M Src
 | .tup ds=>pure ⟨ds,none,ds⟩
 | .loc l=>do
  let ds <- items (.loc l)
  pure ⟨ds,some l,ds⟩
 | .fro ds=>pure ⟨ds,none,ds⟩
 | _=>bad
noncomputable def u5:D->M Src
 | .loc l=>fun S=>match S[l]? with
  | some (.dct kvs)=>.ok ⟨kvs.map fun kv=>.tup (kv.1.map .int),none,[]⟩ (S.set l (.fdc kvs))
  | some (.fdc kvs)=>.ok ⟨kvs.map fun kv=>.tup (kv.1.map .int),none,[]⟩ S
  | _=>.bad
 | _=>bad
noncomputable def qC:List D->List D->List D
 | x::r,y::q=>.tup [x,y]::qC r q
 | _,_=>[]
noncomputable def DV:List D->M Src
 | [.tup xs,.tup ys]=>pure ⟨qC xs ys,none,[]⟩
 | _=>bad
noncomputable def num (k:Nat):List D->List D
 | []=>[]
 | d::r=>.tup [.int k,d]::num (k+1) r
noncomputable def bN (s:Src) (f:D->M (Option D)):List D->M (List D)
 | []=>do
  aN s
  pure []
 | d::ds=>do
  aN s
  let y <- f d
  let ys <- bN s f ds
  pure (match y with|some y=>y::ys|none=>ys)
noncomputable def gz:D->M (Option Int)
 | .int i=>pure (some i)
 | _=>bad
noncomputable def D.eK (S:af):D->Bool
 | .loc l=>match S[l]? with|some (.lst _)=>true|_=>false
 | _=>false
noncomputable def kJ {α:Type} (x:D) (m:M α):M α:=fun S=>guard (x.eK S) m S
noncomputable def rN (l:Nat) (f:List (List Int × D)->M D):M D:=fun S=>match S[l]? with
 | some (.dct kvs)=>f kvs S
 | _=>.bad
noncomputable def zX (a:D) (ds:List D):M D:=match a with
 | .loc l=>do
  let k <- opt (allInts ds)
  rN l fun kvs=>opt (je kvs k)
 | _=>bad
noncomputable def uf (a:D) (ds:List D) (d:D):M D:=match a with
 | .loc l=>do
  let k <- opt (allInts ds)
  rN l fun kvs=>guard (jh kvs.length) (put l (.dct (wL kvs k d)))
 | _=>bad
noncomputable def Be (a:D):D->D->M D
 | .tup ds,d=>uf a ds d
 | _,_=>bad
noncomputable def bF (σ:Sg) (i:Nat):M D:=match σ[i]? with
 | some (some d)=>pure d
 | _=>bad
noncomputable def E.bD:E->Bool
 | .nl=>true
 | _=>false
section
variable (sub:Sub) (cf:Str->List D->M D)
mutual
noncomputable def ev:E->Sg->M D
 | .v i,σ=>bF σ i
 | .c d,_=>pure d
 | .bin op a b,σ=>do
  let x <- ev a σ
  let y <- ev b σ
  opD op x y
 | .cmp op a b,σ=>do
  let x <- ev a σ
  let y <- ev b σ
  cmD op x y
 | .chn o o' a b c,σ=>do
  let x <- ev a σ
  let y <- ev b σ
  match <- cmD o x y with
   | .bl true=>do
    let z <- ev c σ
    cmD o' y z
   | .bl false=>pure (.bl false)
   | _=>bad
 | .and a b,σ=>do
  match <- ev a σ with
   | .bl true=>ev b σ
   | .bl false=>pure (.bl false)
   | _=>bad
 | .or a b,σ=>do
  match <- ev a σ with
   | .bl true=>pure (.bl true)
   | .bl false=>ev b σ
   | _=>bad
 | .not a,σ=>do
  match <- ev a σ with
   | .bl b=>pure (.bl (!b))
   | _=>bad
 | .neg a,σ=>do
  match <- ev a σ with
   | .int i=>pure (.int (-i))
   | _=>bad
 | .isN a,σ=>do
  let x <- ev a σ
  pure (.bl (decide (x=.non)))
 | .notN a,σ=>do
  let x <- ev a σ
  pure (.bl (!decide (x=.non)))
 | .ite c a b,σ=>do
  if <- evT c σ then ev a σ else ev b σ
 | .tup es,σ=>do
  let ds <- evs es σ
  guard (fits ds.length) (pure (.tup ds))
 | .lst es,σ=>do
  let ds <- evs es σ
  guard (fits ds.length) (alloc (.lst ds))
 | .ix a i,σ=>do
  let x <- ev a σ
  let y <- ev i σ
  ixD x y
 | .sl a lo hi,σ=>do
  let x <- ev a σ
  let l <- (if lo.bD then pure none else do gz (<- ev lo σ))
  let h <- (if hi.bD then pure none else do gz (<- ev hi σ))
  slD x l h
 | .call f es,σ=>do
  let ds <- evs es σ
  cf f ds
 | .bi b es,σ=>do
  let ds <- evs es σ
  biD sub b ds
 | .me m o es,σ=>do
  let x <- ev o σ
  kJ x (do
   let ds <- evs es σ
   meD m x ds)
 | .comp k elt t it ife,σ=>do
  let s <- evI it σ
  let ys <- quiet (bN s (fun d=>do
   let σ' <- aV t d (σ++List.replicate k none)
   if <- (if ife.bD then pure true else evT ife σ') then do
    let y <- ev elt σ'
    pure (some y)
   else pure none) s.its)
  guard (fits ys.length) (alloc (.lst ys))
 | .dget o es,σ=>do
  let x <- ev o σ
  let ds <- evs es σ
  guard (fits ds.length) (zX x ds)
 | .dnew,_=>alloc (.dct [])
 | .dgv o i,σ=>do
  let x <- ev o σ
  let y <- ev i σ
  AK x y
 | .iDct _,_=>bad
 | .pop o,σ=>do
  let x <- ev o σ
  Eb x
 | .tm m o es,σ=>do
  let x <- ev o σ
  iE x fun s=>do
   let ds <- evs es σ
   g9 m s ds
 | .nl,_=>bad
 | .cs _ _,_=>bad
 | .iSeq _,_=>bad
 | .iEnum _,_=>bad
 | .iRng _,_=>bad
 | .iZip _,_=>bad
noncomputable def evT:E->Sg->M Bool
 | .and a b,σ=>do
  if <- evT a σ then evT b σ else pure false
 | .or a b,σ=>do
  if <- evT a σ then pure true else evT b σ
 | .not a,σ=>do
  let b <- evT a σ
  pure (!b)
 | .v i,σ=>bF σ i>>=truth
 | .c d,_=>pure d>>=truth
 | .cmp op a b,σ=>do
  let x <- ev a σ
  let y <- ev b σ
  truth (<- cmD op x y)
 | .chn o o' a b c,σ=>do
  let x <- ev a σ
  let y <- ev b σ
  if <- truth (<- cmD o x y) then do
   let z <- ev c σ
   truth (<- cmD o' y z)
  else pure false
 | .isN a,σ=>do
  let x <- ev a σ
  pure (decide (x=.non))
 | .notN a,σ=>do
  let x <- ev a σ
  pure (!decide (x=.non))
 | .ix a i,σ=>(do
  let x <- ev a σ
  let y <- ev i σ
  ixD x y)>>=truth
 | .call f es,σ=>(do
  let ds <- evs es σ
  cf f ds)>>=truth
 | .bi b es,σ=>(do
  let ds <- evs es σ
  biD sub b ds)>>=truth
 | .tm m o es,σ=>(do
  let x <- ev o σ
  iE x fun s=>do
   let ds <- evs es σ
   g9 m s ds)>>=truth
 | _,_=>bad
noncomputable def evs:E->Sg->M (List D)
 | .nl,_=>pure []
 | .cs a r,σ=>do
  let x <- ev a σ
  let xs <- evs r σ
  pure (x::xs)
 | _,_=>bad
noncomputable def evI:E->Sg->M Src
 | .iSeq a,σ=>do srcOf (<- ev a σ)
 | .iEnum a,σ=>do
  let s <- srcOf (<- ev a σ)
  pure { s with its:=num 0 s.its }
 | .iRng es,σ=>do
  let is <- opt (cS (<- evs es σ))
  pure ⟨is.map .int,none,[]⟩
 | .iZip es,σ=>do DV (<- evs es σ)
 | .iDct a,σ=>do u5 (<- ev a σ)
 | _,_=>bad
end
end
inductive S where
 | ret (e:E)|retN|set (t:Tg) (e:E)|setIx (o i e:E)|dset (o es e:E)|dsv (o i e:E)|ex (e:E)|ite (c:E) (a b:S)|forS (t:Tg) (it:E) (b:S)|whl (c:E) (b:S)|rais (c:Str)|tryR (f:Str) (es:E) (c:Str) (d:D)|tryE (f:Str) (es:E) (c:Str) (d:D)
 | skip|seq (a b:S)|brk|cont
inductive Fl where
 | nx (σ:Sg)|rt (d:D)|bk (σ:Sg)|ct (σ:Sg)
noncomputable def forL (s:Src) (f:D->Sg->M Fl):List D->Sg->M Fl
 | [],σ=>do
  aN s
  pure (.nx σ)
 | d::ds,σ=>do
  aN s
  match <- f d σ with
   | .nx σ'=>forL s f ds σ'
   | .ct σ'=>forL s f ds σ'
   | .bk σ'=>pure (.nx σ')
   | .rt d=>pure (.rt d)
noncomputable def oh (c:Sg->M Bool) (f:Sg->M Fl):Nat->Sg->M Fl
 | 0,_=>bad
 | n+1,σ=>do
  if <- c σ then do
   match <- f σ with
    | .nx σ'=>oh c f n σ'
    | .ct σ'=>oh c f n σ'
    | .bk σ'=>pure (.nx σ')
    | .rt d=>pure (.rt d)
  else pure (.nx σ)
noncomputable def cR (c:Str) (d:D) (m:M D):M D:=fun S=>match m S with
 | .ok v S'=>.ok v S'
 | .exc c' S'=>if c'=c then .ok d S' else .bad
 | .bad=>.bad
noncomputable def kD (c:Str) (d:D) (σ:Sg) (m:M D):M Fl:=fun S=>match m S with
 | .ok _ S'=>.ok (.nx σ) S'
 | .exc c' S'=>if c'=c then .ok (.rt d) S' else .bad
 | .bad=>.bad
noncomputable def D9:Nat:=1000000
section
variable (sub:Sub) (cf:Str->List D->M D)
noncomputable def exec:S->Sg->M Fl
 | .ret e,σ=>do
  let d <- ev sub cf e σ
  pure (.rt d)
 | .retN,_=>pure (.rt .non)
 | .set t e,σ=>do
  let d <- ev sub cf e σ
  let σ' <- aV t d σ
  pure (.nx σ')
 | .setIx o i e,σ=>do
  let d <- ev sub cf e σ
  let a <- ev sub cf o σ
  let k <- ev sub cf i σ
  let _ <- Ba a k d
  pure (.nx σ)
 | .dset o es e,σ=>do
  let d <- ev sub cf e σ
  let a <- ev sub cf o σ
  let ks <- evs sub cf es σ
  let _ <- guard (fits ks.length) (uf a ks d)
  pure (.nx σ)
 | .dsv o i e,σ=>do
  let d <- ev sub cf e σ
  let a <- ev sub cf o σ
  let k <- ev sub cf i σ
  let _ <- Be a k d
  pure (.nx σ)
 | .ex e,σ=>do
  let _ <- ev sub cf e σ
  pure (.nx σ)
 | .ite c a b,σ=>do
  if <- evT sub cf c σ then exec a σ else exec b σ
 | .forS t it b,σ=>quiet (do
  let s <- evI sub cf it σ
  forL s (fun d σ=>do
   let σ' <- aV t d σ
   exec b σ') s.its σ)
 | .whl c b,σ=>quiet (oh (evT sub cf c) (exec b) D9 σ)
 | .rais c,_=>fun S=>.exc c S
 | .tryR f es c d,σ=>do
  let ds <- quiet (evs sub cf es σ)
  let v <- cR c d (cf f ds)
  pure (.rt v)
 | .tryE f es c d,σ=>do
  let ds <- quiet (evs sub cf es σ)
  kD c d σ (cf f ds)
 | .skip,σ=>pure (.nx σ)
 | .seq a b,σ=>do
  match <- exec a σ with
   | .nx σ'=>exec b σ'
   | f=>pure f
 | .brk,σ=>pure (.bk σ)
 | .cont,σ=>pure (.ct σ)
end
mutual
noncomputable def D.low (n:Nat):D->Bool
 | .tup ds=>D.lows n ds
 | .fro ds=>D.lows n ds
 | .loc l=>decide (l < n)
 | _=>true
noncomputable def D.lows (n:Nat):List D->Bool
 | []=>true
 | d::r=>D.low n d&&D.lows n r
end
noncomputable def Cell.low (n:Nat):Cell->Bool
 | .lst ds=>D.lows n ds
 | .dct _=>false
 | .fdc _=>false
noncomputable def leave (S:af) (d:D) (S':af):Res D :=
 if S'.take S.length=S then
  if d.low S.length then .ok d S
  else match d with
   | .loc l=>match S'[l]? with
    | some c=>if c.low S.length then .ok (.loc S.length) (S++[c]) else .ok d S'
    | none=>.ok d S'
   | _=>.ok d S'
 else .ok d S'
structure Fn where
 par:Nat
 names:Nat
 body:S
abbrev Prg:=List (Str × Fn)
noncomputable def aW (S:af):Res Fl->Res D
 | .ok (.rt d) S'=>leave S d S'
 | .ok (.nx _) S'=>leave S .non S'
 | .ok (.bk _) _=>.bad
 | .ok (.ct _) _=>.bad
 | .exc c S'=>if S'.take S.length=S then .exc c S else .exc c S'
 | .bad=>.bad
noncomputable def frame (F:Fn) (ds:List D):Sg:=ds.map some++List.replicate (F.names - ds.length) none
noncomputable def ai (sub:Sub) (P:Prg):Nat->Str->List D->M D
 | 0,_,_=>bad
 | n+1,f,ds=>fun S=>match P.lookup f with
  | none=>.bad
  | some F=>if ds.length=F.par then aW S (exec sub (ai sub P n) F.body (frame F ds) S) else .bad
theorem cH {sub:Sub} {P:Prg} {n:Nat} {f:Str} {ds:List D} {S:af} {F:Fn} (h:P.lookup f=some F) (hl:ds.length=F.par):ai sub P (n+1) f ds S=aW S (exec sub (ai sub P n) F.body (frame F ds) S):=by
 show (match P.lookup f with|none=>Res.bad|some F=>if ds.length=F.par then aW S (exec sub (ai sub P n) F.body (frame F ds) S) else .bad)=_
 rw [h]; simp only [hl,if_true]
theorem En {sub:Sub} {P:Prg} {n:Nat} {f:Str} {ds:List D} {S:af} {F:Fn} (h:P.lookup f=some F) (hl:ds.length≠F.par):ai sub P (n+1) f ds S=.bad:=by
 show (match P.lookup f with|none=>Res.bad|some F=>if ds.length=F.par then aW S (exec sub (ai sub P n) F.body (frame F ds) S) else .bad)=_
 rw [h]; simp only [hl,if_false]
end EV

namespace L2
open PySem PySem.Spec PyProof.Rows
section
variable {prog:Program} {w:World} {A:Around} {R:Result->Shared->Prop} {s:Shared}
theorem EH {elt target iter:Expr} {ifs:List Expr} {scope:Scope} {pos:Pos} {it acc:Value} {env:Env} (I:Nat->Shared->Prop)
  (turn:∀ n s,I n s->wpAny (model prog w) A (pyNext it) (fun r s₁=>match r with
   | none=>R (.ok .next) s₁
   | some v=>wpAny (model prog w) A (letOwnedTupleGo target it v) (fun _ s₁'=>wpAny (model prog w) A (assign target env v) (fun _ s₂ =>
     wpAny (model prog w) A (forIn ifs true fun c r=>if r=true then do let ok <- isTrue c env (eval c env); pure (ForInStep.yield ok) else pure (ForInStep.yield r)) (fun ok s₃ =>
      if ok=true then wpAny (model prog w) A (eval elt env) (fun x s₄ =>
       wpAny (model prog w) A (call (.builtin "list.append") [acc,x]) (fun _ s₅=>∃ m,m < n/\I m s₅) (fun _ _=>False) s₄) (fun _ _=>False) s₃
      else ∃ m,m < n/\I m s₃) (fun _ _=>False) s₂) (fun _ _=>False) s₁') (fun _ _=>False) s₁) (fun _ _=>False) s)
  (n:Nat) (h:I n s) :
  codeAny (model prog w) A (.compLoop (.ListComp elt [⟨target,iter,ifs,0⟩] scope pos) 0 it acc env) R s:=by
 refine codeAny_loop rfl I (fun n s hI=>?_) n h
 show wpAny _ A ((compTurn (.ListComp elt [⟨target,iter,ifs,0⟩] scope pos) 0 it acc env).onRaise (fun x=>do noteFrame x env; theTreesLotGoes x)) _ _ s
 refine wpAny_noted ?_
 rw [compTurn_list]
 refine wpAny_bind (wpAny_standAt (wpAny_bind (wpAny_mono (turn n s hI) (fun r s₁ h₁=>?_) fun _ _ h'=>h'.elim)))
 cases r with
 | none=>exact wpAny_pure h₁
 | some v =>
  refine wpAny_bind (wpAny_mono h₁ (fun _ s₁' h₁'=>?_) fun _ _ h'=>h'.elim)
  refine wpAny_bind (wpAny_mono h₁' (fun _ s₂ h₂=>wpAny_bind (wpAny_mono h₂ (fun ok s₃ h₃=>?_) fun _ _ h'=>h'.elim)) fun _ _ h'=>h'.elim)
  cases ok with
  | false=>exact wpAny_pure ⟨rfl,h₃⟩
  | true =>
   exact wpAny_bind (wpAny_bind (wpAny_mono h₃ (fun x s₄ h₄=>wpAny_bind (wpAny_mono h₄ (fun _ s₅ h₅=>wpAny_pure (wpAny_pure ⟨rfl,h₅⟩)) fun _ _ h'=>h'.elim)) fun _ _ h'=>h'.elim))
end
theorem nJ {env:Env}:∀ (names:List (Str × NameKind)) (cs:List (Str × Addr)),(∀ y∈names,y.2=.free->∃ c,env.cells.lookup y.1=some c) ->
  (∀ x c,cs.lookup x=some c->env.cells.lookup x=some c) ->
  ∃ cl,(forIn names cs fun (p:Str × NameKind) (r:List (Str × Addr))=>if (p.2==NameKind.free)=true then (do let c <- cellOf env p.1; pure (ForInStep.yield ((p.1,c)::r))) else pure (ForInStep.yield r):Sem (List (Str × Addr)))=pure cl /\
   (∀ x c,cl.lookup x=some c->env.cells.lookup x=some c)/\(∀ x c,cs.lookup x=some c->cl.lookup x=some c)/\∀ y∈names,y.2=.free->cl.lookup y.1=env.cells.lookup y.1
 | [],cs,_,hc=>⟨cs,rfl,hc,fun _ _ h=>h,fun y hy=>absurd hy (by simp)⟩
 | (x,k)::r,cs,h,hc=>by
  have hr:∀ y∈r,y.2=.free->∃ c,env.cells.lookup y.1=some c:=fun y hy=>h y (List.mem_cons_of_mem _ hy)
  by_cases hk:k=.free
  ·subst hk
   obtain ⟨c,e⟩:=h (x,.free) List.mem_cons_self rfl
   have hc':∀ z d,((x,c)::cs).lookup z=some d->env.cells.lookup z=some d:=fun z d q=>by
    by_cases hz:z=x
    ·subst hz
     rw [List.lookup_cons_self] at q
     cases q; exact e
    ·rw [List.lookup_cons,show (z==x)=false from beq_eq_false_iff_ne.mpr hz] at q
     exact hc z d q
   obtain ⟨cl,e1,e2,e3,e4⟩:=nJ r ((x,c)::cs) hr hc'
   refine ⟨cl,?_,e2,fun z d q=>?_,fun y hy hf=>?_⟩
   ·rw [List.forIn_cons]
    simp only [beq_self_eq_true,if_true]
    unfold cellOf
    rw [e]
    simp only [pure_bind]
    exact e1
   ·by_cases hz:z=x
    ·subst hz
     have:=hc z d q
     rw [e] at this
     exact e3 z d (by rw [List.lookup_cons_self]; exact this)
    ·exact e3 z d (by rw [List.lookup_cons,show (z==x)=false from beq_eq_false_iff_ne.mpr hz]; exact q)
   ·rcases List.mem_cons.mp hy with z|z
    ·subst z
     rw [e3 x c (List.lookup_cons_self),e]
    ·exact e4 y z hf
  ·have hb:(k==NameKind.free)=false:=beq_eq_false_iff_ne.mpr hk
   obtain ⟨cl,e1,e2,e3,e4⟩:=nJ r cs hr hc
   refine ⟨cl,?_,e2,e3,fun y hy hf=>?_⟩
   ·rw [List.forIn_cons]
    simp only [hb,Bool.false_eq_true,if_false,pure_bind]
    exact e1
   ·rcases List.mem_cons.mp hy with z|z
    ·subst z; exact absurd hf hk
    ·exact e4 y z hf
theorem qS {env:Env} {scope:Scope} (h:∀ y∈scope.names,y.2=.free->∃ c,env.cells.lookup y.1=some c) :
  ∃ cl,closureFor scope env=pure cl/\(∀ x c,cl.lookup x=some c->env.cells.lookup x=some c)/\∀ y∈scope.names,y.2=.free->cl.lookup y.1=env.cells.lookup y.1:=by
 obtain ⟨cl,e1,e2,_,e4⟩:=nJ (env:=env) scope.names [] h (fun x c q=>by cases q)
 refine ⟨cl,?_,e2,e4⟩
 unfold closureFor
 show ((forIn scope.names ([]:List (Str × Addr)) fun (p:Str × NameKind) (r:List (Str × Addr))=>if (p.2==NameKind.free)=true then (do let c <- cellOf env p.1; pure (ForInStep.yield ((p.1,c)::r))) else pure (ForInStep.yield r):Sem (List (Str × Addr)))>>=fun s=>pure s)=pure cl
 rw [e1]
 rfl
noncomputable def aU (X:Cx) (scope:Scope) (cl:List (Str × Addr)) (N':List Str) (fp:List Addr) (s3:Shared) (H3:Hp):Cx :=
 { X with N:=N',s₀:=s3,H₀:=H3,env:=compEnvC scope cl s3.heap.objs.size X.env,outer:=X.stack,stack:=X.stack,ex:=fp,fn:=fun x=>decide (scope.names.lookup x=some .cell),pn:=[],xe:=fun _ _=>False }
noncomputable def PF (X:Cx) (ifs:List Expr) (t:TT):Prop :=
 ∀ (pins:List (Addr × Obj)) (s:Shared) (σ:St) (H:Hp) (Q:Bool->Hp->Prop),Inv X pins σ H s->t σ H Q ->
  wpAny (model X.prog X.w) X.A (forIn ifs true fun c r=>if r=true then do let ok <- isTrue c X.env (eval c X.env); pure (ForInStep.yield ok) else pure (ForInStep.yield r)) (TP X pins σ Q) X.xe s
theorem qF {X:Cx}:PF X [] (fun _ H Q=>Q true H):=fun _ _ _ H _ I h=>wpAny_tests_nil ⟨H,I,h⟩
theorem uB {X:Cx} {c:Expr} {t:TT} (hc:PT X c t):PF X [c] t:=fun pins s σ H Q I h=>wpAny_tests_one (hc pins s σ H Q I h)
noncomputable def nk (k:Nat) (wi:TI) (g:TG) (tt:TT) (te:TE):TE:=fun σ H Q=>wi σ H fun J H1=>∀ l,H1 l=none->∃ W:Nat->Nat->Hp->Prop,(∃ m,W 0 m (upd H1 l (.lst [])))/\∀ i m H,W i m H ->
 (J.stop i H/\Q (.ref l) H)\/(J.go i H/\∀ x H',J.yld i H x H'->g x (σ++List.replicate k none) H' fun σ2 H2=>(∀ (j:Nat) v,(σ++List.replicate k none)[j]?=some (some v)->σ2[j]?=some (some v))/\tt σ2 H2 fun b H3 =>
  if b=true then te σ2 H3 fun y H4=>∃ xs,H4 l=some (.lst xs)/\xs.length < sizeLine/\∃ m',m' < m/\W (i+1) m' (upd H4 l (.lst (xs++[y]))) else ∃ m',m' < m/\W (i+1) m' H3)
theorem jO:∀ (names:List (Str × NameKind)) (n:Nat) (acc:List (Str × Addr)),cellsFrom n names acc=cellsFrom n names []++acc
 | [],_,_=>rfl
 | (x,k)::r,n,acc=>by
  unfold cellsFrom
  split
  ·rw [jO r (n+1) ((x,n)::acc),jO r (n+1) [(x,n)],List.append_assoc]; rfl
  ·exact jO r n acc
theorem lT {x:Str} {c:Addr}:∀ (names:List (Str × NameKind)) (n:Nat) (acc:List (Str × Addr)),(x,c)∈cellsFrom n names acc->(x,NameKind.cell)∈names\/(x,c)∈acc
 | [],_,_,h=>.inr h
 | (y,k)::r,n,acc,h=>by
  unfold cellsFrom at h
  split at h
  ·rename_i hk
   rcases lT r (n+1) _ h with z|z
   ·exact .inl (List.mem_cons_of_mem _ z)
   ·rcases List.mem_cons.mp z with e|e
    ·cases e
     rw [beq_iff_eq.mp hk]
     exact .inl List.mem_cons_self
    ·exact .inr e
  ·rcases lT r n acc h with z|z
   ·exact .inl (List.mem_cons_of_mem _ z)
   ·exact .inr z
theorem kW {α:Type}:∀ {l:List (Str × α)} {x:Str} {a:α},(l.map (·.1)).Nodup->(x,a)∈l->l.lookup x=some a
 | (y,b)::r,x,a,nd,h=>by
  obtain ⟨n1,n2⟩:=List.nodup_cons.mp nd
  rcases List.mem_cons.mp h with e|e
  ·cases e; exact List.lookup_cons_self
  ·have hne:x≠y:=fun z=>n1 (List.mem_map.mpr ⟨(x,a),e,z⟩)
   rw [List.lookup_cons,beq_eq_false_iff_ne.mpr hne]
   exact kW n2 e
theorem m9 {scope:Scope} {n:Nat} {cl:List (Str × Addr)} (nd:(scope.names.map (·.1)).Nodup) (x:Str):(scope.names.lookup x=some .cell/\∃ c,(cellsFrom n scope.names cl).lookup x=some c/\(x,c)∈cellsFrom n scope.names [])\/(scope.names.lookup x≠some .cell/\(cellsFrom n scope.names cl).lookup x=cl.lookup x):=by
 rw [jO]
 by_cases h:scope.names.lookup x=some .cell
 ·refine .inl ⟨h,?_⟩
  obtain ⟨c,e⟩:=nv (n:=n) h
  exact ⟨c,by rw [List.lookup_append,e]; rfl,mem_of_lookup e⟩
 ·refine .inr ⟨h,?_⟩
  cases e:(cellsFrom n scope.names []).lookup x with
  | none=>rw [List.lookup_append,e]; rfl
  | some c =>
   rcases lT _ _ _ (mem_of_lookup e) with z|z
   ·exact absurd (kW nd z) h
   ·cases z
theorem E0 {M:Model} {A:Around} {E:Value->Shared->Prop} {s:Shared} {scope:Scope} {cl:List (Str × Addr)} {g:Addr} {env:Env} {qual:Str} {Q:Env->Shared->Prop}
  (hQ:Q { scope:=scope,locals:=s.heap.objs.size,globals:=g,cells:=cellsFrom (s.heap.objs.size+1) scope.names cl,qual:=qual,func:=none,code:=env.code,frame:=env.frame,builtins:=env.builtins } { s with heap:=pushCells (s.heap.push { cls:=.type "dict",data:=.dict #[] }) scope.names }) :
  wpAny M A (newFunctionEnv scope g cl [] qual none .none (some env)) Q E s:=by
 simp only [newFunctionEnv,Option.isSome_some,if_true]
 refine wpAny_bind (wpAny_alloc ?_)
 refine wpAny_bind (wpAny_layCells _ (fun name kind cells=>by cases hkc:kind==NameKind.cell <;> simp [hkc]) _ _ _ _ ?_)
 rw [show ({ s with heap:=s.heap.push { cls:=.type "dict",data:=.dict #[] } }:Shared).heap.objs.size=s.heap.objs.size+1 from Heap.size_push ..]
 refine wpAny_bind ?_
 rw [List.forIn_nil]
 exact wpAny_pure (wpAny_pure hQ)
structure fQ (X:Cx) (scope:Scope) (N':List Str) (k:Nat):Prop where
 fr:∀ y∈scope.names,y.2=.free->X.env.kindOf y.1=some .cell\/X.env.kindOf y.1=some .free
 nd:(scope.names.map (·.1)).Nodup
 kind:scope.kind=.function
 names:∀ y∈scope.names,y.2=.local->scope.names.lookup y.1=some .local
 len:N'.length=X.N.length+k
 old:∀ (i:Nat) (x:Str),i < X.N.length->N'[i]?=some x->Vis (relabel scope X.env) x->X.N[i]?=some x/\(x,NameKind.free)∈scope.names/\(relabel scope X.env).names.lookup x≠some .local
section
variable {X:Cx} {scope:Scope} {N':List Str} {k:Nat} {cl:List (Str × Addr)} {pins:List (Addr × Obj)} {σ:St} {H:Hp} {s3 s4:Shared} {fp:List Addr}
theorem F5 (C:fQ X scope N' k) (hc:X.calm=true) (I:Inv X pins σ H s3) (hf:∀ b∈fp,di X pins H b) (hfl:∀ b∈fp,b < s3.heap.objs.size) (hcl1:∀ x c,cl.lookup x=some c->X.env.cells.lookup x=some c)
  (hcl2:∀ y∈scope.names,y.2=.free->cl.lookup y.1=X.env.cells.lookup y.1) {cl':List (Str × Addr)} (hcl':cl'=cellsFrom (s3.heap.objs.size+1) scope.names cl) (h':Heap) (hns:h'.Ns s3.heap.objs.size fun _=>none) (hk:∀ b o,s3.heap.get? b=some o->h'.get? b=some o) (hown:CellsOk h' (s3.heap.objs.size+1) (cellsFrom (s3.heap.objs.size+1) scope.names [])) :
  Inv (aU X scope cl' N' fp s3 H) [] (σ++List.replicate k none) H { s3 with heap:=h' }:=by
 have fpold:∀ b∈fp,∀ o,X.base.get? b≠some o:=fun b hb o e=>by
  rcases (hf b hb).2.2.2.1 with z|z
  ·exact I.ok.noex b o e z
  ·exact absurd (Nat.lt_of_lt_of_le (Heap.lt_size (I.ok.bs b o e).1) z) (Nat.lt_irrefl _)
 have own:∀ x c,cl'.lookup x=some c->(scope.names.lookup x=some .cell/\(x,c)∈cellsFrom (s3.heap.objs.size+1) scope.names []/\s3.heap.objs.size < c/\h'.IsCell c none)\/(scope.names.lookup x≠some .cell/\cl.lookup x=some c):=fun x c e=>by
  rw [hcl'] at e
  rcases m9 (n:=s3.heap.objs.size+1) (cl:=cl) C.nd x with ⟨h1,c',e1,e2⟩|⟨h1,e1⟩
  ·rw [e1] at e; cases e
   have:=hown.empty x c e2
   exact .inl ⟨h1,e2,this.2,this.1⟩
  ·rw [e1] at e; exact .inr ⟨h1,e⟩
 have fre:∀ y∈scope.names,y.2=.free->cl'.lookup y.1=X.env.cells.lookup y.1:=fun y hy hf=>by
  rw [hcl']
  rcases m9 (n:=s3.heap.objs.size+1) (cl:=cl) C.nd y.1 with ⟨h1,_⟩|⟨_,e1⟩
  ·have:=kW C.nd (show (y.1,y.2)∈scope.names from hy)
   rw [h1,hf] at this; cases this
  ·rw [e1]; exact hcl2 y hy hf
 have ncl:∀ x c,cl.lookup x=some c->c < s3.heap.objs.size:=fun x c e=>by
  obtain ⟨v,o,ho,_⟩:=I.cell x c (hcl1 x c e)
  exact Heap.lt_size ho
 have ok:(aU X scope cl' N' fp s3 H).Ok:=by
  refine ⟨I.ok.mod,C.kind,I.ok.glob,I.ok.blt,Nat.le_refl _,fun x y c h1 h2=>?_,fun x hx=>?_,fun x c hfn e=>?_,I.ok.hd,I.ok.frames,.inl rfl,fun b hb=>?_,I.bs,Nat.le_trans I.ok.bsz I.sz,fun b o e hb=>fpold b hb o e,fun b hb hb2=>?_,I.stack,I.mE⟩
  ·rcases own x c h1 with ⟨a1,a2,a3,a4⟩|⟨a1,a2⟩
   ·rcases own y c h2 with ⟨b1,b2,b3,b4⟩|⟨b1,b2⟩
    ·exact name_of_addr hown.apart a2 b2
    ·exact absurd (ncl y c b2) (Nat.lt_asymm a3)
   ·rcases own y c h2 with ⟨b1,b2,b3,b4⟩|⟨b1,b2⟩
    ·exact absurd (ncl x c a2) (Nat.lt_asymm b3)
    ·exact I.ok.inj x y c (hcl1 x c a2) (hcl1 y c b2)
  ·have hx':(relabel scope X.env).names.lookup x=some .cell\/(relabel scope X.env).names.lookup x=some .free:=hx
   have:(x,NameKind.free)∈scope.names\/(x,NameKind.cell)∈scope.names:=by
    have all:∀ (ns:List (Str × NameKind)),((ns.map fun (n,k)=>if (k==.free&&X.env.scope.kind==.function&&X.env.kindOf n==some .cell) then (n,NameKind.cell) else (n,k)).lookup x=some .cell\/(ns.map fun (n,k)=>if (k==.free&&X.env.scope.kind==.function&&X.env.kindOf n==some .cell) then (n,NameKind.cell) else (n,k)).lookup x=some .free)->(x,NameKind.free)∈ns\/(x,NameKind.cell)∈ns:=by
     intro ns
     induction ns with
     | nil=>intro h; rcases h with h|h <;> simp at h
     | cons y r ih =>
      intro h
      obtain ⟨n,kd⟩:=y
      have hr:=ih
      simp only [List.map_cons] at h
      by_cases hxn:x=n
      ·subst hxn
       by_cases hkf:kd=.free
       ·subst hkf; exact .inl List.mem_cons_self
       ·have hb:(kd==NameKind.free)=false:=beq_eq_false_iff_ne.mpr hkf
        simp only [hb,Bool.false_and,Bool.false_eq_true,if_false,List.lookup_cons_self] at h
        rcases h with h|h
        ·rw [Option.some.inj h]; exact .inr List.mem_cons_self
        ·exact absurd (Option.some.inj h) hkf
      ·have hb:(x==n)=false:=beq_eq_false_iff_ne.mpr hxn
       refine (hr ?_).imp (List.mem_cons_of_mem _) (List.mem_cons_of_mem _)
       by_cases hcnd:(kd==NameKind.free&&X.env.scope.kind==.function&&X.env.kindOf n==some .cell)=true
       ·simp only [if_pos hcnd,List.lookup_cons,hb] at h
        exact h
       ·simp only [if_neg hcnd,List.lookup_cons,hb] at h
        exact h
    exact all scope.names hx'
   rcases this with this|this
   ·obtain ⟨c,e⟩:=I.ok.has x (C.fr _ this rfl)
    exact ⟨c,(fre _ this rfl).trans e⟩
   ·rcases m9 (n:=s3.heap.objs.size+1) (cl:=cl) C.nd x with ⟨h1,c',e1,e2⟩|⟨h1,_⟩
    ·exact ⟨c',by show cl'.lookup x=_; rw [hcl']; exact e1⟩
    ·exact absurd (kW C.nd this) h1
  ·rcases own x c e with ⟨a1,a2,a3,a4⟩|⟨a1,a2⟩
   ·exact Nat.le_of_lt a3
   ·exact absurd (of_decide_eq_true hfn) a1
  ·obtain ⟨f0,f1,f2,f3,f4,f5⟩:=hf b hb
   refine ⟨?_,fun x c e=>?_⟩
   rotate_left
   ·rcases own x c e with ⟨a1,a2,a3,a4⟩|⟨a1,a2⟩
    ·exact fun z=>absurd (hfl b hb) (by rw [<- z]; exact Nat.lt_asymm a3)
    ·exact f4 x c (hcl1 x c a2)
   intro z
   have hz:b=s3.heap.objs.size:=z
   exact absurd (hfl b hb) (by rw [hz]; exact Nat.lt_irrefl _)
  ·obtain ⟨f0,f1,f2,f3,f4,f5⟩:=hf b hb
   rcases List.mem_cons.mp (I.ly b hb2) with z|z
   ·exact f1 z
   ·exact f2 z
 refine ⟨ok,rfl,I.bare,Un.kept hk,⟨fun _=>none,hns,fun i x v e1 e2 e3=>?_⟩,fun x c e=>?_,I.hok.fresh (Nat.le_refl _),fun x c e=>?_,fun p hp=>absurd (show p∈([]:List (Addr × Obj)) from hp) (by simp),I.hok.kept hk,?_⟩
 ·have hi:i < σ.length:=by
   by_cases hi:i < σ.length
   ·exact hi
   ·rw [List.getElem?_append_right (by omega),List.getElem?_replicate] at e2
    split at e2 <;> cases e2
  rw [List.getElem?_append_left hi] at e2
  obtain ⟨o1,o2,o3⟩:=C.old i x (by rw [<- I.len]; exact hi) e1 e3
  obtain ⟨m,hn,hl⟩:=I.loc
  have hkk:=C.fr _ o2 rfl
  obtain ⟨u,r,l⟩:=hl i x v o1 e2 (by rcases hkk with q|q; exact .inr (.inl q); exact .inr (.inr q))
  refine ⟨u,r,?_⟩
  rcases l with ⟨q,_⟩|⟨q,c,e,z⟩
  ·rcases hkk with q'|q' <;> (rw [q] at q'; cases q')
  ·refine .inr ⟨?_,c,(fre _ o2 rfl).trans e,?_⟩
   ·rcases e3 with e3|e3|e3
    ·exact absurd e3 o3
    ·exact .inl e3
    ·exact .inr e3
   ·obtain ⟨o,ho,hd⟩:=z
    exact ⟨o,hk _ _ ho,hd⟩
 ·rcases own x c e with ⟨a1,a2,a3,a4⟩|⟨a1,a2⟩
  ·exact ⟨none,a4⟩
  ·obtain ⟨v,o,ho,hd⟩:=I.cell x c (hcl1 x c a2)
   exact ⟨v,o,hk _ _ ho,hd⟩
 ·rcases own x c e with ⟨a1,a2,a3,a4⟩|⟨a1,a2⟩
  ·exact I.hok.fresh (Nat.le_of_lt a3)
  ·exact I.freeC x c (hcl1 x c a2)
 ·show (σ++List.replicate k none).length=N'.length
  rw [List.length_append,List.length_replicate,I.len,C.len]
theorem oN {elt iter tg:Expr} {ifs:List Expr} {pos:Pos} {g:TG} {tt:TT} {te:TE} {it:Addr} {tn:Nat->Heap->Prop} {J:It} {s2:Shared} {Q:VK} {E:Value->Shared->Prop} (C:fQ X scope N' k) (hc:X.calm=true)
  (hg:∀ cl fp s3 H3,PG (aU X scope cl N' fp s3 H3) tg g) (htt:∀ cl fp s3 H3,PF (aU X scope cl N' fp s3 H3) ifs tt) (hte:∀ cl fp s3 H3,PE (aU X scope cl N' fp s3 H3) elt te)
  (hcl1:∀ x c,cl.lookup x=some c->X.env.cells.lookup x=some c) (hcl2:∀ y∈scope.names,y.2=.free->cl.lookup y.1=X.env.cells.lookup y.1)
  (I2:Inv X pins σ H s2) (T:Turn X.prog X.w X.K tg J fp it tn) (st2:tn 0 s2.heap) (f2:∀ b∈fp,di X pins H b)
  (h2:∀ l,H l=none->∃ W:Nat->Nat->Hp->Prop,(∃ m,W 0 m (upd H l (.lst [])))/\∀ i m H,W i m H ->
   (J.stop i H/\Q (.ref l) H)\/(J.go i H/\∀ x H',J.yld i H x H'->g x (σ++List.replicate k none) H' fun σ2 H2=>(∀ (j:Nat) v,(σ++List.replicate k none)[j]?=some (some v)->σ2[j]?=some (some v))/\tt σ2 H2 fun b H3 =>
    if b=true then te σ2 H3 fun y H4=>∃ xs,H4 l=some (.lst xs)/\xs.length < sizeLine/\∃ m',m' < m/\W (i+1) m' (upd H4 l (.lst (xs++[y]))) else ∃ m',m' < m/\W (i+1) m' H3))
  {R:Value->Addr->Result->Shared->Prop} (hR:∀ l c H' s' m,Inv X pins σ H' s'->Q (.ref l) H'->s'.heap.Ns c m->di X pins H' c->R (.ref l) c (.ok .next) s') :
  wpAny (model X.prog X.w) X.A (newList []) (fun acc s₃=>wpAny (model X.prog X.w) X.A (newFunctionEnv scope X.env.globals cl [] X.env.qual none .none (some X.env)) (fun cenv s₄ =>
   codeAny (model X.prog X.w) X.A (.compStart (.ListComp elt [⟨tg,iter,ifs,0⟩] scope pos) 0 (.ref it) acc { cenv with scope:=relabel scope X.env }) (R acc cenv.locals) s₄) E s₃) E s2:=by
 refine wpAny_newObj_type ?_
 have hl0:H s2.heap.objs.size=none:=I2.hok.fresh (Nat.le_refl _)
 obtain ⟨W,⟨m0,w0⟩,turn⟩:=h2 s2.heap.objs.size hl0
 have I3:Inv X pins σ (upd H s2.heap.objs.size (.lst [])) { s2 with heap:=s2.heap.push { cls:=.type "list",data:=.seq ([]:List Value).toArray } } :=
  I2.laid (t':=s2.toks) (fun b u e=>Heap.get?_push_of_some _ e) (Nat.le_refl _) ⟨by show 0<=_; omega,[],0,.nil,Heap.get?_push_size _ rfl⟩
 have obj2:∀ b∈fp,∃ o,s2.heap.get? b=some o/\∀ v,o.data≠.cell v:=T.obj _ _ st2
 have lt2:∀ b∈fp,b < s2.heap.objs.size:=fun b hb=>let ⟨o,e,_⟩:=obj2 b hb; Heap.lt_size e
 have f3:∀ b∈fp,di X pins (upd H s2.heap.objs.size (.lst [])) b:=fun b hb=>⟨by rw [aK (Nat.ne_of_lt (lt2 b hb))]; exact (f2 b hb).1,(f2 b hb).2⟩
 generalize hs3:({ s2 with heap:=s2.heap.push { cls:=.type "list",data:=.seq ([]:List Value).toArray } }:Shared)=s3 at I3 ⊢
 have st3:tn 0 s3.heap:=T.keep _ _ _ st2 fun b hb o e=>by rw [<- hs3]; exact Heap.get?_push_of_some _ e
 generalize hH3:upd H s2.heap.objs.size (.lst [])=H3 at I3 w0 f3
 generalize s2.heap.objs.size=l at turn ⊢ w0
 clear hs3 hH3
 have obj3:∀ b∈fp,∃ o,s3.heap.get? b=some o/\∀ v,o.data≠.cell v:=T.obj _ _ st3
 have lt3:∀ b∈fp,b < s3.heap.objs.size:=fun b hb=>let ⟨o,e,_⟩:=obj3 b hb; Heap.lt_size e
 refine E0 ?_
 have hown:=cellsFrom_ok scope.names (s3.heap.push { cls:=.type "dict",data:=.dict #[] }) (s3.heap.objs.size+1) [] ⟨fun _ _ hm=>(nomatch hm),List.Pairwise.nil⟩ (by rw [Heap.size_push]; exact Nat.le_refl _)
 rw [Heap.size_push] at hown
 have hns₁:(pushCells (s3.heap.push { cls:=.type "dict",data:=.dict #[] }) scope.names).Ns s3.heap.objs.size fun _=>none:=(Heap.Ns.new s3.heap (.type "dict")).keeps (pushCells_keeps _ _)
 have hk1:∀ b o,s3.heap.get? b=some o->(pushCells (s3.heap.push { cls:=.type "dict",data:=.dict #[] }) scope.names).get? b=some o:=fun b o e=>pushCells_keeps _ _ b o (Heap.get?_push_of_some _ e)
 generalize hcl':cellsFrom (s3.heap.objs.size+1) scope.names cl=cl'
 generalize pushCells (s3.heap.push { cls:=.type "dict",data:=.dict #[] }) scope.names=h₁ at hown hns₁ hk1
 have I4:Inv (aU X scope cl' N' fp s3 H3) [] (σ++List.replicate k none) H3 { s3 with heap:=h₁ }:=F5 C hc I3 f3 lt3 hcl1 hcl2 hcl'.symm h₁ hns₁ hk1 hown
 have st4:tn 0 h₁:=T.keep _ _ _ st3 fun b _ o e=>hk1 b o e
 have stat:∀ {H':Hp},(∀ b∈fp,H' b=none)->∀ b∈fp,di (aU X scope cl' N' fp s3 H3) [] H' b:=fun {H'} hn b hb =>
  ⟨hn b hb,(I4.ok.exf b hb).1,I4.ok.exfs b hb,.inl hb,(I4.ok.exf b hb).2,fun p hp=>absurd (show p∈([]:List (Addr × Obj)) from hp) (by simp)⟩
 have loop:∀ s4:Shared,s4={ s3 with heap:=h₁ } ->
   codeAny (model X.prog X.w) X.A (.compLoop (.ListComp elt [⟨tg,iter,ifs,0⟩] scope pos) 0 (.ref it) (.ref l) (compEnvC scope cl' s3.heap.objs.size X.env)) (R (.ref l) s3.heap.objs.size) s4:=by
  rintro s4 rfl
  refine EH (env:=(aU X scope cl' N' fp s3 H3).env) (fun n s'=>∃ i H',Inv (aU X scope cl' N' fp s3 H3) [] (σ++List.replicate k none) H' s'/\tn i s'.heap/\(∀ b∈fp,H' b=none)/\W i n H') ?_ m0 ⟨0,H3,I4,st4,fun b hb=>(f3 b hb).1,w0⟩
  rintro n s5 ⟨i,H5,I5,st5,fr5,w5⟩
  rcases turn i n H5 w5 with ⟨stop,qn⟩|⟨go,step⟩
  ·refine thn (T.done (aU X scope cl' N' fp s3 H3) rfl rfl rfl hc i [] s5 _ H5 _ I5 (stat fr5) st5 stop) fun r s6 ⟨hr,I6⟩=>?_
   subst hr
   obtain ⟨m,hnm,_⟩:=I6.loc
   have I7:Inv X pins σ H5 s6:=I3.l6 (ch:=fp) I6.os I6.base I6.hok I6.bare fun b hb=>⟨(f3 b hb).2.2.2.1,(f3 b hb).2.1,(f3 b hb).2.2.2.2.1,(f3 b hb).2.2.2.2.2⟩
   exact hR l _ H5 s6 m I7 qn hnm (I3.gf (Nat.le_refl _) I6.free)
  ·refine thn (T.item (aU X scope cl' N' fp s3 H3) rfl rfl rfl hc i [] s5 _ H5 _ I5 (stat fr5) st5 go) fun r s6 ⟨u,hr,h6⟩=>?_
   subst hr
   refine thn h6 fun _ s7 ⟨x,H7,I7,r7,y7,st7,fr7⟩=>?_
   have I7':=I7.pinned (stat fr7) (T.obj _ _ st7)
   refine thn (hg cl' fp s3 H3 _ s7 _ H7 x u _ I7' r7 (step x H7 y7)) fun _ s8 ⟨σ8,H8,I8,w8,q8⟩=>?_
   refine thn (htt cl' fp s3 H3 _ s8 σ8 H8 _ I8 q8) fun b s9 ⟨H9,I9,q9⟩=>?_
   have again:∀ {H':Hp} {s':Shared},Inv (aU X scope cl' N' fp s3 H3) ([]++i_ fp s7.heap) σ8 H' s'->(∃ m',m' < n/\W (i+1) m' H') ->
     ∃ m,m < n/\∃ i H',Inv (aU X scope cl' N' fp s3 H3) [] (σ++List.replicate k none) H' s'/\tn i s'.heap/\(∀ b∈fp,H' b=none)/\W i m H':=fun {H' s'} I' ⟨m',hm,w'⟩=>by
    refine ⟨m',hm,i+1,H',(I'.jM).weak (by rw [I'.len]; exact I4.len) w8,T.keep _ _ _ st7 fun b hb o e=>(I'.pin (b,o) (List.mem_append_right _ (List.mem_append_right _ (jL hb e)))).1,fun b hb=>?_,w'⟩
    obtain ⟨o,e,d⟩:=T.obj _ _ st7 b hb
    exact (I'.pin (b,o) (List.mem_append_right _ (List.mem_append_right _ (jL hb e)))).2.1
   cases b with
   | false=>exact again I9 (by simpa using q9)
   | true =>
    rw [if_pos rfl]
    rw [if_pos rfl] at q9
    refine thn (hte cl' fp s3 H3 _ s9 σ8 H9 _ I9 q9) fun y s10 ⟨yv,H10,I10,r10,xs,hl10,hz,q10⟩=>?_
    refine thn (pF (X:=aU X scope cl' N' fp s3 H3) _ s10 σ8 H10 (.ref l) [yv] (.ref l) [y] (fun _ H'=>∃ m',m' < n/\W (i+1) m' H') I10 rfl (.cons r10 .nil) ⟨l,xs,yv,rfl,rfl,hl10,hz,q10⟩) fun _ s11 ⟨_,H11,I11,_,q11⟩=>again I11 q11
 exact codeAny_compStart_list (loop _ rfl) (T.self _ 0 _ _ _ st4 (loop _ rfl))
theorem wK {elt iter tg:Expr} {ifs:List Expr} {pos:Pos} {wi:TI} {g:TG} {tt:TT} {te:TE} (C:fQ X scope N' k) (hc:X.calm=true) (hi:PI X tg iter wi)
  (hg:∀ cl fp s3 H3,PG (aU X scope cl N' fp s3 H3) tg g) (htt:∀ cl fp s3 H3,PF (aU X scope cl N' fp s3 H3) ifs tt) (hte:∀ cl fp s3 H3,PE (aU X scope cl N' fp s3 H3) elt te)
  (hs:∀ x,foldedSetIterable iter X.env x=pure x:=by intro _; rfl):PE X (.ListComp elt [⟨tg,iter,ifs,0⟩] scope pos) (nk k wi g tt te):=by
 intro pins s σ H Q I h
 rw [eval_ListComp]
 obtain ⟨cl,e1,e2,e3⟩:=qS (env:=X.env) (scope:=scope) fun y hy hf=>I.ok.has y.1 (C.fr y hy hf)
 refine wpAny_comprehension_free (use:=none) rfl hs e1 C.kind C.names (thn (hi pins s σ H _ I h) fun v s1 h1=>thn h1 fun itv s2 h2=>?_)
 obtain ⟨it,fp,tn,J,H2,e,I2,T,st2,f2,h2⟩:=h2
 subst e
 refine oN (R:=fun acc c=>compPost (model X.prog X.w) X.A X.xe none (EP X pins σ Q) acc c) C hc hg htt hte e2 e3 I2 T st2 f2 h2 fun l c H' s' m I' q hn fc=>?_
 obtain ⟨f0,f1,f2,f3,f4,f5⟩:=fc
 exact ⟨m,hn,fun h' hsb=>⟨.ref l,H',I'.turned (t':=s'.toks) (fun b o hb e=>(hsb.2 b hb).trans e) f0 f1 f3 f4 f5,rfl,q⟩⟩
theorem yW {elt iter tg:Expr} {ifs:List Expr} {pos:Pos} {wi:TI} {g:TG} {tt:TT} {te:TE} {j:Nat} {y:Str} {py spos:Pos} (C:fQ X scope N' k) (hc:X.calm=true) (hi:PI X tg iter wi)
  (hg:∀ cl fp s3 H3,PG (aU X scope cl N' fp s3 H3) tg g) (htt:∀ cl fp s3 H3,PF (aU X scope cl N' fp s3 H3) ifs tt) (hte:∀ cl fp s3 H3,PE (aU X scope cl N' fp s3 H3) elt te)
  (hN:X.N.Nodup) (hj:X.N[j]?=some y) (hy:X.env.scope.names.lookup y=some .local)
  (hsw:swapsWith (.ListComp elt [⟨tg,iter,ifs,0⟩] scope pos) (some (.Name y py)) spos.line X.env=pure true)
  (hs:∀ x,foldedSetIterable iter X.env x=pure x:=by intro _; rfl):PS X (.Assign [.Name y py] (.ListComp elt [⟨tg,iter,ifs,0⟩] scope pos) spos) (oF (nk k wi g tt te) (iL j)):=by
 intro pins s σ H D I h
 rw [exec_Assign_Name_used _ _ _ _ hsw]
 refine wpAny_bind (wpAny_standAt (wpAny_bind ?_))
 show wpAny _ X.A (do let _ <- comprehension (.ListComp elt [⟨tg,iter,ifs,0⟩] scope pos) scope X.env _ (newList []) false (eval iter X.env) (some (assign (.Name y py) X.env))) _ _ s
 obtain ⟨cl,e1,e2,e3⟩:=qS (env:=X.env) (scope:=scope) fun y hy hf=>I.ok.has y.1 (C.fr y hy hf)
 refine wpAny_bind (wpAny_mono (wpAny_comprehension_free (use:=some (assign (.Name y py) X.env)) (Q:=fun _ s'=>SP X pins D .next s') rfl hs e1 C.kind C.names
  (thn (hi pins s σ H _ I h) fun v s1 h1=>thn h1 fun itv s2 h2=>?_)) (fun _ s' hq=>wpAny_pure (wpAny_pure hq)) fun _ _ e=>e)
 obtain ⟨it,fp,tn,J,H2,e,I2,T,st2,f2,h2⟩:=h2
 subst e
 refine oN (Q:=fun x H1=>iL j x σ H1 D.nx) (R:=fun acc c=>compPost (model X.prog X.w) X.A X.xe (some (assign (.Name y py) X.env)) (fun _ s'=>SP X pins D .next s') acc c) C hc hg htt hte e2 e3 I2 T st2 f2 h2 fun l c H' s' m I' q hn fc=>?_
 obtain ⟨f0,f1,f2,f3,f4,f5⟩:=fc
 show wpAny _ X.A (assign (.Name y py) X.env (.ref l)) _ _ _
 refine wpAny_assign_Name (mW I' hN hj (.inl hy) (v:=.ref l) rfl (fun s'' I'' ch=>?_) (.inr hy))
 obtain ⟨a,hsb,ha⟩:=ch
 have hac:c≠a:=by
  rcases ha with z|z
  ·rw [z]; exact f1
  ·exact fun w=>f4 y a z w.symm
 refine ⟨m,hn.sameBut hsb hac,fun h' hsb2=>⟨_,H',I''.turned (t':=s''.toks) (fun b o hb e=>(hsb2.2 b hb).trans e) f0 f1 f3 f4 f5,q⟩⟩
end
end L2

namespace L2
open PySem PySem.Spec PyProof.Rows
section
variable {X:Cx}
theorem qM:∀ {ys:List Str} {its:List Value},Vals (ys.map V.str) its->StrsAre its ys
 | [],_,.nil=>.nil
 | y::r,_,.cons h t=>by
  obtain ⟨u,rfl⟩:=h
  exact .cons y u (qM t)
theorem qE:∀ (l:List (Str × Tok)),Vals ((l.map (·.1)).map V.str) (strValues l)
 | []=>.nil
 | (y,t)::r=>.cons ⟨t,rfl⟩ (qE r)
theorem Dj:MtR X "str.split" (fun x vs H Q=>∃ a b,x=.str a/\vs=[.str b]/\(b.length==0)=false/\a.length+2<=sizeLine/\∀ p,H p=none->Q (.ref p) (upd H p (.lst ((Txt.split a b).map V.str)))):=by
 intro pins s σ H x vs v us Q I rx rv h
 obtain ⟨a,b,rfl,rfl,hb,hz,q⟩:=h
 obtain ⟨t,rfl⟩:=rx
 obtain ⟨u,rfl,ru⟩:=rv.one
 obtain ⟨t2,rfl⟩:=ru
 have hn:(Builtin.Str.partsBetween a (Builtin.Str.occurrences a b 0 a.length (a.length+1)) b.length).length<=sizeLine:=by
  have e1:=StrLaws.occ_length_le a b 0 a.length (a.length+1)
  rw [length_partsBetween]; omega
 have fin:∀ (l:List (Str × Tok)) (k:Nat),l.map (·.1)=Txt.split a b->(Txt.split a b).length<=sizeLine->EP X pins σ Q (.ref s.heap.objs.size) { s with heap:=s.heap.push { cls:=.type "list",data:=.seq (strValues l).toArray },toks:=k }:=fun l k e hl=>by
  refine ⟨.ref _,_,I.laid (t':=k) (o:=.lst ((Txt.split a b).map V.str)) (fun b ob q=>Heap.get?_push_of_some _ q) (Nat.le_refl _) ?_,rfl,q _ (I.hok.fresh (Nat.le_refl _))⟩
  exact ⟨by rw [List.length_map]; exact hl,strValues l,0,by rw [<- e]; exact qE l,Heap.get?_push_size _ rfl⟩
 have hs1:(1:Nat)<=sizeLine:=by rw [sizeLine_eq]; decide
 cases h1:(decide (a.length < b.length)||decide (Builtin.Str.strKind a < Builtin.Str.strKind b)) with
 | true =>
  have e:Txt.split a b=[a]:=if_pos h1
  exact call_meets F.slot_str_split (typeIs_str s a t) F.entry_str_split (F.args_str_split_2 _ _) (meets_str_split_cannot_occur a b t t2 h1) (fin [(a,t)] s.toks (by rw [e]; rfl) (by rw [e]; exact hs1))
 | false =>
  cases hf:(Builtin.Str.occurrences a b 0 a.length (a.length+1)).isEmpty with
  | true =>
   have e:Txt.split a b=[a]:=(if_neg (by rw [h1]; decide)).trans (if_pos hf)
   exact call_meets F.slot_str_split (typeIs_str s a t) F.entry_str_split (F.args_str_split_2 _ _) (meets_str_split_not_found a b t t2 h1 hb hf) (fin [(a,t)] s.toks (by rw [e]; rfl) (by rw [e]; exact hs1))
  | false =>
   have e:Txt.split a b=Builtin.Str.partsBetween a (Builtin.Str.occurrences a b 0 a.length (a.length+1)) b.length:=(if_neg (by rw [h1]; decide)).trans (if_neg (by rw [hf]; decide))
   refine call_meets F.slot_str_split (typeIs_str s a t) F.entry_str_split (F.args_str_split_2 _ _) (meets_str_split_sep a b t t2 h1 hb hf (by omega) hn) ?_
   rw [strsFrom_eq]
   exact fin _ _ ((numbered_texts _ _).trans e.symm) (by rw [e]; exact hn)
theorem u9:MtR X "str.partition" (fun x vs H Q=>∃ a b,x=.str a/\vs=[.str b]/\(b.length==0)=false/\a.length<=sizeLine/\∀ p,H p=none->Q (.ref p) (upd H p (.tup [.str (Txt.partition a b).1,.str (Txt.partition a b).2.1,.str (Txt.partition a b).2.2]))):=by
 intro pins s σ H x vs v us Q I rx rv h
 obtain ⟨a,b,rfl,rfl,hb,hz,q⟩:=h
 obtain ⟨t,rfl⟩:=rx
 obtain ⟨u,rfl,ru⟩:=rv.one
 obtain ⟨t2,rfl⟩:=ru
 have fin:∀ (x y z:Str) (t3 t4 t5 k:Nat),Txt.partition a b=(x,y,z)->EP X pins σ Q (.ref s.heap.objs.size) { s with heap:=s.heap.push { cls:=.type "tuple",data:=.seq #[.str x t3,.str y t4,.str z t5] },toks:=k }:=fun x y z t3 t4 t5 k e=>by
  rw [e] at q
  refine ⟨.ref _,_,I.laid (t':=k) (o:=.tup [.str x,.str y,.str z]) (fun b ob q=>Heap.get?_push_of_some _ q) (Nat.le_refl _) ?_,rfl,q _ (I.hok.fresh (Nat.le_refl _))⟩
  exact ⟨by rw [sizeLine_eq]; show 3<=16777216; decide,[.str x t3,.str y t4,.str z t5],.cons ⟨t3,rfl⟩ (.cons ⟨t4,rfl⟩ (.cons ⟨t5,rfl⟩ .nil)),_,Heap.get?_push_size _ rfl,rfl,0,rfl⟩
 refine call_meets F.slot_str_partition (typeIs_str s a t) F.entry_str_partition (F.args_str_partition_2 _ _) (meets_str_partition a b t t2 hb hz) ?_
 cases ho:Builtin.Str.occurrences a b 0 a.length 1 with
 | nil=>exact fin _ _ _ _ _ _ _ (by unfold Txt.partition; rw [ho])
 | cons i r=>exact fin _ _ _ _ _ _ _ (by unfold Txt.partition; rw [ho])
theorem FD:MtR X "str.startswith" (fun x vs H Q=>∃ a b,x=.str a/\vs=[.str b]/\Q (.bl (Txt.startswith a b)) H):=by
 intro pins s σ H x vs v us Q I rx rv h
 obtain ⟨a,b,rfl,rfl,q⟩:=h
 obtain ⟨t,rfl⟩:=rx
 obtain ⟨u,rfl,ru⟩:=rv.one
 obtain ⟨t2,rfl⟩:=ru
 exact SC.startswith ⟨.bl _,H,I,rfl,q⟩
theorem EI:MtR X "str.join" (fun x vs H Q=>∃ a l ys,x=.str a/\vs=[.ref l]/\SqL X.K H l (ys.map V.str)/\(ys.map (fun x=>x.length)).sum+ys.length * a.length<=16777216/\Q (.str (Txt.join a ys)) H):=by
 intro pins s σ H x vs v us Q I rx rv h
 obtain ⟨a,l,ys,rfl,rfl,sq,hz,q⟩:=h
 obtain ⟨t,rfl⟩:=rx
 obtain ⟨u,rfl,ru⟩:=rv.one
 cases ru
 obtain ⟨its,r,pl,_⟩:=I.list sq
 exact join_list pl.isList (qM r) hz fun t' k=>⟨.str _,H,I.tok _,⟨_,rfl⟩,q⟩
theorem Fe:b_ X (.type "str") (fun xs H Q=>∃ a,xs=[.str a]/\Q (.str a) H):=by
 intro pins s σ H xs us Q I rv h
 obtain ⟨a,rfl,q⟩:=h
 obtain ⟨u,rfl,ru⟩:=rv.one
 obtain ⟨t,rfl⟩:=ru
 exact P.str_of_str ⟨.str a,H,I,⟨_,rfl⟩,q⟩
theorem xg:b_ X (.type "int") (fun xs H Q=>∃ a n,xs=[.str a]/\intText? a=some n/\a.length<=640/\Q (.int n) H):=by
 intro pins s σ H xs us Q I rv h
 obtain ⟨a,n,rfl,hn,hz,q⟩:=h
 obtain ⟨u,rfl,ru⟩:=rv.one
 obtain ⟨t,rfl⟩:=ru
 exact PySem.W.KIN.call_text hn hz ⟨.int n,H,I.tok _,⟨_,rfl⟩,q⟩
theorem sW:SlR X (fun x lo hi H Q=>∃ z,x=.str z/\z.length<=sizeLine/\Q (.str (Txt.slice z lo hi)) H):=by
 intro pins s σ H x v vl vu lo hi sl Q I rx hs pl pu h
 obtain ⟨z,rfl,hz,q⟩:=h
 obtain ⟨t,rfl⟩:=rx
 refine ⟨"str",_,F.slot_str_getitem.lookup,typeIs_str s z t,?_⟩
 have key:∀ (l u:Option (Int × Tok)),s.heap.IsSlice sl l u none->l.map (·.1)=lo->u.map (·.1)=hi->wpAny (model X.prog X.w) X.A (getItem (.str z t) (.ref sl)) (EP X pins σ Q) X.xe s:=fun l u hS e1 e2=>by
  subst e1 e2
  exact wpAny_getItem_str_slice hS rfl (post_val_or_str ⟨Nat.le_trans (Txt.slice_le z _ _) hz,fun t' k=>⟨.str _,H,I.tok _,⟨_,rfl⟩,q⟩⟩)
 cases pl with
 | none =>
  cases pu with
  | none=>exact key none none hs rfl rfl
  | int j t'=>exact key none (some (j,t')) hs rfl rfl
 | int i t' =>
  cases pu with
  | none=>exact key (some (i,t')) none hs rfl rfl
  | int j t2=>exact key (some (i,t')) (some (j,t2)) hs rfl rfl
end
noncomputable def Its (x:Str):It:=⟨fun i _=>i < x.cps.size,fun i H v H'=>H'=H/\∃ c,x.cps[i]?=some c/\v=.str ⟨#[c]⟩,fun i _=>x.cps.size<=i⟩
theorem Fv {P:Program} {w:World} {K:PySem.W.Frag} {tg:Expr} (x:Str) (t:Tok) (it:Addr):Turn P w K tg (Its x) [it] it (fun i h=>i<=x.cps.size/\h.IsStrIter it "str_ascii_iterator" x t i) where
 mem:=by simp
 obj:=fun i h st b hb=>by
  have e:b=it:=by simpa using hb
  subst e
  obtain ⟨_,o,e,c,d⟩:=st
  exact ⟨o,e,fun v z=>by rw [d] at z; cases z⟩
 keep:=fun i h h' st k=>⟨st.1,by obtain ⟨_,o,e,r⟩:=st; exact ⟨o,k it (by simp) o e,r⟩⟩
 item:=by
  intro X hP hw hK hc i pins s σ H E I hf st hg
  subst hP hw hK
  have hg:i < x.cps.size:=hg
  obtain ⟨f0,f1,f2,f3,f4,f5⟩:=hf it (by simp)
  refine (Walks.strAscii (I.ok.hd hc) it x t).item i s _ _ hg st.2 fun v h' tk hv st' kp=>?_
  have I1:Inv X pins σ H { s with heap:=h',toks:=tk }:=I.turned (t':=tk) (fun b o hb e=>kp b o (by simpa using hb) e) f0 f1 f3 f4 f5
  obtain ⟨c,u,hcp,rfl⟩:=hv
  refine ⟨_,rfl,?_⟩
  have go:∀ {Q:Unit->Shared->Prop} {s:Shared},Q () s->wpAny (model X.prog X.w) X.A (letOwnedTupleGo tg (.ref it) (.str ⟨#[c]⟩ u)) Q E s:=fun hQ=>by
   unfold letOwnedTupleGo
   cases tg <;> exact wpAny_pure hQ
  exact go ⟨.str ⟨#[c]⟩,H,I1,⟨_,rfl⟩,⟨rfl,c,hcp,rfl⟩,⟨hg,st'⟩,fun b hb=>(hf b hb).1⟩
 done:=by
  intro X hP hw hK hc i pins s σ H E I hf st hg
  subst hP hw hK
  have hg:x.cps.size<=i:=hg
  have e:i=x.cps.size:=Nat.le_antisymm st.1 hg
  subst e
  obtain ⟨f0,f1,f2,f3,f4,f5⟩:=hf it (by simp)
  exact (Walks.strAscii (I.ok.hd hc) it x t).done s _ _ st.2 fun h' tk kp=>⟨rfl,I.turned (t':=tk) (fun b o hb e=>kp b o (by simpa using hb) e) f0 f1 f3 f4 f5⟩
 self:=fun _ _ _ _ _ st h=>wpAny_pyIter_striter_ascii st.2 h
noncomputable def Ea (tl:TE):TI:=fun σ H R=>tl σ H fun x H1=>∃ z,x=.str z/\(z.cps.all fun c=>decide (c < 128))=true/\R (Its z) H1
theorem xW {X:Cx} {tg l:Expr} {tl:TE} (hl:PE X l tl):PI X tg l (Ea tl):=by
 intro pins s σ H R I h
 refine thn (hl pins s σ H _ I h) fun v s1 ⟨x,H1,I1,r1,q1⟩=>?_
 obtain ⟨z,e,ha,q⟩:=q1
 subst e
 obtain ⟨t,rfl⟩:=r1
 refine wpAny_pyIter_ascii ha ?_
 refine ⟨s1.heap.objs.size,[s1.heap.objs.size],_,_,H1,rfl,I1.kept (t':=s1.toks) fun b o e=>Heap.get?_push_of_some _ e,Fv z t _,⟨Nat.zero_le _,_,Heap.get?_push_size _ rfl,rfl,rfl⟩,fun b hb=>?_,q⟩
 have e:b=s1.heap.objs.size:=by simpa using hb
 subst e
 exact I1.gf (Nat.le_refl _) (I1.hok.fresh (Nat.le_refl _))
end L2

namespace EV
open PySem PyProof.Rows
theorem dG (x:Str):tx x.cps.toList=x:=by
 unfold tx
 rw [Array.toArray_toList]
theorem qW {c:Nat}:∀ {xs:List Nat},c ∉ xs->aT c xs=[xs]
 | [],_=>rfl
 | a::r,h=>by
  have h1:a≠c:=fun e=>h (by rw [e]; exact List.mem_cons_self)
  have ih:=qW (xs:=r) fun z=>h (List.mem_cons_of_mem _ z)
  show (if a=c then []::aT c r else match aT c r with|h::t=>(a::h)::t|[]=>[[a]])=_
  rw [if_neg h1,ih]
theorem qk {c:Nat} {ys:List Nat}:∀ {xs:List Nat},c ∉ xs->aT c (xs++c::ys)=xs::aT c ys
 | [],_=>by
  show (if c=c then []::aT c ys else _)=_
  rw [if_pos rfl]
 | a::r,h=>by
  have h1:a≠c:=fun e=>h (by rw [e]; exact List.mem_cons_self)
  have ih:=qk (ys:=ys) (xs:=r) fun z=>h (List.mem_cons_of_mem _ z)
  show (if a=c then []::aT c (r++c::ys) else match aT c (r++c::ys) with|h::t=>(a::h)::t|[]=>[[a]])=_
  rw [if_neg h1,ih]
noncomputable def glue (c:Nat):List (List Nat)->List Nat
 | []=>[]
 | [p]=>p
 | p::q::r=>p++c::glue c (q::r)
theorem jW {c:Nat}:∀ {ps:List (List Nat)},ps≠[]->(∀ p∈ps,c ∉ p)->aT c (glue c ps)=ps
 | [],h,_=>absurd rfl h
 | [p],_,h=>qW (h p List.mem_cons_self)
 | p::q::r,_,h=>by
  show aT c (p++c::glue c (q::r))=_
  rw [qk (h p List.mem_cons_self),jW (by simp) fun x hx=>h x (List.mem_cons_of_mem _ hx)]
theorem qt (c:Nat):∀ ps:List Str,(Str.join ⟨#[c]⟩ ps).cps.toList=glue c (ps.map fun p=>p.cps.toList)
 | []=>rfl
 | [p]=>rfl
 | p::q::r=>by
  rw [Str.join.eq_3 _ _ _ (by simp)]
  show (p.cps++#[c]++(Str.join ⟨#[c]⟩ (q::r)).cps).toList=_
  rw [Array.toList_append,Array.toList_append,qt c (q::r)]
  show p.cps.toList++[c]++_=p.cps.toList++c::_
  rw [List.append_assoc]; rfl
theorem FE (x:Str) (c:Nat):Txt.split x ⟨#[c]⟩=(aT c x.cps.toList).map tx:=by
 have h1:=StrLaws.join_split x ⟨#[c]⟩
 have h2:=StrLaws.split_free x c
 have h3:=split_pos x ⟨#[c]⟩
 generalize Txt.split x ⟨#[c]⟩=ps at h1 h2 h3
 have e:x.cps.toList=glue c (ps.map fun p=>p.cps.toList):=by rw [<- h1,qt]
 rw [e,jW (by intro z; rw [List.map_eq_nil_iff.mp z] at h3; exact absurd h3 (by decide)) (fun p hp=>by
  obtain ⟨q,hq,rfl⟩:=List.mem_map.mp hp
  exact h2 q hq),List.map_map]
 have:(tx ∘ fun p:Str=>p.cps.toList)=id:=funext fun p=>dG p
 rw [this,List.map_id]
theorem subAt_one (x:Str) (c i:Nat) (h:i < x.length):Builtin.Str.subAt x ⟨#[c]⟩ i=decide (x.cps.toList[i]?=some c):=by
 have hi:i < x.cps.size:=h
 have e:x.cps.extract i (i+1)=#[x.cps[i]]:=by
  apply Array.ext
  ·simp; omega
  ·intro j h1 h2
   have:j=0:=by simp at h2; omega
   subst this
   simp
 show (x.cps.extract i (i+1)==#[c])=_
 rw [e,Array.getElem?_toList,Array.getElem?_eq_getElem hi]
 by_cases q:x.cps[i]=c
 ·rw [q,decide_eq_true rfl]; simp
 ·rw [decide_eq_false (by simpa using q)]; simpa using q
theorem lO (x:Str) (c i:Nat):StrLaws.At x ⟨#[c]⟩ x.length i ↔ x.cps.toList[i]?=some c:=by
 constructor
 ·rintro ⟨h1,h2⟩
  have h1:i+1<=x.length:=h1
  rw [subAt_one x c i (by omega)] at h2
  exact of_decide_eq_true h2
 ·intro h
  have hi:i < x.length:=by
   have:=(List.getElem?_eq_some_iff.mp h).1
   rw [Array.length_toList] at this
   exact this
  exact ⟨hi,by rw [subAt_one x c i hi]; exact decide_eq_true h⟩
theorem qH {c:Nat}:∀ {xs:List Nat} {i:Nat},xs[i]?=some c->(∀ k,k < i->xs[k]?≠some c)->xs.takeWhile (fun a=>a != c)=xs.take i/\xs.dropWhile (fun a=>a != c)=xs.drop i
 | [],i,h,_=>by simp at h
 | a::r,0,h,_=>by
  have e:a=c:=by simpa using h
  subst e
  constructor
  ·rw [List.takeWhile_cons_of_neg (by simp)]; rfl
  ·rw [List.dropWhile_cons_of_neg (by simp)]; rfl
 | a::r,i+1,h,hk=>by
  have h1:a≠c:=fun e=>hk 0 (by omega) (by rw [e]; rfl)
  obtain ⟨e1,e2⟩:=qH (xs:=r) (i:=i) (by simpa using h) fun k hk'=>by
   have:=hk (k+1) (by omega)
   simpa using this
  constructor
  ·rw [List.takeWhile_cons_of_pos (by simpa using h1),e1]; rfl
  ·rw [List.dropWhile_cons_of_pos (by simpa using h1),e2]; rfl
theorem vL (x:Str) (c:Nat):[D.str (Txt.partition x ⟨#[c]⟩).1,.str (Txt.partition x ⟨#[c]⟩).2.1,.str (Txt.partition x ⟨#[c]⟩).2.2]=dP c x.cps.toList:=by
 unfold dP Txt.partition
 rcases StrLaws.occ_head x ⟨#[c]⟩ 1 (Nat.le_refl _) with ⟨e,hn⟩|⟨i,r,e,hi,hk⟩
 ·rw [e,if_neg (fun hm=>by
   obtain ⟨i,hi⟩:=List.getElem?_of_mem hm
   exact hn i ((lO x c i).mpr hi)),dG]
  rfl
 ·have h1:=(lO x c i).mp hi
  obtain ⟨e1,e2⟩:=qH h1 fun k hk' z=>hk k hk' ((lO x c k).mpr z)
  rw [e,if_pos (List.mem_of_getElem? h1),e1,e2,List.drop_drop]
  have a1:Builtin.Str.strSub x 0 i=tx (x.cps.toList.take i):=by
   unfold Builtin.Str.strSub tx
   congr 1
   apply Array.ext'
   simp
  have a2:Builtin.Str.strSub x (i+1) x.length=tx (x.cps.toList.drop (i+1)):=by
   unfold Builtin.Str.strSub tx
   congr 1
   apply Array.ext'
   simp [Str.length]
   exact List.take_of_length_le (by rw [List.length_drop,Array.length_toList]; exact Nat.le_refl _)
  show [D.str (Builtin.Str.strSub x 0 i),D.str ⟨#[c]⟩,D.str (Builtin.Str.strSub x (i+1) x.length)]=_
  rw [a1,a2]
theorem DY (x:Str) (c:Nat):Txt.startswith x ⟨#[c]⟩=decide (x.cps.toList.head?=some c):=by
 unfold Txt.startswith
 show (decide (0+1<=x.length)&&Builtin.Str.subAt x ⟨#[c]⟩ 0)=_
 by_cases h:0 < x.length
 ·rw [decide_eq_true (show 0+1<=x.length by omega),Bool.true_and,subAt_one x c 0 h,List.head?_eq_getElem?]
 ·rw [decide_eq_false (show ¬ 0+1<=x.length by omega),Bool.false_and,decide_eq_false]
  intro z
  have:x.cps.toList≠[]:=fun e=>by rw [e] at z; cases z
  exact h (by have:=List.length_pos_iff.mpr this; rw [Array.length_toList] at this; exact this)
theorem iY {x y:Str} (h:x.cps.toList=y.cps.toList):x=y:=by
 rw [<- dG x,<- dG y,h]
theorem qY (a:Str):∀ (y:Str) (r:List Str),(dN a (y::r)).cps.toList=r.foldl (fun acc p=>acc++a.cps.toList++p.cps.toList) y.cps.toList
 | y,[]=>rfl
 | y,z::r=>by
  have aux:∀ (r:List Str) (u v:List Nat),r.foldl (fun acc p=>acc++a.cps.toList++p.cps.toList) (u++v)=u++r.foldl (fun acc p=>acc++a.cps.toList++p.cps.toList) v:=fun r=>by
   induction r with
   | nil=>intro u v; rfl
   | cons w r ih=>intro u v; rw [List.foldl_cons,List.foldl_cons,List.append_assoc,List.append_assoc,ih,List.append_assoc]
  show ((y.cps++a.cps)++(dN a (z::r)).cps).toList=_
  rw [Array.toList_append,Array.toList_append,qY a z r,List.foldl_cons,aux]
theorem join_eq (a:Str) (ys:List Str):Txt.join a ys=dN a ys:=by
 refine iY ?_
 show (Builtin.Str.glued a ys).cps.toList=_
 unfold Builtin.Str.glued
 cases ys with
 | nil=>rfl
 | cons y r =>
  rw [qY]
  show (r.foldl (fun acc p=>acc++a.cps++p.cps) y.cps).toList=_
  have aux:∀ (r:List Str) (u:Array Nat),(r.foldl (fun acc p=>acc++a.cps++p.cps) u).toList=r.foldl (fun acc p=>acc++a.cps.toList++p.cps.toList) u.toList:=fun r=>by
   induction r with
   | nil=>intro u; rfl
   | cons w r ih=>intro u; rw [List.foldl_cons,List.foldl_cons,ih,Array.toList_append,Array.toList_append]
  exact aux r y.cps
theorem Cu {x:Str} {j:Int} (h1:-(x.length:Int)<=j) (h2:j<=(x.length:Int)):Txt.slice x none (some j)=tx (x.cps.toList.take (if j < 0 then (j+(x.length:Int)).toNat else j.toNat)):=by
 have key:∀ k:Int,0<=k->k<=(x.length:Int)->Txt.slice x none (some k)=tx (x.cps.toList.take k.toNat):=fun k k1 k2=>by
  have:=slice_closes_to (x:=x) (j:=k) ⟨k1,by simpa [Str.length] using k2⟩
  have:=eq_of_beq this
  rw [this,Int.sub_zero]; rfl
 by_cases hj:j < 0
 ·rw [if_pos hj,slice_to_neg hj,show max 0 ((x.length:Int)+j)=j+(x.length:Int) by omega]
  exact key _ (by omega) (by omega)
 ·rw [if_neg hj]; exact key j (by omega) h2
theorem C0 {x:Str} {j:Int} (h1:0<=j):Txt.slice x (some j) none=tx (x.cps.toList.drop j.toNat):=by
 by_cases h:j<=(x.length:Int)
 ·rw [slice_from_eq h1 h rfl]
  unfold tx
  congr 2
  refine List.take_of_length_le ?_
  rw [List.length_drop,Array.length_toList]
  have:x.cps.size=x.length:=rfl
  omega
 ·rw [slice_from_beyond (by omega),List.drop_of_length_le (by
   rw [Array.length_toList]
   have:x.cps.size=x.length:=rfl
   omega)]
  rfl
theorem FY {x:Str} (h:x.cps.toList.all cI=true) (h1:1<=x.length) (h4:x.length<=4):intText? x=some ((valN x.cps.toList:Nat):Int):=by
 refine intText_digits (fun c hc=>?_) ?_ (by omega)
 ·have:=List.all_eq_true.mp h c hc
  unfold cI at this
  rw [Bool.and_eq_true] at this
  exact ⟨of_decide_eq_true this.1,of_decide_eq_true this.2⟩
 ·intro z
  have:x.cps.size=0:=by rw [<- Array.length_toList,z]; rfl
  have:x.length=0:=this
  omega
end EV

namespace EV
open PySem
variable {α β:Type}
noncomputable def Res.bind (r:Res α) (f:α->af->Res β):Res β:=match r with
 | .ok a S=>f a S
 | .exc c S=>.exc c S
 | .bad=>.bad
@[simp] theorem Res.ao (a:α) (S:af) (f:α->af->Res β):(Res.ok a S).bind f=f a S:=id rfl
@[simp] theorem Res.dS (c:Str) (S:af) (f:α->af->Res β):(Res.exc c S:Res α).bind f=.exc c S:=id rfl
@[simp] theorem Res.bz (f:α->af->Res β):(Res.bad:Res α).bind f=.bad:=id rfl
theorem av (m:M α) (f:α->M β) (S:af):(m>>=f) S=(m S).bind fun a S'=>f a S':=by
 rw [bB]; cases m S <;> rfl
@[simp] theorem uZ (a:α) (S:af):(pure a:M α) S=.ok a S:=id rfl
@[simp] theorem iX (b:Bool) (m:M α) (S:af):guard b m S=if b=true then m S else .bad:=by cases b <;> rfl
@[simp] theorem gZ (a:α) (S:af):opt (some a) S=.ok a S:=id rfl
@[simp] theorem rD (c:Cell) (S:af):alloc c S=.ok (.loc S.length) (S++[c]):=id rfl
theorem yK (m:M α) (S:af):quiet m S=match m S with|.ok a S'=>.ok a S'|_=>.bad:=rfl
theorem fV {m:M α} {S S':af} {a:α} (h:m S=.ok a S'):quiet m S=.ok a S':=by rw [yK,h]
section
variable (sub:Sub) (cf:Str->List D->M D) (σ:Sg) (S:af)
@[simp] theorem Eo (i:Nat):ev sub cf (.v i) σ S=bF σ i S:=id rfl
@[simp] theorem GY (d:D):ev sub cf (.c d) σ S=.ok d S:=id rfl
@[simp] theorem Gu (o:Op2) (a b:E):ev sub cf (.bin o a b) σ S=(ev sub cf a σ S).bind fun x S1=>(ev sub cf b σ S1).bind fun y S2=>opD o x y S2:=by
 show (ev sub cf a σ>>=fun x=>ev sub cf b σ>>=fun y=>opD o x y) S=_
 simp only [av]
@[simp] theorem rR (o:Cm) (a b:E):ev sub cf (.cmp o a b) σ S=(ev sub cf a σ S).bind fun x S1=>(ev sub cf b σ S1).bind fun y S2=>cmD o x y S2:=by
 show (ev sub cf a σ>>=fun x=>ev sub cf b σ>>=fun y=>cmD o x y) S=_
 simp only [av]
@[simp] theorem Ax (o o':Cm) (a b c:E):ev sub cf (.chn o o' a b c) σ S=(ev sub cf a σ S).bind fun x S1=>(ev sub cf b σ S1).bind fun y S2=>(cmD o x y S2).bind fun r S3=>match r with
  | .bl true=>(ev sub cf c σ S3).bind fun z S4=>cmD o' y z S4
  | .bl false=>.ok (.bl false) S3
  | _=>.bad:=by
 show (ev sub cf a σ>>=fun x=>ev sub cf b σ>>=fun y=>cmD o x y>>=fun r=>match r with|.bl true=>ev sub cf c σ>>=fun z=>cmD o' y z|.bl false=>pure (D.bl false)|_=>bad) S=_
 simp only [av]
 congr 1; funext x S1; congr 1; funext y S2; congr 1; funext r S3
 cases r <;> first|rfl|(rename_i b; cases b <;> simp [av])
@[simp] theorem vA (a b:E):ev sub cf (.and a b) σ S=(ev sub cf a σ S).bind fun r S1=>match r with|.bl true=>ev sub cf b σ S1|.bl false=>.ok (.bl false) S1|_=>.bad:=by
 show (ev sub cf a σ>>=fun r=>match r with|.bl true=>ev sub cf b σ|.bl false=>pure (D.bl false)|_=>bad) S=_
 rw [av]; congr 1; funext r S1
 cases r <;> first|rfl|(rename_i b; cases b <;> rfl)
@[simp] theorem Ff (a:E):ev sub cf (.neg a) σ S=(ev sub cf a σ S).bind fun r S1=>match r with|.int i=>.ok (.int (-i)) S1|_=>.bad:=by
 show (ev sub cf a σ>>=fun r=>match r with|.int i=>pure (D.int (-i))|_=>bad) S=_
 rw [av]; congr 1; funext r S1; cases r <;> rfl
@[simp] theorem u6 (a:E):ev sub cf (.isN a) σ S=(ev sub cf a σ S).bind fun r S1=>.ok (.bl (decide (r=.non))) S1:=by
 show (ev sub cf a σ>>=fun r=>pure (D.bl (decide (r=.non)))) S=_
 rw [av]; rfl
@[simp] theorem qh (c a b:E):ev sub cf (.ite c a b) σ S=(evT sub cf c σ S).bind fun k S1=>if k=true then ev sub cf a σ S1 else ev sub cf b σ S1:=by
 show (evT sub cf c σ>>=fun k=>if k=true then ev sub cf a σ else ev sub cf b σ) S=_
 rw [av]; congr 1; funext k S1; cases k <;> rfl
@[simp] theorem Dw:evs sub cf .nl σ S=.ok [] S:=id rfl
@[simp] theorem uW (a r:E):evs sub cf (.cs a r) σ S=(ev sub cf a σ S).bind fun x S1=>(evs sub cf r σ S1).bind fun xs S2=>.ok (x::xs) S2:=by
 show (ev sub cf a σ>>=fun x=>evs sub cf r σ>>=fun xs=>pure (x::xs)) S=_
 simp only [av]; rfl
@[simp] theorem A5 (es:E):ev sub cf (.tup es) σ S=(evs sub cf es σ S).bind fun ds S1=>if fits ds.length=true then .ok (.tup ds) S1 else .bad:=by
 show (evs sub cf es σ>>=fun ds=>guard (fits ds.length) (pure (D.tup ds))) S=_
 rw [av]; simp only [iX,uZ]
@[simp] theorem Dd (es:E):ev sub cf (.lst es) σ S=(evs sub cf es σ S).bind fun ds S1=>if fits ds.length=true then .ok (.loc S1.length) (S1++[.lst ds]) else .bad:=by
 show (evs sub cf es σ>>=fun ds=>guard (fits ds.length) (alloc (.lst ds))) S=_
 rw [av]; simp only [iX,rD]
@[simp] theorem Br (a i:E):ev sub cf (.ix a i) σ S=(ev sub cf a σ S).bind fun x S1=>(ev sub cf i σ S1).bind fun y S2=>ixD x y S2:=by
 show (ev sub cf a σ>>=fun x=>ev sub cf i σ>>=fun y=>ixD x y) S=_
 simp only [av]
noncomputable def jw (e:E) (S:af):Res (Option Int):=if e.bD=true then .ok none S else (ev sub cf e σ S).bind fun d S1=>gz d S1
@[simp] theorem FJ (a lo hi:E):ev sub cf (.sl a lo hi) σ S=(ev sub cf a σ S).bind fun x S1=>(jw sub cf σ lo S1).bind fun l S2=>(jw sub cf σ hi S2).bind fun h S3=>slD x l h S3:=by
 show (ev sub cf a σ>>=fun x=>(if lo.bD=true then pure none else ev sub cf lo σ>>=gz)>>=fun l=>(if hi.bD=true then pure none else ev sub cf hi σ>>=gz)>>=fun h=>slD x l h) S=_
 simp only [av]
 congr 1; funext x S1
 unfold jw
 cases lo.bD <;> cases hi.bD <;> simp [av]
@[simp] theorem xE (f:Str) (es:E):ev sub cf (.call f es) σ S=(evs sub cf es σ S).bind fun ds S1=>cf f ds S1:=by
 show (evs sub cf es σ>>=fun ds=>cf f ds) S=_
 rw [av]
@[simp] theorem vf (b:Bi) (es:E):ev sub cf (.bi b es) σ S=(evs sub cf es σ S).bind fun ds S1=>biD sub b ds S1:=by
 show (evs sub cf es σ>>=fun ds=>biD sub b ds) S=_
 rw [av]
@[simp] theorem tw (m:Me) (o es:E):ev sub cf (.me m o es) σ S=(ev sub cf o σ S).bind fun x S1=>if x.eK S1=true then (evs sub cf es σ S1).bind fun ds S2=>meD m x ds S2 else .bad:=by
 show (ev sub cf o σ>>=fun x=>kJ x (evs sub cf es σ>>=fun ds=>meD m x ds)) S=_
 rw [av]; congr 1; funext x S1
 show guard (x.eK S1) (evs sub cf es σ>>=fun ds=>meD m x ds) S1=_
 rw [iX,av]
theorem gv (k:Nat) (el:E) (t:Tg) (it tt:E):ev sub cf (.comp k el t it tt) σ S=(evI sub cf it σ S).bind fun s S1=>(quiet (bN s (fun d=>aV t d (σ++List.replicate k none)>>=fun σ'=>(if tt.bD=true then pure true else evT sub cf tt σ')>>=fun b=>if b=true then ev sub cf el σ'>>=fun y=>pure (some y) else pure none) s.its) S1).bind fun ys S2=>if fits ys.length=true then .ok (.loc S2.length) (S2++[.lst ys]) else .bad:=by
 show (evI sub cf it σ>>=fun s=>quiet (bN s (fun d=>aV t d (σ++List.replicate k none)>>=fun σ'=>(if tt.bD=true then pure true else evT sub cf tt σ')>>=fun b=>if b=true then ev sub cf el σ'>>=fun y=>pure (some y) else pure none) s.its)>>=fun ys=>guard (fits ys.length) (alloc (.lst ys))) S=_
 simp only [av,iX,rD]
@[simp] theorem uF (a b:E):evT sub cf (.and a b) σ S=(evT sub cf a σ S).bind fun k S1=>if k=true then evT sub cf b σ S1 else .ok false S1:=by
 show (evT sub cf a σ>>=fun k=>if k=true then evT sub cf b σ else pure false) S=_
 rw [av]; congr 1; funext k S1; cases k <;> rfl
@[simp] theorem qZ (a b:E):evT sub cf (.or a b) σ S=(evT sub cf a σ S).bind fun k S1=>if k=true then .ok true S1 else evT sub cf b σ S1:=by
 show (evT sub cf a σ>>=fun k=>if k=true then pure true else evT sub cf b σ) S=_
 rw [av]; congr 1; funext k S1; cases k <;> rfl
@[simp] theorem wg (a:E):evT sub cf (.not a) σ S=(evT sub cf a σ S).bind fun k S1=>.ok (!k) S1:=by
 show (evT sub cf a σ>>=fun k=>pure (!k)) S=_
 rw [av]; rfl
@[simp] theorem Aq (o:Cm) (a b:E):evT sub cf (.cmp o a b) σ S=(ev sub cf a σ S).bind fun x S1=>(ev sub cf b σ S1).bind fun y S2=>(cmD o x y S2).bind fun r S3=>truth r S3:=by
 show (ev sub cf a σ>>=fun x=>ev sub cf b σ>>=fun y=>cmD o x y>>=fun r=>truth r) S=_
 simp only [av]
@[simp] theorem Dq (o o':Cm) (a b c:E):evT sub cf (.chn o o' a b c) σ S=(ev sub cf a σ S).bind fun x S1=>(ev sub cf b σ S1).bind fun y S2=>(cmD o x y S2).bind fun r S3=>(truth r S3).bind fun k S4=>if k=true then (ev sub cf c σ S4).bind fun z S5=>(cmD o' y z S5).bind fun r S6=>truth r S6 else .ok false S4:=by
 show (ev sub cf a σ>>=fun x=>ev sub cf b σ>>=fun y=>cmD o x y>>=fun r=>truth r>>=fun k=>if k=true then ev sub cf c σ>>=fun z=>cmD o' y z>>=fun r=>truth r else pure false) S=_
 simp only [av]
 congr 1; funext x S1; congr 1; funext y S2; congr 1; funext r S3; congr 1; funext k S4
 cases k <;> simp [av]
@[simp] theorem Ay (a:E):evT sub cf (.isN a) σ S=(ev sub cf a σ S).bind fun r S1=>.ok (decide (r=.non)) S1:=by
 show (ev sub cf a σ>>=fun r=>pure (decide (r=.non))) S=_
 rw [av]; rfl
@[simp] theorem zu (f:Str) (es:E):evT sub cf (.call f es) σ S=(ev sub cf (.call f es) σ S).bind fun d S1=>truth d S1:=by
 show (ev sub cf (.call f es) σ>>=truth) S=_
 rw [av]
@[simp] theorem AO (b:Bi) (es:E):evT sub cf (.bi b es) σ S=(ev sub cf (.bi b es) σ S).bind fun d S1=>truth d S1:=by
 show (ev sub cf (.bi b es) σ>>=truth) S=_
 rw [av]
@[simp] theorem F0 (a:E):evI sub cf (.iSeq a) σ S=(ev sub cf a σ S).bind fun d S1=>srcOf d S1:=by
 show (ev sub cf a σ>>=srcOf) S=_
 rw [av]
@[simp] theorem GD (a:E):evI sub cf (.iEnum a) σ S=(ev sub cf a σ S).bind fun d S1=>(srcOf d S1).bind fun s S2=>.ok { s with its:=num 0 s.its } S2:=by
 show (ev sub cf a σ>>=fun d=>srcOf d>>=fun s=>pure { s with its:=num 0 s.its }) S=_
 simp only [av]; rfl
@[simp] theorem Bj (es:E):evI sub cf (.iRng es) σ S=(evs sub cf es σ S).bind fun ds S1=>(opt (cS ds) S1).bind fun is S2=>.ok ⟨is.map .int,none,[]⟩ S2:=by
 show (evs sub cf es σ>>=fun ds=>opt (cS ds)>>=fun is=>pure (⟨is.map .int,none,[]⟩:Src)) S=_
 simp only [av]; rfl
@[simp] theorem kH (e:E):exec sub cf (.ret e) σ S=(ev sub cf e σ S).bind fun d S1=>.ok (.rt d) S1:=by
 show (ev sub cf e σ>>=fun d=>pure (Fl.rt d)) S=_
 rw [av]; rfl
@[simp] theorem mG (t:Tg) (e:E):exec sub cf (.set t e) σ S=(ev sub cf e σ S).bind fun d S1=>(aV t d σ S1).bind fun σ' S2=>.ok (.nx σ') S2:=by
 show (ev sub cf e σ>>=fun d=>aV t d σ>>=fun σ'=>pure (Fl.nx σ')) S=_
 simp only [av]; rfl
@[simp] theorem o5 (e:E):exec sub cf (.ex e) σ S=(ev sub cf e σ S).bind fun _ S1=>.ok (.nx σ) S1:=by
 show (ev sub cf e σ>>=fun _=>pure (Fl.nx σ)) S=_
 rw [av]; rfl
@[simp] theorem k_ (c:E) (a b:EV.S):exec sub cf (.ite c a b) σ S=(evT sub cf c σ S).bind fun k S1=>if k=true then exec sub cf a σ S1 else exec sub cf b σ S1:=by
 show (evT sub cf c σ>>=fun k=>if k=true then exec sub cf a σ else exec sub cf b σ) S=_
 rw [av]; congr 1; funext k S1; cases k <;> rfl
theorem Ag (t:Tg) (it:E) (b:EV.S):exec sub cf (.forS t it b) σ S=quiet (evI sub cf it σ>>=fun s=>forL s (fun d σ=>aV t d σ>>=fun σ'=>exec sub cf b σ') s.its σ) S:=rfl
@[simp] theorem xm:exec sub cf .skip σ S=.ok (.nx σ) S:=id rfl
noncomputable def gp (b:EV.S) (r:Res Fl):Res Fl:=r.bind fun f S1=>match f with|.nx σ'=>exec sub cf b σ' S1|f=>.ok f S1
@[simp] theorem sJ (b:EV.S) (σ':Sg) (S1:af):gp sub cf b (.ok (.nx σ') S1)=exec sub cf b σ' S1:=id rfl
@[simp] theorem vt (b:EV.S) (d:D) (S1:af):gp sub cf b (.ok (.rt d) S1)=.ok (.rt d) S1:=id rfl
@[simp] theorem gH (a b:EV.S):exec sub cf (.seq a b) σ S=gp sub cf b (exec sub cf a σ S):=by
 show (exec sub cf a σ>>=fun f=>match f with|.nx σ'=>exec sub cf b σ'|f=>pure f) S=_
 rw [av]; unfold gp; congr 1; funext f S1; cases f <;> rfl
end
theorem cJ {sub:Sub} {cf:Str->List D->M D} {σ:Sg} {S:af} {c e:E} {r:EV.S} (h:evT sub cf c σ S=.ok true S):exec sub cf (.seq (.ite c (.ret e) .skip) r) σ S=exec sub cf (.ret e) σ S:=by
 rw [gH,k_,h,kH]
 show gp sub cf r (exec sub cf (.ret e) σ S)=_
 rw [kH]
 cases ev sub cf e σ S <;> rfl
theorem eB {sub:Sub} {cf:Str->List D->M D} {σ:Sg} {S:af} {c:E} {a r:EV.S} (h:evT sub cf c σ S=.ok false S):exec sub cf (.seq (.ite c a .skip) r) σ S=exec sub cf r σ S:=by
 rw [gH,k_,h]
 show gp sub cf r (exec sub cf .skip σ S)=_
 rw [xm,sJ]
theorem yU {sub:Sub} {cf:Str->List D->M D} {σ σ':Sg} {S S':af} {a r:EV.S} (h:exec sub cf a σ S=.ok (.nx σ') S'):exec sub cf (.seq a r) σ S=exec sub cf r σ' S':=by
 rw [gH,h,sJ]
theorem v_ {sub:Sub} {cf:Str->List D->M D} {σ:Sg} {S:af} {i:Nat} {e:E} {r:EV.S} {d:D} {S':af} (h:ev sub cf e σ S=.ok d S'):exec sub cf (.seq (.set (.one i) e) r) σ S=exec sub cf r (σ.set i (some d)) S':=by
 rw [gH,mG,h]
 show gp sub cf r ((aV (.one i) d σ S').bind fun σ' S2=>.ok (.nx σ') S2)=_
 rfl
theorem E9 (σ:Sg) (i:Nat) (S:af):bF σ i S=match σ[i]? with|some (some d)=>.ok d S|_=>.bad:=by
 unfold bF
 cases σ[i]? with
 | none=>rfl
 | some x=>cases x <;> rfl
@[simp] theorem G3 (d:D) (σ:Sg) (S:af):bF (some d::σ) 0 S=.ok d S:=id rfl
@[simp] theorem G8 (x:Option D) (σ:Sg) (i:Nat) (S:af):bF (x::σ) (i+1) S=bF σ i S:=id rfl
@[simp] theorem iF (i:Nat) (d:D) (σ:Sg) (S:af):aV (.one i) d σ S=.ok (σ.set i (some d)) S:=id rfl
@[simp] theorem mP (is:List Nat) (ds:List D) (σ:Sg) (S:af):aV (.many is) (.tup ds) σ S=if ds.length=is.length then .ok (cA is ds σ) S else .bad:=by
 show guard (decide (ds.length=is.length)) (pure (cA is ds σ)) S=_
 simp
@[simp] theorem gS (i j:Int) (S:af):opD .add (.int i) (.int j) S=.ok (.int (i+j)) S:=id rfl
@[simp] theorem gT (i j:Int) (S:af):opD .sub (.int i) (.int j) S=.ok (.int (i - j)) S:=id rfl
@[simp] theorem wo (i j:Int) (S:af):opD .mul (.int i) (.int j) S=if (small i||small j)=true then .ok (.int (i * j)) S else .bad:=by
 show guard _ _ S=_
 simp
@[simp] theorem B4 (i j:Int) (S:af):opD .fdiv (.int i) (.int j) S=if (decide (0 < j)&&decide (j < 1073741824))=true then .ok (.int (i / j)) S else .bad:=by
 show guard _ _ S=_
 simp
theorem GW (i j:Int) (S:af):opD .pow (.int i) (.int j) S=if (decide (0<=j)&&decide (j<=1000)&&decide (i.natAbs < 2 ^ 64))=true then .ok (.int (i ^ j.toNat)) S else .bad:=by
 show guard _ _ S=_
 simp
@[simp] theorem wO (i j:Int) (S:af):opD .mod (.int i) (.int j) S=if 0 < j then .ok (.int (i % j)) S else .bad:=by
 show guard _ _ S=_
 simp
@[simp] theorem AH {n:Nat} (h:n<=1000):fits n=true:=decide_eq_true (by unfold aJ; omega)
@[simp] theorem l8 (i j:Int) (S:af):cmD .lt (.int i) (.int j) S=.ok (.bl (decide (i < j))) S:=id rfl
@[simp] theorem jr (i j:Int) (S:af):cmD .le (.int i) (.int j) S=.ok (.bl (decide (i<=j))) S:=id rfl
@[simp] theorem CT (i j:Int) (S:af):cmD .gt (.int i) (.int j) S=.ok (.bl (decide (j < i))) S:=id rfl
@[simp] theorem Fq (i j:Int) (S:af):cmD .ge (.int i) (.int j) S=.ok (.bl (decide (j<=i))) S:=id rfl
theorem nR (x y:D) (S:af):cmD .eq x y S=match eqD deep S x y with|some k=>.ok (.bl k) S|none=>.bad:=by
 show (eqM x y>>=fun b=>pure (D.bl b)) S=_
 rw [av]
 unfold eqM
 cases eqD deep S x y <;> rfl
theorem yc (x y:D) (S:af):cmD .ne x y S=if fY x y=true then (match eqD deep S x y with|some k=>.ok (.bl (!k)) S|none=>.bad) else .bad:=by
 show guard (fY x y) (eqM x y>>=fun b=>pure (D.bl (!b))) S=_
 rw [iX,av]
 unfold eqM
 cases eqD deep S x y <;> rfl
@[simp] theorem gO (i j:Int) (S:af):cmD .eq (.int i) (.int j) S=.ok (.bl (i==j)) S:=id rfl
@[simp] theorem iJ (i j:Str) (S:af):cmD .eq (.str i) (.str j) S=.ok (.bl (i==j)) S:=id rfl
@[simp] theorem qU (i j:Int) (S:af):cmD .ne (.int i) (.int j) S=.ok (.bl (!(i==j))) S:=id rfl
@[simp] theorem G0 (b:Bool) (S:af):truth (.bl b) S=.ok b S:=id rfl
@[simp] theorem ES (ds:List D) (S:af):items (.tup ds) S=.ok ds S:=id rfl
@[simp] theorem G5 (ds:List D) (S:af):items (.fro ds) S=.ok ds S:=id rfl
theorem eO {l:Nat} {ds:List D} {S:af} (h:S[l]?=some (.lst ds)):items (.loc l) S=.ok ds S:=by
 show (match listAt S l with|some ds=>Res.ok ds S|none=>.bad)=_
 unfold listAt; rw [h]
theorem nP (a:D) (j:Int) (S:af):ixD a (.int j) S=(items a S).bind fun xs S1=>opt (atI xs j) S1:=by
 show (items a>>=fun xs=>opt (atI xs j)) S=_
 rw [av]
@[simp] theorem Ew (xs:List D) (j:Int) (S:af):ixD (.tup xs) (.int j) S=opt (atI xs j) S:=by rw [nP]; rfl
@[simp] theorem DH (xs:List D) (j:Int) (S:af):ixD (.fro xs) (.int j) S=opt (atI xs j) S:=by rw [nP]; rfl
theorem CZ {l:Nat} {xs:List D} {j:Int} {S:af} (h:S[l]?=some (.lst xs)):ixD (.loc l) (.int j) S=opt (atI xs j) S:=by rw [nP,eO h]; rfl
theorem fC {xs:List D} {j:Nat}:atI xs (j:Int)=xs[j]?:=by
 unfold atI ixN
 rw [if_pos (by omega)]
 by_cases h:j < xs.length
 ·rw [if_pos (by omega)]; simp
 ·rw [if_neg (by omega)]; rw [List.getElem?_eq_none (by omega)]; rfl
@[simp] theorem qL (xs:List D):atI xs 0=xs[0]?:=fC (j:=0)
@[simp] theorem G1 (xs:List D):atI xs 1=xs[1]?:=fC (j:=1)
@[simp] theorem GF (xs:List D):atI xs 2=xs[2]?:=fC (j:=2)
@[simp] theorem GX (xs:List D):atI xs 3=xs[3]?:=fC (j:=3)
@[simp] theorem GS (xs:List D):atI xs 4=xs[4]?:=fC (j:=4)
@[simp] theorem n5 (sub:Sub) (d:D) (S:af):biD sub .len [d] S=(items d S).bind fun ds S1=>.ok (.int ds.length) S1:=by
 show (items d>>=fun ds=>pure (D.int ds.length)) S=_
 rw [av]; rfl
@[simp] theorem E_ (sub:Sub) (t:Ty) (d:D) (S:af):biD sub (.inst t) [d] S=match cK sub S d t with|some k=>.ok (.bl k) S|none=>.bad:=id rfl
@[simp] theorem yQ (sub:Sub) (d:D) (S:af):biD sub .tuple [d] S=(items d S).bind fun ds S1=>.ok (.tup ds) S1:=by
 show (items d>>=fun ds=>pure (D.tup ds)) S=_
 rw [av]; rfl
theorem uh (sub:Sub) (d:D) (S:af):biD sub .all [d] S=(items d S).bind fun ds S1=>(opt (dm ds) S1).bind fun bs S2=>.ok (.bl (bs.all id)) S2:=by
 show (items d>>=fun ds=>opt (dm ds)>>=fun bs=>pure (D.bl (bs.all id))) S=_
 simp only [av]; rfl
theorem jR {l:Nat} {ds:List D} {d:D} {S:af} (h:S[l]?=some (.lst ds)) (hz:ds.length < aJ):meD .append (.loc l) [d] S=.ok .non (S.set l (.lst (ds++[d]))):=by
 show bI l (fun ds=>guard (jh ds.length) (put l (.lst (ds++[d])))) S=_
 unfold bI
 rw [h]
 simp [jh,hz,put]
theorem iT {l k:Nat} {ds es:List D} {S:af} (h:S[l]?=some (.lst ds)) (h2:S[k]?=some (.lst es)) (hz:ds.length+es.length<=aJ):meD .extend (.loc l) [.loc k] S=.ok .non (S.set l (.lst (ds++es))):=by
 show bI l (fun ds=>bI k fun es=>guard (fits (ds.length+es.length)) (put l (.lst (ds++es)))) S=_
 unfold bI
 rw [h]
 simp only
 rw [h2]
 simp [fits,hz,put]
@[simp] theorem e_ (S T:af) (c:Cell):(S++c::T)[S.length]?=some c:=by simp
@[simp] theorem Bl (S T:af) (k:Nat):(S++T)[S.length+k]?=T[k]?:=by
 rw [List.getElem?_append_right (by omega)]; congr 1; omega
@[simp] theorem jj (S T:af) (c d:Cell):(S++c::T).set S.length d=S++d::T:=by simp
@[simp] theorem fW (S T:af):(S++T).take S.length=S:=by simp
theorem G9 {S T:af} {xs:List D} {d:D} (h:xs.length<=1000000):meD .append (.loc S.length) [d] (S++.lst xs::T)=.ok .non (S++.lst (xs++[d])::T):=by
 rw [jR (ds:=xs) (e_ S T _) (by unfold aJ; omega),jj]
theorem DJ (its raw:List D) (S:af):aN ⟨its,none,raw⟩ S=.ok () S:=rfl
theorem fM {s:Src} {S:af} (h:s.l=none\/∃ l,s.l=some l/\S[l]?=some (.lst s.raw)):aN s S=.ok () S:=by
 unfold aN
 rcases h with h|⟨l,h,h2⟩
 ·rw [h]; rfl
 ·rw [h]; unfold listAt; simp [h2]
theorem jD (s:Src) (f:D->Sg->M Fl) (σ:Sg) (S:af):forL s f [] σ S=(aN s S).bind fun _ S1=>.ok (.nx σ) S1:=by
 show (aN s>>=fun _=>pure (Fl.nx σ)) S=_
 rw [av]; rfl
theorem j7 (s:Src) (f:D->Sg->M Fl) (d:D) (ds:List D) (σ:Sg) (S:af):forL s f (d::ds) σ S=(aN s S).bind fun _ S1=>(f d σ S1).bind fun fl S2=>match fl with
  | .nx σ'=>forL s f ds σ' S2|.ct σ'=>forL s f ds σ' S2|.bk σ'=>.ok (.nx σ') S2|.rt d=>.ok (.rt d) S2:=by
 show (aN s>>=fun _=>f d σ>>=fun fl=>match fl with|.nx σ'=>forL s f ds σ'|.ct σ'=>forL s f ds σ'|.bk σ'=>pure (Fl.nx σ')|.rt d=>pure (Fl.rt d)) S=_
 simp only [av]
 congr 1; funext _ S1; congr 1; funext fl S2; cases fl <;> rfl
theorem mz (s:Src) (f:D->M (Option D)) (S:af):bN s f [] S=(aN s S).bind fun _ S1=>.ok [] S1:=by
 show (aN s>>=fun _=>pure []) S=_
 rw [av]; rfl
theorem kq (s:Src) (f:D->M (Option D)) (d:D) (ds:List D) (S:af):bN s f (d::ds) S=(aN s S).bind fun _ S1=>(f d S1).bind fun y S2=>(bN s f ds S2).bind fun ys S3=>.ok (match y with|some y=>y::ys|none=>ys) S3:=by
 show (aN s>>=fun _=>f d>>=fun y=>bN s f ds>>=fun ys=>pure (match y with|some y=>y::ys|none=>ys)) S=_
 simp only [av]; rfl
theorem kQ {s:Src} {f:D->M (Option D)} {g:D->Option D} {S:af} (hs:aN s S=.ok () S):∀ {its:List D},(∀ d∈its,f d S=.ok (g d) S)->bN s f its S=.ok (its.filterMap g) S
 | [],_=>by rw [mz,hs]; rfl
 | d::ds,h=>by
  rw [kq,hs]
  simp only [Res.ao]
  rw [h d List.mem_cons_self]
  simp only [Res.ao]
  rw [kQ hs fun e he=>h e (List.mem_cons_of_mem _ he)]
  simp only [Res.ao,List.filterMap_cons]
  cases g d <;> rfl
theorem wV (S S':af) (d:D):aW S (.ok (.rt d) S')=leave S d S':=rfl
mutual
theorem sE:∀ {d:D} {n m:Nat},n<=m->d.low n=true->d.low m=true
 | .tup ds,n,m,h,q=>jd h q
 | .fro ds,n,m,h,q=>jd h q
 | .loc l,n,m,h,q=>decide_eq_true (Nat.lt_of_lt_of_le (of_decide_eq_true q) h)
 | .non,_,_,_,_=>rfl
 | .bl _,_,_,_,_=>rfl
 | .int _,_,_,_,_=>rfl
 | .str _,_,_,_,_=>rfl
 | .exn _,_,_,_,_=>rfl
theorem jd:∀ {ds:List D} {n m:Nat},n<=m->D.lows n ds=true->D.lows m ds=true
 | [],_,_,_,_=>rfl
 | d::r,n,m,h,q=>by
  rw [D.lows,Bool.and_eq_true] at q ⊢
  exact ⟨sE h q.1,jd h q.2⟩
end
abbrev D.cl (d:D):Prop:=d.low 0=true
theorem bf {S S':af} {d:D} (h:d.cl) (ht:S'.take S.length=S):leave S d S'=.ok d S:=by
 unfold leave
 rw [if_pos ht,if_pos (sE (Nat.zero_le _) h)]
theorem leave_new {S T:af} {ds:List D} {k:Nat} (h:T[k]?=some (.lst ds)) (hc:D.lows 0 ds=true):leave S (.loc (S.length+k)) (S++T)=.ok (.loc S.length) (S++[.lst ds]):=by
 unfold leave
 rw [if_pos (by simp)]
 rw [if_neg (by show ¬ decide (S.length+k < S.length)=true; simp)]
 simp only
 rw [Bl,h]
 simp only
 rw [if_pos (show Cell.low S.length (.lst ds)=true from jd (Nat.zero_le _) hc)]
theorem oH {n:Nat}:∀ {ds:List D},D.lows n ds=true ↔ ∀ d∈ds,d.low n=true
 | []=>by simp [D.lows]
 | d::r=>by rw [D.lows,Bool.and_eq_true,oH]; simp
theorem Ga {n:Nat} (is:List Int):D.lows n (is.map .int)=true:=oH.mpr fun d h=>by
 obtain ⟨i,_,rfl⟩:=List.mem_map.mp h; rfl
theorem jU {α:Type} {n:Nat} {f:α->D} (hf:∀ a,(f a).low n=true) (l:List α):D.lows n (l.map f)=true:=oH.mpr fun d h=>by
 obtain ⟨i,_,rfl⟩:=List.mem_map.mp h; exact hf i
theorem Bs (is:List Bool):dm (is.map .bl)=some is:=by
 induction is with
 | nil=>rfl
 | cons i r ih=>simp [dm,ih]
section
variable {sub:Sub} {cf:Str->List D->M D} {σ:Sg} {S S1:af} {k i:Nat} {el it tt:E} {s:Src}
theorem comp_map {g:D->D} (hi:evI sub cf it σ S=.ok s S1) (hs:aN s S1=.ok () S1) (hg:∀ d∈s.its,ev sub cf el ((σ++List.replicate k none).set i (some d)) S1=.ok (g d) S1) (hz:s.its.length<=aJ) :
  ev sub cf (.comp k el (.one i) it .nl) σ S=.ok (.loc S1.length) (S1++[.lst (s.its.map g)]):=by
 rw [gv,hi]
 simp only [Res.ao]
 have:=kQ (s:=s) (f:=fun d=>aV (.one i) d (σ++List.replicate k none)>>=fun σ'=>(if E.bD .nl=true then pure true else evT sub cf .nl σ')>>=fun b=>if b=true then ev sub cf el σ'>>=fun y=>pure (some y) else pure none) (g:=fun d=>some (g d)) (S:=S1) hs (its:=s.its) (fun d hd=>by
  simp only [av,iF,Res.ao]
  show (ev sub cf el ((σ++List.replicate k none).set i (some d))>>=fun y=>pure (some y)) S1=_
  rw [av,hg d hd]; rfl)
 rw [fV this]
 have e:s.its.filterMap (fun d=>some (g d))=s.its.map g:=by rw [<- List.filterMap_eq_map]; rfl
 rw [e]
 simp [fits,hz]
theorem yX {g:D->D} {p:D->Bool} (hn:tt.bD=false) (hi:evI sub cf it σ S=.ok s S1) (hs:aN s S1=.ok () S1) (hp:∀ d∈s.its,evT sub cf tt ((σ++List.replicate k none).set i (some d)) S1=.ok (p d) S1)
  (hg:∀ d∈s.its,p d=true->ev sub cf el ((σ++List.replicate k none).set i (some d)) S1=.ok (g d) S1) (hz:s.its.length<=aJ) :
  ev sub cf (.comp k el (.one i) it tt) σ S=.ok (.loc S1.length) (S1++[.lst ((s.its.filter p).map g)]):=by
 rw [gv,hi]
 simp only [Res.ao]
 have:=kQ (s:=s) (f:=fun d=>aV (.one i) d (σ++List.replicate k none)>>=fun σ'=>(if tt.bD=true then pure true else evT sub cf tt σ')>>=fun b=>if b=true then ev sub cf el σ'>>=fun y=>pure (some y) else pure none) (g:=fun d=>if p d=true then some (g d) else none) (S:=S1) hs (its:=s.its) (fun d hd=>by
  simp only [av,iF,Res.ao,hn,Bool.false_eq_true,if_false]
  rw [hp d hd]
  cases q:p d with
  | false=>simp
  | true=>simp [av,hg d hd q])
 rw [fV this]
 have e:s.its.filterMap (fun d=>if p d=true then some (g d) else none)=(s.its.filter p).map g:=by
  induction s.its with
  | nil=>rfl
  | cons a r ih=>cases q:p a <;> simp [q,ih]
 rw [e]
 have hz':((s.its.filter p).map g).length<=aJ:=by
  rw [List.length_map]; exact Nat.le_trans (List.length_filter_le _ _) hz
 simp only [Res.ao]
 rw [if_pos (show fits ((s.its.filter p).map g).length=true from decide_eq_true hz')]
theorem uV {is:List Nat} {g:D->D} (hi:evI sub cf it σ S=.ok s S1) (hs:aN s S1=.ok () S1) (hg:∀ d∈s.its,∃ ds,d=.tup ds/\ds.length=is.length/\ev sub cf el (cA is ds (σ++List.replicate k none)) S1=.ok (g d) S1) (hz:s.its.length<=aJ) :
  ev sub cf (.comp k el (.many is) it .nl) σ S=.ok (.loc S1.length) (S1++[.lst (s.its.map g)]):=by
 rw [gv,hi]
 simp only [Res.ao]
 have:=kQ (s:=s) (f:=fun d=>aV (.many is) d (σ++List.replicate k none)>>=fun σ'=>(if E.bD .nl=true then pure true else evT sub cf .nl σ')>>=fun b=>if b=true then ev sub cf el σ'>>=fun y=>pure (some y) else pure none) (g:=fun d=>some (g d)) (S:=S1) hs (its:=s.its) (fun d hd=>by
  obtain ⟨ds,rfl,hl,hd⟩:=hg d hd
  simp only [av,mP,hl,if_true,Res.ao]
  show (ev sub cf el (cA is ds (σ++List.replicate k none))>>=fun y=>pure (some y)) S1=_
  rw [av,hd]; rfl)
 rw [fV this]
 have e:s.its.filterMap (fun d=>some (g d))=s.its.map g:=by rw [<- List.filterMap_eq_map]; rfl
 rw [e]
 simp [fits,hz]
end
@[simp] theorem GJ (ds:List D) (S:af):srcOf (.tup ds) S=.ok ⟨ds,none,ds⟩ S:=id rfl
theorem ez {l:Nat} {ds:List D} {S:af} (h:S[l]?=some (.lst ds)):srcOf (.loc l) S=.ok ⟨ds,some l,ds⟩ S:=by
 show (items (.loc l)>>=fun ds=>pure (⟨ds,some l,ds⟩:Src)) S=_
 rw [av,eO h]; rfl
theorem gI {sub:Sub} {S:af} {α:Type} (l:List α) (g:α->Bool):biD sub .all [.loc S.length] (S++[.lst (l.map fun a=>.bl (g a))])=.ok (.bl (l.all g)) (S++[.lst (l.map fun a=>.bl (g a))]):=by
 rw [uh,eO (ds:=l.map fun a=>D.bl (g a)) (e_ S [] _)]
 simp only [Res.ao]
 rw [show dm (l.map fun a=>D.bl (g a))=some (l.map g) from by rw [<- Bs,List.map_map]; rfl]
 simp [List.all_map]
section
variable {sub:Sub} {cf:Str->List D->M D} {σ:Sg} {S S1 S2:af} {t:Tg} {it:E} {b:EV.S} {s:Src} {fl:Fl}
noncomputable def ck (sub:Sub) (cf:Str->List D->M D) (t:Tg) (b:EV.S):D->Sg->M Fl:=fun d σ=>aV t d σ>>=fun σ'=>exec sub cf b σ'
theorem kL (i:Nat) (b:EV.S) (d:D) (σ:Sg) (S:af):ck sub cf (.one i) b d σ S=exec sub cf b (σ.set i (some d)) S:=by
 unfold ck; rw [av]; rfl
theorem vP (is:List Nat) (b:EV.S) (ds:List D) (σ:Sg) (S:af) (h:ds.length=is.length):ck sub cf (.many is) b (.tup ds) σ S=exec sub cf b (cA is ds σ) S:=by
 unfold ck; rw [av,mP,if_pos h]; rfl
theorem jl (hi:evI sub cf it σ S=.ok s S1) (hf:forL s (ck sub cf t b) s.its σ S1=.ok fl S2):exec sub cf (.forS t it b) σ S=.ok fl S2:=by
 rw [Ag]
 apply fV
 rw [av,hi]
 exact hf
end
section
variable {sub:Sub} {cf:Str->List D->M D} {s:Src} {i j l:Nat} {e:E} {g:D->D}
noncomputable def gh (i:Nat) (its:List D) (σ:Sg):Sg:=match its.getLast? with
 | some d=>σ.set i (some d)
 | none=>σ
@[simp] theorem GN (i:Nat) (σ:Sg):gh i [] σ=σ:=id rfl
theorem u7 (i:Nat) (d:D) (its:List D) (σ:Sg):gh i (d::its) σ=gh i its (σ.set i (some d)):=by
 unfold gh
 rw [List.getLast?_cons]
 cases q:its.getLast? with
 | none=>rfl
 | some e=>simp [List.set_set]
theorem iP {α:Type} {S:List α} {l:Nat} {c:α} (h:S[l]?=some c):S.set l c=S:=by
 apply List.ext_getElem?
 intro k
 rw [List.getElem?_set]
 split
 ·rename_i e; subst e
  split
  ·exact h.symm
  ·rename_i h2; exact absurd (List.getElem?_eq_some_iff.mp h).1 h2
 ·rfl
theorem get_set {α:Type} {S:List α} {l:Nat} {c d:α} (h:S[l]?=some c):(S.set l d)[l]?=some d:=by
 rw [List.getElem?_set_self (List.getElem?_eq_some_iff.mp h).1]
theorem DG {σ:Sg} {S:af} {xs:List D} {d:D} (hj:σ[j]?=some (some (.loc l))) (hS:S[l]?=some (.lst xs)) (he:ev sub cf e σ S=.ok d S) (hz:xs.length < aJ) :
  exec sub cf (.ex (.me .append (.v j) (.cs e .nl))) σ S=.ok (.nx σ) (S.set l (.lst (xs++[d]))):=by
 have hv:bF σ j S=.ok (.loc l) S:=by rw [E9,hj]
 have hL:(D.loc l).eK S=true:=by show (match S[l]? with|some (.lst _)=>true|_=>false)=true; rw [hS]
 simp only [o5,tw,Eo,hv,Res.ao,hL,if_true,uW,he,Dw,jR hS hz]
theorem uP {α:Type} {f g:α->D} (hij:i≠j):∀ {ks:List α} {σ:Sg} {S:af} {xs:List D},σ[j]?=some (some (.loc l))->S[l]?=some (.lst xs)->(∀ ys,aN s (S.set l (.lst ys))=.ok () (S.set l (.lst ys))) ->
  (∀ a∈ks,∀ ys,ev sub cf e (σ.set i (some (f a))) (S.set l (.lst ys))=.ok (g a) (S.set l (.lst ys)))->xs.length+ks.length<=aJ ->
  forL s (ck sub cf (.one i) (.ex (.me .append (.v j) (.cs e .nl)))) (ks.map f) σ S=.ok (.nx (gh i (ks.map f) σ)) (S.set l (.lst (xs++ks.map g)))
 | [],σ,S,xs,h1,h2,h3,h4,h5=>by
  have:=h3 xs
  rw [iP h2] at this
  rw [List.map_nil,jD,this]
  simp [iP h2]
 | d::ks,σ,S,xs,h1,h2,h3,h4,h5=>by
  have hst:=h3 xs
  rw [iP h2] at hst
  rw [List.map_cons,j7,hst]
  simp only [Res.ao,kL]
  have h1':(σ.set i (some (f d)))[j]?=some (some (.loc l)):=by rw [List.getElem?_set_ne hij]; exact h1
  have hd:=h4 d List.mem_cons_self xs
  rw [iP h2] at hd
  rw [DG h1' h2 hd (by simp at h5; omega)]
  simp only [Res.ao]
  rw [uP hij (xs:=xs++[g d]) h1' (get_set h2) (fun ys=>by rw [List.set_set]; exact h3 ys)
   (fun a ha ys=>by rw [List.set_set,List.set_set]; exact h4 a (List.mem_cons_of_mem _ ha) ys) (by simp at h5 ⊢; omega)]
  rw [u7,List.set_set,List.map_cons,List.append_assoc]
  rfl
end
theorem Dt {i:Nat} {its:List D} {σ:Sg} (h:i < σ.length):∃ x,gh i its σ=σ.set i x:=by
 unfold gh
 cases its.getLast? with
 | some d=>exact ⟨_,rfl⟩
 | none=>exact ⟨σ[i],(iP (List.getElem?_eq_getElem h)).symm⟩
theorem BN {i:Int} (h1:-1000000000<=i) (h2:i<=1000000000):near i=true:=decide_eq_true ⟨by omega,by omega⟩
theorem Cp (j:Int):rng 0 j 1=(List.range j.toNat).map fun (k:Nat)=>(k:Int):=by
 unfold rng
 rw [if_pos (by decide)]
 have:(j - 0+1 - 1) / 1=j:=by rw [Int.ediv_one]; omega
 rw [this]
 simp
theorem vF {j:Int} (h1:-1000000000<=j) (h2:j<=1000000000):cS [.int j]=some ((List.range j.toNat).map fun (k:Nat)=>(k:Int)):=by
 show (if near j=true then some (rng 0 j 1) else none)=_
 rw [if_pos (BN h1 h2),Cp]
theorem oi {sub:Sub} {cf:Str->List D->M D} {i j l:Nat} {it e:E} {σ:Sg} {S S1:af} {xs:List D} {α:Type} {ks:List α} {f g:α->D} {o:Option Nat} {raw:List D}
  (hit:evI sub cf it σ S=.ok ⟨ks.map f,o,raw⟩ S1) (hj:σ[j]?=some (some (.loc l))) (hS:S1[l]?=some (.lst xs)) (hij:i≠j) (hi:i < σ.length) (hst:∀ ys,aN ⟨ks.map f,o,raw⟩ (S1.set l (.lst ys))=.ok () (S1.set l (.lst ys)))
  (he:∀ a∈ks,∀ ys,ev sub cf e (σ.set i (some (f a))) (S1.set l (.lst ys))=.ok (g a) (S1.set l (.lst ys))) (hz:xs.length+ks.length<=aJ) :
  ∃ x,exec sub cf (.forS (.one i) it (.ex (.me .append (.v j) (.cs e .nl)))) σ S=.ok (.nx (σ.set i x)) (S1.set l (.lst (xs++ks.map g))):=by
 obtain ⟨x,hx⟩:=Dt (i:=i) (its:=ks.map f) (σ:=σ) hi
 refine ⟨x,?_⟩
 rw [<- hx]
 exact jl hit (uP hij hj hS hst he hz)
theorem CY {S:af} {a b:Nat} {xs ys:List D} (ha:S[a]?=some (.lst xs)) (hb:S[b]?=some (.lst ys)):eqD deep S (.loc a) (.loc b)=if xs.length=ys.length then bX (eqD 11 S) xs ys else some false:=by
 have e1:listAt S a=some xs:=by unfold listAt; rw [ha]
 have e2:listAt S b=some ys:=by unfold listAt; rw [hb]
 show (match listAt S a,listAt S b with|some xs,some ys=>if xs.length=ys.length then bX (eqD 11 S) xs ys else some false|_,_=>none)=_
 rw [e1,e2]
theorem p8 {S:af} {a b:Nat} {xs:List D} (ha:S[a]?=some (.lst xs)) (hb:S[b]?=some (.lst [])):cmD .eq (.loc a) (.loc b) S=.ok (.bl xs.isEmpty) S:=by
 rw [nR,CY ha hb]
 cases xs <;> simp [bX]
theorem rV {s:Src} {f:D->Sg->M Fl}:∀ {its:List D} (I:Nat->Sg->af->Prop) {σ:Sg} {S:af},I 0 σ S->(∀ i σ T,I i σ T->aN s T=.ok () T) ->
  (∀ i (h:i < its.length) σ T,I i σ T->∃ σ' T',f its[i] σ T=.ok (.nx σ') T'/\I (i+1) σ' T')->∃ σ' T',forL s f its σ S=.ok (.nx σ') T'/\I its.length σ' T'
 | [],I,σ,S,h0,h1,_=>⟨σ,S,by rw [jD,h1 0 σ S h0]; rfl,h0⟩
 | d::ds,I,σ,S,h0,h1,h2=>by
  obtain ⟨σ1,T1,e1,i1⟩:=h2 0 (by simp) σ S h0
  obtain ⟨σ2,T2,e2,i2⟩:=rV (its:=ds) (fun i=>I (i+1)) i1 (fun i=>h1 (i+1)) fun i hi=>h2 (i+1) (by simpa using hi)
  refine ⟨σ2,T2,?_,i2⟩
  rw [j7,h1 0 σ S h0]
  simp only [Res.ao]
  rw [show f d σ S=.ok (.nx σ1) T1 from e1]
  exact e2
theorem mC {sub:Sub} {cf:Str->List D->M D} {t:Tg} {it:E} {b:EV.S} {σ:Sg} {S S1:af} {s:Src} (I:Nat->Sg->af->Prop) (hi:evI sub cf it σ S=.ok s S1) (h0:I 0 σ S1) (h1:∀ i σ T,I i σ T->aN s T=.ok () T)
  (h2:∀ i (h:i < s.its.length) σ T,I i σ T->∃ σ' T',ck sub cf t b s.its[i] σ T=.ok (.nx σ') T'/\I (i+1) σ' T'):∃ σ' T',exec sub cf (.forS t it b) σ S=.ok (.nx σ') T'/\I s.its.length σ' T':=by
 obtain ⟨σ',T',e,i⟩:=rV I h0 h1 h2
 exact ⟨σ',T',jl hi e,i⟩
theorem tK {α:Type} {s:Src} {fn:D->M (Option D)} {f:α->D} {g:α->Option D} {S:af} (hs:aN s S=.ok () S):∀ {ks:List α},(∀ a∈ks,fn (f a) S=.ok (g a) S)->bN s fn (ks.map f) S=.ok (ks.filterMap g) S
 | [],_=>by rw [List.map_nil,mz,hs]; rfl
 | d::ds,h=>by
  rw [List.map_cons,kq,hs]
  simp only [Res.ao]
  rw [h d List.mem_cons_self]
  simp only [Res.ao]
  rw [tK hs fun e he=>h e (List.mem_cons_of_mem _ he)]
  simp only [Res.ao,List.filterMap_cons]
  cases g d <;> rfl
theorem dh {sub:Sub} {cf:Str->List D->M D} {σ:Sg} {S S1:af} {k i:Nat} {el it:E} {α:Type} {ks:List α} {f g:α->D} {o:Option Nat} {raw:List D} (hi:evI sub cf it σ S=.ok ⟨ks.map f,o,raw⟩ S1) (hs:aN ⟨ks.map f,o,raw⟩ S1=.ok () S1)
  (hg:∀ a∈ks,ev sub cf el ((σ++List.replicate k none).set i (some (f a))) S1=.ok (g a) S1) (hz:ks.length<=aJ) :
  ev sub cf (.comp k el (.one i) it .nl) σ S=.ok (.loc S1.length) (S1++[.lst (ks.map g)]):=by
 rw [gv,hi]
 simp only [Res.ao]
 have:=tK (s:=⟨ks.map f,o,raw⟩) (f:=f) (fn:=fun d=>aV (.one i) d (σ++List.replicate k none)>>=fun σ'=>(if E.bD .nl=true then pure true else evT sub cf .nl σ')>>=fun b=>if b=true then ev sub cf el σ'>>=fun y=>pure (some y) else pure none) (g:=fun a=>some (g a)) (S:=S1) hs (ks:=ks) (fun d hd=>by
  simp only [av,iF,Res.ao]
  show (ev sub cf el ((σ++List.replicate k none).set i (some (f d)))>>=fun y=>pure (some y)) S1=_
  rw [av,hg d hd]; rfl)
 rw [fV this]
 have e:ks.filterMap (fun d=>some (g d))=ks.map g:=by rw [<- List.filterMap_eq_map]; rfl
 rw [e]
 simp only [Res.ao]
 rw [if_pos (show fits (ks.map g).length=true from decide_eq_true (by rw [List.length_map]; exact hz))]
section
variable {sub:Sub} {cf:Str->List D->M D} {σ:Sg} {S:af}
theorem kG {f:D->D->Option Bool}:∀ {xs:List D},(∀ x∈xs,f x x=some true)->bX f xs xs=some true
 | [],_=>rfl
 | x::r,h=>by
  show (match f x x,bX f r r with|some a,some b=>some (a&&b)|_,_=>none)=_
  rw [h x List.mem_cons_self,kG fun y hy=>h y (List.mem_cons_of_mem _ hy)]
  rfl
theorem eu (n:Nat) (i:Int):eqD (n+1) S (.int i) (.int i)=some true:=by
 show some (i==i)=_
 simp
theorem Gm (n:Nat) (is:List Int):eqD (n+2) S (.tup (is.map .int)) (.tup (is.map .int))=some true:=by
 show (bX (eqD (n+1) S) (is.map .int) (is.map .int)).map (fun r=>r&&((is.map D.int).length==(is.map D.int).length))=_
 rw [kG fun x hx=>by obtain ⟨i,_,rfl⟩:=List.mem_map.mp hx; exact eu n i]
 simp
end
theorem Fg (ds:List D):∀ (k i:Nat) (h:i < (num k ds).length),(num k ds)[i]=.tup [.int ((k+i:Nat):Int),ds[i]'(by have:(num k ds).length=ds.length:=(by clear h; induction ds generalizing k with|nil=>rfl|cons _ _ ih=>simp [num,ih]); omega)]:=by
 induction ds with
 | nil=>intro k i h; simp [num] at h
 | cons d r ih =>
  intro k i h
  cases i with
  | zero=>simp [num]
  | succ i =>
   simp only [num,List.getElem_cons_succ]
   rw [ih (k+1) i (by simpa [num] using h)]
   congr 3
   omega
theorem nC:∀ (ds:List D) (k:Nat),(num k ds).length=ds.length
 | [],_=>rfl
 | _::r,k=>by simp [num,nC r]
end EV

namespace GO
open PySem EV
theorem iu {S:af} {l:Nat} {ds:List D} (h:S[l]?=some (.lst ds)):(D.loc l).eK S=true:=by show (match S[l]? with|some (.lst _)=>true|_=>false)=true; rw [h]
theorem B8 (T:af) (ds:List D):(D.loc T.length).eK (T++[.lst ds])=true:=iu (ds:=ds) (by simp)
theorem pA (T:af) (ds:List D) (G:af):(D.loc T.length).eK (T++.lst ds::G)=true:=iu (ds:=ds) (by simp)
theorem GK (T:af) (ds:List D) (G U:af):(D.loc T.length).eK ((T++.lst ds::G)++U)=true:=by rw [List.append_assoc,List.cons_append]; exact pA _ _ _
section
variable {sub:Sub} {cf:Str->List D->M D} {σ σ1:Sg} {S S1 S2 S3:af} {R:Res D} {RF:Res Fl} {x y z d:D} {ds:List D} {a b c r es:E} {u v w:EV.S}
theorem r_v {i:Nat} (h:bF σ i S=.ok d S):ev sub cf (.v i) σ S=.ok d S:=h
theorem r_c:ev sub cf (.c d) σ S=.ok d S:=id rfl
theorem aY {o:Op2} (ha:ev sub cf a σ S=.ok x S1) (hb:ev sub cf b σ S1=.ok y S2) (h:opD o x y S2=R):ev sub cf (.bin o a b) σ S=R:=by rw [Gu,ha,Res.ao,hb,Res.ao,h]
theorem bx {o:Cm} (ha:ev sub cf a σ S=.ok x S1) (hb:ev sub cf b σ S1=.ok y S2) (h:cmD o x y S2=R):ev sub cf (.cmp o a b) σ S=R:=by rw [rR,ha,Res.ao,hb,Res.ao,h]
theorem eZ (ha:ev sub cf a σ S=.ok (.bl true) S1) (hb:ev sub cf b σ S1=R):ev sub cf (.and a b) σ S=R:=by rw [vA,ha]; exact hb
theorem sj {i:Int} (ha:ev sub cf a σ S=.ok (.int i) S1):ev sub cf (.neg a) σ S=.ok (.int (-i)) S1:=by rw [Ff,ha]; rfl
theorem DR (hc:evT sub cf c σ S=.ok true S1) (ha:ev sub cf a σ S1=R):ev sub cf (.ite c a b) σ S=R:=by rw [qh,hc,Res.ao,if_pos rfl,ha]
theorem yz (hc:evT sub cf c σ S=.ok false S1) (hb:ev sub cf b σ S1=R):ev sub cf (.ite c a b) σ S=R:=by rw [qh,hc,Res.ao,if_neg (by decide),hb]
theorem aj:evs sub cf .nl σ S=.ok [] S:=id rfl
theorem aa (ha:ev sub cf a σ S=.ok x S1) (hr:evs sub cf r σ S1=.ok ds S2):evs sub cf (.cs a r) σ S=.ok (x::ds) S2:=by rw [uW,ha,Res.ao,hr,Res.ao]
theorem eY (hs:evs sub cf es σ S=.ok ds S1) (hz:fits ds.length=true):ev sub cf (.tup es) σ S=.ok (.tup ds) S1:=by rw [A5,hs,Res.ao,if_pos hz]
theorem cy (hs:evs sub cf es σ S=.ok ds S1) (hz:fits ds.length=true):ev sub cf (.lst es) σ S=.ok (.loc S1.length) (S1++[.lst ds]):=by rw [Dd,hs,Res.ao,if_pos hz]
theorem aG (ha:ev sub cf a σ S=.ok x S1) (hb:ev sub cf b σ S1=.ok y S2) (h:ixD x y S2=R):ev sub cf (.ix a b) σ S=R:=by rw [Br,ha,Res.ao,hb,Res.ao,h]
theorem kc {lo hi:E} {p q:Option Int} (ha:ev sub cf a σ S=.ok x S1) (hl:jw sub cf σ lo S1=.ok p S2) (hh:jw sub cf σ hi S2=.ok q S3) (h:slD x p q S3=R):ev sub cf (.sl a lo hi) σ S=R:=by
 rw [FJ,ha,Res.ao,hl,Res.ao,hh,Res.ao,h]
theorem au {f:Str} (hs:evs sub cf es σ S=.ok ds S1) (h:cf f ds S1=R):ev sub cf (.call f es) σ S=R:=by rw [xE,hs,Res.ao,h]
theorem aD {o:Bi} (hs:evs sub cf es σ S=.ok ds S1) (h:biD sub o ds S1=R):ev sub cf (.bi o es) σ S=R:=by rw [vf,hs,Res.ao,h]
theorem fT {m:Me} {l:Nat} (ha:ev sub cf a σ S=.ok (.loc l) S1) (hs:evs sub cf es σ S1=.ok ds S2) (h:meD m (.loc l) ds S2=R) (hL:(D.loc l).eK S1=true:=by first|assumption|exact B8 _ _|exact pA _ _ _|exact iu (by assumption)):ev sub cf (.me m a es) σ S=R:=by
 rw [tw,ha,Res.ao,if_pos hL,hs,Res.ao,h]
theorem oG {k:Bool} (h:ev sub cf a σ S=.ok (.bl k) S1) (ht:evT sub cf a σ S=(ev sub cf a σ S).bind fun d S1=>truth d S1):evT sub cf a σ S=.ok k S1:=by rw [ht,h]; rfl
theorem b8 {f:Str} {k:Bool} (h:ev sub cf (.call f es) σ S=.ok (.bl k) S1):evT sub cf (.call f es) σ S=.ok k S1:=oG h (zu _ _ _ _ _ _)
theorem eF {o:Bi} {k:Bool} (h:ev sub cf (.bi o es) σ S=.ok (.bl k) S1):evT sub cf (.bi o es) σ S=.ok k S1:=oG h (AO _ _ _ _ _ _)
theorem bA {o:Cm} {k:Bool} (h:ev sub cf (.cmp o a b) σ S=.ok (.bl k) S1):evT sub cf (.cmp o a b) σ S=.ok k S1:=oG h (by
 rw [Aq,rR]; cases ev sub cf a σ S <;> simp [Res.bind]; rename_i q Q; cases ev sub cf b σ Q <;> simp [Res.bind])
theorem kC {k:Bool} (ha:evT sub cf a σ S=.ok true S1) (hb:evT sub cf b σ S1=.ok k S2):evT sub cf (.and a b) σ S=.ok k S2:=by rw [uF,ha,Res.ao,if_pos rfl,hb]
theorem sY (ha:evT sub cf a σ S=.ok false S1):evT sub cf (.and a b) σ S=.ok false S1:=by rw [uF,ha,Res.ao,if_neg (by decide)]
theorem jF (ha:evT sub cf a σ S=.ok true S1):evT sub cf (.or a b) σ S=.ok true S1:=by rw [qZ,ha,Res.ao,if_pos rfl]
theorem cj {k:Bool} (ha:evT sub cf a σ S=.ok false S1) (hb:evT sub cf b σ S1=.ok k S2):evT sub cf (.or a b) σ S=.ok k S2:=by rw [qZ,ha,Res.ao,if_neg (by decide),hb]
theorem bq {k:Bool} (ha:evT sub cf a σ S=.ok k S1):evT sub cf (.not a) σ S=.ok (!k) S1:=by rw [wg,ha,Res.ao]
theorem t_k {k k':Bool} (h:evT sub cf a σ S=.ok k' S1) (e:k'=k):evT sub cf a σ S=.ok k S1:=by rw [h,e]
theorem An (h:Nat.ble ds.length 1000=true):fits ds.length=true:=AH (Nat.le_of_ble_eq_true h)
theorem eV {i j:Int} (h:0 < j):opD .mod (.int i) (.int j) S=.ok (.int (i % j)) S:=by rw [wO,if_pos h]
theorem o_ {i j:Int} (h:(small i||small j)=true):opD .mul (.int i) (.int j) S=.ok (.int (i * j)) S:=by rw [wo,if_pos h]
theorem pW {i:Int} (h:-1000000000000 < i/\i < 1000000000000):small i=true:=decide_eq_true ⟨by omega,by omega⟩
theorem B_ {i j:Int} (h:-1000000000000 < i/\i < 1000000000000):opD .mul (.int i) (.int j) S=.ok (.int (i * j)) S:=o_ (by rw [pW h,Bool.true_or])
theorem qc {i j:Int} (h:-1000000000000 < j/\j < 1000000000000):opD .mul (.int i) (.int j) S=.ok (.int (i * j)) S:=o_ (by rw [pW h,Bool.or_true])
theorem j6 {i j:Int} (h:0 < j/\j < 1073741824):opD .fdiv (.int i) (.int j) S=.ok (.int (i / j)) S:=by rw [B4,if_pos (by rw [decide_eq_true h.1,decide_eq_true h.2]; rfl)]
theorem aQ {xs:List D} {j:Int} (h:atI xs j=some d):ixD (.tup xs) (.int j) S=.ok d S:=by rw [Ew,h,gZ]
theorem tZ {xs:List D} {j:Int} (h:atI xs j=some d):ixD (.fro xs) (.int j) S=.ok d S:=by rw [DH,h,gZ]
theorem gJ {xs:List D} {j:Int} {l:Nat} (hl:S[l]?=some (.lst xs)) (h:atI xs j=some d):ixD (.loc l) (.int j) S=.ok d S:=by rw [CZ hl,h,gZ]
theorem fB {xs:List D}:biD sub .len [.tup xs] S=.ok (.int xs.length) S:=by rw [n5]; rfl
theorem t6 {xs:List D}:biD sub .len [.fro xs] S=.ok (.int xs.length) S:=by rw [n5]; rfl
theorem jn {xs:List D} {l:Nat} (hl:S[l]?=some (.lst xs)):biD sub .len [.loc l] S=.ok (.int xs.length) S:=by rw [n5,eO hl]; rfl
theorem fX {xs:List D} {l:Nat} (hl:S[l]?=some (.lst xs)):biD sub .tuple [.loc l] S=.ok (.tup xs) S:=by rw [yQ,eO hl]; rfl
theorem eT {t:Ty} {k:Bool} (h:cK sub S x t=some k):biD sub (.inst t) [x] S=.ok (.bl k) S:=by rw [E_,h]
theorem aX {α:Type} (T:List α) (c:α):(T++[c])[T.length]?=some c:=by simp
theorem pS {T:af} {xs:List D} {j:Int} (h:atI xs j=some d):ixD (.loc T.length) (.int j) (T++[.lst xs])=.ok d (T++[.lst xs]):=gJ (aX T _) h
theorem gR {T:af} {xs:List D}:biD sub .tuple [.loc T.length] (T++[.lst xs])=.ok (.tup xs) (T++[.lst xs]):=fX (aX T _)
theorem yS {T:af} {xs:List D}:biD sub .len [.loc T.length] (T++[.lst xs])=.ok (.int xs.length) (T++[.lst xs]):=jn (aX T _)
theorem bU {s:Src} (ha:ev sub cf a σ S=.ok x S1) (h:srcOf x S1=.ok s S2):evI sub cf (.iSeq a) σ S=.ok s S2:=by rw [F0,ha,Res.ao,h]
theorem Ct {is:List Int} (hs:evs sub cf es σ S=.ok ds S1) (h:cS ds=some is):evI sub cf (.iRng es) σ S=.ok ⟨is.map .int,none,[]⟩ S1:=by rw [Bj,hs,Res.ao,h,gZ,Res.ao]
theorem jG {j:Int} {k:Nat} {f:Nat->D} (hs:evs sub cf es σ S=.ok [.int j] S1) (hj:j=(k:Int)) (hk:k<=1000000) (hf:∀ i:Nat,f i=.int (i:Int)):evI sub cf (.iRng es) σ S=.ok ⟨(List.range k).map f,none,[]⟩ S1:=by
 subst hj
 rw [Ct hs (vF (by omega) (by omega)),Int.toNat_natCast,List.map_map,show (D.int ∘ fun k:Nat=>(k:Int))=f from funext fun i=>(hf i).symm]
theorem aI {i:Nat} (h:ev sub cf a σ S=.ok d S1):exec sub cf (.set (.one i) a) σ S=.ok (.nx (σ.set i (some d))) S1:=by rw [mG,h,Res.ao,iF,Res.ao]
theorem ET {is:List Nat} (h:ev sub cf a σ S=.ok (.tup ds) S1) (hl:ds.length=is.length):exec sub cf (.set (.many is) a) σ S=.ok (.nx (cA is ds σ)) S1:=by rw [mG,h,Res.ao,mP,if_pos hl,Res.ao]
theorem gg (h:ev sub cf a σ S=.ok d S1):exec sub cf (.ex a) σ S=.ok (.nx σ) S1:=by rw [o5,h,Res.ao]
theorem aB (h:ev sub cf a σ S=.ok d S1):exec sub cf (.ret a) σ S=.ok (.rt d) S1:=by rw [kH,h,Res.ao]
theorem bR (hc:evT sub cf c σ S=.ok true S1) (h:exec sub cf u σ S1=RF):exec sub cf (.ite c u v) σ S=RF:=by rw [k_,hc,Res.ao,if_pos rfl,h]
theorem aL (hc:evT sub cf c σ S=.ok false S1) (h:exec sub cf v σ S1=RF):exec sub cf (.ite c u v) σ S=RF:=by rw [k_,hc,Res.ao,if_neg (by decide),h]
theorem ak (hu:exec sub cf u σ S=.ok (.nx σ1) S1) (h:exec sub cf v σ1 S1=RF):exec sub cf (.seq u v) σ S=RF:=(yU hu).trans h
theorem bG (hu:exec sub cf u σ S=.ok (.rt d) S1):exec sub cf (.seq u v) σ S=.ok (.rt d) S1:=by rw [gH,hu,vt]
theorem aM:exec sub cf .skip σ S=.ok (.nx σ) S:=id rfl
theorem x_call {P:Prg} {n:Nat} {f:Str} {F:Fn} (hP:P.lookup f=some F) (hl:ds.length=F.par) (hb:exec sub (ai sub P n) F.body (frame F ds) S=.ok (.rt d) S1) (h:leave S d S1=R):ai sub P (n+1) f ds S=R:=by
 rw [cH hP hl,hb,wV,h]
theorem CC {i:Nat} (h:exec sub cf u (σ.set i (some d)) S=RF):ck sub cf (.one i) u d σ S=RF:=(kL i u d σ S).trans h
theorem tG {is:List Nat} (hl:ds.length=is.length) (h:exec sub cf u (cA is ds σ) S=RF):ck sub cf (.many is) u (.tup ds) σ S=RF:=(vP is u ds σ S hl).trans h
theorem D4 {P:Prg} {n:Nat} {f:Str} {F:Fn} (hP:P.lookup f=some F) (hl:ds.length=F.par) (hb:exec sub (ai sub P n) F.body (frame F ds) S=RF) (h:∃ S',RF=.ok (.rt d) S'/\S'.take S.length=S) (hc:d.cl):ai sub P (n+1) f ds S=.ok d S:=by
 obtain ⟨S',e,ht⟩:=h
 exact x_call hP hl (hb.trans e) (bf hc ht)
end
end GO

namespace RL
open PySem EV GO
noncomputable def fz:Fn:=⟨3,3,(.seq (.ite (.or (.not (.bi (.inst .int) (.cs (.v 0) .nl))) (.bi (.inst .bool) (.cs (.v 0) .nl)))
  (.ret (.c (.bl false)))
  .skip)
 (.ret (.chn .le .le (.v 1) (.v 0) (.v 2))))⟩
noncomputable def iK:Fn:=⟨1,1,(.ret (.call "is_whole" (.cs (.v 0) (.cs (.c (.int 0)) (.cs (.bin .sub (.c (.int 9973)) (.c (.int 1))) .nl)))))⟩
noncomputable def eW:Fn:=⟨3,3,(.ret (.and (.bi (.inst .tuple) (.cs (.v 0) .nl)) (.chn .le .le (.v 1) (.bi .len (.cs (.v 0) .nl)) (.v 2))))⟩
noncomputable def jv:Fn:=⟨1,1,(.ret (.and (.call "is_row" (.cs (.v 0) (.cs (.c (.int 2)) (.cs (.c (.int 2)) .nl)))) (.and (.call "is_whole" (.cs (.ix (.v 0) (.c (.int 0))) (.cs (.c (.int 1)) (.cs (.c (.int 3)) .nl)))) (.call "is_whole" (.cs (.ix (.v 0) (.c (.int 1))) (.cs (.c (.int 1)) (.cs (.c (.int 4)) .nl)))))))⟩
noncomputable def i7:Fn:=⟨1,1,(.ret (.and (.call "is_row" (.cs (.v 0) (.cs (.c (.int 1)) (.cs (.c (.int 3)) .nl)))) (.bi .all (.cs (.comp 2 (.call "is_crew" (.cs (.v 2) .nl)) (.one 2) (.iSeq (.v 0)) .nl) .nl))))⟩
noncomputable def gq:Fn:=⟨3,4,(.seq (.ite (.or (.not (.call "is_row" (.cs (.v 0) (.cs (.c (.int 3)) (.cs (.c (.int 3)) .nl))))) (.not (.call "is_whole" (.cs (.ix (.v 0) (.c (.int 2))) (.cs (.c (.int 0)) (.cs (.c (.int 3)) .nl))))))
  (.ret (.c (.bl false)))
  .skip)
 (.seq (.set (.one 3) (.ite (.cmp .eq (.ix (.v 0) (.c (.int 2))) (.c (.int 0))) (.v 1) (.v 2)))
 (.ret (.call "is_whole" (.cs (.ix (.v 0) (.c (.int 1))) (.cs (.c (.int 0)) (.cs (.bin .sub (.v 3) (.c (.int 1))) .nl)))))))⟩
noncomputable def ki:Fn:=⟨4,4,(.seq (.ite (.or (.not (.call "is_row" (.cs (.v 0) (.cs (.c (.int 2)) (.cs (.c (.int 3)) .nl))))) (.not (.bi (.inst .str) (.cs (.ix (.v 0) (.c (.int 0))) .nl))))
  (.ret (.c (.bl false)))
  .skip)
 (.seq (.ite (.cmp .eq (.ix (.v 0) (.c (.int 0))) (.c (.str "work")))
  (.ret (.call "is_work_source" (.cs (.v 0) (.cs (.v 1) (.cs (.v 2) .nl)))))
  .skip)
 (.seq (.ite (.cmp .ne (.bi .len (.cs (.v 0) .nl)) (.c (.int 2)))
  (.ret (.c (.bl false)))
  .skip)
 (.seq (.ite (.cmp .eq (.ix (.v 0) (.c (.int 0))) (.c (.str "input")))
  (.ret (.call "is_whole" (.cs (.ix (.v 0) (.c (.int 1))) (.cs (.c (.int 0)) (.cs (.bin .sub (.v 3) (.c (.int 1))) .nl)))))
  .skip)
 (.ret (.and (.cmp .eq (.ix (.v 0) (.c (.int 0))) (.c (.str "value"))) (.call "is_value" (.cs (.ix (.v 0) (.c (.int 1))) .nl))))))))⟩
noncomputable def i6:Fn:=⟨1,1,(.ret (.and (.call "is_row" (.cs (.v 0) (.cs (.c (.int 3)) (.cs (.c (.int 3)) .nl)))) (.bi .all (.cs (.comp 2 (.call "is_value" (.cs (.v 2) .nl)) (.one 2) (.iSeq (.v 0)) .nl) .nl))))⟩
noncomputable def kj:Fn:=⟨5,6,(.seq (.ite (.not (.call "is_row" (.cs (.v 0) (.cs (.c (.int 5)) (.cs (.c (.int 5)) .nl)))))
  (.ret (.c (.bl false)))
  .skip)
 (.seq (.ite (.or (.not (.call "is_whole" (.cs (.ix (.v 0) (.c (.int 0))) (.cs (.c (.int 0)) (.cs (.bin .sub (.v 4) (.c (.int 1))) .nl))))) (.not (.call "is_whole" (.cs (.ix (.v 0) (.c (.int 1))) (.cs (.c (.int 1)) (.cs (.c (.int 8)) .nl))))))
  (.ret (.c (.bl false)))
  .skip)
 (.seq (.ite (.or (.not (.bi (.inst .str) (.cs (.ix (.v 0) (.c (.int 2))) .nl))) (.cmp .d9 (.ix (.v 0) (.c (.int 2))) (.c (.tup [(.str "plus"),(.str "less"),(.str "times"),(.str "least"),(.str "greatest")]))))
  (.ret (.c (.bl false)))
  .skip)
 (.seq (.set (.one 5) (.ix (.v 0) (.c (.int 3))))
 (.seq (.ite (.or (.not (.call "is_row" (.cs (.v 5) (.cs (.c (.int 1)) (.cs (.c (.int 3)) .nl))))) (.not (.call "are_starts" (.cs (.ix (.v 0) (.c (.int 4))) .nl))))
  (.ret (.c (.bl false)))
  .skip)
 (.ret (.bi .all (.cs (.comp 2 (.call "is_source" (.cs (.v 7) (.cs (.v 1) (.cs (.v 2) (.cs (.v 3) .nl))))) (.one 7) (.iSeq (.v 5)) .nl) .nl))))))))⟩
noncomputable def iW:Fn:=⟨3,4,(.seq (.ite (.not (.call "is_row" (.cs (.v 0) (.cs (.c (.int 1)) (.cs (.c (.int 8)) .nl)))))
  (.ret (.c (.bl false)))
  .skip)
 (.seq (.set (.one 3) (.bi .len (.cs (.v 0) .nl)))
 (.ret (.bi .all (.cs (.comp 3 (.call "is_work" (.cs (.v 6) (.cs (.v 5) (.cs (.v 3) (.cs (.v 1) (.cs (.v 2) .nl)))))) (.many [5,6]) (.iEnum (.v 0)) .nl) .nl)))))⟩
noncomputable def gP:Fn:=⟨2,4,(.seq (.ite (.not (.call "is_row" (.cs (.v 0) (.cs (.c (.int 1)) (.cs (.v 1) .nl)))))
  (.ret (.c (.bl false)))
  .skip)
 (.seq (.set (.one 2) (.c (.int 0)))
 (.seq (.forS (.one 3) (.iSeq (.v 0))
  (.seq (.ite (.not (.call "is_whole" (.cs (.v 3) (.cs (.v 2) (.cs (.bin .sub (.v 1) (.c (.int 1))) .nl)))))
  (.ret (.c (.bl false)))
  .skip)
 (.set (.one 2) (.bin .add (.v 3) (.c (.int 1))))))
 (.ret (.c (.bl true))))))⟩
noncomputable def kX:Fn:=⟨1,1,(.seq (.ite (.not (.call "is_row" (.cs (.v 0) (.cs (.c (.int 4)) (.cs (.c (.int 4)) .nl)))))
  (.ret (.c (.bl false)))
  .skip)
 (.seq (.ite (.or (.not (.call "is_whole" (.cs (.ix (.v 0) (.c (.int 0))) (.cs (.c (.int 0)) (.cs (.c (.int 6)) .nl))))) (.not (.call "are_crews" (.cs (.ix (.v 0) (.c (.int 1))) .nl))))
  (.ret (.c (.bl false)))
  .skip)
 (.ret (.and (.call "are_works" (.cs (.ix (.v 0) (.c (.int 2))) (.cs (.ix (.v 0) (.c (.int 0))) (.cs (.bi .len (.cs (.ix (.v 0) (.c (.int 1))) .nl)) .nl)))) (.call "are_outs" (.cs (.ix (.v 0) (.c (.int 3))) (.cs (.bi .len (.cs (.ix (.v 0) (.c (.int 2))) .nl)) .nl)))))))⟩
noncomputable def oJ:Fn:=⟨1,1,(.seq (.ite (.not (.call "is_loop" (.cs (.v 0) .nl)))
  (.rais "NoLoop")
  .skip)
 (.ret (.v 0)))⟩
noncomputable def bY:List Str:=["plus","less","times","least","greatest"]
noncomputable def bW (S:af):Prop:=∀ (l:Nat) c,S[l]?=some c->∃ ds,c=.lst ds
noncomputable def Has (P:Prg) (x:String) (F:Fn):Prop:=P.lookup (Str.ofString x)=some F
inductive Srs where|val (v:Int)|inp (k:Nat)|wrk (w b:Nat)
noncomputable def Srs.toD:Srs->D
 | .val v=>.tup [.str "value",.int v]
 | .inp k=>.tup [.str "input",.int k]
 | .wrk w b=>.tup [.str "work",.int w,.int b]
structure Wk where
 crew:Nat
 long:Nat
 doing:Str
 srcs:List Srs
 starts:List Int
noncomputable def Wk.toD (w:Wk):D:=.tup [.int w.crew,.int w.long,.str w.doing,.tup (w.srcs.map Srs.toD),.tup (w.starts.map .int)]
structure Lp where
 streams:Nat
 crews:List (Nat × Nat)
 works:List Wk
 outs:List Nat
noncomputable def bE (c:Nat × Nat):D:=.tup [.int c.1,.int c.2]
noncomputable def bw (k:Nat):D:=.int k
noncomputable def Lp.toD (l:Lp):D:=.tup [.int l.streams,.tup (l.crews.map bE),.tup (l.works.map Wk.toD),.tup (l.outs.map bw)]
noncomputable def Srs.WF (own many streams:Nat):Srs->Prop
 | .val v=>0<=v/\v<=9972
 | .inp k=>k < streams
 | .wrk w b=>b<=3/\w < (if b=0 then own else many)
structure Wk.WF (own many streams ncrews:Nat) (w:Wk):Prop where
 crew:w.crew < ncrews
 long:1<=w.long/\w.long<=8
 doing:w.doing∈bY
 some:1<=w.srcs.length/\w.srcs.length<=3
 srcs:∀ s∈w.srcs,s.WF own many streams
 three:w.starts.length=3
 starts:∀ v∈w.starts,0<=v/\v<=9972
noncomputable def dz:Nat->Nat->List Nat->Prop
 | _,_,[]=>True
 | many,least,k::r=>least<=k/\k < many/\dz many (k+1) r
structure Lp.WF (l:Lp):Prop where
 streams:l.streams<=6
 ncrews:1<=l.crews.length/\l.crews.length<=3
 crews:∀ c∈l.crews,(1<=c.1/\c.1<=3)/\(1<=c.2/\c.2<=4)
 nworks:1<=l.works.length/\l.works.length<=8
 works:∀ (i:Nat) w,l.works[i]?=some w->w.WF i l.works.length l.streams l.crews.length
 nouts:1<=l.outs.length
 outs:dz l.works.length 0 l.outs
structure HB (P:Prg):Prop where
 whole:Has P "is_whole" fz
 value:Has P "is_value" iK
 row:Has P "is_row" eW
 crew:Has P "is_crew" jv
 crews:Has P "are_crews" i7
 worksource:Has P "is_work_source" gq
 source:Has P "is_source" ki
 starts:Has P "are_starts" i6
 work:Has P "is_work" kj
 works:Has P "are_works" iW
 outs:Has P "are_outs" gP
 loop:Has P "is_loop" kX
 checked:Has P "checked" oJ
variable {sub:Sub} {P:Prg} {n:Nat} {S:af}
@[simp] theorem kZ (S T:af) (b:Bool):leave S (.bl b) (S++T)=.ok (.bl b) S:=bf rfl (fW _ _)
@[simp] theorem d_ (S:af) (b:Bool):leave S (.bl b) S=.ok (.bl b) S:=bf rfl (List.take_length)
@[simp] theorem sZ (S T:af) (b:Int):leave S (.int b) (S++T)=.ok (.int b) S:=bf rfl (fW _ _)
@[simp] theorem wN (S:af) (b:Int):leave S (.int b) S=.ok (.int b) S:=bf rfl (List.take_length)
@[simp] theorem GQ (S S':af) (d:D):aW S (.ok (.rt d) S')=leave S d S':=id rfl
theorem short {ds:List D} {k:Int} (h:(ds.length:Int)<=k) (hk:k<=1000):ds.length<=aJ:=by unfold aJ; omega
theorem uy {σ:Sg} {cf:Str->List D->M D} {a b c:E} {i j k:Int} (ha:ev sub cf a σ S=.ok (.int i) S) (hb:ev sub cf b σ S=.ok (.int j) S) (hc:ev sub cf c σ S=.ok (.int k) S) (h1:i<=j) (h2:j<=k) :
  ev sub cf (.chn .le .le a b c) σ S=.ok (.bl true) S:=by
 rw [Ax,ha,Res.ao,hb,Res.ao,jr,Res.ao,decide_eq_true h1]
 show (ev sub cf c σ S).bind _=_
 rw [hc,Res.ao,jr,decide_eq_true h2]
theorem d8 (h:Has P "is_whole" fz) {i lo hi:Int} (h1:lo<=i) (h2:i<=hi):ai sub P (n+1) "is_whole" [.int i,.int lo,.int hi] S=.ok (.bl true) S :=
 x_call h rfl (ak (aL (cj (bq (k:=true) (eF (aD (aa (r_v rfl) aj) (eT rfl)))) (k:=false) (eF (aD (aa (r_v rfl) aj) (eT rfl)))) aM) (aB (uy (r_v rfl) (r_v rfl) (r_v rfl) h1 h2))) (d_ _ _)
theorem uz (h:HB P) {v:Int} (h1:0<=v) (h2:v<=9972):ai sub P (n+2) "is_value" [.int v] S=.ok (.bl true) S :=
 x_call h.value rfl (aB (au (aa (r_v rfl) (aa r_c (aa (aY r_c r_c (gT _ _ _)) aj))) (d8 h.whole h1 h2))) (d_ _ _)
theorem gF (h:Has P "is_row" eW) {ds:List D} {lo hi:Int} (h1:lo<=(ds.length:Int)) (h2:(ds.length:Int)<=hi):ai sub P (n+1) "is_row" [.tup ds,.int lo,.int hi] S=.ok (.bl true) S :=
 x_call h rfl (aB (eZ (aD (aa (r_v rfl) aj) (eT rfl)) (uy (r_v rfl) (aD (aa (r_v rfl) aj) fB) (r_v rfl) h1 h2))) (d_ _ _)
theorem ji (h:Has P "is_row" eW) {ds:List D} {lo hi:Int} (m:Nat) (hm:ds.length=m) (h1:lo<=(m:Int)) (h2:(m:Int)<=hi):ai sub P (n+1) "is_row" [.tup ds,.int lo,.int hi] S=.ok (.bl true) S :=
 gF h (by rw [hm]; exact h1) (by rw [hm]; exact h2)
theorem BF (h:HB P) {c:Nat × Nat} (hc:(1<=c.1/\c.1<=3)/\(1<=c.2/\c.2<=4)):ai sub P (n+2) "is_crew" [bE c] S=.ok (.bl true) S :=
 x_call h.crew rfl (aB (eZ (au (aa (r_v rfl) (aa r_c (aa r_c aj))) (ji h.row 2 rfl (by decide) (by decide)))
  (eZ (au (aa (aG (r_v rfl) r_c (aQ rfl)) (aa r_c (aa r_c aj))) (d8 h.whole (Int.ofNat_le.mpr hc.1.1) (Int.ofNat_le.mpr hc.1.2)))
   (au (aa (aG (r_v rfl) r_c (aQ rfl)) (aa r_c (aa r_c aj))) (d8 h.whole (Int.ofNat_le.mpr hc.2.1) (Int.ofNat_le.mpr hc.2.2)))))) (d_ _ _)
theorem lW {cf:Str->List D->M D} {σ:Sg} {i k:Nat} {el a:E} {α:Type} {l:List α} {f:α->D} (ha:ev sub cf a σ S=.ok (.tup (l.map f)) S) (hn:l.length<=1000) (h:∀ x∈l,ev sub cf el ((σ++List.replicate k none).set i (some (f x))) S=.ok (.bl true) S) :
  ∃ T,ev sub cf (.bi .all (.cs (.comp k el (.one i) (.iSeq a) .nl) .nl)) σ S=.ok (.bl true) (S++T):=by
 have hc:=dh (sub:=sub) (cf:=cf) (k:=k) (i:=i) (el:=el) (it:=.iSeq a) (σ:=σ) (S:=S) (S1:=S) (ks:=l) (f:=f) (g:=fun _=>.bl true) (o:=none) (raw:=l.map f) (bU ha rfl) rfl h (by unfold aJ; omega)
 refine ⟨[.lst (l.map fun _=>.bl true)],aD (R:=.ok (.bl true) _) (aa hc aj) ((gI l fun _=>true).trans ?_)⟩
 rw [List.all_eq_true.mpr fun _ _=>rfl]
theorem vG (h:HB P) {cs:List (Nat × Nat)} (h1:1<=cs.length) (h2:cs.length<=3) (hc:∀ c∈cs,(1<=c.1/\c.1<=3)/\(1<=c.2/\c.2<=4)):ai sub P (n+3) "are_crews" [.tup (cs.map bE)] S=.ok (.bl true) S:=by
 obtain ⟨T,e⟩:=lW (sub:=sub) (cf:=ai sub P (n+2)) (σ:=[some (.tup (cs.map bE))]) (S:=S) (i:=2) (k:=2) (el:=.call "is_crew" (.cs (.v 2) .nl)) (a:=.v 0) (l:=cs) (f:=bE) (r_v rfl) (by omega) (fun c hm=>au (aa (r_v rfl) aj) (BF h (hc c hm)))
 exact x_call h.crews rfl (aB (eZ (au (aa (r_v rfl) (aa r_c (aa r_c aj))) (gF h.row (by rw [List.length_map]; omega) (by rw [List.length_map]; omega))) e)) (kZ _ _ _)
theorem zA (h:HB P) {vs:List Int} (h1:vs.length=3) (hv:∀ v∈vs,0<=v/\v<=9972):ai sub P (n+3) "are_starts" [.tup (vs.map .int)] S=.ok (.bl true) S:=by
 obtain ⟨T,e⟩:=lW (sub:=sub) (cf:=ai sub P (n+2)) (σ:=[some (.tup (vs.map .int))]) (S:=S) (i:=2) (k:=2) (el:=.call "is_value" (.cs (.v 2) .nl)) (a:=.v 0) (l:=vs) (f:=.int) (r_v rfl) (by omega) (fun c hm=>au (aa (r_v rfl) aj) (uz h (hv c hm).1 (hv c hm).2))
 exact x_call h.starts rfl (aB (eZ (au (aa (r_v rfl) (aa r_c (aa r_c aj))) (gF h.row (by rw [List.length_map,h1]; decide) (by rw [List.length_map,h1]; decide))) e)) (kZ _ _ _)
theorem AF (h:HB P) {x:D} {w b own many:Nat} (hb:b<=3) (hw:w < (if b=0 then own else many)):ai sub P (n+2) "is_work_source" [.tup [x,.int w,.int b],.int own,.int many] S=.ok (.bl true) S:=by
 have h0:∀ k:Nat,(0:Int)<=(k:Int):=fun k=>Int.natCast_nonneg k
 refine x_call h.worksource rfl (ak (aL (cj (bq (k:=true) (b8 (au (aa (r_v rfl) (aa r_c (aa r_c aj))) (ji h.row 3 rfl (by decide) (by decide)))))
  (k:=false) (bq (k:=true) (b8 (au (aa (aG (r_v rfl) r_c (aQ rfl)) (aa r_c (aa r_c aj))) (d8 h.whole (h0 b) (Int.ofNat_le.mpr hb)))))) aM)
  (ak (aI (d:=.int ((if b=0 then own else many:Nat):Int)) (S1:=S) ?_) (aB (au (aa (aG (r_v rfl) r_c (aQ rfl)) (aa r_c (aa (aY (r_v rfl) r_c (gT _ _ _)) aj))) (d8 h.whole (h0 w) (by omega)))))) (d_ _ _)
 by_cases z:b=0
 ·rw [if_pos z]; subst z
  exact DR (S1:=S) (bA (bx (aG (r_v rfl) r_c (aQ rfl)) r_c (gO _ _ _))) (r_v rfl)
 ·rw [if_neg z]
  exact yz (S1:=S) (t_k (bA (bx (aG (r_v rfl) r_c (aQ rfl)) r_c (gO _ _ _))) (beq_false_of_ne (by omega))) (r_v rfl)
theorem BC (h:HB P) {s:Srs} {own many streams:Nat} (hs:s.WF own many streams):ai sub P (n+3) "is_source" [s.toD,.int own,.int many,.int streams] S=.ok (.bl true) S:=by
 have first:∀ {x:Str} {r:List D} {σ:Sg} (e:bF σ 0 S=.ok (.tup (.str x::r)) S) (m:Nat) (hm:(D.str x::r).length=m) (h1:2<=(m:Int)) (h2:(m:Int)<=3),evT sub (ai sub P (n+2)) (.or (.not (.call "is_row" (.cs (.v 0) (.cs (.c (.int 2)) (.cs (.c (.int 3)) .nl))))) (.not (.bi (.inst .str) (.cs (.ix (.v 0) (.c (.int 0))) .nl)))) σ S=.ok false S:=fun {x r σ} e m hm h1 h2 =>
  cj (bq (k:=true) (b8 (au (aa (r_v e) (aa r_c (aa r_c aj))) (ji h.row m hm h1 h2)))) (k:=false) (bq (k:=true) (eF (aD (aa (aG (r_v e) r_c (aQ (d:=.str x) (qL _))) aj) (eT rfl))))
 have word:∀ {x:Str} {r:List D} {σ:Sg} (y:Str) {k:Bool} (e:bF σ 0 S=.ok (.tup (.str x::r)) S) (hk:(x==y)=k),ev sub (ai sub P (n+2)) (.cmp .eq (.ix (.v 0) (.c (.int 0))) (.c (.str y))) σ S=.ok (.bl k) S:=fun y k e hk=>by
  rw [<- hk]; exact bx (aG (r_v e) r_c (aQ (qL _))) r_c (iJ _ _ _)
 have two:∀ {x y:D} {σ:Sg} (e:bF σ 0 S=.ok (.tup [x,y]) S),evT sub (ai sub P (n+2)) (.cmp .ne (.bi .len (.cs (.v 0) .nl)) (.c (.int 2))) σ S=.ok false S:=fun e =>
  bA (bx (aD (aa (r_v e) aj) fB) r_c (qU _ _ _))
 cases s with
 | val v =>
  exact x_call h.source rfl (ak (aL (first (x:="value") rfl 2 rfl (by decide) (by decide)) aM) (ak (aL (bA (word "work" (x:="value") rfl (by decide +kernel))) aM) (ak (aL (two rfl) aM) (ak (aL (bA (word "input" (x:="value") rfl (by decide +kernel))) aM)
   (aB (eZ (word "value" (x:="value") rfl (by decide +kernel)) (au (aa (aG (r_v rfl) r_c (aQ rfl)) aj) (uz h hs.1 hs.2)))))))) (d_ _ _)
 | inp k =>
  have hk:k < streams:=hs
  exact x_call h.source rfl (ak (aL (first (x:="input") rfl 2 rfl (by decide) (by decide)) aM) (ak (aL (bA (word "work" (x:="input") rfl (by decide +kernel))) aM) (ak (aL (two rfl) aM) (bG (bR (bA (word "input" (x:="input") rfl (by decide +kernel)))
   (aB (au (aa (aG (r_v rfl) r_c (aQ rfl)) (aa r_c (aa (aY (r_v rfl) r_c (gT _ _ _)) aj))) (d8 h.whole (Int.natCast_nonneg k) (by omega))))))))) (d_ _ _)
 | wrk w b =>
  exact x_call h.source rfl (ak (aL (first (x:="work") rfl 3 rfl (by decide) (by decide)) aM) (bG (bR (bA (word "work" (x:="work") rfl (by decide +kernel))) (aB (au (aa (r_v rfl) (aa (r_v rfl) (aa (r_v rfl) aj))) (AF h hs.1 hs.2)))))) (d_ _ _)
theorem Bw {x:Str} (h:x∈bY):cmD .d9 (.str x) (.tup [(.str "plus"),(.str "less"),(.str "times"),(.str "least"),(.str "greatest")]) S=.ok (.bl false) S:=by
 have h:x = "plus"\/x = "less"\/x = "times"\/x = "least"\/x = "greatest":=by simpa [bY] using h
 rcases h with rfl|rfl|rfl|rfl|rfl <;> rfl
theorem BS (h:HB P) {w:Wk} {own many streams ncrews:Nat} (hw:w.WF own many streams ncrews):ai sub P (n+4) "is_work" [w.toD,.int own,.int many,.int streams,.int ncrews] S=.ok (.bl true) S:=by
 have hc:=hw.crew
 obtain ⟨T,e⟩:=lW (sub:=sub) (cf:=ai sub P (n+3)) (σ:=[some w.toD,some (.int own),some (.int many),some (.int streams),some (.int ncrews),some (.tup (w.srcs.map Srs.toD))]) (S:=S) (i:=7) (k:=2) (el:=.call "is_source" (.cs (.v 7) (.cs (.v 1) (.cs (.v 2) (.cs (.v 3) .nl))))) (a:=.v 5) (l:=w.srcs) (f:=Srs.toD) (r_v rfl) (by have:=hw.some; omega) (fun s hm=>au (aa (r_v rfl) (aa (r_v rfl) (aa (r_v rfl) (aa (r_v rfl) aj)))) (BC h (hw.srcs s hm)))
 refine x_call h.work rfl (ak (aL (bq (k:=true) (b8 (au (aa (r_v rfl) (aa r_c (aa r_c aj))) (ji h.row 5 rfl (by decide) (by decide))))) aM)
  (ak (aL (cj (bq (k:=true) (b8 (au (aa (aG (r_v rfl) r_c (aQ rfl)) (aa r_c (aa (aY (r_v rfl) r_c (gT _ _ _)) aj))) (d8 h.whole (Int.natCast_nonneg _) (by omega))))) (k:=false)
   (bq (k:=true) (b8 (au (aa (aG (r_v rfl) r_c (aQ rfl)) (aa r_c (aa r_c aj))) (d8 h.whole (Int.ofNat_le.mpr hw.long.1) (Int.ofNat_le.mpr hw.long.2)))))) aM)
  (ak (aL (cj (bq (k:=true) (eF (aD (aa (aG (r_v rfl) r_c (aQ rfl)) aj) (eT rfl)))) (bA (bx (aG (r_v rfl) r_c (aQ rfl)) r_c (Bw hw.doing)))) aM)
  (ak (aI (aG (r_v rfl) r_c (aQ rfl)))
  (ak (aL (cj (bq (k:=true) (b8 (au (aa (r_v rfl) (aa r_c (aa r_c aj))) (gF h.row (ds:=w.srcs.map Srs.toD) ?_ ?_)))) (k:=false) (bq (k:=true) (b8 (au (aa (aG (r_v rfl) r_c (aQ rfl)) aj) (zA h hw.three hw.starts))))) aM)
  (aB e)))))) (kZ _ _ _)
 ·rw [List.length_map]; have:=hw.some; omega
 ·rw [List.length_map]; have:=hw.some; omega
theorem xM (h:HB P) {ws:List Wk} {streams ncrews:Nat} (h1:1<=ws.length) (h2:ws.length<=8) (hw:∀ (i:Nat) w,ws[i]?=some w->w.WF i ws.length streams ncrews):ai sub P (n+5) "are_works" [.tup (ws.map Wk.toD),.int streams,.int ncrews] S=.ok (.bl true) S:=by
 have hc:=uV (sub:=sub) (cf:=ai sub P (n+4)) (k:=3) (is:=[5,6]) (el:=.call "is_work" (.cs (.v 6) (.cs (.v 5) (.cs (.v 3) (.cs (.v 1) (.cs (.v 2) .nl)))))) (it:=.iEnum (.v 0))
  (σ:=[some (.tup (ws.map Wk.toD)),some (.int streams),some (.int ncrews),some (.int ws.length)]) (S:=S) (S1:=S) (s:=⟨num 0 (ws.map Wk.toD),none,ws.map Wk.toD⟩) (g:=fun _=>.bl true) rfl rfl (fun d hd=>by
   obtain ⟨i,hi,rfl⟩:=List.mem_iff_getElem.mp hd
   have hi':i < ws.length:=by rw [nC,List.length_map] at hi; exact hi
   refine ⟨_,Fg _ 0 i hi,rfl,?_⟩
   rw [List.getElem_map,Nat.zero_add]
   exact au (aa (r_v rfl) (aa (r_v rfl) (aa (r_v rfl) (aa (r_v rfl) (aa (r_v rfl) aj))))) (BS h (hw i _ (List.getElem?_eq_getElem hi')))) (by unfold aJ; rw [nC,List.length_map]; omega)
 have ha:ev sub (ai sub P (n+4)) (.bi .all (.cs (.comp 3 (.call "is_work" (.cs (.v 6) (.cs (.v 5) (.cs (.v 3) (.cs (.v 1) (.cs (.v 2) .nl)))))) (.many [5,6]) (.iEnum (.v 0)) .nl) .nl)) [some (.tup (ws.map Wk.toD)),some (.int streams),some (.int ncrews),some (.int ws.length)] S=.ok (.bl true) (S++[.lst ((num 0 (ws.map Wk.toD)).map fun _=>.bl true)]) :=
  aD (aa hc aj) ((gI _ fun _=>true).trans (by rw [List.all_eq_true.mpr fun _ _=>rfl]))
 refine x_call h.works rfl (ak (aL (bq (k:=true) (b8 (au (aa (r_v rfl) (aa r_c (aa r_c aj))) (gF h.row (ds:=ws.map Wk.toD) ?_ ?_)))) aM)
  (ak (aI (d:=.int ws.length) (S1:=S) ?_) (aB ha))) (kZ _ _ _)
 ·rw [List.length_map]; omega
 ·rw [List.length_map]; omega
 ·have:=fB (sub:=sub) (S:=S) (xs:=ws.map Wk.toD)
  rw [List.length_map] at this
  exact aD (aa (r_v rfl) aj) this
theorem uD (h:HB P) {d0:D} {many:Nat} {s:Src} (hs:∀ T,aN s T=.ok () T):∀ (l:List Nat) (least:Nat) (x:Option D),dz many least l->∃ σ',forL s (ck sub (ai sub P (n+1)) (.one 3) (.seq (.ite (.not (.call "is_whole" (.cs (.v 3) (.cs (.v 2) (.cs (.bin .sub (.v 1) (.c (.int 1))) .nl))))) (.ret (.c (.bl false))) .skip) (.set (.one 2) (.bin .add (.v 3) (.c (.int 1))))))
   (l.map bw) [some d0,some (.int many),some (.int least),x] S=.ok (.nx σ') S
 | [],least,x,_=>⟨_,by rw [List.map_nil,jD,hs,Res.ao]⟩
 | k::r,least,x,⟨h1,h2,h3⟩=>by
  obtain ⟨σ',e⟩:=uD h hs r (k+1) (some (bw k)) h3
  refine ⟨σ',?_⟩
  rw [List.map_cons,j7,hs,Res.ao,kL,ak (aL (bq (k:=true) (b8 (au (aa (r_v rfl) (aa (r_v rfl) (aa (aY (r_v rfl) r_c (gT _ _ _)) aj))) (d8 h.whole (Int.ofNat_le.mpr h1) (by omega))))) aM) (aI (aY (r_v rfl) r_c (gS _ _ _)))]
  exact e
theorem qo {many:Nat}:∀ {l:List Nat} {least:Nat},dz many least l->least<=many->l.length+least<=many
 | [],_,_,h=>by simpa using h
 | k::r,least,⟨h1,h2,h3⟩,_=>by
  have:=qo h3 (by omega)
  simp only [List.length_cons]; omega
theorem Bh (h:HB P) {os:List Nat} {many:Nat} (h1:1<=os.length) (hr:dz many 0 os):ai sub P (n+2) "are_outs" [.tup (os.map bw),.int many] S=.ok (.bl true) S:=by
 have hl:=qo hr (Nat.zero_le _)
 obtain ⟨σ',e⟩:=uD (sub:=sub) (n:=n) (S:=S) (d0:=.tup (os.map bw)) (s:=⟨os.map bw,none,os.map bw⟩) h (fun _=>rfl) os 0 none hr
 exact x_call h.outs rfl (ak (aL (bq (k:=true) (b8 (au (aa (r_v rfl) (aa r_c (aa (r_v rfl) aj))) (gF h.row (ds:=os.map bw) (by rw [List.length_map]; omega) (by rw [List.length_map]; omega))))) aM)
  (ak (aI r_c) (ak (jl (bU (r_v rfl) rfl) e) (aB r_c)))) (d_ _ _)
theorem nQ (h:HB P) {l:Lp} (hl:l.WF):ai sub P (n+6) "is_loop" [l.toD] S=.ok (.bl true) S:=by
 have e1:=fB (sub:=sub) (S:=S) (xs:=l.crews.map bE)
 have e2:=fB (sub:=sub) (S:=S) (xs:=l.works.map Wk.toD)
 rw [List.length_map] at e1 e2
 exact x_call h.loop rfl (ak (aL (bq (k:=true) (b8 (au (aa (r_v rfl) (aa r_c (aa r_c aj))) (ji h.row 4 rfl (by decide) (by decide))))) aM)
  (ak (aL (cj (bq (k:=true) (b8 (au (aa (aG (r_v rfl) r_c (aQ rfl)) (aa r_c (aa r_c aj))) (d8 h.whole (Int.natCast_nonneg _) (Int.ofNat_le.mpr hl.streams))))) (k:=false)
   (bq (k:=true) (b8 (au (aa (aG (r_v rfl) r_c (aQ rfl)) aj) (vG h hl.ncrews.1 hl.ncrews.2 hl.crews))))) aM)
  (aB (eZ (au (aa (aG (r_v rfl) r_c (aQ rfl)) (aa (aG (r_v rfl) r_c (aQ rfl)) (aa (aD (aa (aG (r_v rfl) r_c (aQ rfl)) aj) e1) aj))) (xM h hl.nworks.1 hl.nworks.2 hl.works))
   (au (aa (aG (r_v rfl) r_c (aQ rfl)) (aa (aD (aa (aG (r_v rfl) r_c (aQ rfl)) aj) e2) aj)) (Bh h hl.nouts hl.outs)))))) (d_ _ _)
end RL

namespace RL
open PySem EV GO
section
local macro_rules|`(tactic| done)=>`(tactic| (first|with_reducible exact r_c|((with_reducible apply r_v); exact rfl)|with_reducible apply aY|with_reducible apply bx|with_reducible apply aG|with_reducible apply au|with_reducible exact aj|with_reducible apply aa|with_reducible apply aD|with_reducible apply fT|with_reducible apply eY|with_reducible apply cy|((with_reducible apply An); exact rfl)|with_reducible apply sj|with_reducible apply b8|with_reducible apply eF|with_reducible apply bA|with_reducible exact gS _ _ _|with_reducible exact gT _ _ _|((with_reducible apply eV); first|decide|assumption|omega)|((with_reducible apply B_); first|decide|omega)|((with_reducible apply qc); first|decide|omega)|((with_reducible apply j6); decide)|with_reducible exact l8 _ _ _|with_reducible exact jr _ _ _|with_reducible exact CT _ _ _|with_reducible exact Fq _ _ _|with_reducible exact gO _ _ _|with_reducible exact iJ _ _ _|((with_reducible apply pS); assumption)|with_reducible exact gR|with_reducible exact yS|with_reducible exact fB|with_reducible exact t6|((with_reducible apply aQ); exact rfl)|with_reducible assumption|((apply eV); first|decide|assumption)|apply gO|apply iJ))
noncomputable def oV:Fn:=⟨2,2,(.seq (.ite (.cmp .lt (.v 1) (.bi .len (.cs (.v 0) .nl)))
  (.ret (.ix (.v 0) (.v 1)))
  .skip)
 (.seq (.ite (.cmp .eq (.v 0) (.lst .nl))
  (.ret (.c (.int 0)))
  .skip)
 (.ret (.bin .add (.bin .mul (.ix (.v 0) (.bin .mod (.v 1) (.bi .len (.cs (.v 0) .nl)))) (.c (.int 31))) (.v 1)))))⟩
noncomputable def pH:Fn:=⟨3,4,(.seq (.set (.one 3) (.bin .mod (.bin .mul (.bin .add (.bin .add (.call "_law_cell_at" (.cs (.v 0) (.cs (.v 1) .nl))) (.bin .mul (.c (.int 7919)) (.v 1))) (.c (.int 1))) (.c (.int 48271))) (.c (.int 2147483647))))
 (.ret (.bin .mod (.bin .mod (.bin .add (.bin .add (.bin .mul (.v 3) (.v 3)) (.bin .mul (.c (.int 7)) (.v 3))) (.v 1)) (.c (.int 2147483629))) (.v 2))))⟩
noncomputable def uL:Fn:=⟨5,7,(.seq (.set (.one 5) (.call "_law_mixed" (.cs (.v 0) (.cs (.v 1) (.cs (.c (.int 7)) .nl)))))
 (.seq (.ite (.or (.cmp .eq (.v 5) (.c (.int 0))) (.and (.cmp .eq (.v 5) (.c (.int 1))) (.cmp .eq (.v 2) (.c (.int 0)))))
  (.ret (.tup (.cs (.c (.str "value")) (.cs (.call "_law_mixed" (.cs (.v 0) (.cs (.bin .add (.v 1) (.c (.int 1))) (.cs (.c (.int 9973)) .nl)))) .nl))))
  .skip)
 (.seq (.ite (.cmp .eq (.v 5) (.c (.int 1)))
  (.ret (.tup (.cs (.c (.str "input")) (.cs (.call "_law_mixed" (.cs (.v 0) (.cs (.bin .add (.v 1) (.c (.int 1))) (.cs (.v 2) .nl)))) .nl))))
  .skip)
 (.seq (.set (.one 6) (.call "_law_mixed" (.cs (.v 0) (.cs (.bin .add (.v 1) (.c (.int 1))) (.cs (.v 3) .nl)))))
 (.seq (.ite (.and (.cmp .lt (.v 6) (.v 4)) (.cmp .lt (.v 5) (.c (.int 5))))
  (.ret (.tup (.cs (.c (.str "work")) (.cs (.v 6) (.cs (.c (.int 0)) .nl)))))
  .skip)
 (.ret (.tup (.cs (.c (.str "work")) (.cs (.v 6) (.cs (.bin .add (.c (.int 1)) (.call "_law_mixed" (.cs (.v 0) (.cs (.bin .add (.v 1) (.c (.int 2))) (.cs (.c (.int 3)) .nl))))) .nl))))))))))⟩
noncomputable def rm:Fn:=⟨4,12,(.seq (.set (.many [4,5,6]) (.v 2))
 (.seq (.set (.one 7) (.lst .nl))
 (.seq (.forS (.one 8) (.iRng (.cs (.bin .add (.c (.int 1)) (.call "_law_mixed" (.cs (.v 0) (.cs (.bin .add (.v 1) (.c (.int 2))) (.cs (.c (.int 2)) .nl))))) .nl))
  (.ex (.me .append (.v 7) (.cs (.call "_law_source" (.cs (.v 0) (.cs (.bin .add (.bin .add (.v 1) (.c (.int 3))) (.bin .mul (.c (.int 3)) (.v 8))) (.cs (.v 4) (.cs (.v 6) (.cs (.v 3) .nl)))))) .nl))))
 (.seq (.set (.one 9) (.ix (.lst (.cs (.c (.str "plus")) (.cs (.c (.str "less")) (.cs (.c (.str "times")) (.cs (.c (.str "least")) (.cs (.c (.str "greatest")) .nl)))))) (.call "_law_mixed" (.cs (.v 0) (.cs (.v 1) (.cs (.c (.int 5)) .nl))))))
 (.seq (.set (.one 10) (.bin .add (.c (.int 1)) (.call "_law_mixed" (.cs (.v 0) (.cs (.bin .add (.v 1) (.c (.int 1))) (.cs (.ix (.lst (.cs (.c (.int 2)) (.cs (.c (.int 5)) .nl))) (.call "_law_mixed" (.cs (.v 0) (.cs (.bin .add (.v 1) (.c (.int 2))) (.cs (.c (.int 2)) .nl))))) .nl))))))
 (.seq (.set (.one 11) (.bi .tuple (.cs (.comp 2 (.call "_law_mixed" (.cs (.v 0) (.cs (.bin .add (.v 1) (.v 13)) (.cs (.c (.int 9973)) .nl)))) (.one 13) (.iSeq (.tup (.cs (.c (.int 0)) (.cs (.c (.int 5)) (.cs (.c (.int 6)) .nl))))) .nl) .nl)))
 (.ret (.tup (.cs (.call "_law_mixed" (.cs (.v 0) (.cs (.bin .add (.v 1) (.c (.int 7))) (.cs (.v 5) .nl)))) (.cs (.v 10) (.cs (.v 9) (.cs (.bi .tuple (.cs (.v 7) .nl)) (.cs (.v 11) .nl)))))))))))))⟩
noncomputable def pC:Fn:=⟨3,9,(.seq (.set (.one 3) (.call "_law_mixed" (.cs (.v 0) (.cs (.v 1) (.cs (.c (.int 3)) .nl)))))
 (.seq (.set (.one 4) (.bin .add (.c (.int 1)) (.call "_law_mixed" (.cs (.v 0) (.cs (.bin .add (.v 1) (.c (.int 1))) (.cs (.v 2) .nl))))))
 (.seq (.set (.one 5) (.lst .nl))
 (.seq (.forS (.one 6) (.iRng (.cs (.bin .add (.c (.int 1)) (.call "_law_mixed" (.cs (.v 0) (.cs (.bin .add (.v 1) (.c (.int 2))) (.cs (.c (.int 2)) .nl))))) .nl))
  (.ex (.me .append (.v 5) (.cs (.tup (.cs (.bin .add (.c (.int 1)) (.call "_law_mixed" (.cs (.v 0) (.cs (.bin .add (.bin .add (.v 1) (.c (.int 3))) (.v 6)) (.cs (.c (.int 2)) .nl))))) (.cs (.bin .add (.c (.int 1)) (.bin .fdiv (.call "_law_mixed" (.cs (.v 0) (.cs (.bin .add (.bin .add (.v 1) (.c (.int 5))) (.v 6)) (.cs (.c (.int 5)) .nl)))) (.c (.int 2)))) .nl))) .nl))))
 (.seq (.set (.one 7) (.lst .nl))
 (.seq (.forS (.one 6) (.iRng (.cs (.v 4) .nl))
  (.ex (.me .append (.v 7) (.cs (.call "_law_work" (.cs (.v 0) (.cs (.bin .add (.bin .add (.v 1) (.c (.int 7))) (.bin .mul (.c (.int 9)) (.v 6))) (.cs (.tup (.cs (.v 3) (.cs (.bi .len (.cs (.v 5) .nl)) (.cs (.v 4) .nl)))) (.cs (.v 6) .nl))))) .nl))))
 (.seq (.set (.one 8) (.comp 2 (.v 10) (.one 10) (.iRng (.cs (.v 4) .nl)) (.cmp .gt (.call "_law_mixed" (.cs (.v 0) (.cs (.bin .add (.bin .add (.v 1) (.c (.int 7))) (.v 10)) (.cs (.c (.int 3)) .nl)))) (.c (.int 0)))))
 (.seq (.ite (.cmp .eq (.v 8) (.lst .nl))
  (.set (.one 8) (.lst (.cs (.bin .sub (.v 4) (.c (.int 1))) .nl)))
  .skip)
 (.ret (.tup (.cs (.v 3) (.cs (.bi .tuple (.cs (.v 5) .nl)) (.cs (.bi .tuple (.cs (.v 7) .nl)) (.cs (.bi .tuple (.cs (.v 8) .nl)) .nl))))))))))))))⟩
theorem Srs.cl (s:Srs):s.toD.cl:=by cases s <;> rfl
theorem Wk.cl (w:Wk):w.toD.cl:=by
 show (true&&(true&&(true&&(D.lows 0 (w.srcs.map Srs.toD)&&(D.lows 0 (w.starts.map .int)&&true)))))=true
 rw [jU Srs.cl,Ga]; rfl
theorem Lp.cl (l:Lp):l.toD.cl:=by
 show (true&&(D.lows 0 (l.crews.map bE)&&(D.lows 0 (l.works.map Wk.toD)&&(D.lows 0 (l.outs.map bw)&&true))))=true
 rw [jU (f:=bE) fun _=>rfl,jU Wk.cl,jU (f:=bw) fun _=>rfl]; rfl
theorem sI {sub:Sub} {P:Prg} {n:Nat} {S:af} (h:HB P) {l:Lp} (hw:l.WF):ai sub P (n+7) "checked" [l.toD] S=.ok l.toD S :=
 x_call h.checked rfl (ak (aL (bq (k:=true) (b8 (au (aa (r_v rfl) aj) (nQ h hw)))) aM) (aB (r_v rfl))) (bf l.cl List.take_length)
noncomputable def cellAt (ns:List Int) (k:Int):Int:=if k < ns.length then ns.getD k.toNat 0 else if ns.length=0 then 0 else ns.getD (k % (ns.length:Int)).toNat 0 * 31+k
noncomputable def drawn (ns:List Int) (k:Int):Int:=(cellAt ns k+7919 * k+1) * 48271 % 2147483647
noncomputable def mixed (ns:List Int) (k m:Int):Int:=(drawn ns k * drawn ns k+7 * drawn ns k+k) % 2147483629 % m
theorem zM (ns:List Int) (k:Int) {m:Int} (h:0 < m):0<=mixed ns k m/\mixed ns k m < m:=⟨Int.emod_nonneg _ (by omega),Int.emod_lt_of_pos _ h⟩
structure HG (P:Prg):Prop where
 cell:Has P "_law_cell_at" oV
 mix:Has P "_law_mixed" pH
 source:Has P "_law_source" uL
 work:Has P "_law_work" rm
 loop:Has P "_law_loop" pC
variable {sub:Sub} {P:Prg} {n:Nat} {S:af}
theorem qf {ns:List Int} {k:Int} (h0:0<=k) (h:k < ns.length):atI (ns.map D.int) k=some (.int (ns.getD k.toNat 0)):=by
 obtain ⟨j,rfl⟩:=Int.eq_ofNat_of_zero_le h0
 rw [fC]
 have hj:j < ns.length:=by omega
 simp [hj]
theorem eq_empty (ns:List Int) (S:af):cmD .eq (.fro (ns.map .int)) (.loc S.length) (S++[.lst []])=.ok (.bl (decide (ns.length=0))) (S++[.lst []]):=by
 rw [nR]
 have:eqD deep (S++[.lst []]) (.fro (ns.map .int)) (.loc S.length)=some (decide (ns.length=0)):=by
  show (match some (ns.map D.int),listAt (S++[.lst []]) S.length with|some xs,some ys=>if xs.length=ys.length then bX _ xs ys else some false|_,_=>none)=_
  have e:listAt (S++[.lst []]) S.length=some []:=by unfold listAt; simp
  rw [e]
  cases ns <;> simp [bX]
 rw [this]
theorem FT (h:HG P) (ns:List Int) {k:Int} (hk:0<=k):ai sub P (n+1) "_law_cell_at" [.fro (ns.map .int),.int k] S=.ok (.int (cellAt ns k)) S:=by
 have hl:∀ S:af,biD sub .len [.fro (ns.map .int)] S=.ok (.int ns.length) S:=fun S=>by
  have:=t6 (sub:=sub) (S:=S) (xs:=ns.map .int)
  rw [List.length_map] at this
  exact this
 have e1:∀ {b:Bool},decide (k < (ns.length:Int))=b->evT sub (ai sub P n) (.cmp .lt (.v 1) (.bi .len (.cs (.v 0) .nl))) [some (.fro (ns.map .int)),some (.int k)] S=.ok b S:=fun e=>t_k (bA (bx (r_v rfl) (aD (aa (r_v rfl) aj) (hl _)) (l8 _ _ _))) e
 have e2:∀ {b:Bool},decide (ns.length=0)=b->evT sub (ai sub P n) (.cmp .eq (.v 0) (.lst .nl)) [some (.fro (ns.map .int)),some (.int k)] S=.ok b (S++[.lst []]):=fun e=>t_k (bA (bx (r_v rfl) (cy aj rfl) (eq_empty ns S))) e
 unfold cellAt
 by_cases h1:k < ns.length
 ·rw [if_pos h1]
  exact x_call h.cell rfl (bG (bR (e1 (decide_eq_true h1)) (aB (aG (r_v rfl) (r_v rfl) (tZ (qf hk h1)))))) (wN _ _)
 rw [if_neg h1]
 by_cases h2:ns.length=0
 ·rw [if_pos h2]
  exact x_call h.cell rfl (ak (aL (e1 (decide_eq_false h1)) aM) (bG (bR (e2 (decide_eq_true h2)) (aB r_c)))) (sZ _ _ _)
 ·rw [if_neg h2]
  have h3:0 < (ns.length:Int):=by omega
  exact x_call h.cell rfl (ak (aL (e1 (decide_eq_false h1)) aM) (ak (aL (e2 (decide_eq_false h2)) aM) (aB (aY (aY (aG (r_v rfl) (aY (r_v rfl) (aD (aa (r_v rfl) aj) (hl _)) (eV h3)) (tZ (qf (Int.emod_nonneg k (by omega)) (Int.emod_lt_of_pos k h3)))) r_c (qc (by decide))) (r_v rfl) (gS _ _ _))))) (sZ _ _ _)
theorem DU (h:HG P) (ns:List Int) {k m:Int} (hk:0<=k) (hm:0 < m):ai sub P (n+2) "_law_mixed" [.fro (ns.map .int),.int k,.int m] S=.ok (.int (mixed ns k m)) S:=by
 have hc:=FT (sub:=sub) (n:=n) (S:=S) h ns hk
 have h1:0<=drawn ns k:=Int.emod_nonneg _ (by decide)
 have h2:drawn ns k < 2147483647:=Int.emod_lt_of_pos _ (by decide)
 refine x_call h.mix rfl (ak (aI (d:=.int (drawn ns k)) (S1:=S) ?_) (aB (d:=.int (mixed ns k m)) (S1:=S) ?_)) (bf rfl (by simp)) <;> (repeat' done)
structure Mix (P:Prg) (mx:List Int->Int->Int->Int):Prop where
 ok:∀ {sub:Sub} {n:Nat} {S:af} (ns:List Int) {k m:Int},0<=k->0 < m->ai sub P (n+2) "_law_mixed" [.fro (ns.map .int),.int k,.int m] S=.ok (.int (mx ns k m)) S
 rng:∀ (ns:List Int) (k:Int) {m:Int},0 < m->0<=mx ns k m/\mx ns k m < m
theorem CV (h:HG P):∃ mx,Mix P mx:=⟨mixed,fun ns _ _ hk hm=>DU h ns hk hm,fun ns k _ h=>zM ns k h⟩
variable {mx:List Int->Int->Int->Int}
noncomputable def fm (mx:List Int->Int->Int->Int) (ns:List Int) (at':Int) (streams many own:Nat):Srs :=
 if mx ns at' 7=0\/(mx ns at' 7=1/\streams=0) then .val (mx ns (at' + 1) 9973)
 else if mx ns at' 7=1 then .inp (mx ns (at' + 1) streams).toNat
 else if (mx ns (at' + 1) many).toNat < own/\mx ns at' 7 < 5 then .wrk (mx ns (at' + 1) many).toNat 0
 else .wrk (mx ns (at' + 1) many).toNat (1+mx ns (at' + 2) 3).toNat
theorem Gy (S:af) (s:Srs):leave S s.toD S=.ok s.toD S:=bf s.cl (by simp)
theorem toNat_cast {i:Int} (h:0<=i):((i.toNat:Nat):Int)=i:=Int.toNat_of_nonneg h
theorem yN (h:HG P) (M:Mix P mx) (ns:List Int) {at':Int} {streams many own:Nat} (hat:0<=at') (hm:0 < many):ai sub P (n+3) "_law_source" [.fro (ns.map .int),.int at',.int streams,.int many,.int own] S=.ok (fm mx ns at' streams many own).toD S:=by
 have hm':(0:Int) < many:=by omega
 have a1:0<=at' + 1:=by omega
 have a2:0<=at' + 2:=by omega
 have m0:=M.ok (sub:=sub) (n:=n) (S:=S) ns (k:=at') (m:=7) hat (by decide)
 have r3:=M.rng ns (at' + 1) hm'
 have m1:=M.ok (sub:=sub) (n:=n) (S:=S) ns (k:=at' + 1) (m:=9973) a1 (by decide)
 have m3:=M.ok (sub:=sub) (n:=n) (S:=S) ns (k:=at' + 1) (m:=many) a1 hm'
 have m4:=M.ok (sub:=sub) (n:=n) (S:=S) ns (k:=at' + 2) (m:=3) a2 (by decide)
 have r4:=M.rng ns (at' + 2) (show (0:Int) < 3 by decide)
 unfold fm
 generalize hw:mx ns at' 7=w at m0
 refine x_call (S1:=S) h.source rfl (ak (aI (d:=.int w) (S1:=S) (by (repeat' done))) ?_) (Gy S _)
 by_cases w0:w=0\/(w=1/\streams=0)
 ·rw [if_pos w0]
  refine bG (bR (S1:=S) ?_ (show _=Res.ok (Fl.rt (.tup [.str "value",.int _])) S from aB (by (repeat' done))))
  rcases w0 with rfl|⟨rfl,rfl⟩
  ·exact jF (t_k (by (repeat' done)) rfl)
  ·exact cj (t_k (S1:=S) (by (repeat' done)) rfl) (kC (t_k (S1:=S) (by (repeat' done)) rfl) (t_k (by (repeat' done)) rfl))
 ·rw [if_neg w0]
  refine ak (aL (S1:=S) ?_ aM) ?_
  ·by_cases z:w=0
   ·exact (w0 (.inl z)).elim
   ·by_cases z1:w=1
    ·have hs2:¬ (streams=0):=fun q=>w0 (.inr ⟨z1,q⟩)
     exact cj (t_k (S1:=S) (by (repeat' done)) (beq_false_of_ne z)) (kC (t_k (S1:=S) (by (repeat' done)) (beq_iff_eq.mpr z1)) (t_k (by (repeat' done)) (by simp [hs2])))
    ·exact cj (t_k (S1:=S) (by (repeat' done)) (beq_false_of_ne z)) (sY (t_k (by (repeat' done)) (beq_false_of_ne z1)))
  ·by_cases w1:w=1
   ·have hs':(0:Int) < streams:=by have:¬ streams=0:=fun q=>w0 (.inr ⟨w1,q⟩); omega
    have m2:=M.ok (sub:=sub) (n:=n) (S:=S) ns (k:=at' + 1) (m:=streams) a1 hs'
    have r2:=toNat_cast (M.rng ns (at' + 1) hs').1
    rw [if_pos w1]
    refine bG (bR (S1:=S) (t_k (by (repeat' done)) (beq_iff_eq.mpr w1)) ?_)
    show _=Res.ok (Fl.rt (.tup [.str "input",.int _])) S
    rw [r2]
    exact aB (by (repeat' done))
   ·rw [if_neg w1]
    have t3:=toNat_cast r3.1
    generalize hv:mx ns (at' + 1) many=v at m3 r3 t3
    refine ak (aL (S1:=S) (t_k (by (repeat' done)) (beq_false_of_ne w1)) aM) (ak (aI (d:=.int v) (S1:=S) (by (repeat' done))) ?_)
    by_cases w2:v.toNat < own/\w < 5
    ·rw [if_pos w2]
     refine bG (bR (S1:=S) (kC (t_k (S1:=S) (by (repeat' done)) (decide_eq_true (by omega))) (t_k (by (repeat' done)) (decide_eq_true w2.2))) ?_)
     show _=Res.ok (Fl.rt (.tup [.str "work",.int _,.int 0])) S
     rw [t3]
     exact aB (by (repeat' done))
    ·rw [if_neg w2]
     refine ak (aL (S1:=S) ?_ aM) ?_
     ·by_cases w3:v < own
      ·exact kC (t_k (S1:=S) (by (repeat' done)) (decide_eq_true w3)) (t_k (by (repeat' done)) (decide_eq_false fun z=>w2 ⟨by omega,z⟩))
      ·exact sY (t_k (by (repeat' done)) (decide_eq_false w3))
     ·show _=Res.ok (Fl.rt (.tup [.str "work",.int _,.int _])) S
      rw [t3,toNat_cast (show 0<=1+mx ns (at' + 2) 3 by omega)]
      exact aB (by (repeat' done))
theorem AJ (M:Mix P mx) (ns:List Int) (at':Int) {streams many own:Nat} (hm:0 < many):(fm mx ns at' streams many own).WF own many streams:=by
 have r1:=M.rng ns (at' + 1) (show (0:Int) < 9973 by decide)
 have r3:=M.rng ns (at' + 1) (show (0:Int) < many by omega)
 have r4:=M.rng ns (at' + 2) (show (0:Int) < 3 by decide)
 unfold fm
 by_cases w0:mx ns at' 7=0\/(mx ns at' 7=1/\streams=0)
 ·rw [if_pos w0]; exact ⟨r1.1,by omega⟩
 ·rw [if_neg w0]
  by_cases w1:mx ns at' 7=1
  ·rw [if_pos w1]
   have hs:streams≠0:=fun z=>w0 (.inr ⟨w1,z⟩)
   have r2:=M.rng ns (at' + 1) (show (0:Int) < streams by omega)
   show _ < streams
   omega
  ·rw [if_neg w1]
   split
   ·rename_i h; exact ⟨by omega,by simpa using h.1⟩
   ·refine ⟨by omega,?_⟩
    rw [if_neg (by omega)]
    omega
noncomputable def dB (i:Int):Int:=if i=0 then 2 else 5
noncomputable def eo (mx:List Int->Int->Int->Int) (ns:List Int) (at':Int) (streams ncrews many own:Nat):Wk where
 crew:=(mx ns (at' + 7) ncrews).toNat
 long:=(1+mx ns (at' + 1) (dB (mx ns (at' + 2) 2))).toNat
 doing:=bY.getD (mx ns at' 5).toNat "plus"
 srcs:=(List.range (1+mx ns (at' + 2) 2).toNat).map fun (k:Nat)=>fm mx ns (at' + 3+3 * (k:Int)) streams many own
 starts:=[mx ns (at' + 0) 9973,mx ns (at' + 5) 9973,mx ns (at' + 6) 9973]
theorem fh (k:Nat):bw k=.int (k:Int):=rfl
theorem xC {i:Int} (h:0<=i/\i < 2):atI [D.int 2,D.int 5] i=some (.int (dB i)):=by
 rcases (show i=0\/i=1 by omega) with rfl|rfl <;> rfl
theorem xF {i:Int} (h:0<=i/\i < 5):atI [D.str "plus",D.str "less",D.str "times",D.str "least",D.str "greatest"] i=some (.str (bY.getD i.toNat "plus")):=by
 obtain ⟨k,rfl⟩:=Int.eq_ofNat_of_zero_le h.1
 rw [fC]
 have hk:k < 5:=by omega
 exact (by decide:∀ k:Fin 5,[D.str "plus",D.str "less",D.str "times",D.str "least",D.str "greatest"][k.1]?=some (.str (bY.getD ((k.1:Nat):Int).toNat "plus"))) ⟨k,hk⟩
theorem u_ (h:HG P) (M:Mix P mx) (ns:List Int) {at':Int} {streams ncrews many own:Nat} (hat:0<=at') (hm:0 < many) (hc:0 < ncrews) :
  ai sub P (n+4) "_law_work" [.fro (ns.map .int),.int at',.tup [.int streams,.int ncrews,.int many],.int own] S=.ok (eo mx ns at' streams ncrews many own).toD S:=by
 have r2:=M.rng ns (at' + 2) (show (0:Int) < 2 by decide)
 have rl:0 < dB (mx ns (at' + 2) 2):=by unfold dB; split <;> decide
 have hn:(0:Int) < ncrews:=by omega
 have m (k m:Int) (hk:0<=k) (hm:0 < m) (S:af):ai sub P (n+3) "_law_mixed" [.fro (ns.map .int),.int k,.int m] S=.ok (.int (mx ns k m)) S:=M.ok ns hk hm
 have m2:=m (at' + 2) 2 (by omega) (by decide)
 have m0:=m at' 5 hat (by decide)
 have m7:=m (at' + 7) ncrews (by omega) hn
 have m1:=m (at' + 1) (dB (mx ns (at' + 2) 2)) (by omega) rl
 have hw:=xF (M.rng ns at' (show (0:Int) < 5 by decide))
 have h25:=xC r2
 have val:(eo mx ns at' streams ncrews many own).toD=.tup [.int (mx ns (at' + 7) ncrews),.int (1+mx ns (at' + 1) (dB (mx ns (at' + 2) 2))),.str (bY.getD (mx ns at' 5).toNat "plus"),
   .tup ((List.range (1+mx ns (at' + 2) 2).toNat).map fun (k:Nat)=>(fm mx ns (at' + 3+3 * (k:Int)) streams many own).toD),.tup [.int (mx ns (at' + 0) 9973),.int (mx ns (at' + 5) 9973),.int (mx ns (at' + 6) 9973)]]:=by
  have e1:=toNat_cast (M.rng ns (at' + 7) hn).1
  have e2:=toNat_cast (i:=1+mx ns (at' + 1) (dB (mx ns (at' + 2) 2))) (by have:=M.rng ns (at' + 1) rl; omega)
  unfold eo Wk.toD
  rw [e1,e2,List.map_map]; rfl
 have hcl:=(eo mx ns at' streams ncrews many own).cl
 rw [val] at hcl ⊢
 generalize hq:(1+mx ns (at' + 2) 2).toNat=q at hcl
 have hq':(1+mx ns (at' + 2) 2)=(q:Int):=by omega
 obtain ⟨x,loop⟩:=oi (sub:=sub) (cf:=ai sub P (n+3)) (i:=8) (j:=7) (l:=S.length)
   (it:=.iRng (.cs (.bin .add (.c (.int 1)) (.call "_law_mixed" (.cs (.v 0) (.cs (.bin .add (.v 1) (.c (.int 2))) (.cs (.c (.int 2)) .nl))))) .nl))
   (e:=.call "_law_source" (.cs (.v 0) (.cs (.bin .add (.bin .add (.v 1) (.c (.int 3))) (.bin .mul (.c (.int 3)) (.v 8))) (.cs (.v 4) (.cs (.v 6) (.cs (.v 3) .nl))))))
   (σ:=[some (.fro (ns.map .int)),some (.int at'),some (.tup [.int streams,.int ncrews,.int many]),some (.int own),some (.int streams),some (.int ncrews),some (.int many),some (.loc S.length),none,none,none,none])
   (S:=S++[.lst []]) (S1:=S++[.lst []]) (xs:=[]) (ks:=List.range q) (f:=bw) (g:=fun (k:Nat)=>(fm mx ns (at' + 3+3 * (k:Int)) streams many own).toD) (o:=none) (raw:=[])
   (jG (by (repeat' (first|done|with_reducible exact m2 _))) hq' (by omega) fh) rfl (aX _ _) (by decide) (Nat.lt_of_sub_pos (by exact Nat.succ_pos 3)) (fun _=>rfl)
   (fun k _ ys=>by
    have:=yN (sub:=sub) (n:=n) (S:=List.set (S++[.lst []]) S.length (.lst ys)) h M ns (at':=at' + 3+3 * (k:Int)) (streams:=streams) (many:=many) (own:=own) (by omega) hm
    rw [fh]
    (repeat' done)) (by unfold aJ; rw [List.length_range,List.length_nil]; omega)
 rw [jj,List.nil_append] at loop
 have comp:∀ (y:Option D) (d1 d2:D) (T:af),ev sub (ai sub P (n+3)) (.comp 2 (.call "_law_mixed" (.cs (.v 0) (.cs (.bin .add (.v 1) (.v 13)) (.cs (.c (.int 9973)) .nl)))) (.one 13) (.iSeq (.tup (.cs (.c (.int 0)) (.cs (.c (.int 5)) (.cs (.c (.int 6)) .nl))))) .nl)
   [some (.fro (ns.map .int)),some (.int at'),some (.tup [.int streams,.int ncrews,.int many]),some (.int own),some (.int streams),some (.int ncrews),some (.int many),some (.loc S.length),y,some d1,some d2,none] T =
   .ok (.loc T.length) (T++[.lst [.int (mx ns (at' + 0) 9973),.int (mx ns (at' + 5) 9973),.int (mx ns (at' + 6) 9973)]]):=fun y d1 d2 T =>
  dh (ks:=[0,5,6]) (f:=D.int) (g:=fun k=>.int (mx ns (at' + k) 9973)) (bU (x:=.tup [.int 0,.int 5,.int 6]) (by (repeat' done)) rfl) rfl (fun k hk=>by
   have hk:0<=k:=by
    have:k=0\/k=5\/k=6:=by simpa using hk
    omega
   have:=m (at' + k) 9973 (by omega) (by decide) T
   (repeat' done)) (by decide)
 have go:∀ (T:af),(S++.lst ((List.range q).map fun (k:Nat)=>(fm mx ns (at' + 3+3 * (k:Int)) streams many own).toD)::T)[S.length]?=some (.lst ((List.range q).map fun (k:Nat)=>(fm mx ns (at' + 3+3 * (k:Int)) streams many own).toD)):=fun T=>e_ S T _
 refine x_call h.work rfl (ak (ET (ds:=[.int streams,.int ncrews,.int many]) (r_v rfl) rfl) (ak (aI (cy aj rfl)) (ak loop (ak (aI (by (repeat' (first|done|with_reducible exact m0 _))))
  (ak (aI (by (repeat' (first|done|with_reducible exact m2 _|with_reducible exact m1 _)))) (ak (aI (aD (aa (comp _ _ _ _) aj) gR)) (aB (eY (aa (by (repeat' (first|done|with_reducible exact m7 _))) (aa (r_v rfl) (aa (r_v rfl) (aa (aD (aa (r_v rfl) aj) (fX (by rw [List.append_assoc,List.append_assoc,List.append_assoc]; exact go _))) (aa (r_v rfl) aj))))) rfl)))))))) (bf hcl (by rw [List.append_assoc,List.append_assoc,List.append_assoc]; exact fW _ _))
theorem FN (M:Mix P mx) (ns:List Int) (at':Int) {streams ncrews many own:Nat} (hm:0 < many) (hc:0 < ncrews):(eo mx ns at' streams ncrews many own).WF own many streams ncrews:=by
 have r2:=M.rng ns (at' + 2) (show (0:Int) < 2 by decide)
 have r5:=M.rng ns at' (show (0:Int) < 5 by decide)
 have rl:0 < dB (mx ns (at' + 2) 2)/\dB (mx ns (at' + 2) 2)<=5:=by unfold dB; split <;> decide
 have r1:=M.rng ns (at' + 1) rl.1
 have r7:=M.rng ns (at' + 7) (show (0:Int) < ncrews by omega)
 refine ⟨?_,⟨?_,?_⟩,?_,⟨?_,?_⟩,fun s hs=>?_,rfl,fun v hv=>?_⟩
 ·show (mx ns (at' + 7) ncrews).toNat < ncrews; omega
 ·show 1<=(1+mx ns (at' + 1) (dB (mx ns (at' + 2) 2))).toNat; omega
 ·show (1+mx ns (at' + 1) (dB (mx ns (at' + 2) 2))).toNat<=8; omega
 ·show bY.getD (mx ns at' 5).toNat "plus"∈bY
  rw [List.getD_eq_getElem?_getD,List.getElem?_eq_getElem (show (mx ns at' 5).toNat < bY.length by show _ < 5; omega)]
  exact List.getElem_mem _
 ·show 1<=((List.range (1+mx ns (at' + 2) 2).toNat).map _).length
  rw [List.length_map,List.length_range]; omega
 ·show ((List.range (1+mx ns (at' + 2) 2).toNat).map _).length<=3
  rw [List.length_map,List.length_range]; omega
 ·obtain ⟨k,_,rfl⟩:=List.mem_map.mp hs
  exact AJ M ns _ hm
 ·have:∀ k,0<=mx ns k 9973/\mx ns k 9973<=9972:=fun k=>by have:=M.rng ns k (show (0:Int) < 9973 by decide); omega
  have hv:v∈[mx ns (at' + 0) 9973,mx ns (at' + 5) 9973,mx ns (at' + 6) 9973]:=hv
  simp at hv
  rcases hv with rfl|rfl|rfl <;> exact this _
noncomputable def gG (mx:List Int->Int->Int->Int) (ns:List Int) (at':Int) (k:Nat):Nat × Nat:=((1+mx ns (at' + 3+(k:Int)) 2).toNat,(1+mx ns (at' + 5+(k:Int)) 5 / 2).toNat)
noncomputable def cT (mx:List Int->Int->Int->Int) (ns:List Int) (at':Int) (many:Nat):List Nat:=(List.range many).filter fun k=>decide (0 < mx ns (at' + 7+(k:Int)) 3)
noncomputable def eG (mx:List Int->Int->Int->Int) (ns:List Int) (at' most:Int):Lp where
 streams:=(mx ns at' 3).toNat
 crews:=(List.range (1+mx ns (at' + 2) 2).toNat).map (gG mx ns at')
 works:=(List.range (1+mx ns (at' + 1) most).toNat).map fun (k:Nat)=>eo mx ns (at' + 7+9 * (k:Int)) (mx ns at' 3).toNat (1+mx ns (at' + 2) 2).toNat (1+mx ns (at' + 1) most).toNat k
 outs:=if cT mx ns at' (1+mx ns (at' + 1) most).toNat=[] then [(1+mx ns (at' + 1) most).toNat - 1] else cT mx ns at' (1+mx ns (at' + 1) most).toNat
theorem C7 (M:Mix P mx) (ns:List Int) {at' most:Int} {nc many:Nat} {os:List Nat} (hq:(1+mx ns (at' + 2) 2).toNat=nc) (hw:(1+mx ns (at' + 1) most).toNat=many) (ho:(if cT mx ns at' many=[] then [many - 1] else cT mx ns at' many)=os):(eG mx ns at' most).toD =
  .tup [.int (mx ns at' 3),.tup ((List.range nc).map fun (k:Nat)=>bE (gG mx ns at' k)),.tup ((List.range many).map fun (k:Nat)=>(eo mx ns (at' + 7+9 * (k:Int)) (mx ns at' 3).toNat nc many k).toD),.tup (os.map bw)]:=by
 have e0:=toNat_cast (M.rng ns at' (show (0:Int) < 3 by decide)).1
 unfold eG Lp.toD
 simp only [hq,hw,ho,e0,List.map_map]
 rfl
theorem Cc (h:HG P) (M:Mix P mx) (ns:List Int) {at' most:Int} (hat:0<=at') (hmo:0 < most) (hmo2:most<=8) :
  ai sub P (n+5) "_law_loop" [.fro (ns.map .int),.int at',.int most] S=.ok (eG mx ns at' most).toD S:=by
 have r1:=M.rng ns (at' + 1) hmo
 have r2:=M.rng ns (at' + 2) (show (0:Int) < 2 by decide)
 have m (k m:Int) (hk:0<=k) (hm:0 < m) (S:af):ai sub P (n+4) "_law_mixed" [.fro (ns.map .int),.int k,.int m] S=.ok (.int (mx ns k m)) S:=M.ok ns hk hm
 have m0:=m at' 3 hat (by decide)
 have m1:=m (at' + 1) most (by omega) hmo
 have m2:=m (at' + 2) 2 (by omega) (by decide)
 have e0:=toNat_cast (M.rng ns at' (show (0:Int) < 3 by decide)).1
 generalize hq:(1+mx ns (at' + 2) 2).toNat=nc
 generalize hw:(1+mx ns (at' + 1) most).toNat=many
 have hq':(1+mx ns (at' + 2) 2)=(nc:Int):=by omega
 have hw':(1+mx ns (at' + 1) most)=(many:Int):=by omega
 have hcl:=(eG mx ns at' most).cl
 generalize ho:(if cT mx ns at' many=[] then [many - 1] else cT mx ns at' many)=os
 rw [C7 M ns hq hw ho] at hcl ⊢
 generalize hs:(mx ns at' 3).toNat=streams at e0 hcl ⊢
 obtain ⟨x,loop1⟩:=oi (sub:=sub) (cf:=ai sub P (n+4)) (i:=6) (j:=5) (l:=S.length) (it:=.iRng (.cs (.bin .add (.c (.int 1)) (.call "_law_mixed" (.cs (.v 0) (.cs (.bin .add (.v 1) (.c (.int 2))) (.cs (.c (.int 2)) .nl))))) .nl))
   (e:=.tup (.cs (.bin .add (.c (.int 1)) (.call "_law_mixed" (.cs (.v 0) (.cs (.bin .add (.bin .add (.v 1) (.c (.int 3))) (.v 6)) (.cs (.c (.int 2)) .nl))))) (.cs (.bin .add (.c (.int 1)) (.bin .fdiv (.call "_law_mixed" (.cs (.v 0) (.cs (.bin .add (.bin .add (.v 1) (.c (.int 5))) (.v 6)) (.cs (.c (.int 5)) .nl)))) (.c (.int 2)))) .nl)))
   (σ:=[some (.fro (ns.map .int)),some (.int at'),some (.int most),some (.int (mx ns at' 3)),some (.int (1+mx ns (at' + 1) most)),some (.loc S.length),none,none,none])
   (S:=S++[.lst []]) (S1:=S++[.lst []]) (xs:=[]) (ks:=List.range nc) (f:=bw) (g:=fun (k:Nat)=>bE (gG mx ns at' k)) (o:=none) (raw:=[])
   (jG (by (repeat' (first|done|with_reducible exact m2 _))) hq' (by omega) fh) rfl (aX _ _) (by decide) (Nat.lt_of_sub_pos (by exact Nat.succ_pos 2)) (fun _=>rfl)
   (fun k _ ys=>by
    have q1:=m (at' + 3+(k:Int)) 2 (by omega) (by decide)
    have q2:=m (at' + 5+(k:Int)) 5 (by omega) (by decide)
    have g1:=M.rng ns (at' + 3+(k:Int)) (show (0:Int) < 2 by decide)
    have g2:=M.rng ns (at' + 5+(k:Int)) (show (0:Int) < 5 by decide)
    have t1:=toNat_cast (i:=1+mx ns (at' + 3+(k:Int)) 2) (by omega)
    have t2:=toNat_cast (i:=1+mx ns (at' + 5+(k:Int)) 5 / 2) (by omega)
    rw [fh]
    unfold bE gG
    rw [t1,t2]
    (repeat' (first|done|with_reducible exact q1 _|with_reducible exact q2 _))) (by unfold aJ; rw [List.length_range,List.length_nil]; omega)
 rw [jj,List.nil_append] at loop1
 generalize hcr:((List.range nc).map fun (k:Nat)=>bE (gG mx ns at' k))=cr at loop1 hcl ⊢
 have hcrl:cr.length=nc:=by rw [<- hcr,List.length_map,List.length_range]
 obtain ⟨y,loop2⟩:=oi (sub:=sub) (cf:=ai sub P (n+4)) (i:=6) (j:=7) (l:=(S++[Cell.lst cr]).length) (it:=.iRng (.cs (.v 4) .nl))
   (e:=.call "_law_work" (.cs (.v 0) (.cs (.bin .add (.bin .add (.v 1) (.c (.int 7))) (.bin .mul (.c (.int 9)) (.v 6))) (.cs (.tup (.cs (.v 3) (.cs (.bi .len (.cs (.v 5) .nl)) (.cs (.v 4) .nl)))) (.cs (.v 6) .nl)))))
   (σ:=[some (.fro (ns.map .int)),some (.int at'),some (.int most),some (.int (mx ns at' 3)),some (.int (1+mx ns (at' + 1) most)),some (.loc S.length),x,some (.loc (S++[Cell.lst cr]).length),none])
   (S:=(S++[.lst cr])++[.lst []]) (S1:=(S++[.lst cr])++[.lst []]) (xs:=[]) (ks:=List.range many) (f:=bw)
   (g:=fun (k:Nat)=>(eo mx ns (at' + 7+9 * (k:Int)) streams nc many k).toD) (o:=none) (raw:=[])
   (jG (by (repeat' done)) hw' (by omega) fh) rfl (aX _ _) (by decide) (Nat.lt_of_sub_pos (by exact Nat.succ_pos 2)) (fun _=>rfl)
   (fun k _ ys=>by
    rw [jj,fh]
    have hd:=u_ (sub:=sub) (n:=n) (S:=(S++[.lst cr])++[.lst ys]) h M ns (at':=at' + 7+9 * (k:Int)) (streams:=streams) (ncrews:=nc) (many:=many) (own:=k) (by omega) (by omega) (by omega)
    rw [e0,<- hw'] at hd
    have hl:biD sub .len [.loc S.length] ((S++[.lst cr])++[.lst ys])=.ok (.int (nc:Int)) ((S++[.lst cr])++[.lst ys]):=by
     rw [<- hcrl]; exact jn (by rw [List.append_assoc]; exact e_ _ _ _)
    (repeat' done)) (by unfold aJ; rw [List.length_range,List.length_nil]; omega)
 rw [jj,List.nil_append] at loop2
 generalize hwk:((List.range many).map fun (k:Nat)=>(eo mx ns (at' + 7+9 * (k:Int)) streams nc many k).toD)=wk at loop2 hcl ⊢
 generalize hT:(S++[Cell.lst cr])++[Cell.lst wk]=T at loop2
 have gc:∀ U:af,(T++U)[S.length]?=some (.lst cr):=fun U=>by rw [<- hT,List.append_assoc,List.append_assoc]; exact e_ _ _ _
 have gw:∀ U:af,(T++U)[(S++[Cell.lst cr]).length]?=some (.lst wk):=fun U=>by rw [<- hT,List.append_assoc]; exact e_ _ _ _
 have tk:∀ U:af,(T++U).take S.length=S:=fun U=>by rw [<- hT,List.append_assoc,List.append_assoc]; exact fW _ _
 have comp:=yX (sub:=sub) (cf:=ai sub P (n+4)) (k:=2) (i:=10) (el:=.v 10) (it:=.iRng (.cs (.v 4) .nl)) (tt:=.cmp .gt (.call "_law_mixed" (.cs (.v 0) (.cs (.bin .add (.bin .add (.v 1) (.c (.int 7))) (.v 10)) (.cs (.c (.int 3)) .nl)))) (.c (.int 0)))
   (σ:=[some (.fro (ns.map .int)),some (.int at'),some (.int most),some (.int (mx ns at' 3)),some (.int (1+mx ns (at' + 1) most)),some (.loc S.length),y,some (.loc (S++[Cell.lst cr]).length),none]) (S:=T) (S1:=T) (s:=⟨(List.range many).map bw,none,[]⟩) (g:=id) (p:=fun d=>match d with|.int k=>decide (0 < mx ns (at' + 7+k) 3)|_=>false) rfl
   (jG (by (repeat' done)) hw' (by omega) fh) rfl
   (fun d hd=>by
    obtain ⟨k,_,rfl⟩:=List.mem_map.mp hd
    have:=m (at' + 7+(k:Int)) 3 (by omega) (by decide) T
    rw [fh]
    (repeat' done))
   (fun d hd _=>r_v rfl) (by unfold aJ; rw [List.length_map,List.length_range]; omega)
 rw [List.map_id,List.filter_map,show List.filter ((fun d=>match d with|.int k=>decide (0 < mx ns (at' + 7+k) 3)|_=>false) ∘ bw) (List.range many)=cT mx ns at' many from rfl] at comp
 refine D4 h.loop rfl (ak (aI (by (repeat' (first|done|with_reducible exact m0 _)))) (ak (aI (by (repeat' (first|done|with_reducible exact m1 _)))) (ak (aI (cy aj rfl)) (ak loop1 (ak (aI (cy aj rfl)) (ak loop2 (ak (aI comp) rfl))))))) ?_ hcl
 cases hu:cT mx ns at' many with
 | nil =>
  rw [hu,if_pos rfl] at ho
  subst ho
  have t3:((many - 1:Nat):Int)=1+mx ns (at' + 1) most - 1:=by omega
  have hE:cmD .eq (.loc T.length) (.loc (T++[Cell.lst []]).length) ((T++[.lst []])++[.lst []])=.ok (.bl true) ((T++[.lst []])++[.lst []]):=p8 (xs:=[]) (by rw [List.append_assoc]; exact e_ _ _ _) (aX _ _)
  refine ⟨_,ak (bR (bA (bx (r_v rfl) (cy aj rfl) hE)) (aI (by (repeat' done)))) (aB (eY (aa (r_v rfl) (aa (aD (aa (r_v rfl) aj) (fX ?_)) (aa (aD (aa (r_v rfl) aj) (fX ?_)) (aa (aD (aa (r_v rfl) aj) (fX ?_)) aj)))) rfl)),?_⟩
  ·rw [List.append_assoc,List.append_assoc]; exact gc _
  ·rw [List.append_assoc,List.append_assoc]; exact gw _
  ·rw [List.map_cons,fh,t3]; exact aX _ _
  ·rw [List.append_assoc,List.append_assoc]; exact tk _
 | cons a r =>
  rw [hu,if_neg (by intro z; cases z)] at ho
  subst ho
  have hE:cmD .eq (.loc T.length) (.loc (T++[Cell.lst ((a::r).map bw)]).length) ((T++[.lst ((a::r).map bw)])++[.lst []])=.ok (.bl false) ((T++[.lst ((a::r).map bw)])++[.lst []]):=p8 (xs:=(a::r).map bw) (by rw [List.append_assoc]; exact e_ _ _ _) (aX _ _)
  refine ⟨_,ak (aL (bA (bx (r_v rfl) (cy aj rfl) hE)) aM) (aB (eY (aa (r_v rfl) (aa (aD (aa (r_v rfl) aj) (fX ?_)) (aa (aD (aa (r_v rfl) aj) (fX ?_)) (aa (aD (aa (r_v rfl) aj) (fX ?_)) aj)))) rfl)),?_⟩
  ·rw [List.append_assoc]; exact gc _
  ·rw [List.append_assoc]; exact gw _
  ·rw [List.append_assoc]; exact e_ _ _ _
  ·rw [List.append_assoc]; exact tk _
theorem r9 (p:Nat->Bool) (many:Nat):∀ (k c:Nat),k+c<=many->dz many k ((List.range' k c).filter p)
 | k,0,_=>trivial
 | k,c+1,h=>by
  rw [List.range'_succ,List.filter_cons]
  have:=r9 p many (k+1) c (by omega)
  split
  ·exact ⟨Nat.le_refl _,by omega,this⟩
  ·have low:∀ (l:List Nat) (a b:Nat),a<=b->dz many b l->dz many a l:=by
    intro l
    cases l with
    | nil=>intros; trivial
    | cons x r=>intro a b hab ⟨h1,h2,h3⟩; exact ⟨by omega,h2,h3⟩
   exact low _ _ _ (Nat.le_succ _) this
theorem yt (M:Mix P mx) (ns:List Int) {at' most:Int} (hmo:0 < most) (hmo2:most<=8):(eG mx ns at' most).WF:=by
 have r0:=M.rng ns at' (show (0:Int) < 3 by decide)
 have r1:=M.rng ns (at' + 1) hmo
 have r2:=M.rng ns (at' + 2) (show (0:Int) < 2 by decide)
 have hw:(eG mx ns at' most).works.length=(1+mx ns (at' + 1) most).toNat:=by simp [eG]
 have hc:(eG mx ns at' most).crews.length=(1+mx ns (at' + 2) 2).toNat:=by simp [eG]
 refine ⟨?_,?_,fun c hcm=>?_,?_,fun i w hi=>?_,?_,?_⟩
 ·show (mx ns at' 3).toNat<=6; omega
 ·rw [hc]; omega
 ·obtain ⟨k,_,rfl⟩:=List.mem_map.mp hcm
  have q1:=M.rng ns (at' + 3+(k:Int)) (show (0:Int) < 2 by decide)
  have q2:=M.rng ns (at' + 5+(k:Int)) (show (0:Int) < 5 by decide)
  simp only [gG]
  omega
 ·rw [hw]; omega
 ·rw [hw,hc]
  have hi':i < (1+mx ns (at' + 1) most).toNat:=by rw [<- hw]; exact (List.getElem?_eq_some_iff.mp hi).1
  have hi:((List.range (1+mx ns (at' + 1) most).toNat).map fun (k:Nat)=>eo mx ns (at' + 7+9 * (k:Int)) (mx ns at' 3).toNat (1+mx ns (at' + 2) 2).toNat (1+mx ns (at' + 1) most).toNat k)[i]?=some w:=hi
  rw [List.getElem?_map,List.getElem?_range hi'] at hi
  cases hi
  exact FN M ns _ (by omega) (by omega)
 ·show 1<=(if cT mx ns at' (1+mx ns (at' + 1) most).toNat=[] then [(1+mx ns (at' + 1) most).toNat - 1] else cT mx ns at' (1+mx ns (at' + 1) most).toNat).length
  split
  ·simp
  ·rename_i h; exact List.length_pos_iff.mpr h
 ·rw [hw]
  show dz _ 0 (if cT mx ns at' (1+mx ns (at' + 1) most).toNat=[] then [(1+mx ns (at' + 1) most).toNat - 1] else cT mx ns at' (1+mx ns (at' + 1) most).toNat)
  split
  ·exact ⟨Nat.zero_le _,by omega,trivial⟩
  ·unfold cT
   rw [List.range_eq_range']
   exact r9 _ _ 0 _ (by omega)
end
end RL

namespace RL
open PySem EV PyProof.Rows
abbrev Wd:=List Nat
noncomputable def ah (n:Nat):Wd:=(Nat.toDigits 10 n).map Char.toNat
theorem CH (n:Nat):Str.ofString (toString (n:Int))=tx (ah n):=by
 refine iY ?_
 rw [PySem.W.KIN.signs_num]; rfl
theorem gD {n c:Nat} (h:c∈ah n):48<=c/\c<=57:=by
 obtain ⟨ch,hch,rfl⟩:=List.mem_map.mp h
 exact digit_range (Nat.isDigit_of_mem_toDigits (by decide) (by decide) hch)
theorem r6 (n:Nat):1<=(ah n).length:=by
 unfold ah
 rw [List.length_map]
 exact toDigits_len_ge 10 n
theorem qG (n:Nat):valN (ah n)=n:=PySem.W.KIN.val_back n
theorem cW {n:Nat} (h:n < 10000):(ah n).length<=4:=by
 unfold ah
 rw [List.length_map]
 exact (Nat.length_toDigits_le_iff (by decide) (by decide)).mpr h
theorem AQ {n:Nat}:(ah n).all cI=true:=List.all_eq_true.mpr fun c hc=>by
 have:=gD hc
 unfold cI
 rw [decide_eq_true this.1,decide_eq_true this.2]; rfl
noncomputable def aA (w:Wd):D:=if (decide (1<=w.length)&&decide (w.length<=4)&&w.all cI)=true then .int (valN w:Nat) else .non
theorem dH {n:Nat} (h:n < 10000):aA (ah n)=.int (n:Int):=by
 unfold aA
 rw [decide_eq_true (r6 n),decide_eq_true (cW h),AQ,qG]; rfl
noncomputable def bH (w:Wd):D :=
 if w.head?=some 105 then .tup [.str "input",aA (w.drop 1)]
 else if w.head?=some 119 then .tup [.str "work",aA (if 45∈w.drop 1 then (w.drop 1).takeWhile fun a=>a != 45 else w.drop 1),aA (if 45∈w.drop 1 then ((w.drop 1).dropWhile fun a=>a != 45).drop 1 else [])]
 else .tup [.str "value",aA w]
noncomputable def cD (ws:List Wd):D:=if ws.length < 8 then .non else .tup [aA (ws.getD 0 []),aA (ws.getD 1 []),.str (tx (ws.getD 2 [])),.tup (((ws.drop 3).take (ws.length - 7)).map bH),.tup ((ws.drop (ws.length - 3)).map aA)]
noncomputable def aP (rows:List (List Wd)) (h:Wd):List (List Wd):=(rows.filter fun r=>decide (r.head?=some h)).map fun r=>r.drop 1
noncomputable def aH:Wd:=("streams" : Str).cps.toList
noncomputable def aF:Wd:=("crew" : Str).cps.toList
noncomputable def aC:Wd:=("work" : Str).cps.toList
noncomputable def aS:Wd:=("outs" : Str).cps.toList
noncomputable def rowsOf (t:Wd):List (List Wd):=(aT 10 t).map (aT 32)
noncomputable def looseD (t:Wd):D:=match aP (rowsOf t) aH,aP (rowsOf t) aS with
 | [s],[o]=>.tup [aA (glue 32 s),.tup ((aP (rowsOf t) aF).map fun r=>.tup (r.map aA)),.tup ((aP (rowsOf t) aC).map cD),.tup (o.map aA)]
 | _,_=>.non
noncomputable def aO:Srs->Wd
 | .val v=>ah v.toNat
 | .inp k=>105::ah k
 | .wrk w b=>119::(ah w++45::ah b)
noncomputable def aE (w:Wk):List Wd:=ah w.crew::ah w.long::w.doing.cps.toList::(w.srcs.map aO++[47]::w.starts.map fun v=>ah v.toNat)
noncomputable def b9 (l:Lp):List (List Wd):=[aH,ah l.streams]::(l.crews.map (fun c=>[aF,ah c.1,ah c.2])++(l.works.map (fun w=>aC::aE w)++[aS::l.outs.map ah]))
noncomputable def textOf (l:Lp):Wd:=glue 10 ((b9 l).map (glue 32)++[[]])
noncomputable def Wrd (w:Wd):Prop:=32 ∉ w/\10 ∉ w
theorem dQ (n:Nat):Wrd (ah n):=⟨fun h=>by have:=gD h; omega,fun h=>by have:=gD h; omega⟩
theorem EC (s:Srs):Wrd (aO s):=by
 cases s with
 | val v=>exact dQ _
 | inp k =>
  have:=dQ k
  exact ⟨fun h=>by rcases List.mem_cons.mp h with h|h; (· cases h); exact this.1 h,fun h=>by rcases List.mem_cons.mp h with h|h; (· cases h); exact this.2 h⟩
 | wrk w b =>
  have h1:=dQ w
  have h2:=dQ b
  constructor
  ·intro h
   rcases List.mem_cons.mp h with h|h
   ·cases h
   ·rcases List.mem_append.mp h with h|h
    ·exact h1.1 h
    ·rcases List.mem_cons.mp h with h|h
     ·cases h
     ·exact h2.1 h
  ·intro h
   rcases List.mem_cons.mp h with h|h
   ·cases h
   ·rcases List.mem_append.mp h with h|h
    ·exact h1.2 h
    ·rcases List.mem_cons.mp h with h|h
     ·cases h
     ·exact h2.2 h
theorem ya:∀ x∈bY,Wrd x.cps.toList:=by
 unfold Wrd bY
 decide
theorem A7 {w:Wk} (h:w.doing∈bY):∀ x∈aC::aE w,Wrd x:=by
 intro x hx
 rcases List.mem_cons.mp hx with rfl|hx
 ·unfold Wrd aC; decide
 ·unfold aE at hx
  rcases List.mem_cons.mp hx with rfl|hx
  ·exact dQ _
  ·rcases List.mem_cons.mp hx with rfl|hx
   ·exact dQ _
   ·rcases List.mem_cons.mp hx with rfl|hx
    ·exact ya _ h
    ·rcases List.mem_append.mp hx with hx|hx
     ·obtain ⟨s,_,rfl⟩:=List.mem_map.mp hx
      exact EC s
     ·rcases List.mem_cons.mp hx with rfl|hx
      ·unfold Wrd; decide
      ·obtain ⟨v,_,rfl⟩:=List.mem_map.mp hx
       exact dQ _
theorem wF {l:Lp} (hl:l.WF):∀ r∈b9 l,r≠[]/\∀ x∈r,Wrd x:=by
 intro r hr
 unfold b9 at hr
 rcases List.mem_cons.mp hr with rfl|hr
 ·refine ⟨by simp,fun x hx=>?_⟩
  rcases List.mem_cons.mp hx with rfl|hx
  ·unfold Wrd aH; decide
  ·rw [List.mem_singleton.mp hx]; exact dQ _
 ·rcases List.mem_append.mp hr with hr|hr
  ·obtain ⟨c,_,rfl⟩:=List.mem_map.mp hr
   refine ⟨by simp,fun x hx=>?_⟩
   rcases List.mem_cons.mp hx with rfl|hx
   ·unfold Wrd aF; decide
   ·rcases List.mem_cons.mp hx with rfl|hx
    ·exact dQ _
    ·rw [List.mem_singleton.mp hx]; exact dQ _
  ·rcases List.mem_append.mp hr with hr|hr
   ·obtain ⟨w,hw,rfl⟩:=List.mem_map.mp hr
    obtain ⟨i,hi⟩:=List.getElem?_of_mem hw
    exact ⟨by simp,A7 (hl.works i w hi).doing⟩
   ·rw [List.mem_singleton.mp hr]
    refine ⟨by simp,fun x hx=>?_⟩
    rcases List.mem_cons.mp hx with rfl|hx
    ·unfold Wrd aS; decide
    ·obtain ⟨k,_,rfl⟩:=List.mem_map.mp hx
     exact dQ _
theorem rO {c d:Nat} (hcd:d≠c):∀ {ps:List Wd},(∀ p∈ps,d ∉ p)->d ∉ glue c ps
 | [],_=>by simp [glue]
 | [p],h=>h p List.mem_cons_self
 | p::q::r,h=>by
  intro z
  rcases List.mem_append.mp (show d∈p++c::glue c (q::r) from z) with z|z
  ·exact h p List.mem_cons_self z
  ·rcases List.mem_cons.mp z with z|z
   ·exact hcd z
   ·exact rO hcd (fun x hx=>h x (List.mem_cons_of_mem _ hx)) z
theorem nV {l:Lp} (hl:l.WF):rowsOf (textOf l)=b9 l++[[[]]]:=by
 have hr:=wF hl
 unfold rowsOf textOf
 rw [jW (by simp) (fun p hp=>?_),List.map_append,List.map_map]
 ·congr 1
  conv=>rhs; rw [<- List.map_id (b9 l)]
  exact List.map_congr_left fun r h=>jW (hr r h).1 fun x hx=>((hr r h).2 x hx).1
 ·rcases List.mem_append.mp hp with hp|hp
  ·obtain ⟨r,h,rfl⟩:=List.mem_map.mp hp
   exact rO (by decide) fun x hx=>((hr r h).2 x hx).2
  ·rw [List.mem_singleton.mp hp]; simp
theorem Am {s:Srs} {own many streams:Nat} (h:s.WF own many streams) (hs:streams<=6) (ho:own<=8) (hm:many<=8):bH (aO s)=s.toD:=by
 cases s with
 | val v =>
  have h:0<=v/\v<=9972:=h
  have hd:∀ c,(ah v.toNat).head?=some c->48<=c/\c<=57:=fun c e=>gD (List.mem_of_mem_head? e)
  show bH (ah v.toNat)=_
  unfold bH
  rw [if_neg (fun e=>by have:=hd _ e; omega),if_neg (fun e=>by have:=hd _ e; omega),dH (by omega),Int.toNat_of_nonneg h.1]
  rfl
 | inp k =>
  have h:k < streams:=h
  show bH (105::ah k)=_
  unfold bH
  rw [if_pos (show (105::ah k).head?=some 105 from rfl)]
  show D.tup [.str "input",aA (ah k)]=_
  rw [dH (by omega)]; rfl
 | wrk w b =>
  have h:b<=3/\w < (if b=0 then own else many):=h
  have hw:w < 8:=by
   have:=h.2
   split at this <;> omega
  show bH (119::(ah w++45::ah b))=_
  unfold bH
  rw [if_neg (by simp),if_pos (show (119::(ah w++45::ah b)).head?=some 119 from rfl)]
  have e:(119::(ah w++45::ah b)).drop 1=ah w++45::ah b:=rfl
  rw [e,if_pos (by simp),if_pos (by simp)]
  have n1:∀ a∈ah w,(a != 45)=true:=fun a ha=>by have:=gD ha; simp; omega
  rw [List.takeWhile_append_of_pos n1,List.dropWhile_append_of_pos n1,List.takeWhile_cons_of_neg (by simp),List.dropWhile_cons_of_neg (by simp),List.append_nil]
  show D.tup [.str "work",aA (ah w),aA (ah b)]=_
  rw [dH (by omega),dH (by omega)]; rfl
theorem wJ {w:Wk} {own many streams ncrews:Nat} (h:w.WF own many streams ncrews) (hs:streams<=6) (ho:own<=8) (hm:many<=8) (hc:ncrews<=3):cD (aE w)=w.toD:=by
 have h1:=h.some
 have h3:=h.three
 have hlen:(aE w).length=w.srcs.length+7:=by
  unfold aE
  simp [h3]
 unfold cD
 rw [if_neg (by omega),hlen]
 have e1:(aE w).getD 0 []=ah w.crew:=rfl
 have e2:(aE w).getD 1 []=ah w.long:=rfl
 have e3:(aE w).getD 2 []=w.doing.cps.toList:=rfl
 have e4:(aE w).drop 3=w.srcs.map aO++[47]::w.starts.map fun v=>ah v.toNat:=rfl
 have e5:(aE w).drop (w.srcs.length+7 - 3)=w.starts.map fun v=>ah v.toNat:=by
  rw [show w.srcs.length+7 - 3=3+((w.srcs.map aO).length+1) by rw [List.length_map]; omega,<- List.drop_drop,e4]
  rw [List.drop_append,List.drop_of_length_le (by omega),List.nil_append,show (w.srcs.map aO).length+1 - (w.srcs.map aO).length=1 by omega]
  rfl
 have e6:((aE w).drop 3).take (w.srcs.length+7 - 7)=w.srcs.map aO:=by
  rw [e4,show w.srcs.length+7 - 7=(w.srcs.map aO).length by rw [List.length_map]; omega,List.take_left]
 rw [e1,e2,e3,e5,e6,dH (by have:=h.crew; omega),dH (by have:=h.long; omega),dG,List.map_map,List.map_map]
 have m1:w.srcs.map (bH ∘ aO)=w.srcs.map Srs.toD:=List.map_congr_left fun s hs'=>Am (h.srcs s hs') hs ho hm
 have m2:w.starts.map (aA ∘ fun v=>ah v.toNat)=w.starts.map .int:=List.map_congr_left fun v hv=>by
  have:=h.starts v hv
  show aA (ah v.toNat)=_
  rw [dH (by omega),Int.toNat_of_nonneg this.1]
 rw [m1,m2]
 rfl
theorem kh (a b:List (List Wd)) (h:Wd):aP (a++b) h=aP a h++aP b h:=by
 unfold aP
 rw [List.filter_append,List.map_append]
theorem rY {α:Type} {f:α->List Wd} {g:α->List Wd} {k:Wd} (hf:∀ a,f a=k::g a) (xs:List α):aP (xs.map f) k=xs.map g:=by
 unfold aP
 rw [List.filter_eq_self.mpr fun r hr=>by
  obtain ⟨a,_,rfl⟩:=List.mem_map.mp hr
  rw [hf]; exact decide_eq_true rfl,List.map_map]
 exact List.map_congr_left fun a _=>by
  show (f a).drop 1=g a
  rw [hf]; rfl
theorem gU {α:Type} {f:α->List Wd} {h k:Wd} (hf:∀ a,(f a).head?=some k) (hk:k≠h) (xs:List α):aP (xs.map f) h=[]:=by
 unfold aP
 rw [List.filter_eq_nil_iff.mpr fun r hr=>by
  obtain ⟨a,_,rfl⟩:=List.mem_map.mp hr
  rw [hf]
  simpa using hk]
 rfl
theorem jc {l:Lp} (hl:l.WF):looseD (textOf l)=l.toD:=by
 have c0:∀ (a:Nat × Nat),([aF,ah a.1,ah a.2]:List Wd).head?=some aF:=fun _=>rfl
 have w0:∀ w:Wk,(aC::aE w:List Wd).head?=some aC:=fun _=>rfl
 have one:∀ (r:List Wd) (h:Wd),aP [r] h=if r.head?=some h then [r.drop 1] else []:=fun r h=>by
  unfold aP
  by_cases q:r.head?=some h
  ·rw [if_pos q,List.filter_eq_self.mpr fun x hx=>by rw [List.mem_singleton.mp hx]; exact decide_eq_true q]; rfl
  ·rw [if_neg q,List.filter_eq_nil_iff.mpr fun x hx=>by rw [List.mem_singleton.mp hx]; simpa using q]; rfl
 have key:∀ h:Wd,aP (rowsOf (textOf l)) h=aP [[aH,ah l.streams]] h++(aP (l.crews.map fun c=>[aF,ah c.1,ah c.2]) h++(aP (l.works.map fun w=>aC::aE w) h++(aP [aS::l.outs.map ah] h++aP [[[]]] h))):=fun h=>by
  rw [nV hl]
  show aP (([[aH,ah l.streams]]++(l.crews.map (fun c=>[aF,ah c.1,ah c.2])++(l.works.map (fun w=>aC::aE w)++[aS::l.outs.map ah])))++[[[]]]) h=_
  rw [kh,kh,kh,kh,List.append_assoc,List.append_assoc,List.append_assoc]
 have hS:aP (rowsOf (textOf l)) aH=[[ah l.streams]]:=by
  rw [key,gU c0 (by decide),gU w0 (by decide),one,one,one,if_pos (show ([aH,ah l.streams]:List Wd).head?=some aH from rfl),if_neg (by show ¬ some aS=some aH; decide),if_neg (by decide)]; rfl
 have hO:aP (rowsOf (textOf l)) aS=[l.outs.map ah]:=by
  rw [key,gU c0 (by decide),gU w0 (by decide),one,one,one,if_neg (by show ¬ some aH=some aS; decide),if_pos (show (aS::l.outs.map ah:List Wd).head?=some aS from rfl),if_neg (by decide)]; rfl
 have hC:aP (rowsOf (textOf l)) aF=l.crews.map fun c=>[ah c.1,ah c.2]:=by
  rw [key,rY (g:=fun c:Nat × Nat=>[ah c.1,ah c.2]) (fun _=>rfl),gU w0 (by decide),one,one,one,if_neg (by show ¬ some aH=some aF; decide),if_neg (by show ¬ some aS=some aF; decide),if_neg (by decide)]; simp
 have hW:aP (rowsOf (textOf l)) aC=l.works.map aE:=by
  rw [key,gU c0 (by decide),rY (g:=aE) (fun _=>rfl),one,one,one,if_neg (by show ¬ some aH=some aC; decide),if_neg (by show ¬ some aS=some aC; decide),if_neg (by decide)]; simp
 have h8:=hl.nworks
 unfold looseD
 rw [hS,hO,hC,hW]
 show D.tup [aA (ah l.streams),_,_,_]=_
 rw [dH (by have:=hl.streams; omega),List.map_map,List.map_map,List.map_map]
 have m1:l.crews.map ((fun r=>D.tup (r.map aA)) ∘ fun c=>[ah c.1,ah c.2])=l.crews.map bE:=List.map_congr_left fun c hc=>by
  have:=hl.crews c hc
  show D.tup [aA (ah c.1),aA (ah c.2)]=_
  rw [dH (by omega),dH (by omega)]; rfl
 have m2:l.works.map (cD ∘ aE)=l.works.map Wk.toD:=List.map_congr_left fun w hw=>by
  obtain ⟨i,hi⟩:=List.getElem?_of_mem hw
  have hi8:=(List.getElem?_eq_some_iff.mp hi).1
  exact wJ (hl.works i w hi) hl.streams (by omega) h8.2 hl.ncrews.2
 have hr:∀ (k:Nat) (xs:List Nat),dz l.works.length k xs->∀ x∈xs,x < l.works.length:=by
  intro k xs
  induction xs generalizing k with
  | nil=>intro _ x hx; cases hx
  | cons y r ih =>
   intro h x hx
   obtain ⟨h1,h2,h3⟩:=h
   rcases List.mem_cons.mp hx with rfl|hx
   ·exact h2
   ·exact ih _ h3 x hx
 have m3:l.outs.map (aA ∘ ah)=l.outs.map bw:=List.map_congr_left fun k hk=>by
  have:=hr 0 l.outs hl.outs k hk
  show aA (ah k)=_
  rw [dH (by omega)]; rfl
 rw [m1,m2,m3]
 rfl
end RL

namespace RB
open PySem EV GO
open RL (fz iK eW jv i7 gq ki i6 kj iW gP kX oJ Has bW HB short bY)
mutual
noncomputable def fit (n:Nat):D->Bool
 | .tup ds=>fits' n ds
 | .fro ds=>fits' n ds
 | .loc l=>decide (l < n)
 | .exn _=>false
 | .non=>true
 | .bl _=>true
 | .int _=>true
 | .str _=>true
noncomputable def fits' (n:Nat):List D->Bool
 | []=>true
 | d::r=>fit n d&&fits' n r
end
theorem c8 {n:Nat}:∀ {ds:List D},fits' n ds=true ↔ ∀ d∈ds,fit n d=true
 | []=>by simp [fits']
 | d::r=>by rw [fits',Bool.and_eq_true,c8]; simp
noncomputable def bh (d:D) (lo hi:Int):Bool:=match d with|.int i=>decide (lo<=i)&&decide (i<=hi)|_=>false
noncomputable def aZ (d:D) (lo hi:Int):Bool:=match d with|.tup ds=>decide (lo<=(ds.length:Int))&&decide ((ds.length:Int)<=hi)|_=>false
noncomputable def pt (d:D) (i:Nat):D:=match d with|.tup ds=>ds.getD i .non|_=>.non
variable {sub:Sub} {P:Prg} {n:Nat} {S:af}
theorem nB {l:Nat} {t:Ty} (hS:bW S) (h:l < S.length) (ht:∀ c,t≠.cls c):cK sub S (.loc l) t=some (decide (t=.list)):=by
 obtain ⟨ds,e⟩:=hS l S[l] (List.getElem?_eq_getElem h)
 have e:S[l]?=some (.lst ds):=by rw [List.getElem?_eq_getElem h,e]
 cases t <;> first|exact absurd rfl (ht _)|(simp [cK,e])
theorem b5 (h:Has P "is_whole" fz) {d:D} {lo hi:Int} (hS:bW S) (hd:fit S.length d=true):ai sub P (n+1) "is_whole" [d,.int lo,.int hi] S=.ok (.bl (bh d lo hi)) S:=by
 rw [cH h rfl]
 cases d with
 | loc l =>
  have hl:l < S.length:=of_decide_eq_true hd
  simp [fz,frame,nB hS hl,bh]
 | exn c=>cases hd
 | int i =>
  by_cases q:lo<=i <;> simp [fz,frame,cK,bh,q]
 | _=>simp [fz,frame,cK,bh]
theorem rK (h:Has P "is_whole" fz) (h2:Has P "is_value" iK) {d:D} (hS:bW S) (hd:fit S.length d=true):ai sub P (n+2) "is_value" [d] S=.ok (.bl (bh d 0 9972)) S:=by
 rw [cH h2 rfl]
 simp [iK,frame,b5 h hS hd]
theorem bC (h:Has P "is_row" eW) {d:D} {lo hi:Int} (hS:bW S) (hd:fit S.length d=true):ai sub P (n+1) "is_row" [d,.int lo,.int hi] S=.ok (.bl (aZ d lo hi)) S:=by
 rw [cH h rfl]
 cases d with
 | loc l =>
  have hl:l < S.length:=of_decide_eq_true hd
  simp [eW,frame,nB hS hl,aZ]
 | exn c=>cases hd
 | tup ds=>by_cases q:lo<=(ds.length:Int) <;> simp [eW,frame,cK,aZ,q]
 | _=>simp [eW,frame,cK,aZ]
theorem bP {d:D} {lo hi:Int} (h:aZ d lo hi=true):∃ ds,d=.tup ds/\lo<=(ds.length:Int)/\(ds.length:Int)<=hi:=by
 cases d <;> first|(cases h; done)|skip
 rename_i ds
 simp only [aZ,Bool.and_eq_true,decide_eq_true_eq] at h
 exact ⟨ds,rfl,h.1,h.2⟩
theorem cE {n:Nat} {ds:List D} {i:Nat} {d:D} (h:fit n (.tup ds)=true) (e:ds[i]?=some d):fit n d=true:=c8.mp h d (List.mem_of_getElem? e)
noncomputable def fO (d:D):Bool:=aZ d 2 2&&(bh (pt d 0) 1 3&&bh (pt d 1) 1 4)
theorem y_ (h:HB P) {d:D} (hS:bW S) (hd:fit S.length d=true):ai sub P (n+2) "is_crew" [d] S=.ok (.bl (fO d)) S:=by
 rw [cH h.crew rfl]
 cases q:aZ d 2 2 with
 | false=>simp [jv,frame,bC h.row hS hd,q,fO]
 | true =>
  obtain ⟨ds,rfl,h1,h2⟩:=bP q
  match ds,h1,h2 with
  | [a,b],_,_ =>
   have ha:=cE (i:=0) hd rfl
   have hb:=cE (i:=1) hd rfl
   cases q2:bh a 1 3 <;> simp [jv,frame,bC h.row hS hd,q,fO,pt,b5 h.whole hS ha,b5 h.whole hS hb,q2]
  | [],h1,_=>simp at h1
  | [_],h1,_=>simp at h1
  | _::_::_::_,_,h2=>simp at h2; omega
noncomputable def tuB (d:D) (f:D->Bool):Bool:=match d with|.tup ds=>ds.all f|_=>false
noncomputable def fP (d:D):Bool:=aZ d 1 3&&tuB d fO
theorem pO (h:HB P) {d:D} (hS:bW S) (hd:fit S.length d=true):ai sub P (n+3) "are_crews" [d] S=.ok (.bl (fP d)) S:=by
 rw [cH h.crews rfl]
 cases q:aZ d 1 3 with
 | false=>simp [i7,frame,bC h.row hS hd,q,fP]
 | true =>
  obtain ⟨ds,rfl,h1,h2⟩:=bP q
  have hc:ev sub (ai sub P (n+2)) (.comp 2 (.call "is_crew" (.cs (.v 2) .nl)) (.one 2) (.iSeq (.v 0)) .nl) [some (.tup ds)] S=.ok (.loc S.length) (S++[.lst (ds.map fun e=>.bl (fO e))]) :=
   comp_map (s:=⟨ds,none,ds⟩) (by simp) rfl (fun e he=>by simp [y_ h hS (c8.mp hd e he)]) (short h2 (by decide))
  simp [i7,frame,bC h.row hS hd,q,fP,hc,gI,tuB]
noncomputable def fN (d:D):Bool:=aZ d 3 3&&tuB d fun e=>bh e 0 9972
theorem oZ (h:HB P) {d:D} (hS:bW S) (hd:fit S.length d=true):ai sub P (n+3) "are_starts" [d] S=.ok (.bl (fN d)) S:=by
 rw [cH h.starts rfl]
 cases q:aZ d 3 3 with
 | false=>simp [i6,frame,bC h.row hS hd,q,fN]
 | true =>
  obtain ⟨ds,rfl,h1,h2⟩:=bP q
  have hc:ev sub (ai sub P (n+2)) (.comp 2 (.call "is_value" (.cs (.v 2) .nl)) (.one 2) (.iSeq (.v 0)) .nl) [some (.tup ds)] S=.ok (.loc S.length) (S++[.lst (ds.map fun e=>.bl (bh e 0 9972))]) :=
   comp_map (s:=⟨ds,none,ds⟩) (by simp) rfl (fun e he=>by simp [rK h.whole h.value hS (c8.mp hd e he)]) (short h2 (by decide))
  simp [i6,frame,bC h.row hS hd,q,fN,hc,gI,tuB]
noncomputable def isZ:D->Bool
 | .int i=>i==0
 | _=>false
noncomputable def wsB (d:D) (own many:Int):Bool:=aZ d 3 3&&(bh (pt d 2) 0 3&&bh (pt d 1) 0 ((if isZ (pt d 2)=true then own else many) - 1))
theorem c_ {d:D} {lo hi:Int} (h:bh d lo hi=true):∃ i,d=.int i/\lo<=i/\i<=hi:=by
 cases d <;> first|(cases h; done)|skip
 rename_i i
 simp only [bh,Bool.and_eq_true,decide_eq_true_eq] at h
 exact ⟨i,rfl,h.1,h.2⟩
theorem ED (h:HB P) {d:D} {own many:Int} (hS:bW S) (hd:fit S.length d=true):ai sub P (n+2) "is_work_source" [d,.int own,.int many] S=.ok (.bl (wsB d own many)) S:=by
 rw [cH h.worksource rfl]
 cases q:aZ d 3 3 with
 | false=>simp [gq,frame,bC h.row hS hd,q,wsB]
 | true =>
  obtain ⟨ds,rfl,h1,h2⟩:=bP q
  match ds,h1,h2 with
  | [a,b,c],_,_ =>
   have hb:=cE (i:=1) hd rfl
   have hc:=cE (i:=2) hd rfl
   cases q2:bh c 0 3 with
   | false=>simp [gq,frame,bC h.row hS hd,q,wsB,pt,b5 h.whole hS hc,q2]
   | true =>
    obtain ⟨i,rfl,_,_⟩:=c_ q2
    by_cases q3:i=0
    ·subst q3; simp [gq,frame,bC h.row hS hd,q,wsB,pt,b5 h.whole hS hc,b5 h.whole hS hb,q2,isZ]
    ·simp [gq,frame,bC h.row hS hd,q,wsB,pt,b5 h.whole hS hc,b5 h.whole hS hb,q2,isZ, *]
  | [],h1,_=>simp at h1
  | [_],h1,_=>simp at h1
  | [_,_],h1,_=>simp at h1
  | _::_::_::_::_,_,h2=>simp at h2; omega
noncomputable def gW:D->Bool
 | .str _=>true
 | _=>false
noncomputable def isS (x:Str):D->Bool
 | .str y=>y==x
 | _=>false
noncomputable def eN (d:D) (own many streams:Int):Bool:=aZ d 2 3&&(gW (pt d 0)&&(if isS "work" (pt d 0)=true then wsB d own many else aZ d 2 2&&(if isS "input" (pt d 0)=true then bh (pt d 1) 0 (streams - 1) else isS "value" (pt d 0)&&bh (pt d 1) 0 9972)))
theorem jm {d:D} (hS:bW S) (hd:fit S.length d=true):cK sub S d .str=some (gW d):=by
 cases d with
 | loc l=>rw [nB hS (of_decide_eq_true hd) (by simp)]; rfl
 | exn c=>cases hd
 | _=>rfl
theorem AG (h:HB P) {d:D} {own many streams:Int} (hS:bW S) (hd:fit S.length d=true):ai sub P (n+3) "is_source" [d,.int own,.int many,.int streams] S=.ok (.bl (eN d own many streams)) S:=by
 rw [cH h.source rfl]
 show aW S (exec sub (ai sub P (n+2)) ki.body [some d,some (.int own),some (.int many),some (.int streams)] S)=_
 cases q:aZ d 2 3 with
 | false =>
  refine (congrArg (aW S) (cJ (by simp [bC h.row hS hd,q]))).trans ?_
  simp [eN,q]
 | true =>
  obtain ⟨ds,rfl,h1,h2⟩:=bP q
  obtain ⟨a,b,r,rfl⟩:∃ a b r,ds=a::b::r:=by
   rcases ds with _|⟨a,_|⟨b,r⟩⟩
   case cons.cons=>exact ⟨_,_,_,rfl⟩
   all_goals simp at h1
  have ha:=cE (i:=0) hd rfl
  have hb:=cE (i:=1) hd rfl
  have hw:eN (.tup (a::b::r)) own many streams=(gW a&&(if isS "work" a=true then wsB (.tup (a::b::r)) own many else aZ (.tup (a::b::r)) 2 2&&(if isS "input" a=true then bh b 0 (streams - 1) else isS "value" a&&bh b 0 9972))):=by
   unfold eN; rw [q]; rfl
  rw [hw]
  clear hw
  cases q2:gW a with
  | false =>
   refine (congrArg (aW S) (cJ (by simp [bC h.row hS hd,q,jm hS ha,q2]))).trans ?_
   simp
  | true =>
   refine (congrArg (aW S) (eB (by simp [bC h.row hS hd,q,jm hS ha,q2]))).trans ?_
   obtain ⟨x,rfl⟩:∃ x,a=.str x:=by
    cases a <;> first|(cases q2; done)|exact ⟨_,rfl⟩
   cases q3:(x==("work" : Str)) with
   | true =>
    refine (congrArg (aW S) (cJ (by simp [q3]))).trans ?_
    simp [q3,isS,ED h hS hd]
   | false =>
    have q3':¬ x=("work" : Str):=by simpa using q3
    refine (congrArg (aW S) (eB (by simp [q3']))).trans ?_
    cases r with
    | cons c r =>
     have h4:¬ ((r.length:Int)+1+1+1=2):=by omega
     have h3:aZ (.tup (.str x::b::c::r)) 2 2=false:=by simp [aZ]; omega
     refine (congrArg (aW S) (cJ (by simp [h4]))).trans ?_
     simp [h3,isS,q3']
    | nil =>
     have h3:aZ (.tup [.str x,b]) 2 2=true:=by simp [aZ]
     refine (congrArg (aW S) (eB (by simp))).trans ?_
     cases q4:(x==("input" : Str)) with
     | true =>
      refine (congrArg (aW S) (cJ (by simp [q4]))).trans ?_
      simp [q3',q4,isS,h3,b5 h.whole hS hb]
     | false =>
      have q4':¬ x=("input" : Str):=by simpa using q4
      refine (congrArg (aW S) (eB (by simp [q4']))).trans ?_
      cases q5:(x==("value" : Str)) with
      | true=>simp [q3',q4',q5,isS,h3,rK h.whole h.value hS hb]
      | false=>simp [q3',q4',q5,isS,h3]
noncomputable def ir:D->Bool
 | .str x=>decide (x∈bY)
 | _=>false
theorem notin_words (x:Str):cmD .d9 (.str x) (.tup [(.str "plus"),(.str "less"),(.str "times"),(.str "least"),(.str "greatest")]) S=.ok (.bl (!ir (.str x))) S:=by
 have e:∀ a b:Str,eqD deep S (.str a) (.str b)=some (a==b):=fun _ _=>rfl
 show (items _>>=fun ys=>inA true (.str x) ys) S=_
 rw [av]
 simp only [ES,Res.ao]
 unfold inA
 simp only [inL,e]
 congr 2
 simp only [ir,bY]
 have:∀ a:Str,(a==x)=decide (x=a):=fun a=>by
  by_cases h:x=a
  ·subst h; simp
  ·rw [decide_eq_false h]; simpa using fun q=>h q.symm
 simp [this,Bool.or_assoc]
noncomputable def dD (d:D) (own many streams ncrews:Int):Bool:=aZ d 5 5&&((bh (pt d 0) 0 (ncrews - 1)&&bh (pt d 1) 1 8)&&(ir (pt d 2)&&((aZ (pt d 3) 1 3&&fN (pt d 4))&&tuB (pt d 3) fun e=>eN e own many streams)))
theorem tU {d:D} (h:ir d=true):∃ x,d=.str x:=by cases d <;> first|(cases h; done)|exact ⟨_,rfl⟩
theorem sQ {ds:List D} (h1:5<=(ds.length:Int)) (h2:(ds.length:Int)<=5):∃ a b c e f,ds=[a,b,c,e,f]:=by
 rcases ds with _|⟨a,_|⟨b,_|⟨c,_|⟨e,_|⟨f,_|⟨g,r⟩⟩⟩⟩⟩⟩
 case cons.cons.cons.cons.cons.nil=>exact ⟨a,b,c,e,f,rfl⟩
 all_goals (simp at h1 h2; try omega)
theorem xA (h:HB P) {d:D} {own many streams ncrews:Int} (hS:bW S) (hd:fit S.length d=true) :
  aW S (exec sub (ai sub P (n+3)) kj.body [some d,some (.int own),some (.int many),some (.int streams),some (.int ncrews),none] S)=.ok (.bl (dD d own many streams ncrews)) S:=by
 cases q:aZ d 5 5 with
 | false =>
  refine (congrArg (aW S) (cJ (by simp [bC h.row hS hd,q]))).trans ?_
  simp [dD,q]
 | true =>
  refine (congrArg (aW S) (eB (by simp [bC h.row hS hd,q]))).trans ?_
  obtain ⟨ds,rfl,h1,h2⟩:=bP q
  obtain ⟨a,b,c,e,f,rfl⟩:=sQ h1 h2
  have ha:=cE (i:=0) hd rfl
  have hb:=cE (i:=1) hd rfl
  have hc:=cE (i:=2) hd rfl
  have he:=cE (i:=3) hd rfl
  have hf:=cE (i:=4) hd rfl
  have hw:dD (.tup [a,b,c,e,f]) own many streams ncrews=((bh a 0 (ncrews - 1)&&bh b 1 8)&&(ir c&&((aZ e 1 3&&fN f)&&tuB e fun e=>eN e own many streams))):=by
   unfold dD; rw [q]; rfl
  rw [hw]
  clear hw
  cases q1:bh a 0 (ncrews - 1) with
  | false =>
   refine (congrArg (aW S) (cJ (by simp [b5 h.whole hS ha,q1]))).trans ?_
   simp
  | true =>
  cases q2:bh b 1 8 with
  | false =>
   refine (congrArg (aW S) (cJ (by simp [b5 h.whole hS ha,b5 h.whole hS hb,q1,q2]))).trans ?_
   simp
  | true =>
  refine (congrArg (aW S) (eB (by simp [b5 h.whole hS ha,b5 h.whole hS hb,q1,q2]))).trans ?_
  cases q3:ir c with
  | false =>
   refine (congrArg (aW S) (cJ ?_)).trans (by simp)
   cases q4:gW c with
   | false=>simp [jm hS hc,q4]
   | true =>
    obtain ⟨x,rfl⟩:∃ x,c=.str x:=by
     cases c <;> first|(cases q4; done)|exact ⟨_,rfl⟩
    simp [jm hS hc,q4,notin_words,q3]
  | true =>
  obtain ⟨x,rfl⟩:=tU q3
  refine (congrArg (aW S) (eB (by simp [jm hS hc,gW,notin_words,q3]))).trans ?_
  refine (congrArg (aW S) (v_ (d:=e) (S':=S) (by simp))).trans ?_
  cases q5:aZ e 1 3 with
  | false =>
   refine (congrArg (aW S) (cJ (by simp [bC h.row hS he,q5]))).trans (by simp)
  | true =>
  cases q6:fN f with
  | false =>
   refine (congrArg (aW S) (cJ (by simp [bC h.row hS he,oZ h hS hf,q5,q6]))).trans (by simp)
  | true =>
  refine (congrArg (aW S) (eB (by simp [bC h.row hS he,oZ h hS hf,q5,q6]))).trans ?_
  obtain ⟨es,rfl,e1,e2⟩:=bP q5
  have hcm:ev sub (ai sub P (n+3)) (.comp 2 (.call "is_source" (.cs (.v 7) (.cs (.v 1) (.cs (.v 2) (.cs (.v 3) .nl))))) (.one 7) (.iSeq (.v 5)) .nl) [some (.tup [a,b,.str x,.tup es,f]),some (.int own),some (.int many),some (.int streams),some (.int ncrews),some (.tup es)] S =
    .ok (.loc S.length) (S++[.lst (es.map fun e=>.bl (eN e own many streams))]) :=
   comp_map (s:=⟨es,none,es⟩) (by simp) rfl (fun e hm=>by simp [AG h hS (c8.mp he e hm)]) (short e2 (by decide))
  refine (congrArg (aW S) (kH ..)).trans ?_
  simp [hcm,gI,tuB]
theorem EY (h:HB P) {d:D} {own many streams ncrews:Int} (hS:bW S) (hd:fit S.length d=true):ai sub P (n+4) "is_work" [d,.int own,.int many,.int streams,.int ncrews] S=.ok (.bl (dD d own many streams ncrews)) S:=by
 rw [cH h.work rfl]
 exact xA h hS hd
noncomputable def allFrom (k:Nat) (f:Nat->D->Bool):List D->Bool
 | []=>true
 | d::r=>f k d&&allFrom (k+1) f r
noncomputable def fS (d:D) (streams ncrews:Int):Bool:=aZ d 1 8&&(match d with|.tup ds=>allFrom 0 (fun own w=>dD w own ds.length streams ncrews) ds|_=>false)
theorem p9:∀ {ds:List D} {k:Nat} {d:D},d∈num k ds->∃ (i:Nat) (e:D),d=.tup [.int (i:Nat),e]/\e∈ds
 | [],_,_,h=>by simp [num] at h
 | x::r,k,d,h=>by
  rcases List.mem_cons.mp h with rfl|h
  ·exact ⟨k,x,rfl,List.mem_cons_self⟩
  ·obtain ⟨i,e,h1,h2⟩:=p9 h; exact ⟨i,e,h1,List.mem_cons_of_mem _ h2⟩
theorem q_ {f:Nat->D->Bool} {F:D->Bool} (hF:∀ (i:Nat) e,F (.tup [.int (i:Nat),e])=f i e):∀ (ds:List D) (k:Nat),(num k ds).all F=allFrom k f ds
 | [],_=>rfl
 | d::r,k=>by simp [num,allFrom,hF,q_ hF r]
theorem rG:∀ (ds:List D) (k:Nat),(num k ds).length=ds.length
 | [],_=>rfl
 | _::r,k=>by simp [num,rG r]
noncomputable def ptI (d:D) (i:Nat):Int:=match pt d i with|.int j=>j|_=>0
theorem qJ (h:HB P) {d:D} {streams ncrews:Int} (hS:bW S) (hd:fit S.length d=true):ai sub P (n+5) "are_works" [d,.int streams,.int ncrews] S=.ok (.bl (fS d streams ncrews)) S:=by
 rw [cH h.works rfl]
 cases q:aZ d 1 8 with
 | false=>simp [iW,frame,bC h.row hS hd,q,fS]
 | true =>
  obtain ⟨ds,rfl,h1,h2⟩:=bP q
  have hcm:ev sub (ai sub P (n+4)) (.comp 3 (.call "is_work" (.cs (.v 6) (.cs (.v 5) (.cs (.v 3) (.cs (.v 1) (.cs (.v 2) .nl)))))) (.many [5,6]) (.iEnum (.v 0)) .nl) [some (.tup ds),some (.int streams),some (.int ncrews),some (.int ds.length)] S =
    .ok (.loc S.length) (S++[.lst ((num 0 ds).map fun e=>.bl (dD (pt e 1) (ptI e 0) ds.length streams ncrews))]) :=
   uV (s:=⟨num 0 ds,none,ds⟩) (by simp) rfl (fun e hm=>by
    obtain ⟨i,w,rfl,hw⟩:=p9 hm
    exact ⟨_,rfl,rfl,by simp [cA,EY h hS (c8.mp hd w hw),pt,ptI]⟩) (by show (num 0 ds).length<=_; rw [rG]; exact short h2 (by decide))
  have hall:=q_ (f:=fun own w=>dD w own ds.length streams ncrews) (F:=fun e=>dD (pt e 1) (ptI e 0) ds.length streams ncrews) (fun i e=>rfl) ds 0
  simp [iW,frame,bC h.row hS hd,q,fS,hcm,gI,hall]
noncomputable def dF (many:Int):Int->List D->Bool
 | _,[]=>true
 | least,d::r=>match d with|.int i=>(decide (least<=i)&&decide (i<=many - 1))&&dF many (i+1) r|_=>false
noncomputable def gB (d:D) (many:Int):Bool:=aZ d 1 many&&(match d with|.tup ds=>dF many 0 ds|_=>false)
theorem sO (h:HB P) {D0:D} {many:Int} (hS:bW S) (all:List D):∀ (ds:List D) (least:Int) (x:Option D),(∀ d∈ds,fit S.length d=true) ->
  (dF many least ds=true/\∃ σ',forL ⟨all,none,all⟩ (ck sub (ai sub P (n+1)) (.one 3) (.seq (.ite (.not (.call "is_whole" (.cs (.v 3) (.cs (.v 2) (.cs (.bin .sub (.v 1) (.c (.int 1))) .nl))))) (.ret (.c (.bl false))) .skip) (.set (.one 2) (.bin .add (.v 3) (.c (.int 1)))))) ds [some D0,some (.int many),some (.int least),x] S=.ok (.nx σ') S) \/
  (dF many least ds=false/\forL ⟨all,none,all⟩ (ck sub (ai sub P (n+1)) (.one 3) (.seq (.ite (.not (.call "is_whole" (.cs (.v 3) (.cs (.v 2) (.cs (.bin .sub (.v 1) (.c (.int 1))) .nl))))) (.ret (.c (.bl false))) .skip) (.set (.one 2) (.bin .add (.v 3) (.c (.int 1)))))) ds [some D0,some (.int many),some (.int least),x] S=.ok (.rt (.bl false)) S)
 | [],least,x,_=>.inl ⟨rfl,_,by rw [jD]; rfl⟩
 | d::r,least,x,hf=>by
  rw [j7]
  have hd:=hf d List.mem_cons_self
  simp only [DJ,Res.ao,kL]
  cases q:bh d least (many - 1) with
  | false =>
   refine .inr ⟨?_,by simp [b5 h.whole hS hd,q]⟩
   cases d <;> first|rfl|skip
   rename_i i
   have q:(decide (least<=i)&&decide (i<=many - 1))=false:=q
   simp only [dF,q,Bool.false_and]
  | true =>
   have q0:=q
   obtain ⟨i,rfl,h1,h2⟩:=c_ q
   have e:dF many least (.int i::r)=dF many (i+1) r:=by
    have q:(decide (least<=i)&&decide (i<=many - 1))=true:=q
    simp only [dF,q,Bool.true_and]
   rw [e]
   have:=sO h (D0:=D0) (many:=many) hS all r (i+1) (some (.int i)) fun d hd=>hf d (List.mem_cons_of_mem _ hd)
   simpa [b5 h.whole hS hd,q0] using this
theorem EZ (h:HB P) {d:D} {many:Int} (hS:bW S) (hd:fit S.length d=true):ai sub P (n+2) "are_outs" [d,.int many] S=.ok (.bl (gB d many)) S:=by
 rw [cH h.outs rfl]
 cases q:aZ d 1 many with
 | false=>simp [gP,frame,bC h.row hS hd,q,gB]
 | true =>
  obtain ⟨ds,rfl,h1,h2⟩:=bP q
  rcases sO (sub:=sub) (n:=n) h (D0:=.tup ds) (many:=many) hS ds ds 0 none (c8.mp hd) with ⟨e,σ',hl⟩|⟨e,hl⟩
  ·have:=jl (sub:=sub) (cf:=ai sub P (n+1)) (t:=.one 3) (it:=.iSeq (.v 0)) (σ:=[some (.tup ds),some (.int many),some (.int 0),none]) (S:=S) (s:=⟨ds,none,ds⟩) (by simp) hl
   simp [gP,frame,bC h.row hS hd,q,gB,this,e]
  ·have:=jl (sub:=sub) (cf:=ai sub P (n+1)) (t:=.one 3) (it:=.iSeq (.v 0)) (σ:=[some (.tup ds),some (.int many),some (.int 0),none]) (S:=S) (s:=⟨ds,none,ds⟩) (by simp) hl
   simp [gP,frame,bC h.row hS hd,q,gB,this,e]
noncomputable def iA:D->Int
 | .tup ds=>ds.length
 | _=>0
noncomputable def cX (d:D):Bool:=aZ d 4 4&&((bh (pt d 0) 0 6&&fP (pt d 1))&&(fS (pt d 2) (ptI d 0) (iA (pt d 1))&&gB (pt d 3) (iA (pt d 2))))
theorem four {ds:List D} (h1:4<=(ds.length:Int)) (h2:(ds.length:Int)<=4):∃ a b c e,ds=[a,b,c,e]:=by
 rcases ds with _|⟨a,_|⟨b,_|⟨c,_|⟨e,_|⟨g,r⟩⟩⟩⟩⟩
 case cons.cons.cons.cons.nil=>exact ⟨a,b,c,e,rfl⟩
 all_goals (simp at h1 h2; try omega)
theorem pM (h:HB P) {d:D} (hS:bW S) (hd:fit S.length d=true):ai sub P (n+6) "is_loop" [d] S=.ok (.bl (cX d)) S:=by
 rw [cH h.loop rfl]
 show aW S (exec sub (ai sub P (n+5)) kX.body [some d] S)=_
 cases q:aZ d 4 4 with
 | false =>
  refine (congrArg (aW S) (cJ (by simp [bC h.row hS hd,q]))).trans ?_
  simp [cX,q]
 | true =>
  refine (congrArg (aW S) (eB (by simp [bC h.row hS hd,q]))).trans ?_
  obtain ⟨ds,rfl,h1,h2⟩:=bP q
  obtain ⟨a,b,c,e,rfl⟩:=four h1 h2
  have ha:=cE (i:=0) hd rfl
  have hb:=cE (i:=1) hd rfl
  have hc:=cE (i:=2) hd rfl
  have he:=cE (i:=3) hd rfl
  cases q1:bh a 0 6 with
  | false =>
   refine (congrArg (aW S) (cJ (by simp [b5 h.whole hS ha,q1]))).trans ?_
   simp [cX,q,pt,q1]
  | true =>
   cases q2:fP b with
   | false =>
    refine (congrArg (aW S) (cJ (by simp [b5 h.whole hS ha,q1,q2,pO h hS hb]))).trans ?_
    simp [cX,q,pt,q1,q2]
   | true =>
    refine (congrArg (aW S) (eB (by simp [b5 h.whole hS ha,q1,q2,pO h hS hb]))).trans ?_
    have q1':=q1
    have q2':=q2
    obtain ⟨i,rfl,_,_⟩:=c_ q1
    unfold fP at q2
    rw [Bool.and_eq_true] at q2
    obtain ⟨bs,rfl,_,_⟩:=bP q2.1
    cases q3:fS c i bs.length with
    | false=>simp [q,cX,pt,ptI,iA,q1',q2',q3,qJ h hS hc]
    | true =>
     have q3':=q3
     unfold fS at q3
     rw [Bool.and_eq_true] at q3
     obtain ⟨cs,rfl,_,_⟩:=bP q3.1
     simp [q,cX,pt,ptI,iA,q1',q2',q3',qJ h hS hc,EZ h hS he]
end RB

namespace RB
open PySem EV RL
theorem iM {α:Type} {f:α->D} {P:Nat->α->Prop}:∀ {ds:List D} (k:Nat),(∀ (i:Nat) d,ds[i]?=some d->∃ a,d=f a/\P (k+i) a)->∃ as:List α,ds=as.map f/\∀ (i:Nat) a,as[i]?=some a->P (k+i) a
 | [],k,_=>⟨[],rfl,fun i a h=>by simp at h⟩
 | d::r,k,h=>by
  obtain ⟨a,rfl,pa⟩:=h 0 d rfl
  obtain ⟨as,rfl,q⟩:=iM (f:=f) (P:=P) (ds:=r) (k+1) fun i d' e=>by
   have:=h (i+1) d' (by simpa using e)
   rw [show k+(i+1)=k+1+i by omega] at this
   exact this
  refine ⟨a::as,rfl,fun i b e=>?_⟩
  cases i with
  | zero=>cases e; exact pa
  | succ i =>
   have:=q i b (by simpa using e)
   rw [show k+1+i=k+(i+1) by omega] at this
   exact this
theorem gy {ds:List D} (h1:2<=(ds.length:Int)) (h2:(ds.length:Int)<=2):∃ a b,ds=[a,b]:=by
 match ds,h1,h2 with
 | [a,b],_,_=>exact ⟨a,b,rfl⟩
 | [],h,_=>simp at h
 | [_],h,_=>simp at h
 | _::_::_::_,_,h=>simp at h; omega
theorem Ec {ds:List D} (h1:3<=(ds.length:Int)) (h2:(ds.length:Int)<=3):∃ a b c,ds=[a,b,c]:=by
 match ds,h1,h2 with
 | [a,b,c],_,_=>exact ⟨a,b,c,rfl⟩
 | [],h,_=>simp at h
 | [_],h,_=>simp at h
 | [_,_],h,_=>simp at h
 | _::_::_::_::_,_,h=>simp at h; omega
theorem E8 {d:D} (h:fO d=true):∃ c:Nat × Nat,d=bE c/\(1<=c.1/\c.1<=3)/\(1<=c.2/\c.2<=4):=by
 unfold fO at h
 rw [Bool.and_eq_true,Bool.and_eq_true] at h
 obtain ⟨ds,rfl,h1,h2⟩:=bP h.1
 obtain ⟨a,b,rfl⟩:=gy h1 h2
 obtain ⟨i,e1,i1,i2⟩:=c_ h.2.1
 obtain ⟨j,e2,j1,j2⟩:=c_ h.2.2
 have e1:a=.int i:=e1
 have e2:b=.int j:=e2
 subst e1 e2
 refine ⟨(i.toNat,j.toNat),?_,⟨by show 1<=i.toNat; omega,by show i.toNat<=3; omega⟩,⟨by show 1<=j.toNat; omega,by show j.toNat<=4; omega⟩⟩
 show D.tup [.int i,.int j]=.tup [.int (i.toNat:Int),.int (j.toNat:Int)]
 rw [Int.toNat_of_nonneg (by omega),Int.toNat_of_nonneg (by omega)]
theorem Ci {d:D} {own many streams:Nat} (h:eN d own many streams=true):∃ s:Srs,d=s.toD/\s.WF own many streams:=by
 unfold eN at h
 rw [Bool.and_eq_true,Bool.and_eq_true] at h
 obtain ⟨h1,h2,h3⟩:=h
 by_cases q:isS "work" (pt d 0)=true
 ·rw [if_pos q] at h3
  unfold wsB at h3
  rw [Bool.and_eq_true,Bool.and_eq_true] at h3
  obtain ⟨ds,rfl,l1,l2⟩:=bP h3.1
  obtain ⟨a,b,c,rfl⟩:=Ec l1 l2
  obtain ⟨j,e2,j1,j2⟩:=c_ h3.2.1
  obtain ⟨i,e1,i1,i2⟩:=c_ h3.2.2
  have e2:c=.int j:=e2
  have e1:b=.int i:=e1
  subst e1 e2
  have q:isS "work" a=true:=q
  have ea:a=.str "work":=by
   clear h1 h2 h3 l1 l2
   cases a <;> first|(cases q; done)|skip
   rename_i y _
   have:y = "work":=by simpa [isS] using q
   rw [this]
  subst ea
  refine ⟨.wrk i.toNat j.toNat,?_,by show j.toNat<=3; omega,?_⟩
  ·show D.tup [.str "work",.int i,.int j]=.tup [.str "work",.int (i.toNat:Int),.int (j.toNat:Int)]
   rw [Int.toNat_of_nonneg (by omega),Int.toNat_of_nonneg (by omega)]
  ·have i2:i<=(if isZ (.int j)=true then (own:Int) else (many:Int)) - 1:=i2
   show i.toNat < if j.toNat=0 then own else many
   by_cases z:j=0
   ·subst z
    rw [if_pos (show isZ (.int 0)=true from rfl)] at i2
    rw [if_pos (show (0:Int).toNat=0 from rfl)]; omega
   ·rw [if_neg (show ¬ isZ (.int j)=true from by show ¬ (j==0)=true; simpa using z)] at i2
    rw [if_neg (by omega)]; omega
 ·rw [if_neg q,Bool.and_eq_true] at h3
  obtain ⟨ds,rfl,l1,l2⟩:=bP h3.1
  obtain ⟨a,b,rfl⟩:=gy l1 l2
  by_cases q2:isS "input" a=true
  ·have h4:bh b 0 ((streams:Int) - 1)=true:=by
    have:=h3.2
    rw [if_pos (show isS "input" (pt (.tup [a,b]) 0)=true from q2)] at this
    exact this
   obtain ⟨i,e1,i1,i2⟩:=c_ h4
   subst e1
   have ea:a=.str "input":=by
    cases a <;> first|(cases q2; done)|skip
    rename_i y
    have:y = "input":=by simpa [isS] using q2
    rw [this]
   subst ea
   refine ⟨.inp i.toNat,?_,by show i.toNat < streams; omega⟩
   show D.tup [.str "input",.int i]=.tup [.str "input",.int (i.toNat:Int)]
   rw [Int.toNat_of_nonneg (by omega)]
  ·have h4:(isS "value" a&&bh b 0 9972)=true:=by
    have:=h3.2
    rw [if_neg (show ¬ isS "input" (pt (.tup [a,b]) 0)=true from q2)] at this
    exact this
   rw [Bool.and_eq_true] at h4
   obtain ⟨i,e1,i1,i2⟩:=c_ h4.2
   subst e1
   have ea:a=.str "value":=by
    have q3:=h4.1
    cases a <;> first|(cases q3; done)|skip
    rename_i y
    have:y = "value":=by simpa [isS] using q3
    rw [this]
   subst ea
   exact ⟨.val i,rfl,i1,i2⟩
theorem oK {ds:List D} {f:D->Bool} (h:ds.all f=true) (i:Nat) (d:D) (e:ds[i]?=some d):f d=true:=List.all_eq_true.mp h d (List.mem_of_getElem? e)
theorem Fi {d:D} (h:fN d=true):∃ vs:List Int,d=.tup (vs.map .int)/\vs.length=3/\∀ v∈vs,0<=v/\v<=9972:=by
 unfold fN at h
 rw [Bool.and_eq_true] at h
 obtain ⟨ds,rfl,l1,l2⟩:=bP h.1
 obtain ⟨vs,rfl,q⟩:=iM (f:=D.int) (P:=fun _ v=>0<=v/\v<=9972) (ds:=ds) 0 fun i d e=>by
  obtain ⟨j,e1,j1,j2⟩:=c_ (oK (f:=fun e=>bh e 0 9972) h.2 i d e)
  exact ⟨j,e1,j1,j2⟩
 rw [List.length_map] at l1 l2
 refine ⟨vs,rfl,by omega,fun v hv=>?_⟩
 obtain ⟨i,hi⟩:=List.getElem?_of_mem hv
 exact q i v hi
theorem zo {d:D} {own many streams ncrews:Nat} (h:dD d own many streams ncrews=true):∃ w:Wk,d=w.toD/\w.WF own many streams ncrews:=by
 unfold dD at h
 simp only [Bool.and_eq_true] at h
 obtain ⟨h0,⟨h1,h2⟩,h3,⟨h4,h5⟩,h6⟩:=h
 obtain ⟨ds,rfl,l1,l2⟩:=bP h0
 obtain ⟨a,b,c,e,f,rfl⟩:=sQ l1 l2
 obtain ⟨i,e1,i1,i2⟩:=c_ h1
 obtain ⟨j,e2,j1,j2⟩:=c_ h2
 have e1:a=.int i:=e1
 have e2:b=.int j:=e2
 subst e1 e2
 obtain ⟨x,e3⟩:=tU h3
 have e3:c=.str x:=e3
 subst e3
 have hx:x∈bY:=of_decide_eq_true h3
 obtain ⟨vs,e5,v1,v2⟩:=Fi h5
 have e5:f=.tup (vs.map .int):=e5
 subst e5
 obtain ⟨es,e4,k1,k2⟩:=bP h4
 have e4:e=.tup es:=e4
 subst e4
 obtain ⟨ss,rfl,q⟩:=iM (f:=Srs.toD) (P:=fun _ s=>s.WF own many streams) (ds:=es) 0 fun i d e=>Ci (oK (f:=fun e=>eN e own many streams) h6 i d e)
 rw [List.length_map] at k1 k2
 refine ⟨⟨i.toNat,j.toNat,x,ss,vs⟩,?_,⟨by show i.toNat < ncrews; omega,⟨by show 1<=j.toNat; omega,by show j.toNat<=8; omega⟩,hx,⟨by show 1<=ss.length; omega,by show ss.length<=3; omega⟩,fun s hs=>?_,v1,v2⟩⟩
 ·show D.tup [.int i,.int j,_,_,_]=.tup [.int (i.toNat:Int),.int (j.toNat:Int),_,_,_]
  rw [Int.toNat_of_nonneg (by omega),Int.toNat_of_nonneg (by omega)]
 ·obtain ⟨k,hk⟩:=List.getElem?_of_mem hs
  exact q k s hk
theorem tS {f:Nat->D->Bool}:∀ {ds:List D} {k:Nat},allFrom k f ds=true->∀ (i:Nat) d,ds[i]?=some d->f (k+i) d=true
 | [],k,_,i,d,e=>by simp at e
 | x::r,k,h,0,d,e=>by
  have h:(f k x&&allFrom (k+1) f r)=true:=h
  rw [Bool.and_eq_true] at h
  cases e; exact h.1
 | x::r,k,h,i+1,d,e=>by
  have h:(f k x&&allFrom (k+1) f r)=true:=h
  rw [Bool.and_eq_true] at h
  have:=tS h.2 i d (by simpa using e)
  rw [show k+1+i=k+(i+1) by omega] at this
  exact this
theorem uQ {many:Nat}:∀ {ds:List D} {least:Nat},dF many least ds=true->∃ ks:List Nat,ds=ks.map bw/\dz many least ks
 | [],_,_=>⟨[],rfl,trivial⟩
 | d::r,least,h=>by
  cases d <;> first|(cases h; done)|skip
  rename_i i
  have h:((decide ((least:Int)<=i)&&decide (i<=(many:Int) - 1))&&dF many (i+1) r)=true:=h
  simp only [Bool.and_eq_true,decide_eq_true_eq] at h
  obtain ⟨⟨h1,h2⟩,h3⟩:=h
  rw [show i+1=((i.toNat+1:Nat):Int) by omega] at h3
  obtain ⟨ks,rfl,q⟩:=uQ h3
  refine ⟨i.toNat::ks,?_,by omega,by omega,q⟩
  show D.int i::_=D.int (i.toNat:Int)::_
  rw [Int.toNat_of_nonneg (by omega)]
theorem wA {d:D} (h:cX d=true):∃ l:Lp,d=l.toD/\l.WF:=by
 unfold cX at h
 simp only [Bool.and_eq_true] at h
 obtain ⟨h0,⟨h1,h2⟩,h3,h4⟩:=h
 obtain ⟨ds,rfl,l1,l2⟩:=bP h0
 obtain ⟨a,b,c,e,rfl⟩:=four l1 l2
 obtain ⟨i,e1,i1,i2⟩:=c_ h1
 have e1:a=.int i:=e1
 subst e1
 have h2:fP b=true:=h2
 unfold fP at h2
 rw [Bool.and_eq_true] at h2
 obtain ⟨cs,rfl,c1,c2⟩:=bP h2.1
 obtain ⟨crews,rfl,hc⟩:=iM (f:=bE) (P:=fun _ c=>(1<=c.1/\c.1<=3)/\(1<=c.2/\c.2<=4)) (ds:=cs) 0 fun i d e=>E8 (oK (f:=fO) h2.2 i d e)
 rw [List.length_map] at c1 c2
 have h3:fS c i (((crews.map bE).length:Nat):Int)=true:=h3
 unfold fS at h3
 rw [Bool.and_eq_true,List.length_map] at h3
 obtain ⟨ws,rfl,w1,w2⟩:=bP h3.1
 have h3b:allFrom 0 (fun own w=>dD w own ws.length i crews.length) ws=true:=h3.2
 obtain ⟨works,ews,hw⟩:=iM (f:=Wk.toD) (P:=fun own w=>w.WF own ws.length i.toNat crews.length) (ds:=ws) 0 fun k d e=>by
  have:=tS h3b k d e
  rw [<- Int.toNat_of_nonneg i1] at this
  exact zo this
 have hwl:ws.length=works.length:=by rw [ews,List.length_map]
 rw [hwl] at hw w1 w2
 have h4:gB e ((ws.length:Nat):Int)=true:=h4
 unfold gB at h4
 rw [Bool.and_eq_true] at h4
 obtain ⟨os,rfl,o1,o2⟩:=bP h4.1
 have h4b:dF ((ws.length:Nat):Int) ((0:Nat):Int) os=true:=h4.2
 rw [hwl] at h4b
 obtain ⟨outs,rfl,ho⟩:=uQ h4b
 rw [List.length_map] at o1 o2
 subst ews
 refine ⟨⟨i.toNat,crews,works,outs⟩,?_,⟨by show i.toNat<=6; omega,⟨by show 1<=crews.length; omega,by show crews.length<=3; omega⟩,fun c hc'=>?_,⟨by show 1<=works.length; omega,by show works.length<=8; omega⟩,fun k w e=>?_,by show 1<=outs.length; omega,ho⟩⟩
 ·show D.tup [.int i,_,_,_]=.tup [.int (i.toNat:Int),_,_,_]
  rw [Int.toNat_of_nonneg i1]
 ·obtain ⟨k,hk⟩:=List.getElem?_of_mem hc'
  exact hc k c hk
 ·have:=hw k w e
  rw [Nat.zero_add] at this
  exact this
end RB

namespace RL
open PySem EV GO
noncomputable def G2:Fn:=⟨1,5,(.seq (.set (.one 1) (.ix (.call "checked" (.cs (.v 0) .nl)) (.c (.int 2))))
 (.seq (.set (.one 2) (.lst .nl))
 (.seq (.forS (.many [3,4]) (.iEnum (.v 1))
  (.ex (.me .extend (.v 2) (.cs (.comp 2 (.tup (.cs (.ix (.v 6) (.c (.int 1))) (.cs (.v 3) (.cs (.ix (.v 6) (.c (.int 2))) .nl)))) (.one 6) (.iSeq (.ix (.v 4) (.c (.int 3)))) (.cmp .eq (.ix (.v 6) (.c (.int 0))) (.c (.str "work")))) .nl))))
 (.ret (.bi .sortedSet (.cs (.v 2) .nl))))))⟩
noncomputable def tupI (t:List Int):D:=.tup (t.map .int)
noncomputable def DZ (behind:Nat):Srs->Option (List Int)
 | .wrk w b=>some [(w:Int),(behind:Int),(b:Int)]
 | _=>none
noncomputable def Aa:Nat->List Wk->List (List Int)
 | _,[]=>[]
 | k,w::r=>w.srcs.filterMap (DZ k)++Aa (k+1) r
section
variable {sub:Sub} {P:Prg} {n:Nat} {S:af}
theorem Es {T:af} {ds:List D} {m:Nat} (hm:S.length<=m) (ht:T.take S.length=S) (h:T[m]?=some (.lst ds)) (hc:D.lows 0 ds=true):leave S (.loc m) T=.ok (.loc S.length) (S++[.lst ds]):=by
 unfold leave
 rw [if_pos ht,if_neg (by show ¬ decide (m < S.length)=true; simp; omega)]
 simp only [h]
 rw [if_pos (show Cell.low S.length (.lst ds)=true from jd (Nat.zero_le _) hc)]
end
end RL

namespace RL
open PySem EV GO
noncomputable def wS (w:Wd):D:=.str (tx w)
theorem bK (w:Wd):(tx w).cps.toList=w:=by unfold tx; simp
theorem dj (w:Wd):(tx w).length=w.length:=by unfold tx Str.length; simp
noncomputable def AtR (T:af) (q:List Wd × Nat):Prop:=T[q.2]?=some (.lst (q.1.map wS))
theorem cF {T T':af} (h:T <+: T') {i:Nat} {c:Cell} (e:T[i]?=some c):T'[i]?=some c:=by
 obtain ⟨t,rfl⟩:=h
 rw [List.getElem?_append_left (List.getElem?_eq_some_iff.mp e).1]; exact e
theorem AtR.pre {T T':af} {q:List Wd × Nat} (h:AtR T q) (p:T <+: T'):AtR T' q:=cF p h
theorem ee {S T:af} (h:S <+: T):T.take S.length=S:=by obtain ⟨G,rfl⟩:=h; exact fW _ _
section
variable {sub:Sub} {P:Prg} {n:Nat} {S T:af} {l:Lp} {cf:Str->List D->M D} {σ:Sg}
theorem oE {α:Type} {s:Src} {fn:D->M (Option D)} {f:α->D} {p:α->Bool} {h:α->List Wd} {S0:af} (hs:∀ T,S0 <+: T->aN s T=.ok () T):∀ (ks:List α) (T:af),S0 <+: T ->
  (∀ a∈ks,∀ T,S0 <+: T->(p a=false->fn (f a) T=.ok none T)/\(p a=true->∃ T' l,fn (f a) T=.ok (some (.loc l)) T'/\T <+: T'/\S0.length<=l/\AtR T' (h a,l))) ->
  ∃ (T':af) (Q:List (List Wd × Nat)),bN s fn (ks.map f) T=.ok (Q.map fun q=>.loc q.2) T'/\T <+: T'/\Q.map (·.1)=(ks.filter p).map h/\∀ q∈Q,AtR T' q/\S0.length<=q.2
 | [],T,hT,_=>⟨T,[],by rw [List.map_nil,mz,hs T hT]; rfl,List.prefix_refl _,rfl,fun _ h=>by cases h⟩
 | a::r,T,hT,H=>by
  obtain ⟨h1,h2⟩:=H a List.mem_cons_self T hT
  cases q:p a with
  | false =>
   obtain ⟨T',Q,e,t1,t2,t3⟩:=oE hs r T hT fun b hb=>H b (List.mem_cons_of_mem _ hb)
   refine ⟨T',Q,?_,t1,by rw [List.filter_cons_of_neg (by rw [q]; decide)]; exact t2,t3⟩
   rw [List.map_cons,kq,hs T hT,Res.ao,h1 q,Res.ao,e]; rfl
  | true =>
   obtain ⟨T1,m,e1,p1,lm,a1⟩:=h2 q
   obtain ⟨T',Q,e,t1,t2,t3⟩:=oE hs r T1 (hT.trans p1) fun b hb=>H b (List.mem_cons_of_mem _ hb)
   refine ⟨T',(h a,m)::Q,?_,p1.trans t1,?_,fun x hx=>?_⟩
   ·rw [List.map_cons,kq,hs T hT,Res.ao,e1,Res.ao,e]; rfl
   ·rw [List.filter_cons_of_pos q,List.map_cons,List.map_cons,t2]
   ·rcases List.mem_cons.mp hx with rfl|hx
    ·exact ⟨a1.pre t1,lm⟩
    ·exact t3 x hx
theorem pN {cf:Str->List D->M D} {σ:Sg} {k i:Nat} {el it tt:E} {α:Type} {ks:List α} {f:α->D} {p:α->Bool} {h:α->List Wd} {o:Option Nat} {raw:List D} (hi:evI sub cf it σ S=.ok ⟨ks.map f,o,raw⟩ S) (hs:∀ T,S <+: T->aN ⟨ks.map f,o,raw⟩ T=.ok () T)
  (hp:∀ a∈ks,∀ T,S <+: T->(if tt.bD=true then (pure true:M Bool) else evT sub cf tt ((σ++List.replicate k none).set i (some (f a)))) T=.ok (p a) T)
  (hg:∀ a∈ks,p a=true->∀ T,S <+: T->∃ T' l,ev sub cf el ((σ++List.replicate k none).set i (some (f a))) T=.ok (.loc l) T'/\T <+: T'/\S.length<=l/\AtR T' (h a,l)) (hz:ks.length<=aJ) :
  ∃ (T':af) (Q:List (List Wd × Nat)),ev sub cf (.comp k el (.one i) it tt) σ S=.ok (.loc T'.length) (T'++[.lst (Q.map fun q=>.loc q.2)])/\S <+: T'/\Q.map (·.1)=(ks.filter p).map h/\∀ q∈Q,AtR T' q/\S.length<=q.2:=by
 obtain ⟨T',Q,e,t1,t2,t3⟩:=oE (s:=⟨ks.map f,o,raw⟩) (fn:=fun d=>aV (.one i) d (σ++List.replicate k none)>>=fun σ'=>(if tt.bD=true then pure true else evT sub cf tt σ')>>=fun b=>if b=true then ev sub cf el σ'>>=fun y=>pure (some y) else pure none) (f:=f) (p:=p) (h:=h) (S0:=S) hs ks S (List.prefix_refl _) (fun a ha T hT=>by
  have e0:=hp a ha T hT
  have key:∀ b,p a=b->(aV (.one i) (f a) (σ++List.replicate k none)>>=fun σ'=>(if tt.bD=true then pure true else evT sub cf tt σ')>>=fun b=>if b=true then ev sub cf el σ'>>=fun y=>pure (some y) else pure none) T=(if b=true then ev sub cf el ((σ++List.replicate k none).set i (some (f a)))>>=fun y=>pure (some y) else (pure none:M (Option D))) T:=fun b hb=>by
   rw [av,iF,Res.ao,av,e0,Res.ao,hb]
  refine ⟨fun q=>?_,fun q=>?_⟩
  ·rw [key false q]; rfl
  ·obtain ⟨T',l,e1,p1,lm,a1⟩:=hg a ha q T hT
   refine ⟨T',l,?_,p1,lm,a1⟩
   rw [key true q,if_pos rfl,av,e1,Res.ao]; rfl)
 have hl:Q.length<=aJ:=by
  have:=congrArg List.length t2
  rw [List.length_map,List.length_map] at this
  rw [this]
  exact Nat.le_trans (List.length_filter_le _ _) hz
 refine ⟨T',Q,?_,t1,t2,t3⟩
 rw [gv,hi]
 simp only [Res.ao]
 rw [fV e]
 simp only [Res.ao]
 rw [if_pos (show fits _=true from decide_eq_true (by rw [List.length_map]; exact hl))]
theorem eS {m:Tm} {o es:E} {x:Str} {y:D} {S1 S2:af} {R:Res D} (ho:ev sub cf o σ S=.ok (.str x) S1) (hs:evs sub cf es σ S1=.ok [y] S2) (h:tmD m x y S2=R):ev sub cf (.tm m o es) σ S=R:=by
 show (ev sub cf o σ>>=fun x=>iE x fun s=>evs sub cf es σ>>=fun ds=>g9 m s ds) S=R
 rw [av,ho,Res.ao]
 show (evs sub cf es σ>>=fun ds=>g9 m x ds) S1=R
 rw [av,hs,Res.ao]; exact h
theorem rZ {m:Tm} {o es:E} {k:Bool} {S1:af} (h:ev sub cf (.tm m o es) σ S=.ok (.bl k) S1):evT sub cf (.tm m o es) σ S=.ok k S1:=by
 show (ev sub cf (.tm m o es) σ>>=truth) S=_
 rw [av,h,Res.ao]; rfl
noncomputable def Asc (w:Wd):Prop:=∀ c∈w,c < 128
theorem fB {w:Wd} (h:w.length<=1000000):biD sub .lenT [wS w] T=.ok (.int (w.length:Int)) T:=by
 show guard (fits (tx w).length) (pure (D.int ((tx w).length:Int))) T=_
 rw [dj,show fits w.length=true from decide_eq_true (by unfold aJ; omega)]; rfl
theorem FH {w:Wd} (h:Asc w):biD sub .signs [wS w] T=.ok (.tup (w.map cN)) T:=by
 show guard ((tx w).cps.toList.all fun c=>decide (c < 128)) (pure (D.tup ((tx w).cps.toList.map cN))) T=_
 rw [bK,show (w.all fun c=>decide (c < 128))=true from List.all_eq_true.mpr fun c hc=>decide_eq_true (h c hc)]; rfl
theorem Em (c:Nat):decide (c∈("0123456789" : Str).cps.toList)=cI c:=by
 have e:("0123456789" : Str).cps.toList=[48,49,50,51,52,53,54,55,56,57]:=by decide
 rw [e]
 unfold cI
 rw [Bool.eq_iff_iff,decide_eq_true_eq,Bool.and_eq_true,decide_eq_true_eq,decide_eq_true_eq]
 simp only [List.mem_cons,List.not_mem_nil,or_false]
 omega
theorem xK (c:Nat):cmD .tin (cN c) (.str "0123456789") T=.ok (.bl (cI c)) T:=by
 show (pure (.bl (decide (c∈("0123456789" : Str).cps.toList))):M D) T=_
 rw [Em]; rfl
theorem EJ {α:Type} {xs:List α} {f:α->Bool}:biD sub .all [.loc T.length] (T++[.lst (xs.map fun a=>.bl (f a))])=.ok (.bl (xs.all f)) (T++[.lst (xs.map fun a=>.bl (f a))]):=by
 rw [uh,eO (aX _ _),Res.ao]
 have e:∀ xs:List α,dm (xs.map fun a=>D.bl (f a))=some (xs.map f):=fun xs=>by
  induction xs with
  | nil=>rfl
  | cons a r ih=>show (dm (r.map fun a=>D.bl (f a))).map (f a :: ·)=_; rw [ih]; rfl
 rw [e]
 show Res.ok (D.bl ((xs.map f).all id)) _=_
 rw [List.all_map]; rfl
noncomputable def iC:Fn:=⟨1,1,(.seq (.ite (.or (.not (.chn .le .le (.c (.int 1)) (.bi .lenT (.cs (.v 0) .nl)) (.c (.int 4)))) (.not (.bi .all (.cs (.comp 2 (.cmp .tin (.v 2) (.c (.str "0123456789"))) (.one 2) (.iSeq (.bi .signs (.cs (.v 0) .nl))) .nl) .nl))))
  (.ret (.c .non))
  .skip)
 (.ret (.bi .intT (.cs (.v 0) .nl))))⟩
noncomputable def Good (w:Wd):Prop:=Asc w/\w.length<=1000000
theorem f6 (h:Has P "number_of" iC) {w:Wd} (hw:Good w):ai sub P (n+1) "number_of" [wS w] S=.ok (aA w) S:=by
 have t1:evT sub (ai sub P n) (.chn .le .le (.c (.int 1)) (.bi .lenT (.cs (.v 0) .nl)) (.c (.int 4))) [some (wS w)] S=.ok (decide (1<=w.length)&&decide (w.length<=4)) S:=by
  rw [Dq,r_c,Res.ao,aD (aa (r_v (i:=0) rfl) aj) (fB hw.2),Res.ao,jr,Res.ao]
  by_cases q:1<=w.length
  ·rw [decide_eq_true (show (1:Int)<=(w.length:Int) by omega),decide_eq_true q]
   show Res.bind (cmD .le (.int (w.length:Int)) (.int 4) S) (fun r S4=>truth r S4)=_
   rw [jr,Res.ao,Bool.true_and]
   by_cases q2:w.length<=4
   ·rw [decide_eq_true (show (w.length:Int)<=4 by omega),decide_eq_true q2]; rfl
   ·rw [decide_eq_false (show ¬ (w.length:Int)<=4 by omega),decide_eq_false q2]; rfl
  ·rw [decide_eq_false (show ¬ (1:Int)<=(w.length:Int) by omega),decide_eq_false q]; rfl
 unfold aA
 cases q:(decide (1<=w.length)&&decide (w.length<=4)) with
 | false =>
  rw [q] at t1
  rw [Bool.false_and,if_neg Bool.false_ne_true]
  exact x_call (ds:=[wS w]) h rfl (bG (bR (jF (t_k (bq t1) rfl)) (aB r_c))) (bf rfl List.take_length)
 | true =>
  rw [q] at t1
  rw [Bool.true_and]
  have hi:evI sub (ai sub P n) (.iSeq (.bi .signs (.cs (.v 0) .nl))) [some (wS w)] S=.ok ⟨w.map cN,none,w.map cN⟩ S:=bU (aD (aa (r_v rfl) aj) (FH hw.1)) rfl
  have hc:ev sub (ai sub P n) (.comp 2 (.cmp .tin (.v 2) (.c (.str "0123456789"))) (.one 2) (.iSeq (.bi .signs (.cs (.v 0) .nl))) .nl) [some (wS w)] S=.ok (.loc S.length) (S++[.lst (w.map fun c=>.bl (cI c))]) :=
   dh (ks:=w) (f:=cN) (g:=fun c=>.bl (cI c)) hi rfl (fun c _=>bx (r_v rfl) r_c (xK c)) (by have:=hw.2; unfold aJ; omega)
  have t2:=eF (aD (aa hc aj) (EJ (sub:=sub) (T:=S) (xs:=w) (f:=cI)))
  rw [Bool.and_eq_true] at q
  cases q2:w.all cI with
  | false =>
   rw [q2] at t2
   rw [if_neg Bool.false_ne_true]
   exact x_call (ds:=[wS w]) h rfl (bG (bR (cj (t_k (bq t1) rfl) (t_k (bq t2) rfl)) (aB r_c))) (bf rfl (fW _ _))
  | true =>
   rw [q2] at t2
   rw [if_pos rfl]
   have e:∀ T,biD sub .intT [wS w] T=.ok (.int (valN w:Nat)) T:=fun T=>by
    show guard ((tx w).cps.toList.all cI&&decide (1<=(tx w).length)&&decide ((tx w).length<=4)) (pure (D.int (valN (tx w).cps.toList:Nat))) T=_
    rw [bK,dj,q2,q.1,q.2]; rfl
   exact x_call (ds:=[wS w]) h rfl (ak (aL (cj (t_k (bq t1) rfl) (t_k (bq t2) rfl)) aM) (aB (aD (aa (r_v rfl) aj) (e _)))) (bf rfl (fW _ _))
noncomputable def m6:Fn:=⟨1,1,(.ret (.bi .tuple (.cs (.comp 2 (.call "number_of" (.cs (.v 2) .nl)) (.one 2) (.iSeq (.v 0)) .nl) .nl)))⟩
theorem f7 (w:Wd):(aA w).cl:=by
 unfold aA
 split <;> rfl
theorem iZ:∀ r:List Wd,D.lows 0 (r.map aA)=true
 | []=>rfl
 | w::r=>by
  show (D.low 0 (aA w)&&D.lows 0 (r.map aA))=true
  rw [show D.low 0 (aA w)=true from f7 w,iZ r]; rfl
theorem lI (h:Has P "number_of" iC) (h2:Has P "numbers_of" m6) {r:List Wd} {k:Nat} (hr:∀ w∈r,Good w) (hz:r.length<=1000000) (hk:AtR S (r,k)):ai sub P (n+2) "numbers_of" [.loc k] S=.ok (.tup (r.map aA)) S:=by
 have hk:S[k]?=some (.lst (r.map wS)):=hk
 have hc:ev sub (ai sub P (n+1)) (.comp 2 (.call "number_of" (.cs (.v 2) .nl)) (.one 2) (.iSeq (.v 0)) .nl) [some (.loc k)] S=.ok (.loc S.length) (S++[.lst (r.map aA)]) :=
  dh (ks:=r) (f:=wS) (g:=aA) (bU (r_v rfl) (ez hk)) (fM (.inr ⟨k,rfl,hk⟩)) (fun w hw=>au (aa (r_v rfl) aj) (f6 h (hr w hw))) (by unfold aJ; omega)
 exact x_call (ds:=[.loc k]) h2 rfl (aB (aD (aa hc aj) gR)) (bf (iZ r) (fW _ _))
end
end RL

namespace RL
open PySem EV GO
section
variable {sub:Sub} {P:Prg} {n:Nat} {S T:af} {l:Lp} {cf:Str->List D->M D} {σ:Sg}
theorem qB {w:Wd} {y:Str} {c:Nat} (hy:y.cps.toList=[c]):tmD .starts (tx w) (.str y) T=.ok (.bl (decide (w.head?=some c))) T:=by
 show (match y.cps.toList with|[c]=>pure (.bl (decide ((tx w).cps.toList.head?=some c)))|_=>bad:M D) T=_
 rw [hy,bK]; rfl
theorem wI {w:Wd} {y:Str} {c:Nat} (hy:y.cps.toList=[c]) (hz:w.length<=1000000):tmD .part (tx w) (.str y) T=.ok (.tup (dP c w)) T:=by
 show (match y.cps.toList with|[c]=>guard (decide ((tx w).length<=1000000)) (pure (.tup (dP c (tx w).cps.toList)))|_=>bad:M D) T=_
 rw [hy,bK,dj]
 show guard (decide (w.length<=1000000)) (pure (.tup (dP c w)):M D) T=_
 rw [decide_eq_true hz]; rfl
theorem sN {w:Wd} {k:Nat} (hz:w.length<=1000000):biD sub .tFrom [wS w,.int (k:Int)] T=.ok (wS (w.drop k)) T:=by
 show guard (decide ((0:Int)<=(k:Int))&&fits (tx w).length) (pure (.str (tx ((tx w).cps.toList.drop (k:Int).toNat))):M D) T=_
 rw [dj,bK,show fits w.length=true from decide_eq_true (by unfold aJ; omega),decide_eq_true (by omega),Int.toNat_natCast]; rfl
theorem part0 {c:Nat} {w:Wd}:atI (dP c w) 0=some (wS (if c∈w then w.takeWhile fun a=>a != c else w)):=by
 unfold dP
 split <;> rfl
theorem part2 {c:Nat} {w:Wd}:atI (dP c w) 2=some (wS (if c∈w then (w.dropWhile fun a=>a != c).drop 1 else [])):=by
 unfold dP
 split <;> rfl
theorem Good.drop {w:Wd} (h:Good w) (k:Nat):Good (w.drop k):=⟨fun c hc=>h.1 c (List.mem_of_mem_drop hc),by rw [List.length_drop]; have:=h.2; omega⟩
theorem uJ {u w:Wd} (h:Good w) (hs:u.Sublist w):Good u:=⟨fun c hc=>h.1 c (hs.mem hc),Nat.le_trans hs.length_le h.2⟩
noncomputable def ow:Fn:=⟨1,2,(.seq (.ite (.tm .starts (.v 0) (.cs (.c (.str "i")) .nl))
  (.ret (.tup (.cs (.c (.str "input")) (.cs (.call "number_of" (.cs (.bi .tFrom (.cs (.v 0) (.cs (.c (.int 1)) .nl))) .nl)) .nl))))
  .skip)
 (.seq (.ite (.tm .starts (.v 0) (.cs (.c (.str "w")) .nl))
  (.seq (.set (.one 1) (.tm .part (.bi .tFrom (.cs (.v 0) (.cs (.c (.int 1)) .nl))) (.cs (.c (.str "-")) .nl)))
 (.ret (.tup (.cs (.c (.str "work")) (.cs (.call "number_of" (.cs (.ix (.v 1) (.c (.int 0))) .nl)) (.cs (.call "number_of" (.cs (.ix (.v 1) (.c (.int 2))) .nl)) .nl))))))
  .skip)
 (.ret (.tup (.cs (.c (.str "value")) (.cs (.call "number_of" (.cs (.v 0) .nl)) .nl))))))⟩
theorem uO (w:Wd):(bH w).cl:=by
 unfold bH
 split
 ·show (true&&(D.low 0 (aA _)&&true))=true
  rw [show D.low 0 (aA (w.drop 1))=true from f7 _]; rfl
 ·split
  ·show (true&&(D.low 0 (aA _)&&(D.low 0 (aA _)&&true)))=true
   rw [show ∀ u,D.low 0 (aA u)=true from fun u=>f7 u,show ∀ u,D.low 0 (aA u)=true from fun u=>f7 u]; rfl
  ·show (true&&(D.low 0 (aA _)&&true))=true
   rw [show D.low 0 (aA w)=true from f7 _]; rfl
theorem CP (h:Has P "number_of" iC) (h2:Has P "source_of" ow) {w:Wd} (hw:Good w):ai sub P (n+2) "source_of" [wS w] S=.ok (bH w) S:=by
 have d1:=sN (sub:=sub) (T:=S) (w:=w) (k:=1) hw.2
 have t1:=rZ (sub:=sub) (cf:=ai sub P (n+1)) (σ:=[some (wS w),none]) (eS (m:=.starts) (r_v (i:=0) rfl) (aa (r_c (d:=.str "i")) aj) (qB (T:=S) (w:=w) (y:="i") (c:=105) (by decide)))
 have t2:=rZ (sub:=sub) (cf:=ai sub P (n+1)) (σ:=[some (wS w),none]) (eS (m:=.starts) (r_v (i:=0) rfl) (aa (r_c (d:=.str "w")) aj) (qB (T:=S) (w:=w) (y:="w") (c:=119) (by decide)))
 have cl:=uO w
 unfold bH at cl ⊢
 by_cases q1:w.head?=some 105
 ·rw [decide_eq_true q1] at t1
  rw [if_pos q1] at cl ⊢
  exact x_call (ds:=[wS w]) h2 rfl (bG (bR t1 (aB (eY (aa r_c (aa (au (aa (aD (aa (r_v rfl) (aa r_c aj)) d1) aj) (f6 h (hw.drop 1))) aj)) rfl)))) (bf cl List.take_length)
 ·rw [decide_eq_false q1] at t1
  rw [if_neg q1] at cl ⊢
  by_cases q2:w.head?=some 119
  ·rw [decide_eq_true q2] at t2
   rw [if_pos q2] at cl ⊢
   have g1:Good (if 45∈w.drop 1 then (w.drop 1).takeWhile fun a=>a != 45 else w.drop 1):=by
    split
    ·exact uJ (hw.drop 1) (List.takeWhile_sublist _)
    ·exact hw.drop 1
   have g2:Good (if 45∈w.drop 1 then ((w.drop 1).dropWhile fun a=>a != 45).drop 1 else []):=by
    split
    ·exact (uJ (hw.drop 1) (List.dropWhile_sublist _)).drop 1
    ·exact ⟨fun _ h=>(by cases h),by simp⟩
   exact x_call (ds:=[wS w]) h2 rfl (ak (aL t1 aM) (bG (bR t2 (ak (aI (eS (aD (aa (r_v rfl) (aa r_c aj)) d1) (aa r_c aj) (wI (y:="-") (c:=45) (by decide) (hw.drop 1).2))) (aB (eY (aa r_c (aa (au (aa (aG (r_v rfl) r_c (aQ part0)) aj) (f6 h g1)) (aa (au (aa (aG (r_v rfl) r_c (aQ part2)) aj) (f6 h g2)) aj))) rfl)))))) (bf cl List.take_length)
  ·rw [decide_eq_false q2] at t2
   rw [if_neg q2] at cl ⊢
   exact x_call (ds:=[wS w]) h2 rfl (ak (aL t1 aM) (ak (aL t2 aM) (aB (eY (aa r_c (aa (au (aa (r_v rfl) aj) (f6 h hw)) aj)) rfl)))) (bf cl List.take_length)
end
end RL

namespace RL
open PySem EV GO
section
variable {sub:Sub} {P:Prg} {n:Nat} {S T:af} {l:Lp} {cf:Str->List D->M D} {σ:Sg}
theorem ng {c:Nat} {xs:List D} {lo hi:Option Int} (h:T[c]?=some (.lst xs)):slD (.loc c) lo hi T=.ok (.loc T.length) (T++[.lst (cut xs lo hi)]):=by
 show (items (.loc c)>>=fun xs=>alloc (.lst (cut xs lo hi))) T=_
 rw [av,eO h]; rfl
theorem Dy {xs:List D} (h:8<=xs.length):cut xs (some 3) (some (-4))=(xs.drop 3).take (xs.length - 7):=by
 have e1:sIx xs.length 0 (some 3)=3:=by
  show (if (3:Int) < 0 then ((3:Int)+(xs.length:Int)).toNat else min (3:Int).toNat xs.length)=3
  rw [if_neg (by decide)]
  show min 3 xs.length=3
  omega
 have e2:sIx xs.length xs.length (some (-4))=xs.length - 4:=by
  show (if (-4:Int) < 0 then ((-4:Int)+(xs.length:Int)).toNat else min (-4:Int).toNat xs.length)=_
  rw [if_pos (by decide)]
  omega
 unfold cut
 rw [e1,e2,show xs.length - 4 - 3=xs.length - 7 by omega]
theorem ze {xs:List D} (h:8<=xs.length):cut xs (some (-3)) none=xs.drop (xs.length - 3):=by
 have e1:sIx xs.length 0 (some (-3))=xs.length - 3:=by
  show (if (-3:Int) < 0 then ((-3:Int)+(xs.length:Int)).toNat else min (-3:Int).toNat xs.length)=_
  rw [if_pos (by decide)]
  omega
 unfold cut
 rw [e1]
 exact List.take_of_length_le (by rw [List.length_drop]; exact Nat.le_refl _)
theorem zk (xs:List D):cut xs (some 1) none=xs.drop 1:=by
 have e1:sIx xs.length 0 (some 1)=min 1 xs.length:=by
  show (if (1:Int) < 0 then ((1:Int)+(xs.length:Int)).toNat else min (1:Int).toNat xs.length)=_
  rw [if_neg (by decide)]; rfl
 unfold cut
 rw [e1]
 show (xs.drop (min 1 xs.length)).take (xs.length - min 1 xs.length)=_
 cases xs with
 | nil=>rfl
 | cons a r=>simp
noncomputable def t7:Fn:=⟨1,2,(.seq (.ite (.cmp .lt (.bi .len (.cs (.v 0) .nl)) (.c (.int 8)))
  (.ret (.c .non))
  .skip)
 (.seq (.set (.one 1) (.bi .tuple (.cs (.comp 2 (.call "source_of" (.cs (.v 3) .nl)) (.one 3) (.iSeq (.sl (.v 0) (.c (.int 3)) (.neg (.c (.int 4))))) .nl) .nl)))
 (.ret (.tup (.cs (.call "number_of" (.cs (.ix (.v 0) (.c (.int 0))) .nl)) (.cs (.call "number_of" (.cs (.ix (.v 0) (.c (.int 1))) .nl)) (.cs (.ix (.v 0) (.c (.int 2))) (.cs (.v 1) (.cs (.call "numbers_of" (.cs (.sl (.v 0) (.neg (.c (.int 3))) .nl) .nl)) .nl)))))))))⟩
structure HT (P:Prg):Prop where
 number:Has P "number_of" iC
 numbers:Has P "numbers_of" m6
 source:Has P "source_of" ow
 work:Has P "work_of" t7
theorem tH:∀ r:List Wd,D.lows 0 (r.map bH)=true
 | []=>rfl
 | w::r=>by
  show (D.low 0 (bH w)&&D.lows 0 (r.map bH))=true
  rw [show D.low 0 (bH w)=true from uO w,tH r]; rfl
theorem sC (r:List Wd):(cD r).cl:=by
 unfold cD
 split
 ·rfl
 ·show (D.low 0 (aA _)&&(D.low 0 (aA _)&&(true&&(D.lows 0 (List.map bH _)&&(D.lows 0 (List.map aA _)&&true)))))=true
  rw [show ∀ u,D.low 0 (aA u)=true from fun u=>f7 u,show ∀ u,D.low 0 (aA u)=true from fun u=>f7 u,tH,iZ]; rfl
theorem sM {r:List Wd} {i:Nat} (hi:i < r.length):atI (r.map wS) (i:Int)=some (wS (r.getD i [])):=by
 unfold atI ixN
 rw [if_pos (by omega),if_pos (by rw [List.length_map]; omega)]
 show (r.map wS)[(i:Int).toNat]?=_
 rw [Int.toNat_natCast,List.getElem?_map,List.getElem?_eq_getElem hi,List.getD_eq_getElem?_getD,List.getElem?_eq_getElem hi]; rfl
theorem getD_mem {r:List Wd} {i:Nat} (hi:i < r.length):r.getD i []∈r:=by
 rw [List.getD_eq_getElem?_getD,List.getElem?_eq_getElem hi]
 exact List.getElem_mem hi
theorem Gs (h:HT P) {r:List Wd} {k:Nat} (hr:∀ w∈r,Good w) (hz:r.length<=1000000) (hk:AtR S (r,k)):ai sub P (n+3) "work_of" [.loc k] S=.ok (cD r) S:=by
 have hk:S[k]?=some (.lst (r.map wS)):=hk
 have t1:=bA (sub:=sub) (cf:=ai sub P (n+2)) (bx (o:=.lt) (σ:=[some (.loc k),none]) (aD (aa (r_v (i:=0) rfl) aj) (jn hk)) (r_c (d:=.int 8)) (l8 _ _ _))
 rw [List.length_map] at t1
 have cl:=sC r
 unfold cD at cl ⊢
 by_cases q:r.length < 8
 ·rw [decide_eq_true (show (r.length:Int) < 8 by omega)] at t1
  rw [if_pos q]
  exact x_call (ds:=[.loc k]) h.work rfl (bG (bR t1 (aB r_c))) (bf rfl List.take_length)
 ·rw [decide_eq_false (show ¬ (r.length:Int) < 8 by omega)] at t1
  rw [if_neg q] at cl ⊢
  have h8:8<=(r.map wS).length:=by rw [List.length_map]; omega
  have s1:=ng (lo:=some 3) (hi:=some (-4)) hk
  rw [Dy h8,List.length_map,<- List.map_drop,<- List.map_take] at s1
  have p1:S <+: S++[.lst (((r.drop 3).take (r.length - 7)).map wS)]:=List.prefix_append _ _
  have g1:(S++[.lst (((r.drop 3).take (r.length - 7)).map wS)])[S.length]?=some (.lst (((r.drop 3).take (r.length - 7)).map wS)):=aX _ _
  generalize S++[Cell.lst (((r.drop 3).take (r.length - 7)).map wS)]=T1 at s1 p1 g1
  have hc:ev sub (ai sub P (n+2)) (.comp 2 (.call "source_of" (.cs (.v 3) .nl)) (.one 3) (.iSeq (.sl (.v 0) (.c (.int 3)) (.neg (.c (.int 4))))) .nl) [some (.loc k),none] S=.ok (.loc T1.length) (T1++[.lst (((r.drop 3).take (r.length - 7)).map bH)]) :=
   dh (ks:=(r.drop 3).take (r.length - 7)) (f:=wS) (g:=bH) (bU (kc (r_v rfl) rfl rfl s1) (ez g1)) (fM (.inr ⟨_,rfl,g1⟩)) (fun w hw=>au (aa (r_v rfl) aj) (CP h.number h.source (hr w (List.mem_of_mem_drop (List.mem_of_mem_take hw))))) (by rw [List.length_take,List.length_drop]; unfold aJ; omega)
  have e1:=aD (aa hc aj) (gR (sub:=sub) (T:=T1))
  have p2:T1 <+: T1++[.lst (((r.drop 3).take (r.length - 7)).map bH)]:=List.prefix_append _ _
  generalize T1++[Cell.lst (((r.drop 3).take (r.length - 7)).map bH)]=T2 at e1 p2
  have hk2:=cF (p1.trans p2) hk
  have a:∀ (i:Nat),i < r.length->ixD (.loc k) (.int (i:Int)) T2=.ok (wS (r.getD i [])) T2:=fun i hi=>gJ hk2 (sM hi)
  have s2:=ng (lo:=some (-3)) (hi:=none) hk2
  rw [ze h8,List.length_map,<- List.map_drop] at s2
  have p3:T2 <+: T2++[.lst ((r.drop (r.length - 3)).map wS)]:=List.prefix_append _ _
  have e2:=lI (sub:=sub) (n:=n) (S:=T2++[Cell.lst ((r.drop (r.length - 3)).map wS)]) h.number h.numbers (r:=r.drop (r.length - 3)) (k:=T2.length) (fun w hw=>hr w (List.mem_of_mem_drop hw)) (by rw [List.length_drop]; omega) (show (T2++[Cell.lst ((r.drop (r.length - 3)).map wS)])[T2.length]?=some (.lst ((r.drop (r.length - 3)).map wS)) from aX _ _)
  exact x_call (ds:=[.loc k]) h.work rfl (ak (aL t1 aM) (ak (aI e1) (aB (eY (aa (au (aa (aG (r_v rfl) r_c (a 0 (by omega))) aj) (f6 h.number (hr _ (getD_mem (by omega))))) (aa (au (aa (aG (r_v rfl) r_c (a 1 (by omega))) aj) (f6 h.number (hr _ (getD_mem (by omega))))) (aa (aG (r_v rfl) r_c (a 2 (by omega))) (aa (r_v rfl) (aa (au (aa (kc (r_v rfl) rfl rfl s2) aj) e2) aj))))) rfl)))) (bf cl (ee (p1.trans (p2.trans p3))))
noncomputable def jN:Fn:=⟨2,2,(.ret (.comp 2 (.sl (.v 3) (.c (.int 1)) .nl) (.one 3) (.iSeq (.v 0)) (.cmp .eq (.ix (.v 3) (.c (.int 0))) (.v 1))))⟩
theorem gA {u v:Wd}:(tx u==tx v)=decide (u=v):=by
 by_cases h:u=v
 ·subst h; rw [decide_eq_true rfl]; simp
 ·rw [decide_eq_false h]
  refine beq_eq_false_iff_ne.mpr fun e=>h ?_
  rw [<- bK u,e,bK]
structure gK (T:af) (c:Nat) (R:List (List Wd × Nat)):Prop where
 at':T[c]?=some (.lst (R.map fun q=>.loc q.2))
 rows:∀ q∈R,AtR T q
theorem gK.pre {T':af} {c:Nat} {R:List (List Wd × Nat)} (h:gK T c R) (p:T <+: T'):gK T' c R:=⟨cF p h.at',fun q hq=>(h.rows q hq).pre p⟩
theorem lq (h:Has P "rows_headed" jN) {c:Nat} {R:List (List Wd × Nat)} (hR:gK S c R) (hne:∀ q∈R,q.1≠[]) (hz:R.length<=1000001) (hw:Wd) :
  ∃ (T':af) (k:Nat) (Q:List (List Wd × Nat)),ai sub P (n+1) "rows_headed" [.loc c,wS hw] S=.ok (.loc k) T'/\S <+: T'/\gK T' k Q/\Q.map (·.1)=aP (R.map (·.1)) hw:=by
 obtain ⟨T',Q,e,t1,t2,t3⟩:=pN (sub:=sub) (cf:=ai sub P n) (σ:=[some (.loc c),some (wS hw)]) (S:=S) (k:=2) (i:=3) (el:=.sl (.v 3) (.c (.int 1)) .nl) (it:=.iSeq (.v 0)) (tt:=.cmp .eq (.ix (.v 3) (.c (.int 0))) (.v 1)) (ks:=R) (f:=fun q=>.loc q.2) (p:=fun q=>decide (q.1.head?=some hw)) (h:=fun q=>q.1.drop 1) (o:=some c) (raw:=R.map fun q=>.loc q.2) (bU (r_v rfl) (ez hR.at')) (fun T hT=>fM (.inr ⟨c,rfl,cF hT hR.at'⟩)) (fun q hq T hT=>by
   have hq':T[q.2]?=some (.lst (q.1.map wS)):=(hR.rows q hq).pre hT
   obtain ⟨w,r,e⟩:=List.exists_cons_of_ne_nil (hne q hq)
   rw [e] at hq' ⊢
   show evT sub (ai sub P n) _ _ T=_
   have:=bA (sub:=sub) (cf:=ai sub P n) (bx (o:=.eq) (σ:=[some (.loc c),some (wS hw),none,some (.loc q.2)]) (aG (r_v (i:=3) rfl) (r_c (d:=.int 0)) (gJ (d:=wS w) hq' (sM (r:=w::r) (i:=0) (by simp)))) (r_v (i:=1) rfl) (iJ (tx w) (tx hw) T))
   refine t_k this ?_
   rw [gA]
   show decide (w=hw)=decide (some w=some hw)
   exact decide_eq_decide.mpr ⟨fun e=>by rw [e],fun e=>Option.some.inj e⟩) (fun q hq _ T hT=>by
   have hq':T[q.2]?=some (.lst (q.1.map wS)):=(hR.rows q hq).pre hT
   have s1:=ng (lo:=some 1) (hi:=none) hq'
   rw [zk,<- List.map_drop] at s1
   exact ⟨_,_,kc (r_v rfl) rfl rfl s1,List.prefix_append _ _,hT.length_le,aX _ _⟩) (by unfold aJ; omega)
 have eq:Q.map (·.1)=aP (R.map (·.1)) hw:=by
  rw [t2]
  unfold aP
  rw [List.filter_map,List.map_map]; rfl
 have hl:S.length<=T'.length:=t1.length_le
 by_cases hQ:Q=[]
 ·subst hQ
  refine ⟨S++[.lst []],S.length,[],x_call (ds:=[.loc c,wS hw]) h rfl (aB e) (Es hl (ee (t1.trans (List.prefix_append _ _))) (aX _ _) rfl),List.prefix_append _ _,⟨aX _ _,fun _ h=>(by cases h)⟩,eq⟩
 ·refine ⟨T'++[.lst (Q.map fun q=>.loc q.2)],T'.length,Q,x_call (ds:=[.loc c,wS hw]) h rfl (aB e) ?_,t1.trans (List.prefix_append _ _),⟨aX _ _,fun q hq=>(t3 q hq).1.pre (List.prefix_append _ _)⟩,eq⟩
  unfold leave
  rw [if_pos (ee (t1.trans (List.prefix_append _ _))),if_neg (by show ¬ decide (T'.length < S.length)=true; simp; omega)]
  simp only [aX]
  rw [if_neg]
  intro z
  obtain ⟨q,r,rfl⟩:=List.exists_cons_of_ne_nil hQ
  have z:(decide (q.2 < S.length)&&D.lows S.length (r.map fun q=>.loc q.2))=true:=z
  rw [Bool.and_eq_true] at z
  have:=of_decide_eq_true z.1
  have:=(t3 q (by simp)).2
  omega
end
end RL

namespace RL
open PySem EV GO
theorem lQ (c a:Nat) (r:Wd):∃ h t,aT c r=h::t/\aT c (a::r)=if a=c then []::h::t else (a::h)::t:=by
 have hne:∀ r,aT c r≠[]:=fun r=>by
  induction r with
  | nil=>intro z; cases z
  | cons b r ih =>
   show (if b=c then []::aT c r else match aT c r with|h::t=>(b::h)::t|[]=>[[b]])≠[]
   split
   ·simp
   ·split <;> simp
 obtain ⟨h,t,e⟩:=List.exists_cons_of_ne_nil (hne r)
 refine ⟨h,t,e,?_⟩
 show (if a=c then []::aT c r else match aT c r with|h::t=>(a::h)::t|[]=>[[a]])=_
 rw [e]
theorem yV (c:Nat):∀ xs:Wd,aT c xs≠[]
 | []=>by intro z; cases z
 | a::r=>by
  obtain ⟨h,t,_,e⟩:=lQ c a r
  rw [e]; split <;> simp
theorem g_ (c:Nat):∀ xs:Wd,((aT c xs).map List.length).sum<=xs.length/\((aT c xs).map List.length).sum+(aT c xs).length<=xs.length+1
 | []=>⟨Nat.le_refl _,Nat.le_refl _⟩
 | a::r=>by
  obtain ⟨h,t,e0,e⟩:=lQ c a r
  obtain ⟨h1,h2⟩:=g_ c r
  rw [e0] at h1 h2
  rw [e]
  split
  ·simp only [List.map_cons,List.sum_cons,List.length_cons,List.length_nil] at h1 h2 ⊢
   omega
  ·simp only [List.map_cons,List.sum_cons,List.length_cons] at h1 h2 ⊢
   omega
theorem i8 {c x:Nat}:∀ {xs p:Wd},p∈aT c xs->x∈p->x∈xs
 | [],p,hp,hx=>by
  rw [List.mem_singleton.mp hp] at hx; cases hx
 | a::r,p,hp,hx=>by
  obtain ⟨h,t,e0,e⟩:=lQ c a r
  rw [e] at hp
  split at hp
  ·rcases List.mem_cons.mp hp with rfl|hp
   ·cases hx
   ·exact List.mem_cons_of_mem _ (i8 (by rw [e0]; exact hp) hx)
  ·rcases List.mem_cons.mp hp with rfl|hp
   ·rcases List.mem_cons.mp hx with rfl|hx
    ·exact List.mem_cons_self
    ·exact List.mem_cons_of_mem _ (i8 (p:=h) (by rw [e0]; exact List.mem_cons_self) hx)
   ·exact List.mem_cons_of_mem _ (i8 (by rw [e0]; exact List.mem_cons_of_mem _ hp) hx)
theorem mO {xs:List Wd} {p:Wd} (h:p∈xs):p.length<=(xs.map List.length).sum:=by
 induction xs with
 | nil=>cases h
 | cons a r ih =>
  rw [List.map_cons,List.sum_cons]
  rcases List.mem_cons.mp h with rfl|h
  ·omega
  ·have:=ih h; omega
noncomputable def cU (t:Wd):Prop:=Asc t/\t.length<=600000
structure gC (r:List Wd):Prop where
 good:∀ w∈r,Good w
 len:r.length<=600001
 sum:(r.map List.length).sum+r.length<=600001
theorem o7 {t:Wd} (ht:cU t) {r:List Wd} (h:r∈rowsOf t):gC r/\r≠[]:=by
 obtain ⟨p,hp,rfl⟩:=List.mem_map.mp h
 have h1:=mO hp
 have h2:=(g_ 10 t).1
 have h3:=g_ 32 p
 have hz:=ht.2
 exact ⟨⟨fun w hw=>⟨fun c hc=>ht.1 c (i8 hp (i8 hw hc)),by have:=mO hw; omega⟩,by omega,by omega⟩,yV 32 p⟩
theorem gC.drop {r:List Wd} (h:gC r):gC (r.drop 1):=by
 cases r with
 | nil=>exact h
 | cons w q =>
  have h2:=h.len
  have h3:=h.sum
  rw [List.length_cons] at h2
  rw [List.map_cons,List.sum_cons,List.length_cons] at h3
  exact ⟨fun x hx=>h.good x (List.mem_cons_of_mem _ hx),by show q.length<=_; omega,by show (q.map List.length).sum+q.length<=_; omega⟩
theorem jP {t:Wd} (ht:cU t) {h:Wd} {r:List Wd} (hr:r∈aP (rowsOf t) h):gC r:=by
 obtain ⟨q,hq,rfl⟩:=List.mem_map.mp hr
 exact (o7 ht (List.mem_filter.mp hq).1).1.drop
theorem kO (c:Nat):∀ r:List Wd,(glue c r).length<=(r.map List.length).sum+r.length
 | []=>Nat.le_refl _
 | [p]=>by simp [glue]
 | p::q::r=>by
  have:=kO c (q::r)
  show (p++c::glue c (q::r)).length<=_
  rw [List.length_append,List.length_cons,List.map_cons,List.sum_cons,List.length_cons (a:=p)]
  omega
theorem j_ {c:Nat} (hc:c < 128):∀ {r:List Wd},(∀ w∈r,Asc w)->Asc (glue c r)
 | [],_=>fun x hx=>by cases hx
 | [p],h=>h p List.mem_cons_self
 | p::q::r,h=>fun x hx=>by
  rcases List.mem_append.mp (show x∈p++c::glue c (q::r) from hx) with hx|hx
  ·exact h p List.mem_cons_self x hx
  ·rcases List.mem_cons.mp hx with rfl|hx
   ·exact hc
   ·exact j_ hc (fun w hw=>h w (List.mem_cons_of_mem _ hw)) x hx
theorem ud (c:Nat):∀ r:List Wd,dN (tx [c]) (r.map tx)=tx (glue c r)
 | []=>rfl
 | [p]=>rfl
 | p::q::r=>by
  have ih:=ud c (q::r)
  show tx p++tx [c]++dN (tx [c]) ((q::r).map tx)=tx (p++c::glue c (q::r))
  rw [ih]
  refine iY ?_
  show ((tx p).cps++(tx [c]).cps++(tx (glue c (q::r))).cps).toList=_
  rw [Array.toList_append,Array.toList_append,bK,bK,bK,bK,List.append_assoc]; rfl
section
variable {sub:Sub} {P:Prg} {n:Nat} {S T:af} {l:Lp} {cf:Str->List D->M D} {σ:Sg}
theorem lA:∀ r:List Wd,allStrs (r.map wS)=some (r.map tx)
 | []=>rfl
 | w::r=>by
  show (allStrs (r.map wS)).map (tx w :: ·)=_
  rw [lA r]; rfl
theorem oj {k c:Nat} {y:Str} {r:List Wd} (hy:y=tx [c]) (hk:AtR T (r,k)) (hr:gC r):tmD .join y (.loc k) T=.ok (wS (glue c r)) T:=by
 have hk:T[k]?=some (.lst (r.map wS)):=hk
 show (cu (.loc k)>>=fun ds=>opt (allStrs ds)>>=fun ys=>joinM y ys) T=_
 have e0:cu (.loc k) T=.ok (r.map wS) T:=eO hk
 rw [av,e0,Res.ao,av,lA,gZ,Res.ao]
 show guard (decide (((r.map tx).map (fun y=>y.length)).sum+(r.map tx).length * y.length<=16777216)) (pure (.str (dN y (r.map tx))):M D) T=_
 have h1:((r.map tx).map fun y=>y.length)=r.map List.length:=by
  rw [List.map_map]
  exact List.map_congr_left fun w _=>dj w
 have h2:=hr.len
 have h3:=hr.sum
 have h4:y.length=1:=by rw [hy,dj]; rfl
 rw [h1,List.length_map,h4,decide_eq_true (by omega),hy,ud]; rfl
theorem qQ {w:Wd} {y:Str} {c:Nat} (hy:y.cps.toList=[c]) (hz:w.length<=1000000):tmD .split (tx w) (.str y) T=.ok (.loc T.length) (T++[.lst ((aT c w).map wS)]):=by
 show (match y.cps.toList with|[c]=>guard (decide ((tx w).length<=1000000)) (alloc (.lst ((aT c (tx w).cps.toList).map fun p=>.str (tx p))))|_=>bad:M D) T=_
 rw [hy,bK,dj]
 show guard (decide (w.length<=1000000)) (alloc (.lst ((aT c w).map fun p=>.str (tx p)))) T=_
 rw [decide_eq_true hz]; rfl
noncomputable def iS:Fn:=⟨1,6,(.seq (.set (.one 1) (.comp 2 (.tm .split (.v 7) (.cs (.c (.str " ")) .nl)) (.one 7) (.iSeq (.tm .split (.v 0) (.cs (.c (.str "\n")) .nl))) .nl))
 (.seq (.set (.one 2) (.call "rows_headed" (.cs (.v 1) (.cs (.c (.str "streams")) .nl))))
 (.seq (.set (.one 3) (.call "rows_headed" (.cs (.v 1) (.cs (.c (.str "outs")) .nl))))
 (.seq (.ite (.or (.cmp .ne (.bi .len (.cs (.v 2) .nl)) (.c (.int 1))) (.cmp .ne (.bi .len (.cs (.v 3) .nl)) (.c (.int 1))))
  (.ret (.c .non))
  .skip)
 (.seq (.set (.one 4) (.bi .tuple (.cs (.comp 2 (.call "numbers_of" (.cs (.v 7) .nl)) (.one 7) (.iSeq (.call "rows_headed" (.cs (.v 1) (.cs (.c (.str "crew")) .nl)))) .nl) .nl)))
 (.seq (.set (.one 5) (.bi .tuple (.cs (.comp 2 (.call "work_of" (.cs (.v 7) .nl)) (.one 7) (.iSeq (.call "rows_headed" (.cs (.v 1) (.cs (.c (.str "work")) .nl)))) .nl) .nl)))
 (.ret (.tup (.cs (.call "number_of" (.cs (.tm .join (.c (.str " ")) (.cs (.ix (.v 2) (.c (.int 0))) .nl)) .nl)) (.cs (.v 4) (.cs (.v 5) (.cs (.call "numbers_of" (.cs (.ix (.v 3) (.c (.int 0))) .nl)) .nl))))))))))))⟩
theorem lZ {α:Type} {f:α->D} (hf:∀ a,(f a).cl):∀ xs:List α,D.lows 0 (xs.map f)=true
 | []=>rfl
 | a::r=>by
  show (D.low 0 (f a)&&D.lows 0 (r.map f))=true
  rw [show D.low 0 (f a)=true from hf a,lZ hf r]; rfl
theorem nU (t:Wd):(looseD t).cl:=by
 unfold looseD
 split
 ·show (D.low 0 (aA _)&&(D.lows 0 (List.map _ _)&&(D.lows 0 (List.map cD _)&&(D.lows 0 (List.map aA _)&&true))))=true
  rw [show ∀ u,D.low 0 (aA u)=true from fun u=>f7 u,lZ (f:=fun r:List Wd=>D.tup (r.map aA)) (fun r=>show D.low 0 (D.tup (r.map aA))=true from iZ r),lZ (f:=cD) sC,iZ]; rfl
 ·rfl
theorem uo {k:Nat} {xs:List D} (h:T[k]?=some (.lst xs)) {i:Nat} (hi:bF σ i T=.ok (.loc k) T):evT sub cf (.cmp .ne (.bi .len (.cs (.v i) .nl)) (.c (.int 1))) σ T=.ok (!decide (xs.length=1)) T:=by
 have:=bA (sub:=sub) (cf:=cf) (bx (o:=.ne) (σ:=σ) (aD (aa (r_v (i:=i) hi) aj) (jn h)) (r_c (d:=.int 1)) (qU _ _ _))
 refine t_k this ?_
 by_cases q:xs.length=1
 ·rw [q]; rfl
 ·rw [decide_eq_false q,beq_eq_false_iff_ne.mpr (by omega)]
theorem qI (h:HT P) (hh:Has P "rows_headed" jN) (hl:Has P "loosely_read" iS) {t:Wd} (ht:cU t):ai sub P (n+4) "loosely_read" [wS t] S=.ok (looseD t) S:=by
 have hz:=ht.2
 have s0:=qQ (T:=S) (w:=t) (y:="\n") (c:=10) (by decide) (by omega)
 have p0:S <+: S++[.lst ((aT 10 t).map wS)]:=List.prefix_append _ _
 have g0:(S++[.lst ((aT 10 t).map wS)])[S.length]?=some (.lst ((aT 10 t).map wS)):=aX _ _
 generalize S++[Cell.lst ((aT 10 t).map wS)]=S1 at s0 p0 g0
 obtain ⟨T1,R,e1,p1,m1,a1⟩:=pN (sub:=sub) (cf:=ai sub P (n+3)) (σ:=[some (wS t),none,none,none,none,none]) (S:=S1) (k:=2) (i:=7) (el:=.tm .split (.v 7) (.cs (.c (.str " ")) .nl)) (it:=.iSeq (.c (.loc S.length))) (tt:=.nl) (ks:=aT 10 t) (f:=wS) (p:=fun _=>true) (h:=aT 32) (o:=some S.length) (raw:=(aT 10 t).map wS)
  (bU r_c (ez g0)) (fun T hT=>fM (.inr ⟨_,rfl,cF hT g0⟩)) (fun w hw T hT=>rfl) (fun w hw _ T hT=>⟨_,_,eS (r_v rfl) (aa r_c aj) (qQ (y:=" ") (c:=32) (by decide) (by have:=mO hw; have:=(g_ 10 t).1; omega)),List.prefix_append _ _,hT.length_le,aX _ _⟩) (by have:=(g_ 10 t).2; unfold aJ; omega)
 have e1:ev sub (ai sub P (n+3)) (.comp 2 (.tm .split (.v 7) (.cs (.c (.str " ")) .nl)) (.one 7) (.iSeq (.tm .split (.v 0) (.cs (.c (.str "\n")) .nl))) .nl) [some (wS t),none,none,none,none,none] S=.ok (.loc T1.length) (T1++[.lst (R.map fun q=>.loc q.2)]):=by
  rw [gv,bU r_c (ez g0)] at e1
  rw [gv,bU (eS (r_v rfl) (aa r_c aj) s0) (ez g0)]
  exact e1
 have mR:R.map (·.1)=rowsOf t:=by
  rw [m1,List.filter_eq_self.mpr fun _ _=>rfl]; rfl
 have hR:gK (T1++[.lst (R.map fun q=>.loc q.2)]) T1.length R:=⟨aX _ _,fun q hq=>(a1 q hq).1.pre (List.prefix_append _ _)⟩
 have pS1:S <+: T1++[.lst (R.map fun q=>.loc q.2)]:=p0.trans (p1.trans (List.prefix_append _ _))
 generalize T1++[Cell.lst (R.map fun q=>.loc q.2)]=U1 at e1 hR pS1
 have hne:∀ q∈R,q.1≠[]:=fun q hq=>(o7 ht (by rw [<- mR]; exact List.mem_map.mpr ⟨q,hq,rfl⟩)).2
 have hRz:R.length<=1000001:=by
  have:=congrArg List.length mR
  unfold rowsOf at this
  rw [List.length_map,List.length_map] at this
  have:=(g_ 10 t).2
  omega
 have es:∀ x:Str,wS x.cps.toList=.str x:=fun x=>by unfold wS; rw [dG]
 obtain ⟨U2,k2,Q2,f2,q2,r2,m2⟩:=lq (sub:=sub) (n:=n+2) hh hR hne hRz aH
 obtain ⟨U3,k3,Q3,f3,q3,r3,m3⟩:=lq (sub:=sub) (n:=n+2) hh (hR.pre q2) hne hRz aS
 rw [show wS aH=.str "streams" from es _] at f2
 rw [show wS aS=.str "outs" from es _] at f3
 rw [mR] at m2 m3
 have l2:=congrArg List.length m2
 have l3:=congrArg List.length m3
 rw [List.length_map] at l2 l3
 have t2:=uo (sub:=sub) (cf:=ai sub P (n+3)) (σ:=[some (wS t),some (.loc T1.length),some (.loc k2),some (.loc k3),none,none]) (i:=2) (r2.pre q3).at' rfl
 have t3:=uo (sub:=sub) (cf:=ai sub P (n+3)) (σ:=[some (wS t),some (.loc T1.length),some (.loc k2),some (.loc k3),none,none]) (i:=3) r3.at' rfl
 rw [List.length_map,l2] at t2
 rw [List.length_map,l3] at t3
 have pre:∀ {fl:Fl} {U:af},exec sub (ai sub P (n+3)) (.seq (.ite (.or (.cmp .ne (.bi .len (.cs (.v 2) .nl)) (.c (.int 1))) (.cmp .ne (.bi .len (.cs (.v 3) .nl)) (.c (.int 1))))
  (.ret (.c .non))
  .skip)
 (.seq (.set (.one 4) (.bi .tuple (.cs (.comp 2 (.call "numbers_of" (.cs (.v 7) .nl)) (.one 7) (.iSeq (.call "rows_headed" (.cs (.v 1) (.cs (.c (.str "crew")) .nl)))) .nl) .nl)))
 (.seq (.set (.one 5) (.bi .tuple (.cs (.comp 2 (.call "work_of" (.cs (.v 7) .nl)) (.one 7) (.iSeq (.call "rows_headed" (.cs (.v 1) (.cs (.c (.str "work")) .nl)))) .nl) .nl)))
 (.ret (.tup (.cs (.call "number_of" (.cs (.tm .join (.c (.str " ")) (.cs (.ix (.v 2) (.c (.int 0))) .nl)) .nl)) (.cs (.v 4) (.cs (.v 5) (.cs (.call "numbers_of" (.cs (.ix (.v 3) (.c (.int 0))) .nl)) .nl))))))))) [some (wS t),some (.loc T1.length),some (.loc k2),some (.loc k3),none,none] U3=.ok fl U->exec sub (ai sub P (n+3)) iS.body (frame iS [wS t]) S=.ok fl U:=fun e =>
  ak (aI e1) (ak (aI (au (aa (r_v rfl) (aa r_c aj)) f2)) (ak (aI (au (aa (r_v rfl) (aa r_c aj)) f3)) e))
 have pS3:S <+: U3:=pS1.trans (q2.trans q3)
 have cl:=nU t
 unfold looseD at cl ⊢
 split at cl
 ·rename_i s o hs ho
  rw [hs] at m2 t2
  rw [ho] at m3 t3
  have t2:evT sub (ai sub P (n+3)) _ _ U3=.ok false U3:=t2
  have t3:evT sub (ai sub P (n+3)) _ _ U3=.ok false U3:=t3
  obtain ⟨U4,k4,Q4,f4,q4,r4,m4⟩:=lq (sub:=sub) (n:=n+2) hh (hR.pre (q2.trans q3)) hne hRz aF
  rw [show wS aF=.str "crew" from es _] at f4
  rw [mR] at m4
  have hc4:ev sub (ai sub P (n+3)) (.comp 2 (.call "numbers_of" (.cs (.v 7) .nl)) (.one 7) (.iSeq (.call "rows_headed" (.cs (.v 1) (.cs (.c (.str "crew")) .nl)))) .nl) [some (wS t),some (.loc T1.length),some (.loc k2),some (.loc k3),none,none] U3=.ok (.loc U4.length) (U4++[.lst (Q4.map fun q=>.tup (q.1.map aA))]) :=
   dh (ks:=Q4) (f:=fun q=>.loc q.2) (g:=fun q=>.tup (q.1.map aA)) (bU (au (aa (r_v rfl) (aa r_c aj)) f4) (ez r4.at')) (fM (.inr ⟨k4,rfl,r4.at'⟩)) (fun q hq=>by
    have hy:=jP ht (h:=aF) (r:=q.1) (by rw [<- m4]; exact List.mem_map.mpr ⟨q,hq,rfl⟩)
    exact au (aa (r_v rfl) aj) (lI (n:=n+1) h.number h.numbers hy.good (by have:=hy.len; omega) (r4.rows q hq))) (by
    have:=congrArg List.length m4
    rw [List.length_map] at this
    have h5:(aP (rowsOf t) aF).length<=(rowsOf t).length:=by unfold aP; rw [List.length_map]; exact List.length_filter_le _ _
    have:=congrArg List.length mR
    rw [List.length_map] at this
    unfold aJ; omega)
  have e4:=aD (aa hc4 aj) (gR (sub:=sub) (T:=U4))
  have p4:U4 <+: U4++[.lst (Q4.map fun q=>.tup (q.1.map aA))]:=List.prefix_append _ _
  generalize U4++[Cell.lst (Q4.map fun q=>.tup (q.1.map aA))]=V4 at e4 p4
  have pV4:=(hR.pre (q2.trans q3)).pre (q4.trans p4)
  obtain ⟨U5,k5,Q5,f5,q5,r5,m5⟩:=lq (sub:=sub) (n:=n+2) hh pV4 hne hRz aC
  rw [show wS aC=.str "work" from es _] at f5
  rw [mR] at m5
  have hc5:ev sub (ai sub P (n+3)) (.comp 2 (.call "work_of" (.cs (.v 7) .nl)) (.one 7) (.iSeq (.call "rows_headed" (.cs (.v 1) (.cs (.c (.str "work")) .nl)))) .nl) [some (wS t),some (.loc T1.length),some (.loc k2),some (.loc k3),some (.tup (Q4.map fun q=>.tup (q.1.map aA))),none] V4=.ok (.loc U5.length) (U5++[.lst (Q5.map fun q=>cD q.1)]) :=
   dh (ks:=Q5) (f:=fun q=>.loc q.2) (g:=fun q=>cD q.1) (bU (au (aa (r_v rfl) (aa r_c aj)) f5) (ez r5.at')) (fM (.inr ⟨k5,rfl,r5.at'⟩)) (fun q hq=>by
    have hy:=jP ht (h:=aC) (r:=q.1) (by rw [<- m5]; exact List.mem_map.mpr ⟨q,hq,rfl⟩)
    exact au (aa (r_v rfl) aj) (Gs (n:=n) h hy.good (by have:=hy.len; omega) (r5.rows q hq))) (by
    have:=congrArg List.length m5
    rw [List.length_map] at this
    have h5:(aP (rowsOf t) aC).length<=(rowsOf t).length:=by unfold aP; rw [List.length_map]; exact List.length_filter_le _ _
    have:=congrArg List.length mR
    rw [List.length_map] at this
    unfold aJ; omega)
  have e5:=aD (aa hc5 aj) (gR (sub:=sub) (T:=U5))
  have p5:U5 <+: U5++[.lst (Q5.map fun q=>cD q.1)]:=List.prefix_append _ _
  generalize U5++[Cell.lst (Q5.map fun q=>cD q.1)]=V5 at e5 p5
  have pE:U3 <+: V5:=q4.trans (p4.trans (q5.trans p5))
  obtain ⟨s2,rfl⟩:∃ a,Q2=[a]:=by
   match Q2,m2 with
   | [a],_=>exact ⟨a,rfl⟩
   | [],z=>cases z
   | _::_::_,z=>cases z
  obtain ⟨o2,rfl⟩:∃ a,Q3=[a]:=by
   match Q3,m3 with
   | [a],_=>exact ⟨a,rfl⟩
   | [],z=>cases z
   | _::_::_,z=>cases z
  have es2:s2.1=s:=by cases m2; rfl
  have eo2:o2.1=o:=by cases m3; rfl
  have hys:=jP ht (h:=aH) (r:=s) (by rw [hs]; exact List.mem_cons_self)
  have hyo:=jP ht (h:=aS) (r:=o) (by rw [ho]; exact List.mem_cons_self)
  have as2:AtR V5 (s,s2.2):=by rw [<- es2]; exact ((r2.pre q3).pre pE).rows s2 List.mem_cons_self
  have ao2:AtR V5 (o,o2.2):=by rw [<- eo2]; exact (r3.pre pE).rows o2 List.mem_cons_self
  have j2:=oj (T:=V5) (y:=" ") (c:=32) (by rw [<- dG (" " : Str)]; rfl) as2 hys
  have gj:Good (glue 32 s):=⟨j_ (by decide) fun w hw=>(hys.good w hw).1,by
   have:=kO 32 s
   have:=hys.len
   have:=hys.sum
   omega⟩
  have x2:ixD (.loc k2) (.int 0) V5=.ok (.loc s2.2) V5:=gJ ((r2.pre q3).pre pE).at' rfl
  have x3:ixD (.loc k3) (.int 0) V5=.ok (.loc o2.2) V5:=gJ (r3.pre pE).at' rfl
  rw [<- m4,<- m5,List.map_map,List.map_map] at cl ⊢
  exact x_call (ds:=[wS t]) hl rfl (pre (ak (aL (cj t2 t3) aM) (ak (aI e4) (ak (aI e5) (aB (eY (aa (au (aa (eS r_c (aa (aG (r_v rfl) r_c x2) aj) j2) aj) (f6 h.number gj)) (aa (r_v rfl) (aa (r_v rfl) (aa (au (aa (aG (r_v rfl) r_c x3) aj) (lI (n:=n+1) h.number h.numbers hyo.good (by have:=hyo.len; omega) ao2)) aj)))) rfl)))))) (bf cl (ee (pS3.trans pE)))
 ·rename_i hno
  have tt:evT sub (ai sub P (n+3)) (.or (.cmp .ne (.bi .len (.cs (.v 2) .nl)) (.c (.int 1))) (.cmp .ne (.bi .len (.cs (.v 3) .nl)) (.c (.int 1)))) [some (wS t),some (.loc T1.length),some (.loc k2),some (.loc k3),none,none] U3=.ok true U3:=by
   by_cases z2:(aP (rowsOf t) aH).length=1
   ·by_cases z3:(aP (rowsOf t) aS).length=1
    ·obtain ⟨a,ea⟩:∃ a,aP (rowsOf t) aH=[a]:=by
      match aP (rowsOf t) aH,z2 with
      | [a],_=>exact ⟨a,rfl⟩
     obtain ⟨b,eb⟩:∃ a,aP (rowsOf t) aS=[a]:=by
      match aP (rowsOf t) aS,z3 with
      | [a],_=>exact ⟨a,rfl⟩
     exact absurd eb (hno a b ea)
    ·rw [decide_eq_true z2] at t2
     rw [decide_eq_false z3] at t3
     exact cj t2 t3
   ·rw [decide_eq_false z2] at t2
    exact jF t2
  exact x_call (ds:=[wS t]) hl rfl (pre (bG (bR tt (aB r_c)))) (bf rfl (ee pS3))
end
end RL

namespace RL
open PySem EV GO
section
variable {sub:Sub} {P:Prg} {n:Nat} {S T:af} {l:Lp} {cf:Str->List D->M D} {σ:Sg}
theorem ia {u v:Wd} (hz:u.length+v.length<=1000000):opD .add (wS u) (wS v) T=.ok (wS (u++v)) T:=by
 show guard (fits ((tx u).length+(tx v).length)) (pure (.str (tx u++tx v)):M D) T=_
 rw [dj,dj,show fits (u.length+v.length)=true from decide_eq_true (by unfold aJ; omega)]
 show Res.ok (D.str (tx u++tx v)) T=.ok (.str (tx (u++v))) T
 congr 2
 refine iY ?_
 show ((tx u).cps++(tx v).cps).toList=_
 rw [Array.toList_append,bK,bK,bK]
theorem dg (x:Str):(D.str x)=wS x.cps.toList:=by unfold wS; rw [dG]
noncomputable def Wr (d:D) (w:Wd):Prop:=lD d=pure (wS w)
theorem nh (w:Wd):Wr (wS w) w:=rfl
theorem lg {i:Int} (h:0<=i/\i < 10000):Wr (.int i) (ah i.toNat):=by
 show guard (small i) (pure (D.str (Str.ofString (toString i))))=_
 rw [show small i=true from decide_eq_true ⟨by omega,by omega⟩]
 show (pure (.str (Str.ofString (toString i))):M D)=pure (.str (tx (ah i.toNat)))
 rw [<- CH,Int.toNat_of_nonneg h.1]
theorem cL {k:Nat} (h:k < 10000):Wr (.int (k:Int)) (ah k):=lg (i:=(k:Int)) ⟨by omega,by omega⟩
theorem ic {d:D} {w:Wd} (h:Wr d w):biD sub .str1 [d] T=.ok (wS w) T:=by
 show lD d T=_
 rw [h]; rfl
noncomputable def nI:Fn:=⟨2,2,(.ret (.bin .add (.tm .join (.c (.str " ")) (.cs (.bin .add (.lst (.cs (.v 0) .nl)) (.comp 2 (.bi .str1 (.cs (.v 3) .nl)) (.one 3) (.iSeq (.v 1)) .nl)) .nl)) (.c (.str "\n"))))⟩
theorem kT {a b:Nat} {xs ys:List D} (ha:T[a]?=some (.lst xs)) (hb:T[b]?=some (.lst ys)) (hz:xs.length+ys.length<=1000000):opD .add (.loc a) (.loc b) T=.ok (.loc T.length) (T++[.lst (xs++ys)]):=by
 show bI a (fun xs=>bI b fun ys=>guard (fits (xs.length+ys.length)) (alloc (.lst (xs++ys)))) T=_
 unfold bI
 rw [ha]
 show (match T[b]? with|some (.lst ds)=>_|_=>Res.bad)=_
 rw [hb]
 show guard (fits (xs.length+ys.length)) (alloc (.lst (xs++ys))) T=_
 rw [show fits (xs.length+ys.length)=true from decide_eq_true (by unfold aJ; omega)]; rfl
structure Few (r:List Wd):Prop where
 asc:∀ w∈r,Asc w
 short:∀ w∈r,w.length<=100
 few:r.length<=100
theorem Few.sum {r:List Wd} (h:Few r):(r.map List.length).sum<=100 * r.length:=by
 have:∀ r:List Wd,(∀ w∈r,w.length<=100)->(r.map List.length).sum<=100 * r.length:=fun r=>by
  induction r with
  | nil=>intro _; simp
  | cons a q ih =>
   intro h
   have h1:=h a List.mem_cons_self
   have h2:=ih fun w hw=>h w (List.mem_cons_of_mem _ hw)
   rw [List.map_cons,List.sum_cons,List.length_cons]
   omega
 exact this r h.short
theorem Few.qi {r:List Wd} (h:Few r):gC r:=⟨fun w hw=>⟨h.asc w hw,by have:=h.short w hw; omega⟩,by have:=h.few; omega,by have:=h.sum; have:=h.few; omega⟩
theorem Few.len {r:List Wd} (h:Few r):(glue 32 r).length<=20000:=by
 have:=kO 32 r
 have:=h.sum
 have:=h.few
 omega
theorem jX (h:Has P "row_of" nI) {hd:Wd} {ks:List (D × Wd)} {v:D} {o:Option Nat} {raw:List D} (hv:∀ T,S <+: T->srcOf v T=.ok ⟨ks.map (·.1),o,raw⟩ T) (hs:∀ T,S <+: T->aN ⟨ks.map (·.1),o,raw⟩ T=.ok () T) (hk:∀ q∈ks,Wr q.1 q.2) (hf:Few (hd::ks.map (·.2))) :
  ai sub P (n+1) "row_of" [wS hd,v] S=.ok (wS (glue 32 (hd::ks.map (·.2))++[10])) S:=by
 have hz:=hf.few
 rw [List.length_cons,List.length_map] at hz
 have p1:S <+: S++[.lst [wS hd]]:=List.prefix_append _ _
 have g1:(S++[Cell.lst [wS hd]])[S.length]?=some (.lst [wS hd]):=aX _ _
 have e1:=cy (sub:=sub) (cf:=ai sub P n) (σ:=[some (wS hd),some v]) (S:=S) (aa (r_v (i:=0) rfl) aj) rfl
 have e1:ev sub (ai sub P n) (.lst (.cs (.v 0) .nl)) [some (wS hd),some v] S=.ok (.loc S.length) (S++[.lst [wS hd]]):=e1
 generalize S++[Cell.lst [wS hd]]=S1 at p1 g1 e1
 have e2:ev sub (ai sub P n) (.comp 2 (.bi .str1 (.cs (.v 3) .nl)) (.one 3) (.iSeq (.v 1)) .nl) [some (wS hd),some v] S1=.ok (.loc S1.length) (S1++[.lst (ks.map fun q=>wS q.2)]) :=
  dh (ks:=ks) (f:=fun q=>q.1) (g:=fun q=>wS q.2) (bU (r_v rfl) (hv S1 p1)) (hs S1 p1) (fun q hq=>aD (aa (r_v rfl) aj) (ic (hk q hq))) (by unfold aJ; omega)
 have p2:S1 <+: S1++[.lst (ks.map fun q=>wS q.2)]:=List.prefix_append _ _
 have c3:=kT (cF p2 g1) (aX S1 (.lst (ks.map fun q=>wS q.2))) (by rw [List.length_map,List.length_singleton]; omega)
 have p3:S1++[.lst (ks.map fun q=>wS q.2)] <+: S1++[.lst (ks.map fun q=>wS q.2)]++[.lst ([wS hd]++ks.map fun q=>wS q.2)]:=List.prefix_append _ _
 have aR:AtR (S1++[.lst (ks.map fun q=>wS q.2)]++[.lst ([wS hd]++ks.map fun q=>wS q.2)]) (hd::ks.map (·.2),(S1++[Cell.lst (ks.map fun q=>wS q.2)]).length):=by
  show _[_]?=some (Cell.lst ((hd::ks.map (·.2)).map wS))
  rw [aX,List.map_cons,List.map_map]; rfl
 have j:=oj (y:=" ") (c:=32) (by rw [<- dG (" " : Str)]; rfl) aR hf.qi
 have hl:=hf.len
 refine x_call (ds:=[wS hd,v]) h rfl (aB (aY (eS r_c (aa (aY e1 e2 c3) aj) j) r_c ?_)) (bf rfl (ee (p1.trans (p2.trans p3))))
 rw [dg "\n"]
 exact ia (v:=[10]) (by show _+1<=_; omega)
theorem cG {k:Nat} (h:k < 10000):Asc (ah k)/\(ah k).length<=100:=⟨fun c hc=>by have:=gD hc; omega,by have:=cW h; omega⟩
noncomputable def gE:Fn:=⟨1,1,(.seq (.ite (.cmp .eq (.ix (.v 0) (.c (.int 0))) (.c (.str "value")))
  (.ret (.bi .str1 (.cs (.ix (.v 0) (.c (.int 1))) .nl)))
  .skip)
 (.seq (.ite (.cmp .eq (.ix (.v 0) (.c (.int 0))) (.c (.str "input")))
  (.ret (.bin .add (.c (.str "i")) (.bi .str1 (.cs (.ix (.v 0) (.c (.int 1))) .nl))))
  .skip)
 (.ret (.bin .add (.bin .add (.bin .add (.c (.str "w")) (.bi .str1 (.cs (.ix (.v 0) (.c (.int 1))) .nl))) (.c (.str "-"))) (.bi .str1 (.cs (.ix (.v 0) (.c (.int 2))) .nl))))))⟩
noncomputable def kN:Srs->Prop
 | .val v=>0<=v/\v < 10000
 | .inp k=>k < 10000
 | .wrk w b=>w < 10000/\b < 10000
theorem lV {s:Srs} (h:kN s):Asc (aO s)/\(aO s).length<=100:=by
 cases s with
 | val v =>
  have h:0<=v/\v < 10000:=h
  exact cG (k:=v.toNat) (by omega)
 | inp k =>
  have:=cG (k:=k) h
  have hl:=cW (n:=k) h
  refine ⟨fun c hc=>?_,by show (105::ah k).length<=100; rw [List.length_cons]; omega⟩
  rcases List.mem_cons.mp hc with rfl|hc
  ·decide
  ·exact this.1 c hc
 | wrk w b =>
  have h:w < 10000/\b < 10000:=h
  have h1:=cG (k:=w) h.1
  have h2:=cG (k:=b) h.2
  have l1:=cW h.1
  have l2:=cW h.2
  refine ⟨fun c hc=>?_,by show (119::(ah w++45::ah b)).length<=100; rw [List.length_cons,List.length_append,List.length_cons]; omega⟩
  rcases List.mem_cons.mp hc with rfl|hc
  ·decide
  ·rcases List.mem_append.mp hc with hc|hc
   ·exact h1.1 c hc
   ·rcases List.mem_cons.mp hc with rfl|hc
    ·decide
    ·exact h2.1 c hc
theorem uS {name:String} (h:Has P name gE) {s:Srs} (hs:kN s):ai sub P (n+1) name [s.toD] S=.ok (wS (aO s)) S:=by
 have pre:∀ {a b:Str} {ds:List D} {i:Nat},evT sub (ai sub P n) (.cmp .eq (.ix (.v 0) (.c (.int 0))) (.c (.str b))) [some (.tup (.str a::ds))] S=.ok (a==b) S:=fun {a b ds i}=>bA (bx (aG (r_v rfl) r_c (aQ (d:=.str a) (by unfold atI ixN; simp))) r_c (iJ _ _ _))
 cases s with
 | val v =>
  have hs:0<=v/\v < 10000:=hs
  exact x_call (ds:=[Srs.toD (.val v)]) h rfl (bG (bR (t_k (pre (i:=0)) (by decide)) (aB (aD (aa (aG (r_v rfl) r_c (aQ rfl)) aj) (ic (lg hs)))))) (bf rfl List.take_length)
 | inp k =>
  have hs:k < 10000:=hs
  have hl:=cW hs
  refine x_call (ds:=[Srs.toD (.inp k)]) h rfl (ak (aL (t_k (pre (i:=0)) (by decide)) aM) (bG (bR (t_k (pre (i:=0)) (by decide)) (aB (aY r_c (aD (aa (aG (r_v rfl) r_c (aQ rfl)) aj) (ic (cL hs))) ?_))))) (bf rfl List.take_length)
  rw [dg "i"]
  exact ia (u:=[105]) (by show 1+_<=_; omega)
 | wrk w b =>
  have hs:w < 10000/\b < 10000:=hs
  have l1:=cW hs.1
  have l2:=cW hs.2
  have a1:opD .add (.str "w") (wS (ah w)) S=.ok (wS (119::ah w)) S:=by rw [dg "w"]; exact ia (u:=[119]) (by show 1+_<=_; omega)
  have a2:opD .add (wS (119::ah w)) (.str "-") S=.ok (wS (119::ah w++[45])) S:=by rw [dg "-"]; exact ia (v:=[45]) (by show (ah w).length+1+1<=_; omega)
  have a3:opD .add (wS (119::ah w++[45])) (wS (ah b)) S=.ok (wS (119::ah w++[45]++ah b)) S:=ia (by rw [List.length_append,List.length_cons,List.length_singleton]; omega)
  have e:(119::ah w++[45]++ah b)=aO (.wrk w b):=by
   show _=119::(ah w++45::ah b)
   simp
  rw [e] at a3
  exact x_call (ds:=[Srs.toD (.wrk w b)]) h rfl (ak (aL (t_k (pre (i:=0)) (by decide)) aM) (ak (aL (t_k (pre (i:=0)) (by decide)) aM) (aB (aY (aY (aY r_c (aD (aa (aG (r_v rfl) r_c (aQ rfl)) aj) (ic (cL hs.1))) a1) r_c a2) (aD (aa (aG (r_v rfl) r_c (aQ rfl)) aj) (ic (cL hs.2))) a3)))) (bf rfl List.take_length)
end
end RL

namespace RL
open PySem EV GO
section
variable {sub:Sub} {P:Prg} {n:Nat} {S T:af} {l:Lp} {cf:Str->List D->M D} {σ:Sg}
noncomputable def sU:Fn:=⟨1,2,(.seq (.set (.one 1) (.comp 2 (.call "source_text" (.cs (.v 3) .nl)) (.one 3) (.iSeq (.ix (.v 0) (.c (.int 3)))) .nl))
 (.ret (.call "row_of" (.cs (.c (.str "work")) (.cs (.bin .add (.bin .add (.bin .add (.bi .list (.cs (.sl (.v 0) .nl (.c (.int 3))) .nl)) (.v 1)) (.lst (.cs (.c (.str "/")) .nl))) (.bi .list (.cs (.ix (.v 0) (.c (.int 4))) .nl))) .nl)))))⟩
structure WkW (w:Wk):Prop where
 crew:w.crew < 10000
 long:w.long < 10000
 doing:w.doing∈bY
 srcs:∀ s∈w.srcs,kN s
 few:w.srcs.length<=10
 starts:∀ v∈w.starts,0<=v/\v < 10000
 three:w.starts.length=3
theorem oB {w:Wk} {own many streams ncrews:Nat} (h:w.WF own many streams ncrews) (hs:streams<=6) (ho:own<=8) (hm:many<=8) (hc:ncrews<=3):WkW w where
 crew:=by have:=h.crew; omega
 long:=by have:=h.long; omega
 doing:=h.doing
 srcs:=fun s hs'=>by
  have:=h.srcs s hs'
  cases s with
  | val v=>exact ⟨this.1,by have:=this.2; omega⟩
  | inp k=>have:k < streams:=this; show k < 10000; omega
  | wrk a b =>
   have:b<=3/\a < (if b=0 then own else many):=this
   have h2:=this.2
   refine ⟨?_,by omega⟩
   split at h2 <;> omega
 few:=by have:=h.some; omega
 starts:=fun v hv=>by have:=h.starts v hv; omega
 three:=h.three
theorem uK:∀ x∈bY,(∀ c∈x.cps.toList,c < 128)/\x.cps.toList.length<=100:=by
 unfold bY
 decide
noncomputable def ksW (w:Wk):List (D × Wd):=(D.int (w.crew:Int),ah w.crew)::(D.int (w.long:Int),ah w.long)::(D.str w.doing,w.doing.cps.toList)::(w.srcs.map (fun s=>(wS (aO s),aO s))++(D.str "/",[47])::w.starts.map fun v=>(D.int v,ah v.toNat))
theorem pV (w:Wk):(ksW w).map (·.2)=aE w:=by
 unfold ksW aE
 simp [List.map_append,List.map_map,Function.comp_def]
theorem F7 (w:Wk):(ksW w).map (·.1)=[D.int (w.crew:Int),D.int (w.long:Int),D.str w.doing]++w.srcs.map (fun s=>wS (aO s))++[D.str "/"]++w.starts.map .int:=by
 unfold ksW
 simp [List.map_append,List.map_map,Function.comp_def]
theorem kr {w:Wk} (h:WkW w):Few (aC::aE w):=by
 have hm:∀ x∈aC::aE w,Asc x/\x.length<=100:=by
  intro x hx
  rcases List.mem_cons.mp hx with rfl|hx
  ·unfold Asc aC; decide
  ·unfold aE at hx
   rcases List.mem_cons.mp hx with rfl|hx
   ·exact cG h.crew
   ·rcases List.mem_cons.mp hx with rfl|hx
    ·exact cG h.long
    ·rcases List.mem_cons.mp hx with rfl|hx
     ·exact uK _ h.doing
     ·rcases List.mem_append.mp hx with hx|hx
      ·obtain ⟨s,hs,rfl⟩:=List.mem_map.mp hx
       exact lV (h.srcs s hs)
      ·rcases List.mem_cons.mp hx with rfl|hx
       ·unfold Asc; decide
       ·obtain ⟨v,hv,rfl⟩:=List.mem_map.mp hx
        have:=h.starts v hv
        exact cG (by omega)
 refine ⟨fun x hx=>(hm x hx).1,fun x hx=>(hm x hx).2,?_⟩
 have h3:=h.three
 have hf:=h.few
 unfold aE
 simp only [List.length_cons,List.length_append,List.length_map]
 omega
theorem Fp {w:Wk} (h:WkW w):∀ q∈ksW w,Wr q.1 q.2:=by
 intro q hq
 unfold ksW at hq
 rcases List.mem_cons.mp hq with rfl|hq
 ·exact cL h.crew
 ·rcases List.mem_cons.mp hq with rfl|hq
  ·exact cL h.long
  ·rcases List.mem_cons.mp hq with rfl|hq
   ·show Wr (.str w.doing) _
    rw [dg]; exact nh _
   ·rcases List.mem_append.mp hq with hq|hq
    ·obtain ⟨s,_,rfl⟩:=List.mem_map.mp hq
     exact nh _
    ·rcases List.mem_cons.mp hq with rfl|hq
     ·show Wr (.str "/") [47]
      rw [dg]; exact nh _
     ·obtain ⟨v,hv,rfl⟩:=List.mem_map.mp hq
      exact lg (h.starts v hv)
structure HW2 (P:Prg):Prop where
 row:Has P "row_of" nI
 src:Has P "source_text" gE
 work:Has P "work_row" sU
theorem As (h:HW2 P) {w:Wk} (hw:WkW w):ai sub P (n+2) "work_row" [w.toD] S=.ok (wS (glue 32 (aC::aE w)++[10])) S:=by
 have hf:=hw.few
 have h3:=hw.three
 have e1:ev sub (ai sub P (n+1)) (.comp 2 (.call "source_text" (.cs (.v 3) .nl)) (.one 3) (.iSeq (.ix (.v 0) (.c (.int 3)))) .nl) [some w.toD,none] S=.ok (.loc S.length) (S++[.lst (w.srcs.map fun s=>wS (aO s))]) :=
  dh (ks:=w.srcs) (f:=Srs.toD) (g:=fun s=>wS (aO s)) (o:=none) (raw:=w.srcs.map Srs.toD) (bU (aG (r_v rfl) r_c (aQ rfl)) rfl) rfl (fun s hs=>au (aa (r_v rfl) aj) (uS h.src (hw.srcs s hs))) (by unfold aJ; omega)
 have p1:S <+: S++[.lst (w.srcs.map fun s=>wS (aO s))]:=List.prefix_append _ _
 have g1:=aX S (Cell.lst (w.srcs.map fun s=>wS (aO s)))
 generalize S++[Cell.lst (w.srcs.map fun s=>wS (aO s))]=S1 at e1 p1 g1
 have b2:biD sub .list [.tup [.int (w.crew:Int),.int (w.long:Int),.str w.doing]] S1=.ok (.loc S1.length) (S1++[.lst [.int (w.crew:Int),.int (w.long:Int),.str w.doing]]):=rfl
 have p2:S1 <+: S1++[.lst [.int (w.crew:Int),.int (w.long:Int),.str w.doing]]:=List.prefix_append _ _
 have g2:=aX S1 (Cell.lst [.int (w.crew:Int),.int (w.long:Int),.str w.doing])
 generalize S1++[Cell.lst [.int (w.crew:Int),.int (w.long:Int),.str w.doing]]=S2 at b2 p2 g2
 have c3:=kT g2 (cF p2 g1) (by rw [List.length_map]; simp only [List.length_cons,List.length_nil]; omega)
 have p3:S2 <+: S2++[.lst ([.int (w.crew:Int),.int (w.long:Int),.str w.doing]++w.srcs.map fun s=>wS (aO s))]:=List.prefix_append _ _
 have g3:=aX S2 (Cell.lst ([.int (w.crew:Int),.int (w.long:Int),.str w.doing]++w.srcs.map fun s=>wS (aO s)))
 generalize S2++[Cell.lst ([.int (w.crew:Int),.int (w.long:Int),.str w.doing]++w.srcs.map fun s=>wS (aO s))]=S3 at c3 p3 g3
 have p4:S3 <+: S3++[.lst [.str "/"]]:=List.prefix_append _ _
 have g4:=aX S3 (Cell.lst [D.str "/"])
 have e4:ev sub (ai sub P (n+1)) (.lst (.cs (.c (.str "/")) .nl)) [some w.toD,some (.loc S.length)] S3=.ok (.loc S3.length) (S3++[.lst [.str "/"]]):=cy (aa r_c aj) rfl
 generalize S3++[Cell.lst [D.str "/"]]=S4 at e4 p4 g4
 have c5:=kT (cF p4 g3) g4 (by rw [List.length_append,List.length_map]; simp only [List.length_cons,List.length_nil]; omega)
 have p5:S4 <+: S4++[.lst ([.int (w.crew:Int),.int (w.long:Int),.str w.doing]++w.srcs.map (fun s=>wS (aO s))++[.str "/"])]:=List.prefix_append _ _
 have g5:=aX S4 (Cell.lst ([.int (w.crew:Int),.int (w.long:Int),.str w.doing]++w.srcs.map (fun s=>wS (aO s))++[.str "/"]))
 generalize S4++[Cell.lst ([.int (w.crew:Int),.int (w.long:Int),.str w.doing]++w.srcs.map (fun s=>wS (aO s))++[.str "/"])]=S5 at c5 p5 g5
 have b6:biD sub .list [.tup (w.starts.map .int)] S5=.ok (.loc S5.length) (S5++[.lst (w.starts.map .int)]):=rfl
 have p6:S5 <+: S5++[.lst (w.starts.map .int)]:=List.prefix_append _ _
 have g6:=aX S5 (Cell.lst (w.starts.map D.int))
 generalize S5++[Cell.lst (w.starts.map D.int)]=S6 at b6 p6 g6
 have c7:=kT (cF p6 g5) g6 (by rw [List.length_append,List.length_append,List.length_map,List.length_map]; simp only [List.length_cons,List.length_nil]; omega)
 have p7:S6 <+: S6++[.lst ([.int (w.crew:Int),.int (w.long:Int),.str w.doing]++w.srcs.map (fun s=>wS (aO s))++[.str "/"]++w.starts.map .int)]:=List.prefix_append _ _
 have g7:=aX S6 (Cell.lst ([.int (w.crew:Int),.int (w.long:Int),.str w.doing]++w.srcs.map (fun s=>wS (aO s))++[.str "/"]++w.starts.map D.int))
 rw [<- F7] at c7 p7 g7
 generalize S6++[Cell.lst ((ksW w).map (·.1))]=S7 at c7 p7 g7
 have e8:=jX (sub:=sub) (n:=n) (S:=S7) h.row (hd:=aC) (ks:=ksW w) (v:=.loc S6.length) (o:=some S6.length) (raw:=(ksW w).map (·.1)) (fun T hT=>ez (cF hT g7)) (fun T hT=>fM (.inr ⟨_,rfl,cF hT g7⟩)) (Fp hw) (by rw [pV]; exact kr hw)
 rw [pV,show wS aC=.str "work" from (dg "work").symm] at e8
 exact x_call (ds:=[w.toD]) h.work rfl (ak (aI e1) (aB (au (aa r_c (aa (aY (aY (aY (aD (aa (kc (r_v rfl) rfl rfl rfl) aj) b2) (r_v rfl) c3) e4 c5) (aD (aa (aG (r_v rfl) r_c (aQ rfl)) aj) b6) c7) aj)) e8))) (bf rfl (ee (p1.trans (p2.trans (p3.trans (p4.trans (p5.trans (p6.trans p7))))))))
end
end RL

namespace RL
open PySem EV GO
noncomputable def aq (r:List Wd):Wd:=glue 32 r++[10]
theorem uC:∀ rs:List (List Wd),glue 10 (rs.map (glue 32)++[[]])=(rs.map aq).flatten
 | []=>rfl
 | [r]=>by
  show glue 32 r++10::[]=(glue 32 r++[10])++[]
  simp
 | r::q::rs=>by
  have ih:=uC (q::rs)
  show glue 32 r++10::glue 10 ((q::rs).map (glue 32)++[[]])=(glue 32 r++[10])++((q::rs).map aq).flatten
  rw [ih]; simp
theorem j9 (l:Lp):textOf l=((b9 l).map aq).flatten:=uC _
section
variable {sub:Sub} {P:Prg} {n:Nat} {S T:af} {l:Lp} {cf:Str->List D->M D} {σ:Sg}
noncomputable def mL:Fn:=⟨1,2,(.seq (.set (.one 1) (.lst (.cs (.call "row_of" (.cs (.c (.str "streams")) (.cs (.lst (.cs (.ix (.v 0) (.c (.int 0))) .nl)) .nl))) .nl)))
 (.seq (.ex (.me .extend (.v 1) (.cs (.comp 2 (.call "row_of" (.cs (.c (.str "crew")) (.cs (.v 3) .nl))) (.one 3) (.iSeq (.ix (.v 0) (.c (.int 1)))) .nl) .nl)))
 (.seq (.ex (.me .extend (.v 1) (.cs (.comp 2 (.call "work_row" (.cs (.v 3) .nl)) (.one 3) (.iSeq (.ix (.v 0) (.c (.int 2)))) .nl) .nl)))
 (.seq (.ex (.me .append (.v 1) (.cs (.call "row_of" (.cs (.c (.str "outs")) (.cs (.ix (.v 0) (.c (.int 3))) .nl))) .nl)))
 (.ret (.tm .join (.c (.str "")) (.cs (.v 1) .nl)))))))⟩
theorem jS {c:Nat × Nat} (h:c.1 < 10000/\c.2 < 10000):Few [aF,ah c.1,ah c.2]:=by
 have hm:∀ x∈[aF,ah c.1,ah c.2],Asc x/\x.length<=100:=by
  intro x hx
  rcases List.mem_cons.mp hx with rfl|hx
  ·unfold Asc aF; decide
  ·rcases List.mem_cons.mp hx with rfl|hx
   ·exact cG h.1
   ·rw [List.mem_singleton.mp hx]; exact cG h.2
 exact ⟨fun x hx=>(hm x hx).1,fun x hx=>(hm x hx).2,by show 3<=100; decide⟩
theorem l5 {l:Lp} (hl:l.WF):(∀ k∈l.outs,k < 8)/\l.outs.length<=8:=by
 have h8:=hl.nworks.2
 have hr:∀ (xs:List Nat) (k:Nat),dz l.works.length k xs->(∀ x∈xs,x < l.works.length)/\(xs≠[]->xs.length+k<=l.works.length):=by
  intro xs
  induction xs with
  | nil=>intro k _; exact ⟨fun x hx=>(by cases hx),fun z=>absurd rfl z⟩
  | cons y r ih =>
   intro k h
   obtain ⟨h1,h2,h3⟩:=h
   obtain ⟨i1,i2⟩:=ih (y+1) h3
   refine ⟨fun x hx=>?_,fun _=>?_⟩
   ·rcases List.mem_cons.mp hx with rfl|hx
    ·exact h2
    ·exact i1 x hx
   ·by_cases z:r=[]
    ·subst z; rw [List.length_singleton]; omega
    ·have:=i2 z
     rw [List.length_cons]; omega
 obtain ⟨h1,h2⟩:=hr l.outs 0 hl.outs
 refine ⟨fun k hk=>by have:=h1 k hk; omega,?_⟩
 by_cases z:l.outs=[]
 ·rw [z]; decide
 ·have:=h2 z; omega
theorem nZ {l:Lp} (hl:l.WF):Few (aS::l.outs.map ah):=by
 obtain ⟨o1,o2⟩:=l5 hl
 have hm:∀ x∈aS::l.outs.map ah,Asc x/\x.length<=100:=by
  intro x hx
  rcases List.mem_cons.mp hx with rfl|hx
  ·unfold Asc aS; decide
  ·obtain ⟨k,hk,rfl⟩:=List.mem_map.mp hx
   exact cG (by have:=o1 k hk; omega)
 exact ⟨fun x hx=>(hm x hx).1,fun x hx=>(hm x hx).2,by rw [List.length_cons,List.length_map]; omega⟩
theorem ou {l:Lp} (hl:l.WF):Few [aH,ah l.streams]:=by
 have hs:=hl.streams
 have hm:∀ x∈[aH,ah l.streams],Asc x/\x.length<=100:=by
  intro x hx
  rcases List.mem_cons.mp hx with rfl|hx
  ·unfold Asc aH; decide
  ·rw [List.mem_singleton.mp hx]; exact cG (by omega)
 exact ⟨fun x hx=>(hm x hx).1,fun x hx=>(hm x hx).2,by show 2<=100; decide⟩
theorem nX {l:Lp} (hl:l.WF):∀ r∈b9 l,Few r:=by
 intro r hr
 unfold b9 at hr
 have h8:=hl.nworks.2
 rcases List.mem_cons.mp hr with rfl|hr
 ·exact ou hl
 ·rcases List.mem_append.mp hr with hr|hr
  ·obtain ⟨c,hc,rfl⟩:=List.mem_map.mp hr
   have:=hl.crews c hc
   exact jS ⟨by omega,by omega⟩
  ·rcases List.mem_append.mp hr with hr|hr
   ·obtain ⟨w,hw,rfl⟩:=List.mem_map.mp hr
    obtain ⟨i,hi⟩:=List.getElem?_of_mem hw
    have hi8:=(List.getElem?_eq_some_iff.mp hi).1
    exact kr (oB (hl.works i w hi) hl.streams (by omega) h8 hl.ncrews.2)
   ·rw [List.mem_singleton.mp hr]; exact nZ hl
theorem qy {l:Lp} (hl:l.WF):(b9 l).length<=13:=by
 have h8:=hl.nworks.2
 have h3:=hl.ncrews.2
 unfold b9
 simp only [List.length_cons,List.length_append,List.length_map,List.length_nil]
 omega
theorem lH {r:List Wd} (h:Few r):(aq r).length<=20001:=by
 have:=h.len
 unfold aq
 rw [List.length_append,List.length_singleton]; omega
theorem nO:∀ {rs:List (List Wd)},(∀ r∈rs,Few r)->((rs.map aq).map List.length).sum<=20001 * rs.length
 | [],_=>by simp
 | r::q,h=>by
  have h1:=lH (h r List.mem_cons_self)
  have h2:=nO (rs:=q) fun x hx=>h x (List.mem_cons_of_mem _ hx)
  rw [List.map_cons,List.map_cons,List.sum_cons,List.length_cons]; omega
theorem text_len {l:Lp} (hl:l.WF):(textOf l).length<=270000:=by
 have h1:=nO (nX hl)
 have h2:=qy hl
 rw [j9,List.length_flatten]; omega
theorem qv:∀ r:List Wd,dN "" (r.map tx)=tx r.flatten
 | []=>rfl
 | [p]=>by
  show tx p=tx (p++[])
  rw [List.append_nil]
 | p::q::r=>by
  have ih:=qv (q::r)
  show tx p++""++dN "" ((q::r).map tx)=tx (p++(q::r).flatten)
  rw [ih]
  refine iY ?_
  show ((tx p).cps++("" : Str).cps++(tx (q::r).flatten).cps).toList=_
  rw [Array.toList_append,Array.toList_append,bK,bK,bK]
  show p++[]++_=_
  rw [List.append_nil]
theorem Dr {k:Nat} {r:List Wd} (hk:AtR T (r,k)) (hs:(r.map List.length).sum<=16000000):tmD .join "" (.loc k) T=.ok (wS r.flatten) T:=by
 have hk:T[k]?=some (.lst (r.map wS)):=hk
 show (cu (.loc k)>>=fun ds=>opt (allStrs ds)>>=fun ys=>joinM "" ys) T=_
 have e0:cu (.loc k) T=.ok (r.map wS) T:=eO hk
 rw [av,e0,Res.ao,av,lA,gZ,Res.ao]
 show guard (decide (((r.map tx).map (fun y=>y.length)).sum+(r.map tx).length * ("" : Str).length<=16777216)) (pure (.str (dN "" (r.map tx))):M D) T=_
 have h1:((r.map tx).map fun y=>y.length)=r.map List.length:=by
  rw [List.map_map]
  exact List.map_congr_left fun w _=>dj w
 have h4:("" : Str).length=0:=rfl
 rw [h1,h4,Nat.mul_zero,decide_eq_true (by omega),qv]; rfl
theorem oq (h:HW2 P) (hw:Has P "written" mL) (hl:l.WF):ai sub P (n+3) "written" [l.toD] S=.ok (wS (textOf l)) S:=by
 have h8:=hl.nworks.2
 have h3:=hl.ncrews.2
 have hst:=hl.streams
 have p1:S <+: S++[.lst [.int (l.streams:Int)]]:=List.prefix_append _ _
 have g1:=aX S (Cell.lst [D.int (l.streams:Int)])
 have e1:ev sub (ai sub P (n+2)) (.lst (.cs (.ix (.v 0) (.c (.int 0))) .nl)) [some l.toD,none] S=.ok (.loc S.length) (S++[.lst [.int (l.streams:Int)]]):=cy (aa (aG (r_v rfl) r_c (aQ rfl)) aj) rfl
 generalize S++[Cell.lst [D.int (l.streams:Int)]]=S1 at e1 p1 g1
 have r1:=jX (sub:=sub) (n:=n+1) (S:=S1) h.row (hd:=aH) (ks:=[(.int (l.streams:Int),ah l.streams)]) (v:=.loc S.length) (o:=some S.length) (raw:=[.int (l.streams:Int)]) (fun T hT=>ez (cF hT g1)) (fun T hT=>fM (.inr ⟨_,rfl,cF hT g1⟩)) (fun q hq=>by rw [List.mem_singleton.mp hq]; exact cL (by omega)) (ou hl)
 rw [show wS aH=.str "streams" from (dg "streams").symm] at r1
 have r1:ai sub P (n+2) "row_of" [.str "streams",.loc S.length] S1=.ok (wS (aq [aH,ah l.streams])) S1:=r1
 have e2:ev sub (ai sub P (n+2)) (.lst (.cs (.call "row_of" (.cs (.c (.str "streams")) (.cs (.lst (.cs (.ix (.v 0) (.c (.int 0))) .nl)) .nl))) .nl)) [some l.toD,none] S=.ok (.loc S1.length) (S1++[.lst [wS (aq [aH,ah l.streams])]]):=cy (aa (au (aa r_c (aa e1 aj)) r1) aj) rfl
 have p2:S1 <+: S1++[.lst [wS (aq [aH,ah l.streams])]]:=List.prefix_append _ _
 have g2:=aX S1 (Cell.lst [wS (aq [aH,ah l.streams])])
 have k2:(S1++[Cell.lst [wS (aq [aH,ah l.streams])]]).take S.length=S:=ee (p1.trans p2)
 have hL:S.length<=S1.length:=p1.length_le
 generalize S1++[Cell.lst [wS (aq [aH,ah l.streams])]]=S2 at e2 g2 k2
 have crow:∀ T,∀ c∈l.crews,ai sub P (n+2) "row_of" [.str "crew",bE c] T=.ok (wS (aq [aF,ah c.1,ah c.2])) T:=fun T c hc=>by
  have hcc:=hl.crews c hc
  have:=jX (sub:=sub) (n:=n+1) (S:=T) h.row (hd:=aF) (ks:=[(.int (c.1:Int),ah c.1),(.int (c.2:Int),ah c.2)]) (v:=bE c) (o:=none) (raw:=[.int (c.1:Int),.int (c.2:Int)]) (fun T hT=>rfl) (fun T hT=>rfl) (fun q hq=>by
   rcases List.mem_cons.mp hq with rfl|hq
   ·exact cL (by omega)
   ·rw [List.mem_singleton.mp hq]; exact cL (by omega)) (jS ⟨by omega,by omega⟩)
  rw [show wS aF=.str "crew" from (dg "crew").symm] at this
  exact this
 have e3:ev sub (ai sub P (n+2)) (.comp 2 (.call "row_of" (.cs (.c (.str "crew")) (.cs (.v 3) .nl))) (.one 3) (.iSeq (.ix (.v 0) (.c (.int 1)))) .nl) [some l.toD,some (.loc S1.length)] S2=.ok (.loc S2.length) (S2++[.lst (l.crews.map fun c=>wS (aq [aF,ah c.1,ah c.2]))]) :=
  dh (ks:=l.crews) (f:=bE) (g:=fun c=>wS (aq [aF,ah c.1,ah c.2])) (o:=none) (raw:=l.crews.map bE) (bU (aG (r_v rfl) r_c (aQ rfl)) rfl) rfl (fun c hc=>au (aa r_c (aa (r_v rfl) aj)) (crow S2 c hc)) (by unfold aJ; omega)
 have g3:(S2++[Cell.lst (l.crews.map fun c=>wS (aq [aF,ah c.1,ah c.2]))])[S1.length]?=some (.lst [wS (aq [aH,ah l.streams])]):=cF (List.prefix_append _ _) g2
 have m3:=iT g3 (aX S2 _) (by rw [List.length_map]; simp only [List.length_cons,List.length_nil]; unfold aJ; omega)
 have x3:=gg (sub:=sub) (cf:=ai sub P (n+2)) (fT (sub:=sub) (cf:=ai sub P (n+2)) (σ:=[some l.toD,some (.loc S1.length)]) (r_v (i:=1) rfl) (aa e3 aj) m3 (iu g2))
 have k3:((S2++[Cell.lst (l.crews.map fun c=>wS (aq [aF,ah c.1,ah c.2]))]).set S1.length (.lst ([wS (aq [aH,ah l.streams])]++l.crews.map fun c=>wS (aq [aF,ah c.1,ah c.2])))).take S.length=S:=by
  rw [List.take_set_of_le hL,List.take_append_of_le_length (by rw [<- k2]; rw [List.length_take]; omega)]; exact k2
 have g4:((S2++[Cell.lst (l.crews.map fun c=>wS (aq [aF,ah c.1,ah c.2]))]).set S1.length (.lst ([wS (aq [aH,ah l.streams])]++l.crews.map fun c=>wS (aq [aF,ah c.1,ah c.2]))))[S1.length]?=some (.lst ([wS (aq [aH,ah l.streams])]++l.crews.map fun c=>wS (aq [aF,ah c.1,ah c.2]))):=List.getElem?_set_self (List.getElem?_eq_some_iff.mp g3).1
 generalize (S2++[Cell.lst (l.crews.map fun c=>wS (aq [aF,ah c.1,ah c.2]))]).set S1.length (.lst ([wS (aq [aH,ah l.streams])]++l.crews.map fun c=>wS (aq [aF,ah c.1,ah c.2])))=S4 at x3 k3 g4
 have e5:ev sub (ai sub P (n+2)) (.comp 2 (.call "work_row" (.cs (.v 3) .nl)) (.one 3) (.iSeq (.ix (.v 0) (.c (.int 2)))) .nl) [some l.toD,some (.loc S1.length)] S4=.ok (.loc S4.length) (S4++[.lst (l.works.map fun w=>wS (aq (aC::aE w)))]) :=
  dh (ks:=l.works) (f:=Wk.toD) (g:=fun w=>wS (aq (aC::aE w))) (o:=none) (raw:=l.works.map Wk.toD) (bU (aG (r_v rfl) r_c (aQ rfl)) rfl) rfl (fun w hw'=>by
   obtain ⟨i,hi⟩:=List.getElem?_of_mem hw'
   have hi8:=(List.getElem?_eq_some_iff.mp hi).1
   exact au (aa (r_v rfl) aj) (As h (oB (hl.works i w hi) hl.streams (by omega) h8 hl.ncrews.2))) (by unfold aJ; omega)
 have g5:=cF (List.prefix_append S4 [Cell.lst (l.works.map fun w=>wS (aq (aC::aE w)))]) g4
 have m5:=iT g5 (aX S4 _) (by simp only [List.length_append,List.length_map,List.length_cons,List.length_nil]; unfold aJ; omega)
 have x5:=gg (sub:=sub) (cf:=ai sub P (n+2)) (fT (sub:=sub) (cf:=ai sub P (n+2)) (σ:=[some l.toD,some (.loc S1.length)]) (r_v (i:=1) rfl) (aa e5 aj) m5 (iu g4))
 have hS4:S.length<=S4.length:=by
  have:=congrArg List.length k3
  rw [List.length_take] at this
  omega
 have k5:((S4++[Cell.lst (l.works.map fun w=>wS (aq (aC::aE w)))]).set S1.length (.lst ([wS (aq [aH,ah l.streams])]++(l.crews.map fun c=>wS (aq [aF,ah c.1,ah c.2]))++l.works.map fun w=>wS (aq (aC::aE w))))).take S.length=S:=by
  rw [List.take_set_of_le hL,List.take_append_of_le_length hS4]; exact k3
 have g6:((S4++[Cell.lst (l.works.map fun w=>wS (aq (aC::aE w)))]).set S1.length (.lst ([wS (aq [aH,ah l.streams])]++(l.crews.map fun c=>wS (aq [aF,ah c.1,ah c.2]))++l.works.map fun w=>wS (aq (aC::aE w)))))[S1.length]?=some (.lst ([wS (aq [aH,ah l.streams])]++(l.crews.map fun c=>wS (aq [aF,ah c.1,ah c.2]))++l.works.map fun w=>wS (aq (aC::aE w)))):=List.getElem?_set_self (List.getElem?_eq_some_iff.mp g5).1
 generalize (S4++[Cell.lst (l.works.map fun w=>wS (aq (aC::aE w)))]).set S1.length (.lst ([wS (aq [aH,ah l.streams])]++(l.crews.map fun c=>wS (aq [aF,ah c.1,ah c.2]))++l.works.map fun w=>wS (aq (aC::aE w))))=S6 at x5 k5 g6
 obtain ⟨o1,o2⟩:=l5 hl
 have r7:=jX (sub:=sub) (n:=n+1) (S:=S6) h.row (hd:=aS) (ks:=l.outs.map fun k=>(bw k,ah k)) (v:=.tup (l.outs.map bw)) (o:=none) (raw:=l.outs.map bw) (fun T hT=>by rw [List.map_map]; rfl) (fun T hT=>rfl) (fun q hq=>by
  obtain ⟨k,hk,rfl⟩:=List.mem_map.mp hq
  exact cL (by have:=o1 k hk; omega)) (by rw [List.map_map]; exact nZ hl)
 rw [show wS aS=.str "outs" from (dg "outs").symm,List.map_map] at r7
 have r7:ai sub P (n+2) "row_of" [.str "outs",.tup (l.outs.map bw)] S6=.ok (wS (aq (aS::l.outs.map ah))) S6:=r7
 have m7:=jR (d:=wS (aq (aS::l.outs.map ah))) g6 (by simp only [List.length_append,List.length_map,List.length_cons,List.length_nil]; unfold aJ; omega)
 have x7:=gg (sub:=sub) (cf:=ai sub P (n+2)) (fT (sub:=sub) (cf:=ai sub P (n+2)) (σ:=[some l.toD,some (.loc S1.length)]) (r_v (i:=1) rfl) (aa (au (aa (r_c (d:=.str "outs")) (aa (aG (r_v (i:=0) rfl) (r_c (d:=.int 3)) (aQ rfl)) aj)) r7) aj) m7 (iu g6))
 have k7:(S6.set S1.length (.lst ([wS (aq [aH,ah l.streams])]++(l.crews.map fun c=>wS (aq [aF,ah c.1,ah c.2]))++(l.works.map fun w=>wS (aq (aC::aE w)))++[wS (aq (aS::l.outs.map ah))]))).take S.length=S:=by
  rw [List.take_set_of_le hL]; exact k5
 have g7:(S6.set S1.length (.lst ([wS (aq [aH,ah l.streams])]++(l.crews.map fun c=>wS (aq [aF,ah c.1,ah c.2]))++(l.works.map fun w=>wS (aq (aC::aE w)))++[wS (aq (aS::l.outs.map ah))])))[S1.length]?=some (.lst ([wS (aq [aH,ah l.streams])]++(l.crews.map fun c=>wS (aq [aF,ah c.1,ah c.2]))++(l.works.map fun w=>wS (aq (aC::aE w)))++[wS (aq (aS::l.outs.map ah))])):=List.getElem?_set_self (List.getElem?_eq_some_iff.mp g6).1
 generalize S6.set S1.length (.lst ([wS (aq [aH,ah l.streams])]++(l.crews.map fun c=>wS (aq [aF,ah c.1,ah c.2]))++(l.works.map fun w=>wS (aq (aC::aE w)))++[wS (aq (aS::l.outs.map ah))]))=S8 at x7 k7 g7
 have aR:AtR S8 ((b9 l).map aq,S1.length):=by
  show S8[S1.length]?=some (.lst (((b9 l).map aq).map wS))
  rw [g7]
  unfold b9
  simp [List.map_append,List.map_map,Function.comp_def]
 have hs:=nO (nX hl)
 have hc:=qy hl
 have j:=Dr aR (by omega)
 rw [<- j9] at j
 exact x_call (ds:=[l.toD]) hw rfl (ak (aI e2) (ak x3 (ak x5 (ak x7 (aB (eS r_c (aa (r_v rfl) aj) j)))))) (bf rfl k7)
end
end RL

namespace RL
open PySem EV GO
noncomputable def jY:EV.S:=.set (.one 1) (.bin .add (.bin .add (.bin .add (.bin .add (.bin .add (.v 1) (.c (.str "crew "))) (.bi .str1 (.cs (.v 2) .nl))) (.c (.str " "))) (.bi .str1 (.cs (.v 3) .nl))) (.c (.str "\n")))
noncomputable def ku:EV.S:=.set (.one 1) (.bin .add (.bin .add (.v 1) (.c (.str " "))) (.call "_law_source_text" (.cs (.v 9) .nl)))
noncomputable def j8:EV.S:=.seq (.set (.one 1) (.bin .add (.bin .add (.bin .add (.bin .add (.bin .add (.bin .add (.v 1) (.c (.str "work "))) (.bi .str1 (.cs (.v 4) .nl))) (.c (.str " "))) (.bi .str1 (.cs (.v 5) .nl))) (.c (.str " "))) (.v 6)))
 (.seq (.forS (.one 9) (.iSeq (.v 7))
  ku)
 (.set (.one 1) (.bin .add (.bin .add (.bin .add (.v 1) (.c (.str " / "))) (.tm .join (.c (.str " ")) (.cs (.comp 2 (.bi .str1 (.cs (.v 11) .nl)) (.one 11) (.iSeq (.v 8)) .nl) .nl))) (.c (.str "\n")))))
noncomputable def uT:Fn:=⟨1,10,(.seq (.set (.one 1) (.bin .add (.bin .add (.c (.str "streams ")) (.bi .str1 (.cs (.ix (.v 0) (.c (.int 0))) .nl))) (.c (.str "\n"))))
 (.seq (.forS (.many [2,3]) (.iSeq (.ix (.v 0) (.c (.int 1))))
  jY)
 (.seq (.forS (.many [4,5,6,7,8]) (.iSeq (.ix (.v 0) (.c (.int 2))))
  j8)
 (.ret (.bin .add (.bin .add (.bin .add (.v 1) (.c (.str "outs "))) (.tm .join (.c (.str " ")) (.cs (.comp 2 (.bi .str1 (.cs (.v 11) .nl)) (.one 11) (.iSeq (.ix (.v 0) (.c (.int 3)))) .nl) .nl))) (.c (.str "\n")))))))⟩
section
variable {sub:Sub} {P:Prg} {n:Nat} {S T:af} {l:Lp} {cf:Str->List D->M D} {σ:Sg}
theorem a_ {a b:E} {u v:Wd} {S1 S2:af} (ha:ev sub cf a σ S=.ok (wS u) S1) (hb:ev sub cf b σ S1=.ok (wS v) S2) (hz:u.length+v.length<=1000000):ev sub cf (.bin .add a b) σ S=.ok (wS (u++v)) S2:=aY ha hb (ia hz)
theorem bV {x:Str}:ev sub cf (.c (.str x)) σ S=.ok (wS x.cps.toList) S:=by rw [<- dg]; exact r_c
theorem iB {a:E} {d:D} {w:Wd} {S1:af} (ha:ev sub cf a σ S=.ok d S1) (h:Wr d w):ev sub cf (.bi .str1 (.cs a .nl)) σ S=.ok (wS w) S1:=aD (aa ha aj) (ic h)
theorem zj (a b:Wd):aq [a,b]=a++32::b++[10]:=rfl
theorem we (a b c:Wd):aq [a,b,c]=a++32::(b++32::c)++[10]:=rfl
theorem Ef {acc:Wd} {c:Nat × Nat} {d0:D} {x2 x3:Option D} {r:Sg} (hc:c.1 < 10000/\c.2 < 10000) (hz:acc.length<=900000) :
  ck sub cf (.many [2,3]) jY (bE c) (some d0::some (wS acc)::x2::x3::r) T=.ok (.nx (some d0::some (wS (acc++aq [aF,ah c.1,ah c.2]))::some (.int (c.1:Int))::some (.int (c.2:Int))::r)) T:=by
 have l1:=cW hc.1
 have l2:=cW hc.2
 refine tG (ds:=[.int (c.1:Int),.int (c.2:Int)]) rfl ?_
 have e:=a_ (sub:=sub) (cf:=cf) (σ:=some d0::some (wS acc)::some (.int (c.1:Int))::some (.int (c.2:Int))::r) (S:=T) (a_ (a_ (a_ (a_ (r_v (i:=1) rfl) (bV (x:="crew ")) (by show _+5<=_; omega)) (iB (r_v (i:=2) rfl) (cL hc.1)) (by rw [List.length_append]; show _+5+_<=_; omega)) (bV (x:=" ")) (by rw [List.length_append,List.length_append]; show _+5+_+1<=_; omega)) (iB (r_v (i:=3) rfl) (cL hc.2)) (by rw [List.length_append,List.length_append,List.length_append]; show _+5+_+1+_<=_; omega)) (bV (x:="\n")) (by rw [List.length_append,List.length_append,List.length_append,List.length_append]; show _+5+_+1+_+1<=_; omega)
 have q:acc++("crew " : Str).cps.toList++ah c.1++(" " : Str).cps.toList++ah c.2++("\n" : Str).cps.toList=acc++aq [aF,ah c.1,ah c.2]:=by
  rw [we]
  have e1:("crew " : Str).cps.toList=aF++[32]:=by decide
  have e2:(" " : Str).cps.toList=[32]:=by decide
  have e3:("\n" : Str).cps.toList=[10]:=by decide
  rw [e1,e2,e3]
  simp
 rw [q] at e
 exact aI e
theorem Co (h:Has P "_law_source_text" gE) {acc:Wd} {s:Srs} (hs:kN s) (hz:acc.length<=900000) {d0:D} {x2 x3 x4 x5 x6 x7 x8 x9:Option D} :
  ck sub (ai sub P (n+1)) (.one 9) ku s.toD [some d0,some (wS acc),x2,x3,x4,x5,x6,x7,x8,x9] T=.ok (.nx [some d0,some (wS (acc++32::aO s)),x2,x3,x4,x5,x6,x7,x8,some s.toD]) T:=by
 have l1:=(lV hs).2
 refine CC ?_
 have e:=a_ (sub:=sub) (cf:=ai sub P (n+1)) (σ:=[some d0,some (wS acc),x2,x3,x4,x5,x6,x7,x8,some s.toD]) (S:=T) (a_ (r_v (i:=1) rfl) (bV (x:=" ")) (by show _+1<=_; omega)) (au (aa (r_v (i:=9) rfl) aj) (uS h hs)) (by rw [List.length_append]; show _+1+_<=_; omega)
 have q:acc++(" " : Str).cps.toList++aO s=acc++32::aO s:=by
  have e2:(" " : Str).cps.toList=[32]:=by decide
  rw [e2]; simp
 rw [q] at e
 exact aI e
theorem iH (c:Nat) (a:Wd):∀ r:List Wd,glue c (a::r)=a++(r.map fun w=>c::w).flatten
 | []=>by simp [glue]
 | b::r=>by
  show a++c::glue c (b::r)=_
  rw [iH c b r]; simp
theorem sL {vs:List Int} {i:Nat} {o:Option D} {e:E} (he:ev sub cf e σ T=.ok (.tup (vs.map .int)) T) (hi:i=σ.length+1) (hv:∀ v∈vs,0<=v/\v < 10000) (hf:vs.length<=50) :
  ev sub cf (.tm .join (.c (.str " ")) (.cs (.comp 2 (.bi .str1 (.cs (.v i) .nl)) (.one i) (.iSeq e) .nl) .nl)) σ T=.ok (wS (glue 32 (vs.map fun v=>ah v.toNat))) (T++[.lst (vs.map fun v=>wS (ah v.toNat))]):=by
 have hc:ev sub cf (.comp 2 (.bi .str1 (.cs (.v i) .nl)) (.one i) (.iSeq e) .nl) σ T=.ok (.loc T.length) (T++[.lst (vs.map fun v=>wS (ah v.toNat))]) :=
  dh (ks:=vs) (f:=.int) (g:=fun v=>wS (ah v.toNat)) (o:=none) (raw:=vs.map .int) (bU he rfl) rfl (fun v hv'=>iB (d:=.int v) (by
   subst hi
   refine r_v ?_
   unfold bF
   rw [List.getElem?_set_self (by rw [List.length_append,List.length_replicate]; omega)]; rfl) (lg (hv v hv'))) (by unfold aJ; omega)
 have aR:AtR (T++[.lst (vs.map fun v=>wS (ah v.toNat))]) (vs.map (fun v=>ah v.toNat),T.length):=by
  show _[_]?=some (Cell.lst ((vs.map fun v=>ah v.toNat).map wS))
  rw [aX,List.map_map]; rfl
 have hF:Few (vs.map fun v=>ah v.toNat):=by
  refine ⟨fun w hw=>?_,fun w hw=>?_,by rw [List.length_map]; omega⟩
  ·obtain ⟨v,hv',rfl⟩:=List.mem_map.mp hw
   exact (cG (by have:=hv v hv'; omega)).1
  ·obtain ⟨v,hv',rfl⟩:=List.mem_map.mp hw
   exact (cG (by have:=hv v hv'; omega)).2
 exact eS r_c (aa hc aj) (oj (y:=" ") (c:=32) (by rw [<- dG (" " : Str)]; rfl) aR hF.qi)
end
end RL

namespace RL
open PySem EV GO
theorem Cg:(" " : Str).cps.toList=[32]:=by decide
theorem m8:("\n" : Str).cps.toList=[10]:=by decide
theorem vB:("work " : Str).cps.toList=aC++[32]:=by decide
theorem e_sl:(" / " : Str).cps.toList=[32,47,32]:=by decide
theorem zI:("outs " : Str).cps.toList=aS++[32]:=by decide
theorem vc:("streams " : Str).cps.toList=aH++[32]:=by decide
theorem n_ {r:List Wd} (h:r≠[]):(r.map fun w=>32::w).flatten=32::glue 32 r:=by
 obtain ⟨a,q,rfl⟩:=List.exists_cons_of_ne_nil h
 rw [iH]; simp
theorem vm {w:Wk} (h3:w.starts≠[]) (acc:Wd):acc++(aC++[32])++ah w.crew++[32]++ah w.long++[32]++w.doing.cps.toList++(w.srcs.map fun s=>32::aO s).flatten++[32,47,32]++glue 32 (w.starts.map fun v=>ah v.toNat)++[10]=acc++aq (aC::aE w):=by
 have h4:(w.starts.map fun v=>ah v.toNat)≠[]:=fun z=>h3 (List.map_eq_nil_iff.mp z)
 have e1:((aE w).map fun x=>32::x).flatten=32::ah w.crew++(32::ah w.long++(32::w.doing.cps.toList++((w.srcs.map fun s=>32::aO s).flatten++(32::47::(32::glue 32 (w.starts.map fun v=>ah v.toNat)))))):=by
  unfold aE
  rw [List.map_cons,List.map_cons,List.map_cons,List.map_append,List.map_cons,List.map_map,List.flatten_cons,List.flatten_cons,List.flatten_cons,List.flatten_append,List.flatten_cons,n_ h4]
  rfl
 unfold aq
 rw [iH,e1]
 simp
theorem se {w:Wk} (hw:WkW w) (xs:List Srs) (hx:∀ s∈xs,s∈w.srcs):(xs.map fun s=>32::aO s).flatten.length<=101 * xs.length:=by
 induction xs with
 | nil=>simp
 | cons s r ih =>
  have h1:=(lV (hw.srcs s (hx s List.mem_cons_self))).2
  have h2:=ih fun x hx'=>hx x (List.mem_cons_of_mem _ hx')
  rw [List.map_cons,List.flatten_cons,List.length_append,List.length_cons,List.length_cons]
  omega
section
variable {sub:Sub} {P:Prg} {n:Nat} {S T:af} {l:Lp} {cf:Str->List D->M D} {σ:Sg}
theorem wX (h:Has P "_law_source_text" gE) {acc:Wd} {w:Wk} (hw:WkW w) (hz:acc.length<=600000) {d0:D} {x2 x3 x4 x5 x6 x7 x8 x9:Option D} :
  ∃ T' x9',ck sub (ai sub P (n+1)) (.many [4,5,6,7,8]) j8 w.toD [some d0,some (wS acc),x2,x3,x4,x5,x6,x7,x8,x9] T=.ok (.nx [some d0,some (wS (acc++aq (aC::aE w))),x2,x3,some (.int (w.crew:Int)),some (.int (w.long:Int)),some (.str w.doing),some (.tup (w.srcs.map Srs.toD)),some (.tup (w.starts.map .int)),x9']) T'/\T <+: T':=by
 have l1:=cW hw.crew
 have l2:=cW hw.long
 have l3:=(uK _ hw.doing).2
 have hf:=hw.few
 have h3:=hw.three
 have e1:=a_ (sub:=sub) (cf:=ai sub P (n+1)) (σ:=[some d0,some (wS acc),x2,x3,some (.int (w.crew:Int)),some (.int (w.long:Int)),some (wS w.doing.cps.toList),some (.tup (w.srcs.map Srs.toD)),some (.tup (w.starts.map .int)),x9]) (S:=T) (a_ (a_ (a_ (a_ (a_ (r_v (i:=1) rfl) (bV (x:="work ")) (by show _+5<=_; omega)) (iB (r_v (i:=4) rfl) (cL hw.crew)) (by rw [List.length_append]; show _+5+_<=_; omega)) (bV (x:=" ")) (by rw [List.length_append,List.length_append]; show _+5+_+1<=_; omega)) (iB (r_v (i:=5) rfl) (cL hw.long)) (by rw [List.length_append,List.length_append,List.length_append]; show _+5+_+1+_<=_; omega)) (bV (x:=" ")) (by rw [List.length_append,List.length_append,List.length_append,List.length_append]; show _+5+_+1+_+1<=_; omega)) (r_v (i:=6) rfl) (by rw [List.length_append,List.length_append,List.length_append,List.length_append,List.length_append]; show _+5+_+1+_+1+_<=_; omega)
 rw [vB,Cg,<- dg] at e1
 obtain ⟨B,hB⟩:∃ B,B=acc++(aC++[32])++ah w.crew++[32]++ah w.long++[32]++w.doing.cps.toList:=⟨_,rfl⟩
 have lB:B.length<=600200:=by
  rw [hB]
  simp only [List.length_append,List.length_singleton]
  have:aC.length=4:=by decide
  omega
 rw [<- hB] at e1
 obtain ⟨σ',T',ef,x9',rfl,rfl⟩:=mC (sub:=sub) (cf:=ai sub P (n+1)) (t:=.one 9) (it:=.iSeq (.v 7)) (b:=ku) (σ:=[some d0,some (wS B),x2,x3,some (.int (w.crew:Int)),some (.int (w.long:Int)),some (.str w.doing),some (.tup (w.srcs.map Srs.toD)),some (.tup (w.starts.map .int)),x9]) (S:=T) (s:=⟨w.srcs.map Srs.toD,none,w.srcs.map Srs.toD⟩)
  (fun i σ U=>∃ x9',σ=[some d0,some (wS (B++((w.srcs.take i).map fun s=>32::aO s).flatten)),x2,x3,some (.int (w.crew:Int)),some (.int (w.long:Int)),some (.str w.doing),some (.tup (w.srcs.map Srs.toD)),some (.tup (w.starts.map .int)),x9']/\U=T)
  (bU (r_v rfl) rfl) ⟨x9,by simp,rfl⟩ (fun _ _ _ _=>rfl) (fun i hi σ U hI=>by
   obtain ⟨y,rfl,rfl⟩:=hI
   have hi':i < w.srcs.length:=by rw [<- List.length_map (f:=Srs.toD)]; exact hi
   have hs:=hw.srcs w.srcs[i] (List.getElem_mem hi')
   have bd:=se hw (w.srcs.take i) fun s hs'=>List.mem_of_mem_take hs'
   rw [List.length_take] at bd
   refine ⟨_,_,?_,some w.srcs[i].toD,rfl,rfl⟩
   show ck _ _ _ _ ((w.srcs.map Srs.toD)[i]'hi) _ _=_
   rw [List.getElem_map]
   have:=Co (sub:=sub) (n:=n) (T:=U) h (acc:=B++((w.srcs.take i).map fun s=>32::aO s).flatten) hs (by rw [List.length_append]; omega) (d0:=d0) (x2:=x2) (x3:=x3) (x4:=some (.int (w.crew:Int))) (x5:=some (.int (w.long:Int))) (x6:=some (.str w.doing)) (x7:=some (.tup (w.srcs.map Srs.toD))) (x8:=some (.tup (w.starts.map .int))) (x9:=y)
   rw [this,List.take_succ,List.getElem?_eq_getElem hi',List.map_append,List.flatten_append,List.append_assoc]
   simp)
 have ef:exec sub (ai sub P (n+1)) (.forS (.one 9) (.iSeq (.v 7)) ku) [some d0,some (wS B),x2,x3,some (.int (w.crew:Int)),some (.int (w.long:Int)),some (.str w.doing),some (.tup (w.srcs.map Srs.toD)),some (.tup (w.starts.map .int)),x9] T'=.ok (.nx [some d0,some (wS (B++(w.srcs.map fun s=>32::aO s).flatten)),x2,x3,some (.int (w.crew:Int)),some (.int (w.long:Int)),some (.str w.doing),some (.tup (w.srcs.map Srs.toD)),some (.tup (w.starts.map .int)),x9']) T':=by
  rw [ef,List.length_map,List.take_length]
 have bd:=se hw w.srcs fun s hs'=>hs'
 have j:=sL (sub:=sub) (cf:=ai sub P (n+1)) (σ:=[some d0,some (wS (B++(w.srcs.map fun s=>32::aO s).flatten)),x2,x3,some (.int (w.crew:Int)),some (.int (w.long:Int)),some (.str w.doing),some (.tup (w.srcs.map Srs.toD)),some (.tup (w.starts.map .int)),x9']) (T:=T') (vs:=w.starts) (i:=11) (o:=none) (e:=.v 8) (r_v rfl) rfl hw.starts (by omega)
 have gl:(glue 32 (w.starts.map fun v=>ah v.toNat)).length<=1000:=by
  have:=kO 32 (w.starts.map fun v=>ah v.toNat)
  have hs:((w.starts.map fun v=>ah v.toNat).map List.length).sum<=100 * (w.starts.map fun v=>ah v.toNat).length:=Few.sum ⟨fun u hu=>by
   obtain ⟨v,hv,rfl⟩:=List.mem_map.mp hu
   exact (cG (by have:=hw.starts v hv; omega)).1,fun u hu=>by
   obtain ⟨v,hv,rfl⟩:=List.mem_map.mp hu
   exact (cG (by have:=hw.starts v hv; omega)).2,by rw [List.length_map]; omega⟩
  rw [List.length_map] at hs this
  omega
 have e3:=a_ (a_ (a_ (r_v (i:=1) rfl) (bV (x:=" / ")) (by rw [List.length_append]; show _+_+3<=_; omega)) j (by rw [List.length_append,List.length_append]; show _+_+3+_<=_; omega)) (bV (x:="\n")) (by rw [List.length_append,List.length_append,List.length_append]; show _+_+3+_+1<=_; omega)
 rw [e_sl,m8,hB,vm (fun z=>by rw [z] at h3; cases h3)] at e3
 rw [<- hB] at e3
 exact ⟨_,x9',tG (ds:=[.int (w.crew:Int),.int (w.long:Int),.str w.doing,.tup (w.srcs.map Srs.toD),.tup (w.starts.map .int)]) rfl (ak (aI e1) (ak ef (aI e3))),List.prefix_append T' [.lst (w.starts.map fun v=>wS (ah v.toNat))]⟩
end
end RL

namespace RL
open PySem EV GO
theorem jy {α:Type} {f:α->List Wd}:∀ {xs:List α},(∀ a∈xs,Few (f a))->(xs.map fun a=>aq (f a)).flatten.length<=20001 * xs.length
 | [],_=>by simp
 | a::r,h=>by
  have h1:=lH (h a List.mem_cons_self)
  have h2:=jy (xs:=r) fun b hb=>h b (List.mem_cons_of_mem _ hb)
  rw [List.map_cons,List.flatten_cons,List.length_append,List.length_cons]
  omega
theorem qT {α:Type} {f:α->Wd} {xs:List α} {i:Nat} (hi:i < xs.length):((xs.take (i+1)).map f).flatten=((xs.take i).map f).flatten++f xs[i]:=by
 rw [List.take_succ,List.getElem?_eq_getElem hi,List.map_append,List.flatten_append]; simp
theorem AB {r:List Wd} (h:r≠[]) (acc:Wd):acc++(aS++[32])++glue 32 r++[10]=acc++aq (aS::r):=by
 unfold aq
 rw [iH,n_ h]; simp
section
variable {sub:Sub} {P:Prg} {n:Nat} {S T:af} {l:Lp} {cf:Str->List D->M D} {σ:Sg}
theorem rS (h:Has P "_law_source_text" gE) (ht:Has P "_law_text" uT) (hl:l.WF):ai sub P (n+2) "_law_text" [l.toD] S=.ok (wS (textOf l)) S:=by
 have h8:=hl.nworks.2
 have h3:=hl.ncrews.2
 have hst:=hl.streams
 have ls:=cW (n:=l.streams) (by omega)
 have fw:∀ w∈l.works,WkW w:=fun w hw'=>by
  obtain ⟨i,hi⟩:=List.getElem?_of_mem hw'
  have hi8:=(List.getElem?_eq_some_iff.mp hi).1
  exact oB (hl.works i w hi) hl.streams (by omega) h8 hl.ncrews.2
 have fc:∀ c∈l.crews,c.1 < 10000/\c.2 < 10000:=fun c hc=>by have:=hl.crews c hc; omega
 have e1:=a_ (sub:=sub) (cf:=ai sub P (n+1)) (σ:=[some l.toD,none,none,none,none,none,none,none,none,none]) (S:=S) (a_ (bV (x:="streams ")) (iB (aG (r_v (i:=0) rfl) (r_c (d:=.int 0)) (aQ (d:=.int (l.streams:Int)) rfl)) (cL (k:=l.streams) (by omega))) (by show 8+_<=_; omega)) (bV (x:="\n")) (by rw [List.length_append]; show 8+_+1<=_; omega)
 have q1:("streams " : Str).cps.toList++ah l.streams++("\n" : Str).cps.toList=aq [aH,ah l.streams]:=by
  rw [vc,m8,zj]; simp
 rw [q1] at e1
 have b0:(aq [aH,ah l.streams]).length<=20001:=lH (ou hl)
 obtain ⟨A0,hA0⟩:∃ A,A=aq [aH,ah l.streams]:=⟨_,rfl⟩
 rw [<- hA0] at e1 b0
 obtain ⟨σ1,T1,f1,⟨y2,y3,rfl⟩,rfl⟩:=mC (sub:=sub) (cf:=ai sub P (n+1)) (t:=.many [2,3]) (it:=.iSeq (.ix (.v 0) (.c (.int 1)))) (b:=jY) (σ:=[some l.toD,some (wS A0),none,none,none,none,none,none,none,none]) (S:=S) (s:=⟨l.crews.map bE,none,l.crews.map bE⟩)
  (fun i σ U=>(∃ y2 y3,σ=[some l.toD,some (wS (A0++((l.crews.take i).map fun c=>aq [aF,ah c.1,ah c.2]).flatten)),y2,y3,none,none,none,none,none,none])/\U=S)
  (bU (aG (r_v rfl) r_c (aQ rfl)) rfl) ⟨⟨none,none,by simp⟩,rfl⟩ (fun _ _ _ _=>rfl) (fun i hi σ U hI=>by
   obtain ⟨⟨y2,y3,rfl⟩,rfl⟩:=hI
   have hi':i < l.crews.length:=by rw [<- List.length_map (f:=bE)]; exact hi
   have bd:=jy (f:=fun c:Nat × Nat=>[aF,ah c.1,ah c.2]) (xs:=l.crews.take i) fun c hc=>jS (fc c (List.mem_of_mem_take hc))
   rw [List.length_take] at bd
   refine ⟨_,_,?_,⟨some (.int (l.crews[i].1:Int)),some (.int (l.crews[i].2:Int)),rfl⟩,rfl⟩
   show ck _ _ _ _ ((l.crews.map bE)[i]'hi) _ _=_
   rw [List.getElem_map]
   have:=Ef (sub:=sub) (cf:=ai sub P (n+1)) (T:=U) (acc:=A0++((l.crews.take i).map fun c=>aq [aF,ah c.1,ah c.2]).flatten) (c:=l.crews[i]) (d0:=l.toD) (x2:=y2) (x3:=y3) (r:=[none,none,none,none,none,none]) (fc _ (List.getElem_mem hi')) (by rw [List.length_append]; omega)
   rw [this,qT (f:=fun c:Nat × Nat=>aq [aF,ah c.1,ah c.2]) hi',List.append_assoc])
 have f1:exec sub (ai sub P (n+1)) (.forS (.many [2,3]) (.iSeq (.ix (.v 0) (.c (.int 1)))) jY) [some l.toD,some (wS A0),none,none,none,none,none,none,none,none] T1=.ok (.nx [some l.toD,some (wS (A0++(l.crews.map fun c=>aq [aF,ah c.1,ah c.2]).flatten)),y2,y3,none,none,none,none,none,none]) T1:=by
  rw [f1,List.length_map,List.take_length]
 have b1:=jy (f:=fun c:Nat × Nat=>[aF,ah c.1,ah c.2]) (xs:=l.crews) fun c hc=>jS (fc c hc)
 obtain ⟨A1,hA1⟩:∃ A,A=A0++(l.crews.map fun c=>aq [aF,ah c.1,ah c.2]).flatten:=⟨_,rfl⟩
 have l1:A1.length<=20001 * 4:=by rw [hA1,List.length_append]; omega
 rw [<- hA1] at f1
 obtain ⟨σ2,T2,f2,⟨z4,z5,z6,z7,z8,z9,rfl⟩,p2⟩:=mC (sub:=sub) (cf:=ai sub P (n+1)) (t:=.many [4,5,6,7,8]) (it:=.iSeq (.ix (.v 0) (.c (.int 2)))) (b:=j8) (σ:=[some l.toD,some (wS A1),y2,y3,none,none,none,none,none,none]) (S:=T1) (s:=⟨l.works.map Wk.toD,none,l.works.map Wk.toD⟩)
  (fun i σ U=>(∃ z4 z5 z6 z7 z8 z9,σ=[some l.toD,some (wS (A1++((l.works.take i).map fun w=>aq (aC::aE w)).flatten)),y2,y3,z4,z5,z6,z7,z8,z9])/\T1 <+: U)
  (bU (aG (r_v rfl) r_c (aQ rfl)) rfl) ⟨⟨none,none,none,none,none,none,by simp⟩,List.prefix_refl _⟩ (fun _ _ _ _=>rfl) (fun i hi σ U hI=>by
   obtain ⟨⟨z4,z5,z6,z7,z8,z9,rfl⟩,pU⟩:=hI
   have hi':i < l.works.length:=by rw [<- List.length_map (f:=Wk.toD)]; exact hi
   have bd:=jy (f:=fun w:Wk=>aC::aE w) (xs:=l.works.take i) fun w hw=>kr (fw w (List.mem_of_mem_take hw))
   rw [List.length_take] at bd
   obtain ⟨T',x9',e,p⟩:=wX (sub:=sub) (n:=n) (T:=U) h (acc:=A1++((l.works.take i).map fun w=>aq (aC::aE w)).flatten) (fw _ (List.getElem_mem hi')) (by rw [List.length_append]; omega) (d0:=l.toD) (x2:=y2) (x3:=y3) (x4:=z4) (x5:=z5) (x6:=z6) (x7:=z7) (x8:=z8) (x9:=z9)
   refine ⟨_,T',?_,⟨some (.int (l.works[i].crew:Int)),some (.int (l.works[i].long:Int)),some (.str l.works[i].doing),some (.tup (l.works[i].srcs.map Srs.toD)),some (.tup (l.works[i].starts.map .int)),x9',rfl⟩,pU.trans p⟩
   show ck _ _ _ _ ((l.works.map Wk.toD)[i]'hi) _ _=_
   rw [List.getElem_map,e,qT (f:=fun w:Wk=>aq (aC::aE w)) hi',List.append_assoc])
 have f2:exec sub (ai sub P (n+1)) (.forS (.many [4,5,6,7,8]) (.iSeq (.ix (.v 0) (.c (.int 2)))) j8) [some l.toD,some (wS A1),y2,y3,none,none,none,none,none,none] T1=.ok (.nx [some l.toD,some (wS (A1++(l.works.map fun w=>aq (aC::aE w)).flatten)),y2,y3,z4,z5,z6,z7,z8,z9]) T2:=by
  rw [f2,List.length_map,List.take_length]
 have b2:=jy (f:=fun w:Wk=>aC::aE w) (xs:=l.works) fun w hw=>kr (fw w hw)
 obtain ⟨A2,hA2⟩:∃ A,A=A1++(l.works.map fun w=>aq (aC::aE w)).flatten:=⟨_,rfl⟩
 have l2:A2.length<=20001 * 12:=by rw [hA2,List.length_append]; omega
 rw [<- hA2] at f2
 obtain ⟨o1,o2⟩:=l5 hl
 have hno:=hl.nouts
 have hm:(l.outs.map bw)=(l.outs.map fun k:Nat=>(k:Int)).map .int:=by rw [List.map_map]; rfl
 have j:=sL (sub:=sub) (cf:=ai sub P (n+1)) (σ:=[some l.toD,some (wS A2),y2,y3,z4,z5,z6,z7,z8,z9]) (T:=T2) (vs:=l.outs.map fun k:Nat=>(k:Int)) (i:=11) (o:=none) (e:=.ix (.v 0) (.c (.int 3))) (by rw [<- hm]; exact aG (r_v rfl) r_c (aQ rfl)) rfl (fun v hv=>by
  obtain ⟨k,hk,rfl⟩:=List.mem_map.mp hv
  have:=o1 k hk
  omega) (by rw [List.length_map]; omega)
 have em:((l.outs.map fun k:Nat=>(k:Int)).map fun v=>ah v.toNat)=l.outs.map ah:=by
  rw [List.map_map]
  exact List.map_congr_left fun k _=>by show ah (k:Int).toNat=_; rw [Int.toNat_natCast]
 rw [em] at j
 have gl:=(nZ hl).len
 have gl2:(glue 32 (l.outs.map ah)).length<=20000:=by
  rw [iH,List.length_append,n_ (by intro z; rw [List.map_eq_nil_iff.mp z] at hno; cases hno),List.length_cons] at gl
  omega
 have e3:=a_ (a_ (a_ (r_v (i:=1) rfl) (bV (x:="outs ")) (by show _+5<=_; omega)) j (by rw [List.length_append]; show _+5+_<=_; omega)) (bV (x:="\n")) (by rw [List.length_append,List.length_append]; show _+5+_+1<=_; omega)
 rw [zI,m8,AB (by intro z; rw [List.map_eq_nil_iff.mp z] at hno; cases hno)] at e3
 have fin:A2++aq (aS::l.outs.map ah)=textOf l:=by
  rw [j9,hA2,hA1,hA0]
  unfold b9
  simp [List.map_append,List.map_map,Function.comp_def]
 rw [fin] at e3
 exact x_call (ds:=[l.toD]) ht rfl (ak (aI e1) (ak f1 (ak f2 (aB e3)))) (bf rfl (ee (p2.trans (List.prefix_append _ _))))
end
end RL

namespace RL
open PySem EV GO
theorem ek (n:Nat) (w:Wd):RB.fit n (aA w)=true:=by
 unfold aA
 split <;> rfl
theorem iy {α:Type} {n:Nat} {f:α->D} (hf:∀ a,RB.fit n (f a)=true) (xs:List α):RB.fits' n (xs.map f)=true:=RB.c8.mpr fun d hd=>by
 obtain ⟨a,_,rfl⟩:=List.mem_map.mp hd
 exact hf a
theorem dX {n:Nat} {ds:List D} (h:RB.fits' n ds=true):RB.fit n (.tup ds)=true:=h
theorem Gw (n:Nat) (w:Wd):RB.fit n (bH w)=true:=by
 unfold bH
 split
 ·exact dX (RB.c8.mpr fun d hd=>by
   rcases List.mem_cons.mp hd with rfl|hd
   ·rfl
   ·rw [List.mem_singleton.mp hd]; exact ek n _)
 ·split
  ·exact dX (RB.c8.mpr fun d hd=>by
    rcases List.mem_cons.mp hd with rfl|hd
    ·rfl
    ·rcases List.mem_cons.mp hd with rfl|hd
     ·exact ek n _
     ·rw [List.mem_singleton.mp hd]; exact ek n _)
  ·exact dX (RB.c8.mpr fun d hd=>by
    rcases List.mem_cons.mp hd with rfl|hd
    ·rfl
    ·rw [List.mem_singleton.mp hd]; exact ek n _)
theorem Cj (n:Nat) (r:List Wd):RB.fit n (cD r)=true:=by
 unfold cD
 split
 ·rfl
 ·exact dX (RB.c8.mpr fun d hd=>by
   rcases List.mem_cons.mp hd with rfl|hd
   ·exact ek n _
   ·rcases List.mem_cons.mp hd with rfl|hd
    ·exact ek n _
    ·rcases List.mem_cons.mp hd with rfl|hd
     ·rfl
     ·rcases List.mem_cons.mp hd with rfl|hd
      ·exact dX (iy (Gw n) _)
      ·rw [List.mem_singleton.mp hd]; exact dX (iy (ek n) _))
theorem uu (n:Nat) (t:Wd):RB.fit n (looseD t)=true:=by
 unfold looseD
 split
 ·exact dX (RB.c8.mpr fun d hd=>by
   rcases List.mem_cons.mp hd with rfl|hd
   ·exact ek n _
   ·rcases List.mem_cons.mp hd with rfl|hd
    ·exact dX (iy (f:=fun r:List Wd=>D.tup (r.map aA)) (fun r=>dX (iy (ek n) r)) _)
    ·rcases List.mem_cons.mp hd with rfl|hd
     ·exact dX (iy (Cj n) _)
     ·rw [List.mem_singleton.mp hd]; exact dX (iy (ek n) _))
 ·rfl
section
variable {sub:Sub} {P:Prg} {n:Nat} {S T:af} {l:Lp} {cf:Str->List D->M D} {σ:Sg}
noncomputable def oQ:Fn:=⟨1,2,(.seq (.ite (.not (.bi (.inst .str) (.cs (.v 0) .nl)))
  (.rais "NoText")
  .skip)
 (.seq (.set (.one 1) (.call "loosely_read" (.cs (.v 0) .nl)))
 (.seq (.ite (.or (.not (.call "is_loop" (.cs (.v 1) .nl))) (.cmp .ne (.call "written" (.cs (.v 1) .nl)) (.v 0)))
  (.rais "NoText")
  .skip)
 (.ret (.v 1)))))⟩
structure HRd (P:Prg):Prop where
 b:HB P
 t:HT P
 aP:Has P "rows_headed" jN
 loosely:Has P "loosely_read" iS
 w:HW2 P
 written:Has P "written" mL
 read:Has P "read" oQ
theorem uc {u v:EV.S} {c:Str} {S1:af} (hu:exec sub cf u σ S=.exc c S1):exec sub cf (.seq u v) σ S=.exc c S1:=by rw [gH,hu]; rfl
theorem ux {d:List D} {f:Str} {F:Fn} {c:Str} {S1:af} (hP:P.lookup f=some F) (hl:d.length=F.par) (hb:exec sub (ai sub P n) F.body (frame F d) S=.exc c S1) (ht:S1.take S.length=S):ai sub P (n+1) f d S=.exc c S:=by
 rw [cH hP hl,hb]
 show (if S1.take S.length=S then Res.exc c S else .exc c S1)=_
 rw [if_pos ht]
noncomputable def Told (t:Wd) (l:Lp):Prop:=l.WF/\textOf l=t
theorem uU (h:HRd P) (hS:bW S) {t:Wd} (ht:cU t) {l:Lp} (hl:Told t l):ai sub P (n+7) "read" [wS t] S=.ok l.toD S:=by
 obtain ⟨hw,rfl⟩:=hl
 have e1:=qI (sub:=sub) (n:=n+2) (S:=S) h.t h.aP h.loosely ht
 rw [jc hw] at e1
 have e2:=nQ (sub:=sub) (n:=n) (S:=S) h.b hw
 have e3:=oq (sub:=sub) (n:=n+3) (S:=S) h.w h.written hw
 have t2:evT sub (ai sub P (n+6)) (.or (.not (.call "is_loop" (.cs (.v 1) .nl))) (.cmp .ne (.call "written" (.cs (.v 1) .nl)) (.v 0))) [some (wS (textOf l)),some l.toD] S=.ok false S:=by
  refine cj (t_k (bq (b8 (au (aa (r_v rfl) aj) e2))) rfl) ?_
  have:=bA (sub:=sub) (cf:=ai sub P (n+6)) (bx (o:=.ne) (σ:=[some (wS (textOf l)),some l.toD]) (au (aa (r_v (i:=1) rfl) aj) e3) (r_v (i:=0) rfl) (show cmD .ne (wS (textOf l)) (wS (textOf l)) S=.ok (.bl (!(tx (textOf l)==tx (textOf l)))) S from rfl))
  refine t_k this ?_
  rw [gA,decide_eq_true rfl]; rfl
 have cl:l.toD.cl:=by rw [<- jc hw]; exact nU _
 exact x_call (ds:=[wS (textOf l)]) h.read rfl (ak (aL (t_k (bq (eF (aD (aa (r_v rfl) aj) (eT (k:=true) rfl)))) rfl) aM) (ak (aI (au (aa (r_v rfl) aj) e1)) (ak (aL t2 aM) (aB (r_v rfl))))) (bf cl List.take_length)
theorem Fo (h:HRd P) (hS:bW S) {t:Wd} (ht:cU t) (hno:∀ l,¬ Told t l):ai sub P (n+7) "read" [wS t] S=.exc "NoText" S:=by
 have e1:=qI (sub:=sub) (n:=n+2) (S:=S) h.t h.aP h.loosely ht
 have e2:=RB.pM (sub:=sub) (n:=n) (S:=S) h.b hS (uu S.length t)
 have e0:evT sub (ai sub P (n+6)) (.not (.bi (.inst .str) (.cs (.v 0) .nl))) [some (wS t),none] S=.ok false S:=t_k (bq (eF (aD (aa (r_v rfl) aj) (eT (k:=true) rfl)))) rfl
 have t2:evT sub (ai sub P (n+6)) (.or (.not (.call "is_loop" (.cs (.v 1) .nl))) (.cmp .ne (.call "written" (.cs (.v 1) .nl)) (.v 0))) [some (wS t),some (looseD t)] S=.ok true S:=by
  cases q:RB.cX (looseD t) with
  | false =>
   rw [q] at e2
   exact jF (t_k (bq (b8 (au (aa (r_v rfl) aj) e2))) rfl)
  | true =>
   rw [q] at e2
   obtain ⟨l,el,hw⟩:=RB.wA q
   have e3:=oq (sub:=sub) (n:=n+3) (S:=S) h.w h.written hw
   rw [<- el] at e3
   refine cj (t_k (bq (b8 (au (aa (r_v rfl) aj) e2))) rfl) ?_
   have:=bA (sub:=sub) (cf:=ai sub P (n+6)) (bx (o:=.ne) (σ:=[some (wS t),some (looseD t)]) (au (aa (r_v (i:=1) rfl) aj) e3) (r_v (i:=0) rfl) (show cmD .ne (wS (textOf l)) (wS t) S=.ok (.bl (!(tx (textOf l)==tx t))) S from rfl))
   refine t_k this ?_
   rw [gA,decide_eq_false fun z=>hno l ⟨hw,z⟩]; rfl
 exact ux (d:=[wS t]) h.read rfl ((ak (aL e0 aM) (ak (aI (au (aa (r_v rfl) aj) e1)) (uc (bR t2 rfl))))) List.take_length
theorem xh (h:HRd P) {d:D} (hd:cK sub S d .str=some false):ai sub P (n+1) "read" [d] S=.exc "NoText" S :=
 ux (d:=[d]) h.read rfl (uc (bR (t_k (bq (eF (aD (aa (r_v rfl) aj) (eT hd)))) rfl) rfl)) List.take_length
noncomputable def nN:Fn:=⟨1,2,(.seq (.tryR "read" (.cs (.v 0) .nl) "NoText" .non)
 (.ret (.c (.int 0))))⟩
theorem Aj {f c:Str} {es:E} {d v:D} {ds:List D} {S1 S2:af} (he:evs sub cf es σ S=.ok ds S1) (h:cf f ds S1=.ok v S2):exec sub cf (.tryR f es c d) σ S=.ok (.rt v) S2:=by
 show (quiet (evs sub cf es σ)>>=fun ds=>cR c d (cf f ds)>>=fun v=>pure (Fl.rt v)) S=_
 rw [av,fV he,Res.ao,av]
 unfold cR
 rw [h]; rfl
theorem zZ {f c:Str} {es:E} {d:D} {ds:List D} {S1 S2:af} (he:evs sub cf es σ S=.ok ds S1) (h:cf f ds S1=.exc c S2):exec sub cf (.tryR f es c d) σ S=.ok (.rt d) S2:=by
 show (quiet (evs sub cf es σ)>>=fun ds=>cR c d (cf f ds)>>=fun v=>pure (Fl.rt v)) S=_
 rw [av,fV he,Res.ao,av]
 unfold cR
 rw [h]
 show Res.bind (if c=c then .ok d S2 else .bad) _=_
 rw [if_pos rfl]; rfl
theorem DK (ht:Has P "_law_told" nN) {d v:D} (h:ai sub P n "read" [d] S=.ok v S) (hv:v.cl):ai sub P (n+1) "_law_told" [d] S=.ok v S :=
 x_call (ds:=[d]) ht rfl (bG (Aj (aa (r_v rfl) aj) h)) (bf hv List.take_length)
theorem EO (ht:Has P "_law_told" nN) {d:D} (h:ai sub P n "read" [d] S=.exc "NoText" S):ai sub P (n+1) "_law_told" [d] S=.ok .non S :=
 x_call (ds:=[d]) ht rfl (bG (zZ (aa (r_v rfl) aj) h)) (bf rfl List.take_length)
end
end RL

namespace RL
open PySem EV GO
noncomputable def e9:Str:=" /\niw-0123456789crewoutsplx+A"
noncomputable def gY:Fn:=⟨3,6,(.seq (.set (.one 3) (.bin .mod (.v 1) (.bin .add (.bi .lenT (.cs (.v 0) .nl)) (.c (.int 1)))))
 (.seq (.set (.one 4) (.bi .tAt (.cs (.c (.str " /\niw-0123456789crewoutsplx+A")) (.cs (.bin .mod (.bin .fdiv (.v 1) (.c (.int 1000))) (.c (.int 29))) .nl))))
 (.seq (.set (.one 5) (.bin .mod (.bin .fdiv (.v 1) (.c (.int 40000))) (.c (.int 6))))
 (.seq (.ite (.cmp .eq (.v 5) (.c (.int 0)))
  (.ret (.bin .add (.bin .add (.bi .tTo (.cs (.v 0) (.cs (.v 3) .nl))) (.v 4)) (.bi .tFrom (.cs (.v 0) (.cs (.v 3) .nl)))))
  .skip)
 (.seq (.ite (.cmp .eq (.v 5) (.c (.int 1)))
  (.ret (.bin .add (.bi .tTo (.cs (.v 0) (.cs (.v 3) .nl))) (.bi .tFrom (.cs (.v 0) (.cs (.bin .add (.v 3) (.c (.int 1))) .nl)))))
  .skip)
 (.seq (.ite (.cmp .eq (.v 5) (.c (.int 2)))
  (.ret (.bin .add (.bin .add (.bi .tTo (.cs (.v 0) (.cs (.v 3) .nl))) (.v 4)) (.bi .tFrom (.cs (.v 0) (.cs (.bin .add (.v 3) (.c (.int 1))) .nl)))))
  .skip)
 (.seq (.ite (.cmp .eq (.v 5) (.c (.int 3)))
  (.ret (.bin .add (.bi .tTo (.cs (.v 0) (.cs (.v 3) .nl))) (.bi .tFrom (.cs (.v 0) (.cs (.bin .add (.v 3) (.bin .mod (.bin .fdiv (.v 1) (.c (.int 7))) (.c (.int 9)))) .nl)))))
  .skip)
 (.seq (.ite (.cmp .eq (.v 5) (.c (.int 4)))
  (.ret (.ix (.lst (.cs (.bin .add (.v 0) (.v 0)) (.cs (.bin .add (.bi .tFrom (.cs (.v 0) (.cs (.v 3) .nl))) (.bi .tTo (.cs (.v 0) (.cs (.v 3) .nl)))) (.cs (.bin .add (.c (.str " ")) (.v 0)) (.cs (.bin .add (.v 0) (.c (.str " "))) .nl))))) (.bin .mod (.v 1) (.c (.int 4)))))
  .skip)
 (.ret (.ix (.v 2) (.bin .mod (.v 1) (.bi .len (.cs (.v 2) .nl)))))))))))))⟩
theorem w9:∀ j,j < 29->∃ c,c < 128/\e9.cps.toList[j]?=some c:=by
 have h:(e9.cps.toList.all fun c=>decide (c < 128))=true:=by decide
 have hl:e9.cps.toList.length=29:=by decide
 intro j hj
 have hj':j < e9.cps.toList.length:=by omega
 exact ⟨e9.cps.toList[j],of_decide_eq_true (List.all_eq_true.mp h _ (List.getElem_mem hj')),List.getElem?_eq_getElem hj'⟩
theorem Asc.app {u v:Wd} (hu:Asc u) (hv:Asc v):Asc (u++v):=fun c hc=>(List.mem_append.mp hc).elim (hu c) (hv c)
theorem Asc.tk {u:Wd} (hu:Asc u) (k:Nat):Asc (u.take k):=fun c hc=>hu c (List.mem_of_mem_take hc)
theorem Asc.dr {u:Wd} (hu:Asc u) (k:Nat):Asc (u.drop k):=fun c hc=>hu c (List.mem_of_mem_drop hc)
theorem Asc.one {c:Nat} (h:c < 128):Asc [c]:=fun x hx=>by rw [List.mem_singleton.mp hx]; exact h
theorem Ab {S T:af} {d:D} (h:d.low S.length=true) (ht:T.take S.length=S):leave S d T=.ok d S:=by
 unfold leave
 rw [if_pos ht,if_pos h]
section
variable {sub:Sub} {P:Prg} {n:Nat} {S T:af} {l:Lp} {cf:Str->List D->M D} {σ:Sg}
theorem Fj {w:Wd} {k:Nat} (hk:k<=w.length) (hz:w.length<=1000000):biD sub .tTo [wS w,.int (k:Int)] T=.ok (wS (w.take k)) T:=by
 show guard (decide (-((tx w).length:Int)<=(k:Int))&&decide ((k:Int)<=((tx w).length:Int))&&fits (tx w).length) (pure (.str (tx ((tx w).cps.toList.take (if (k:Int) < 0 then ((k:Int)+((tx w).length:Int)).toNat else (k:Int).toNat)))):M D) T=_
 rw [dj,bK,show fits w.length=true from decide_eq_true (by unfold aJ; omega),decide_eq_true (by omega),decide_eq_true (by omega),if_neg (by omega),Int.toNat_natCast]; rfl
theorem BU {w:Wd} (hk:1<=w.length) (hz:w.length<=1000000):biD sub .tTo [wS w,.int (-1)] T=.ok (wS w.dropLast) T:=by
 show guard (decide (-((tx w).length:Int)<=-1)&&decide ((-1:Int)<=((tx w).length:Int))&&fits (tx w).length) (pure (.str (tx ((tx w).cps.toList.take (if (-1:Int) < 0 then ((-1:Int)+((tx w).length:Int)).toNat else (-1:Int).toNat)))):M D) T=_
 rw [dj,bK,show fits w.length=true from decide_eq_true (by unfold aJ; omega),decide_eq_true (by omega),decide_eq_true (by omega),if_pos (by omega),show ((-1:Int)+(w.length:Int)).toNat=w.length - 1 by omega,<- List.dropLast_eq_take]; rfl
theorem vo {j c:Nat} (h:e9.cps.toList[j]?=some c):biD sub .tAt [.str " /\niw-0123456789crewoutsplx+A",.int (j:Int)] T=.ok (wS [c]) T:=by
 show guard (decide ((0:Int)<=(j:Int))&&fits e9.length) (match e9.cps.toList[(j:Int).toNat]? with|some c=>pure (cN c)|none=>bad:M D) T=_
 rw [Int.toNat_natCast,h,decide_eq_true (by omega),show fits e9.length=true from rfl]; rfl
theorem vU (hs:Has P "_law_spoilt" gY) {t:Wd} (ha:Asc t) (hz:t.length<=270000) {k m:Nat} {more:List D} (hm:S[m]?=some (.lst more)) (h0:more≠[]) (hl:∀ d∈more,d.low S.length=true) :
  ∃ d,ai sub P (n+1) "_law_spoilt" [wS t,.int (k:Int),.loc m] S=.ok d S/\((∃ u,d=wS u/\cU u)\/d∈more):=by
 obtain ⟨a,hae⟩:∃ a,a=k % (t.length+1):=⟨_,rfl⟩
 have hal:a<=t.length:=by have:=Nat.mod_lt k (show 0 < t.length+1 by omega); omega
 obtain ⟨c,hc,hj⟩:=w9 (k / 1000 % 29) (Nat.mod_lt _ (by decide))
 obtain ⟨w,hw⟩:∃ w:Int,w=(k:Int) / 40000 % 6:=⟨_,rfl⟩
 have e3:∀ x,ev sub (ai sub P n) (.bin .mod (.v 1) (.bin .add (.bi .lenT (.cs (.v 0) .nl)) (.c (.int 1)))) (some (wS t)::some (.int (k:Int))::x) S=.ok (.int (a:Int)) S:=fun x=>by
  refine (aY (r_v rfl) (aY (aD (aa (r_v rfl) aj) (fB (by omega))) r_c (gS _ _ _)) (eV (by omega))).trans ?_
  rw [hae,Int.natCast_emod]; rfl
 have e4:∀ x,ev sub (ai sub P n) (.bi .tAt (.cs (.c (.str " /\niw-0123456789crewoutsplx+A")) (.cs (.bin .mod (.bin .fdiv (.v 1) (.c (.int 1000))) (.c (.int 29))) .nl))) (some (wS t)::some (.int (k:Int))::x) S=.ok (wS [c]) S:=fun x=>by
  refine aD (aa r_c (aa (aY (aY (r_v rfl) r_c (j6 ⟨by decide,by decide⟩)) r_c (eV (by decide))) aj)) ?_
  rw [show (k:Int) / 1000 % 29=((k / 1000 % 29:Nat):Int) by omega]
  exact vo hj
 have e5:∀ x,ev sub (ai sub P n) (.bin .mod (.bin .fdiv (.v 1) (.c (.int 40000))) (.c (.int 6))) (some (wS t)::some (.int (k:Int))::x) S=.ok (.int w) S:=fun x=>by
  rw [hw]
  exact aY (aY (r_v rfl) r_c (j6 ⟨by decide,by decide⟩)) r_c (eV (by decide))
 have pre:∀ {fl:Fl} {U:af},exec sub (ai sub P n) (.seq (.ite (.cmp .eq (.v 5) (.c (.int 0)))
  (.ret (.bin .add (.bin .add (.bi .tTo (.cs (.v 0) (.cs (.v 3) .nl))) (.v 4)) (.bi .tFrom (.cs (.v 0) (.cs (.v 3) .nl)))))
  .skip)
 (.seq (.ite (.cmp .eq (.v 5) (.c (.int 1)))
  (.ret (.bin .add (.bi .tTo (.cs (.v 0) (.cs (.v 3) .nl))) (.bi .tFrom (.cs (.v 0) (.cs (.bin .add (.v 3) (.c (.int 1))) .nl)))))
  .skip)
 (.seq (.ite (.cmp .eq (.v 5) (.c (.int 2)))
  (.ret (.bin .add (.bin .add (.bi .tTo (.cs (.v 0) (.cs (.v 3) .nl))) (.v 4)) (.bi .tFrom (.cs (.v 0) (.cs (.bin .add (.v 3) (.c (.int 1))) .nl)))))
  .skip)
 (.seq (.ite (.cmp .eq (.v 5) (.c (.int 3)))
  (.ret (.bin .add (.bi .tTo (.cs (.v 0) (.cs (.v 3) .nl))) (.bi .tFrom (.cs (.v 0) (.cs (.bin .add (.v 3) (.bin .mod (.bin .fdiv (.v 1) (.c (.int 7))) (.c (.int 9)))) .nl)))))
  .skip)
 (.seq (.ite (.cmp .eq (.v 5) (.c (.int 4)))
  (.ret (.ix (.lst (.cs (.bin .add (.v 0) (.v 0)) (.cs (.bin .add (.bi .tFrom (.cs (.v 0) (.cs (.v 3) .nl))) (.bi .tTo (.cs (.v 0) (.cs (.v 3) .nl)))) (.cs (.bin .add (.c (.str " ")) (.v 0)) (.cs (.bin .add (.v 0) (.c (.str " "))) .nl))))) (.bin .mod (.v 1) (.c (.int 4)))))
  .skip)
 (.ret (.ix (.v 2) (.bin .mod (.v 1) (.bi .len (.cs (.v 2) .nl)))))))))) [some (wS t),some (.int (k:Int)),some (.loc m),some (.int (a:Int)),some (wS [c]),some (.int w)] S=.ok fl U->exec sub (ai sub P n) gY.body (frame gY [wS t,.int (k:Int),.loc m]) S=.ok fl U:=fun e =>
  ak (aI (e3 _)) (ak (aI (e4 _)) (ak (aI (e5 _)) e))
 have no:∀ (j:Int) (q:EV.S),w≠j->exec sub (ai sub P n) (.ite (.cmp .eq (.v 5) (.c (.int j))) q .skip) [some (wS t),some (.int (k:Int)),some (.loc m),some (.int (a:Int)),some (wS [c]),some (.int w)] S=.ok (.nx [some (wS t),some (.int (k:Int)),some (.loc m),some (.int (a:Int)),some (wS [c]),some (.int w)]) S:=fun j q h =>
  aL (t_k (bA (bx (r_v rfl) r_c (gO _ _ _))) (beq_eq_false_iff_ne.mpr h)) aM
 have yes:∀ {j:Int} {q:EV.S} {fl:Fl} {U:af},w=j->exec sub (ai sub P n) q [some (wS t),some (.int (k:Int)),some (.loc m),some (.int (a:Int)),some (wS [c]),some (.int w)] S=.ok fl U->exec sub (ai sub P n) (.ite (.cmp .eq (.v 5) (.c (.int j))) q .skip) [some (wS t),some (.int (k:Int)),some (.loc m),some (.int (a:Int)),some (wS [c]),some (.int w)] S=.ok fl U:=fun h e =>
  bR (t_k (bA (bx (r_v rfl) r_c (gO _ _ _))) (beq_iff_eq.mpr h)) e
 obtain ⟨σ,hσ⟩:∃ σ:Sg,σ=[some (wS t),some (.int (k:Int)),some (.loc m),some (.int (a:Int)),some (wS [c]),some (.int w)]:=⟨_,rfl⟩
 have v0:∀ T,ev sub (ai sub P n) (.v 0) σ T=.ok (wS t) T:=fun T=>by rw [hσ]; exact r_v rfl
 have v1:∀ T,ev sub (ai sub P n) (.v 1) σ T=.ok (.int (k:Int)) T:=fun T=>by rw [hσ]; exact r_v rfl
 have v3:∀ T,ev sub (ai sub P n) (.v 3) σ T=.ok (.int (a:Int)) T:=fun T=>by rw [hσ]; exact r_v rfl
 have v4:∀ T,ev sub (ai sub P n) (.v 4) σ T=.ok (wS [c]) T:=fun T=>by rw [hσ]; exact r_v rfl
 have to:ev sub (ai sub P n) (.bi .tTo (.cs (.v 0) (.cs (.v 3) .nl))) σ S=.ok (wS (t.take a)) S:=aD (aa (v0 _) (aa (v3 _) aj)) (Fj hal (by omega))
 have fr:∀ {e:E} {b:Nat},ev sub (ai sub P n) e σ S=.ok (.int (b:Int)) S->ev sub (ai sub P n) (.bi .tFrom (.cs (.v 0) (.cs e .nl))) σ S=.ok (wS (t.drop b)) S:=fun h=>aD (aa (v0 _) (aa h aj)) (sN (by omega))
 have v31:ev sub (ai sub P n) (.bin .add (.v 3) (.c (.int 1))) σ S=.ok (.int ((a+1:Nat):Int)) S:=aY (v3 _) r_c (gS _ _ _)
 have v37:ev sub (ai sub P n) (.bin .add (.v 3) (.bin .mod (.bin .fdiv (.v 1) (.c (.int 7))) (.c (.int 9)))) σ S=.ok (.int ((a+k / 7 % 9:Nat):Int)) S:=by
  refine (aY (v3 _) (aY (aY (v1 _) r_c (j6 ⟨by decide,by decide⟩)) r_c (eV (by decide))) (gS _ _ _)).trans ?_
  rw [show (a:Int)+(k:Int) / 7 % 9=((a+k / 7 % 9:Nat):Int) by omega]
 have lt:∀ b,(t.take b).length<=t.length:=fun b=>by rw [List.length_take]; omega
 have ld:∀ b,(t.drop b).length<=t.length:=fun b=>by rw [List.length_drop]; omega
 have l1:=lt a
 have l2:=ld a
 have l3:=ld (a+1)
 have l4:=ld (a+k / 7 % 9)
 have fin:∀ {u:Wd} {U:af},exec sub (ai sub P n) gY.body (frame gY [wS t,.int (k:Int),.loc m]) S=.ok (.rt (wS u)) U->S <+: U->cU u->∃ d,ai sub P (n+1) "_law_spoilt" [wS t,.int (k:Int),.loc m] S=.ok d S/\((∃ u,d=wS u/\cU u)\/d∈more):=fun e p h =>
  ⟨_,x_call (ds:=[wS t,.int (k:Int),.loc m]) hs rfl e (bf rfl (ee p)),.inl ⟨_,rfl,h⟩⟩
 rw [<- hσ] at pre no yes
 have hw6:w=0\/w=1\/w=2\/w=3\/w=4\/w=5:=by omega
 rcases hw6 with q|q|q|q|q|q
 ·exact fin (pre (bG (yes q (aB (a_ (a_ to (v4 _) (by rw [List.length_singleton]; omega)) (fr (v3 _)) (by rw [List.length_append,List.length_singleton]; omega)))))) (List.prefix_refl _) ⟨((ha.tk _).app (Asc.one hc)).app (ha.dr _),by rw [List.length_append,List.length_append,List.length_singleton]; omega⟩
 ·exact fin (pre (ak (no _ _ (by omega)) (bG (yes q (aB (a_ to (fr v31) (by omega))))))) (List.prefix_refl _) ⟨(ha.tk _).app (ha.dr _),by rw [List.length_append]; omega⟩
 ·exact fin (pre (ak (no _ _ (by omega)) (ak (no _ _ (by omega)) (bG (yes q (aB (a_ (a_ to (v4 _) (by rw [List.length_singleton]; omega)) (fr v31) (by rw [List.length_append,List.length_singleton]; omega)))))))) (List.prefix_refl _) ⟨((ha.tk _).app (Asc.one hc)).app (ha.dr _),by rw [List.length_append,List.length_append,List.length_singleton]; omega⟩
 ·exact fin (pre (ak (no _ _ (by omega)) (ak (no _ _ (by omega)) (ak (no _ _ (by omega)) (bG (yes q (aB (a_ to (fr v37) (by omega))))))))) (List.prefix_refl _) ⟨(ha.tk _).app (ha.dr _),by rw [List.length_append]; omega⟩
 ·have hb:Asc ((" " : Str).cps.toList)/\(" " : Str).cps.toList.length=1:=⟨by unfold Asc; decide,by decide⟩
  obtain ⟨b,eb⟩:∃ b,b=(" " : Str).cps.toList:=⟨_,rfl⟩
  rw [<- eb] at hb
  have hws:∀ u∈[t++t,t.drop a++t.take a,b++t,t++b],cU u:=by
   intro u hu
   simp only [List.mem_cons,List.not_mem_nil,or_false] at hu
   rcases hu with rfl|rfl|rfl|rfl
   ·exact ⟨ha.app ha,by rw [List.length_append]; omega⟩
   ·exact ⟨(ha.dr _).app (ha.tk _),by rw [List.length_append]; omega⟩
   ·exact ⟨hb.1.app ha,by rw [List.length_append]; omega⟩
   ·exact ⟨ha.app hb.1,by rw [List.length_append]; omega⟩
  have hq:k % 4 < [t++t,t.drop a++t.take a,b++t,t++b].length:=Nat.mod_lt _ (by decide:0 < 4)
  have e1:ev sub (ai sub P n) (.c (.str " ")) σ S=.ok (wS b) S:=by rw [eb]; exact bV
  have lst:=cy (aa (a_ (v0 S) (v0 S) (by omega)) (aa (a_ (fr (v3 _)) to (by omega)) (aa (a_ e1 (v0 S) (by omega)) (aa (a_ (v0 S) e1 (by omega)) aj)))) rfl
  have hat:atI [wS (t++t),wS (t.drop a++t.take a),wS (b++t),wS (t++b)] ((k:Int) % 4)=some (wS [t++t,t.drop a++t.take a,b++t,t++b][k % 4]):=by
   rw [show (k:Int) % 4=((k % 4:Nat):Int) by omega,fC]
   show ([t++t,t.drop a++t.take a,b++t,t++b].map wS)[k % 4]?=_
   rw [List.getElem?_map,List.getElem?_eq_getElem hq]; rfl
  exact fin (pre (ak (no _ _ (by omega)) (ak (no _ _ (by omega)) (ak (no _ _ (by omega)) (ak (no _ _ (by omega)) (bG (yes q (aB (aG lst (aY (v1 _) r_c (eV (by decide))) (pS hat)))))))))) (List.prefix_append _ _) (hws _ (List.getElem_mem hq))
 ·have hp:0 < more.length:=List.length_pos_iff.mpr h0
  have hq:k % more.length < more.length:=Nat.mod_lt _ hp
  have v2:ev sub (ai sub P n) (.v 2) σ S=.ok (.loc m) S:=by rw [hσ]; exact r_v rfl
  have hat:atI more ((k:Int) % (more.length:Int))=some more[k % more.length]:=by
   rw [<- Int.natCast_emod,fC,List.getElem?_eq_getElem hq]
  have e:=pre (ak (no _ _ (by omega)) (ak (no _ _ (by omega)) (ak (no _ _ (by omega)) (ak (no _ _ (by omega)) (ak (no _ _ (by omega)) (aB (aG v2 (aY (v1 _) (aD (aa v2 aj) (jn hm)) (eV (by omega))) (gJ hm hat))))))))
  exact ⟨_,x_call (ds:=[wS t,.int (k:Int),.loc m]) hs rfl e (Ab (hl _ (List.getElem_mem hq)) List.take_length),.inr (List.getElem_mem hq)⟩
end
end RL

namespace RL
open PySem EV GO
theorem nT {l:Lp} (hl:l.WF):Asc (textOf l):=by
 refine j_ (by decide) fun w hw=>?_
 rcases List.mem_append.mp hw with hw|hw
 ·obtain ⟨r,hr,rfl⟩:=List.mem_map.mp hw
  exact j_ (by decide) (nX hl r hr).asc
 ·rw [List.mem_singleton.mp hw]; exact fun c hc=>by cases hc
theorem qP (c:Nat) (p:Wd):∀ ps:List Wd,∃ Y,glue c (ps++[p])=Y++p
 | []=>⟨[],rfl⟩
 | [q]=>⟨q++[c],by show q++c::p=_; simp⟩
 | q::r::s=>by
  obtain ⟨Y,e⟩:=qP c p (r::s)
  refine ⟨q++c::Y,?_⟩
  show q++c::glue c (r::s++[p])=_
  rw [e]; simp
theorem jb {l:Lp} (hl:l.WF):∃ X d,textOf l=X++[d,10]/\48<=d:=by
 have ho:=hl.nouts
 have h0:l.outs≠[]:=by intro z; rw [z] at ho; cases ho
 obtain ⟨k,hk⟩:∃ k,k=l.outs.getLast h0:=⟨_,rfl⟩
 have e1:l.outs=l.outs.dropLast++[k]:=by rw [hk]; exact (List.dropLast_concat_getLast h0).symm
 obtain ⟨Y,e2⟩:=qP 32 (ah k) (aS::l.outs.dropLast.map ah)
 have hn:ah k≠[]:=by intro z; have:=r6 k; rw [z] at this; cases this
 obtain ⟨d,hd⟩:∃ d,d=(ah k).getLast hn:=⟨_,rfl⟩
 have e3:ah k=(ah k).dropLast++[d]:=by rw [hd]; exact (List.dropLast_concat_getLast hn).symm
 have hd2:=gD (show d∈ah k by rw [hd]; exact List.getLast_mem hn)
 have e4:glue 32 (aS::l.outs.map ah)=Y++ah k:=by
  rw [<- e2]
  conv=>lhs; rw [e1]
  rw [List.map_append]; rfl
 obtain ⟨A,hA⟩:∃ A,A=([aH,ah l.streams]::(l.crews.map (fun c=>[aF,ah c.1,ah c.2])++l.works.map (fun w=>aC::aE w))):=⟨_,rfl⟩
 have er:b9 l=A++[aS::l.outs.map ah]:=by rw [hA]; unfold b9; simp
 refine ⟨(A.map aq).flatten++Y++(ah k).dropLast,d,?_,hd2.1⟩
 rw [j9,er,List.map_append,List.flatten_append]
 show _++(aq (aS::l.outs.map ah)++[])=_
 unfold aq
 rw [e4,e3]
 simp
theorem vN {l l':Lp} (hl:l.WF):¬ Told (textOf l).dropLast l':=fun ⟨h,e⟩=>by
 obtain ⟨X,d,e1,h1⟩:=jb hl
 obtain ⟨Y,c,e2,h2⟩:=jb h
 rw [e1,e2,show X++[d,10]=X++[d]++[10] by simp,List.dropLast_concat] at e
 have:=congrArg List.getLast? e
 rw [show Y++[c,10]=Y++[c]++[10] by simp,List.getLast?_concat,List.getLast?_concat] at this
 cases this
 omega
theorem EF {l l':Lp} (hl:l.WF):¬ Told (textOf l++[10]) l':=fun ⟨h,e⟩=>by
 obtain ⟨X,d,e1,h1⟩:=jb hl
 obtain ⟨Y,c,e2,h2⟩:=jb h
 rw [e1,e2,show Y++[c,10]=Y++[c]++[10] by simp] at e
 have:=(List.append_inj' e rfl).1
 have:=congrArg List.getLast? this
 rw [show X++[d,10]=X++[d]++[10] by simp,List.getLast?_concat,List.getLast?_concat] at this
 cases this
 omega
theorem DA {P:Prg} (h:HB P) {l:Lp} (hl:l.WF):RB.cX l.toD=true:=by
 have e1:=nQ (sub:=fun _ _=>false) (n:=0) (S:=[]) h hl
 have hf:RB.fit 0 l.toD=true:=by rw [<- jc hl]; exact uu 0 _
 have e2:=RB.pM (sub:=fun _ _=>false) (n:=0) (S:=[]) h (fun l c h=>by cases h) hf
 rw [e1] at e2
 injection e2 with e2
 injection e2 with e2
 exact e2.symm
theorem CU {P:Prg} (h:HB P) {u:Wd} (hu:RB.cX (looseD u)=false) (l:Lp):¬ Told u l:=fun ⟨hl,e⟩=>by
 rw [<- e,jc hl,DA h hl] at hu
 cases hu
noncomputable def bg (x:Str):Wd:=x.cps.toList
noncomputable def pT:Wd:=bg "streams 1\ncrew 1 1\n"
noncomputable def cO:List Wd:=[pT++bg "work 0 1 plus i1 / 0 0 0\nouts 0\n",pT++bg "work 0 1 plus w0-0 / 0 0 0\nouts 0\n",pT++bg "work 0 1 plus i0 / 0 0\nouts 0\n",pT++bg "work 0 1 plus / 0 0 0\nouts 0\n",pT++bg "work 0 1 plus i0 / 0 0 0\nouts\n",pT++bg "outs 0\n",bg "",bg "streams 0\n"]
theorem yo:cO.all (fun u=>!RB.cX (looseD u))=true:=by decide +kernel
theorem xV {P:Prg} (h:HB P) {u:Wd} (hu:u∈cO) (l:Lp):¬ Told u l:=CU h (by
 have:=List.all_eq_true.mp yo u hu
 cases q:RB.cX (looseD u) with
 | false=>rfl
 | true=>rw [q] at this; cases this) l
noncomputable def iU:Wd:=pT++bg "work 0 1 plus 05 / 0 0 0\nouts 0\n"
noncomputable def turnT:Wd:=bg "streams 0\nwork 0 1 plus 1 / 0 0 0\ncrew 1 1\nouts 0\n"
theorem BG:rowsOf iU=[[aH,[49]],[aF,[49],[49]],[aC,[48],[49],bg "plus",[48,53],[47],[48],[48],[48]],[aS,[48]],[[]]]:=by decide +kernel
theorem zC:rowsOf turnT=[[aH,[48]],[aC,[48],[49],bg "plus",[49],[47],[48],[48],[48]],[aF,[49],[49]],[aS,[48]],[[]]]:=by decide +kernel
theorem yL (l:Lp):¬ Told turnT l:=fun ⟨hl,e⟩=>by
 have h:=nV hl
 rw [e,zC] at h
 have hc:=hl.ncrews.1
 unfold b9 at h
 cases q:l.crews with
 | nil=>rw [q] at hc; cases hc
 | cons c r =>
  rw [q] at h
  injection h with _ h
  injection h with h _
  injection h with h _
  exact absurd h (by decide)
theorem zc (s:Srs):aO s≠[48,53]:=by
 cases s with
 | val v =>
  intro z
  have:=congrArg valN (show ah v.toNat=[48,53] from z)
  rw [qG] at this
  have h5:v.toNat=5:=this
  rw [show aO (.val v)=ah v.toNat from rfl,h5] at z
  exact absurd z (by decide)
 | inp k=>intro z; injection z with z _; cases z
 | wrk a b=>intro z; injection z with z _; cases z
theorem DW (l:Lp):¬ Told iU l:=fun ⟨hl,e⟩=>by
 have h:=nV hl
 rw [e,BG] at h
 have hr:[aC,[48],[49],bg "plus",[48,53],[47],[48],[48],[48]]∈b9 l++[[[]]]:=by rw [<- h]; simp
 rcases List.mem_append.mp hr with hr|hr
 ·unfold b9 at hr
  rcases List.mem_cons.mp hr with hr|hr
  ·exact absurd (congrArg List.head? hr) (by show some aC≠some aH; decide)
  ·rcases List.mem_append.mp hr with hr|hr
   ·obtain ⟨c,_,hr⟩:=List.mem_map.mp hr
    exact absurd (congrArg List.head? hr) (by show some aF≠some aC; decide)
   ·rcases List.mem_append.mp hr with hr|hr
    ·obtain ⟨w,hw,hr⟩:=List.mem_map.mp hr
     obtain ⟨i,hi⟩:=List.getElem?_of_mem hw
     have h1:=(hl.works i w hi).some.1
     unfold aE at hr
     cases q:w.srcs with
     | nil=>rw [q] at h1; cases h1
     | cons s r =>
      rw [q] at hr
      injection hr with _ hr
      injection hr with _ hr
      injection hr with _ hr
      injection hr with _ hr
      injection hr with hr _
      exact zc s hr
    ·exact absurd (congrArg List.head? (List.mem_singleton.mp hr)) (by show some aC≠some aS; decide)
 ·exact absurd (List.mem_singleton.mp hr) (by decide)
theorem oS {S:af} {x:D}:∀ {ys:List D},(∀ y∈ys,∃ b,eqD deep S y x=some b)->∃ b,inL S x ys=some b/\(b=true ↔ ∃ y∈ys,eqD deep S y x=some true)
 | [],_=>⟨false,rfl,by simp⟩
 | y::r,h=>by
  obtain ⟨a,ha⟩:=h y List.mem_cons_self
  obtain ⟨b,hb,ib⟩:=oS (ys:=r) fun z hz=>h z (List.mem_cons_of_mem _ hz)
  refine ⟨a||b,?_,?_⟩
  ·show (match eqD deep S y x,inL S x r with|some a,some b=>some (a||b)|_,_=>none)=_
   rw [ha,hb]
  ·rw [Bool.or_eq_true,ib]
   constructor
   ·rintro (q|⟨z,hz,e⟩)
    ·exact ⟨y,List.mem_cons_self,by rw [ha,q]⟩
    ·exact ⟨z,List.mem_cons_of_mem _ hz,e⟩
   ·rintro ⟨z,hz,e⟩
    rcases List.mem_cons.mp hz with rfl|hz
    ·rw [ha] at e; injection e with e; exact .inl e
    ·exact .inr ⟨z,hz,e⟩
section
variable {S:af}
theorem eg {n:Nat} {xs:List D} (h:∀ x∈xs,eqD n S x x=some true):eqD (n+1) S (.tup xs) (.tup xs)=some true:=by
 show (bX (eqD n S) xs xs).map (fun r=>r&&(xs.length==xs.length))=_
 rw [kG h]
 simp
theorem iz (n:Nat) (x:Str):eqD (n+1) S (.str x) (.str x)=some true:=by
 show some (x==x)=_
 simp
theorem CB (n:Nat) (s:Srs):eqD (n+2) S s.toD s.toD=some true:=by
 cases s with
 | val v=>exact eg fun x hx=>by rcases (by simpa using hx:x=_\/x=_) with rfl|rfl; exact iz _ _; exact eu _ _
 | inp v=>exact eg fun x hx=>by rcases (by simpa using hx:x=_\/x=_) with rfl|rfl; exact iz _ _; exact eu _ _
 | wrk a b=>exact eg fun x hx=>by rcases (by simpa using hx:x=_\/x=_\/x=_) with rfl|rfl|rfl; exact iz _ _; exact eu _ _; exact eu _ _
theorem AR (n:Nat) (w:Wk):eqD (n+4) S w.toD w.toD=some true:=eg fun x hx=>by
 rcases (by simpa using hx:x=_\/x=_\/x=_\/x=_\/x=_) with rfl|rfl|rfl|rfl|rfl
 ·exact eu _ _
 ·exact eu _ _
 ·exact iz _ _
 ·exact eg fun x hx=>by obtain ⟨s,_,rfl⟩:=List.mem_map.mp hx; exact CB n s
 ·exact Gm _ _
theorem su (l:Lp):eqD 12 S l.toD l.toD=some true:=eg fun x hx=>by
 rcases (by simpa using hx:x=_\/x=_\/x=_\/x=_) with rfl|rfl|rfl|rfl
 ·exact eu _ _
 ·exact eg fun x hx=>by
   obtain ⟨c,_,rfl⟩:=List.mem_map.mp hx
   exact eg fun x hx=>by rcases (by simpa using hx:x=_\/x=_) with rfl|rfl <;> exact eu _ _
 ·exact eg fun x hx=>by obtain ⟨w,_,rfl⟩:=List.mem_map.mp hx; exact AR 6 w
 ·exact eg fun x hx=>by obtain ⟨k,_,rfl⟩:=List.mem_map.mp hx; exact eu _ _
theorem EN (l:Lp):cmD .ne l.toD l.toD S=.ok (.bl false) S:=by
 rw [yc,if_pos (show fY l.toD l.toD=true from rfl),show deep=12 from rfl,su]; rfl
end
end RL

namespace K23
open PySem EV RL GO
noncomputable def qg:Fn:=⟨1,1,(.ret (.call "written" (.cs (.call "checked" (.cs (.v 0) .nl)) .nl)))⟩
noncomputable def jI:EV.S:=(.seq (.set (.one 5) (.call "_law_spoilt" (.cs (.v 2) (.cs (.call "_law_mixed" (.cs (.v 0) (.cs (.c (.int 0)) (.cs (.bin .pow (.c (.int 10)) (.c (.int 7))) .nl)))) (.cs (.v 4) .nl)))))
 (.seq (.set (.one 6) (.call "_law_told" (.cs (.v 5) .nl)))
 (.seq (.ite (.cmp .isin (.v 5) (.v 4))
  (.ret (.isN (.v 6)))
  .skip)
 (.seq (.ite (.isN (.v 6))
  (.ret (.cmp .ne (.v 5) (.v 2)))
  .skip)
 (.ret (.and (.cmp .ne (.v 6) (.c (.int 0))) (.and (.cmp .eq (.call "checked" (.cs (.v 6) .nl)) (.v 6)) (.cmp .eq (.call "_law_text" (.cs (.v 6) .nl)) (.v 5)))))))))
noncomputable def pL:EV.S:=(.seq (.set (.one 4) (.lst (.cs (.bin .add (.v 3) (.c (.str "work 0 1 plus i1 / 0 0 0\nouts 0\n"))) (.cs (.bin .add (.v 3) (.c (.str "work 0 1 plus w0-0 / 0 0 0\nouts 0\n"))) (.cs (.c .non) (.cs (.c (.int 5)) .nl))))))
 (.seq (.ex (.me .extend (.v 4) (.cs (.lst (.cs (.bin .add (.v 3) (.c (.str "work 0 1 plus i0 / 0 0\nouts 0\n"))) (.cs (.bin .add (.v 3) (.c (.str "work 0 1 plus / 0 0 0\nouts 0\n"))) (.cs (.lst (.cs (.v 2) .nl)) .nl)))) .nl)))
 (.seq (.ex (.me .extend (.v 4) (.cs (.lst (.cs (.bin .add (.v 3) (.c (.str "work 0 1 plus i0 / 0 0 0\nouts\n"))) (.cs (.bin .add (.v 3) (.c (.str "outs 0\n"))) .nl))) .nl)))
 (.seq (.ex (.me .append (.v 4) (.cs (.bin .add (.v 3) (.c (.str "work 0 1 plus 05 / 0 0 0\nouts 0\n"))) .nl)))
 (.seq (.ex (.me .extend (.v 4) (.cs (.lst (.cs (.c (.str "streams 0\nwork 0 1 plus 1 / 0 0 0\ncrew 1 1\nouts 0\n")) (.cs (.bi .tTo (.cs (.v 2) (.cs (.neg (.c (.int 1))) .nl))) (.cs (.bin .add (.v 2) (.c (.str "\n"))) (.cs (.c (.str "")) (.cs (.c (.str "streams 0\n")) .nl)))))) .nl)))
 jI)))))
noncomputable def uA:Fn:=⟨1,7,(.seq (.set (.one 1) (.call "_law_loop" (.cs (.v 0) (.cs (.c (.int 2)) (.cs (.c (.int 4)) .nl)))))
 (.seq (.set (.one 2) (.call "shown" (.cs (.v 1) .nl)))
 (.seq (.ite (.or (.not (.bi (.inst .str) (.cs (.v 2) .nl))) (.or (.cmp .ne (.v 2) (.call "_law_text" (.cs (.v 1) .nl))) (.cmp .ne (.call "read" (.cs (.v 2) .nl)) (.v 1))))
  (.ret (.c (.bl false)))
  .skip)
 (.seq (.set (.one 3) (.c (.str "streams 1\ncrew 1 1\n")))
 pL))))⟩
noncomputable def Pd:Prg:=[(("is_whole" : Str),fz),(("is_value" : Str),iK),(("is_row" : Str),eW),(("is_crew" : Str),jv),(("are_crews" : Str),i7),(("is_work_source" : Str),gq),(("is_source" : Str),ki),(("are_starts" : Str),i6),(("is_work" : Str),kj),(("are_works" : Str),iW),(("are_outs" : Str),gP),(("is_loop" : Str),kX),(("checked" : Str),oJ),(("row_of" : Str),nI),(("source_text" : Str),gE),(("work_row" : Str),sU),(("written" : Str),mL),(("shown" : Str),qg),(("number_of" : Str),iC),(("numbers_of" : Str),m6),(("source_of" : Str),ow),(("work_of" : Str),t7),(("rows_headed" : Str),jN),(("loosely_read" : Str),iS),(("read" : Str),oQ),(("_law_cell_at" : Str),oV),(("_law_mixed" : Str),pH),(("_law_source" : Str),uL),(("_law_work" : Str),rm),(("_law_loop" : Str),pC),(("_law_source_text" : Str),gE),(("_law_text" : Str),uT),(("_law_spoilt" : Str),gY),(("_law_told" : Str),nN),(("law" : Str),uA)]
theorem hB:HB Pd:=⟨rfl,rfl,rfl,rfl,rfl,rfl,rfl,rfl,rfl,rfl,rfl,rfl,rfl⟩
theorem hG:HG Pd:=⟨rfl,rfl,rfl,rfl,rfl⟩
theorem hT:HT Pd:=⟨rfl,rfl,rfl,rfl⟩
theorem hW2:HW2 Pd:=⟨rfl,rfl,rfl⟩
theorem hRd:HRd Pd:=⟨hB,hT,rfl,rfl,hW2,rfl,rfl⟩
abbrev sb:Sub:=fun _ _=>false
abbrev ie:=ai sb Pd 29
variable {sub:Sub} {cf:Str->List D->M D} {σ:Sg} {S T:af} {l:Lp}
noncomputable def mo (t:Wd):List D:=[wS (pT++bg "work 0 1 plus i1 / 0 0 0\nouts 0\n"),wS (pT++bg "work 0 1 plus w0-0 / 0 0 0\nouts 0\n"),.non,.int 5,wS (pT++bg "work 0 1 plus i0 / 0 0\nouts 0\n"),wS (pT++bg "work 0 1 plus / 0 0 0\nouts 0\n"),.loc 1,wS (pT++bg "work 0 1 plus i0 / 0 0 0\nouts\n"),wS (pT++bg "outs 0\n"),wS iU,wS turnT,wS t.dropLast,wS (t++[10]),wS (bg ""),wS (bg "streams 0\n")]
theorem BR {a:E} {x:D} {S1:af} (h:ev sub cf a σ S=.ok x S1):ev sub cf (.isN a) σ S=.ok (.bl (decide (x=.non))) S1:=by rw [u6,h]; rfl
theorem jJ {a:E} {x:D} {S1:af} (h:ev sub cf a σ S=.ok x S1):evT sub cf (.isN a) σ S=.ok (decide (x=.non)) S1:=by rw [Ay,h]; rfl
noncomputable def Odd (u:Wd):Prop:=cU u/\∀ l',¬ Told u l'
theorem De:(iU::turnT::cO).all (fun u=>u.all (fun c=>decide (c < 128))&&decide (u.length<=1000))=true:=by decide +kernel
theorem nj {u:Wd} (h:u∈iU::turnT::cO):cU u:=by
 have:=List.all_eq_true.mp De u h
 rw [Bool.and_eq_true] at this
 refine ⟨fun c hc=>of_decide_eq_true (List.all_eq_true.mp this.1 c hc),?_⟩
 have:=of_decide_eq_true this.2
 omega
theorem ff {u:Wd} (h:u∈cO):Odd u:=⟨nj (List.mem_cons_of_mem _ (List.mem_cons_of_mem _ h)),fun l=>xV hB h l⟩
theorem jx (hl:l.WF) {d:D} (h:d∈mo (textOf l)):(∃ u,d=wS u/\Odd u)\/d=.non\/d=.int 5\/d=.loc 1:=by
 have hz:=text_len hl
 have ha:=nT hl
 have od:∀ {u:Wd},u∈cO->wS u=wS u/\Odd u:=fun h=>⟨rfl,ff h⟩
 unfold mo at h
 simp only [List.mem_cons,List.not_mem_nil,or_false] at h
 rcases h with h|h|h|h|h|h|h|h|h|h|h|h|h|h|h
 ·exact .inl ⟨_,h,ff (by simp [cO])⟩
 ·exact .inl ⟨_,h,ff (by simp [cO])⟩
 ·exact .inr (.inl h)
 ·exact .inr (.inr (.inl h))
 ·exact .inl ⟨_,h,ff (by simp [cO])⟩
 ·exact .inl ⟨_,h,ff (by simp [cO])⟩
 ·exact .inr (.inr (.inr h))
 ·exact .inl ⟨_,h,ff (by simp [cO])⟩
 ·exact .inl ⟨_,h,ff (by simp [cO])⟩
 ·exact .inl ⟨_,h,nj List.mem_cons_self,DW⟩
 ·exact .inl ⟨_,h,nj (List.mem_cons_of_mem _ List.mem_cons_self),yL⟩
 ·exact .inl ⟨_,h,⟨fun c hc=>ha c (List.dropLast_subset _ hc),by rw [List.length_dropLast]; omega⟩,fun l'=>vN hl⟩
 ·exact .inl ⟨_,h,⟨ha.app (Asc.one (by decide)),by rw [List.length_append,List.length_singleton]; omega⟩,fun l'=>EF hl⟩
 ·exact .inl ⟨_,h,ff (by simp [cO])⟩
 ·exact .inl ⟨_,h,ff (by simp [cO])⟩
noncomputable def stM (t:Wd) (A B C:List D):af:=[.lst (mo t),.lst [wS t],.lst A,.lst B,.lst C]
theorem DL (t:Wd) (A B C:List D):bW (stM t A B C):=fun i c h=>by
 rcases i with _|_|_|_|_|i <;> first|exact ⟨_,(Option.some.inj h).symm⟩|cases h
noncomputable def Kd4 (d:D):Prop:=(∃ u,d=wS u)\/d=.non\/d=.int 5\/d=.loc 1
theorem Fc {t:Wd} {A B C:List D} {y x:D} (hy:Kd4 y) (hx:Kd4 x):∃ b,eqD deep (stM t A B C) y x=some b:=by
 rcases hy with ⟨u,rfl⟩|rfl|rfl|rfl <;> rcases hx with ⟨v,rfl⟩|rfl|rfl|rfl <;> exact ⟨_,rfl⟩
theorem Au {t:Wd} {A B C:List D} {x:D} (hx:Kd4 x):eqD deep (stM t A B C) x x=some true:=by
 rcases hx with ⟨v,rfl⟩|rfl|rfl|rfl
 ·exact iz _ _
 ·rfl
 ·rfl
 ·show bX (eqD 11 (stM t A B C)) [wS t] [wS t]=some true
  rw [kG fun x hx=>by rw [List.mem_singleton.mp hx]; exact iz _ _]
theorem Cs {t:Wd} {A B C:List D} {y:D} {u:Wd} (hy:Kd4 y) (h:eqD deep (stM t A B C) y (wS u)=some true):y=wS u:=by
 rcases hy with ⟨v,rfl⟩|rfl|rfl|rfl
 ·have h:some (tx v==tx u)=some true:=h
  rw [gA] at h
  rw [of_decide_eq_true (Option.some.inj h)]
 ·cases h
 ·cases h
 ·cases h
theorem DF {x:D} {m:Nat} {ys:List D} {b:Bool} (hm:S[m]?=some (.lst ys)) (h:inL S x ys=some b):cmD .isin x (.loc m) S=.ok (.bl b) S:=by
 show (items (.loc m)>>=fun ys=>inA false x ys) S=_
 rw [av,eO hm,Res.ao]
 unfold inA
 rw [h]
 cases b <;> rfl
theorem zP {t:Wd} (ht:t.length<=270000) (h1:1<=t.length) {a b:Option D} {x5 x6:Option D}:∃ A B C,∀ {fl:Fl} {U:af},exec sub cf jI [a,b,some (wS t),some (wS pT),some (.loc 0),x5,x6] (stM t A B C)=.ok fl U->exec sub cf pL [a,b,some (wS t),some (wS pT),none,x5,x6] []=.ok fl U:=by
 have ad:∀ {σ:Sg} {T:af} {x:Str},σ[3]?=some (some (wS pT))->x.cps.toList.length<=1000->ev sub cf (.bin .add (.v 3) (.c (.str x))) σ T=.ok (wS (pT++bg x)) T:=fun {σ T x} h hx=>by
  have hp:pT.length<=1000:=by decide
  have hx:(bg x).length<=1000:=hx
  exact a_ (r_v (by unfold bF; rw [h]; rfl)) bV (show pT.length+(bg x).length<=1000000 by omega)
 have hn:("\n" : Str).cps.toList.length=1:=by decide
 have hm:t.length+("\n" : Str).cps.toList.length<=1000000:=by omega
 refine ⟨[wS (pT++bg "work 0 1 plus i0 / 0 0\nouts 0\n"),wS (pT++bg "work 0 1 plus / 0 0 0\nouts 0\n"),.loc 1],[wS (pT++bg "work 0 1 plus i0 / 0 0 0\nouts\n"),wS (pT++bg "outs 0\n")],[wS turnT,wS t.dropLast,wS (t++[10]),wS (bg ""),wS (bg "streams 0\n")],fun e=>?_⟩
 refine ak (aI (cy (aa (ad rfl (by decide)) (aa (ad rfl (by decide)) (aa r_c (aa r_c aj)))) rfl)) ?_
 refine ak (gg (fT (r_v rfl) (aa (cy (aa (ad rfl (by decide)) (aa (ad rfl (by decide)) (aa (cy (aa (r_v rfl) aj) rfl) aj))) rfl) aj) (iT (l:=0) (k:=2) rfl rfl (by decide)) rfl)) ?_
 refine ak (gg (fT (r_v rfl) (aa (cy (aa (ad rfl (by decide)) (aa (ad rfl (by decide)) aj)) rfl) aj) (iT (l:=0) (k:=3) rfl rfl (by decide)) rfl)) ?_
 refine ak (gg (fT (r_v rfl) (aa (ad rfl (by decide)) aj) (jR (l:=0) rfl (by decide)) rfl)) ?_
 refine ak (gg (fT (r_v rfl) (aa (cy (aa bV (aa (aD (aa (r_v rfl) (aa (sj r_c) aj)) (BU h1 (by omega))) (aa (a_ (r_v rfl) bV hm) (aa bV (aa bV aj))))) rfl) aj) (iT (l:=0) (k:=4) rfl rfl (Nat.le_of_ble_eq_true rfl)) rfl)) ?_
 exact e
theorem vd {mx:List Int->Int->Int->Int} (M:Mix Pd mx) (ns:List Int) (hl:l.WF) {A B C:List D} {x5 x6:Option D}:∃ U,exec sb ie jI [some (.fro (ns.map .int)),some l.toD,some (wS (textOf l)),some (wS pT),some (.loc 0),x5,x6] (stM (textOf l) A B C)=.ok (.rt (.bl true)) U:=by
 have hy:=M.rng ns 0 (show (0:Int) < 10000000 by decide)
 obtain ⟨c,hc⟩:∃ c:Nat,(c:Int)=mx ns 0 10000000:=⟨(mx ns 0 10000000).toNat,by omega⟩
 obtain ⟨t,ht⟩:∃ t,t=textOf l:=⟨_,rfl⟩
 have hz:=text_len hl
 have hL:=DL (textOf l) A B C
 obtain ⟨d,e5,hd⟩:=vU (sub:=sb) (P:=Pd) (n:=28) (S:=stM (textOf l) A B C) rfl (nT hl) hz (k:=c) (m:=0) (more:=mo (textOf l)) rfl (by intro z; cases z) (fun d hd=>by
  rcases jx hl hd with ⟨u,rfl,_⟩|rfl|rfl|rfl <;> rfl)
 rw [hc] at e5
 have v5:ev sb ie (.call "_law_spoilt" (.cs (.v 2) (.cs (.call "_law_mixed" (.cs (.v 0) (.cs (.c (.int 0)) (.cs (.bin .pow (.c (.int 10)) (.c (.int 7))) .nl)))) (.cs (.v 4) .nl)))) [some (.fro (ns.map .int)),some l.toD,some (wS (textOf l)),some (wS pT),some (.loc 0),x5,x6] (stM (textOf l) A B C)=.ok d (stM (textOf l) A B C) :=
  au (aa (r_v rfl) (aa (au (aa (r_v rfl) (aa r_c (aa (aY r_c r_c rfl) aj))) (M.ok ns (by decide) (by decide))) (aa (r_v rfl) aj))) e5
 have kd:Kd4 d:=by
  rcases hd with ⟨u,rfl,_⟩|hd
  ·exact .inl ⟨u,rfl⟩
  ·rcases jx hl hd with ⟨u,rfl,_⟩|h
   ·exact .inl ⟨u,rfl⟩
   ·exact .inr h
 have kds:∀ y∈mo (textOf l),Kd4 y:=fun y hy=>by
  rcases jx hl hy with ⟨u,rfl,_⟩|h
  ·exact .inl ⟨u,rfl⟩
  ·exact .inr h
 obtain ⟨b,hb,ib⟩:=oS (S:=stM (textOf l) A B C) (x:=d) (ys:=mo (textOf l)) fun y hy=>Fc (kds y hy) kd
 have ein:=DF (S:=stM (textOf l) A B C) (m:=0) rfl hb
 /- what is found to be no loop's text -/
 have no:(∀ u,d=wS u->u≠textOf l)->((∀ u,d≠wS u)->b=true)->ai sb Pd 28 "read" [d] (stM (textOf l) A B C)=.exc "NoText" (stM (textOf l) A B C)->∃ U,exec sb ie jI [some (.fro (ns.map .int)),some l.toD,some (wS (textOf l)),some (wS pT),some (.loc 0),x5,x6] (stM (textOf l) A B C)=.ok (.rt (.bl true)) U:=fun hne hodd e=>by
  have e6:=EO (P:=Pd) (n:=28) rfl e
  refine ⟨stM (textOf l) A B C,ak (aI v5) (ak (aI (au (aa (r_v rfl) aj) e6)) ?_)⟩
  cases b with
  | true=>exact bG (bR (bA (bx (r_v rfl) (r_v rfl) ein)) (aB (BR (x:=.non) (r_v rfl))))
  | false =>
   obtain ⟨u,rfl⟩:∃ u,d=wS u:=by
    refine Classical.byContradiction fun z=>?_
    have:=hodd (fun u q=>z ⟨u,q⟩)
    cases this
   refine ak (aL (bA (bx (r_v rfl) (r_v rfl) ein)) aM) (bG (bR (jJ (x:=.non) (r_v rfl)) (aB (bx (r_v rfl) (r_v rfl) ?_))))
   show Res.ok (D.bl (!(tx u==tx (textOf l)))) _=_
   rw [gA,decide_eq_false (hne u rfl)]; rfl
 have txt:(∃ u,d=wS u/\cU u)\/(d∈mo (textOf l)/\(d=.non\/d=.int 5\/d=.loc 1)):=by
  rcases hd with h|hd
  ·exact .inl h
  ·rcases jx hl hd with ⟨u,h1,h2⟩|h
   ·exact .inl ⟨u,h1,h2.1⟩
   ·exact .inr ⟨hd,h⟩
 rcases txt with ⟨u,rfl,hu⟩|⟨hm,hk⟩
 ·by_cases q:∃ l',Told u l'
  ·obtain ⟨l',hl'⟩:=q
   have e6:=DK (sub:=sb) (P:=Pd) (n:=28) rfl (uU (sub:=sb) (n:=21) hRd hL hu hl') (by rw [<- jc hl'.1]; exact nU _)
   have b0:b=false:=by
    cases b with
    | false=>rfl
    | true =>
     obtain ⟨y,hy,ey⟩:=ib.mp rfl
     have:=Cs (kds y hy) ey
     rcases jx hl hy with ⟨v,h1,h2⟩|h|h|h
     ·rw [h1] at this
      injection this with this
      have e:v=u:=by have:=congrArg (fun x:Str=>x.cps.toList) this; simpa only [bK] using this
      exact absurd (e ▸ hl') (h2.2 l')
     ·rw [h] at this; cases this
     ·rw [h] at this; cases this
     ·rw [h] at this; cases this
   subst b0
   have e7:=sI (sub:=sb) (n:=22) (S:=stM (textOf l) A B C) hB hl'.1
   have e8:=rS (sub:=sb) (P:=Pd) (n:=27) (S:=stM (textOf l) A B C) rfl rfl hl'.1
   rw [hl'.2] at e8
   refine ⟨stM (textOf l) A B C,ak (aI v5) (ak (aI (au (aa (r_v rfl) aj) e6)) (ak (aL (bA (bx (r_v rfl) (r_v rfl) ein)) aM) (ak (aL (t_k (jJ (x:=l'.toD) (r_v rfl)) rfl) aM) (aB (eZ (bx (r_v rfl) r_c rfl) (eZ (bx (au (aa (r_v rfl) aj) e7) (r_v rfl) ?_) (bx (au (aa (r_v rfl) aj) e8) (r_v rfl) ?_)))))))⟩
   ·rw [nR,show deep=12 from rfl,su]
   ·show Res.ok (D.bl (tx u==tx u)) _=_
    rw [gA,decide_eq_true rfl]
  ·exact no (fun v e=>by
    injection e with e
    have e:u=v:=by have:=congrArg (fun x:Str=>x.cps.toList) e; simpa only [bK] using this
    exact fun z=>q ⟨l,hl,by rw [e,z]⟩) (fun hv=>absurd rfl (hv u)) (Fo (sub:=sb) (n:=21) hRd hL hu fun l' h=>q ⟨l',h⟩)
 ·refine no (fun u e=>by rcases hk with h|h|h <;> (rw [h] at e; cases e)) (fun _=>ib.mpr ⟨d,hm,Au kd⟩) (xh (n:=27) hRd ?_)
  rcases hk with rfl|rfl|rfl <;> rfl
theorem main (ns:List Int) (h:ns.length<=63):∃ S',ai (fun _ _=>false) Pd 30 "law" [.fro (ns.map .int)] []=.ok (.bl true) S':=by
 obtain ⟨mx,M⟩:=CV hG
 have hl:=yt M ns (at':=2) (most:=4) (by decide) (by decide)
 have ed:=Cc (sub:=sb) (n:=24) (S:=[]) hG M ns (at':=2) (most:=4) (by decide) (by decide) (by decide)
 generalize eG mx ns 2 4=l at hl ed
 have hz:=text_len hl
 have h1:1<=(textOf l).length:=by
  obtain ⟨X,d,e,_⟩:=jb hl
  rw [e,List.length_append]; show 1<=X.length+2; omega
 have hu:cU (textOf l):=⟨nT hl,by omega⟩
 have e1:=oq (sub:=sb) (n:=25) (S:=[]) hW2 rfl hl
 have e2:ie "shown" [l.toD] []=.ok (wS (textOf l)) []:=x_call (ds:=[l.toD]) (show Has Pd "shown" qg from rfl) rfl (aB (au (aa (au (aa (r_v rfl) aj) (sI (n:=21) hB hl)) aj) e1)) (bf rfl rfl)
 have e3:=rS (sub:=sb) (P:=Pd) (n:=27) (S:=[]) rfl rfl hl
 have e4:=uU (sub:=sb) (n:=22) (S:=[]) hRd (fun i c h=>by cases h) hu ⟨hl,rfl⟩
 obtain ⟨A,B,C,m⟩:=zP (sub:=sb) (cf:=ie) hz h1 (a:=some (.fro (ns.map .int))) (b:=some l.toD) (x5:=none) (x6:=none)
 obtain ⟨U,e⟩:=vd M ns hl (A:=A) (B:=B) (C:=C) (x5:=none) (x6:=none)
 have tt:evT sb ie (.or (.not (.bi (.inst .str) (.cs (.v 2) .nl))) (.or (.cmp .ne (.v 2) (.call "_law_text" (.cs (.v 1) .nl))) (.cmp .ne (.call "read" (.cs (.v 2) .nl)) (.v 1)))) [some (.fro (ns.map .int)),some l.toD,some (wS (textOf l)),none,none,none,none] []=.ok false []:=by
  refine cj (t_k (bq (eF (aD (aa (r_v rfl) aj) (eT (k:=true) rfl)))) rfl) (cj (t_k (bA (bx (r_v rfl) (au (aa (r_v rfl) aj) e3) (show cmD .ne (wS (textOf l)) (wS (textOf l)) []=.ok (.bl (!(tx (textOf l)==tx (textOf l)))) [] from rfl))) ?_) (bA (bx (au (aa (r_v rfl) aj) e4) (r_v rfl) (EN l))))
  rw [gA,decide_eq_true rfl]; rfl
 refine ⟨[],x_call (ds:=[.fro (ns.map .int)]) (show Has Pd "law" uA from rfl) rfl (ak (aI (au (aa (r_v rfl) (aa r_c (aa r_c aj))) ed)) (ak (aI (au (aa (r_v rfl) aj) e2)) (ak (aL tt aM) (ak (aI bV) (m e))))) (bf rfl rfl)⟩
end K23

namespace EV
open PySem PySem.Spec PyProof.Rows L2
theorem Paired.get {α β:Type} {F:α->β->Prop}:∀ {xs:List α} {ys:List β} {i:Nat} {x:α},Paired F xs ys->xs[i]?=some x->∃ y,ys[i]?=some y/\F x y
 | _,_,_,_,.nil,e=>by simp at e
 | _,_,0,_,.cons r _,e=>by simp at e; subst e; exact ⟨_,rfl,r⟩
 | _,_,i+1,x,.cons _ t,e=>by
  obtain ⟨u,h1,h2⟩:=Paired.get (i:=i) (x:=x) t (by simpa using e)
  exact ⟨u,by simpa using h1,h2⟩
theorem Paired.get' {α β:Type} {F:α->β->Prop} {xs:List α} {ys:List β} {i:Nat} {y:β} (p:Paired F xs ys) (e:ys[i]?=some y):∃ x,xs[i]?=some x/\F x y:=by
 have hl:=p.length
 have hi:i < xs.length:=by rw [hl]; exact (List.getElem?_eq_some_iff.mp e).1
 obtain ⟨y',e',f⟩:=Paired.get p (List.getElem?_eq_getElem hi)
 rw [e] at e'; cases e'
 exact ⟨_,List.getElem?_eq_getElem hi,f⟩
theorem Paired.step {α β:Type} {F:α->β->Prop} {ds:List α} {vs:List β} {n:Nat} (h:Paired F ds vs) (hl:ds.length=n+1):∃ d r v q,ds=d::r/\vs=v::q/\F d v/\Paired F r q/\r.length=n:=by
 cases h with
 | nil=>cases hl
 | cons f t=>exact ⟨_,_,_,_,rfl,rfl,f,t,Nat.succ.inj hl⟩
theorem Paired.last {α β:Type} {F:α->β->Prop} {ds:List α} {vs:List β} (h:Paired F ds vs) (hl:ds.length=0):ds=[]/\vs=[]:=by
 cases h with
 | nil=>exact ⟨rfl,rfl⟩
 | cons f t=>cases hl
theorem Paired.app {α β:Type} {F:α->β->Prop}:∀ {a c:List α} {b d:List β},Paired F a b->Paired F c d->Paired F (a++c) (b++d)
 | _,_,_,_,.nil,s=>s
 | _,_,_,_,.cons r t,s=>.cons r (Paired.app t s)
theorem Paired.tak {α β:Type} {F:α->β->Prop}:∀ {a:List α} {b:List β} (n:Nat),Paired F a b->Paired F (a.take n) (b.take n)
 | _,_,0,_=>.nil
 | _,_,_+1,.nil=>.nil
 | _,_,n+1,.cons r t=>.cons r (Paired.tak n t)
theorem Paired.drp {α β:Type} {F:α->β->Prop}:∀ {a:List α} {b:List β} (n:Nat),Paired F a b->Paired F (a.drop n) (b.drop n)
 | _,_,0,r=>r
 | _,_,_+1,.nil=>.nil
 | _,_,n+1,.cons _ t=>Paired.drp n t
theorem Paired.imp {α β:Type} {F G:α->β->Prop} (f:∀ a b,F a b->G a b):∀ {l₁:List α} {l₂:List β},Paired F l₁ l₂->Paired G l₁ l₂
 | _,_,.nil=>.nil
 | _,_,.cons r t=>.cons (f _ _ r) (Paired.imp f t)
theorem Paired.of_get {α β:Type} {F:α->β->Prop}:∀ {xs:List α} {ys:List β},xs.length=ys.length->(∀ (i:Nat) x y,xs[i]?=some x->ys[i]?=some y->F x y)->Paired F xs ys
 | [],[],_,_=>.nil
 | [],_::_,h,_=>by simp at h
 | _::_,[],h,_=>by simp at h
 | x::xs,y::ys,h,f=>.cons (f 0 x y rfl rfl) (Paired.of_get (by simpa using h) fun i a b e1 e2=>f (i+1) a b (by simpa using e1) (by simpa using e2))
structure Gx where
 K:PySem.W.Frag
noncomputable def Fro (K:PySem.W.Frag) (H:Hp) (a:Addr) (xs:List V):Prop:=(∃ o,H a=some (.frz o (.lst xs)))\/∀ H:Hp,SqL K H a xs
theorem Fro.sq {K:PySem.W.Frag} {H:Hp} {a:Addr} {xs:List V} (h:Fro K H a xs):SqL K H a xs:=by
 rcases h with ⟨o,h⟩|h
 ·exact .inl (.inr ⟨o,h⟩)
 ·exact h H
inductive Rep (Γ:Gx) (ι:List Addr) (H:Hp):D->V->Prop
 | non:Rep Γ ι H .non .non
 | bl (b:Bool):Rep Γ ι H (.bl b) (.bl b)
 | int (i:Int):Rep Γ ι H (.int i) (.int i)
 | str (x:Str):Rep Γ ι H (.str x) (.str x)
 | tup {ds:List D} {a:Addr} {xs:List V}:SqT Γ.K H a xs->ds.length=xs.length->(∀ (i:Nat) d v,ds[i]?=some d->xs[i]?=some v->Rep Γ ι H d v)->(∀ k,allInts ds=some k->H a=some (.tup xs))->Rep Γ ι H (.tup ds) (.ref a)
 | fro {ds:List D} {a:Addr} {xs:List V}:Fro Γ.K H a xs->ds.length=xs.length->(∀ (i:Nat) d v,ds[i]?=some d->xs[i]?=some v->Rep Γ ι H d v)->Rep Γ ι H (.fro ds) (.ref a)
 | loc {l:Nat} {a:Addr}:ι[l]?=some a->Rep Γ ι H (.loc l) (.ref a)
abbrev az (Γ:Gx) (ι:List Addr) (H:Hp):List D->List V->Prop:=Paired (Rep Γ ι H)
theorem Rep.tY {Γ:Gx} {ι:List Addr} {H:Hp} {ds:List D} {a:Addr} {xs:List V} (h:SqT Γ.K H a xs) (p:az Γ ι H ds xs) (hk:∀ k,allInts ds=some k->H a=some (.tup xs)):Rep Γ ι H (.tup ds) (.ref a) :=
 .tup h p.length (fun i d v e1 e2=>by
  obtain ⟨y,e,f⟩:=Paired.get p e1
  rw [e2] at e; cases e; exact f) hk
theorem Rep.rg {Γ:Gx} {ι:List Addr} {H:Hp} {ds:List D} {a:Addr} {xs:List V} (h:H a=some (.tup xs)) (p:az Γ ι H ds xs):Rep Γ ι H (.tup ds) (.ref a):=.tY (.of h) p fun _ _=>h
theorem Rep.fR {Γ:Gx} {ι:List Addr} {H:Hp} {ds:List D} {v:V} (h:Rep Γ ι H (.fro ds) v):∃ a xs,v=.ref a/\Fro Γ.K H a xs/\az Γ ι H ds xs:=by
 cases h with
 | fro h1 h2 h3=>exact ⟨_,_,rfl,h1,Paired.of_get h2 h3⟩
theorem Rep.cg {Γ:Gx} {ι:List Addr} {H:Hp} {ds:List D} {v:V} (h:Rep Γ ι H (.tup ds) v):∃ a xs,v=.ref a/\SqT Γ.K H a xs/\az Γ ι H ds xs:=by
 cases h with
 | tup h1 h2 h3 _=>exact ⟨_,_,rfl,h1,Paired.of_get h2 h3⟩
structure Ext (ι ι':List Addr) (H H':Hp):Prop where
 pre:ι <+: ι'
 tup:∀ a xs,H a=some (.tup xs)->H' a=some (.tup xs)
 frz:∀ a o u,H a=some (.frz o u)->H' a=some (.frz o u)
 oth:∀ a o,H a=some o->a ∉ ι->H' a=some o
 fresh:∀ a∈ι',a ∉ ι->H a=none
section
variable {ι ι1 ι2:List Addr} {H H1 H2:Hp}
theorem Ext.refl:Ext ι ι H H:=⟨List.prefix_refl _,fun _ _ h=>h,fun _ _ _ h=>h,fun _ _ h _=>h,fun _ h n=>absurd h n⟩
theorem Ext.trans (a:Ext ι ι1 H H1) (b:Ext ι1 ι2 H1 H2):Ext ι ι2 H H2 where
 pre:=a.pre.trans b.pre
 tup:=fun x xs h=>b.tup x xs (a.tup x xs h)
 frz:=fun x o u h=>b.frz x o u (a.frz x o u h)
 oth:=fun x o h n=>b.oth x o (a.oth x o h n) fun m=>by
  have:=a.fresh x m n
  rw [h] at this; cases this
 fresh:=fun x m n=>by
  by_cases h1:x∈ι1
  ·exact a.fresh x h1 n
  ·have:=b.fresh x m h1
   cases q:H x with
   | none=>rfl
   | some o=>rw [a.oth x o q n] at this; cases this
theorem Ext.laid {p:Addr} {o:HO} (hp:H p=none):Ext ι ι H (upd H p o) :=
 ⟨List.prefix_refl _,fun a xs h=>by rw [aK (bT h hp)]; exact h,fun a o u h=>by rw [aK (bT h hp)]; exact h,fun a o h _=>by rw [aK (bT h hp)]; exact h,fun _ h n=>absurd h n⟩
theorem Ext.more {p:Addr} {o:HO} (hp:H p=none):Ext ι (ι++[p]) H (upd H p o) :=
 ⟨List.prefix_append _ _,fun a xs h=>by rw [aK (bT h hp)]; exact h,fun a o u h=>by rw [aK (bT h hp)]; exact h,fun a o h _=>by rw [aK (bT h hp)]; exact h,fun a h n=>by
  rcases List.mem_append.mp h with z|z
  ·exact absurd z n
  ·have:a=p:=by simpa using z
   rw [this]; exact hp⟩
theorem h_ {α:Type} {xs ys:List α} (h:xs <+: ys) {i:Nat} {x:α} (e:xs[i]?=some x):ys[i]?=some x:=by
 obtain ⟨t,rfl⟩:=h
 rw [List.getElem?_append_left (List.getElem?_eq_some_iff.mp e).1]
 exact e
end
section
variable {Γ:Gx} {ι ι1:List Addr} {H H1:Hp}
theorem Ext.sqT (e:Ext ι ι1 H H1) {a:Addr} {xs:List V} (h:SqT Γ.K H a xs):SqT Γ.K H1 a xs:=by
 rcases h with (h|⟨o,h⟩)|h
 ·exact .inl (.inl (e.tup _ _ h))
 ·exact .inl (.inr ⟨o,e.frz _ _ _ h⟩)
 ·exact .inr h
theorem Ext.fro (e:Ext ι ι1 H H1) {a:Addr} {xs:List V} (h:Fro Γ.K H a xs):Fro Γ.K H1 a xs:=by
 rcases h with ⟨o,h⟩|h
 ·exact .inl ⟨o,e.frz _ _ _ h⟩
 ·exact .inr h
theorem Rep.ext (e:Ext ι ι1 H H1) {d:D} {v:V} (h:Rep Γ ι H d v):Rep Γ ι1 H1 d v:=by
 induction h with
 | non=>exact .non
 | bl b=>exact .bl b
 | int i=>exact .int i
 | str x=>exact .str x
 | tup h1 h2 h3 h4 ih=>exact .tup (e.sqT h1) h2 ih fun k q=>e.tup _ _ (h4 k q)
 | fro h1 h2 h3 ih=>exact .fro (e.fro h1) h2 ih
 | loc h=>exact .loc (h_ e.pre h)
theorem az.ext (e:Ext ι ι1 H H1) {ds:List D} {vs:List V} (h:az Γ ι H ds vs):az Γ ι1 H1 ds vs:=Paired.imp (fun _ _ r=>Rep.ext e r) h
end
abbrev fJ (Γ:Gx) (ι:List Addr) (H:Hp):List (List Int × D)->List (List Key × V)->Prop:=Paired fun p q=>q.1=p.1.map Sum.inl/\Rep Γ ι H p.2 q.2
noncomputable def jE (Γ:Gx) (ι:List Addr) (H:Hp) (a:Addr):Cell->Prop
 | .lst ds=>∃ xs,H a=some (.lst xs)/\az Γ ι H ds xs
 | .dct kvs=>∃ xs,H a=some (.dT xs)/\fJ Γ ι H kvs xs
 | .fdc kvs=>∃ xs,(∃ o,H a=some (.frz o (.dT xs)))/\fJ Γ ι H kvs xs
structure ay (Γ:Gx) (ι:List Addr) (H:Hp) (S:af):Prop where
 len:ι.length=S.length
 nd:ι.Nodup
 cell:∀ (l:Nat) c,S[l]?=some c->∃ a,ι[l]?=some a/\jE Γ ι H a c
structure bu (Γ:Gx) (ι:List Addr) (H:Hp) (σ:L2.St) (σd:Sg):Prop where
 len:σ.length=σd.length
 var:∀ (i:Nat) d,σd[i]?=some (some d)->∃ v,σ[i]?=some (some v)/\Rep Γ ι H d v
theorem bu.ext {Γ:Gx} {ι ι1:List Addr} {H H1:Hp} {σ:L2.St} {σd:Sg} (e:Ext ι ι1 H H1) (h:bu Γ ι H σ σd):bu Γ ι1 H1 σ σd :=
 ⟨h.len,fun i d q=>let ⟨v,a,b⟩:=h.var i d q; ⟨v,a,b.ext e⟩⟩
abbrev XW:=Str->af->List Addr->Hp->Prop
noncomputable def Out {α:Type} (Γ:Gx) (xw:XW) (ι:List Addr) (H:Hp) (r:Res α) (k:α->af->List Addr->Hp->Prop):Prop:=match r with
 | .ok a S'=>∀ ι' H',Ext ι ι' H H'->ay Γ ι' H' S'->k a S' ι' H'
 | .exc c S'=>∀ ι' H',Ext ι ι' H H'->ay Γ ι' H' S'->xw c S' ι' H'
 | .bad=>False
section
variable {Γ:Gx} {xw:XW} {ι ι1:List Addr} {H H1:Hp} {α β:Type}
theorem Out.step {r:Res α} {k:α->af->List Addr->Hp->Prop} (h:Out Γ xw ι H r k) (e:Ext ι ι1 H H1):Out Γ xw ι1 H1 r k:=by
 cases r with
 | ok a S'=>exact fun ι' H' e' s'=>h ι' H' (e.trans e') s'
 | exc c S'=>exact fun ι' H' e' s'=>h ι' H' (e.trans e') s'
 | bad=>exact h
theorem Out.mono {r:Res α} {k k':α->af->List Addr->Hp->Prop} (h:Out Γ xw ι H r k) (f:∀ a S' ι' H',Ext ι ι' H H'->ay Γ ι' H' S'->k a S' ι' H'->k' a S' ι' H'):Out Γ xw ι H r k':=by
 cases r with
 | ok a S'=>exact fun ι' H' e' s'=>f _ _ _ _ e' s' (h ι' H' e' s')
 | exc c S'=>exact h
 | bad=>exact h
theorem Out.bind {m:M α} {f:α->M β} {S:af} {k:β->af->List Addr->Hp->Prop} (h:Out Γ xw ι H ((m>>=f) S) k) :
  Out Γ xw ι H (m S) (fun a S' ι' H'=>ay Γ ι' H' S'/\Ext ι ι' H H'/\Out Γ xw ι' H' (f a S') k):=by
 rw [bB] at h
 cases q:m S with
 | ok a S'=>rw [q] at h; exact fun ι' H' e' s'=>⟨s',e',Out.step h e'⟩
 | exc c S'=>rw [q] at h; exact h
 | bad=>rw [q] at h; exact h
theorem Out.here {a:α} {S:af} {k:α->af->List Addr->Hp->Prop} (h:Out Γ xw ι H (.ok a S) k) (s:ay Γ ι H S):k a S ι H:=h ι H .refl s
theorem Out.quiet {m:M α} {S:af} {k:α->af->List Addr->Hp->Prop} (h:Out Γ xw ι H (quiet m S) k) (xw':XW):Out Γ xw' ι H (m S) k:=by
 unfold EV.quiet at h
 cases q:m S with
 | ok a S'=>rw [q] at h; exact h
 | exc c S'=>rw [q] at h; exact h.elim
 | bad=>rw [q] at h; exact h.elim
end
noncomputable def tM (Γ:Gx) (xw:XW) (m:Sg->M D):TE:=fun σ H Q=>∃ σd ι S,bu Γ ι H σ σd/\ay Γ ι H S/\Out Γ xw ι H (m σd S) fun d _ ι' H'=>∀ v,Rep Γ ι' H' d v->Q v H'
noncomputable def tMT (Γ:Gx) (xw:XW) (m:Sg->M Bool):TT:=fun σ H Q=>∃ σd ι S,bu Γ ι H σ σd/\ay Γ ι H S/\Out Γ xw ι H (m σd S) fun b _ _ H'=>Q b H'
noncomputable def tMA (Γ:Gx) (xw:XW) (m:Sg->M (List D)):TA:=fun σ H Q=>∃ σd ι S,bu Γ ι H σ σd/\ay Γ ι H S/\Out Γ xw ι H (m σd S) fun ds _ ι' H'=>∀ vs,az Γ ι' H' ds vs->Q vs H'
theorem PE.imp {X:Cx} {e:Expr} {t t':TE} (h:PE X e t) (f:∀ σ H Q,t' σ H Q->t σ H Q):PE X e t':=fun pins s σ H Q I q=>h pins s σ H Q I (f σ H Q q)
theorem PT.imp {X:Cx} {e:Expr} {t t':TT} (h:PT X e t) (f:∀ σ H Q,t' σ H Q->t σ H Q):PT X e t':=fun pins s σ H Q I q=>h pins s σ H Q I (f σ H Q q)
theorem PW.imp {X:Cx} {e:Expr} {t t':TT} (h:PW X e t) (f:∀ σ H Q,t' σ H Q->t σ H Q):PW X e t':=fun w pins s σ H Q I q=>h w pins s σ H Q I (f σ H Q q)
theorem PA.imp {X:Cx} {e:List Expr} {t t':TA} (h:PA X e t) (f:∀ σ H Q,t' σ H Q->t σ H Q):PA X e t':=fun p pins s σ H Q I q=>h p pins s σ H Q I (f σ H Q q)
theorem PS.imp {X:Cx} {e:Stmt} {t t':TS} (h:PS X e t) (f:∀ D σ H,t' D σ H->t D σ H):PS X e t':=fun pins s σ H D I q=>h pins s σ H D I (f D σ H q)
theorem PSs.imp {X:Cx} {e:List Stmt} {t t':TS} (h:PSs X e t) (f:∀ D σ H,t' D σ H->t D σ H):PSs X e t':=fun pins s σ H D I q=>h pins s σ H D I (f D σ H q)
section
variable {Γ:Gx} {xw:XW} {σ:L2.St} {H:Hp}
noncomputable def Gn (Γ:Gx) (xw:XW) (f:D->M D) (x:V) (H:Hp) (Q:VK):Prop:=∃ ι S dx,ay Γ ι H S/\Rep Γ ι H dx x/\Out Γ xw ι H (f dx S) fun d _ ι' H'=>∀ v,Rep Γ ι' H' d v->Q v H'
noncomputable def br (Γ:Gx) (xw:XW) (f:D->D->M D) (x y:V) (H:Hp) (Q:VK):Prop :=
 ∃ ι S dx dy,ay Γ ι H S/\Rep Γ ι H dx x/\Rep Γ ι H dy y/\Out Γ xw ι H (f dx dy S) fun d _ ι' H'=>∀ v,Rep Γ ι' H' d v->Q v H'
noncomputable def dU (Γ:Gx) (xw:XW) (f:List D->M D) (xs:List V) (H:Hp) (Q:VK):Prop:=∃ ι S ds,ay Γ ι H S/\az Γ ι H ds xs/\Out Γ xw ι H (f ds S) fun d _ ι' H'=>∀ v,Rep Γ ι' H' d v->Q v H'
theorem gy {ma mb:Sg->M D} {f:D->D->M D} {Q:VK} (h:tM Γ xw (fun σ=>ma σ>>=fun x=>mb σ>>=fun y=>f x y) σ H Q) :
  tM Γ xw ma σ H fun x H1=>tM Γ xw mb σ H1 fun y H2=>br Γ xw f x y H2 Q:=by
 obtain ⟨σd,ι,S,he,hs,ho⟩:=h
 exact ⟨σd,ι,S,he,hs,ho.bind.mono fun d S' ι' H' _ _ ⟨s',e',o'⟩ v r=>⟨σd,ι',S',he.ext e',s',o'.bind.mono fun d2 S2 ι2 H2 _ _ ⟨s2,e2,o2⟩ v2 r2=>⟨ι2,S2,d,d2,s2,r.ext e2,r2,o2⟩⟩⟩
theorem pG {ma:Sg->M (List D)} {f:List D->M D} {Q:VK} (h:tM Γ xw (fun σ=>ma σ>>=f) σ H Q):tMA Γ xw ma σ H fun xs H1=>dU Γ xw f xs H1 Q:=by
 obtain ⟨σd,ι,S,he,hs,ho⟩:=h
 exact ⟨σd,ι,S,he,hs,ho.bind.mono fun d S' ι' H' _ _ ⟨s',e',o'⟩ v r=>⟨ι',S',d,s',r,o'⟩⟩
end
end EV

namespace EV
open PySem PySem.Spec PyProof.Rows L2
open PySem.SeqAt (EqAt RcAt)
section
variable {X:Cx} {Γ:Gx} {xw:XW} {pins:List (Addr × Obj)} {σ:L2.St} {H:Hp} {s:Shared} {ι:List Addr} {S:af}
theorem ay.list (hS:ay Γ ι H S) {d:D} {v:V} {ds:List D} (r:Rep Γ ι H d v) (h:asL S d=some ds):∃ a xs,v=.ref a/\SqL Γ.K H a xs/\az Γ ι H ds xs:=by
 cases d with
 | loc l =>
  cases r with
  | loc q =>
   have h':listAt S l=some ds:=h
   unfold listAt at h'
   split at h'
   ·rename_i es e
    cases h'
    obtain ⟨a,ha,xs,hx,r⟩:=hS.cell l _ e
    rw [q] at ha; cases ha
    exact ⟨_,xs,rfl,.of hx,r⟩
   ·cases h'
 | fro es =>
  cases h
  obtain ⟨a,xs,rfl,hf,rs⟩:=r.fR
  exact ⟨a,xs,rfl,hf.sq,rs⟩
 | _=>cases h
theorem ay.lst (hS:ay Γ ι H S) {l:Nat} {ds:List D} (h:S[l]?=some (.lst ds)):∃ a xs,ι[l]?=some a/\H a=some (.lst xs)/\az Γ ι H ds xs:=by
 obtain ⟨a,ha,xs,hx,r⟩:=hS.cell l _ h
 exact ⟨a,xs,ha,hx,r⟩
theorem s_ {l:Nat}:items (.loc l) S=match listAt S l with|some ds=>.ok ds S|none=>.bad:=rfl
theorem k8 {α:Type}:∀ {xs:List α} {i j:Nat} {x:α},xs.Nodup->xs[i]?=some x->xs[j]?=some x->i=j
 | [],_,_,_,_,h,_=>by simp at h
 | y::r,0,0,_,_,_,_=>rfl
 | y::r,0,j+1,x,nd,h1,h2=>by
  simp at h1 h2
  subst h1
  exact absurd (List.mem_of_getElem? h2) (List.nodup_cons.mp nd).1
 | y::r,i+1,0,x,nd,h1,h2=>by
  simp at h1 h2
  subst h2
  exact absurd (List.mem_of_getElem? h1) (List.nodup_cons.mp nd).1
 | y::r,i+1,j+1,x,nd,h1,h2=>by
  exact congrArg (· + 1) (k8 (i:=i) (j:=j) (List.nodup_cons.mp nd).2 (by simpa using h1) (by simpa using h2))
theorem g8 {f:D->D->Option Bool}:∀ {xs ys:List D} {k:Bool},bX f xs ys=some k->∃ e:Nat->Bool,(∀ (j:Nat) x y,xs[j]?=some x->ys[j]?=some y->f x y=some (e j))/\k=(List.range (min xs.length ys.length)).all e
 | [],ys,k,h=>⟨fun _=>true,fun j x y e1 e2=>by simp at e1,by simp only [bX] at h; cases h; simp⟩
 | _::_,[],k,h=>⟨fun _=>true,fun j x y e1 e2=>by simp at e2,by simp only [bX] at h; cases h; simp⟩
 | x::xs,y::ys,k,h=>by
  simp only [bX] at h
  split at h
  ·rename_i a b e1 e2
   cases h
   obtain ⟨e,he,hk⟩:=g8 e2
   refine ⟨fun j=>match j with|0=>a|j+1=>e j,fun j u v q1 q2=>?_,?_⟩
   ·cases j with
    | zero=>simp at q1 q2; subst q1; subst q2; exact e1
    | succ j=>exact he j u v (by simpa using q1) (by simpa using q2)
   ·rw [show min (x::xs).length (y::ys).length=min xs.length ys.length+1 by simp only [List.length_cons]; omega,List.range_succ_eq_map,List.all_cons,List.all_map]
    rw [hk]
    rfl
  ·cases h
theorem Rep.jH {d1 d2:D} {x:V} (q1:Rep Γ ι H d1 x) (q2:Rep Γ ι H d2 x) (e:d1.kd=.flat):d2.kd=.flat:=by
 have h1:xJ x=true:=by cases q1 <;> first|rfl|cases e
 cases q2 <;> first|rfl|cases h1
theorem Rep.xS {d1 d2:D} {x:V} (q1:Rep Γ ι H d1 x) (q2:Rep Γ ι H d2 x) (e:d1.kd=.flat):d1=d2:=by
 cases q1 <;> first|(cases e; done)|(cases q2; rfl)
theorem BI {d:D} {k:Bool} (h:jz d d=some k):k=true:=by
 cases d <;> first|(cases h; done)|exact (Option.some.inj h).symm|exact (Option.some.inj h).symm.trans (beq_self_eq_true _)
theorem C8 (hK:Γ.K=X.K) (I:Inv X pins σ H s) (hS:ay Γ ι H S):∀ (m:Nat) (d1 d2:D) (k:Bool) (x:V),eqD m S d1 d2=some k->Rep Γ ι H d1 x->Rep Γ ι H d2 x->k=true:=by
 obtain ⟨K⟩:=Γ
 have hK':K=X.K:=hK
 subst hK'
 have all:∀ (m:Nat),(∀ (d1 d2:D) (k:Bool) (x:V),eqD m S d1 d2=some k->Rep ⟨X.K⟩ ι H d1 x->Rep ⟨X.K⟩ ι H d2 x->k=true) ->
   ∀ (ds es:List D) (xs:List V) (r:Bool),az ⟨X.K⟩ ι H ds xs->az ⟨X.K⟩ ι H es xs->bX (eqD m S) ds es=some r->r=true:=by
  intro m ihm ds es xs r p1 p2 hr
  obtain ⟨e,he,hk2⟩:=g8 hr
  have l1:=p1.length
  have l2:=p2.length
  rw [hk2,List.all_eq_true]
  intro j hj
  rw [List.mem_range] at hj
  have hj1:j < ds.length:=by omega
  have hj2:j < es.length:=by omega
  obtain ⟨y1,a1,a2⟩:=Paired.get p1 (List.getElem?_eq_getElem hj1)
  obtain ⟨y2,a3,a4⟩:=Paired.get p2 (List.getElem?_eq_getElem hj2)
  rw [a1] at a3; cases a3
  exact ihm _ _ _ y1 (he j _ _ (List.getElem?_eq_getElem hj1) (List.getElem?_eq_getElem hj2)) a2 a4
 intro m
 induction m with
 | zero=>intro d1 d2 k x h; simp [eqD] at h
 | succ m ihm =>
  intro d1 d2 k x h q1 q2
  have hall:=all m ihm
  have tl:∀ {es:List D} {a:Addr} {d:D},(∃ xs,SqT X.K H a xs)->∀ {z},asL S d=some z->Rep ⟨X.K⟩ ι H d (.ref a)->False:=fun {es a d} ht {z} hz hr=>by
   obtain ⟨xs,ht⟩:=ht
   obtain ⟨b,ys,e,sb,_⟩:=hS.list hr hz
   cases e
   obtain ⟨its,_,pl,_⟩:=I.list sb
   obtain ⟨its2,_,pt,_⟩:=I.tuple ht
   exact absurd rfl (SeqAt.ne_of_list_tuple pl.isList pt)
  cases e1:d1.kd <;> cases e2:d2.kd <;> simp only [eqD,e1,e2] at h
  ·have e:=Rep.xS q1 q2 e1
   rw [<- e] at h
   exact BI h
  ·rw [Rep.jH q1 q2 e1] at e2; cases e2
  ·rw [Rep.jH q1 q2 e1] at e2; cases e2
  ·cases h
  ·rw [Rep.jH q2 q1 e2] at e1; cases e1
  ·cases d1 <;> first|(cases e1; done)|skip
   cases d2 <;> first|(cases e2; done)|skip
   obtain ⟨a,xs,rfl,t1,p1⟩:=q1.cg
   obtain ⟨b,ys,eb,t2,p2⟩:=q2.cg
   cases eb
   have e:xs=ys:=I.k6 t1 t2
   subst e
   simp only [Option.map_eq_some_iff] at h
   obtain ⟨r,hr,hk⟩:=h
   have hl:(D.its (D.tup _)).length=(D.its (D.tup _)).length:=(p1.length).trans p2.length.symm
   rw [<- hk,hall _ _ xs r p1 p2 hr,hl]; simp
  ·simp only [Option.map_eq_some_iff] at h
   obtain ⟨z,hz,_⟩:=h
   cases d1 <;> first|(cases e1; done)|skip
   obtain ⟨a,xs,rfl,t1,p1⟩:=q1.cg
   exact (tl (es:=[]) ⟨xs,t1⟩ hz q2).elim
  ·cases h
  ·rw [Rep.jH q2 q1 e2] at e1; cases e1
  ·simp only [Option.map_eq_some_iff] at h
   obtain ⟨z,hz,_⟩:=h
   cases d2 <;> first|(cases e2; done)|skip
   obtain ⟨a,xs,rfl,t1,p1⟩:=q2.cg
   exact (tl (es:=[]) ⟨xs,t1⟩ hz q1).elim
  ·split at h
   ·rename_i ds es hd he
    obtain ⟨a,xs,rfl,s1,p1⟩:=hS.list q1 hd
    obtain ⟨b,ys,eb,s2,p2⟩:=hS.list q2 he
    cases eb
    have e:xs=ys:=I.j3 s1 s2
    subst e
    rw [if_pos (p1.length.trans p2.length.symm)] at h
    exact hall _ _ xs k p1 p2 h
   ·cases h
  ·cases h
  ·cases h
  ·cases h
  ·cases h
  ·cases h
theorem Bm {A:Around} {d1 d2:D} {k:Bool} {x1 x2:V} {u1 u2:Value} (h:jz d1 d2=some k) (r1:Rep Γ ι H d1 x1) (r2:Rep Γ ι H d2 x2) (v1:RelV x1 u1) (v2:RelV x2 u2) (e1:d1.kd=.flat) (e2:d2.kd=.flat):RcAt A s u1 u2 k/\EqAt A s u1 u2 k:=by
 cases r1 <;> first|(cases e1; done)|skip
 all_goals (cases r2 <;> first|(cases e2; done)|skip)
 ·cases v1; cases v2; cases Option.some.inj h; exact ⟨RcAt.none_none,EqAt.same _⟩
 ·cases v1; cases v2; cases Option.some.inj h; exact ⟨.none_bool _,.none_bool _⟩
 ·cases v1; obtain ⟨t,rfl⟩:=v2; cases Option.some.inj h; exact ⟨.none_int _ t,.none_int _ t⟩
 ·cases v1; obtain ⟨t,rfl⟩:=v2; cases Option.some.inj h; exact ⟨.none_str _ t,.none_str _ t⟩
 ·cases v1; cases v2; cases Option.some.inj h; exact ⟨.bool_none _,.bool_none _⟩
 ·cases v1; cases v2; cases Option.some.inj h; exact ⟨.bool_bool _ _,.bool_bool _ _⟩
 ·cases v1; obtain ⟨t,rfl⟩:=v2; cases Option.some.inj h; exact ⟨.bool_int _ _ t,.bool_int _ _ t⟩
 ·cases v1; obtain ⟨t,rfl⟩:=v2; cases Option.some.inj h; exact ⟨.bool_str _ _ t,.bool_str _ _ t⟩
 ·obtain ⟨ta,rfl⟩:=v1; cases v2; cases Option.some.inj h; exact ⟨.int_none _ ta,.int_none _ ta⟩
 ·obtain ⟨ta,rfl⟩:=v1; cases v2; cases Option.some.inj h; exact ⟨.int_bool _ ta _,.int_bool _ ta _⟩
 ·obtain ⟨ta,rfl⟩:=v1; obtain ⟨t,rfl⟩:=v2; cases Option.some.inj h; exact ⟨.int_int _ ta _ t,.int_int _ ta _ t⟩
 ·obtain ⟨ta,rfl⟩:=v1; obtain ⟨t,rfl⟩:=v2; cases Option.some.inj h; exact ⟨.int_str _ ta _ t,.int_str _ ta _ t⟩
 ·obtain ⟨ta,rfl⟩:=v1; cases v2; cases Option.some.inj h; exact ⟨.str_none _ ta,.str_none _ ta⟩
 ·obtain ⟨ta,rfl⟩:=v1; cases v2; cases Option.some.inj h; exact ⟨.str_bool _ ta _,.str_bool _ ta _⟩
 ·obtain ⟨ta,rfl⟩:=v1; obtain ⟨t,rfl⟩:=v2; cases Option.some.inj h; exact ⟨.str_int _ ta _ t,.str_int _ ta _ t⟩
 ·obtain ⟨ta,rfl⟩:=v1; obtain ⟨t,rfl⟩:=v2; cases Option.some.inj h; exact ⟨.str_str _ ta _ t,.str_str _ ta _ t⟩
theorem mY (hK:Γ.K=X.K) (I:Inv X pins σ H s) (hS:ay Γ ι H S):∀ (n:Nat) (A:Around) (d1 d2:D) (k:Bool) (x1 x2:V) (u1 u2:Value),eqD n S d1 d2=some k->Rep Γ ι H d1 x1->Rep Γ ι H d2 x2->RelV x1 u1->RelV x2 u2->A.units+n < cLine ->
  RcAt A s u1 u2 k/\EqAt A s u1 u2 k:=by
 have same:=C8 hK I hS
 obtain ⟨K⟩:=Γ
 have hK':K=X.K:=hK
 subst hK'
 intro n
 induction n with
 | zero=>intro A d1 d2 k x1 x2 u1 u2 h; simp [eqD] at h
 | succ n ih =>
  intro A d1 d2 k x1 x2 u1 u2 h r1 r2 v1 v2 hu
  have hu0:A.units < cLine:=by omega
  have hu1:A.in1.units+n < cLine:=by show A.units+1+n < cLine; omega
  have h0:=h
  have each:∀ {ds es:List D} {xs ys:List V} {its1 its2:List Value} {e:Nat->Bool},az ⟨X.K⟩ ι H ds xs->az ⟨X.K⟩ ι H es ys->Vals xs its1->Vals ys its2 ->
    (∀ (j:Nat) x y,ds[j]?=some x->es[j]?=some y->eqD n S x y=some (e j))->∀ (j:Nat) (h1:j < its1.toArray.size) (h2:j < its2.toArray.size),EqAt A.in1 s its1.toArray[j] its2.toArray[j] (e j):=by
   intro ds es xs ys its1 its2 e rp1 rp2 rv1 rv2 he j h1 h2
   rw [List.size_toArray] at h1 h2
   have l1:=rp1.length
   have l2:=rp2.length
   have l3:=rv1.length
   have l4:=rv2.length
   have j1:j < ds.length:=by omega
   have j2:j < es.length:=by omega
   obtain ⟨y1,a1,a2⟩:=Paired.get rp1 (List.getElem?_eq_getElem j1)
   obtain ⟨y2,a3,a4⟩:=Paired.get rp2 (List.getElem?_eq_getElem j2)
   obtain ⟨w1,z1,z2⟩:=rv1.get a1
   obtain ⟨w2,z3,z4⟩:=rv2.get a3
   have:=(ih A.in1 ds[j] es[j] (e j) y1 y2 w1 w2 (he j _ _ (List.getElem?_eq_getElem j1) (List.getElem?_eq_getElem j2)) a2 a4 z2 z4 hu1).2
   have q1:its1.toArray[j]'(by rw [List.size_toArray]; exact h1)=w1:=by
    have:its1[j]?=some its1[j]:=List.getElem?_eq_getElem h1
    rw [z1] at this; cases this; rfl
   have q2:its2.toArray[j]'(by rw [List.size_toArray]; exact h2)=w2:=by
    have:its2[j]?=some its2[j]:=List.getElem?_eq_getElem h2
    rw [z3] at this; cases this; rfl
   rw [q1,q2]; exact this
  have lst:∀ {d:D} {x:V} {u:Value} {zs:List D},Rep ⟨X.K⟩ ι H d x->RelV x u->asL S d=some zs->∃ a xs its,x=.ref a/\u=.ref a/\az ⟨X.K⟩ ι H zs xs/\Vals xs its/\s.heap.IsList a its.toArray:=fun {d x u zs} r rv hz=>by
   obtain ⟨b,ys,e,sb,rp⟩:=hS.list r hz
   subst e
   cases rv
   obtain ⟨its,rv,p,_⟩:=I.list sb
   exact ⟨b,ys,its,rfl,rfl,rp,rv,p.isList⟩
  have tpl:∀ {ds:List D} {x:V} {u:Value},Rep ⟨X.K⟩ ι H (.tup ds) x->RelV x u->∃ a xs its,x=.ref a/\u=.ref a/\az ⟨X.K⟩ ι H ds xs/\Vals xs its/\s.heap.IsTuple a its.toArray:=fun {ds x u} r rv=>by
   obtain ⟨a,xs,e,t,p⟩:=r.cg
   subst e
   cases rv
   obtain ⟨its,rv,p2,_⟩:=I.tuple t
   exact ⟨a,xs,its,rfl,rfl,p,rv,p2⟩
  cases e1:d1.kd <;> cases e2:d2.kd <;> simp only [eqD,e1,e2] at h
  ·exact Bm h r1 r2 v1 v2 e1 e2
  ·cases h
   cases d2 <;> first|(cases e2; done)|skip
   obtain ⟨a,xs,its,rfl,rfl,_,_,p⟩:=tpl r2 v2
   cases r1 <;> first|(cases e1; done)|skip
   ·cases v1; exact ⟨.none_tuple p hu0,.none_tuple p hu0⟩
   ·cases v1; exact ⟨.bool_tuple _ p hu0,.bool_tuple _ p hu0⟩
   ·obtain ⟨ta,rfl⟩:=v1; exact ⟨.int_tuple _ ta p hu0,.int_tuple _ ta p hu0⟩
   ·obtain ⟨ta,rfl⟩:=v1; exact ⟨.str_tuple _ ta p hu0,.str_tuple _ ta p hu0⟩
  ·simp only [Option.map_eq_some_iff] at h
   obtain ⟨z,hz,rfl⟩:=h
   obtain ⟨a,xs,its,rfl,rfl,_,_,p⟩:=lst r2 v2 hz
   cases r1 <;> first|(cases e1; done)|skip
   ·cases v1; exact ⟨.none_list p hu0,.none_list p hu0⟩
   ·cases v1; exact ⟨.bool_list _ p hu0,.bool_list _ p hu0⟩
   ·obtain ⟨ta,rfl⟩:=v1; exact ⟨.int_list _ ta p hu0,.int_list _ ta p hu0⟩
   ·obtain ⟨ta,rfl⟩:=v1; exact ⟨.str_list _ ta p hu0,.str_list _ ta p hu0⟩
  ·cases h
  ·cases h
   cases d1 <;> first|(cases e1; done)|skip
   obtain ⟨a,xs,its,rfl,rfl,_,_,p⟩:=tpl r1 v1
   cases r2 <;> first|(cases e2; done)|skip
   ·cases v2; exact ⟨.tuple_none p hu0,.tuple_none p hu0⟩
   ·cases v2; exact ⟨.tuple_bool _ p hu0,.tuple_bool _ p hu0⟩
   ·obtain ⟨ta,rfl⟩:=v2; exact ⟨.tuple_int _ ta p hu0,.tuple_int _ ta p hu0⟩
   ·obtain ⟨ta,rfl⟩:=v2; exact ⟨.tuple_str _ ta p hu0,.tuple_str _ ta p hu0⟩
  ·cases d1 <;> first|(cases e1; done)|skip
   cases d2 <;> first|(cases e2; done)|skip
   obtain ⟨a,xs,its1,rfl,rfl,rp1,rv1,p1⟩:=tpl r1 v1
   obtain ⟨b,ys,its2,rfl,rfl,rp2,rv2,p2⟩:=tpl r2 v2
   simp only [Option.map_eq_some_iff] at h
   obtain ⟨r,hr,hk⟩:=h
   obtain ⟨e,he,hk2⟩:=g8 hr
   have rc:RcAt A s (.ref a) (.ref b) k:=by
    have:=RcAt.tuples (A:=A) (e:=e) p1 p2 hu0 (each rp1 rp2 rv1 rv2 he)
    rw [List.size_toArray,List.size_toArray,<- rv1.length,<- rv2.length,<- rp1.length,<- rp2.length] at this
    rw [<- hk,hk2]; exact this
   refine ⟨rc,?_⟩
   by_cases hab:a=b
   ·subst hab
    rw [same _ _ _ k _ h0 r1 r2]; exact EqAt.same _
   ·exact .of_refs hab rc
  ·simp only [Option.map_eq_some_iff] at h
   obtain ⟨z,hz,rfl⟩:=h
   cases d1 <;> first|(cases e1; done)|skip
   obtain ⟨a,xs,its1,rfl,rfl,rp1,rv1,p1⟩:=tpl r1 v1
   obtain ⟨b,ys,its2,rfl,rfl,rp2,rv2,p2⟩:=lst r2 v2 hz
   exact ⟨.tuple_list p1 p2 hu0,.tuple_list p1 p2 hu0⟩
  ·cases h
  ·simp only [Option.map_eq_some_iff] at h
   obtain ⟨z,hz,rfl⟩:=h
   obtain ⟨a,xs,its,rfl,rfl,_,_,p⟩:=lst r1 v1 hz
   cases r2 <;> first|(cases e2; done)|skip
   ·cases v2; exact ⟨.list_none p hu0,.list_none p hu0⟩
   ·cases v2; exact ⟨.list_bool _ p hu0,.list_bool _ p hu0⟩
   ·obtain ⟨ta,rfl⟩:=v2; exact ⟨.list_int _ ta p hu0,.list_int _ ta p hu0⟩
   ·obtain ⟨ta,rfl⟩:=v2; exact ⟨.list_str _ ta p hu0,.list_str _ ta p hu0⟩
  ·simp only [Option.map_eq_some_iff] at h
   obtain ⟨z,hz,rfl⟩:=h
   cases d2 <;> first|(cases e2; done)|skip
   obtain ⟨a,xs,its1,rfl,rfl,rp1,rv1,p1⟩:=tpl r2 v2
   obtain ⟨b,ys,its2,rfl,rfl,rp2,rv2,p2⟩:=lst r1 v1 hz
   exact ⟨.list_tuple p2 p1 hu0,.list_tuple p2 p1 hu0⟩
  ·split at h
   ·rename_i ds es hd he
    obtain ⟨a,xs,its1,rfl,rfl,rp1,rv1,p1⟩:=lst r1 v1 hd
    obtain ⟨b,ys,its2,rfl,rfl,rp2,rv2,p2⟩:=lst r2 v2 he
    have e1:its1.toArray.size=ds.length:=by rw [List.size_toArray,<- rv1.length,<- rp1.length]
    have e2:its2.toArray.size=es.length:=by rw [List.size_toArray,<- rv2.length,<- rp2.length]
    have rc:RcAt A s (.ref a) (.ref b) k:=by
     by_cases hlen:ds.length=es.length
     ·rw [if_pos hlen] at h
      obtain ⟨e,he',hk2⟩:=g8 h
      have:=RcAt.lists (A:=A) (e:=e) p1 p2 (by omega) hu0 (each rp1 rp2 rv1 rv2 he')
      rw [e1] at this; rw [hk2,<- hlen,Nat.min_self]; exact this
     ·rw [if_neg hlen] at h
      cases h
      exact RcAt.lists_lengths p1 p2 (by rw [e1,e2]; simpa using hlen) hu0
    refine ⟨rc,?_⟩
    by_cases hab:a=b
    ·subst hab
     rw [same _ _ _ k _ h0 r1 r2]; exact EqAt.same _
    ·exact .of_refs hab rc
   ·cases h
  ·cases h
  ·cases h
  ·cases h
  ·cases h
  ·cases h
end
end EV

namespace HT
open PySem PyProof.Rows
section
variable {prog:Program} {w:World} {A:Around} {E:Value->Shared->Prop} {s:Shared}
theorem AA {t sl:Addr} {items:Array Value} {vl vu:Value} {lo hi:Option Int} {Q:Value->Shared->Prop} (ht:IsTup s.heap t items) (hs:s.heap.IsSliceOf sl vl vu .none) (pl:IsPart vl lo) (pu:IsPart vu hi)
  (hw:sIx items.size 0 lo=0/\sIx items.size items.size hi=items.size) (h:Q (.ref t) s):wpAny (model prog w) A (getItem (.ref t) (.ref sl)) Q E s:=by
 obtain ⟨os,hos,hcs,hds⟩:=id hs
 have hTs:s.TypeIs (.ref sl) "slice":=⟨os,hos,hcs⟩
 unfold getItem
 try with_reducible refine wpAny_holding ?_
 first|refine wpAny_bind (wpAny_pure ?_)|skip
 refine wpAny_bind (wpAny_sequenceKey ht.typeIs (by decide) ?_)
 refine wpAny_bind (wpAny_callSpecial?_slot (name:=Str.ofString "__getitem__") ht.typeIs PyProof.Rows.slot_tuple_getitem
  (wpAny_call_entry PyProof.Rows.slot_tuple_getitem ht.typeIs entry_tuple_getitem ?_ (args_tuple_getitem _ _)))
 show wpAny _ _ (Builtin.Tuple.tupleItemsOf (.ref t)>>=_) _ _ s
 refine wpAny_bind (tupleItemsOf_ ht ?_)
 refine wpAny_bind (wpAny_typeOf hTs ?_)
 rw [if_pos (by decide)]
 refine wpAny_bind (sD hs pl pu ?_)
 have hyes:(((sIx items.size 0 lo:Nat):Int)==0&&(1:Int)==1&&(sIx items.size items.size hi - sIx items.size 0 lo)==items.size)=true:=by
  rw [hw.1,hw.2]; simp
 show wpAny _ _ (if (((sIx items.size 0 lo:Nat):Int)==0&&(1:Int)==1&&(sIx items.size items.size hi - sIx items.size 0 lo)==items.size)=true then _ else _) _ _ s
 rw [if_pos hyes]
 have hx:∀ {P:Bool->Shared->Prop},P true s->wpAny (model prog w) A.in1 (Builtin.Tuple.tupleIsExact (.ref t)) P E s:=fun {P} hp=>by
  unfold Builtin.Tuple.tupleIsExact
  refine wpAny_bind (wpAny_typeOf ht.typeIs (wpAny_pure ?_))
  simpa using hp
 refine wpAny_bind (hx ?_)
 rw [if_pos rfl]
 exact wpAny_bind (wpAny_rule (wpAny_pure ⟨_,rfl,wpAny_pure h⟩))
end
end HT
namespace EV
open PySem PySem.Spec PyProof.Rows L2
open PySem.SeqAt (EqAt RcAt)
section
variable {X:Cx} {Γ:Gx} {xw:XW} {pins:List (Addr × Obj)} {σ:L2.St} {H:Hp} {s:Shared} {ι:List Addr} {S:af}
theorem ay.new (hS:ay Γ ι H S) {p:Addr} (hp:H p=none):p ∉ ι:=fun m=>by
 obtain ⟨l,e⟩:=List.getElem?_of_mem m
 have hl:l < S.length:=by rw [<- hS.len]; exact (List.getElem?_eq_some_iff.mp e).1
 obtain ⟨a,ha,c⟩:=hS.cell l S[l] (List.getElem?_eq_getElem hl)
 rw [e] at ha; cases ha
 cases q:S[l] with
 | lst ds=>rw [q] at c; obtain ⟨xs,hx,_⟩:=c; rw [hp] at hx; cases hx
 | dct kvs=>rw [q] at c; obtain ⟨xs,hx,_⟩:=c; rw [hp] at hx; cases hx
 | fdc kvs=>rw [q] at c; obtain ⟨xs,⟨o,hx⟩,_⟩:=c; rw [hp] at hx; cases hx
theorem jE.ext {ι1:List Addr} {H1:Hp} (e:Ext ι ι1 H H1) {a:Addr} {c:Cell} (h:jE Γ ι H a c) (hl:∀ o,H a=some o->H1 a=some o):jE Γ ι1 H1 a c:=by
 cases c with
 | lst ds=>obtain ⟨xs,hx,r⟩:=h; exact ⟨xs,hl _ hx,az.ext e r⟩
 | dct kvs=>obtain ⟨xs,hx,r⟩:=h; exact ⟨xs,hl _ hx,Paired.imp (fun _ _ q=>⟨q.1,q.2.ext e⟩) r⟩
 | fdc kvs=>obtain ⟨xs,⟨o,hx⟩,r⟩:=h; exact ⟨xs,⟨o,hl _ hx⟩,Paired.imp (fun _ _ q=>⟨q.1,q.2.ext e⟩) r⟩
theorem ay.more (hS:ay Γ ι H S) {p:Addr} (hp:H p=none) {ds:List D} {xs:List V} (r:az Γ ι H ds xs):ay Γ (ι++[p]) (upd H p (.lst xs)) (S++[.lst ds]):=by
 have e:Ext ι (ι++[p]) H (upd H p (.lst xs)):=Ext.more hp
 refine ⟨by simp [hS.len],List.nodup_append.mpr ⟨hS.nd,by simp,?_⟩,fun l c h=>?_⟩
 ·intro a ha b hb
  have:b=p:=by simpa using hb
  subst this
  exact fun z=>hS.new hp (z ▸ ha)
 ·by_cases hl:l < S.length
  ·rw [List.getElem?_append_left hl] at h
   obtain ⟨a,ha,c1⟩:=hS.cell l c h
   exact ⟨a,h_ e.pre ha,c1.ext e fun ys hy=>by rw [aK (bT hy hp)]; exact hy⟩
  ·rw [List.getElem?_append_right (by omega)] at h
   have hl2:l - S.length=0:=by
    have:=(List.getElem?_eq_some_iff.mp h).1
    simp at this; omega
   rw [hl2] at h
   have h':(Cell.lst ds)=c:=by simpa using h
   subst h'
   have e1:l=ι.length:=by rw [hS.len]; omega
   subst e1
   exact ⟨p,by simp,xs,fH,az.ext e r⟩
theorem ay.laid (hS:ay Γ ι H S) {p:Addr} (hp:H p=none) (o:HO):ay Γ ι (upd H p o) S :=
 ⟨hS.len,hS.nd,fun l c h=>let ⟨a,ha,c1⟩:=hS.cell l c h; ⟨a,ha,c1.ext (Ext.laid hp) fun ys hy=>by rw [aK (bT hy hp)]; exact hy⟩⟩
theorem Out.alloc {Q:VK} {ds:List D} {xs:List V} {p:Addr} (ho:Out Γ xw ι H (alloc (.lst ds) S) fun d _ ι' H'=>∀ v,Rep Γ ι' H' d v->Q v H') (hS:ay Γ ι H S) (hp:H p=none) (r:az Γ ι H ds xs):Q (.ref p) (upd H p (.lst xs)) :=
 ho (ι++[p]) _ (Ext.more hp) (hS.more hp r) _ (.loc (by rw [<- hS.len]; simp))
theorem Out.tup {Q:VK} {ds:List D} {xs:List V} {p:Addr} (ho:Out Γ xw ι H (.ok (.tup ds) S) fun d _ ι' H'=>∀ v,Rep Γ ι' H' d v->Q v H') (hS:ay Γ ι H S) (hp:H p=none) (r:az Γ ι H ds xs):Q (.ref p) (upd H p (.tup xs)) :=
 ho ι _ (Ext.laid hp) (hS.laid hp _) _ (.rg fH (az.ext (Ext.laid hp) r))
theorem Out.val {Q:VK} {d:D} {v:V} (ho:Out Γ xw ι H (.ok d S) fun d _ ι' H'=>∀ v,Rep Γ ι' H' d v->Q v H') (hS:ay Γ ι H S) (r:Rep Γ ι H d v):Q v H:=ho.here hS v r
theorem Ak:OpR X (binaryOp .Add) (fun x y H Q=>∃ a b ys,x=.ref a/\y=.ref b/\SqT X.K H a []/\SqT X.K H b ys/\Q (.ref b) H):=by
 intro pins s σ H x y v u Q I rx ry h
 obtain ⟨a,b,ys,rfl,rfl,ha,hb,q⟩:=h
 cases rx
 cases ry
 obtain ⟨its,r1,p1,_⟩:=I.tuple ha
 obtain ⟨its2,r2,p2,_⟩:=I.tuple hb
 cases r1
 obtain ⟨⟨cls,dd,data,sl⟩,ho,hc,n,hd⟩:=id p1
 obtain ⟨⟨cls2,dd2,data2,sl2⟩,ho2,hc2,n2,hd2⟩:=id p2
 simp only at hc hd hc2 hd2
 subst hc hd hc2 hd2
 exact concat_meets ⟨_,ho,rfl⟩ ⟨_,ho2,rfl⟩ noFill_tuple_add seq_tuple_add PySem.F.slot_tuple_add PySem.F.entry_tuple_add (PySem.F.args_tuple_add_2 _ _)
  (tuple_addW0 a b _ its2.toArray n n2 dd dd2 sl sl2 rfl) ⟨ho,ho2,⟨.ref b,H,I,rfl,q⟩⟩
theorem Out.guard {α:Type} {b:Bool} {m:M α} {k:α->af->List Addr->Hp->Prop} (h:Out Γ xw ι H (EV.guard b m S) k):b=true/\Out Γ xw ι H (m S) k:=by
 cases b with
 | true=>exact ⟨rfl,h⟩
 | false=>exact h.elim
theorem gm {n:Nat} (h:fits n=true):n<=sizeLine:=of_decide_eq_true h
theorem Gh {n:Nat} (h:jh n=true):n < sizeLine:=of_decide_eq_true h
theorem Out.opt {α β:Type} {o:Option α} {f:α->M β} {k:β->af->List Addr->Hp->Prop} (h:Out Γ xw ι H ((EV.opt o>>=f) S) k):∃ a,o=some a/\Out Γ xw ι H (f a S) k:=by
 cases o with
 | none=>exact h.elim
 | some a=>exact ⟨a,rfl,h⟩
theorem Out.bI {l:Nat} {f:List D->M D} {k:D->af->List Addr->Hp->Prop} (h:Out Γ xw ι H (EV.bI l f S) k):∃ ds,S[l]?=some (.lst ds)/\Out Γ xw ι H (f ds S) k:=by
 have e:EV.bI l f S=match S[l]? with|some (.lst ds)=>f ds S|_=>.bad:=rfl
 rw [e] at h
 cases q:S[l]? with
 | none=>rw [q] at h; exact h.elim
 | some c =>
  rw [q] at h
  cases c with
  | lst ds=>exact ⟨ds,rfl,h⟩
  | dct kvs=>exact h.elim
  | fdc kvs=>exact h.elim
theorem ye (hK:Γ.K=X.K):OpR X (binaryOp .Add) (br Γ xw (opD .add)):=by
 intro pins s σ H x y v u Q I rx ry h
 obtain ⟨ι,S,dx,dy,hS,r1,r2,ho⟩:=h
 cases dx with
 | int i =>
  cases dy with
  | int j=>cases r1; cases r2; exact vg pins s σ H _ _ v u Q I rx ry ⟨i,j,rfl,rfl,Out.val ho hS (.int _)⟩
  | _=>exact ho.elim
 | str a =>
  cases dy with
  | str b =>
   cases r1; cases r2
   obtain ⟨hz,ho⟩:=Out.guard ho
   exact DQ pins s σ H _ _ v u Q I rx ry ⟨a,b,rfl,rfl,gm hz,Out.val ho hS (.str _)⟩
  | _=>exact ho.elim
 | tup ds =>
  cases dy with
  | tup es =>
   obtain ⟨a,xs,rfl,t1,p1⟩:=r1.cg
   obtain ⟨b,ys,rfl,t2,p2⟩:=r2.cg
   have l1:=p1.length
   have l2:=p2.length
   rw [hK] at t1 t2
   obtain ⟨hz,ho⟩:=Out.guard ho
   have hz:=gm hz
   cases xs with
   | nil =>
    have e:ds=[]:=List.length_eq_zero_iff.mp l1
    subst e
    exact Ak pins s σ H _ _ v u Q I rx ry ⟨a,b,ys,rfl,rfl,t1,t2,Out.val ho hS r2⟩
   | cons z zs =>
    refine vK pins s σ H _ _ v u Q I rx ry ⟨a,b,z::zs,ys,rfl,rfl,t1,t2,by simp,by rw [<- l1,<- l2]; exact hz,fun e=>?_,fun _ p hp=>?_⟩
    ·subst e
     have e:es=[]:=List.length_eq_zero_iff.mp l2
     subst e
     rw [List.append_nil] at ho
     exact Out.val ho hS r1
    ·exact Out.tup ho hS hp (Paired.app p1 p2)
  | _=>exact ho.elim
 | loc l =>
  cases dy with
  | loc m =>
   obtain ⟨ds,e1,ho⟩:=Out.bI ho
   obtain ⟨es,e2,ho⟩:=Out.bI ho
   obtain ⟨hz,ho⟩:=Out.guard ho
   obtain ⟨a,xs,ha,hx,p1⟩:=hS.lst e1
   obtain ⟨b,ys,hb,hy,p2⟩:=hS.lst e2
   cases r1 with
   | loc q1 =>
    cases r2 with
    | loc q2 =>
     rw [ha] at q1; cases q1
     rw [hb] at q2; cases q2
     exact zz pins s σ H _ _ v u Q I rx ry ⟨a,b,xs,ys,rfl,rfl,hx,hy,by rw [<- p1.length,<- p2.length]; exact gm hz,fun p hp=>Out.alloc ho hS hp (Paired.app p1 p2)⟩
  | _=>exact ho.elim
 | _=>exact ho.elim
theorem FA:OpR X (binaryOp .Sub) (br Γ xw (opD .sub)):=by
 intro pins s σ H x y v u Q I rx ry h
 obtain ⟨ι,S,dx,dy,hS,r1,r2,ho⟩:=h
 cases dx with
 | int i =>
  cases dy with
  | int j=>cases r1; cases r2; exact vX pins s σ H _ _ v u Q I rx ry ⟨i,j,rfl,rfl,Out.val ho hS (.int _)⟩
  | _=>exact ho.elim
 | _=>exact ho.elim
theorem Bp (hK:Γ.K=X.K):OpR X (binaryOp .Mult) (br Γ xw (opD .mul)):=by
 intro pins s σ H x y v u Q I rx ry h
 obtain ⟨ι,S,dx,dy,hS,r1,r2,ho⟩:=h
 cases dx with
 | int i =>
  cases dy with
  | int j =>
   cases r1; cases r2
   obtain ⟨hz,ho⟩:=Out.guard ho
   refine Ej pins s σ H _ _ v u Q I rx ry ⟨i,j,rfl,rfl,?_,Out.val ho hS (.int _)⟩
   rcases Bool.or_eq_true_iff.mp hz with hz|hz
   ·exact .inl (of_decide_eq_true hz)
   ·exact .inr (of_decide_eq_true hz)
  | _=>exact ho.elim
 | _=>exact ho.elim
theorem Cf:OpR X (binaryOp .FloorDiv) (br Γ xw (opD .fdiv)):=by
 intro pins s σ H x y v u Q I rx ry h
 obtain ⟨ι,S,dx,dy,hS,r1,r2,ho⟩:=h
 cases dx with
 | int i =>
  cases dy with
  | int j =>
   cases r1; cases r2
   obtain ⟨hz,ho⟩:=Out.guard ho
   rw [Bool.and_eq_true] at hz
   exact Gz pins s σ H _ _ v u Q I rx ry ⟨i,j,rfl,rfl,⟨of_decide_eq_true hz.1,of_decide_eq_true hz.2⟩,Out.val ho hS (.int _)⟩
  | _=>exact ho.elim
 | _=>exact ho.elim
theorem AE:OpR X (binaryOp .Mod) (br Γ xw (opD .mod)):=by
 intro pins s σ H x y v u Q I rx ry h
 obtain ⟨ι,S,dx,dy,hS,r1,r2,ho⟩:=h
 cases dx with
 | int i =>
  cases dy with
  | int j =>
   cases r1; cases r2
   obtain ⟨hz,ho⟩:=Out.guard ho
   exact zL pins s σ H _ _ v u Q I rx ry ⟨i,j,rfl,rfl,of_decide_eq_true hz,Out.val ho hS (.int _)⟩
  | _=>exact ho.elim
 | _=>exact ho.elim
theorem Bk:OpR X (binaryOp .Pow) (br Γ xw (opD .pow)):=by
 intro pins s σ H x y v u Q I rx ry h
 obtain ⟨ι,S,dx,dy,hS,r1,r2,ho⟩:=h
 cases dx with
 | int i =>
  cases dy with
  | int j =>
   cases r1; cases r2
   obtain ⟨hz,ho⟩:=Out.guard ho
   rw [Bool.and_eq_true,Bool.and_eq_true] at hz
   have h2:j<=1000:=of_decide_eq_true hz.1.2
   exact C6 pins s σ H _ _ v u Q I rx ry ⟨i,j,rfl,rfl,⟨of_decide_eq_true hz.1.1,by omega,of_decide_eq_true hz.2⟩,Out.val ho hS (.int _)⟩
  | _=>exact ho.elim
 | _=>exact ho.elim
theorem jA {op:CmpOp} {p:Int->Int->Bool} (h0:OpR X (compareOp op) (rI0 fun i j=>.bl (p i j))):OpR X (compareOp op) (br Γ xw (ig p)):=by
 intro pins s σ H x y v u Q I rx ry h
 obtain ⟨ι,S,dx,dy,hS,r1,r2,ho⟩:=h
 cases dx with
 | int i =>
  cases dy with
  | int j=>cases r1; cases r2; exact h0 pins s σ H _ _ v u Q I rx ry ⟨i,j,rfl,rfl,Out.val ho hS (.bl _)⟩
  | _=>exact ho.elim
 | _=>exact ho.elim
theorem EE:OpR X (compareOp .Lt) (br Γ xw (cmD .lt)):=jA vH
theorem wc:OpR X (compareOp .LtE) (br Γ xw (cmD .le)):=jA yh
theorem D5:OpR X (compareOp .Gt) (br Γ xw (cmD .gt)):=jA Dh
theorem vY:OpR X (compareOp .GtE) (br Γ xw (cmD .ge)):=jA wW
theorem tR {dx dy:D} {f:Bool->M D} {k:D->af->List Addr->Hp->Prop} (ho:Out Γ xw ι H ((eqM dx dy>>=f) S) k):∃ b,eqD deep S dx dy=some b/\Out Γ xw ι H (f b S) k:=by
 rw [bB] at ho
 unfold eqM at ho
 cases q:eqD deep S dx dy with
 | none=>rw [q] at ho; exact ho.elim
 | some b=>rw [q] at ho; exact ⟨b,rfl,ho⟩
theorem s_eq (hK:Γ.K=X.K) (hu:X.A.units+64 < cLine):OpR X (compareOp .Eq) (br Γ xw (cmD .eq)):=by
 intro pins s σ H x y v u Q I rx ry h
 obtain ⟨ι,S,dx,dy,hS,r1,r2,ho⟩:=h
 obtain ⟨k,q,ho⟩:=tR ho
 have:=(mY hK I hS deep X.A dx dy k x y v u q r1 r2 rx ry (by unfold deep; omega)).1
 exact this X.prog X.w X.xe _ ⟨.bl k,H,I,rfl,Out.val ho hS (.bl _)⟩
end
end EV

namespace NEQ
open PySem PySem.SeqAt
open AutoSeq1 (wpAny_loadPart')
open MeetsSeq MeetsSeq2 MeetsSeq3 SeqRoads2
theorem AZ (p q:Addr) (us ws:Array Value) (n1 n2:Nat) (d1 d2:Option Addr) (z1 z2:Array (Option Value)) (hlen:us.size=ws.size) (same:Nat->Bool) (left:Nat) :
  ∀ at_:Nat,us.size - at_=left->Meets (Builtin.«list.__eq__.loop» ⟨[.ref p,.ref q,rawInt at_,rawInt 3],[]⟩)
   (fun A R st=>st.heap.get? p=some { cls:=.type "list",dict:=d1,data:=.seq us n1,slots:=z1 }/\st.heap.get? q=some { cls:=.type "list",dict:=d2,data:=.seq ws n2,slots:=z2 } /\
    (∀ j (h1:j < us.size) (h2:j < ws.size),EqAt A.in1 st us[j] ws[j] (same j))/\R (.ok (.ret (.bool (!((List.range us.size).drop at_).all same)))) st):=by
 induction left with
 | zero =>
  intro at_ hk prog w A R st hyp
  obtain ⟨hp,g,dr,tk,os⟩:=st
  obtain ⟨hl,hb,he,fin⟩:=hyp
  wp_walk using wpAny_loadPart' hl,wpAny_loadPart' hb
  have no1:us[((at_:Nat):Int).toNat]?=none:=by simp; omega
  have no2:ws[((at_:Nat):Int).toNat]?=none:=by simp; omega
  have nil:(List.range us.size).drop at_=[]:=by simp; omega
  rw [nil] at fin
  rw [no1,no2]
  wp_walk using wpAny_loadPart' hl,wpAny_loadPart' hb
  show R (.ok (.ret (.bool (us.size != ws.size)))) _
  rw [hlen]
  simpa using fin
 | succ left ih =>
  intro at_ hk prog w A R st hyp
  obtain ⟨hp,g,dr,tk,os⟩:=st
  obtain ⟨hl,hb,he,fin⟩:=hyp
  wp_walk using wpAny_loadPart' hl,wpAny_loadPart' hb
  have lt1:at_ < us.size:=by omega
  have lt2:at_ < ws.size:=by omega
  have yes1:us[((at_:Nat):Int).toNat]?=some us[at_]:=by simp [lt1]
  have yes2:ws[((at_:Nat):Int).toNat]?=some ws[at_]:=by simp [lt2]
  have cons:(List.range us.size).drop at_=at_::(List.range us.size).drop (at_+1):=by simp [List.drop_eq_getElem_cons,lt1]
  have up:((at_:Int)+1)=((at_+1:Nat):Int):=by push_cast; rfl
  rw [cons,List.all_cons] at fin
  rw [yes1,yes2]
  refine wpAny_bind (he at_ lt1 lt2 prog w _ _ ?_)
  cases ev:same at_ with
  | true =>
   rw [ev] at fin
   wp_walk
   rw [up]
   exact ⟨plainId_quiet plain_eq_loop _,codeAny_builtin entry_eq_loop (by
    rw [Around.under_plainId plain_eq_loop _]
    exact ih (at_+1) (by omega) prog w A R _ ⟨hl,hb,he,by simpa using fin⟩)⟩
  | false =>
   rw [ev] at fin
   wp_walk using wpAny_loadPart' hl,wpAny_loadPart' hb
   rw [yes1,yes2]
   wp_walk
   simpa using fin
theorem CG (p q:Addr) (us ws:Array Value) (n1 n2:Nat) (d1 d2:Option Addr) (z1 z2:Array (Option Value)) (hlen:us.size=ws.size) (same:Nat->Bool) :
  Meets (Builtin.«list.__ne__» ⟨[.ref p,.ref q],[]⟩)
   (fun A R st=>st.heap.get? p=some { cls:=.type "list",dict:=d1,data:=.seq us n1,slots:=z1 }/\st.heap.get? q=some { cls:=.type "list",dict:=d2,data:=.seq ws n2,slots:=z2 } /\
    (∀ j (h1:j < us.size) (h2:j < ws.size),EqAt A.in1 st us[j] ws[j] (same j))/\R (.ok (.ret (.bool (!(List.range us.size).all same)))) st):=by
 intro prog w A R st hyp
 obtain ⟨hp,g,dr,tk,os⟩:=st
 obtain ⟨hl,hb,he,fin⟩:=hyp
 have f3:=AutoSeq1.sub_list_list
 have hne:¬ (us.size != ws.size)=true:=by simp [hlen]
 wp_walk using wpAny_loadPart' hl,wpAny_loadPart' hb
 exact ⟨plainId_quiet plain_eq_loop _,codeAny_builtin entry_eq_loop (by
  rw [Around.under_plainId plain_eq_loop _]
  exact AZ p q us ws n1 n2 d1 d2 z1 z2 hlen same _ 0 rfl prog w A R _ ⟨hl,hb,he,by simpa using fin⟩)⟩
theorem Ez (p q:Addr) (us ws:Array Value) (n1 n2:Nat) (d1 d2:Option Addr) (z1 z2:Array (Option Value)) (hlen:(us.size != ws.size)=true) :
  Meets (Builtin.«list.__ne__» ⟨[.ref p,.ref q],[]⟩)
   (fun _ R st=>st.heap.get? p=some { cls:=.type "list",dict:=d1,data:=.seq us n1,slots:=z1 }/\st.heap.get? q=some { cls:=.type "list",dict:=d2,data:=.seq ws n2,slots:=z2 } /\
    R (.ok (.ret (.bool true))) st) :=
 .of_wp fun prog w A R st hyp=>by
  obtain ⟨hp,g,dr,tk,os⟩:=st
  obtain ⟨hl,hb,fin⟩:=hyp
  have f3:=AutoSeq1.sub_list_list
  wp_walk using wpAny_loadPart' hl,wpAny_loadPart' hb
  exact ⟨_,rfl,fin⟩
theorem vp (p q:Addr) (us ws:Array Value) (n1 n2:Nat) (d1 d2:Option Addr) (z1 z2:Array (Option Value)) (same:Nat->Bool) :
  Meets (Builtin.«tuple.__ne__» ⟨[.ref p,.ref q],[]⟩)
   (fun A R st=>st.heap.get? p=some { cls:=.type "tuple",dict:=d1,data:=.seq us n1,slots:=z1 }/\st.heap.get? q=some { cls:=.type "tuple",dict:=d2,data:=.seq ws n2,slots:=z2 } /\
    (∀ j (h1:j < us.size) (h2:j < ws.size),EqAt A.in1 st us[j] ws[j] (same j)) /\
    R (.ok (.ret (.bool (!((List.range (min us.size ws.size)).all same&&us.size==ws.size))))) st) :=
 .of_wp fun prog w A R st hyp=>by
  obtain ⟨hp,g,dr,tk,os⟩:=st
  obtain ⟨hl,hb,he,fin⟩:=hyp
  have f2:=AutoSeq1.sub_tuple_tuple
  have zl:(us.toList.zip ws.toList).length=min us.size ws.size:=by simp
  wp_walk using wpAny_loadPart' hl,wpAny_loadPart' hb,wpAny_forIn_list _ (fun more b s'=>b.1=none/\s'=⟨hp,g,dr,tk,os⟩/\∃ i,more=(us.toList.zip ws.toList).drop i /\
   R (.ok (.ret (.bool (!(((List.range (min us.size ws.size)).drop i).all same&&us.size==ws.size))))) ⟨hp,g,dr,tk,os⟩) _
  case turn =>
   rintro ⟨y,x⟩ more b s' ⟨hb',rfl,i,hz,hR⟩
   have lt:i < (us.toList.zip ws.toList).length:=by
    rcases Nat.lt_or_ge i (us.toList.zip ws.toList).length with h'|h'
    ·exact h'
    ·rw [List.drop_of_length_le h'] at hz; cases hz
   have hm:i < min us.size ws.size:=zl ▸ lt
   have h1:i < us.size:=Nat.lt_of_lt_of_le hm (Nat.min_le_left _ _)
   have h2:i < ws.size:=Nat.lt_of_lt_of_le hm (Nat.min_le_right _ _)
   rw [List.drop_eq_getElem_cons lt] at hz
   injection hz with pair hmore
   have hy:y=us[i]:=by have:=congrArg Prod.fst pair; simpa using this
   have hx:x=ws[i]:=by have:=congrArg Prod.snd pair; simpa using this
   subst hy hx
   have cons:(List.range (min us.size ws.size)).drop i=i::(List.range (min us.size ws.size)).drop (i+1):=by simp [List.drop_eq_getElem_cons,hm]
   rw [cons,List.all_cons] at hR
   refine wpAny_bind (he i h1 h2 prog w _ _ ?_)
   cases ev:same i with
   | true =>
    rw [ev] at hR
    wp_walk
    exact ⟨rfl,rfl,i+1,hmore,by simpa using hR⟩
   | false =>
    rw [ev] at hR
    wp_walk
    exact ⟨_,rfl,by simpa using hR⟩
  case fin =>
   rintro ⟨b1,b2⟩ s' ⟨hb',rfl,i,hz,hR⟩
   simp only at hb'
   subst hb'
   have ge:min us.size ws.size<=i:=by
    rcases Nat.lt_or_ge i (us.toList.zip ws.toList).length with h'|h'
    ·rw [List.drop_eq_getElem_cons h'] at hz; cases hz
    ·exact zl ▸ h'
   rw [List.drop_of_length_le (by simpa using ge)] at hR
   wp_walk
   exact ⟨_,rfl,by simpa [Builtin.Tuple.tupleCompareSizes,bne] using hR⟩
  case h =>
   exact ⟨rfl,rfl,0,rfl,by simpa using fin⟩
section
variable {prog:Program} {w:World} {A:Around} {E:Value->Shared->Prop} {s:Shared}
theorem F4 {l b:Addr} {us ws:Array Value} {same:Nat->Bool} {Q:Value->Shared->Prop} (hl:s.heap.IsList l us) (hb:s.heap.IsList b ws) (hlen:us.size=ws.size) (hu:A.units < cLine)
  (he:∀ j (h1:j < us.size) (h2:j < ws.size),EqAt A.in1 s us[j] ws[j] (same j)) (h:Q (.bool (!(List.range us.size).all same)) s):wpAny (model prog w) A (compareOp .NotEq (.ref l) (.ref b)) Q E s:=by
 obtain ⟨⟨c1,d1,t1,z1⟩,o1,k1,n1,e1⟩:=id hl
 obtain ⟨⟨c2,d2,t2,z2⟩,o2,k2,n2,e2⟩:=id hb
 simp only at k1 e1 k2 e2
 subst k1 e1 k2 e2
 exact richCompare_meets_room (op:=.NotEq) ⟨_,o1,rfl⟩ ⟨_,o2,rfl⟩ F.slot_list_ne F.entry_list_ne (F.args_list_ne_2 _ _) (CG l b us ws n1 n2 d1 d2 z1 z2 hlen same) ⟨o1,o2,he,⟨(fun x=>nomatch x),h⟩⟩ hu
theorem wQ {l b:Addr} {us ws:Array Value} {Q:Value->Shared->Prop} (hl:s.heap.IsList l us) (hb:s.heap.IsList b ws) (hlen:(us.size != ws.size)=true) (hu:A.units < cLine)
  (h:Q (.bool true) s):wpAny (model prog w) A (compareOp .NotEq (.ref l) (.ref b)) Q E s:=by
 obtain ⟨⟨c1,d1,t1,z1⟩,o1,k1,n1,e1⟩:=id hl
 obtain ⟨⟨c2,d2,t2,z2⟩,o2,k2,n2,e2⟩:=id hb
 simp only at k1 e1 k2 e2
 subst k1 e1 k2 e2
 exact richCompare_meets_room (op:=.NotEq) ⟨_,o1,rfl⟩ ⟨_,o2,rfl⟩ F.slot_list_ne F.entry_list_ne (F.args_list_ne_2 _ _) (Ez l b us ws n1 n2 d1 d2 z1 z2 hlen) ⟨o1,o2,⟨(fun x=>nomatch x),h⟩⟩ hu
theorem Cv {l b:Addr} {us ws:Array Value} {same:Nat->Bool} {Q:Value->Shared->Prop} (hl:s.heap.IsTuple l us) (hb:s.heap.IsTuple b ws) (hu:A.units < cLine)
  (he:∀ j (h1:j < us.size) (h2:j < ws.size),EqAt A.in1 s us[j] ws[j] (same j)) (h:Q (.bool (!((List.range (min us.size ws.size)).all same&&us.size==ws.size))) s):wpAny (model prog w) A (compareOp .NotEq (.ref l) (.ref b)) Q E s:=by
 obtain ⟨⟨c1,d1,t1,z1⟩,o1,k1,n1,e1⟩:=id hl
 obtain ⟨⟨c2,d2,t2,z2⟩,o2,k2,n2,e2⟩:=id hb
 simp only at k1 e1 k2 e2
 subst k1 e1 k2 e2
 exact richCompare_meets_room (op:=.NotEq) ⟨_,o1,rfl⟩ ⟨_,o2,rfl⟩ F.slot_tuple_ne F.entry_tuple_ne (F.args_tuple_ne_2 _ _) (vp l b us ws n1 n2 d1 d2 z1 z2 same) ⟨o1,o2,he,⟨(fun x=>nomatch x),h⟩⟩ hu
end
end NEQ

namespace EV
open PySem PySem.Spec PyProof.Rows L2
open PySem.SeqAt (EqAt RcAt)
section
variable {X:Cx} {Γ:Gx} {xw:XW} {pins:List (Addr × Obj)} {σ:L2.St} {H:Hp} {s:Shared} {ι:List Addr} {S:af}
theorem tQ (hK:Γ.K=X.K) (I:Inv X pins σ H s) (hS:ay Γ ι H S) {n:Nat} {A:Around} (hu:A.units+n < cLine) {ds es:List D} {xs ys:List V} {its1 its2:List Value} {e:Nat->Bool} (rp1:az Γ ι H ds xs) (rp2:az Γ ι H es ys)
  (rv1:Vals xs its1) (rv2:Vals ys its2) (he:∀ (j:Nat) x y,ds[j]?=some x->es[j]?=some y->eqD n S x y=some (e j)) (j:Nat) (h1:j < its1.toArray.size) (h2:j < its2.toArray.size):EqAt A s its1.toArray[j] its2.toArray[j] (e j):=by
 rw [List.size_toArray] at h1 h2
 have l1:=rp1.length
 have l2:=rp2.length
 have l3:=rv1.length
 have l4:=rv2.length
 have j1:j < ds.length:=by omega
 have j2:j < es.length:=by omega
 obtain ⟨y1,a1,a2⟩:=Paired.get rp1 (List.getElem?_eq_getElem j1)
 obtain ⟨y2,a3,a4⟩:=Paired.get rp2 (List.getElem?_eq_getElem j2)
 obtain ⟨w1,z1,z2⟩:=rv1.get a1
 obtain ⟨w2,z3,z4⟩:=rv2.get a3
 have:=(mY hK I hS n A ds[j] es[j] (e j) y1 y2 w1 w2 (he j _ _ (List.getElem?_eq_getElem j1) (List.getElem?_eq_getElem j2)) a2 a4 z2 z4 hu).2
 have q1:its1.toArray[j]'(by rw [List.size_toArray]; exact h1)=w1:=by
  have:its1[j]?=some its1[j]:=List.getElem?_eq_getElem h1
  rw [z1] at this; cases this; rfl
 have q2:its2.toArray[j]'(by rw [List.size_toArray]; exact h2)=w2:=by
  have:its2[j]?=some its2[j]:=List.getElem?_eq_getElem h2
  rw [z3] at this; cases this; rfl
 rw [q1,q2]; exact this
theorem Er (n:Nat) (S:af) (xs ys:List D):eqD (n+1) S (.tup xs) (.tup ys)=(bX (eqD n S) xs ys).map fun r=>r&&(xs.length==ys.length):=rfl
theorem BW (n:Nat) (S:af) (a b:D) (h1:a.kd=.list) (h2:b.kd=.list):eqD (n+1) S a b=match asL S a,asL S b with
  | some xs,some ys=>if xs.length=ys.length then bX (eqD n S) xs ys else some false
  | _,_=>none:=by simp only [eqD,h1,h2] <;> rfl
theorem Cy {a b:D} (h:fY a b=true):(a.kd=.flat/\b.kd=.flat)\/(a.kd=.tup/\b.kd=.tup)\/(a.kd=.list/\b.kd=.list)\/(∃ xs y,a=.tup xs/\b=.str y)\/∃ xs i,a=.tup xs/\b=.int i:=by
 cases a <;> cases b <;> first|exact .inl ⟨rfl,rfl⟩|exact .inr (.inl ⟨rfl,rfl⟩)|exact .inr (.inr (.inl ⟨rfl,rfl⟩))|exact .inr (.inr (.inr (.inl ⟨_,_,rfl,rfl⟩)))|exact .inr (.inr (.inr (.inr ⟨_,_,rfl,rfl⟩)))|cases h
theorem C_ {S:af} {a b:D} (e1:a.kd=.flat) (e2:b.kd=.flat):eqD deep S a b=jz a b:=by
 show eqD (11+1) S a b=_
 simp only [eqD,e1,e2]
theorem yr {S:af} {a b:D} {x y:V} {k:Bool} (hn:fY a b=true) (q:eqD deep S a b=some k) (r1:Rep Γ ι H a x) (r2:Rep Γ ι H b y) (e1:a.kd=.flat) (e2:b.kd=.flat):tP x y=true/\(decide (x=y))=k:=by
 rw [C_ e1 e2] at q
 clear S
 cases r1 <;> first|(cases e1; done)|skip
 all_goals (cases r2 <;> first|(cases e2; done)|(cases hn; done)|skip)
 all_goals (refine ⟨rfl,?_⟩; cases Option.some.inj q; first|rfl|(rw [show (decide _:Bool)=_ from l_]; done)|(rw [show (decide _:Bool)=_ from l_])|rw [uE]|rw [pP]|simp)
theorem BD (hK:Γ.K=X.K) (hu:X.A.units+64 < cLine):OpR X (compareOp .NotEq) (br Γ xw (cmD .ne)):=by
 intro pins s σ H x y v u Q I rx ry h
 obtain ⟨ι,S,dx,dy,hS,r1,r2,ho⟩:=h
 obtain ⟨hn,ho⟩:=Out.guard ho
 obtain ⟨k,q,ho⟩:=tR ho
 have fin:Q (.bl (!k)) H:=Out.val ho hS (.bl _)
 have hu0:X.A.units < cLine:=by omega
 have hd:deep=11+1:=rfl
 rcases Cy hn with ⟨e1,e2⟩|⟨e1,e2⟩|⟨e1,e2⟩|⟨xs0,y0,rfl,rfl⟩|⟨xs0,i0,rfl,rfl⟩
 ·obtain ⟨z1,z2⟩:=yr hn q r1 r2 e1 e2
  exact z0 pins s σ H _ _ v u Q I rx ry ⟨z1,by rw [z2]; exact fin⟩
 ·-- tuples
  cases dx <;> first|(cases e1; done)|skip
  cases dy <;> first|(cases e2; done)|skip
  obtain ⟨a,xs,rfl,t1,p1⟩:=r1.cg
  obtain ⟨b,ys,rfl,t2,p2⟩:=r2.cg
  cases rx
  cases ry
  rw [hK] at t1 t2
  obtain ⟨its1,rv1,pt1,_⟩:=I.tuple t1
  obtain ⟨its2,rv2,pt2,_⟩:=I.tuple t2
  rw [hd,Er,Option.map_eq_some_iff] at q
  obtain ⟨r,hr,hk⟩:=q
  obtain ⟨e,he,hk2⟩:=g8 hr
  refine NEQ.Cv (same:=e) pt1 pt2 hu0 (tQ hK I hS (by show X.A.units+1+11 < _; omega) p1 p2 rv1 rv2 he) ?_
  rw [List.size_toArray,List.size_toArray,<- rv1.length,<- rv2.length,<- p1.length,<- p2.length,<- hk2,hk]
  exact ⟨.bl (!k),H,I,rfl,fin⟩
 ·-- lists
  rw [hd,BW _ _ _ _ e1 e2] at q
  split at q
  ·rename_i ds es h1 h2
   obtain ⟨a,xs,rfl,s1,p1⟩:=hS.list r1 h1
   obtain ⟨b,ys,rfl,s2,p2⟩:=hS.list r2 h2
   cases rx
   cases ry
   rw [hK] at s1 s2
   obtain ⟨its1,rv1,pl1,_⟩:=I.list s1
   obtain ⟨its2,rv2,pl2,_⟩:=I.list s2
   have z1:its1.toArray.size=ds.length:=by rw [List.size_toArray,<- rv1.length,<- p1.length]
   have z2:its2.toArray.size=es.length:=by rw [List.size_toArray,<- rv2.length,<- p2.length]
   by_cases hlen:ds.length=es.length
   ·rw [if_pos hlen] at q
    obtain ⟨e,he,hk2⟩:=g8 q
    refine NEQ.F4 (same:=e) pl1.isList pl2.isList (by omega) hu0 (tQ hK I hS (by show X.A.units+1+11 < _; omega) p1 p2 rv1 rv2 he) ?_
    rw [z1,show (List.range ds.length).all e=k by rw [hk2,<- hlen,Nat.min_self]]
    exact ⟨.bl (!k),H,I,rfl,fin⟩
   ·rw [if_neg hlen] at q
    cases q
    exact NEQ.wQ pl1.isList pl2.isList (by rw [z1,z2]; simpa using hlen) hu0 ⟨.bl true,H,I,rfl,fin⟩
  ·cases q
 ·-- a tuple and a text
  cases (show some false=some k from q)
  obtain ⟨a,xs,rfl,t1,p1⟩:=r1.cg
  cases r2
  cases rx
  obtain ⟨tk,rfl⟩:=(show ∃ tk,u=Value.str y0 tk from ry)
  rw [hK] at t1
  obtain ⟨its1,rv1,pt1,_⟩:=I.tuple t1
  exact PySem.SeqAt.RcNeAt.tuple_str y0 tk pt1 hu0 _ _ _ _ ⟨.bl true,H,I,rfl,fin⟩
 ·-- a tuple and an int
  cases (show some false=some k from q)
  obtain ⟨a,xs,rfl,t1,p1⟩:=r1.cg
  cases r2
  cases rx
  obtain ⟨tk,rfl⟩:=(show ∃ tk,u=Value.int i0 tk from ry)
  rw [hK] at t1
  obtain ⟨its1,rv1,pt1,_⟩:=I.tuple t1
  exact PySem.SeqAt.RcNeAt.tuple_int i0 tk pt1 hu0 _ _ _ _ ⟨.bl true,H,I,rfl,fin⟩
theorem Rep.inj (hK:Γ.K=X.K) (I:Inv X pins σ H s) (hS:ay Γ ι H S) {d:D} {v:V} (r:Rep Γ ι H d v):∀ {d':D},Rep Γ ι H d' v->d=d':=by
 obtain ⟨K⟩:=Γ
 have hK':K=X.K:=hK
 subst hK'
 have tl:∀ {a:Addr} {xs ys:List V},SqT X.K H a xs->SqL X.K H a ys->False:=fun {a xs ys} ht hl=>by
  obtain ⟨its,_,pl,_⟩:=I.list hl
  obtain ⟨its2,_,pt,_⟩:=I.tuple ht
  exact absurd rfl (SeqAt.ne_of_list_tuple pl.isList pt)
 have td:∀ {a:Addr} {xs:List V} {kvs:List (List Key × V)},SqT X.K H a xs->H a=some (.dT kvs)->False:=fun {a xs kvs} ht hd=>by
  obtain ⟨its2,_,⟨o,e1,_,n,e2⟩,_⟩:=I.tuple ht
  obtain ⟨_,_,_,_,o',es,ep,h1,_,h2,_⟩:=(show cB X.prog X.w H s.heap a (.dT kvs) from I.hok a _ hd)
  rw [e1] at h1; cases h1
  rw [e2] at h2; cases h2
 have tf:∀ {a:Addr} {xs:List V} {o:Obj} {kvs:List (List Key × V)},SqT X.K H a xs->H a=some (.frz o (.dT kvs))->False:=fun {a xs o kvs} ht hd=>by
  obtain ⟨its2,_,⟨o1,e1,_,n,e2⟩,_⟩:=I.tuple ht
  obtain ⟨g1,_,_,_,_,o',es,ep,h1,_,h2,_⟩:=(show s.heap.get? a=some o/\cB X.prog X.w H s.heap a (.dT kvs) from I.hok a _ hd)
  rw [e1] at h1; cases h1
  rw [e2] at h2; cases h2
 have tll:∀ {l:Nat} {a:Addr} {xs:List V},SqT X.K H a xs->((∃ ys,H a=some (.lst ys))\/(∃ ys,H a=some (.dT ys))\/∃ o ys,H a=some (.frz o (.dT ys)))->False:=fun {l a xs} ht h=>by
  rcases h with ⟨ys,hy⟩|⟨ys,hy⟩|⟨o,ys,hy⟩
  ·exact tl ht (.of hy)
  ·exact td ht hy
  ·exact tf ht hy
 have ll:∀ {l:Nat} {a:Addr},ι[l]?=some a->(∃ xs,H a=some (.lst xs))\/(∃ xs,H a=some (.dT xs))\/∃ o xs,H a=some (.frz o (.dT xs)):=fun {l a} q=>by
  have hl:l < S.length:=by rw [<- hS.len]; exact (List.getElem?_eq_some_iff.mp q).1
  obtain ⟨b,hb,c⟩:=hS.cell l S[l] (List.getElem?_eq_getElem hl)
  rw [q] at hb; cases hb
  cases e:S[l] with
  | lst ds=>rw [e] at c; obtain ⟨xs,hx,_⟩:=c; exact .inl ⟨xs,hx⟩
  | dct kvs=>rw [e] at c; obtain ⟨xs,hx,_⟩:=c; exact .inr (.inl ⟨xs,hx⟩)
  | fdc kvs=>rw [e] at c; obtain ⟨xs,⟨o,hx⟩,_⟩:=c; exact .inr (.inr ⟨o,xs,hx⟩)
 have fl:∀ {l:Nat} {a:Addr} {xs:List V},Fro X.K H a xs->ι[l]?=some a->False:=fun {l a xs} hf q=>by
  obtain ⟨ob,hy,hno⟩:∃ ob,H a=some ob/\∀ o us,ob≠.frz o (.lst us):=by
   rcases ll q with ⟨ys,hy⟩|⟨ys,hy⟩|⟨o',ys,hy⟩
   ·exact ⟨_,hy,fun _ _ z=>by cases z⟩
   ·exact ⟨_,hy,fun _ _ z=>by cases z⟩
   ·exact ⟨_,hy,fun _ _ z=>by cases z⟩
  rcases hf with ⟨o,hf⟩|hf
  ·rw [hy] at hf; exact hno _ _ (Option.some.inj hf)
  ·rcases hf (fun _=>none) with (z|⟨_,z⟩)|z
   ·cases z
   ·cases z
   ·obtain ⟨o,_,_,hk,_⟩:=z
    have hb:X.base.get? a=some o:=I.ok.mod.kin a o hk
    have:=(I.bs a o hb).2
    rw [hy] at this; cases this
 induction r with
 | non=>intro d' r'; cases r'; rfl
 | bl b=>intro d' r'; cases r'; rfl
 | int i=>intro d' r'; cases r'; rfl
 | str x=>intro d' r'; cases r'; rfl
 | @tup ds a xs t1 l1 p1 k1 ih =>
  intro d' r'
  cases r' with
  | @tup es _ ys t2 l2 p2 _ =>
   have e:xs=ys:=I.k6 t1 t2
   subst e
   congr 1
   refine List.ext_getElem? fun j=>?_
   by_cases hj:j < ds.length
   ·have h1:=List.getElem?_eq_getElem hj
    have h2:es[j]?=some es[j]:=List.getElem?_eq_getElem (by omega)
    have h3:xs[j]?=some xs[j]:=List.getElem?_eq_getElem (by omega)
    rw [h1,h2,ih j _ _ h1 h3 (p2 j _ _ h2 h3)]
   ·rw [List.getElem?_eq_none (by omega),List.getElem?_eq_none (by omega)]
  | fro f2 _ _=>exact (tl t1 f2.sq).elim
  | loc q=>exact (tll (l:=0) t1 (ll q)).elim
 | @fro ds a xs f1 l1 p1 ih =>
  intro d' r'
  cases r' with
  | tup t2 _ _ _=>exact (tl t2 f1.sq).elim
  | @fro es _ ys f2 l2 p2 =>
   have e:xs=ys:=I.j3 f1.sq f2.sq
   subst e
   congr 1
   refine List.ext_getElem? fun j=>?_
   by_cases hj:j < ds.length
   ·have h1:=List.getElem?_eq_getElem hj
    have h2:es[j]?=some es[j]:=List.getElem?_eq_getElem (by omega)
    have h3:xs[j]?=some xs[j]:=List.getElem?_eq_getElem (by omega)
    rw [h1,h2,ih j _ _ h1 h3 (p2 j _ _ h2 h3)]
   ·rw [List.getElem?_eq_none (by omega),List.getElem?_eq_none (by omega)]
  | loc q=>exact (fl f1 q).elim
 | @loc l a q =>
  intro d' r'
  cases r' with
  | tup t2 _ _ _=>exact (tll (l:=0) t2 (ll q)).elim
  | fro f2 _ _=>exact (fl f2 q).elim
  | loc q'=>rw [k8 hS.nd q q']
theorem tN {x:D}:∀ {ys:List D} {k:Bool},inL S x ys=some k->(∀ y∈ys,eqD deep S y x=some ((eqD deep S y x).getD false))/\k=ys.any fun y=>(eqD deep S y x).getD false
 | [],k,h=>⟨fun y hy=>absurd hy (by simp),by cases h; rfl⟩
 | y::ys,k,h=>by
  simp only [inL] at h
  split at h
  ·rename_i a b e1 e2
   cases h
   obtain ⟨he,hk⟩:=tN e2
   refine ⟨fun z hz=>?_,?_⟩
   ·rcases List.mem_cons.mp hz with rfl|hz
    ·simp [e1]
    ·exact he z hz
   ·rw [List.any_cons,<- hk]; simp [e1]
  ·cases h
theorem jB (hK:Γ.K=X.K) (I:Inv X pins σ H s) (hS:ay Γ ι H S) {A:Around} (hu:A.units+deep < cLine) {dx:D} {x:V} {v:Value} (r1:Rep Γ ι H dx x) (rx:RelV x v) {ds:List D} {xs:List V} {its:List Value} {k:Bool} (h:inL S dx ds=some k)
  (p:az Γ ι H ds xs) (rv:Vals xs its):∃ e:Value->Bool,(∀ y,y∈its.toArray->EqAt A s y v (e y))/\its.toArray.any e=k:=by
 classical
 obtain ⟨h1,h2⟩:=tN h
 have key:∀ (d:D) (w:V) (u:Value),d∈ds->Rep Γ ι H d w->RelV w u->∀ (d':D) (w':V),Rep Γ ι H d' w'->RelV w' u->d'=d:=fun d w u _ r q d' w' r' q'=>by
  have e:w'=w:=q'.inj q
  subst e
  exact (Rep.inj hK I hS r' r)
 refine ⟨fun u=>decide (∃ d w,d∈ds/\Rep Γ ι H d w/\RelV w u/\(eqD deep S d dx).getD false=true),fun u hu'=>?_,?_⟩
 ·have hm:u∈its:=by simpa using hu'
  obtain ⟨j,hj⟩:=List.getElem?_of_mem hm
  obtain ⟨w,hw,q⟩:=Paired.get' rv hj
  obtain ⟨d,hd,r⟩:=Paired.get' p hw
  have hd':=List.mem_of_getElem? hd
  have e:=(mY hK I hS deep A d dx _ w x u v (h1 d hd') r r1 q rx hu).2
  have:decide (∃ d w,d∈ds/\Rep Γ ι H d w/\RelV w u/\(eqD deep S d dx).getD false=true)=(eqD deep S d dx).getD false:=by
   cases z:(eqD deep S d dx).getD false with
   | true=>exact decide_eq_true ⟨d,w,hd',r,q,z⟩
   | false =>
    refine decide_eq_false ?_
    rintro ⟨d',w',_,r',q',z'⟩
    rw [key d w u hd' r q d' w' r' q',z] at z'
    cases z'
  show EqAt A s u v (decide (∃ d w,d∈ds/\Rep Γ ι H d w/\RelV w u/\(eqD deep S d dx).getD false=true))
  rw [this]; exact e
 ·rw [h2]
  rw [Bool.eq_iff_iff]
  simp only [Array.any_eq_true',List.any_eq_true,decide_eq_true_eq]
  constructor
  ·rintro ⟨u,hu',d,w,hd,r,q,z⟩
   exact ⟨d,hd,z⟩
  ·rintro ⟨d,hd,z⟩
   obtain ⟨j,hj⟩:=List.getElem?_of_mem hd
   obtain ⟨w,hw,r⟩:=Paired.get p hj
   obtain ⟨u,hu',q⟩:=rv.get hw
   exact ⟨u,by simpa using List.mem_of_getElem? hu',d,w,hd,r,q,z⟩
theorem iR (d:D) (S:af):(∃ ds,items d S=.ok ds S)\/items d S=.bad:=by
 cases d with
 | tup ds=>exact .inl ⟨ds,rfl⟩
 | fro ds=>exact .inl ⟨ds,rfl⟩
 | loc l =>
  rw [s_]
  cases listAt S l with
  | none=>exact .inr rfl
  | some ds=>exact .inl ⟨ds,rfl⟩
 | _=>exact .inr rfl
theorem Out.items {α:Type} {d:D} {f:List D->M α} {k:α->af->List Addr->Hp->Prop} (ho:Out Γ xw ι H ((EV.items d>>=f) S) k):∃ ds,EV.items d S=.ok ds S/\Out Γ xw ι H (f ds S) k:=by
 rcases iR d S with ⟨ds,e⟩|e
 ·rw [ao e] at ho; exact ⟨ds,e,ho⟩
 ·rw [bz e] at ho; exact ho.elim
theorem Out.F6 {α:Type} {o:Option α} {k:α->af->List Addr->Hp->Prop} (ho:Out Γ xw ι H (EV.opt o S) k):∃ a,o=some a/\Out Γ xw ι H (.ok a S) k:=by
 cases o with
 | none=>exact ho.elim
 | some a=>exact ⟨a,rfl,ho⟩
theorem qq {neg:Bool} {a b:D} {k:D->af->List Addr->Hp->Prop} (ho:Out Γ xw ι H (inM neg a b S) k):∃ ds c,items b S=.ok ds S/\inL S a ds=some c/\Out Γ xw ι H (.ok (.bl (c != neg)) S) k:=by
 obtain ⟨ds,e,ho⟩:=Out.items ho
 unfold inA at ho
 cases q:inL S a ds with
 | none=>rw [q] at ho; exact ho.elim
 | some c=>rw [q] at ho; exact ⟨ds,c,e,q,ho⟩
theorem dW (hS:ay Γ ι H S) {d:D} {v:V} {ds:List D} {S':af} (r:Rep Γ ι H d v) (h:items d S=.ok ds S'):S'=S/\∃ a xs,v=.ref a/\(SqL Γ.K H a xs\/SqT Γ.K H a xs)/\az Γ ι H ds xs/\(∀ l,d=.loc l->SqL Γ.K H a xs):=by
 cases d with
 | tup es=>cases h; obtain ⟨a,xs,e,t,p⟩:=r.cg; exact ⟨rfl,a,xs,e,.inr t,p,fun l e=>by cases e⟩
 | fro es=>cases h; obtain ⟨a,xs,e,f,p⟩:=r.fR; exact ⟨rfl,a,xs,e,.inl f.sq,p,fun l e=>by cases e⟩
 | loc l =>
  have h':(match listAt S l with|some ds=>Res.ok ds S|none=>.bad)=.ok ds S':=h
  cases q:listAt S l with
  | none=>rw [q] at h'; cases h'
  | some es =>
   rw [q] at h'
   cases h'
   obtain ⟨a,xs,e,t,p⟩:=hS.list r (show asL S (.loc l)=some ds from q)
   exact ⟨rfl,a,xs,e,.inl t,p,fun _ _=>t⟩
 | _=>cases h
theorem vh (hK:Γ.K=X.K) (hu:X.A.units+64 < cLine):OpR X (compareOp .In) (br Γ xw (inM false)):=by
 intro pins s σ H x y v u Q I rx ry h
 obtain ⟨ι,S,dx,dy,hS,r1,r2,ho⟩:=h
 obtain ⟨ds,c,h1,h2,ho⟩:=qq ho
 have fin:Q (.bl c) H:=by have:=Out.val ho hS (.bl _); simpa using this
 obtain ⟨_,a,xs,rfl,sq,p,_⟩:=dW hS r2 h1
 cases ry
 rw [hK] at sq
 rcases sq with sq|sq
 ·obtain ⟨its,rv,pl,_⟩:=I.list sq
  obtain ⟨e,he,hk⟩:=jB hK I hS (A:=X.A.in1) (by show X.A.units+1+12 < cLine; omega) r1 rx h2 p rv
  exact SeqAt.in_listAt e pl.isList he (by rw [hk]; exact ⟨.bl c,H,I,rfl,fin⟩)
 ·obtain ⟨its,rv,pl,_⟩:=I.tuple sq
  obtain ⟨e,he,hk⟩:=jB hK I hS (A:=X.A.in1) (by show X.A.units+1+12 < cLine; omega) r1 rx h2 p rv
  exact SeqAt.in_tupleAt e pl he (by rw [hk]; exact ⟨.bl c,H,I,rfl,fin⟩)
theorem xX (hK:Γ.K=X.K) (hu:X.A.units+64 < cLine):OpR X (compareOp .NotIn) (br Γ xw (inM true)):=by
 intro pins s σ H x y v u Q I rx ry h
 obtain ⟨ι,S,dx,dy,hS,r1,r2,ho⟩:=h
 obtain ⟨ds,c,h1,h2,ho⟩:=qq ho
 have fin:Q (.bl (!c)) H:=by have:=Out.val ho hS (.bl _); simpa using this
 obtain ⟨_,a,xs,rfl,sq,p,_⟩:=dW hS r2 h1
 cases ry
 rw [hK] at sq
 rcases sq with sq|sq
 ·obtain ⟨its,rv,pl,_⟩:=I.list sq
  obtain ⟨e,he,hk⟩:=jB hK I hS (A:=X.A.in1) (by show X.A.units+1+12 < cLine; omega) r1 rx h2 p rv
  exact SeqAt.notIn_listAt e pl.isList he (by rw [hk]; exact ⟨.bl (!c),H,I,rfl,fin⟩)
 ·obtain ⟨its,rv,pl,_⟩:=I.tuple sq
  obtain ⟨e,he,hk⟩:=jB hK I hS (A:=X.A.in1) (by show X.A.units+1+12 < cLine; omega) r1 rx h2 p rv
  exact SeqAt.notIn_tupleAt e pl he (by rw [hk]; exact ⟨.bl (!c),H,I,rfl,fin⟩)
theorem Gf (hK:Γ.K=X.K):tE X (fun x H Q=>∃ ι S d,ay Γ ι H S/\Rep Γ ι H d x/\Out Γ xw ι H (truth d S) fun b _ _ H'=>Q b H'):=by
 intro pins s σ H x v Q I rx h
 obtain ⟨ι,S,d,hS,r,ho⟩:=h
 refine yi pins s σ H x v Q I rx ?_
 cases d with
 | bl b=>cases r; exact ⟨b,rfl,ho.here hS⟩
 | non=>cases r; exact ⟨false,rfl,ho.here hS⟩
 | int i=>cases r; exact ⟨_,rfl,ho.here hS⟩
 | tup ds =>
  obtain ⟨a,xs,rfl,t,p⟩:=r.cg
  rw [hK] at t
  refine ⟨!ds.isEmpty,.inr (.inl ⟨xs,t,?_⟩),ho.here hS⟩
  cases p <;> rfl
 | fro ds =>
  obtain ⟨a,xs,rfl,t,p⟩:=r.fR
  have t:=t.sq
  rw [hK] at t
  refine ⟨!ds.isEmpty,.inl ⟨xs,t,?_⟩,ho.here hS⟩
  cases p <;> rfl
 | loc l =>
  obtain ⟨ds,q,ho'⟩:=Out.items ho
  obtain ⟨_,a,xs,rfl,_,p,t⟩:=dW hS r q
  ·have t:=t l rfl
   rw [hK] at t
   refine ⟨!ds.isEmpty,.inl ⟨xs,t,?_⟩,ho'.here hS⟩
   cases p <;> rfl
 | _=>exact ho.elim
theorem Ei {ds:List D} {xs:List V} {i:Int} {d:D} (p:az Γ ι H ds xs) (h:EV.atI ds i=some d):∃ v,L2.atI xs i=some v/\Rep Γ ι H d v:=by
 unfold EV.atI at h
 cases e:EV.ixN ds.length i with
 | none=>rw [e] at h; cases h
 | some j =>
  rw [e] at h
  obtain ⟨v,hv,r⟩:=Paired.get p h
  refine ⟨v,?_,r⟩
  have e':L2.ixN xs.length i=some j:=by rw [<- p.length]; exact e
  unfold L2.atI
  rw [e']
  exact hv
theorem Bc (hK:Γ.K=X.K):IxR X (br Γ xw ixD):=by
 intro value slice pins s σ H x y v u Q I rx ry h hsub
 obtain ⟨ι,S,dx,dy,hS,r1,r2,ho⟩:=h
 cases dy with
 | int j =>
  cases r2
  obtain ⟨ds,q,ho'⟩:=Out.items ho
  obtain ⟨d,q2,ho'⟩:=Out.F6 ho'
  obtain ⟨_,a,xs,rfl,sq,p,_⟩:=dW hS r1 q
  ·rw [hK] at sq
   ·obtain ⟨w,hw,rw'⟩:=Ei p q2
    have fin:=Out.val ho' hS rw'
    rcases sq with sq|sq
    ·exact Ed value slice pins s σ H _ _ v u Q I rx ry ⟨a,xs,j,w,rfl,rfl,sq,hw,fin⟩ hsub
    ·exact xR value slice pins s σ H _ _ v u Q I rx ry ⟨a,xs,j,w,rfl,rfl,sq,hw,fin⟩ hsub
 | _=>exact ho.elim
theorem El:SlR X (fun x lo hi H Q=>∃ a xs,x=.ref a/\SqT X.K H a xs/\(HT.sIx xs.length 0 lo=0/\HT.sIx xs.length xs.length hi=xs.length)/\Q (.ref a) H):=by
 intro pins s σ H x v vl vu lo hi sl Q I rx hs pl pu h
 obtain ⟨a,xs,rfl,hx,hw,q⟩:=h
 cases rx
 obtain ⟨its,r,ht,hz⟩:=I.tuple hx
 have hlen:its.toArray.size=xs.length:=by rw [List.size_toArray]; exact r.length.symm
 exact ⟨"tuple",_,PyProof.Rows.slot_tuple_getitem.lookup,ht.typeIs,HT.AA ht hs pl pu (by rw [hlen]; exact hw) ⟨.ref a,H,I,rfl,q⟩⟩
theorem n8 {ds:List D} {xs:List V} (p:az Γ ι H ds xs) (lo hi:Option Int):az Γ ι H (cut ds lo hi) (d7 xs lo hi):=by
 have e:∀ n d o,EV.sIx n d o=HT.sIx n d o:=fun n d o=>by cases o <;> rfl
 unfold cut d7
 rw [e,e,p.length]
 exact Paired.tak _ (Paired.drp _ p)
theorem zR (hK:Γ.K=X.K):SlR X (fun x lo hi H Q=>∃ ι S d,ay Γ ι H S/\Rep Γ ι H d x/\Out Γ xw ι H (slD d lo hi S) fun d _ ι' H'=>∀ v,Rep Γ ι' H' d v->Q v H'):=by
 intro pins s σ H x v vl vu lo hi sl Q I rx hs pl pu h
 obtain ⟨ι,S,d,hS,r,ho⟩:=h
 cases d with
 | tup ds =>
  obtain ⟨a,xs,rfl,t,p⟩:=r.cg
  rw [hK] at t
  have pc:=n8 p lo hi
  by_cases hw:HT.sIx xs.length 0 lo=0/\HT.sIx xs.length xs.length hi=xs.length
  ·have e:d7 xs lo hi=xs:=by unfold d7; rw [hw.1,hw.2]; simp
   have e2:cut ds lo hi=ds:=by
    have es:∀ n d o,EV.sIx n d o=HT.sIx n d o:=fun n d o=>by cases o <;> rfl
    unfold cut
    rw [es,es,p.length,hw.1,hw.2,<- p.length]; simp
   refine El pins s σ H _ v vl vu lo hi sl Q I rx hs pl pu ⟨a,xs,rfl,t,hw,Out.val ho hS (by rw [e2]; exact r)⟩
  ·exact Ft pins s σ H _ v vl vu lo hi sl Q I rx hs pl pu ⟨a,xs,rfl,t,hw,fun q hq=>Out.tup ho hS hq pc⟩
 | fro ds =>
  obtain ⟨a,xs,rfl,t,p⟩:=r.fR
  have t:=t.sq
  rw [hK] at t
  exact rL pins s σ H _ v vl vu lo hi sl Q I rx hs pl pu ⟨a,xs,rfl,t,fun q hq=>Out.alloc ho hS hq (n8 p lo hi)⟩
 | loc l =>
  obtain ⟨ds,q,ho'⟩:=Out.items ho
  obtain ⟨_,a,xs,rfl,_,p,t⟩:=dW hS r q
  ·have t:=t l rfl
   rw [hK] at t
   exact rL pins s σ H _ v vl vu lo hi sl Q I rx hs pl pu ⟨a,xs,rfl,t,fun q hq=>Out.alloc ho' hS hq (n8 p lo hi)⟩
 | _=>exact ho.elim
end
end EV

namespace EV
open PySem PySem.Spec PyProof.Rows L2
theorem qK:∀ {ds:List D} {is:List Bool},dm ds=some is->ds=is.map D.bl
 | [],is,h=>by cases h; rfl
 | d::r,is,h=>by
  cases d with
  | bl i =>
   simp only [dm,Option.map_eq_some_iff] at h
   obtain ⟨js,e,rfl⟩:=h
   rw [qK e]; rfl
  | _=>cases h
theorem tX {Γ:Gx} {ι:List Addr} {H:Hp}:∀ {is:List Bool} {xs:List V},az Γ ι H (is.map D.bl) xs->xs=is.map V.bl
 | [],_,.nil=>rfl
 | i::r,_,.cons (b:=y) h t=>by
  cases h
  rw [tX t]; rfl
theorem sd {Γ:Gx} {ι:List Addr} {H:Hp}:∀ (is:List Int),az Γ ι H (is.map D.int) (is.map V.int)
 | []=>.nil
 | i::r=>.cons (.int i) (sd r)
theorem range_all (bs:List Bool):(List.range bs.length).all (fun i=>bs.getD i false)=bs.all id:=by
 rw [Bool.eq_iff_iff,List.all_eq_true,List.all_eq_true]
 constructor
 ·intro h b hb
  obtain ⟨i,e⟩:=List.getElem?_of_mem hb
  have:=h i (by rw [List.mem_range]; exact (List.getElem?_eq_some_iff.mp e).1)
  rw [List.getD_eq_getElem?_getD,e] at this
  exact this
 ·intro h i hi
  rw [List.mem_range] at hi
  rw [List.getD_eq_getElem?_getD,List.getElem?_eq_getElem hi]
  exact h _ (List.getElem_mem hi)
section
variable {X:Cx} {Γ:Gx} {xw:XW} {pins:List (Addr × Obj)} {σ:L2.St} {H:Hp} {s:Shared} {ι:List Addr} {S:af} {sub:Sub}
theorem gk {b:Bi} {xs:List V} {Q:VK} (hb:b.isR=false) (hb2:∀ a c S,bi2 b a c S=.bad) (h:dU Γ xw (biD sub b) xs H Q) :
  ∃ ι S a x,xs=[x]/\ay Γ ι H S/\Rep Γ ι H a x/\Out Γ xw ι H (bi1 sub b a S) fun d _ ι' H'=>∀ v,Rep Γ ι' H' d v->Q v H':=by
 obtain ⟨ι,S,ds,hS,r,ho⟩:=h
 unfold biD at ho
 rw [hb] at ho
 match ds,r with
 | [],.nil=>exact ho.elim
 | [a],.cons (b:=x) ra .nil=>exact ⟨ι,S,a,x,rfl,hS,ra,ho⟩
 | [a,c],_ =>
  have ho':Out Γ xw ι H (bi2 b a c S) _:=ho
  rw [hb2] at ho'
  exact ho'.elim
 | _::_::_::_,_=>exact ho.elim
theorem E1 (hK:Γ.K=X.K) (I:Inv X pins σ H s) {a:Addr} {xs:List V} (sq:SqL Γ.K H a xs\/SqT Γ.K H a xs):∃ its:List Value,Vals xs its/\∀ (A:Around) (E:Value->Shared->Prop) (Q:Value->Shared->Prop),A.handled=none ->
  (∀ (I0:Addr) (fp:List Addr) (St:Nat->Heap->Prop) (s2:Shared),Walks X.prog X.w A I0 fp [I0] its.toArray.size (fun i v=>its.toArray[i]?=some v) St->St 0 s2.heap->(∀ b∈fp,b < s2.heap.objs.size) ->
   (∀ h' tk,(∀ b o,b ∉ [I0]->s2.heap.get? b=some o->h'.get? b=some o)->Inv X pins σ H { s2 with heap:=h',toks:=tk })->Q (.ref I0) s2)->wpAny (model X.prog X.w) A (pyIter (.ref a)) Q E s:=by
 rw [hK] at sq
 rcases sq with sq|sq
 ·obtain ⟨its,rv,pl,_⟩:=I.list sq
  refine ⟨its,rv,fun A E Q hh hQ=>wpAny_pyIter_list pl.isList ?_⟩
  obtain ⟨o,ho,_⟩:=id pl.isList
  have hlt:=Heap.lt_size ho
  refine hQ s.heap.objs.size _ _ _ (Walks.list hh _ a (Nat.ne_of_lt hlt) its.toArray) ⟨⟨_,Heap.get?_push_size _ rfl,rfl,rfl⟩,pl.isList.at fun o e=>Heap.get?_push_of_some _ e⟩ (fun b hb=>?_) fun h' tk hk=>?_
  ·rw [Heap.size_push]
   rcases List.mem_cons.mp hb with rfl|hb
   ·exact Nat.lt_succ_self _
   ·have:b=a:=by simpa using hb
    subst this; exact Nat.lt_succ_of_lt hlt
  ·exact I.kept fun b u e=>hk b u (by simpa using Nat.ne_of_lt (Heap.lt_size e)) (Heap.get?_push_of_some _ e)
 ·obtain ⟨its,rv,pl,_⟩:=I.tuple sq
  refine ⟨its,rv,fun A E Q hh hQ=>wpAny_pyIter_tuple (show s.heap.IsTuple a its.toArray from pl) ?_⟩
  obtain ⟨o,ho,hc,hd⟩:=id pl
  have hlt:=Heap.lt_size ho
  refine hQ s.heap.objs.size _ _ _ (Walks.tuple hh _ a (Nat.ne_of_lt hlt) its.toArray) ⟨⟨_,Heap.get?_push_size _ rfl,rfl,rfl⟩,⟨o,Heap.get?_push_of_some _ ho,hc,hd⟩⟩ (fun b hb=>?_) fun h' tk hk=>?_
  ·rw [Heap.size_push]
   rcases List.mem_cons.mp hb with rfl|hb
   ·exact Nat.lt_succ_self _
   ·have:b=a:=by simpa using hb
    subst this; exact Nat.lt_succ_of_lt hlt
  ·exact I.kept fun b u e=>hk b u (by simpa using Nat.ne_of_lt (Heap.lt_size e)) (Heap.get?_push_of_some _ e)
theorem C4 {is:List Bool} {its:List Value} (rv:Vals (is.map V.bl) its) {i:Nat} {v:Value} (h:its.toArray[i]?=some v):v=.bool (is.getD i false):=by
 have h':its[i]?=some v:=by simpa using h
 obtain ⟨x,hx,r⟩:=Paired.get' rv h'
 rw [List.getElem?_map,Option.map_eq_some_iff] at hx
 obtain ⟨j,hj,rfl⟩:=hx
 cases r
 rw [List.getD_eq_getElem?_getD,hj]; rfl
theorem zN (hK:Γ.K=X.K):b_ X (.builtin "len") (dU Γ xw (biD sub .len)):=by
 intro pins s σ H xs us Q I rs h
 obtain ⟨ι,S,a,x,rfl,hS,r,ho⟩:=gk rfl (fun _ _ _=>rfl) h
 obtain ⟨ds,q,ho⟩:=Out.items ho
 obtain ⟨_,p,ys,rfl,sq,rp,_⟩:=dW hS r q
 rw [hK] at sq
 refine yw pins s σ H _ us Q I rs ⟨p,ys,rfl,sq,?_⟩
 rw [<- rp.length]
 exact Out.val ho hS (.int _)
theorem A_ (hK:Γ.K=X.K) (hc:X.calm=true):b_ X (.builtin "all") (dU Γ xw (biD sub .all)):=by
 intro pins s σ H xs us Q I rs h
 obtain ⟨ι,S,a,x,rfl,hS,r,ho⟩:=gk rfl (fun _ _ _=>rfl) h
 obtain ⟨ds,q,ho⟩:=Out.items ho
 obtain ⟨bs,q2,ho⟩:=Out.opt ho
 obtain ⟨_,p,ys,rfl,sq,rp,_⟩:=dW hS r q
 rw [qK q2] at rp
 have e:=tX rp
 subst e
 obtain ⟨u,rfl,ru⟩:=rs.one
 cases ru
 obtain ⟨its,rv,wk⟩:=E1 hK I sq
 refine call_all_walk (wk X.A.in1 _ _ (I.ok.hd hc) fun I0 fp St s2 W st fl inv=>⟨I0,fp,[I0],_,_,St,fun i=>bs.getD i false,rfl,W,st,fun i v s' Q' E' hv hq=>?_,fun h' tk hk=>?_⟩)
 ·rw [C4 rv hv]; exact wpAny_truthy_bool hq
 ·have hl:its.toArray.size=bs.length:=by rw [List.size_toArray,<- rv.length,List.length_map]
  rw [hl,range_all]
  exact ⟨.bl _,H,inv h' tk hk,rfl,Out.val ho hS (.bl _)⟩
end
end EV

namespace EV
open PySem PySem.Spec PyProof.Rows L2
section
variable {X:Cx} {Γ:Gx} {xw:XW} {pins:List (Addr × Obj)} {σ:L2.St} {H:Hp} {s:Shared} {ι:List Addr} {S:af} {sub:Sub}
theorem Ca (hS:ay Γ ι H S) {d:D} {v:V} {ds:List D} {S':af} (r:Rep Γ ι H d v) (h:cu d S=.ok ds S'):S'=S/\∃ a xs,v=.ref a/\SqL Γ.K H a xs/\az Γ ι H ds xs:=by
 cases d with
 | fro es=>cases h; obtain ⟨a,xs,e,f,p⟩:=r.fR; exact ⟨rfl,a,xs,e,f.sq,p⟩
 | loc l=>obtain ⟨e,a,xs,e2,_,p,t⟩:=dW hS r (show items (.loc l) S=.ok ds S' from h); exact ⟨e,a,xs,e2,t l rfl,p⟩
 | _=>cases h
theorem BK (d:D) (S:af):(∃ ds,cu d S=.ok ds S)\/cu d S=.bad:=by
 cases d with
 | fro ds=>exact .inl ⟨ds,rfl⟩
 | loc l=>exact iR (.loc l) S
 | _=>exact .inr rfl
theorem Out.cu {α:Type} {d:D} {f:List D->M α} {k:α->af->List Addr->Hp->Prop} (ho:Out Γ xw ι H ((EV.cu d>>=f) S) k):∃ ds,EV.cu d S=.ok ds S/\Out Γ xw ι H (f ds S) k:=by
 rcases BK d S with ⟨ds,e⟩|e
 ·rw [ao e] at ho; exact ⟨ds,e,ho⟩
 ·rw [bz e] at ho; exact ho.elim
theorem wD (hK:Γ.K=X.K):b_ X (.type "list") (dU Γ xw (biD sub .list)):=by
 intro pins s σ H xs us Q I rs h
 obtain ⟨ι,S,a,x,rfl,hS,r,ho⟩:=gk rfl (fun _ _ _=>rfl) h
 obtain ⟨ds,q,ho⟩:=Out.items ho
 obtain ⟨_,p,ys,rfl,sq,rp,_⟩:=dW hS r q
 rw [hK] at sq
 exact Dm pins s σ H _ us Q I rs ⟨p,ys,rfl,sq,fun l hl=>Out.alloc ho hS hl rp⟩
theorem A8 (hK:Γ.K=X.K):b_ X (.type "tuple") (dU Γ xw (biD sub .tuple)):=by
 intro pins s σ H xs us Q I rs h
 obtain ⟨ι,S,a,x,rfl,hS,r,ho⟩:=gk rfl (fun _ _ _=>rfl) h
 obtain ⟨ds,q,ho2⟩:=Out.items ho
 have r0:=r
 obtain ⟨_,p,ys,rfl,sq,rp,hloc⟩:=dW hS r q
 rw [hK] at sq
 cases a with
 | tup es =>
  cases q
  obtain ⟨b,xs,e,t,_⟩:=r0.cg
  cases e
  rw [hK] at t
  exact nA pins s σ H _ us Q I rs ⟨p,xs,rfl,.inr ⟨t,Out.val ho2 hS r0⟩⟩
 | fro es =>
  cases q
  obtain ⟨b,xs,e,t,rp2⟩:=r0.fR
  cases e
  have t:=t.sq
  rw [hK] at t
  exact nA pins s σ H _ us Q I rs ⟨p,xs,rfl,.inl ⟨t,fun l hl=>Out.tup ho2 hS hl rp2⟩⟩
 | loc l =>
  have t:=hloc l rfl
  rw [hK] at t
  exact nA pins s σ H _ us Q I rs ⟨p,ys,rfl,.inl ⟨t,fun l hl=>Out.tup ho2 hS hl rp⟩⟩
 | _=>cases q
noncomputable def Ty.name:Ty->Option String
 | .int=>some "int" | .bool=>some "bool" | .str=>some "str" | .list=>some "list" | .tuple=>some "tuple" | .dict=>some "dict" | .cls _=>none
theorem v9 (hK:Γ.K=X.K) (I:Inv X pins σ H s) (hS:ay Γ ι H S) {t:Ty} {T:String} (ht:t.name=some T) {d:D} {x:V} {v:Value} (r:Rep Γ ι H d x) (rx:RelV x v) {k:Bool} (h:cK sub S d t=some k) {A:Around} {E:Value->Shared->Prop} {Q:Value->Shared->Prop}
  (hq:∀ tk,Q (.bool k) { s with toks:=tk }):wpAny (model X.prog X.w) A (call (.builtin "isinstance") [v,.type T]) Q E s:=by
 have seqL:∀ {a:Addr} {xs:List V},SqL X.K H a xs->∀ {b:Bool},PySem.W.kitOne X.K (.type "list") (.type T)=some b->(∀ tk,Q (.bool b) { s with toks:=tk })->wpAny (model X.prog X.w) A (call (.builtin "isinstance") [.ref a,.type T]) Q E s:=fun {a xs} sq {b} e hq=>by
  obtain ⟨its,_,pl,_⟩:=I.list sq
  obtain ⟨o,h1,h2,_⟩:=pl.isList
  exact PySem.W.kia_one PySem.W.kitx_list I.kIn ⟨o,h1,h2⟩ e (fun z=>nomatch z) hq
 cases d with
 | non=>cases r; cases rx; cases t <;> cases ht <;> cases h <;> exact PySem.W.kia_one PySem.W.kitx_none I.kIn True.intro (by rfl) (fun z=>nomatch z) hq
 | bl b=>cases r; cases rx; cases t <;> cases ht <;> cases h <;> exact PySem.W.kia_one PySem.W.kitx_bool I.kIn True.intro (by rfl) (fun z=>nomatch z) hq
 | int b=>cases r; obtain ⟨tk,rfl⟩:=rx; cases t <;> cases ht <;> cases h <;> exact PySem.W.kia_one PySem.W.kitx_int I.kIn True.intro (by rfl) (fun z=>nomatch z) hq
 | str b=>cases r; obtain ⟨tk,rfl⟩:=rx; cases t <;> cases ht <;> cases h <;> exact PySem.W.kia_one PySem.W.kitx_str I.kIn True.intro (by rfl) (fun z=>nomatch z) hq
 | tup ds =>
  obtain ⟨a,xs,rfl,sq,_⟩:=r.cg
  cases rx
  rw [hK] at sq
  obtain ⟨its,_,pl,_⟩:=I.tuple sq
  obtain ⟨o,h1,h2,_⟩:=pl
  cases t <;> cases ht <;> cases h <;> exact PySem.W.kia_one PySem.W.kitx_tuple I.kIn ⟨o,h1,h2⟩ (by rfl) (fun z=>nomatch z) hq
 | fro ds =>
  obtain ⟨a,xs,rfl,sq,_⟩:=r.fR
  cases rx
  have sq:=sq.sq
  rw [hK] at sq
  cases t <;> cases ht <;> cases h <;> exact seqL sq (by rfl) hq
 | loc l =>
  cases r with
  | loc ql =>
   cases rx
   simp only [cK] at h
   cases q:S[l]? with
   | none=>rw [q] at h; cases t <;> cases ht <;> cases h
   | some c =>
    rw [q] at h
    cases c with
    | lst ds =>
     obtain ⟨a,xs,ha,hx,_⟩:=hS.lst q
     rw [ql] at ha; cases ha
     cases t <;> cases ht <;> cases h <;> exact seqL (.of hx) (by rfl) hq
    | dct kvs=>cases t <;> cases ht <;> cases h
    | fdc kvs=>cases t <;> cases ht <;> cases h
 | exn c=>cases r
end
end EV

namespace ENM
open PySem PyProof.Rows
open AutoSeq1 (wpAny_loadPart')
section
variable {prog:Program} {w:World} {A:Around} {E:Value->Shared->Prop} {s:Shared}
theorem EL {it t:Addr} {k:Nat} {us:Array Value} {u:Value} {Q:Value->Shared->Prop} (hit:s.heap.IsTupleIter it t k) (ht:s.heap.IsTuple t us) (hu:us[k]?=some u)
  (fin:∀ h',h'.IsTupleIter it t (k+1)->Heap.SameBut it s.heap h'->Q u { s with heap:=h' }):wpAny (model prog w) A (Builtin.SmallTypes.nextOf (.ref it)) Q E s:=by
 obtain ⟨ob,hob,hcl,hda⟩:=id hit
 obtain ⟨ot,hot,_,nt,hdt⟩:=ht
 unfold Builtin.SmallTypes.nextOf
 refine wpAny_bind (wpAny_callSpecial?_slot (name:=Str.ofString "__next__") hit.typeIs F.slot_tuple_iterator_next (wpAny_call_entry F.slot_tuple_iterator_next hit.typeIs F.entry_tuple_iterator_next ?_ (F.args_tuple_iterator_next_1 _)))
 show wpAny _ _ (field (.ref it) 0>>=_) _ _ s
 refine wpAny_bind (wpAny_field hob hda (x:=.ref t) rfl ?_)
 show wpAny _ _ (if (Value.ref t==Value.none)=true then _ else _) _ _ s
 rw [if_neg (show ¬ ((Value.ref t==Value.none)=true) from Bool.false_ne_true)]
 show wpAny _ _ (field (.ref it) 1>>=_) _ _ s
 refine wpAny_bind (wpAny_field hob hda (x:=.int k 0) rfl ?_)
 show wpAny _ _ (seqItems? (.ref t)>>=_) _ _ s
 refine wpAny_bind (wpAny_seqItems hot hdt ?_)
 simp only [Int.toNat_natCast,hu]
 refine wpAny_bind (wpAny_setField hob hda (by simp) (wpAny_pure ⟨u,rfl,wpAny_pure (fin _ ?_ (Heap.SameBut.update ..))⟩))
 refine ⟨_,Heap.get?_update_self _ hob (Obj.isFreed_of_fields (Obj.data_mapFields hda _)),(Obj.cls_mapFields ..).trans hcl,?_⟩
 rw [Obj.data_mapFields hda]
 simp [rawInt]
theorem zb {it t:Addr} {k:Nat} {us:Array Value} {Q:Value->Shared->Prop} (calm:A.handled=none) (hit:s.heap.IsTupleIter it t k) (ht:s.heap.IsTuple t us) (hu:us[k]?=none)
  (fin:∀ h' e,Heap.ExtBut it s.heap h'->(∃ o,h'.get? e=some o/\o.cls=.type "StopIteration")->E (.ref e) { s with heap:=h' }):wpAny (model prog w) A (Builtin.SmallTypes.nextOf (.ref it)) Q E s:=by
 obtain ⟨ob,hob,hcl,hda⟩:=id hit
 obtain ⟨ot,hot,_,nt,hdt⟩:=ht
 unfold Builtin.SmallTypes.nextOf
 refine wpAny_bind (wpAny_callSpecial?_slot (name:=Str.ofString "__next__") hit.typeIs F.slot_tuple_iterator_next (wpAny_call_entry F.slot_tuple_iterator_next hit.typeIs F.entry_tuple_iterator_next ?_ (F.args_tuple_iterator_next_1 _)))
 show wpAny _ _ (field (.ref it) 0>>=_) _ _ s
 refine wpAny_bind (wpAny_field hob hda (x:=.ref t) rfl ?_)
 show wpAny _ _ (if (Value.ref t==Value.none)=true then _ else _) _ _ s
 rw [if_neg (show ¬ ((Value.ref t==Value.none)=true) from Bool.false_ne_true)]
 show wpAny _ _ (field (.ref it) 1>>=_) _ _ s
 refine wpAny_bind (wpAny_field hob hda (x:=.int k 0) rfl ?_)
 show wpAny _ _ (seqItems? (.ref t)>>=_) _ _ s
 refine wpAny_bind (wpAny_seqItems hot hdt ?_)
 simp only [Int.toNat_natCast,hu]
 refine wpAny_bind (wpAny_rule (wpAny_bind (wpAny_setField hob hda (by simp) ?_)))
 show wpAny _ _ (newExc (.type "StopIteration") []>>=_) _ _ _
 refine wpAny_bind ?_
 simp only [newExc,newTuple]
 refine wpAny_bind (wpAny_newObj_type ?_ (by size_fits))
 refine wpAny_bind (m:=firstArgMember _ _) (wpAny_of_eq (a:=Value.none) (by first|rfl|(simp only [firstArgMember]; rfl)) ?_)
 refine wpAny_newObj_type ?_ (by size_fits)
 simp only [raiseNew]
 refine wpAny_bind (wpAny_handled ?_)
 first|rw [show A.in1.handled=none from calm]|rw [calm]
 refine wpAny_bind (wpAny_pure (wpAny_throw ?_))
 exact fin _ _ (((Heap.SameBut.update ..).extBut.push _).push _) ⟨_,Heap.get?_push_size _ rfl,rfl⟩
noncomputable def Inn (tup:Bool) (h:Heap) (it a:Addr) (k:Nat):Prop:=match tup with
 | true=>h.IsTupleIter it a k
 | false=>h.IsListIter it a k
noncomputable def Seq (tup:Bool) (h:Heap) (a:Addr) (us:Array Value):Prop:=match tup with
 | true=>h.IsTuple a us
 | false=>h.IsList a us
theorem Inn.keep {tup:Bool} {h h':Heap} {it a:Addr} {k:Nat} (x:Inn tup h it a k) (e:∀ o,h.get? it=some o->h'.get? it=some o):Inn tup h' it a k:=by
 cases tup with
 | true=>obtain ⟨o,ho,r⟩:=(show h.IsTupleIter it a k from x); exact ⟨o,e _ ho,r⟩
 | false=>obtain ⟨o,ho,r⟩:=(show h.IsListIter it a k from x); exact ⟨o,e _ ho,r⟩
theorem Inn.there {tup:Bool} {h:Heap} {it a:Addr} {k:Nat} (x:Inn tup h it a k):∃ o,h.get? it=some o/\∀ v,o.data≠.cell v:=by
 cases tup with
 | true=>obtain ⟨o,ho,_,hd⟩:=(show h.IsTupleIter it a k from x); exact ⟨o,ho,fun v z=>by rw [hd] at z; cases z⟩
 | false=>obtain ⟨o,ho,_,hd⟩:=(show h.IsListIter it a k from x); exact ⟨o,ho,fun v z=>by rw [hd] at z; cases z⟩
theorem xU {tup:Bool} {it a:Addr} {k:Nat} {us:Array Value} {u:Value} {Q:Value->Shared->Prop} (hit:Inn tup s.heap it a k) (hs:Seq tup s.heap a us) (hu:us[k]?=some u)
  (fin:∀ h',Inn tup h' it a (k+1)->Heap.SameBut it s.heap h'->Q u { s with heap:=h' }):wpAny (model prog w) A (Builtin.SmallTypes.nextOf (.ref it)) Q E s:=by
 cases tup with
 | true=>exact EL hit hs hu fin
 | false=>exact wpAny_nextOf_list_item hit hs hu fin
theorem vq {tup:Bool} {it a:Addr} {k:Nat} {us:Array Value} {Q:Value->Shared->Prop} (calm:A.handled=none) (hit:Inn tup s.heap it a k) (hs:Seq tup s.heap a us) (hu:us[k]?=none)
  (fin:∀ h' e,Heap.ExtBut it s.heap h'->(∃ o,h'.get? e=some o/\o.cls=.type "StopIteration")->E (.ref e) { s with heap:=h' }):wpAny (model prog w) A (Builtin.SmallTypes.nextOf (.ref it)) Q E s:=by
 cases tup with
 | true=>exact zb calm hit hs hu fin
 | false=>exact wpAny_nextOf_list_end calm hit hs hu fin
theorem Gd {tup:Bool} {en it a:Addr} {k:Nat} {us:Array Value} {u old:Value} {Q:Option Value->Shared->Prop} (he:IsEnum s.heap en it k old) (hit:Inn tup s.heap it a k) (hs:Seq tup s.heap a us) (hu:us[k]?=some u) (hne:en≠it)
  (fin:∀ h',IsEnumOut h' en it ((k:Int)+1) u s.heap.objs.size->Inn tup h' it a (k+1)->h'.get? s.heap.objs.size=some { cls:=.type "tuple",data:=.seq #[.int k s.toks,u] }->h'.objs.size=s.heap.objs.size+1 ->
   (∀ b o,b≠en->b≠it->s.heap.get? b=some o->h'.get? b=some o)->Q (some (.ref s.heap.objs.size)) { s with heap:=h',toks:=s.toks+1 }):wpAny (model prog w) A (pyNext (.ref en)) Q E s:=by
 have hT:s.TypeIs (.ref en) "enumerate":=⟨_,he,rfl⟩
 unfold pyNext
 refine wpAny_bind (wpAny_attempt (wpAny_callSpecial?_slot (name:=Str.ofString "__next__") hT F.slot_enumerate_next (wpAny_call_entry F.slot_enumerate_next hT F.entry_enumerate_next ?_ (F.args_enumerate_next_1 _))))
 obtain ⟨hp,g,dr,tk,os⟩:=s
 show wpAny _ _ (field (.ref en) 2>>=_) _ _ _
 refine wpAny_bind (wpAny_field he rfl (x:=.ref it) rfl ?_)
 refine wpAny_bind (xU hit hs hu fun h1 hit1 sb1=>?_)
 replace sb1:Heap.SameBut it hp h1:=sb1
 have he1:IsEnum h1 en it k old:=(sb1.2 en hne).trans he
 show wpAny _ _ (field (.ref en) 3>>=_) _ _ ⟨h1,g,dr,tk,os⟩
 refine wpAny_bind (wpAny_field he1 rfl (x:=rawInt k) rfl ?_)
 show wpAny _ _ (field (.ref en) 4>>=_) _ _ ⟨h1,g,dr,tk,os⟩
 refine wpAny_bind (wpAny_field he1 rfl (x:=.none) rfl ?_)
 show wpAny _ _ (mkInt k>>=_) _ _ ⟨h1,g,dr,tk,os⟩
 refine wpAny_bind (wpAny_mkInt ?_)
 show wpAny _ _ (setField (.ref en) 3 (rawInt ((k:Int)+1))>>=_) _ _ ⟨h1,g,dr,tk+1,os⟩
 refine wpAny_bind (wpAny_setField_rec he1 (by simp) fun h2 he2 sb2=>?_)
 replace sb2:Heap.SameBut en h1 h2:=sb2
 replace he2:IsEnum h2 en it ((k:Int)+1) old:=he2
 show wpAny _ _ (setField (.ref en) 4 .none>>=_) _ _ ⟨h2,g,dr,tk+1,os⟩
 refine wpAny_bind (wpAny_setField_rec he2 (by simp) fun h3 he3 sb3=>?_)
 replace sb3:Heap.SameBut en h2 h3:=sb3
 replace he3:IsEnum h3 en it ((k:Int)+1) old:=he3
 show wpAny _ _ (newTuple [.int k tk,u]>>=_) _ _ ⟨h3,g,dr,tk+1,os⟩
 refine wpAny_bind (wpAny_newTuple ?_)
 have he4:IsEnum (h3.push { cls:=.type "tuple",data:=.seq #[.int k tk,u] }) en it ((k:Int)+1) old:=Heap.get?_push_of_some _ he3
 generalize eh4:h3.push { cls:=.type "tuple",data:=.seq #[.int k tk,u] }=h4 at he4
 have sz3:h3.objs.size=hp.objs.size:=by rw [sb3.1,sb2.1,sb1.1]
 have enlt:en < hp.objs.size:=Heap.lt_size he
 have tp4:h4.get? hp.objs.size=some { cls:=.type "tuple",data:=.seq #[.int k tk,u] }:=by rw [<- eh4,<- sz3]; exact Heap.get?_push_size _ rfl
 have sz4:h4.objs.size=hp.objs.size+1:=by rw [<- eh4,Heap.size_push,sz3]
 have kp4:∀ b o,b≠en->b≠it->hp.get? b=some o->h4.get? b=some o:=fun b o hbe hbi hb=>by
  rw [<- eh4]; exact Heap.get?_push_of_some _ (sb3.extBut b o hbe (sb2.extBut b o hbe (sb1.extBut b o hbi hb)))
 have hit4:Inn tup h4 it a (k+1):=hit1.keep fun o e=>by
  rw [<- eh4]; exact Heap.get?_push_of_some _ (sb3.extBut _ o (Ne.symm hne) (sb2.extBut _ o (Ne.symm hne) e))
 show wpAny _ _ (Builtin.SmallTypes.ownedTupleIsFree (.ref en)>>=_) _ _ ⟨h4,g,dr,tk+1,os⟩
 rw [sz3]
 clear eh4 he3 sb3 he2 sb2 he1 sb1 hit1 sz3 h3 h2 h1
 refine wpAny_bind ?_
 unfold Builtin.SmallTypes.ownedTupleIsFree
 refine wpAny_bind (wpAny_field he4 rfl (x:=.none) rfl (wpAny_pure ?_))
 simp only [if_true]
 refine wpAny_bind (wpAny_rule ?_)
 refine wpAny_bind (wpAny_field he4 rfl (x:=old) rfl ?_)
 refine wpAny_bind (wpAny_setField_rec he4 (by simp) fun h5 he5 sb5=>?_)
 replace sb5:Heap.SameBut en h4 h5:=sb5
 replace he5:IsEnum h5 en it ((k:Int)+1) u:=he5
 show wpAny _ _ (Builtin.SmallTypes.ownedTupleHandOut (.ref en) (.ref hp.objs.size)>>=_) _ _ ⟨h5,g,dr,tk+1,os⟩
 refine wpAny_bind ?_
 unfold Builtin.SmallTypes.ownedTupleHandOut
 refine wpAny_bind (wpAny_setField_rec he5 (by simp) fun h6 he6 sb6=>?_)
 replace sb6:Heap.SameBut en h5 h6:=sb6
 replace he6:IsEnumOut h6 en it ((k:Int)+1) u hp.objs.size:=he6
 refine wpAny_setField_rec he6 (by simp) fun h7 he7 sb7=>?_
 replace sb7:Heap.SameBut en h6 h7:=sb7
 replace he7:IsEnumOut h7 en it ((k:Int)+1) u hp.objs.size:=he7
 have up:∀ b o,b≠en->h4.get? b=some o->h7.get? b=some o:=fun b o hbe hb=>sb7.extBut b o hbe (sb6.extBut b o hbe (sb5.extBut b o hbe hb))
 refine wpAny_bind (wpAny_letGo (wpAny_pure ⟨_,rfl,wpAny_pure (fin h7 he7 (hit4.keep fun o e=>up _ o (Ne.symm hne) e) (up _ _ (Nat.ne_of_gt enlt) tp4) ?_ fun b o hbe hbi hb=>up b o hbe (kp4 b o hbe hbi hb))⟩))
 rw [sb7.1,sb6.1,sb5.1,sz4]
theorem v7 {tup:Bool} {en it a:Addr} {k:Nat} {us:Array Value} {old:Value} {Q:Option Value->Shared->Prop} (calm:A.handled=none) (he:IsEnum s.heap en it k old) (hit:Inn tup s.heap it a k) (hs:Seq tup s.heap a us) (hu:us[k]?=none)
  (fin:∀ h',Heap.ExtBut it s.heap h'->Q none { s with heap:=h' }):wpAny (model prog w) A (pyNext (.ref en)) Q E s:=by
 have hT:s.TypeIs (.ref en) "enumerate":=⟨_,he,rfl⟩
 unfold pyNext
 refine wpAny_bind (wpAny_attempt (wpAny_callSpecial?_slot (name:=Str.ofString "__next__") hT F.slot_enumerate_next (wpAny_call_entry F.slot_enumerate_next hT F.entry_enumerate_next ?_ (F.args_enumerate_next_1 _))))
 show wpAny _ _ (field (.ref en) 2>>=_) _ _ _
 refine wpAny_bind (wpAny_field he rfl (x:=.ref it) rfl ?_)
 refine wpAny_bind (vq calm hit hs hu fun h' x ext hx=>?_)
 obtain ⟨o,ho,hc⟩:=hx
 refine wpAny_bind (wpAny_isInstance (T:="StopIteration") (b:=true) ⟨o,ho,hc⟩ isSubtype_stop ?_)
 exact wpAny_pure (fin _ ext)
theorem wZ (t:Addr) (us:Array Value) (n:Nat) (dd:Option Addr) (sl:Array (Option Value)) :
  Meets (Builtin.«enumerate.__new__» ⟨[.type "enumerate",.ref t],[]⟩) (fun _ R s=>s.heap.get? t=some { cls:=.type "tuple",dict:=dd,data:=.seq us n,slots:=sl } /\
   R (.ok (.ret (.ref (s.heap.push { cls:=.type "tuple_iterator",data:=.fields #[.ref t,.int 0 0] }).objs.size)))
    { s with heap:=(s.heap.push { cls:=.type "tuple_iterator",data:=.fields #[.ref t,.int 0 0] }).push { cls:=.type "enumerate",data:=.fields #[.none,.bool false,.ref s.heap.objs.size,rawInt 0,.none,.none] } }) :=
 .of_wp fun prog w A R s h=>by
  obtain ⟨hp,g,d,tk,os⟩:=s
  obtain ⟨ht,h⟩:=h
  have hsub:=sub_enumerate
  have hT:Heap.IsTuple (Shared.heap ⟨hp,g,d,tk,os⟩) t us:=⟨_,ht,rfl,n,rfl⟩
  wp_walk using wpAny_loadPart' ht
  refine wpAny_stack_any fun st=>wpAny_pure ?_
  split
  ·rename_i c _ _ _ _ _
   cases (c==Value.type "enumerate")
   ·wp_walk using wpAny_loadPart' ht,wpAny_pyIter_tuple hT
    exact ⟨_,rfl,h⟩
   ·wp_walk using wpAny_loadPart' ht,wpAny_pyIter_tuple hT
    exact ⟨_,rfl,h⟩
  ·wp_walk using wpAny_loadPart' ht,wpAny_pyIter_tuple hT
   exact ⟨_,rfl,h⟩
theorem Gp {t:Addr} {us:Array Value} {Q:Value->Shared->Prop} (hT:s.heap.IsTuple t us)
  (h:∀ h',IsEnum h' (s.heap.objs.size+1) s.heap.objs.size 0 .none->h'.IsTupleIter s.heap.objs.size t 0->h'.objs.size=s.heap.objs.size+2->(∀ b o,s.heap.get? b=some o->h'.get? b=some o)->Q (.ref (s.heap.objs.size+1)) { s with heap:=h' }) :
  wpAny (model prog w) A (call (.type "enumerate") [.ref t]) Q E s:=by
 obtain ⟨⟨c,dd,dt,sl⟩,ht,hc,n,hd⟩:=hT
 replace hc:c=.type "tuple":=hc
 replace hd:dt=.seq us n:=hd
 subst hc hd
 refine callType_new F.called_enumerate (by decide) (F.typeCall_enumerate_1 _) (F.newCall_enumerate_1 _) (fun obj=>F.args_object_init_2 obj _) F.entry_enumerate_new (wZ t us n dd sl) ⟨ht,?_⟩
 have sz:(s.heap.push { cls:=.type "tuple_iterator",data:=.fields #[.ref t,.int 0 0] }).objs.size=s.heap.objs.size+1:=Heap.size_push ..
 show _/\_
 rw [sz]
 have he:IsEnum ((s.heap.push { cls:=.type "tuple_iterator",data:=.fields #[.ref t,.int 0 0] }).push { cls:=.type "enumerate",data:=.fields #[.none,.bool false,.ref s.heap.objs.size,rawInt 0,.none,.none] }) (s.heap.objs.size+1) s.heap.objs.size 0 .none:=by
  have:=Heap.get?_push_size (s.heap.push { cls:=.type "tuple_iterator",data:=.fields #[.ref t,.int 0 0] }) (o:={ cls:=.type "enumerate",data:=.fields #[.none,.bool false,.ref s.heap.objs.size,rawInt 0,.none,.none] }) rfl
  rw [sz] at this; exact this
 exact ⟨⟨_,he,rfl⟩,h _ he ⟨_,Heap.get?_push_of_some _ (Heap.get?_push_size _ rfl),rfl,rfl⟩ (by rw [Heap.size_push,sz]) fun b o x=>Heap.get?_push_of_some _ (Heap.get?_push_of_some _ x)⟩
theorem zf {tup:Bool} {a:Addr} {us:Array Value} {Q:Value->Shared->Prop} (hs:Seq tup s.heap a us)
  (h:∀ h',IsEnum h' (s.heap.objs.size+1) s.heap.objs.size 0 .none->Inn tup h' s.heap.objs.size a 0->h'.objs.size=s.heap.objs.size+2->(∀ b o,s.heap.get? b=some o->h'.get? b=some o)->Q (.ref (s.heap.objs.size+1)) { s with heap:=h' }) :
  wpAny (model prog w) A (call (.type "enumerate") [.ref a]) Q E s:=by
 cases tup with
 | true=>exact Gp hs h
 | false=>exact call_enumerate_list hs h
end
end ENM
namespace L2
open PySem PySem.Spec PyProof.Rows ENM
noncomputable def SqB (K:PySem.W.Frag) (H:Hp) (tup:Bool) (a:Addr) (xs:List V):Prop:=match tup with
 | true=>SqT K H a xs
 | false=>SqL K H a xs
noncomputable def Ite (K:PySem.W.Frag) (tup:Bool) (a:Addr):It :=
 ⟨fun i H=>∃ xs x,SqB K H tup a xs/\xs[i]?=some x,fun i H x H'=>∃ y p,(∀ xs,SqB K H tup a xs->xs[i]?=some y)/\H p=none/\H'=upd H p (.tup [.int i,y])/\x=.ref p,fun i H=>∃ xs,SqB K H tup a xs/\xs.length<=i⟩
theorem Inv.ni {X:Cx} {pins:List (Addr × Obj)} {σ:L2.St} {H:Hp} {s:Shared} (I:Inv X pins σ H s) {tup:Bool} {a:Addr} {xs:List V} (h:SqB X.K H tup a xs):∃ its:List Value,Vals xs its/\Seq tup s.heap a its.toArray:=by
 cases tup with
 | true=>obtain ⟨its,rv,p,_⟩:=I.tuple h; exact ⟨its,rv,p⟩
 | false=>obtain ⟨its,rv,p,_⟩:=I.list h; exact ⟨its,rv,p.isList⟩
theorem Inv.Cq {X:Cx} {pins:List (Addr × Obj)} {σ:L2.St} {H:Hp} {s:Shared} (I:Inv X pins σ H s) {tup:Bool} {a:Addr} {xs ys:List V} (h:SqB X.K H tup a xs) (h':SqB X.K H tup a ys):xs=ys:=by
 cases tup with
 | true=>exact I.k6 h h'
 | false=>exact I.j3 h h'
theorem Ce {P:Program} {w:World} {K:PySem.W.Frag} {elts:List Expr} {k1:Nat} {tp:Pos} (tup:Bool) (a en it:Addr) (hne:en≠it) :
  Turn P w K (.Tuple elts k1 tp) (Ite K tup a) [en,it] en (fun i h=>(∃ old,IsEnum h en it i old)/\Inn tup h it a i) where
 mem:=by simp
 obj:=fun i h st b hb=>by
  obtain ⟨⟨old,he⟩,hi⟩:=st
  rcases List.mem_cons.mp hb with rfl|hb
  ·exact ⟨_,he,fun v z=>by
    have z':Data.fields _=Data.cell v:=z
    cases z'⟩
  ·have e:b=it:=by simpa using hb
   subst e; exact hi.there
 keep:=fun i h h' st k=>by
  obtain ⟨⟨old,he⟩,hi⟩:=st
  exact ⟨⟨old,k en (by simp) _ he⟩,hi.keep fun o e=>k it (by simp) o e⟩
 item:=by
  intro X hP hw hK hc i pins s σ H E I hf st hg
  subst hP hw hK
  obtain ⟨⟨old,he⟩,hi⟩:=st
  obtain ⟨xs,x,hq,hx⟩:=hg
  obtain ⟨its,rv,hs⟩:=I.ni hq
  obtain ⟨u,hu,ru⟩:=rv.get hx
  obtain ⟨f0,f1,f2,f3,f4,f5⟩:=hf en (by simp)
  obtain ⟨g0,g1,g2,g3,g4,g5⟩:=hf it (by simp)
  refine Gd he hi hs (u:=u) (by simpa using hu) hne fun h' ho hi' ht hz hk=>?_
  refine ⟨_,rfl,wpAny_letOwnedTupleGo_enum ho fun h2 he2 sb2=>?_⟩
  replace sb2:Heap.SameBut en h' h2:=sb2
  have elt:en < s.heap.objs.size:=Heap.lt_size he
  have hp:H s.heap.objs.size=none:=I.hok.fresh (Nat.le_refl _)
  have ilt:it < s.heap.objs.size:=by obtain ⟨o,e,_⟩:=hi.there; exact Heap.lt_size e
  have kept:∀ b o,b≠en->b≠it->s.heap.get? b=some o->h2.get? b=some o:=fun b o h1 h3 e=>sb2.extBut b o h1 (hk b o h1 h3 e)
  have tp2:h2.get? s.heap.objs.size=some { cls:=.type "tuple",data:=.seq #[.int i s.toks,u] }:=sb2.extBut _ _ (Nat.ne_of_gt elt) ht
  have I2:Inv X pins σ (upd H s.heap.objs.size (.tup [.int i,x])) { s with heap:=h2,toks:=s.toks+1 }:=by
   refine I.step (g':=s.gens) (d':=s.drawn) (ch:=[en,it]) (fun b hb=>?_) (fun b o _ _ hc e _=>kept b o (fun z=>hc (by simp [z])) (fun z=>hc (by simp [z])) e)
    (fun b o _ _ hc e _=>⟨o.slots,kept b o (fun z=>hc (by simp [z])) (fun z=>hc (by simp [z])) e⟩) (fun b o _ e n=>by rw [aK (Nat.ne_of_lt (Heap.lt_size e))]; exact n)
    (fun b o hc e=>⟨o,kept b o (fun z=>hc (by simp [z])) (fun z=>hc (by simp [z])) e⟩) (fun b ys q=>by rw [aK (bT q hp)]; exact q) (fun b o u q=>by rw [aK (bT q hp)]; exact q)
    (fun b ps q=>⟨#[],by rw [aK (bT q hp),q]; simp⟩) (fun m hm=>?_) ?_ I.bare
   ·rcases List.mem_cons.mp hb with rfl|hb
    ·exact ⟨f3,f1,f4,f5⟩
    ·have e:b=it:=by simpa using hb
     subst e; exact ⟨g3,g1,g4,g5⟩
   ·obtain ⟨o,es,ep,ho',r⟩:=hm
    exact ⟨o,es,ep,kept _ o (Ne.symm f1) (Ne.symm g1) ho',r⟩
   ·intro b o q
    by_cases hb:b=s.heap.objs.size
    ·subst hb
     rw [fH] at q
     cases q
     exact ⟨by show 2<=sizeLine; decide,[.int i s.toks,u],.cons ⟨_,rfl⟩ (.cons ru .nil),_,tp2,rfl,_,rfl⟩
    ·rw [aK hb] at q
     have hb1:b≠en:=fun z=>by rw [z,f0] at q; cases q
     have hb2:b≠it:=fun z=>by rw [z,g0] at q; cases q
     refine (I.hok b o q).stay (fun c v hc e=>?_) (fun c q=>by rw [aK (bT q hp)]; exact q) fun c ys q=>by rw [aK (bT q hp)]; exact q
     rcases hc with rfl|hc
     ·exact kept _ v hb1 hb2 e
     ·exact kept c v (fun z=>by rw [z,f0] at hc; cases hc) (fun z=>by rw [z,g0] at hc; cases hc) e
  refine ⟨.ref s.heap.objs.size,upd H s.heap.objs.size (.tup [.int i,x]),I2,rfl,⟨x,_,fun ys hy=>by rw [I.Cq hy hq]; exact hx,hp,rfl,rfl⟩,⟨⟨u,by simpa using he2⟩,hi'.keep fun o e=>sb2.extBut _ o (Ne.symm hne) e⟩,fun b hb=>?_⟩
  rcases List.mem_cons.mp hb with rfl|hb
  ·rw [aK (Nat.ne_of_lt elt)]; exact f0
  ·have e:b=it:=by simpa using hb
   subst e; rw [aK (Nat.ne_of_lt ilt)]; exact g0
 done:=by
  intro X hP hw hK hc i pins s σ H E I hf st hg
  subst hP hw hK
  obtain ⟨⟨old,he⟩,hi⟩:=st
  obtain ⟨xs,hq,hx⟩:=hg
  obtain ⟨its,rv,hs⟩:=I.ni hq
  obtain ⟨g0,g1,g2,g3,g4,g5⟩:=hf it (by simp)
  have hl:=rv.length
  exact v7 (I.ok.hd hc) he hi hs (by simp; omega) fun h' eb=>⟨rfl,I.turned (t':=s.toks) (fun b o hb e=>eb b o hb e) g0 g1 g3 g4 g5⟩
 self:=fun _ _ _ _ _ st h=>by
  obtain ⟨⟨old,he⟩,_⟩:=st
  exact wpAny_pyIter_enum he h
section
variable {X:Cx}
noncomputable def yb (K:PySem.W.Frag) (ta:TA):TI:=fun σ H R=>ta σ H fun vs H1=>∃ tup a,vs=[.ref a]/\(∃ xs,SqB K H1 tup a xs)/\R (Ite K tup a) H1
theorem DC {e:Expr} {ta:TA} {p pos:Pos} {elts:List Expr} {k1:Nat} {tp:Pos} (hg:Gl X "enumerate") (hm:X.mg "enumerate" = none) (hv:bootBuiltins "enumerate" = some (.type "enumerate")) (ha:PA X [e] ta) (hs:starEach [e] X.env=[(false,eval e X.env)]) :
  PI X (.Tuple elts k1 tp) (.Call (.Name "enumerate" p) [e] [] pos) (yb X.K ta):=by
 intro pins s σ H R I h
 refine Call_ (gx I hg hm hv (PyProof.Rows.callWith_type1 (thn (ha pos pins s σ H _ I h) fun us s1 ⟨vs,H1,I1,r1,q1⟩=>?_) hs rfl))
 obtain ⟨tup,a,e,⟨xs,hq⟩,q⟩:=q1
 subst e
 cases r1 with
 | cons r rr =>
  cases rr
  cases r
  obtain ⟨its,rv,hsq⟩:=I1.ni hq
  refine zf hsq fun h' he hi hz hk=>?_
  refine wpAny_pyIter_enum he ?_
  have fr:∀ b,s1.heap.objs.size<=b->di X pins H1 b:=fun b hb=>I1.gf hb (I1.hok.fresh hb)
  refine ⟨s1.heap.objs.size+1,[s1.heap.objs.size+1,s1.heap.objs.size],_,_,H1,rfl,I1.kept (t':=s1.toks) hk,Ce tup a _ _ (Nat.ne_of_gt (Nat.lt_succ_self _)),⟨⟨.none,he⟩,hi⟩,fun b hb=>?_,q⟩
  rcases List.mem_cons.mp hb with rfl|hb
  ·exact fr _ (Nat.le_succ _)
  ·have e:b=s1.heap.objs.size:=by simpa using hb
   subst e; exact fr _ (Nat.le_refl _)
noncomputable def mH (lo:Int) (n:Nat):It:=⟨fun i _=>i < n,fun i H x H'=>H'=H/\x=.int (lo - i),fun i _=>n<=i⟩
theorem By {P:Program} {w:World} {K:PySem.W.Frag} {tg:Expr} (it:Addr) (lo:Int) (n:Nat):Turn P w K tg (mH lo n) [it] it (fun i h=>IsRangeIter h it (lo+(i:Nat) * (-1)) ((n:Int) - (i:Nat)) (-1)) where
 mem:=by simp
 obj:=fun i h st b hb=>by
  have e:b=it:=by simpa using hb
  subst e
  exact ⟨_,st,fun v z=>by
   have z':Data.fields _=Data.cell v:=z
   cases z'⟩
 keep:=fun i h h' st k=>k it (by simp) _ st
 item:=by
  intro X hP hw hK hc i pins s σ H E I hf st hg
  subst hP hw hK
  obtain ⟨f0,f1,f2,f3,f4,f5⟩:=hf it (by simp)
  have W:=Walks.range (prog:=X.prog) (w:=X.w) (I.ok.hd hc) it lo (-1) n
  refine W.item i s _ _ hg st fun v h' tk hv st' kk=>?_
  obtain ⟨t,rfl⟩:=hv
  have I1:Inv X pins σ H { s with heap:=h',toks:=tk }:=I.turned (fun b o hb e=>kk b o (by simpa using hb) e) f0 f1 f3 f4 f5
  refine ⟨_,rfl,kK (s:={ s with heap:=h',toks:=tk }) (n:="range_iterator") st' rfl rfl (by decide) ⟨.int (lo - i),H,I1,⟨t,?_⟩,⟨rfl,rfl⟩,st',fun b hb=>(hf b hb).1⟩⟩
  congr 1
  omega
 done:=by
  intro X hP hw hK hc i pins s σ H E I hf st hg
  subst hP hw hK
  obtain ⟨f0,f1,f2,f3,f4,f5⟩:=hf it (by simp)
  exact wpAny_pyNext_range_end (I.ok.hd hc) st (by have:n<=i:=hg; omega) fun h' eb=>⟨rfl,I.turned (t':=s.toks) (fun b o hb e=>eb b o hb e) f0 f1 f3 f4 f5⟩
 self:=fun _ _ _ _ _ st h=>wpAny_pyIter_rangeiter st h
theorem rangeSize_down (a b:Int):Builtin.Range.rangeSize a b (-1)=if b < a then a - b else 0:=by
 unfold Builtin.Range.rangeSize
 rw [if_neg (by decide)]
 by_cases h:b < a
 ·rw [if_pos h,if_pos (show a > b from h)]
  rw [show (-(-1):Int)=1 from rfl,Int.ediv_one]; omega
 ·rw [if_neg h,if_neg (show ¬ a > b from h)]
theorem small_down {a b:Int} (ha:-(2 ^ 62)<=a) (ha':a < 2 ^ 62) (hb:-(2 ^ 62)<=b) (hb':b < 2 ^ 62):Builtin.Range.small a b (-1)=true:=by
 unfold Builtin.Range.small
 rw [rangeSize_down]
 simp only [Builtin.Range.rangeFitsLong,Bool.and_eq_true,Bool.or_eq_true,decide_eq_true_eq,beq_iff_eq]
 by_cases h:b < a
 ·simp only [if_pos h]
  rw [if_neg (show ¬ (-1:Int) > 0 by decide),Bool.and_eq_true,decide_eq_true_eq,decide_eq_true_eq]
  omega
 ·simp only [if_neg h]
  rw [if_neg (show ¬ (-1:Int) > 0 by decide),Bool.and_eq_true,decide_eq_true_eq,decide_eq_true_eq]
  omega
noncomputable def Af (ta:TA):TI:=fun σ H R=>ta σ H fun vs H1=>∃ i j:Int,vs=[.int i,.int j,.int (-1)]/\(-(2 ^ 62)<=i/\i < 2 ^ 62/\-(2 ^ 62)<=j/\j < 2 ^ 62)/\R (mH i (i - j).toNat) H1
theorem Dc {tg a b c:Expr} {ta:TA} {p pos:Pos} (hg:Gl X "range") (hm:X.mg "range" = none) (ha:PA X [a,b,c] ta) (hs:starEach [a,b,c] X.env=[(false,eval a X.env),(false,eval b X.env),(false,eval c X.env)]) (hs2:starEach [b,c] X.env=[(false,eval b X.env),(false,eval c X.env)]) :
  PI X tg (.Call (.Name "range" p) [a,b,c] [] pos) (Af ta):=by
 intro pins s σ H R I h
 refine Call_ (gx I hg hm boot_range (PyProof.Rows.callWith_type1 (thn (ha pos pins s σ H _ I h) fun us s1 ⟨vs,H1,I1,r1,q1⟩=>?_) (by rw [hs,hs2]) (by rw [hs2]; rfl)))
 obtain ⟨i,j,e,⟨q1,q2,q3,q4⟩,q⟩:=q1
 subst e
 cases r1 with
 | cons r rr =>
  cases rr with
  | cons r' rr =>
   cases rr with
   | cons r'' rr =>
    cases rr
    obtain ⟨t,rfl⟩:=r
    obtain ⟨t',rfl⟩:=r'
    obtain ⟨t'',rfl⟩:=r''
    refine call_range_3 (by decide) ?_ (.inl (PyProof.noPylong_small (by decide)))
    refine wpAny_pyIter_range (IsRange.new ..) (small_down q1 q2 q3 q4) ?_
    have I2:Inv X pins σ H1 { s1 with heap:=s1.heap.push { cls:=.type "range",data:=.fields #[.int i t,.int j t',.int (-1) t''] } }:=I1.kept (t':=s1.toks) fun b o e=>Heap.get?_push_of_some _ e
    refine ⟨(s1.heap.push { cls:=.type "range",data:=.fields #[.int i t,.int j t',.int (-1) t''] }).objs.size,[(s1.heap.push { cls:=.type "range",data:=.fields #[.int i t,.int j t',.int (-1) t''] }).objs.size],_,_,H1,rfl,
     I2.kept (t':=s1.toks) fun b o e=>Heap.get?_push_of_some _ e,By _ i (i - j).toNat,?_,fun b hb=>?_,q⟩
    ·have e1:i+((0:Nat):Int) * (-1)=i:=by simp
     have e2:(((i - j).toNat:Nat):Int) - ((0:Nat):Int)=Builtin.Range.rangeSize i j (-1):=by rw [rangeSize_down]; split <;> omega
     show IsRangeIter _ _ (i+((0:Nat):Int) * (-1)) ((((i - j).toNat:Nat):Int) - ((0:Nat):Int)) (-1)
     rw [e1,e2]
     exact Heap.get?_push_size _ rfl
    ·have e:b=(s1.heap.push { cls:=.type "range",data:=.fields #[.int i t,.int j t',.int (-1) t''] }).objs.size:=by simpa using hb
     subst e
     exact I2.gf (Nat.le_refl _) (I2.hok.fresh (Nat.le_refl _))
end
end L2

namespace EV
open PySem PySem.Spec PyProof.Rows L2
section
variable {X:Cx} {Γ:Gx} {xw:XW} {a b c:Expr} {ma mb mc:Sg->M D} {pos:Pos}
theorem xQ {i:Nat} {x:Str} (hN:X.N[i]?=some x) (hv:Vis X.env.scope x) (hd:(x==("__debug__" : Str))=false) (hcd:(x==("__classdict__" : Str))=false):PE X (.Name x pos) (tM Γ xw fun σ=>bF σ i) :=
 PE.imp (vn hN hv hd hcd) fun σ H Q h=>by
  obtain ⟨σd,ι,S,he,hs,ho⟩:=h
  have ho:Out Γ xw ι H (bF σd i S) fun d _ ι' H'=>∀ v,Rep Γ ι' H' d v->Q v H':=ho
  cases q:σd[i]? with
  | none=>rw [show bF σd i S=.bad by unfold bF; rw [q]; rfl] at ho; exact ho.elim
  | some o =>
   cases o with
   | none=>rw [show bF σd i S=.bad by unfold bF; rw [q]; rfl] at ho; exact ho.elim
   | some d =>
    rw [show bF σd i S=.ok d S by unfold bF; rw [q]; rfl] at ho
    obtain ⟨v,hv,r⟩:=he.var i d q
    exact ⟨v,hv,ho.here hs v r⟩
theorem iI {e:Expr} {d:D} {v:V} (h:PE X e (tC v)) (r:∀ ι H,Rep Γ ι H d v):PE X e (tM Γ xw fun _=>pure d) :=
 PE.imp h fun σ H Q h=>by
  obtain ⟨σd,ι,S,he,hs,ho⟩:=h
  exact ho.here hs v (r _ _)
theorem Df {op:Operator} {f:D->D->M D} (ho:OpR X (binaryOp op) (br Γ xw f)) (ha:PE X a (tM Γ xw ma)) (hb:PE X b (tM Γ xw mb)):PE X (.BinOp a op b pos) (tM Γ xw fun σ=>ma σ>>=fun x=>mb σ>>=fun y=>f x y) :=
 PE.imp (zx ho ha hb) fun _ _ _ h=>gy h
theorem FF {op:CmpOp} {f:D->D->M D} (ho:OpR X (compareOp op) (br Γ xw f)) (ha:PE X a (tM Γ xw ma)) (hb:PE X b (tM Γ xw mb)) (hm:behindInMarks op b=false):PE X (.Compare a [op] [b] pos) (tM Γ xw fun σ=>ma σ>>=fun x=>mb σ>>=fun y=>f x y) :=
 PE.imp (BJ ho ha hb hm) fun _ _ _ h=>gy h
theorem xZ {rest:List Expr} (ha:PE X a (tM Γ xw ma)) (hb:PE X (.BoolOp .And (b::rest) pos) (tM Γ xw mb)):PE X (.BoolOp .And (a::b::rest) pos) (tM Γ xw fun σ=>ma σ>>=fun x=>match x with|.bl true=>mb σ|.bl false=>pure (.bl false)|_=>bad) :=
 PE.imp (B5 ha hb) fun σ H Q h=>by
  obtain ⟨σd,ι,S,he,hs,ho⟩:=h
  refine ⟨σd,ι,S,he,hs,ho.bind.mono fun d S' ι' H' _ _ ⟨s',e',o'⟩ v r=>?_⟩
  cases d with
  | bl k =>
   cases r
   refine ⟨k,rfl,?_⟩
   cases k with
   | true=>rw [if_pos rfl]; exact ⟨σd,ι',S',he.ext e',s',o'⟩
   | false=>rw [if_neg Bool.false_ne_true]; exact o'.here s' _ (.bl _)
  | _=>exact o'.elim
theorem zF {rest:List Expr} (ha:PE X a (tM Γ xw ma)) (hb:PE X (.BoolOp .Or (b::rest) pos) (tM Γ xw mb)):PE X (.BoolOp .Or (a::b::rest) pos) (tM Γ xw fun σ=>ma σ>>=fun x=>match x with|.bl true=>pure (.bl true)|.bl false=>mb σ|_=>bad) :=
 PE.imp (Ae ha hb) fun σ H Q h=>by
  obtain ⟨σd,ι,S,he,hs,ho⟩:=h
  refine ⟨σd,ι,S,he,hs,ho.bind.mono fun d S' ι' H' _ _ ⟨s',e',o'⟩ v r=>?_⟩
  cases d with
  | bl k =>
   cases r
   refine ⟨k,rfl,?_⟩
   cases k with
   | false=>rw [if_neg Bool.false_ne_true]; exact ⟨σd,ι',S',he.ext e',s',o'⟩
   | true=>rw [if_pos rfl]; exact o'.here s' _ (.bl _)
  | _=>exact o'.elim
theorem DO (ha:PE X a (tM Γ xw ma)):PE X (.UnaryOp .Not a pos) (tM Γ xw fun σ=>ma σ>>=fun x=>match x with|.bl b=>pure (.bl (!b))|_=>bad) :=
 PE.imp (B6 ha) fun σ H Q h=>by
  obtain ⟨σd,ι,S,he,hs,ho⟩:=h
  refine ⟨σd,ι,S,he,hs,ho.bind.mono fun d S' ι' H' _ _ ⟨s',e',o'⟩ v r=>?_⟩
  cases d with
  | bl k=>cases r; exact ⟨k,rfl,o'.here s' _ (.bl _)⟩
  | _=>exact o'.elim
theorem F1 (ha:PE X a (tM Γ xw ma)):PE X (.UnaryOp .USub a pos) (tM Γ xw fun σ=>ma σ>>=fun x=>match x with|.int i=>pure (.int (-i))|_=>bad) :=
 PE.imp (Ai Dp ha) fun σ H Q h=>by
  obtain ⟨σd,ι,S,he,hs,ho⟩:=h
  refine ⟨σd,ι,S,he,hs,ho.bind.mono fun d S' ι' H' _ _ ⟨s',e',o'⟩ v r=>?_⟩
  cases d with
  | int k=>cases r; exact ⟨k,rfl,o'.here s' _ (.int _)⟩
  | _=>exact o'.elim
theorem kP {ι:List Addr} {H:Hp} {d:D} {v:V} (r:Rep Γ ι H d v):decide (v=.non)=decide (d=.non):=by
 cases r <;> simp
theorem zy {j pos'} (ha:PE X a (tM Γ xw ma)):PE X (.Compare a [.Is] [.Constant .none j pos'] pos) (tM Γ xw fun σ=>ma σ>>=fun x=>pure (.bl (decide (x=.non)))) :=
 PE.imp (pY (tV ha)) fun σ H Q h=>by
  obtain ⟨σd,ι,S,he,hs,ho⟩:=h
  refine ⟨σd,ι,S,he,hs,ho.bind.mono fun d S' ι' H' _ _ ⟨s',e',o'⟩ v r=>?_⟩
  show Q (.bl (decide (v=.non))) H'
  rw [kP r]; exact o'.here s' _ (.bl _)
theorem B9 {j pos'} (ha:PE X a (tM Γ xw ma)):PE X (.Compare a [.IsNot] [.Constant .none j pos'] pos) (tM Γ xw fun σ=>ma σ>>=fun x=>pure (.bl (!decide (x=.non)))) :=
 PE.imp (pY (pB ha)) fun σ H Q h=>by
  obtain ⟨σd,ι,S,he,hs,ho⟩:=h
  refine ⟨σd,ι,S,he,hs,ho.bind.mono fun d S' ι' H' _ _ ⟨s',e',o'⟩ v r=>?_⟩
  show Q (.bl (!decide (v=.non))) H'
  rw [kP r]; exact o'.here s' _ (.bl _)
theorem yu {op op':CmpOp} {f f':D->D->M D} (ho:OpR X (compareOp op) (br Γ xw f)) (ho':OpR X (compareOp op') (br Γ xw f')) (ha:PE X a (tM Γ xw ma)) (hb:PE X b (tM Γ xw mb)) (hc:PE X c (tM Γ xw mc)) (hm:lastMarks [op,op'] [b,c]=false) :
  PE X (.Compare a [op,op'] [b,c] pos) (tM Γ xw fun σ=>ma σ>>=fun x=>mb σ>>=fun y=>f x y>>=fun r=>match r with|.bl true=>mc σ>>=fun z=>f' y z|.bl false=>pure (.bl false)|_=>bad) :=
 PE.imp (vJ ho ho' ha hb hc hm) fun σ H Q h=>by
  obtain ⟨σd,ι,S,he,hs,ho⟩:=h
  refine ⟨σd,ι,S,he,hs,ho.bind.mono fun d S' ι' H' _ _ ⟨s',e',o'⟩ v r=>⟨σd,ι',S',he.ext e',s',o'.bind.mono fun d2 S2 ι2 H2 _ _ ⟨s2,e2,o2⟩ v2 r2=>⟨ι2,S2,d,d2,s2,r.ext e2,r2,o2.bind.mono fun d3 S3 ι3 H3 _ _ ⟨s3,e3,o3⟩ v3 r3=>?_⟩⟩⟩
  cases d3 with
  | bl k =>
   cases r3
   refine ⟨k,rfl,?_⟩
   cases k with
   | true =>
    rw [if_pos rfl]
    exact ⟨σd,ι3,S3,(he.ext (e'.trans e2)).ext e3,s3,o3.bind.mono fun d4 S4 ι4 H4 _ _ ⟨s4,e4,o4⟩ v4 r4=>⟨ι4,S4,d2,d4,s4,(r2.ext e3).ext e4,r4,o4⟩⟩
   | false=>rw [if_neg Bool.false_ne_true]; exact o3.here s3 _ (.bl _)
  | _=>exact o3.elim
theorem yq {e:Expr} {m:Sg->M D} (hK:Γ.K=X.K) (h:PE X e (tM Γ xw m)) (he:∀ whole,isTrue e X.env whole=(do let v <- whole; standAt e.pos; holding [v] (truthy v))):PT X e (tMT Γ xw fun σ=>m σ>>=truth):=by
 intro pins s σ H Q I hw
 obtain ⟨σd,ι,S,hE,hs,ho⟩:=hw
 refine isTrue_plain (thn (h pins s σ H (fun x H'=>∃ ι S d,ay Γ ι H' S/\Rep Γ ι H' d x/\Out Γ xw ι H' (truth d S) fun b _ _ H'=>Q b H') I ⟨σd,ι,S,hE,hs,ho.bind.mono fun d S' ι' H' _ _ ⟨s',e',o'⟩ v r=>⟨ι',S',d,s',r,o'⟩⟩) fun v s1 ⟨x,H1,I1,r1,q1⟩=>?_) (he _)
 exact Gf hK pins s1 σ H1 x v Q I1 r1 q1
theorem AM {op:CmpOp} {f:D->D->M D} (hbl:∀ x y S d S',f x y S=.ok d S'->∃ k,d=.bl k) (ho:OpR X (compareOp op) (br Γ xw f)) (ha:PE X a (tM Γ xw ma)) (hb:PE X b (tM Γ xw mb)) (hm:behindInMarks op b=false) :
  PT X (.Compare a [op] [b] pos) (tMT Γ xw fun σ=>ma σ>>=fun x=>mb σ>>=fun y=>f x y>>=fun r=>truth r) :=
 PT.imp (zS ho ha hb hm) fun σ H Q h=>by
  obtain ⟨σd,ι,S,he,hs,ho⟩:=h
  refine ⟨σd,ι,S,he,hs,ho.bind.mono fun d S' ι' H' _ _ ⟨s',e',o'⟩ v r=>⟨σd,ι',S',he.ext e',s',o'.bind.mono fun d2 S2 ι2 H2 _ _ ⟨s2,e2,o2⟩ v2 r2=>⟨ι2,S2,d,d2,s2,r.ext e2,r2,?_⟩⟩⟩
  cases q:f d d2 S2 with
  | bad=>rw [bz q] at o2; exact o2.elim
  | exc c S3=>rw [dS q] at o2; exact o2
  | ok d3 S3 =>
   rw [ao q] at o2
   obtain ⟨k,rfl⟩:=hbl _ _ _ _ _ q
   intro ι3 H3 e3 s3 v3 r3
   cases r3
   exact ⟨k,rfl,(o2.step e3).here s3⟩
theorem E4 {op op':CmpOp} {f f':D->D->M D} (hbl:∀ x y S d S',f x y S=.ok d S'->∃ k,d=.bl k) (hbl':∀ x y S d S',f' x y S=.ok d S'->∃ k,d=.bl k) (ho:OpR X (compareOp op) (br Γ xw f)) (ho':OpR X (compareOp op') (br Γ xw f')) (ha:PE X a (tM Γ xw ma)) (hb:PE X b (tM Γ xw mb)) (hc:PE X c (tM Γ xw mc)) (hm:lastMarks [op,op'] [b,c]=false) :
  PT X (.Compare a [op,op'] [b,c] pos) (tMT Γ xw fun σ=>ma σ>>=fun x=>mb σ>>=fun y=>f x y>>=fun r=>truth r>>=fun k=>if k=true then mc σ>>=fun z=>f' y z>>=fun q=>truth q else pure false) :=
 PT.imp (Cz ho ho' ha hb hc hm) fun σ H Q h=>by
  obtain ⟨σd,ι,S,he,hs,ho⟩:=h
  refine ⟨σd,ι,S,he,hs,ho.bind.mono fun d S' ι' H' _ _ ⟨s',e',o'⟩ v r=>⟨σd,ι',S',he.ext e',s',o'.bind.mono fun d2 S2 ι2 H2 _ _ ⟨s2,e2,o2⟩ v2 r2=>⟨ι2,S2,d,d2,s2,r.ext e2,r2,?_⟩⟩⟩
  cases q:f d d2 S2 with
  | bad=>rw [bz q] at o2; exact o2.elim
  | exc c S3=>rw [dS q] at o2; exact o2
  | ok d3 S3 =>
   rw [ao q] at o2
   obtain ⟨k,rfl⟩:=hbl _ _ _ _ _ q
   intro ι3 H3 e3 s3 v3 r3
   cases r3
   refine ⟨k,rfl,?_⟩
   have o3:=o2.step e3
   cases k with
   | false=>rw [if_neg Bool.false_ne_true]; exact ⟨false,rfl,o3.here s3⟩
   | true =>
    rw [if_pos rfl]
    have o3:Out Γ xw ι3 H3 ((mc σd>>=fun z=>f' d2 z>>=fun q=>truth q) S3) _:=o3
    refine ⟨σd,ι3,S3,(he.ext (e'.trans e2)).ext e3,s3,o3.bind.mono fun d4 S4 ι4 H4 _ _ ⟨s4,e4,o4⟩ v4 r4=>⟨ι4,S4,d2,d4,s4,(r2.ext e3).ext e4,r4,?_⟩⟩
    cases q4:f' d2 d4 S4 with
    | bad=>rw [bz q4] at o4; exact o4.elim
    | exc c S5=>rw [dS q4] at o4; exact o4
    | ok d5 S5 =>
     rw [ao q4] at o4
     obtain ⟨k5,rfl⟩:=hbl' _ _ _ _ _ q4
     intro ι5 H5 e5 s5 v5 r5
     cases r5
     exact ⟨k5,rfl,(o4.step e5).here s5⟩
theorem jJ {j pos'} (ha:PE X a (tM Γ xw ma)):PT X (.Compare a [.Is] [.Constant .none j pos'] pos) (tMT Γ xw fun σ=>ma σ>>=fun x=>pure (decide (x=.non))) :=
 PT.imp (rQ (tV ha)) fun σ H Q h=>by
  obtain ⟨σd,ι,S,he,hs,ho⟩:=h
  refine ⟨σd,ι,S,he,hs,ho.bind.mono fun d S' ι' H' _ _ ⟨s',e',o'⟩ v r=>⟨_,rfl,?_⟩⟩
  rw [kP r]; exact o'.here s'
theorem Gg {j pos'} (ha:PE X a (tM Γ xw ma)):PT X (.Compare a [.IsNot] [.Constant .none j pos'] pos) (tMT Γ xw fun σ=>ma σ>>=fun x=>pure (!decide (x=.non))) :=
 PT.imp (rQ (pB ha)) fun σ H Q h=>by
  obtain ⟨σd,ι,S,he,hs,ho⟩:=h
  refine ⟨σd,ι,S,he,hs,ho.bind.mono fun d S' ι' H' _ _ ⟨s',e',o'⟩ v r=>⟨_,rfl,?_⟩⟩
  rw [kP r]; exact o'.here s'
variable {na nb:Sg->M Bool}
theorem tu {rest:List Expr} (ha:PT X a (tMT Γ xw na)) (hb:PW X (.BoolOp .And (b::rest) pos) (tMT Γ xw nb)):PW X (.BoolOp .And (a::b::rest) pos) (tMT Γ xw fun σ=>na σ>>=fun k=>if k=true then nb σ else pure false) :=
 PW.imp (Al ha hb) fun σ H Q h=>by
  obtain ⟨σd,ι,S,he,hs,ho⟩:=h
  refine ⟨σd,ι,S,he,hs,ho.bind.mono fun k S' ι' H' _ _ ⟨s',e',o'⟩=>?_⟩
  cases k with
  | true=>rw [if_pos rfl]; exact ⟨σd,ι',S',he.ext e',s',o'⟩
  | false=>rw [if_neg Bool.false_ne_true]; exact o'.here s'
theorem rH {rest:List Expr} (ha:PT X a (tMT Γ xw na)) (hb:PW X (.BoolOp .Or (b::rest) pos) (tMT Γ xw nb)):PW X (.BoolOp .Or (a::b::rest) pos) (tMT Γ xw fun σ=>na σ>>=fun k=>if k=true then pure true else nb σ) :=
 PW.imp (w6 ha hb) fun σ H Q h=>by
  obtain ⟨σd,ι,S,he,hs,ho⟩:=h
  refine ⟨σd,ι,S,he,hs,ho.bind.mono fun k S' ι' H' _ _ ⟨s',e',o'⟩=>?_⟩
  cases k with
  | false=>rw [if_neg Bool.false_ne_true]; exact ⟨σd,ι',S',he.ext e',s',o'⟩
  | true=>rw [if_pos rfl]; exact o'.here s'
theorem Gj (ha:PT X a (tMT Γ xw na)):PT X (.UnaryOp .Not a pos) (tMT Γ xw fun σ=>na σ>>=fun k=>pure (!k)) :=
 PT.imp (wU ha) fun σ H Q h=>by
  obtain ⟨σd,ι,S,he,hs,ho⟩:=h
  exact ⟨σd,ι,S,he,hs,ho.bind.mono fun k S' ι' H' _ _ ⟨s',e',o'⟩=>o'.here s'⟩
theorem CD (hc:PT X c (tMT Γ xw na)) (ha:PE X a (tM Γ xw ma)) (hb:PE X b (tM Γ xw mb)):PE X (.IfExp c a b pos) (tM Γ xw fun σ=>na σ>>=fun k=>if k=true then ma σ else mb σ) :=
 PE.imp (E2 hc ha hb) fun σ H Q h=>by
  obtain ⟨σd,ι,S,he,hs,ho⟩:=h
  refine ⟨σd,ι,S,he,hs,ho.bind.mono fun k S' ι' H' _ _ ⟨s',e',o'⟩=>?_⟩
  cases k with
  | true=>rw [if_pos rfl]; exact ⟨σd,ι',S',he.ext e',s',o'⟩
  | false=>rw [if_neg Bool.false_ne_true]; exact ⟨σd,ι',S',he.ext e',s',o'⟩
theorem vz:PA X [] (tMA Γ xw fun _=>pure []) :=
 PA.imp jC fun σ H Q h=>by
  obtain ⟨σd,ι,S,he,hs,ho⟩:=h
  exact ho.here hs [] .nil
theorem y9 {es:List Expr} {m:Sg->M (List D)} (ha:PE X a (tM Γ xw ma)) (hr:PA X es (tMA Γ xw m)) (hs:starEach (a::es) X.env=(false,eval a X.env)::starEach es X.env):PA X (a::es) (tMA Γ xw fun σ=>ma σ>>=fun x=>m σ>>=fun xs=>pure (x::xs)) :=
 PA.imp (iG ha hr hs) fun σ H Q h=>by
  obtain ⟨σd,ι,S,he,hs,ho⟩:=h
  exact ⟨σd,ι,S,he,hs,ho.bind.mono fun d S' ι' H' _ _ ⟨s',e',o'⟩ v r=>⟨σd,ι',S',he.ext e',s',o'.bind.mono fun ds S2 ι2 H2 _ _ ⟨s2,e2,o2⟩ vs rs=>o2.here s2 _ (.cons (r.ext e2) rs)⟩⟩
theorem wj {es:List Expr} {k:Nat} {m:Sg->M (List D)} (h:PA X es (tMA Γ xw m)):PE X (.Tuple es k pos) (tM Γ xw fun σ=>m σ>>=fun ds=>guard (fits ds.length) (pure (.tup ds))) :=
 PE.imp (AW h) fun σ H Q h=>by
  obtain ⟨σd,ι,S,he,hs,ho⟩:=h
  refine ⟨σd,ι,S,he,hs,ho.bind.mono fun ds S' ι' H' _ _ ⟨s',e',o'⟩ vs rs=>?_⟩
  obtain ⟨hz,o'⟩:=Out.guard o'
  exact ⟨by rw [<- rs.length]; exact gm hz,fun p hp=>Out.tup o' s' hp rs⟩
theorem Ex {es:List Expr} {m:Sg->M (List D)} (h:PA X es (tMA Γ xw m)):PE X (.List es pos) (tM Γ xw fun σ=>m σ>>=fun ds=>guard (fits ds.length) (alloc (.lst ds))) :=
 PE.imp (CA h) fun σ H Q h=>by
  obtain ⟨σd,ι,S,he,hs,ho⟩:=h
  refine ⟨σd,ι,S,he,hs,ho.bind.mono fun ds S' ι' H' _ _ ⟨s',e',o'⟩ vs rs=>?_⟩
  obtain ⟨hz,o'⟩:=Out.guard o'
  exact ⟨by rw [<- rs.length]; exact gm hz,fun p hp=>Out.alloc o' s' hp rs⟩
theorem zB (hK:Γ.K=X.K) (ha:PE X a (tM Γ xw ma)) (hb:PE X b (tM Γ xw mb)) (hs:kE b):PE X (.Subscript a b pos) (tM Γ xw fun σ=>ma σ>>=fun x=>mb σ>>=fun y=>ixD x y) :=
 PE.imp (pK (Bc hK) ha hb hs) fun _ _ _ h=>gy h
noncomputable def tMO (Γ:Gx) (xw:XW) (m:Sg->M (Option Int)):TO:=fun σ H Q=>∃ σd ι S,bu Γ ι H σ σd/\ay Γ ι H S/\Out Γ xw ι H (m σd S) fun o _ _ H'=>Q o H'
theorem PO.imp {e:Option Expr} {t t':TO} (h:PO X e t) (f:∀ σ H Q,t' σ H Q->t σ H Q):PO X e t':=fun pins s σ H Q I q=>h pins s σ H Q I (f σ H Q q)
theorem E6:PO X none (tMO Γ xw fun _=>pure none):=PO.imp lE fun σ H Q h=>by
 obtain ⟨σd,ι,S,he,hs,ho⟩:=h
 exact ho.here hs
theorem FU (ha:PE X a (tM Γ xw ma)):PO X (some a) (tMO Γ xw fun σ=>ma σ>>=gz):=PO.imp (oz ha) fun σ H Q h=>by
 obtain ⟨σd,ι,S,he,hs,ho⟩:=h
 refine ⟨σd,ι,S,he,hs,ho.bind.mono fun d S' ι' H' _ _ ⟨s',e',o'⟩ v r=>?_⟩
 cases d with
 | int i=>cases r; exact ⟨i,rfl,o'.here s'⟩
 | _=>exact o'.elim
theorem CS {lo hi:Option Expr} {ml mh:Sg->M (Option Int)} {p2:Pos} (hK:Γ.K=X.K) (ha:PE X a (tM Γ xw ma)) (hl:PO X lo (tMO Γ xw ml)) (hh:PO X hi (tMO Γ xw mh)) :
  PE X (.Subscript a (.Slice lo hi none p2) pos) (tM Γ xw fun σ=>ma σ>>=fun x=>ml σ>>=fun l=>mh σ>>=fun h=>slD x l h) :=
 PE.imp (lJ (zR hK) ha hl hh) fun σ H Q h=>by
  obtain ⟨σd,ι,S,he,hs,ho⟩:=h
  exact ⟨σd,ι,S,he,hs,ho.bind.mono fun d S' ι' H' _ _ ⟨s',e',o'⟩ v r=>⟨σd,ι',S',he.ext e',s',o'.bind.mono fun l S2 ι2 H2 _ _ ⟨s2,e2,o2⟩=>⟨σd,ι2,S2,(he.ext e').ext e2,s2,o2.bind.mono fun u S3 ι3 H3 _ _ ⟨s3,e3,o3⟩=>⟨ι3,S3,d,s3,(r.ext e2).ext e3,o3⟩⟩⟩⟩
theorem mK {id:String} {x:Str} {p:Pos} {es:List Expr} {m:Sg->M (List D)} {f:List D->M D} (hc:b_ X (.builtin id) (dU Γ xw f)) (hg:Gl X x) (hm:X.mg x=none) (hv:bootBuiltins x=some (.builtin id)) (ha:PA X (a::es) (tMA Γ xw m)) (hn:x≠"__name__") (hdb:(x==("__debug__" : Str))=false)
  (he:starEach (a::es) X.env=(false,eval a X.env)::starEach es X.env) (hpl:(backTo pos (starEach es X.env)).any (·.1)=false):PE X (.Call (.Name x p) (a::es) [] pos) (tM Γ xw fun σ=>m σ>>=f) :=
 PE.imp (qX hc hg hm hv ha hn hdb he hpl) fun _ _ _ h=>pG h
theorem kR {T:String} {x:Str} {p:Pos} {es:List Expr} {m:Sg->M (List D)} {f:List D->M D} (hc:b_ X (.type T) (dU Γ xw f)) (hg:Gl X x) (hm:X.mg x=none) (hv:bootBuiltins x=some (.type T)) (ha:PA X (a::es) (tMA Γ xw m)) (hn:x≠"__name__") (hdb:(x==("__debug__" : Str))=false)
  (he:starEach (a::es) X.env=(false,eval a X.env)::starEach es X.env) (hpl:(backTo pos (starEach es X.env)).any (·.1)=false):PE X (.Call (.Name x p) (a::es) [] pos) (tM Γ xw fun σ=>m σ>>=f) :=
 PE.imp (vM hc hg hm hv ha hn hdb he hpl) fun _ _ _ h=>pG h
theorem yD {sub:Sub} {t:Ty} {T:String} {x y:Str} {p p':Pos} (hK:Γ.K=X.K) (ht:t.name=some T) (hg:Gl X x) (hm:X.mg x=none) (hv:bootBuiltins x=some (.builtin "isinstance")) (hg':Gl X y) (hm':X.mg y=none) (hv':bootBuiltins y=some (.type T)) (ha:PE X a (tM Γ xw ma))
  (hn:x≠"__name__") (hdb:(x==("__debug__" : Str))=false) (hn':y≠"__name__") (hdb':(y==("__debug__" : Str))=false) (hst:starEach [a,.Name y p'] X.env=(false,eval a X.env)::starEach [.Name y p'] X.env) :
  PE X (.Call (.Name x p) [a,.Name y p'] [] pos) (tM Γ xw fun σ=>ma σ>>=fun d=>jq sub t d):=by
 have hy:PE X (.Name y p') (tC (.ty T)):=yT hg' hm' hv' rfl hn' hdb'
 have hc:b_ X (.builtin "isinstance") (fun xs H Q=>∃ x,xs=[x,.ty T]/\Gn Γ xw (jq sub t) x H Q):=by
  intro pins s σ H xs us Q I rs h
  obtain ⟨x,rfl,ι,S,d,hS,r,ho⟩:=h
  obtain ⟨u1,u2,rfl,r1,r2⟩:=rs.two
  cases r2
  unfold jq at ho
  cases q:cK sub S d t with
  | none=>rw [q] at ho; exact ho.elim
  | some k =>
   rw [q] at ho
   exact v9 hK I hS ht r r1 q fun tk=>⟨.bl k,H,I.tok _,rfl,Out.val ho hS (.bl _)⟩
 refine PE.imp (qX hc hg hm hv (iG ha (iG hy jC rfl) hst) hn hdb hst rfl) fun σ H Q h=>?_
 obtain ⟨σd,ι,S,he,hs,ho⟩:=h
 exact ⟨σd,ι,S,he,hs,ho.bind.mono fun d S' ι' H' _ _ ⟨s',e',o'⟩ v r=>⟨v,rfl,ι',S',d,s',r,o'⟩⟩
end
end EV

namespace EV
open PySem PySem.Spec PyProof.Rows L2
section
variable {X:Cx} {Γ:Gx} {xw:XW} {ι ι':List Addr} {H H':Hp} {S:af} {σ:L2.St}
theorem Rep.move (hp:ι <+: ι') (ht:∀ a xs,H a=some (.tup xs)->H' a=some (.tup xs)) (hf:∀ a o u,H a=some (.frz o u)->H' a=some (.frz o u)) {d:D} {v:V} (h:Rep Γ ι H d v):Rep Γ ι' H' d v:=by
 induction h with
 | non=>exact .non
 | bl b=>exact .bl b
 | int i=>exact .int i
 | str x=>exact .str x
 | tup h1 h2 h3 h4 ih =>
  refine .tup ?_ h2 ih fun k q=>ht _ _ (h4 k q)
  rcases h1 with (h|⟨o,h⟩)|h
  ·exact .inl (.inl (ht _ _ h))
  ·exact .inl (.inr ⟨o,hf _ _ _ h⟩)
  ·exact .inr h
 | fro h1 h2 h3 ih =>
  refine .fro ?_ h2 ih
  rcases h1 with ⟨o,h⟩|h
  ·exact .inl ⟨o,hf _ _ _ h⟩
  ·exact .inr h
 | loc h=>exact .loc (h_ hp h)
theorem qs {a:Addr} {xs ys:List V} (h:H a=some (.lst xs)):∀ b zs,H b=some (.tup zs)->upd H a (.lst ys) b=some (.tup zs):=fun b zs e=>by
 rw [aK (qx e h (by intro z; cases z))]; exact e
theorem sP {a:Addr} {xs ys:List V} (h:H a=some (.lst xs)):∀ b o u,H b=some (.frz o u)->upd H a (.lst ys) b=some (.frz o u):=fun b o u e=>by
 rw [aK (qx e h (by intro z; cases z))]; exact e
theorem Rep.write {a:Addr} {xs ys:List V} (h:H a=some (.lst xs)) {d:D} {v:V} (r:Rep Γ ι H d v):Rep Γ ι (upd H a (.lst ys)) d v:=r.move (List.prefix_refl _) (qs h) (sP h)
theorem az.write {a:Addr} {xs ys:List V} (h:H a=some (.lst xs)) {ds:List D} {vs:List V} (r:az Γ ι H ds vs):az Γ ι (upd H a (.lst ys)) ds vs:=Paired.imp (fun _ _ r=>Rep.write h r) r
theorem bu.write {a:Addr} {xs ys:List V} (h:H a=some (.lst xs)) {σd:Sg} (e:bu Γ ι H σ σd):bu Γ ι (upd H a (.lst ys)) σ σd:=⟨e.len,fun i d q=>let ⟨v,e1,r⟩:=e.var i d q; ⟨v,e1,r.write h⟩⟩
theorem Ext.write {a:Addr} {xs ys:List V} (h:H a=some (.lst xs)) (hm:a∈ι):Ext ι ι H (upd H a (.lst ys)) :=
 ⟨List.prefix_refl _,qs h,sP h,fun b o e n=>by rw [aK (fun z=>n (by rw [z]; exact hm))]; exact e,fun _ h n=>absurd h n⟩
theorem ay.write (hS:ay Γ ι H S) {l:Nat} {a:Addr} {xs ys:List V} {es ds:List D} (hl:S[l]?=some (.lst es)) (ha:ι[l]?=some a) (h:H a=some (.lst xs)) (r:az Γ ι H ds ys):ay Γ ι (upd H a (.lst ys)) (S.set l (.lst ds)):=by
 refine ⟨by rw [List.length_set]; exact hS.len,hS.nd,fun m c hm=>?_⟩
 by_cases e:m=l
 ·subst e
  rw [List.getElem?_set_self (List.getElem?_eq_some_iff.mp hl).1] at hm
  cases hm
  exact ⟨a,ha,ys,fH,az.write h r⟩
 ·rw [List.getElem?_set_ne (Ne.symm e)] at hm
  obtain ⟨b,hb,c1⟩:=hS.cell m c hm
  have hne:b≠a:=fun z=>e (k8 hS.nd hb (z ▸ ha))
  refine ⟨b,hb,?_⟩
  cases c with
  | lst zs=>obtain ⟨ws,hw,rw'⟩:=c1; exact ⟨ws,by rw [aK hne]; exact hw,az.write h rw'⟩
  | dct kvs=>obtain ⟨ws,hw,rw'⟩:=c1; exact ⟨ws,by rw [aK hne]; exact hw,Paired.imp (fun _ _ q=>⟨q.1,Rep.write h q.2⟩) rw'⟩
  | fdc kvs=>obtain ⟨ws,⟨o,hw⟩,rw'⟩:=c1; exact ⟨ws,⟨o,by rw [aK hne]; exact hw⟩,Paired.imp (fun _ _ q=>⟨q.1,Rep.write h q.2⟩) rw'⟩
theorem ay.other (hS:ay Γ ι H S) {a:Addr} {xs ys:List V} (h:H a=some (.lst xs)) (hn:a ∉ ι):ay Γ ι (upd H a (.lst ys)) S :=
 ⟨hS.len,hS.nd,fun m c hm=>by
  obtain ⟨b,hb,c1⟩:=hS.cell m c hm
  have hne:b≠a:=fun z=>hn (z ▸ List.mem_of_getElem? hb)
  refine ⟨b,hb,?_⟩
  cases c with
  | lst zs=>obtain ⟨ws,hw,rw'⟩:=c1; exact ⟨ws,by rw [aK hne]; exact hw,az.write h rw'⟩
  | dct kvs=>obtain ⟨ws,hw,rw'⟩:=c1; exact ⟨ws,by rw [aK hne]; exact hw,Paired.imp (fun _ _ q=>⟨q.1,Rep.write h q.2⟩) rw'⟩
  | fdc kvs=>obtain ⟨ws,⟨o,hw⟩,rw'⟩:=c1; exact ⟨ws,⟨o,by rw [aK hne]; exact hw⟩,Paired.imp (fun _ _ q=>⟨q.1,Rep.write h q.2⟩) rw'⟩⟩
theorem bu.set {σd:Sg} (e:bu Γ ι H σ σd) (i:Nat) {d:D} {v:V} (r:Rep Γ ι H d v):bu Γ ι H (σ.set i (some v)) (σd.set i (some d)):=by
 refine ⟨by rw [List.length_set,List.length_set]; exact e.len,fun j d' h=>?_⟩
 by_cases hij:j=i
 ·subst hij
  have hj:j < σd.length:=by
   have:=(List.getElem?_eq_some_iff.mp h).1
   rw [List.length_set] at this; exact this
  rw [List.getElem?_set_self hj] at h
  cases h
  exact ⟨v,by rw [List.getElem?_set_self (by rw [e.len]; exact hj)],r⟩
 ·rw [List.getElem?_set_ne (Ne.symm hij)] at h
  obtain ⟨w,hw,rw'⟩:=e.var j d' h
  exact ⟨w,by rw [List.getElem?_set_ne (Ne.symm hij)]; exact hw,rw'⟩
theorem bu.more {σd:Sg} (e:bu Γ ι H σ σd) (k:Nat):bu Γ ι H (σ++List.replicate k none) (σd++List.replicate k none):=by
 refine ⟨by simp [e.len],fun j d h=>?_⟩
 by_cases hj:j < σd.length
 ·rw [List.getElem?_append_left hj] at h
  obtain ⟨w,hw,r⟩:=e.var j d h
  exact ⟨w,by rw [List.getElem?_append_left (by rw [e.len]; exact hj)]; exact hw,r⟩
 ·rw [List.getElem?_append_right (by omega),List.getElem?_replicate] at h
  split at h <;> cases h
theorem Bd:MtR X "list.append" (fun x xs H Q=>∃ ι S dx ds,ay Γ ι H S/\Rep Γ ι H dx x/\az Γ ι H ds xs/\Out Γ xw ι H (meD .append dx ds S) fun d _ ι' H'=>∀ v,Rep Γ ι' H' d v->Q v H'):=by
 intro pins s σ H x xs v us Q I rx rs h
 obtain ⟨ι,S,dx,ds,hS,r1,r2,ho⟩:=h
 match ds,r2 with
 | [],_=>exact ho.elim
 | _::_::_,_=>exact ho.elim
 | [d],.cons (b:=y) rd .nil =>
  cases dx with
  | loc l =>
   obtain ⟨es,e,ho⟩:=Out.bI ho
   obtain ⟨hz,ho⟩:=Out.guard ho
   obtain ⟨a,ws,ha,hx,p⟩:=hS.lst e
   cases r1 with
   | loc q =>
    rw [ha] at q; cases q
    refine pF pins s σ H _ _ v us Q I rx rs ⟨a,ws,y,rfl,rfl,hx,by rw [<- p.length]; exact Gh hz,?_⟩
    exact ho ι _ (Ext.write hx (List.mem_of_getElem? ha)) (hS.write e ha hx (Paired.app p (.cons rd .nil))) _ .non
  | _=>exact ho.elim
theorem EU:MtR X "list.extend" (fun x xs H Q=>∃ ι S dx ds,ay Γ ι H S/\Rep Γ ι H dx x/\az Γ ι H ds xs/\Out Γ xw ι H (meD .extend dx ds S) fun d _ ι' H'=>∀ v,Rep Γ ι' H' d v->Q v H'):=by
 intro pins s σ H x xs v us Q I rx rs h
 obtain ⟨ι,S,dx,ds,hS,r1,r2,ho⟩:=h
 match ds,r2 with
 | [],_=>exact ho.elim
 | _::_::_,_=>exact ho.elim
 | [d],.cons (b:=y) rd .nil =>
  cases dx with
  | loc l =>
   cases d with
   | loc m =>
    obtain ⟨es,e,ho⟩:=Out.bI ho
    obtain ⟨fs,e2,ho⟩:=Out.bI ho
    obtain ⟨hz,ho⟩:=Out.guard ho
    obtain ⟨a,ws,ha,hx,p⟩:=hS.lst e
    obtain ⟨b,zs,hb,hy,p2⟩:=hS.lst e2
    cases r1 with
    | loc q =>
     cases rd with
     | loc q2 =>
      rw [ha] at q; cases q
      rw [hb] at q2; cases q2
      refine zQ pins s σ H _ _ v us Q I rx rs ⟨a,b,ws,zs,rfl,rfl,hx,hy,by rw [<- p.length,<- p2.length]; exact gm hz,?_⟩
      exact ho ι _ (Ext.write hx (List.mem_of_getElem? ha)) (hS.write e ha hx (Paired.app p p2)) _ .non
   | _=>exact ho.elim
  | _=>exact ho.elim
theorem oO {o a:Expr} {es:List Expr} {me:Me} {name:Str} {apos cpos:Pos} {id:String} {mo:Sg->M D} {m:Sg->M (List D)} (hK:Γ.K=X.K) (pa:PlainAttrs "list") (slot:Slot "list" name id) (hty:typeOf (.builtin id)=pure (.type "method_descriptor"))
  (hm:MtR X id (fun x xs H Q=>∃ ι S dx ds,ay Γ ι H S/\Rep Γ ι H dx x/\az Γ ι H ds xs/\Out Γ xw ι H (meD me dx ds S) fun d _ ι' H'=>∀ v,Rep Γ ι' H' d v->Q v H')) (ho:PE X o (tM Γ xw mo)) (ha:PA X (a::es) (tMA Γ xw m))
  (hbase:attributeBase o name X.env (eval o X.env)=eval o X.env)
  (hfew:((backTo cpos (starEach (a::es) X.env)).all (fun x=>!x.1)&&(backToKw cpos (keywordEach [] X.env)).all (fun x=>x.1.isSome)&&decide ((a::es).length+([]:List Keyword).length+(if ([]:List Keyword).isEmpty then 0 else 1) < 30))=true)
  (hline:(apos.endLine==cpos.line)=true) (hs:starEach (a::es) X.env=(false,eval a X.env)::starEach es X.env) (hplain:(backTo cpos (starEach es X.env)).any (·.1)=false) :
  PE X (.Call (.Attribute o name apos) (a::es) [] cpos) (tM Γ xw fun σ=>mo σ>>=fun x=>kJ x (m σ>>=fun ds=>meD me x ds)) :=
 PE.imp (rf pa slot hty hm ho ha hbase hfew hline hs hplain) fun σ H Q h=>by
  obtain ⟨σd,ι,S,he,hs,ho⟩:=h
  refine ⟨σd,ι,S,he,hs,ho.bind.mono fun d S' ι' H' _ _ ⟨s',e',o'⟩ v r=>?_⟩
  obtain ⟨hl,o'⟩:=Out.guard (b:=d.eK S') o'
  cases d with
  | loc l =>
   have r0:=r
   cases r with
   | loc q =>
    have hlt:l < S'.length:=by rw [<- s'.len]; exact (List.getElem?_eq_some_iff.mp q).1
    obtain ⟨b,hb,c⟩:=s'.cell l S'[l] (List.getElem?_eq_getElem hlt)
    rw [q] at hb; cases hb
    cases e:S'[l] with
    | lst ds =>
     rw [e] at c
     obtain ⟨xs,hx,_⟩:=c
     refine ⟨.inl ⟨rfl,xs,.of hx⟩,σd,ι',S',he.ext e',s',o'.bind.mono fun ds S2 ι2 H2 _ _ ⟨s2,e2,o2⟩ vs rs=>⟨ι2,S2,.loc l,ds,s2,r0.ext e2,rs,o2⟩⟩
    | dct kvs =>
     have:S'[l]?=some (.dct kvs):=by rw [List.getElem?_eq_getElem hlt,e]
     have hl:(match S'[l]? with|some (.lst _)=>true|_=>false)=true:=hl
     rw [this] at hl; cases hl
    | fdc kvs =>
     have:S'[l]?=some (.fdc kvs):=by rw [List.getElem?_eq_getElem hlt,e]
     have hl:(match S'[l]? with|some (.lst _)=>true|_=>false)=true:=hl
     rw [this] at hl; cases hl
  | _=>exact absurd hl Bool.false_ne_true
end
end EV

namespace EV
open PySem PySem.Spec PyProof.Rows L2
noncomputable def jZ (Γ:Gx) (src:Src) (J:It) (ι0:List Addr) (H0:Hp):Prop:=∀ ι H S,Ext ι0 ι H0 H->ay Γ ι H S->aN src S=.ok () S ->
 (∀ (i:Nat) d,src.its[i]?=some d->J.go i H/\∀ x H',J.yld i H x H'->Ext ι ι H H'/\ay Γ ι H' S/\Rep Γ ι H' d x)/\J.stop src.its.length H
noncomputable def tMI (Γ:Gx) (xw:XW) (m:Sg->M Src):TI:=fun σ H R=>∃ σd ι S,bu Γ ι H σ σd/\ay Γ ι H S/\Out Γ xw ι H (m σd S) fun src _ ι' H'=>∀ J,jZ Γ src J ι' H'->R J H'
theorem kB (src:Src) (S:af):aN src S=.ok () S\/aN src S=.bad:=by
 unfold aN
 cases src.l with
 | none=>exact .inl rfl
 | some l =>
  dsimp only
  cases listAt S l with
  | none=>exact .inr rfl
  | some ds =>
   by_cases h:ds=src.raw
   ·exact .inl (by simp only [h,decide_true]; rfl)
   ·exact .inr (by simp only [h,decide_false]; rfl)
section
variable {X:Cx} {Γ:Gx} {xw:XW} {tg a:Expr} {ma:Sg->M D} {pos:Pos}
theorem PI.imp {iter:Expr} {t t':TI} (h:PI X tg iter t) (f:∀ σ H R,t' σ H R->t σ H R):PI X tg iter t':=fun pins s σ H R I q=>h pins s σ H R I (f σ H R q)
noncomputable def iSq (K:PySem.W.Frag) (tl:TE):TI:=fun σ H R=>tl σ H fun x H1=>∃ a,x=.ref a/\(((∃ xs,SqL K H1 a xs)/\R (Itl K a) H1)\/((∃ xs,SqT K H1 a xs)/\R (Itt K a) H1))
theorem AU {l:Expr} {tl:TE} (hl:PE X l tl):PI X tg l (iSq X.K tl):=by
 intro pins s σ H R I h
 refine thn (hl pins s σ H _ I h) fun v s1 ⟨x,H1,I1,r1,q1⟩=>?_
 obtain ⟨a,e,q1⟩:=q1
 subst e
 cases r1
 rcases q1 with ⟨⟨xs,hq⟩,q⟩|⟨⟨xs,hq⟩,q⟩
 ·have hc:PE X l (fun σ H Q=>True->True->tl σ H Q):=fun pins s σ H Q I h=>hl pins s σ H Q I (h trivial trivial)
  obtain ⟨its,rv,p,hz⟩:=I1.list hq
  refine wpAny_pyIter_list p.isList ?_
  refine ⟨s1.heap.objs.size,[s1.heap.objs.size],_,_,H1,rfl,I1.kept (t':=s1.toks) fun b o e=>Heap.get?_push_of_some _ e,ER a _,⟨_,Heap.get?_push_size _ rfl,rfl,rfl⟩,fun b hb=>?_,q⟩
  have e:b=s1.heap.objs.size:=by simpa using hb
  subst e
  exact I1.gf (Nat.le_refl _) (I1.hok.fresh (Nat.le_refl _))
 ·obtain ⟨its,rv,p,hz⟩:=I1.tuple hq
  refine wpAny_pyIter_tuple (show s1.heap.IsTuple a its.toArray from p) ?_
  refine ⟨s1.heap.objs.size,[s1.heap.objs.size],_,_,H1,rfl,I1.kept (t':=s1.toks) fun b o e=>Heap.get?_push_of_some _ e,xP a _,⟨_,Heap.get?_push_size _ rfl,rfl,rfl⟩,fun b hb=>?_,q⟩
  have e:b=s1.heap.objs.size:=by simpa using hb
  subst e
  exact I1.gf (Nat.le_refl _) (I1.hok.fresh (Nat.le_refl _))
theorem rA {ι:List Addr} {H:Hp} {S:af} {d:D} {v:V} {src:Src} {S':af} (hS:ay Γ ι H S) (r:Rep Γ ι H d v) (h:srcOf d S=.ok src S'):S'=S/\src.its=src.raw/\aN src S=.ok () S/\∃ a tup,v=.ref a/\(∃ xs,SqB Γ.K H tup a xs) /\
  ∀ ι1 H1 S1,Ext ι ι1 H H1->ay Γ ι1 H1 S1->aN src S1=.ok () S1->∃ xs,SqB Γ.K H1 tup a xs/\az Γ ι1 H1 src.raw xs:=by
 cases d with
 | tup ds =>
  cases h
  obtain ⟨a,xs,e,t,p⟩:=r.cg
  exact ⟨rfl,rfl,rfl,a,true,e,⟨xs,t⟩,fun ι1 H1 S1 e1 _ _=>⟨xs,e1.sqT t,az.ext e1 p⟩⟩
 | fro ds =>
  cases h
  obtain ⟨a,xs,e,t,p⟩:=r.fR
  exact ⟨rfl,rfl,rfl,a,false,e,⟨xs,t.sq⟩,fun ι1 H1 S1 e1 _ _=>⟨xs,(e1.fro t).sq,az.ext e1 p⟩⟩
 | loc l =>
  have h:(items (.loc l)>>=fun ds=>pure (⟨ds,some l,ds⟩:Src)) S=.ok src S':=h
  rcases iR (.loc l) S with ⟨ds,e⟩|e
  ·rw [ao e] at h
   cases h
   obtain ⟨_,a,xs,e2,_,p,t⟩:=dW hS r e
   subst e2
   have hl:listAt S l=some ds:=by
    rw [s_] at e
    cases q:listAt S l with
    | none=>rw [q] at e; cases e
    | some es=>rw [q] at e; cases e; rfl
   refine ⟨rfl,rfl,?_,a,false,rfl,⟨xs,t l rfl⟩,fun ι1 H1 S1 e1 s1 st=>?_⟩
   ·unfold aN; simp only [hl,decide_true]; rfl
   ·have hl1:listAt S1 l=some ds:=by
     unfold aN at st
     dsimp only at st
     cases q:listAt S1 l with
     | none=>rw [q] at st; cases st
     | some es =>
      rw [q] at st
      by_cases h:es=ds
      ·rw [h]
      ·simp only [h,decide_false] at st; cases st
    obtain ⟨b,ys,e3,sb,p1⟩:=s1.list (r.ext e1) (show asL S1 (.loc l)=some ds from hl1)
    cases e3
    exact ⟨ys,sb,p1⟩
  ·rw [bz e] at h; cases h
 | _=>cases h
theorem uq (d:D) (S:af):(∃ src,srcOf d S=.ok src S)\/srcOf d S=.bad:=by
 cases d with
 | tup ds=>exact .inl ⟨_,rfl⟩
 | fro ds=>exact .inl ⟨_,rfl⟩
 | loc l =>
  show (∃ src,(items (.loc l)>>=fun ds=>pure (⟨ds,some l,ds⟩:Src)) S=.ok src S)\/(items (.loc l)>>=fun ds=>pure (⟨ds,some l,ds⟩:Src)) S=.bad
  rcases iR (.loc l) S with ⟨ds,e⟩|e
  ·rw [ao e]; exact .inl ⟨_,rfl⟩
  ·rw [bz e]; exact .inr rfl
 | _=>exact .inr rfl
theorem Ac (hK:Γ.K=X.K) (ha:PE X a (tM Γ xw ma)):PI X tg a (tMI Γ xw fun σ=>ma σ>>=srcOf) :=
 PI.imp (AU ha) fun σ H R h=>by
  obtain ⟨σd,ι,S,he,hs,ho⟩:=h
  refine ⟨σd,ι,S,he,hs,ho.bind.mono fun d S' ι' H' _ _ ⟨s',e',o'⟩ v r=>?_⟩
  rcases uq d S' with ⟨src,q⟩|q
  ·rw [q] at o'
   obtain ⟨_,e1,st,a,tup,rfl,⟨xs,sq⟩,hall⟩:=rA s' r q
   refine ⟨a,rfl,?_⟩
   have fin:=o'.here s'
   cases tup with
   | true =>
    refine .inr ⟨⟨xs,by rw [<- hK]; exact sq⟩,fin _ fun ι1 H1 S1 e2 s1 st1=>?_⟩
    obtain ⟨ys,sq1,p1⟩:=hall ι1 H1 S1 e2 s1 st1
    have sq1:SqT X.K H1 a ys:=by rw [<- hK]; exact sq1
    rw [e1]
    refine ⟨fun i d hd=>?_,ys,sq1,by rw [p1.length]; exact Nat.le_refl _⟩
    obtain ⟨y,hy,r1⟩:=Paired.get p1 hd
    exact ⟨⟨ys,y,sq1,hy⟩,fun x H' ⟨e3,hx⟩=>by
     subst e3
     have:=hx ys sq1
     rw [hy] at this; cases this
     exact ⟨.refl,s1,r1⟩⟩
   | false =>
    refine .inl ⟨⟨xs,by rw [<- hK]; exact sq⟩,fin _ fun ι1 H1 S1 e2 s1 st1=>?_⟩
    obtain ⟨ys,sq1,p1⟩:=hall ι1 H1 S1 e2 s1 st1
    have sq1:SqL X.K H1 a ys:=by rw [<- hK]; exact sq1
    rw [e1]
    refine ⟨fun i d hd=>?_,ys,sq1,by rw [p1.length]; exact Nat.le_refl _⟩
    obtain ⟨y,hy,r1⟩:=Paired.get p1 hd
    exact ⟨⟨ys,y,sq1,hy⟩,fun x H' ⟨e3,hx⟩=>by
     subst e3
     have:=hx ys sq1
     rw [hy] at this; cases this
     exact ⟨.refl,s1,r1⟩⟩
  ·rw [q] at o'; exact o'.elim
theorem uH:∀ {ds:List D} {k i:Nat} {d:D},(num k ds)[i]?=some d->∃ e,ds[i]?=some e/\d=.tup [.int ((k+i:Nat):Int),e]
 | [],k,i,d,h=>by simp [num] at h
 | x::r,k,0,d,h=>by simp [num] at h; exact ⟨x,rfl,by rw [<- h]; simp⟩
 | x::r,k,i+1,d,h=>by
  have h:(num (k+1) r)[i]?=some d:=by simpa [num] using h
  obtain ⟨e,h1,h2⟩:=uH h
  exact ⟨e,by simpa using h1,by rw [h2]; congr 3; omega⟩
theorem qO:∀ (ds:List D) (k:Nat),(num k ds).length=ds.length
 | [],_=>rfl
 | _::r,k=>by simp [num,qO r]
theorem xj {p:Pos} {elts:List Expr} {k1:Nat} {tp:Pos} (hK:Γ.K=X.K) (hg:Gl X "enumerate") (hm:X.mg "enumerate" = none) (hv:bootBuiltins "enumerate" = some (.type "enumerate")) (ha:PE X a (tM Γ xw ma)) (hs:starEach [a] X.env=[(false,eval a X.env)]) :
  PI X (.Tuple elts k1 tp) (.Call (.Name "enumerate" p) [a] [] pos) (tMI Γ xw fun σ=>ma σ>>=fun d=>srcOf d>>=fun s=>pure { s with its:=num 0 s.its }) :=
 PI.imp (DC hg hm hv (iG ha jC (by rw [hs]; rfl)) hs) fun σ H R h=>by
  obtain ⟨σd,ι,S,he,hs,ho⟩:=h
  refine ⟨σd,ι,S,he,hs,ho.bind.mono fun d S' ι' H' _ _ ⟨s',e',o'⟩ v r=>?_⟩
  rcases uq d S' with ⟨src,q⟩|q
  ·rw [ao q] at o'
   obtain ⟨_,e1,st,a,tup,rfl,⟨xs,sq⟩,hall⟩:=rA s' r q
   have fin:=o'.here s'
   refine ⟨tup,a,rfl,⟨xs,by rw [<- hK]; exact sq⟩,fin _ fun ι1 H1 S1 e2 s1 st1=>?_⟩
   obtain ⟨ys,sq1,p1⟩:=hall ι1 H1 S1 e2 s1 st1
   have sq1:SqB X.K H1 tup a ys:=by rw [<- hK]; exact sq1
   refine ⟨fun i d hd=>?_,ys,sq1,by show ys.length<=(num 0 src.its).length; rw [qO,e1,p1.length]; exact Nat.le_refl _⟩
   obtain ⟨e,he',rfl⟩:=uH hd
   rw [e1] at he'
   obtain ⟨y,hy,r1⟩:=Paired.get p1 he'
   refine ⟨⟨ys,y,sq1,hy⟩,?_⟩
   rintro x H' ⟨z,p,hz,hp,rfl,rfl⟩
   have hz:=hz ys sq1
   rw [hy] at hz; cases hz
   refine ⟨Ext.laid hp,s1.laid hp _,.rg fH (.cons ?_ (.cons (r1.ext (Ext.laid hp)) .nil))⟩
   rw [Nat.zero_add]; exact .int _
  ·rw [bz q] at o'; exact o'.elim
theorem ve (lo hi:Int):rng lo hi 1=(List.range (hi - lo).toNat).map fun (k:Nat)=>lo+k:=by
 unfold rng
 rw [if_pos (by decide)]
 have:(hi - lo+1 - 1) / 1=hi - lo:=by rw [Int.ediv_one]; omega
 rw [this]
 simp
theorem zq (lo hi:Int):rng lo hi (-1)=(List.range (lo - hi).toNat).map fun (k:Nat)=>lo - k:=by
 unfold rng
 rw [if_neg (by decide),if_pos (by decide)]
 have:(lo - hi - -1 - 1) / -(-1)=lo - hi:=by rw [show (-(-1):Int)=1 from rfl,Int.ediv_one]; omega
 rw [this]
 refine List.map_congr_left fun k _=>?_
 omega
theorem qR {n i k:Nat} (h:(List.range n)[i]?=some k):k=i/\i < n:=by
 obtain ⟨h1,h2⟩:=List.getElem?_eq_some_iff.mp h
 rw [List.getElem_range] at h2
 rw [List.length_range] at h1
 exact ⟨h2.symm,h1⟩
theorem o6 {ι:List Addr} {H:Hp} (lo hi:Int):jZ Γ ⟨(rng lo hi 1).map .int,none,[]⟩ (Itr lo (hi - lo).toNat) ι H:=fun ι1 H1 S1 e s1 st=>by
 rw [ve,List.map_map]
 refine ⟨fun i d hd=>?_,by show (hi - lo).toNat<=_; simp⟩
 have hd:((List.range (hi - lo).toNat).map (D.int ∘ fun (k:Nat)=>lo+k))[i]?=some d:=hd
 rw [List.getElem?_map,Option.map_eq_some_iff] at hd
 obtain ⟨k,hk,rfl⟩:=hd
 obtain ⟨rfl,hlt⟩:=qR hk
 exact ⟨hlt,fun x H' ⟨e1,e2⟩=>by subst e1; subst e2; exact ⟨.refl,s1,.int _⟩⟩
theorem zh {ι:List Addr} {H:Hp} (lo hi:Int):jZ Γ ⟨(rng lo hi (-1)).map .int,none,[]⟩ (mH lo (lo - hi).toNat) ι H:=fun ι1 H1 S1 e s1 st=>by
 rw [zq,List.map_map]
 refine ⟨fun i d hd=>?_,by show (lo - hi).toNat<=_; simp⟩
 have hd:((List.range (lo - hi).toNat).map (D.int ∘ fun (k:Nat)=>lo - k))[i]?=some d:=hd
 rw [List.getElem?_map,Option.map_eq_some_iff] at hd
 obtain ⟨k,hk,rfl⟩:=hd
 obtain ⟨rfl,hlt⟩:=qR hk
 exact ⟨hlt,fun x H' ⟨e1,e2⟩=>by subst e1; subst e2; exact ⟨.refl,s1,.int _⟩⟩
theorem iN {i:Int} (h:near i=true):-(2 ^ 62)<=i/\i < 2 ^ 62:=of_decide_eq_true h
variable {b c:Expr} {m:Sg->M (List D)} {p:Pos}
theorem Out.monoE {α:Type} {r:Res α} {ι:List Addr} {H:Hp} {k k':α->af->List Addr->Hp->Prop} (h:Out Γ xw ι H r k) (f:∀ a S' ι' H',r=.ok a S'->Ext ι ι' H H'->ay Γ ι' H' S'->k a S' ι' H'->k' a S' ι' H'):Out Γ xw ι H r k':=by
 cases r with
 | ok a S'=>exact fun ι' H' e' s'=>f _ _ _ _ rfl e' s' (h ι' H' e' s')
 | exc c S'=>exact h
 | bad=>exact h
theorem xN (hg:Gl X "range") (hm:X.mg "range" = none) (ha:PA X [a] (tMA Γ xw m)) (hs:starEach [a] X.env=[(false,eval a X.env)]) (hlen:∀ σ S ds S',m σ S=.ok ds S'->ds.length=1) :
  PI X tg (.Call (.Name "range" p) [a] [] pos) (tMI Γ xw fun σ=>m σ>>=fun ds=>opt (cS ds)>>=fun is=>pure ⟨is.map .int,none,[]⟩) :=
 PI.imp (zK hg hm ha hs) fun σ H R h=>by
  obtain ⟨σd,ι,S,he,hs,ho⟩:=h
  refine ⟨σd,ι,S,he,hs,Out.monoE ho.bind fun ds S' ι' H' eq _ _ ⟨s',e',o'⟩ vs rs=>?_⟩
  have hl:=hlen _ _ _ _ eq
  obtain ⟨is,q,o'⟩:=Out.opt o'
  have fin:=o'.here s'
  obtain ⟨d,_,_,_,rfl,rfl,r,rs,hl⟩:=Paired.step rs hl
  obtain ⟨rfl,rfl⟩:=Paired.last rs hl
  (
   cases r with
   | int j =>
    simp only [cS] at q
    split at q
    ·rename_i hn
     cases q
     have hn:=iN hn
     refine ⟨j,rfl,hn.1,hn.2,fin _ ?_⟩
     have:=o6 (Γ:=Γ) (ι:=ι') (H:=H') 0 j
     rw [Int.sub_zero] at this
     exact this
    ·cases q
   | _=>cases q)
theorem AN (hg:Gl X "range") (hm:X.mg "range" = none) (ha:PA X [a,b] (tMA Γ xw m)) (hs:starEach [a,b] X.env=[(false,eval a X.env),(false,eval b X.env)]) (hs2:starEach [b] X.env=[(false,eval b X.env)]) (hlen:∀ σ S ds S',m σ S=.ok ds S'->ds.length=2) :
  PI X tg (.Call (.Name "range" p) [a,b] [] pos) (tMI Γ xw fun σ=>m σ>>=fun ds=>opt (cS ds)>>=fun is=>pure ⟨is.map .int,none,[]⟩) :=
 PI.imp (DT hg hm ha hs hs2) fun σ H R h=>by
  obtain ⟨σd,ι,S,he,hs,ho⟩:=h
  refine ⟨σd,ι,S,he,hs,Out.monoE ho.bind fun ds S' ι' H' eq _ _ ⟨s',e',o'⟩ vs rs=>?_⟩
  have hl:=hlen _ _ _ _ eq
  obtain ⟨is,q,o'⟩:=Out.opt o'
  have fin:=o'.here s'
  obtain ⟨d,_,_,_,rfl,rfl,r,rs,hl⟩:=Paired.step rs hl
  obtain ⟨e,_,_,_,rfl,rfl,r2,rs,hl⟩:=Paired.step rs hl
  obtain ⟨rfl,rfl⟩:=Paired.last rs hl
  (
   cases r with
   | int i =>
    cases r2 with
    | int j =>
     simp only [cS] at q
     split at q
     ·rename_i hn
      cases q
      rw [Bool.and_eq_true] at hn
      have h1:=iN hn.1
      have h2:=iN hn.2
      exact ⟨i,j,rfl,⟨h1.1,h1.2,h2.1,h2.2⟩,fin _ (o6 i j)⟩
     ·cases q
    | _=>cases q
   | _=>cases q)
theorem Dg (hg:Gl X "range") (hm:X.mg "range" = none) (ha:PA X [a,b,c] (tMA Γ xw m)) (hs:starEach [a,b,c] X.env=[(false,eval a X.env),(false,eval b X.env),(false,eval c X.env)]) (hs2:starEach [b,c] X.env=[(false,eval b X.env),(false,eval c X.env)]) (hlen:∀ σ S ds S',m σ S=.ok ds S'->ds.length=3) :
  PI X tg (.Call (.Name "range" p) [a,b,c] [] pos) (tMI Γ xw fun σ=>m σ>>=fun ds=>opt (cS ds)>>=fun is=>pure ⟨is.map .int,none,[]⟩) :=
 PI.imp (Dc hg hm ha hs hs2) fun σ H R h=>by
  obtain ⟨σd,ι,S,he,hs,ho⟩:=h
  refine ⟨σd,ι,S,he,hs,Out.monoE ho.bind fun ds S' ι' H' eq _ _ ⟨s',e',o'⟩ vs rs=>?_⟩
  have hl:=hlen _ _ _ _ eq
  obtain ⟨is,q,o'⟩:=Out.opt o'
  have fin:=o'.here s'
  obtain ⟨d,_,_,_,rfl,rfl,r,rs,hl⟩:=Paired.step rs hl
  obtain ⟨e,_,_,_,rfl,rfl,r2,rs,hl⟩:=Paired.step rs hl
  obtain ⟨f,_,_,_,rfl,rfl,r3,rs,hl⟩:=Paired.step rs hl
  obtain ⟨rfl,rfl⟩:=Paired.last rs hl
  (
   cases r with
   | int i =>
    cases r2 with
    | int j =>
     cases r3 with
     | int k =>
      simp only [cS] at q
      split at q
      ·rename_i hn
       cases q
       rw [Bool.and_eq_true,Bool.and_eq_true] at hn
       have h1:=iN hn.1.1
       have h2:=iN hn.1.2
       have h3:k=-1:=of_decide_eq_true hn.2
       subst h3
       exact ⟨i,j,rfl,⟨h1.1,h1.2,h2.1,h2.2⟩,fin _ (zh i j)⟩
      ·cases q
     | _=>cases q
    | _=>cases q
   | _=>cases q)
noncomputable def tMG (Γ:Gx) (t:Tg):TG:=fun v σ H Q=>∃ σd ι S d σd',bu Γ ι H σ σd/\ay Γ ι H S/\Rep Γ ι H d v/\aV t d σd S=.ok σd' S/\∀ σ',bu Γ ι H σ' σd'->(∀ j,t.has j=false->σ'[j]?=σ[j]?)->Q σ' H
theorem PG.imp {target:Expr} {t t':TG} (h:PG X target t) (f:∀ v σ H Q,t' v σ H Q->t v σ H Q):PG X target t':=fun pins s σ H v u Q I r q=>h pins s σ H v u Q I r (f v σ H Q q)
theorem B3 {i:Nat} {x:Str} (hN:X.N.Nodup) (hi:X.N[i]?=some x) (hx:Loc X.env.scope x) (hf:X.fn x=true\/X.env.scope.names.lookup x=some .local):PG X (.Name x pos) (tMG Γ (.one i)) :=
 PG.imp (tF hN hi hx hf) fun v σ H Q h=>by
  obtain ⟨σd,ι,S,d,σd',he,hs,r,hb,q⟩:=h
  cases hb
  exact q _ (he.set i r) fun j hj=>by rw [List.getElem?_set_ne (by intro z; subst z; simp [Tg.has] at hj)]
noncomputable def nS:List Nat->TGs
 | []=>qD
 | i::r=>pI (iL i) (nS r)
noncomputable def kM (X:Cx):List Expr->List Nat->Prop:=Paired fun e i=>∃ x p,e=.Name x p/\X.N[i]?=some x/\Loc X.env.scope x/\(X.fn x=true\/X.env.scope.names.lookup x=some .local)
theorem qp (hN:X.N.Nodup):∀ {es:List Expr} {is:List Nat},kM X es is->PGs X es (nS is)
 | _,_,.nil=>Dn
 | _,_,.cons ⟨x,p,e,h1,h2,h3⟩ r=>by
  subst e
  exact GC (tF hN h1 h2 h3) (qp hN r) rfl
theorem nq:∀ {es:List Expr} {is:List Nat},kM X es is->(assignEach es X.env).length=is.length/\(assignEach es X.env).findIdx? (·.1)=none
 | _,_,.nil=>⟨rfl,rfl⟩
 | _,_,.cons ⟨x,p,e,h1,h2,h3⟩ r=>by
  subst e
  obtain ⟨a,b⟩:=nq r
  refine ⟨congrArg (· + 1) a,?_⟩
  show List.findIdx? (·.1) ((false,_)::assignEach _ X.env)=none
  rw [List.findIdx?_cons]
  simp only [Bool.false_eq_true,if_false]
  rw [b]; rfl
theorem rz {ι:List Addr} {H:Hp} {Q:L2.St->Hp->Prop}:∀ {is:List Nat} {ds:List D} {xs:List V} {σ:L2.St} {σd:Sg},ds.length=is.length->az Γ ι H ds xs->bu Γ ι H σ σd->(∀ σ',bu Γ ι H σ' (cA is ds σd)->(∀ j,is.contains j=false->σ'[j]?=σ[j]?)->Q σ' H)->nS is xs σ H Q
 | [],[],_,σ,σd,_,.nil,he,q=>⟨rfl,q _ he fun _ _=>rfl⟩
 | i::is,d::ds,_,σ,σd,hl,.cons (b:=v) r rr,he,q=>⟨v,_,rfl,rz (by simpa using hl) rr (he.set i r) fun σ' h' hl'=>q σ' h' fun j hj=>by
   rw [List.contains_cons,Bool.or_eq_false_iff] at hj
   rw [hl' j hj.2,List.getElem?_set_ne (by intro z; subst z; simp at hj)]⟩
 | [],_::_,_,_,_,hl,_,_,_=>by simp at hl
 | _::_,[],_,_,_,hl,_,_,_=>by simp at hl
theorem E5 {es:List Expr} {is:List Nat} {k:Nat} (hK:Γ.K=X.K) (hc:X.calm=true) (hN:X.N.Nodup) (hn:kM X es is):PG X (.Tuple es k pos) (tMG Γ (.many is)) :=
 PG.imp (Ar hc (qp hN hn) (nq hn).1 (nq hn).2) fun v σ H Q h=>by
  obtain ⟨σd,ι,S,d,σd',he,hs,r,hb,q⟩:=h
  cases d with
  | tup ds =>
   obtain ⟨a,xs,rfl,t,p⟩:=r.cg
   have hb:guard (decide (ds.length=is.length)) (pure (cA is ds σd):M Sg) S=.ok σd' S:=hb
   by_cases hl:ds.length=is.length
   ·rw [show decide (ds.length=is.length)=true from decide_eq_true hl] at hb
    cases hb
    exact ⟨a,xs,rfl,by rw [<- hK]; exact t,by rw [<- p.length]; exact hl,rz hl p he q⟩
   ·rw [show decide (ds.length=is.length)=false from decide_eq_false hl] at hb
    cases hb
  | _=>cases hb
theorem ny (t:Tg) (d:D) (σ:Sg) (S:af):(∃ σ',aV t d σ S=.ok σ' S/\σ'.length=σ.length)\/aV t d σ S=.bad:=by
 have hlen:∀ (is:List Nat) (ds:List D) (σ:Sg),(cA is ds σ).length=σ.length:=by
  intro is
  induction is with
  | nil=>intro ds σ; cases ds <;> rfl
  | cons i r ih=>intro ds σ; cases ds with
   | nil=>rfl
   | cons d ds=>show (cA r ds (σ.set i (some d))).length=_; rw [ih,List.length_set]
 cases t with
 | one i=>exact .inl ⟨_,rfl,by rw [List.length_set]⟩
 | many is =>
  cases d with
  | tup ds =>
   show (∃ σ',guard (decide (ds.length=is.length)) (pure (cA is ds σ):M Sg) S=.ok σ' S/\_)\/guard (decide (ds.length=is.length)) (pure (cA is ds σ):M Sg) S=.bad
   by_cases hl:ds.length=is.length
   ·rw [show decide (ds.length=is.length)=true from decide_eq_true hl]
    exact .inl ⟨_,rfl,hlen _ _ _⟩
   ·rw [show decide (ds.length=is.length)=false from decide_eq_false hl]
    exact .inr rfl
  | _=>exact .inr rfl
theorem Out.aV {α:Type} {t:Tg} {d:D} {σd:Sg} {ι:List Addr} {H:Hp} {S:af} {f:Sg->M α} {k:α->af->List Addr->Hp->Prop} (ho:Out Γ xw ι H ((EV.aV t d σd>>=f) S) k):∃ σd',EV.aV t d σd S=.ok σd' S/\σd'.length=σd.length/\Out Γ xw ι H (f σd' S) k:=by
 rcases ny t d σd S with ⟨σ',e,l⟩|e
 ·rw [ao e] at ho; exact ⟨σ',e,l,ho⟩
 ·rw [bz e] at ho; exact ho.elim
end
end EV

namespace EV
open PySem PySem.Spec PyProof.Rows L2
noncomputable def XF:XW:=fun _ _ _ _=>False
section
variable {Γ:Gx} {xw:XW} {ι ι':List Addr} {H H':Hp} {S:af} {σ:L2.St}
theorem ay.take (hS:ay Γ ι H S) {l:Addr} {xs:List V} {ds:List D} (hn:l ∉ ι) (h:H l=some (.lst xs)) (r:az Γ ι H ds xs):ay Γ (ι++[l]) H (S++[.lst ds]):=by
 have mv:∀ {d:D} {v:V},Rep Γ ι H d v->Rep Γ (ι++[l]) H d v:=fun r=>r.move (List.prefix_append _ _) (fun _ _ e=>e) fun _ _ _ e=>e
 refine ⟨by simp [hS.len],List.nodup_append.mpr ⟨hS.nd,by simp,?_⟩,fun m c hm=>?_⟩
 ·intro a ha b hb
  have:b=l:=by simpa using hb
  subst this
  exact fun z=>hn (z ▸ ha)
 ·by_cases hl:m < S.length
  ·rw [List.getElem?_append_left hl] at hm
   obtain ⟨a,ha,c1⟩:=hS.cell m c hm
   refine ⟨a,h_ (List.prefix_append _ _) ha,?_⟩
   cases c with
   | lst zs=>obtain ⟨ws,hw,rw'⟩:=c1; exact ⟨ws,hw,Paired.imp (fun _ _ r=>mv r) rw'⟩
   | dct kvs=>obtain ⟨ws,hw,rw'⟩:=c1; exact ⟨ws,hw,Paired.imp (fun _ _ q=>⟨q.1,mv q.2⟩) rw'⟩
   | fdc kvs=>obtain ⟨ws,hw,rw'⟩:=c1; exact ⟨ws,hw,Paired.imp (fun _ _ q=>⟨q.1,mv q.2⟩) rw'⟩
  ·rw [List.getElem?_append_right (by omega)] at hm
   have hl2:m - S.length=0:=by
    have:=(List.getElem?_eq_some_iff.mp hm).1
    simp at this; omega
   rw [hl2] at hm
   have h':(Cell.lst ds)=c:=by simpa using hm
   subst h'
   have e1:m=ι.length:=by rw [hS.len]; omega
   subst e1
   exact ⟨l,by simp,xs,h,Paired.imp (fun _ _ r=>mv r) r⟩
theorem Ext.past (e:Ext ι ι' H H') {l:Addr} {ys:List V} (hl:H l=none):Ext ι ι' H (upd H' l (.lst ys)) :=
 ⟨e.pre,fun a xs h=>by rw [aK (bT h hl)]; exact e.tup a xs h,fun a o u h=>by rw [aK (bT h hl)]; exact e.frz a o u h,fun a o h n=>by rw [aK (bT h hl)]; exact e.oth a o h n,e.fresh⟩
theorem Ext.d9 (e:Ext ι ι' H H') {l:Addr} {o:HO} (h:H l=some o) (hn:l ∉ ι):H' l=some o/\l ∉ ι':=⟨e.oth l o h hn,fun m=>by have:=e.fresh l m hn; rw [h] at this; cases this⟩
theorem zw {src:Src} {f:D->M (Option D)} {post:List D} {S2:af} (h:bN src f [] S=.ok post S2):aN src S=.ok () S/\post=[]/\S2=S:=by
 have h:(aN src>>=fun _=>pure []) S=.ok post S2:=h
 rcases kB src S with e|e
 ·rw [ao e] at h; cases h; exact ⟨e,rfl,rfl⟩
 ·rw [bz e] at h; cases h
theorem FQ {src:Src} {f:D->M (Option D)} {d:D} {rest post:List D} {S2:af} (h:bN src f (d::rest) S=.ok post S2) :
  aN src S=.ok () S/\∃ y S3 post',f d S=.ok y S3/\bN src f rest S3=.ok post' S2/\post=(match y with|some y=>y::post'|none=>post'):=by
 have h:(aN src>>=fun _=>f d>>=fun y=>bN src f rest>>=fun ys=>pure (match y with|some y=>y::ys|none=>ys)) S=.ok post S2:=h
 rcases kB src S with e|e
 ·rw [ao e] at h
  cases q:f d S with
  | bad=>rw [bz q] at h; cases h
  | exc c S3=>rw [dS q] at h; cases h
  | ok y S3 =>
   rw [ao q] at h
   cases q2:bN src f rest S3 with
   | bad=>rw [bz q2] at h; cases h
   | exc c S4=>rw [dS q2] at h; cases h
   | ok ys S4=>rw [ao q2] at h; cases h; exact ⟨e,y,S3,ys,rfl,q2,rfl⟩
 ·rw [bz e] at h; cases h
end
section
variable {X:Cx} {Γ:Gx} {xw:XW} {scope:Scope} {N':List Str} {k:Nat} {elt iter tg:Expr} {ifs:List Expr} {pos:Pos} {mi:Sg->M Src} {t:Tg} {nt:Sg->M Bool} {me:Sg->M D}
noncomputable def jT (k:Nat) (mi:Sg->M Src) (t:Tg) (nt:Sg->M Bool) (me:Sg->M D):Sg->M D:=fun σ=>mi σ>>=fun s =>
 quiet (bN s (fun d=>aV t d (σ++List.replicate k none)>>=fun σ'=>nt σ'>>=fun b=>if b=true then me σ'>>=fun y=>pure (some y) else pure none) s.its)>>=fun ys=>guard (fits ys.length) (alloc (.lst ys))
theorem sA (hslot:∀ j,j < X.N.length->t.has j=false) {σ:L2.St} (hσ:σ.length=X.N.length) {H:Hp} {Q:VK} (h:tM Γ xw (jT k mi t nt me) σ H Q):nk k (tMI Γ xw mi) (tMG Γ t) (tMT Γ XF nt) (tM Γ XF me) σ H Q:=by
 obtain ⟨σd,ι,S,hE,hS,ho⟩:=h
 refine ⟨σd,ι,S,hE,hS,ho.bind.mono fun src S1 ι1 H1 _ _ ⟨s1,e1,o1⟩ J hJ l hl=>?_⟩
 generalize hf:(fun d=>aV t d (σd++List.replicate k none)>>=fun σ'=>nt σ'>>=fun b=>if b=true then me σ'>>=fun y=>pure (some y) else pure none)=f at o1
 cases q:bN src f src.its S1 with
 | bad=>rw [bz (show quiet (bN src f src.its) S1=.bad by unfold quiet; rw [q])] at o1; exact o1.elim
 | exc c S2=>rw [bz (show quiet (bN src f src.its) S1=.bad by unfold quiet; rw [q])] at o1; exact o1.elim
 | ok ys S2 =>
  rw [ao (show quiet (bN src f src.its) S1=.ok ys S2 by unfold quiet; rw [q])] at o1
  obtain ⟨hz,o1⟩:=Out.guard o1
  have hz:=gm hz
  refine ⟨fun i m H=>∃ ι' S' pre post xs,i<=src.its.length/\m=src.its.length - i/\Ext ι1 ι' H1 H/\ay Γ ι' H S'/\l ∉ ι'/\H l=some (.lst xs)/\az Γ ι' H pre xs/\bN src f (src.its.drop i) S'=.ok post S2/\ys=pre++post/\bu Γ ι' H σ σd,
   ⟨src.its.length,ι1,S1,[],ys,[],Nat.zero_le _,rfl,Ext.laid hl,s1.laid hl _,s1.new hl,fH,.nil,q,rfl,(hE.ext e1).ext (Ext.laid hl)⟩,?_⟩
  rintro i m H ⟨ι',S',pre,post,xs,hi,rfl,eH,sH,ln,hH,rp,hc,hys,eE⟩
  by_cases hlt:i < src.its.length
  ·rw [List.drop_eq_getElem_cons hlt] at hc
   obtain ⟨st,y,S3,post',hfd,hc',hpost⟩:=FQ hc
   obtain ⟨jgo,jyld⟩:=(hJ ι' H S' eH sH st).1 i src.its[i] (List.getElem?_eq_getElem hlt)
   refine .inr ⟨jgo,fun x H' yl=>?_⟩
   obtain ⟨eX,sX,rX⟩:=jyld x H' yl
   obtain ⟨hH',_⟩:=eX.d9 hH ln
   rw [<- hf] at hfd
   have hfd:(aV t src.its[i] (σd++List.replicate k none)>>=fun σ'=>nt σ'>>=fun b=>if b=true then me σ'>>=fun y=>pure (some y) else pure none) S'=.ok y S3:=hfd
   obtain ⟨σd',hb⟩:∃ σd',aV t src.its[i] (σd++List.replicate k none) S'=.ok σd' S':=by
    rcases ny t src.its[i] (σd++List.replicate k none) S' with ⟨σd',hb,_⟩|hb
    ·exact ⟨σd',hb⟩
    ·rw [bz hb] at hfd; cases hfd
   rw [ao hb] at hfd
   refine ⟨σd++List.replicate k none,ι',S',src.its[i],σd',(eE.ext eX).more k,sX,rX,hb,fun σ' hE' hK=>⟨fun j v hj=>?_,?_⟩⟩
   ·rw [hK j (hslot j ?_)]; exact hj
    by_cases hjl:j < σ.length
    ·omega
    ·rw [List.getElem?_append_right (by omega),List.getElem?_replicate] at hj
     split at hj <;> cases hj
   ·cases qn:nt σd' S' with
    | bad=>rw [bz qn] at hfd; cases hfd
    | exc c S4=>rw [dS qn] at hfd; cases hfd
    | ok b S4 =>
     rw [ao qn] at hfd
     refine ⟨σd',ι',S',hE',sX,?_⟩
     rw [qn]
     intro ι3 H3 e3 s3
     obtain ⟨hH3,ln3⟩:=e3.d9 hH' ln
     have eA:Ext ι1 ι3 H1 H3:=(eH.trans eX).trans e3
     cases b with
     | false =>
      rw [if_neg Bool.false_ne_true] at hfd ⊢
      cases hfd
      exact ⟨src.its.length - (i+1),by omega,ι3,_,pre,post',xs,hlt,rfl,eA,s3,ln3,hH3,az.ext e3 (az.ext eX rp),hc',by rw [hys,hpost],(eE.ext eX).ext e3⟩
     | true =>
      rw [if_pos rfl] at hfd ⊢
      refine ⟨σd',ι3,S4,hE'.ext e3,s3,?_⟩
      cases qe:me σd' S4 with
      | bad=>rw [bz qe] at hfd; cases hfd
      | exc c S5=>rw [dS qe] at hfd; cases hfd
      | ok yd S5 =>
       rw [ao qe] at hfd
       cases hfd
       intro ι4 H4 e4 s4 v rv
       obtain ⟨hH4,ln4⟩:=e4.d9 hH3 ln3
       have rp4:az Γ ι4 H4 pre xs:=az.ext e4 (az.ext e3 (az.ext eX rp))
       refine ⟨xs,hH4,?_,src.its.length - (i+1),by omega,ι4,_,pre++[yd],post',xs++[v],hlt,rfl,(eA.trans e4).past hl,s4.other hH4 ln4,ln4,fH,az.write hH4 (Paired.app rp4 (.cons rv .nil)),hc',by rw [hys,hpost]; simp,(((eE.ext eX).ext e3).ext e4).write hH4⟩
       have:=rp4.length
       rw [hys,hpost,List.length_append,List.length_cons] at hz
       omega
  ·have ei:i=src.its.length:=by omega
   subst ei
   rw [List.drop_length] at hc
   obtain ⟨st,rfl,rfl⟩:=zw hc
   refine .inl ⟨(hJ ι' H S2 eH sH st).2,?_⟩
   rw [List.append_nil] at hys
   subst hys
   refine o1 (ι'++[l]) H ⟨eH.pre.trans (List.prefix_append _ _),eH.tup,eH.frz,eH.oth,fun a ha hn=>?_⟩ (sH.take ln hH rp) _ (.loc (by rw [<- sH.len]; simp))
   rcases List.mem_append.mp ha with z|z
   ·exact eH.fresh a z hn
   ·have:a=l:=by simpa using z
    rw [this]; exact hl
theorem zV (C:fQ X scope N' k) (hc:X.calm=true) (hslot:∀ j,j < X.N.length->t.has j=false) (hi:PI X tg iter (tMI Γ xw mi)) (hg:∀ cl fp s3 H3,PG (aU X scope cl N' fp s3 H3) tg (tMG Γ t)) (htt:∀ cl fp s3 H3,PF (aU X scope cl N' fp s3 H3) ifs (tMT Γ XF nt)) (hte:∀ cl fp s3 H3,PE (aU X scope cl N' fp s3 H3) elt (tM Γ XF me))
  (hs:∀ x,foldedSetIterable iter X.env x=pure x):PE X (.ListComp elt [⟨tg,iter,ifs,0⟩] scope pos) (tM Γ xw (jT k mi t nt me)):=by
 intro pins s σ H Q I h
 exact wK C hc hi hg htt hte hs pins s σ H Q I (sA hslot I.len h)
noncomputable def FlK (Γ:Gx) (D:Ends):Fl->af->List Addr->Hp->Prop
 | .nx σ',_,ι',H'=>∀ σv,bu Γ ι' H' σv σ'->D.nx σv H'
 | .rt d,_,ι',H'=>∀ v,Rep Γ ι' H' d v->D.rt v H'
 | .bk σ',_,ι',H'=>∀ σv,bu Γ ι' H' σv σ'->D.bk σv H'
 | .ct σ',_,ι',H'=>∀ σv,bu Γ ι' H' σv σ'->D.ct σv H'
noncomputable def tMS (Γ:Gx) (xw:XW) (m:Sg->M Fl):TS:=fun D σ H=>∃ σd ι S,bu Γ ι H σ σd/\ay Γ ι H S/\Out Γ xw ι H (m σd S) (FlK Γ D)
variable {e:Expr} {ma:Sg->M D} {na:Sg->M Bool} {ms ms2:Sg->M Fl} {st:Stmt} {sts sts2:List Stmt}
theorem vD (he:PE X e (tM Γ xw ma)):PS X (.Return (some e) pos) (tMS Γ xw fun σ=>ma σ>>=fun d=>pure (.rt d)) :=
 PS.imp (FZ he) fun D σ H h=>by
  obtain ⟨σd,ι,S,hE,hs,ho⟩:=h
  exact ⟨σd,ι,S,hE,hs,ho.bind.mono fun d S' ι' H' _ _ ⟨s',e',o'⟩ v r=>o'.here s' v r⟩
theorem xY:PS X (.Return none pos) (tMS Γ xw fun _=>pure (.rt .non)) :=
 PS.imp xu fun D σ H h=>by
  obtain ⟨σd,ι,S,hE,hs,ho⟩:=h
  exact ho.here hs _ .non
theorem B0 (he:PE X e (tM Γ xw ma)) (hs:swapsWith e none pos.line X.env=pure false):PS X (.Expr e pos) (tMS Γ xw fun σ=>ma σ>>=fun _=>pure (.nx σ)) :=
 PS.imp (yH he hs) fun D σ H h=>by
  obtain ⟨σd,ι,S,hE,hs,ho⟩:=h
  exact ⟨σd,ι,S,hE,hs,ho.bind.mono fun d S' ι' H' _ _ ⟨s',e',o'⟩ v r=>o'.here s' _ (hE.ext e')⟩
theorem GB:PS X (.Pass pos) (tMS Γ xw fun σ=>pure (.nx σ)) :=
 PS.imp Ep fun D σ H h=>by
  obtain ⟨σd,ι,S,hE,hs,ho⟩:=h
  exact ho.here hs _ hE
theorem Az {x j p2}:PS X (.Expr (.Constant (.str x) j p2) pos) (tMS Γ xw fun σ=>pure (.nx σ)) :=
 PS.imp yZ fun D σ H h=>by
  obtain ⟨σd,ι,S,hE,hs,ho⟩:=h
  exact ho.here hs _ hE
theorem BX {D:Ends} {σ:L2.St} {H:Hp} (h:tMS Γ xw (fun σ=>ma σ>>=fun d=>aV t d σ>>=fun σ'=>pure (.nx σ')) D σ H):oF (tM Γ xw ma) (tMG Γ t) D σ H:=by
 obtain ⟨σd,ι,S,hE,hs,ho⟩:=h
 refine ⟨σd,ι,S,hE,hs,ho.bind.mono fun d S' ι' H' _ _ ⟨s',e',o'⟩ v r=>?_⟩
 obtain ⟨σd',hb,_,o'⟩:=Out.aV o'
 exact ⟨σd,ι',S',d,σd',hE.ext e',s',r,hb,fun σ' hE' _=>o'.here s' _ hE'⟩
theorem l9 (he:PE X e (tM Γ xw ma)) (hg:PG X tg (tMG Γ t)) (hs:swapsWithSole [tg] e pos.line X.env=pure false) (hw:swappedStores [tg] e X.env=pure none) (h1:(assignEach [tg] X.env).map (·.2)=[assign tg X.env]) :
  PS X (.Assign [tg] e pos) (tMS Γ xw fun σ=>ma σ>>=fun d=>aV t d σ>>=fun σ'=>pure (.nx σ')):=PS.imp (AL he hg hs hw h1) fun D σ H h=>BX h
theorem Bg {j:Nat} {y:Str} {py spos:Pos} (C:fQ X scope N' k) (hc:X.calm=true) (hslot:∀ j,j < X.N.length->t.has j=false) (hi:PI X tg iter (tMI Γ xw mi)) (hg:∀ cl fp s3 H3,PG (aU X scope cl N' fp s3 H3) tg (tMG Γ t)) (htt:∀ cl fp s3 H3,PF (aU X scope cl N' fp s3 H3) ifs (tMT Γ XF nt)) (hte:∀ cl fp s3 H3,PE (aU X scope cl N' fp s3 H3) elt (tM Γ XF me))
  (hN:X.N.Nodup) (hj:X.N[j]?=some y) (hy:X.env.scope.names.lookup y=some .local) (hsw:swapsWith (.ListComp elt [⟨tg,iter,ifs,0⟩] scope pos) (some (.Name y py)) spos.line X.env=pure true) (hs:∀ x,foldedSetIterable iter X.env x=pure x) :
  PS X (.Assign [.Name y py] (.ListComp elt [⟨tg,iter,ifs,0⟩] scope pos) spos) (tMS Γ xw fun σ=>jT k mi t nt me σ>>=fun d=>aV (.one j) d σ>>=fun σ'=>pure (.nx σ')):=by
 intro pins s σ H D I h
 refine yW C hc hi hg htt hte hN hj hy hsw hs pins s σ H D I ?_
 have h1:tM Γ xw (jT k mi t nt me) σ H (fun x H1=>iL j x σ H1 D.nx):=by
  obtain ⟨σd,ι,S,hE,hS,ho⟩:=h
  refine ⟨σd,ι,S,hE,hS,ho.bind.mono fun d S' ι' H' _ _ ⟨s',e',o'⟩ v r=>?_⟩
  exact o'.here s' _ ((hE.ext e').set j r)
 exact sA hslot I.len h1
theorem Gk {c:Expr} (hc:PT X c (tMT Γ xw na)) (ha:PSs X sts (tMS Γ xw ms)) (hb:PSs X sts2 (tMS Γ xw ms2)):PS X (.If c sts sts2 pos) (tMS Γ xw fun σ=>na σ>>=fun k=>if k=true then ms σ else ms2 σ) :=
 PS.imp (E7 hc ha hb) fun D σ H h=>by
  obtain ⟨σd,ι,S,hE,hs,ho⟩:=h
  refine ⟨σd,ι,S,hE,hs,ho.bind.mono fun k S' ι' H' _ _ ⟨s',e',o'⟩=>?_⟩
  cases k with
  | true=>rw [if_pos rfl]; exact ⟨σd,ι',S',hE.ext e',s',o'⟩
  | false=>rw [if_neg Bool.false_ne_true]; exact ⟨σd,ι',S',hE.ext e',s',o'⟩
theorem D_:PSs X [] (tMS Γ xw fun σ=>pure (.nx σ)) :=
 PSs.imp Gb fun D σ H h=>by
  obtain ⟨σd,ι,S,hE,hs,ho⟩:=h
  exact ho.here hs _ hE
theorem wY (h1:PS X st (tMS Γ xw ms)):PSs X [st] (tMS Γ xw ms):=A6 h1
theorem Dv (h1:PS X st (tMS Γ xw ms)) (h2:PSs X sts (tMS Γ xw ms2)):PSs X (st::sts) (tMS Γ xw fun σ=>ms σ>>=fun f=>match f with|.nx σ'=>ms2 σ'|f=>pure f) :=
 PSs.imp (F_ h1 h2) fun D σ H h=>by
  obtain ⟨σd,ι,S,hE,hs,ho⟩:=h
  refine ⟨σd,ι,S,hE,hs,ho.bind.mono fun f S' ι' H' _ _ ⟨s',e',o'⟩=>?_⟩
  cases f with
  | nx σ'=>exact fun σv hv=>⟨σ',ι',S',hv,s',o'⟩
  | rt d=>exact fun v r=>o'.here s' v r
  | bk σ'=>exact fun σv hv=>o'.here s' σv hv
  | ct σ'=>exact fun σv hv=>o'.here s' σv hv
end
end EV

namespace EV
open PySem PySem.Spec PyProof.Rows L2
section
variable {X:Cx} {Γ:Gx} {xw:XW} {iter tg c:Expr} {pos:Pos} {mi:Sg->M Src} {t:Tg} {mb:Sg->M Fl} {na:Sg->M Bool} {body:List Stmt}
theorem PS.nox {st:Stmt} {t:TS} (h:PS X.nox st t):PS X st t:=fun pins s σ H D I hw =>
 wpAny_mono (h pins s σ H D (I.cV _) hw) (fun f s' q=>q.cM) fun _ _ e=>e.elim
theorem wB {D:Ends} {σ:L2.St} {H:Hp} (h:tMS Γ XF (fun σ=>mi σ>>=fun s=>forL s (fun d σ=>aV t d σ>>=fun σ'=>mb σ') s.its σ) D σ H):t_ (tMI Γ XF mi) (tMG Γ t) (tMS Γ XF mb) D σ H:=by
 obtain ⟨σd,ι,S,hE,hS,ho⟩:=h
 refine ⟨σd,ι,S,hE,hS,ho.bind.mono fun src S1 ι1 H1 _ _ ⟨s1,e1,o1⟩ J hJ=>?_⟩
 generalize hf:(fun d σ=>aV t d σ>>=fun σ'=>mb σ')=f at o1
 generalize hR:forL src f src.its σd S1=R0 at o1
 refine ⟨fun i m σ H=>∃ ι' S' σd',i<=src.its.length/\m=src.its.length - i/\Ext ι1 ι' H1 H/\ay Γ ι' H S'/\bu Γ ι' H σ σd'/\forL src f (src.its.drop i) σd' S'=R0,
  ⟨src.its.length,ι1,S1,σd,Nat.zero_le _,rfl,.refl,s1,hE.ext e1,hR⟩,?_⟩
 rintro i m σ H ⟨ι',S',σd',hi,rfl,eH,sH,eE,hc⟩
 by_cases hlt:i < src.its.length
 ·rw [List.drop_eq_getElem_cons hlt] at hc
  have hc:(aN src>>=fun _=>f src.its[i] σd'>>=fun fl=>match fl with|.nx σ'=>forL src f (src.its.drop (i+1)) σ'|.ct σ'=>forL src f (src.its.drop (i+1)) σ'|.bk σ'=>pure (.nx σ')|.rt d=>pure (.rt d)) S'=R0:=hc
  rcases kB src S' with st|st
  ·rw [ao st] at hc
   obtain ⟨jgo,jyld⟩:=(hJ ι' H S' eH sH st).1 i src.its[i] (List.getElem?_eq_getElem hlt)
   refine .inr ⟨jgo,fun σ' H'=>∃ m',m' < src.its.length - i/\∃ ι' S' σd',i+1<=src.its.length/\m'=src.its.length - (i+1)/\Ext ι1 ι' H1 H'/\ay Γ ι' H' S'/\bu Γ ι' H' σ' σd'/\forL src f (src.its.drop (i+1)) σd' S'=R0,fun σ' H' h=>h,fun x H' yl=>?_⟩
   obtain ⟨eX,sX,rX⟩:=jyld x H' yl
   have hfd:f src.its[i] σd' S'=(aV t src.its[i] σd'>>=fun σ'=>mb σ') S':=by rw [<- hf]
   rcases ny t src.its[i] σd' S' with ⟨σd2,hb,_⟩|hb
   ·rw [ao hb] at hfd
    refine ⟨σd',ι',S',src.its[i],σd2,eE.ext eX,sX,rX,hb,fun σ2 hE2 _=>⟨σd2,ι',S',hE2,sX,?_⟩⟩
    have eA:=eH.trans eX
    cases qb:mb σd2 S' with
    | bad=>rw [qb] at hfd; rw [bz hfd] at hc; rw [<- hc] at o1; exact o1.elim
    | exc c S3=>rw [qb] at hfd; rw [dS hfd] at hc; rw [<- hc] at o1; exact fun ι3 H3 e3 s3=>o1 ι3 H3 (eA.trans e3) s3
    | ok fl S3 =>
     rw [qb] at hfd
     rw [ao hfd] at hc
     intro ι3 H3 e3 s3
     cases fl with
     | nx σ'=>exact fun σv hv=>⟨src.its.length - (i+1),by omega,ι3,S3,σ',hlt,rfl,eA.trans e3,s3,hv,hc⟩
     | ct σ'=>exact fun σv hv=>⟨src.its.length - (i+1),by omega,ι3,S3,σ',hlt,rfl,eA.trans e3,s3,hv,hc⟩
     | bk σ'=>rw [<- hc] at o1; exact fun σv hv=>o1 ι3 H3 (eA.trans e3) s3 σv hv
     | rt d=>rw [<- hc] at o1; exact fun v r=>o1 ι3 H3 (eA.trans e3) s3 v r
   ·rw [bz hb] at hfd; rw [bz hfd] at hc; rw [<- hc] at o1; exact o1.elim
  ·rw [bz st] at hc; rw [<- hc] at o1; exact o1.elim
 ·have ei:i=src.its.length:=by omega
  subst ei
  rw [List.drop_length] at hc
  have hc:(aN src>>=fun _=>pure (.nx σd')) S'=R0:=hc
  rcases kB src S' with st|st
  ·rw [ao st] at hc
   rw [<- hc] at o1
   exact .inl ⟨(hJ ι' H S' eH sH st).2,o1 ι' H eH sH σ eE⟩
  ·rw [bz st] at hc; rw [<- hc] at o1; exact o1.elim
theorem zT (hcalm:X.calm=true) (hi:PI X.nox tg iter (tMI Γ XF mi)) (hg:PG X.nox tg (tMG Γ t)) (hb:PSs X.nox body (tMS Γ XF mb)) (hs:∀ x,foldedSetIterable iter X.env x=pure x) :
  PS X (.For tg iter body [] pos) (tMS Γ xw fun σ=>quiet (mi σ>>=fun s=>forL s (fun d σ=>aV t d σ>>=fun σ'=>mb σ') s.its σ)) :=
 PS.nox (PS.imp (Cr (X:=X.nox) PassesOwn.never hcalm hi hg hb hs) fun D σ H h=>by
  obtain ⟨σd,ι,S,hE,hS,ho⟩:=h
  exact wB ⟨σd,ι,S,hE,hS,Out.quiet ho XF⟩)
end
section
variable {Γ:Gx} {ι ι':List Addr} {H H':Hp} {S S':af}
theorem gu:∀ {ds:List D} {n:Nat},D.lows n ds=true ↔ ∀ (i:Nat) d,ds[i]?=some d->d.low n=true
 | [],n=>⟨fun _ i d h=>by simp at h,fun _=>rfl⟩
 | d::r,n=>by
  simp only [D.lows,Bool.and_eq_true]
  constructor
  ·rintro ⟨h1,h2⟩ i e h
   cases i with
   | zero=>simp at h; subst h; exact h1
   | succ i=>exact gu.mp h2 i e (by simpa using h)
  ·intro h
   exact ⟨h 0 d rfl,gu.mpr fun i e q=>h (i+1) e (by simpa using q)⟩
theorem Rep.low {d:D} {v:V} (r:Rep Γ ι H d v):d.low ι.length=true:=by
 induction r with
 | tup h1 h2 h3 h4 ih =>
  show D.lows _ _=true
  refine gu.mpr fun i d e=>?_
  have hi:i < _:=(List.getElem?_eq_some_iff.mp e).1
  exact ih i d _ e (List.getElem?_eq_getElem (by omega))
 | fro h1 h2 h3 ih =>
  show D.lows _ _=true
  refine gu.mpr fun i d e=>?_
  have hi:i < _:=(List.getElem?_eq_some_iff.mp e).1
  exact ih i d _ e (List.getElem?_eq_getElem (by omega))
 | loc h=>exact decide_eq_true (List.getElem?_eq_some_iff.mp h).1
 | _=>rfl
theorem Rep.cut (hp:ι <+: ι') {d:D} {v:V} (r:Rep Γ ι' H d v) (hl:d.low ι.length=true):Rep Γ ι H d v:=by
 induction r with
 | non=>exact .non
 | bl b=>exact .bl b
 | int i=>exact .int i
 | str x=>exact .str x
 | tup h1 h2 h3 h4 ih=>exact .tup h1 h2 (fun i d v e1 e2=>ih i d v e1 e2 (gu.mp hl i d e1)) h4
 | fro h1 h2 h3 ih=>exact .fro h1 h2 fun i d v e1 e2=>ih i d v e1 e2 (gu.mp hl i d e1)
 | @loc l a h =>
  have hlt:l < ι.length:=of_decide_eq_true hl
  obtain ⟨t,rfl⟩:=hp
  rw [List.getElem?_append_left hlt] at h
  exact .loc h
theorem az.low {ds:List D} {vs:List V} (r:az Γ ι H ds vs):D.lows ι.length ds=true:=gu.mpr fun i d e=>let ⟨_,_,r'⟩:=Paired.get r e; r'.low
theorem az.cut (hp:ι <+: ι'):∀ {ds:List D} {vs:List V},az Γ ι' H ds vs->D.lows ι.length ds=true->az Γ ι H ds vs
 | _,_,.nil,_=>.nil
 | _,_,.cons r t,h=>by
  rw [D.lows,Bool.and_eq_true] at h
  exact .cons (r.cut hp h.1) (az.cut hp t h.2)
theorem fJ.cut (hp:ι <+: ι'):∀ {kvs:List (List Int × D)} {xs ys:List (List Key × V)} {H0:Hp},fJ Γ ι' H kvs xs->fJ Γ ι H0 kvs ys->fJ Γ ι H kvs xs
 | _,_,_,_,.nil,_=>.nil
 | _,_,_,_,.cons r t,.cons r0 t0=>.cons ⟨r.1,r.2.cut hp r0.2.low⟩ (fJ.cut hp t t0)
theorem Ext.back (e:Ext ι ι' H H'):Ext ι ι H H':=⟨List.prefix_refl _,e.tup,e.frz,e.oth,fun _ h n=>absurd h n⟩
theorem ay.back (e:Ext ι ι' H H') (h0:ay Γ ι H S) (h1:ay Γ ι' H' S') (ht:S'.take S.length=S):ay Γ ι H' S:=by
 refine ⟨h0.len,h0.nd,fun l c hc=>?_⟩
 have hl:l < S.length:=(List.getElem?_eq_some_iff.mp hc).1
 have hc':S'[l]?=some c:=by rw [<- ht,List.getElem?_take_of_lt hl] at hc; exact hc
 obtain ⟨a,ha,c1⟩:=h1.cell l c hc'
 obtain ⟨b,hb,c0⟩:=h0.cell l c hc
 have:=h_ e.pre hb
 rw [ha] at this; cases this
 refine ⟨a,hb,?_⟩
 cases c with
 | lst ds=>obtain ⟨xs,hx,r⟩:=c1; obtain ⟨ys,_,r0⟩:=c0; exact ⟨xs,hx,az.cut e.pre r r0.low⟩
 | dct kvs=>obtain ⟨xs,hx,r⟩:=c1; obtain ⟨ys,_,r0⟩:=c0; exact ⟨xs,hx,fJ.cut e.pre r r0⟩
 | fdc kvs=>obtain ⟨xs,hx,r⟩:=c1; obtain ⟨ys,_,r0⟩:=c0; exact ⟨xs,hx,fJ.cut e.pre r r0⟩
theorem uY {xw:XW} {d:D} {v:V} {Q:VK} (h0:ay Γ ι H S) (e:Ext ι ι' H H') (h1:ay Γ ι' H' S') (r:Rep Γ ι' H' d v) (ho:Out Γ xw ι H (leave S d S') fun d _ ι' H'=>∀ v,Rep Γ ι' H' d v->Q v H'):Q v H':=by
 unfold leave at ho
 by_cases ht:S'.take S.length=S
 ·rw [if_pos ht] at ho
  by_cases hl:d.low S.length=true
  ·rw [if_pos hl] at ho
   exact ho ι H' e.back (ay.back e h0 h1 ht) v (r.cut e.pre (by rw [h0.len]; exact hl))
  ·rw [if_neg hl] at ho
   have dflt:Out Γ xw ι H (.ok d S') (fun d _ ι' H'=>∀ v,Rep Γ ι' H' d v->Q v H')->Q v H':=fun ho=>ho ι' H' e h1 v r
   cases d with
   | loc l =>
    dsimp only at ho
    cases q:S'[l]? with
    | none=>rw [q] at ho; exact dflt ho
    | some c =>
     rw [q] at ho
     dsimp only at ho
     by_cases hc:c.low S.length=true
     ·rw [if_pos hc] at ho
      cases r with
      | @loc _ a hla =>
       have hge:¬ l < S.length:=fun z=>hl (decide_eq_true z)
       have hna:a ∉ ι:=fun z=>by
        obtain ⟨j,hj⟩:=List.getElem?_of_mem z
        have hj1:=(List.getElem?_eq_some_iff.mp hj).1
        have:=k8 h1.nd hla (h_ e.pre hj)
        rw [h0.len] at hj1
        omega
       have hHa:H a=none:=e.fresh a (List.mem_of_getElem? hla) hna
       have pre2:ι <+: ι++[a]:=List.prefix_append _ _
       refine ho (ι++[a]) H' ⟨pre2,e.tup,e.frz,e.oth,fun b hb hn=>?_⟩ ?_ _ (.loc (by rw [<- h0.len]; simp))
       ·rcases List.mem_append.mp hb with z|z
        ·exact absurd z hn
        ·have:b=a:=by simpa using z
         rw [this]; exact hHa
       ·have hb:=ay.back e h0 h1 ht
        obtain ⟨b,hb2,c1⟩:=h1.cell l c q
        rw [hla] at hb2; cases hb2
        cases c with
        | lst ds =>
         obtain ⟨xs,hx,rr⟩:=c1
         exact hb.take hna hx (az.cut e.pre rr (by rw [h0.len]; exact hc))
        | dct kvs=>cases hc
        | fdc kvs=>cases hc
     ·rw [if_neg hc] at ho; exact dflt ho
   | _=>exact dflt ho
 ·rw [if_neg ht] at ho
  exact ho ι' H' e h1 v r
end
end EV

namespace EV
open PySem PySem.Spec PyProof.Rows L2
section
variable {X:Cx} {Γ:Gx} {xw:XW} {pins:List (Addr × Obj)} {σ:L2.St} {H:Hp} {s:Shared} {ι:List Addr} {S:af}
theorem rj {neg:Bool} {x y d:D} {S S':af} (h:nD neg x y S=.ok d S'):∃ k,d=.bl k:=by
 cases x with
 | tup ds =>
  cases y with
  | loc l =>
   have h:(opt (allInts ds)>>=fun k=>gX l fun kvs=>pure (.bl ((je kvs k).isSome != neg))) S=.ok d S':=h
   cases q:allInts ds with
   | none=>rw [q] at h; cases h
   | some k =>
    rw [q] at h
    have h:gX l (fun kvs=>pure (.bl ((je kvs k).isSome != neg))) S=.ok d S':=h
    unfold gX at h
    cases q2:S[l]? with
    | none=>rw [q2] at h; cases h
    | some c =>
     rw [q2] at h
     cases c with
     | lst ds=>cases h
     | dct kvs=>cases h; exact ⟨_,rfl⟩
     | fdc kvs=>cases h; exact ⟨_,rfl⟩
  | _=>cases h
 | _=>cases h
end
end EV

namespace EV
open PySem PySem.Spec PyProof.Rows L2
theorem kF {n:Nat} (h:fits n=true):n<=sizeLine:=by
 have:n<=16777216:=of_decide_eq_true h
 rw [sizeLine_eq]; exact this
theorem sign_of {y:Str} {c:Nat} (h:y.cps.toList=[c]):y=⟨#[c]⟩:=by
 rw [<- dG y,h]; rfl
section
variable {X:Cx} {Γ:Gx} {xw:XW} {sub:Sub} {ι:List Addr} {H:Hp} {S:af}
theorem yE:OpR X (compareOp .In) (br Γ xw (cmD .tin)):=by
 intro pins s σ H x y v u Q I rx ry h
 obtain ⟨ι,S,dx,dy,hS,r1,r2,ho⟩:=h
 have ho:Out Γ xw ι H (mw dx dy S) _:=ho
 cases dx with
 | str a =>
  cases dy with
  | str b =>
   cases r1; cases r2
   have e:mw (.str a) (.str b)=match a.cps.toList with|[c]=>pure (.bl (decide (c∈b.cps.toList)))|_=>bad:=rfl
   rw [e] at ho
   cases hc:a.cps.toList with
   | nil=>rw [hc] at ho; exact ho.elim
   | cons c r =>
    rw [hc] at ho
    cases r with
    | cons _ _=>exact ho.elim
    | nil =>
     refine yO pins s σ H _ _ v u Q I rx ry ⟨a,b,rfl,rfl,?_⟩
     rw [sign_of hc,StrLaws.found_one]
     exact Out.val ho hS (.bl _)
  | _=>exact ho.elim
 | _=>exact ho.elim
theorem Eg:b_ X (.builtin "len") (dU Γ xw (biD sub .lenT)):=by
 intro pins s σ H xs us Q I rs h
 obtain ⟨ι,S,a,x,rfl,hS,r,ho⟩:=gk rfl (fun _ _ _=>rfl) h
 cases a with
 | str z =>
  cases r
  obtain ⟨hz,ho⟩:=Out.guard (b:=fits z.length) ho
  exact Et pins s σ H _ us Q I rs ⟨z,rfl,kF hz,Out.val ho hS (.int _)⟩
 | _=>exact ho.elim
theorem xH:b_ X (.type "int") (dU Γ xw (biD sub .intT)):=by
 intro pins s σ H xs us Q I rs h
 obtain ⟨ι,S,a,x,rfl,hS,r,ho⟩:=gk rfl (fun _ _ _=>rfl) h
 cases a with
 | str z =>
  cases r
  obtain ⟨hz,ho⟩:=Out.guard (b:=z.cps.toList.all cI&&decide (1<=z.length)&&decide (z.length<=4)) ho
  rw [Bool.and_eq_true,Bool.and_eq_true] at hz
  have h4:z.length<=4:=of_decide_eq_true hz.2
  exact xg pins s σ H _ us Q I rs ⟨z,_,rfl,FY hz.1.1 (of_decide_eq_true hz.1.2) h4,by omega,Out.val ho hS (.int _)⟩
 | _=>exact ho.elim
theorem Fd:b_ X (.type "str") (dU Γ xw (biD sub .str1)):=by
 intro pins s σ H xs us Q I rs h
 obtain ⟨ι,S,a,x,rfl,hS,r,ho⟩:=gk rfl (fun _ _ _=>rfl) h
 cases a with
 | str z =>
  cases r
  exact Fe pins s σ H _ us Q I rs ⟨z,rfl,Out.val ho hS (.str _)⟩
 | int i =>
  cases r
  obtain ⟨hz,ho⟩:=Out.guard (b:=small i) ho
  have hz:-(2 ^ 64) < i/\i < 2 ^ 64:=of_decide_eq_true hz
  refine EA pins s σ H _ us Q I rs ⟨i,rfl,?_,Out.val ho hS (.str _)⟩
  by_cases z:i.natAbs=0
  ·rw [z]; decide
  ·have:i.natAbs < 2 ^ 1920:=Nat.lt_trans (show i.natAbs < 2 ^ 64 by omega) (Nat.pow_lt_pow_right (by decide) (by decide))
   exact (Nat.log2_lt z).mpr this
 | _=>exact ho.elim
theorem BB {a i:Expr} {ma mi:Sg->M D} {pos p2:Pos} (ha:PE X a (tM Γ xw ma)) (hi:PE X i (tM Γ xw mi)):PE X (.Subscript a (.Slice none (some i) none p2) pos) (tM Γ xw fun σ=>ma σ>>=fun x=>mi σ>>=fun y=>uM x y) :=
 PE.imp (lJ sW ha lE (oz hi)) fun σ H Q h=>by
  obtain ⟨σd,ι,S,he,hs,ho⟩:=h
  refine ⟨σd,ι,S,he,hs,ho.bind.mono fun d S1 ι1 H1 _ _ ⟨s1,e1,o1⟩ v r=>?_⟩
  refine ⟨σd,ι1,S1,he.ext e1,s1,o1.bind.mono fun y S2 ι2 H2 _ _ ⟨s2,e2,o2⟩ v2 r2=>?_⟩
  cases d with
  | str z =>
   cases r
   cases y with
   | int j =>
    cases r2
    obtain ⟨hz,o2⟩:=Out.guard (b:=decide (-(z.length:Int)<=j)&&decide (j<=(z.length:Int))&&fits z.length) o2
    rw [Bool.and_eq_true,Bool.and_eq_true] at hz
    refine ⟨j,rfl,z,rfl,kF hz.2,?_⟩
    rw [Cu (of_decide_eq_true hz.1.1) (of_decide_eq_true hz.1.2)]
    exact Out.val o2 s2 (.str _)
   | _=>exact o2.elim
  | _=>cases y <;> exact o2.elim
theorem Ck {a i:Expr} {ma mi:Sg->M D} {pos p2:Pos} (ha:PE X a (tM Γ xw ma)) (hi:PE X i (tM Γ xw mi)):PE X (.Subscript a (.Slice (some i) none none p2) pos) (tM Γ xw fun σ=>ma σ>>=fun x=>mi σ>>=fun y=>pR x y) :=
 PE.imp (lJ sW ha (oz hi) lE) fun σ H Q h=>by
  obtain ⟨σd,ι,S,he,hs,ho⟩:=h
  refine ⟨σd,ι,S,he,hs,ho.bind.mono fun d S1 ι1 H1 _ _ ⟨s1,e1,o1⟩ v r=>?_⟩
  refine ⟨σd,ι1,S1,he.ext e1,s1,o1.bind.mono fun y S2 ι2 H2 _ _ ⟨s2,e2,o2⟩ v2 r2=>?_⟩
  cases d with
  | str z =>
   cases r
   cases y with
   | int j =>
    cases r2
    obtain ⟨hz,o2⟩:=Out.guard (b:=decide (0<=j)&&fits z.length) o2
    rw [Bool.and_eq_true] at hz
    refine ⟨j,rfl,z,rfl,kF hz.2,?_⟩
    rw [C0 (of_decide_eq_true hz.1)]
    exact Out.val o2 s2 (.str _)
   | _=>exact o2.elim
  | _=>cases y <;> exact o2.elim
theorem Dk:IxR X (br Γ xw mq):=by
 intro value slice pins s σ H x y v u Q I rx ry h hsub
 obtain ⟨ι,S,dx,dy,hS,r1,r2,ho⟩:=h
 cases dx with
 | str z =>
  cases dy with
  | int j =>
   cases r1; cases r2
   obtain ⟨hz,ho⟩:=Out.guard (b:=decide (0<=j)&&fits z.length) ho
   rw [Bool.and_eq_true] at hz
   have h0:0<=j:=of_decide_eq_true hz.1
   cases q:z.cps.toList[j.toNat]? with
   | none=>rw [q] at ho; exact ho.elim
   | some c =>
    rw [q] at ho
    refine AY value slice pins s σ H _ _ v u Q I rx ry ⟨z,j,c,rfl,rfl,kF hz.2,?_,Out.val ho hS (.str _)⟩ hsub
    have hl:=(List.getElem?_eq_some_iff.mp q).1
    unfold L2.atI L2.ixN
    rw [if_pos h0,if_pos (by omega)]
    exact q
  | _=>exact ho.elim
 | _=>cases dy <;> exact ho.elim
theorem Ah {a b:Expr} {ma mb:Sg->M D} {pos:Pos} (ha:PE X a (tM Γ xw ma)) (hb:PE X b (tM Γ xw mb)) (hs:kE b):PE X (.Subscript a b pos) (tM Γ xw fun σ=>ma σ>>=fun x=>mb σ>>=fun y=>mq x y) :=
 PE.imp (pK Dk ha hb hs) fun _ _ _ h=>gy h
theorem zW {ι:List Addr} {H:Hp} (x:Str):jZ Γ ⟨x.cps.toList.map cN,none,x.cps.toList.map cN⟩ (Its x) ι H:=fun ι1 H1 S1 e s1 st=>by
 refine ⟨fun i d hd=>?_,by show x.cps.size<=_; simp⟩
 have hd:(x.cps.toList.map cN)[i]?=some d:=hd
 rw [List.getElem?_map,Option.map_eq_some_iff] at hd
 obtain ⟨c,hc,rfl⟩:=hd
 rw [Array.getElem?_toList] at hc
 exact ⟨(Array.getElem?_eq_some_iff.mp hc).1,fun x H' ⟨e1,c',hc',e2⟩=>by
  subst e1; subst e2
  rw [hc] at hc'; cases hc'
  exact ⟨.refl,s1,.str _⟩⟩
theorem Gr {tg a:Expr} {ma:Sg->M D} (ha:PE X a (tM Γ xw ma)):PI X tg a (tMI Γ xw fun σ=>ma σ>>=fun d=>ja d>>=srcOf) :=
 PI.imp (xW ha) fun σ H R h=>by
  obtain ⟨σd,ι,S,he,hs,ho⟩:=h
  refine ⟨σd,ι,S,he,hs,ho.bind.mono fun d S' ι' H' _ _ ⟨s',e',o'⟩ v r=>?_⟩
  cases d with
  | str x =>
   cases r
   have e:(ja (.str x)>>=srcOf) S'=guard (x.cps.toList.all fun c=>decide (c < 128)) (pure ⟨x.cps.toList.map cN,none,x.cps.toList.map cN⟩) S':=by
    show (guard _ _>>=srcOf) S'=_
    cases (x.cps.toList.all fun c=>decide (c < 128)) <;> rfl
   rw [e] at o'
   obtain ⟨hz,o'⟩:=Out.guard o'
   refine ⟨x,rfl,?_,o'.here s' _ (zW x)⟩
   rw [<- Array.all_toList]; exact hz
  | _=>exact o'.elim
noncomputable def TmR (X:Cx) (Γ:Gx) (xw:XW) (id:String) (m:Tm):Prop:=MtR X id (fun x xs H Q=>∃ ι S z dy y,x=.str z/\xs=[y]/\ay Γ ι H S/\Rep Γ ι H dy y/\Out Γ xw ι H (tmD m z dy S) fun d _ ι' H'=>∀ v,Rep Γ ι' H' d v->Q v H')
theorem j4 {o a:Expr} {es:List Expr} {m:Tm} {name:Str} {apos cpos:Pos} {id:String} {mo:Sg->M D} {ma:Sg->M (List D)} (slot:Slot "str" name id) (hty:typeOf (.builtin id)=pure (.type "method_descriptor")) (hm:TmR X Γ xw id m)
  (ho:PE X o (tM Γ xw mo)) (ha:PA X (a::es) (tMA Γ xw ma)) (hbase:attributeBase o name X.env (eval o X.env)=eval o X.env)
  (hfew:((backTo cpos (starEach (a::es) X.env)).all (fun x=>!x.1)&&(backToKw cpos (keywordEach [] X.env)).all (fun x=>x.1.isSome)&&decide ((a::es).length+([]:List Keyword).length+(if ([]:List Keyword).isEmpty then 0 else 1) < 30))=true)
  (hline:(apos.endLine==cpos.line)=true) (hs:starEach (a::es) X.env=(false,eval a X.env)::starEach es X.env) (hplain:(backTo cpos (starEach es X.env)).any (·.1)=false) :
  PE X (.Call (.Attribute o name apos) (a::es) [] cpos) (tM Γ xw fun σ=>mo σ>>=fun x=>iE x fun z=>ma σ>>=fun ds=>g9 m z ds) :=
 PE.imp (rf PySem.F.plainAttrs_str slot hty hm ho ha hbase hfew hline hs hplain) fun σ H Q h=>by
  obtain ⟨σd,ι,S,he,hs,ho⟩:=h
  refine ⟨σd,ι,S,he,hs,ho.bind.mono fun d S' ι' H' _ _ ⟨s',e',o'⟩ v r=>?_⟩
  cases d with
  | str z =>
   cases r
   refine ⟨rfl,σd,ι',S',he.ext e',s',o'.bind.mono fun ds S2 ι2 H2 _ _ ⟨s2,e2,o2⟩ vs rs=>?_⟩
   match ds,rs with
   | [],.nil=>exact o2.elim
   | [y],.cons r1 .nil=>exact ⟨ι2,S2,z,y,_,rfl,rfl,s2,r1,o2⟩
   | _::_::_,_=>exact o2.elim
  | _=>exact o'.elim
theorem vj:TmR X Γ xw "str.startswith" .starts:=by
 intro pins s σ H x vs v us Q I rx rv h
 obtain ⟨ι,S,z,dy,y,rfl,rfl,hS,r,ho⟩:=h
 cases dy with
 | str b =>
  cases r
  have ho:Out Γ xw ι H ((match b.cps.toList with|[c]=>pure (.bl (decide (z.cps.toList.head?=some c)))|_=>bad:M D) S) _:=ho
  cases hc:b.cps.toList with
  | nil=>rw [hc] at ho; exact ho.elim
  | cons c t =>
   rw [hc] at ho
   cases t with
   | cons _ _=>exact ho.elim
   | nil =>
    refine FD pins s σ H _ _ v us Q I rx rv ⟨z,b,rfl,rfl,?_⟩
    rw [sign_of hc,DY]
    exact Out.val ho hS (.bl _)
 | _=>exact ho.elim
theorem pZ {n:Nat} (h:n<=1000000):n+2<=sizeLine:=by rw [sizeLine_eq]; omega
theorem qu:∀ ps:List (List Nat),az Γ ι H (ps.map fun p=>.str (tx p)) ((ps.map tx).map V.str)
 | []=>.nil
 | p::r=>.cons (.str _) (qu r)
theorem m_split:TmR X Γ xw "str.split" .split:=by
 intro pins s σ H x vs v us Q I rx rv h
 obtain ⟨ι,S,z,dy,y,rfl,rfl,hS,r,ho⟩:=h
 cases dy with
 | str b =>
  cases r
  have ho:Out Γ xw ι H ((match b.cps.toList with|[c]=>guard (decide (z.length<=1000000)) (alloc (.lst ((aT c z.cps.toList).map fun p=>.str (tx p))))|_=>bad:M D) S) _:=ho
  cases hc:b.cps.toList with
  | nil=>rw [hc] at ho; exact ho.elim
  | cons c t =>
   rw [hc] at ho
   cases t with
   | cons _ _=>exact ho.elim
   | nil =>
    obtain ⟨hz,ho⟩:=Out.guard (b:=decide (z.length<=1000000)) ho
    refine Dj pins s σ H _ _ v us Q I rx rv ⟨z,b,rfl,rfl,by rw [sign_of hc]; rfl,pZ (of_decide_eq_true hz),fun p hp=>?_⟩
    rw [sign_of hc,FE]
    exact Out.alloc ho hS hp (qu _)
 | _=>exact ho.elim
theorem Ey:TmR X Γ xw "str.partition" .part:=by
 intro pins s σ H x vs v us Q I rx rv h
 obtain ⟨ι,S,z,dy,y,rfl,rfl,hS,r,ho⟩:=h
 cases dy with
 | str b =>
  cases r
  have ho:Out Γ xw ι H ((match b.cps.toList with|[c]=>guard (decide (z.length<=1000000)) (pure (.tup (dP c z.cps.toList)))|_=>bad:M D) S) _:=ho
  cases hc:b.cps.toList with
  | nil=>rw [hc] at ho; exact ho.elim
  | cons c t =>
   rw [hc] at ho
   cases t with
   | cons _ _=>exact ho.elim
   | nil =>
    obtain ⟨hz,ho⟩:=Out.guard (b:=decide (z.length<=1000000)) ho
    have hl:=pZ (of_decide_eq_true hz)
    refine u9 pins s σ H _ _ v us Q I rx rv ⟨z,b,rfl,rfl,by rw [sign_of hc]; rfl,by omega,fun p hp=>?_⟩
    rw [sign_of hc]
    rw [<- vL] at ho
    exact Out.tup ho hS hp (.cons (.str _) (.cons (.str _) (.cons (.str _) .nil)))
 | _=>exact ho.elim
theorem strs_map:∀ {ds:List D} {ys:List Str},allStrs ds=some ys->ds=ys.map .str
 | [],ys,h=>by cases h; rfl
 | .str y::r,ys,h=>by
  have h:(allStrs r).map (y :: ·)=some ys:=h
  rw [Option.map_eq_some_iff] at h
  obtain ⟨q,h1,rfl⟩:=h
  rw [strs_map h1]; rfl
 | .non::_,_,h=>by cases h
 | .bl _::_,_,h=>by cases h
 | .int _::_,_,h=>by cases h
 | .tup _::_,_,h=>by cases h
 | .loc _::_,_,h=>by cases h
 | .exn _::_,_,h=>by cases h
 | .fro _::_,_,h=>by cases h
theorem rT:∀ {ys:List Str} {xs:List V},az Γ ι H (ys.map .str) xs->xs=ys.map V.str
 | [],_,.nil=>rfl
 | y::r,_,.cons h t=>by cases h; rw [rT t]; rfl
theorem vI (hK:Γ.K=X.K):TmR X Γ xw "str.join" .join:=by
 intro pins s σ H x vs v us Q I rx rv h
 obtain ⟨ι,S,z,dy,y,rfl,rfl,hS,r,ho⟩:=h
 have ho:Out Γ xw ι H ((cu dy>>=fun ds=>opt (allStrs ds)>>=fun ys=>joinM z ys) S) _:=ho
 obtain ⟨ds,q,ho⟩:=Out.cu ho
 obtain ⟨ys,q2,ho⟩:=Out.opt ho
 obtain ⟨hz,ho⟩:=Out.guard (b:=decide ((ys.map (fun y=>y.length)).sum+ys.length * z.length<=16777216)) ho
 obtain ⟨_,pa,xs,rfl,sq,rp⟩:=Ca hS r q
 rw [strs_map q2] at rp
 have ex:=rT rp
 subst ex
 rw [hK] at sq
 refine EI pins s σ H _ _ v us Q I rx rv ⟨z,pa,ys,rfl,rfl,sq,of_decide_eq_true hz,?_⟩
 rw [join_eq]
 exact Out.val ho hS (.str _)
end
end EV

namespace L2
open PySem PySem.Spec PyProof.Rows
structure Xc (B:Heap) (stack:List Env) (e:Addr) (h:Heap):Prop where
 stays:B.StaysIn h
 new:B.get? e=none
 frames:h.FunFrames B stack
noncomputable def Cov (B:Heap) (stack:List Env) (s:Shared) (H':Hp) (h:Heap):Prop:=∀ b o,h.get? b=some o->(H' b≠none\/∃ o',s.heap.get? b=some o')->b ∉ frs stack->B.get? b=some o
noncomputable def CXg (st:Heap->Heap->Addr->Addr->Prop) (P:Program) (w:World):CXT:=fun stack H s E v s' =>
 ∃ e C B H',v=.ref e/\s'.os=s.os/\AllBare s'.gens/\Un (frs stack) [] H H' s.heap s'.heap/\HOk P w H' s'.heap/\Xc B stack e s'.heap/\st B s'.heap e C/\Cov B stack s H' s'.heap/\E (.ref C) none H'
noncomputable def stF (_:Heap) (h:Heap) (e C:Addr):Prop:=∃ t,h.get? e=some { cls:=.ref C,data:=.fields #[.ref t,.none,.none,.none,.bool false,.none] }
noncomputable def stT (B:Heap) (h:Heap) (e C:Addr):Prop:=∃ a0,h.TracedW B e (.ref C) a0
abbrev CXe (P:Program) (w:World):CXT:=CXg stT P w
abbrev CXr (P:Program) (w:World):CXT:=CXg stF P w
theorem qw {P:Program} {w:World} {H:Hp} {h:Heap} {b:Addr} {ob:HO} (ok:HOk P w H h) (q:H b=some ob):∃ o,h.get? b=some o:=by
 have x:=ok b ob q
 clear q ok
 induction ob with
 | lst xs=>obtain ⟨_,_,_,_,e⟩:=x; exact ⟨_,e⟩
 | tup xs=>obtain ⟨_,_,_,_,e,_⟩:=x; exact ⟨_,e⟩
 | dK kvs=>obtain ⟨_,_,_,_,_,_,_,e,_⟩:=x; exact ⟨_,e⟩
 | dT kvs=>obtain ⟨_,_,_,_,_,_,_,e,_⟩:=x; exact ⟨_,e⟩
 | set S n=>obtain ⟨_,_,_,_,e,_⟩:=x; exact ⟨_,e⟩
 | ins C dx fs=>obtain ⟨_,_,_,e,_⟩:=x; exact ⟨_,e⟩
 | own y=>exact x
 | xd fs=>obtain ⟨_,⟨_,_,_,e,_⟩,_⟩:=x; exact ⟨_,e⟩
 | rng lo hi=>obtain ⟨_,_,_,e⟩:=x; exact ⟨_,e⟩
 | frz o u ih=>exact ⟨o,x.1⟩
 | tbl ps=>exact ⟨_,x⟩
 | met f y=>exact ⟨_,x⟩
 | ext φ=>exact x.2.1
section
variable {P:Program} {w:World} {B h h':Heap} {stack:List Env} {e C:Addr} {s:Shared} {H H':Hp}
theorem n6 (hf:∀ b∈frs stack,∃ o,s.heap.get? b=some o/\H b=none) (u:Un (frs stack) [] H H' s.heap h) (ok:HOk P w H' h) (fr:h.FunFrames B stack) (cv:Cov B stack s H' h) (sb:B.StaysIn h') (up:h.UpToSlots h') :
  Un (frs stack) [] H H' s.heap h'/\HOk P w H' h'/\Cov B stack s H' h':=by
 have nf:∀ {b:Addr},H' b≠none->b ∉ frs stack:=fun {b} hb m=>by
  obtain ⟨o,e1,e2⟩:=hf b m
  exact hb (u.free b o e1 e2 (by simp))
 have old:∀ {b:Addr} {o:Obj},h.get? b=some o->(H' b≠none\/∃ o',s.heap.get? b=some o')->b ∉ frs stack->h'.get? b=some o:=fun {b o} e1 e2 e3=>sb b o (cv b o e1 e2 e3)
 have fram:∀ {b:Addr} {o:Obj},b∈frs stack->h.get? b=some o->∃ sl,h'.get? b=some { o with slots:=sl }:=fun {b o} m e1=>by
  obtain ⟨_,o',e2,hd⟩:=fr.mem m
  rw [e1] at e2; cases e2
  exact up b o e1 hd
 refine ⟨⟨fun b o e n hb _=>?_,fun b o e n hb _=>?_,u.free,fun b o e _=>?_,u.tups,u.frzs,u.tbls⟩,fun a o ea=>?_,fun b o e1 e2 e3=>?_⟩
 ·exact old (u.keep b o e n hb (by simp)) (.inr ⟨o,e⟩) hb
 ·obtain ⟨sl,e1⟩:=u.slot b o e n hb (by simp)
  obtain ⟨sl2,e2⟩:=fram hb e1
  exact ⟨sl2,e2⟩
 ·obtain ⟨o1,e1⟩:=u.there b o e (by simp)
  by_cases hb:b∈frs stack
  ·obtain ⟨sl,e2⟩:=fram hb e1
   exact ⟨_,e2⟩
  ·exact ⟨o1,old e1 (.inr ⟨o,e⟩) hb⟩
 ·refine (ok a o ea).stay (fun b v hb q=>?_) (fun _ q=>q) fun _ _ q=>q
  have hne:H' b≠none:=by
   rcases hb with rfl|hb
   ·rw [ea]; exact fun z=>by cases z
   ·rw [hb]; exact fun z=>by cases z
  exact old q (.inl hne) (nf hne)
 ·-- what is there now was there
  have:∃ o1,h.get? b=some o1:=by
   rcases e2 with z|⟨o2,z⟩
   ·cases q:H' b with
    | none=>exact absurd q z
    | some ob=>exact qw ok q
   ·exact u.there b o2 z (by simp)
  obtain ⟨o1,e4⟩:=this
  have e5:=cv b o1 e4 e2 e3
  have e6:=sb b o1 e5
  rw [e1] at e6; cases e6
  exact e5
end
section
variable {CX:CXT} {P:Program} {w:World} {K:PySem.W.Frag} {mg:Str->Option Value} {base:Heap} {N:List Str} {qual:Str} {scope:Scope} {f:Addr} {cd:Value} {A:Around} {outer:List Env} {s:Shared} {H:Hp} {E E':XK}
theorem kg {X:Cx} {pins:List (Addr × Obj)} {σ:St} {H:Hp} {s:Shared} (I:Inv X pins σ H s):∀ b∈frs X.stack,∃ o,s.heap.get? b=some o/\H b=none:=fun b hb=>by
 obtain ⟨_,o,e,_⟩:=I.stack.mem hb
 exact ⟨o,e,I.mE b hb⟩
theorem sy {st:Heap->Heap->Addr->Addr->Prop} (hst:∀ B h e C,st B h e C->stF B h e C\/stT B h e C) (hE:∀ C H,E' (.ref C) none H->E (.ref C) none H) {pins:List (Addr × Obj)} {σ:St} {H1:Hp} {s1:Shared} {v:Value} {s':Shared} (hA:A.frames=some outer)
  (I:Inv (dc (CXe P w) P w K mg base N qual scope f cd A outer s H E) pins σ H1 s1) (hx:CXg st P w (dc (CXe P w) P w K mg base N qual scope f cd A outer s H E).stack H1 s1 E' v s'):(dc (CXe P w) P w K mg base N qual scope f cd A outer s H E).xe v s':=by
 obtain ⟨e,C,B,H',rfl,h1,h2,u,ok,xc,hs,cv,hE'⟩:=hx
 have hstk:(dc (CXe P w) P w K mg base N qual scope f cd A outer s H E).stack=envOfC qual scope s.heap.objs.size f cd::outer:=rfl
 have hfr:(A.deeper (envOfC qual scope s.heap.objs.size f cd)).frames=some (envOfC qual scope s.heap.objs.size f cd::outer):=Around.frames_deeper hA
 have hf:(envOfC qual scope s.heap.objs.size f cd).frame=some s.heap.objs.size:=rfl
 have fin:∀ (h'':Heap) (a0:Value),Heap.LeftW B (envOfC qual scope s.heap.objs.size f cd::outer) e (.ref C) a0 s'.heap h''->CXe P w outer H s E (.ref e) { s' with heap:=h'' }:=fun h'' a0 hL=>by
  obtain ⟨k1,k2,k3,k4⟩:=hL
  obtain ⟨u2,ok2,cv2⟩:=n6 (kg I) u ok xc.frames cv k1 k4
  have nL:∀ {b:Addr} {o:Obj},s.heap.get? b=some o->b≠s.heap.objs.size:=fun {b o} q=>Nat.ne_of_lt (Heap.lt_size q)
  have mem:∀ {b:Addr},b∈frs (envOfC qual scope s.heap.objs.size f cd::outer) ↔ b=s.heap.objs.size\/b∈frs outer:=fun {b}=>by
   unfold frs
   rw [List.filterMap_cons,hf]
   exact List.mem_cons
  have ub:Un (frs outer) [] H H1 s.heap s1.heap:=I.base
  refine ⟨e,C,B,H',rfl,h1.trans I.os,h2,⟨fun b o q n hb _=>?_,fun b o q n hb _=>?_,fun b o q n _=>?_,fun b o q _=>?_,fun b xs q=>?_,fun b o u q=>?_,fun b ps q=>?_⟩,ok2,⟨k1,xc.new,k2.2.2⟩,⟨a0,k3⟩,fun b o q1 q2 q3=>?_,hE _ _ hE'⟩
  ·exact u2.keep b o (ub.keep b o q n hb (by simp)) (ub.free b o q n (by simp)) (fun z=>(mem.mp z).elim (nL q) hb) (by simp)
  ·obtain ⟨sl,q1⟩:=ub.slot b o q n hb (by simp)
   obtain ⟨sl2,q2⟩:=u2.slot b _ q1 (ub.free b o q n (by simp)) (mem.mpr (.inr hb)) (by simp)
   exact ⟨sl2,q2⟩
  ·obtain ⟨o1,q1⟩:=ub.there b o q (by simp)
   exact u2.free b o1 q1 (ub.free b o q n (by simp)) (by simp)
  ·obtain ⟨o1,q1⟩:=ub.there b o q (by simp)
   exact u2.there b o1 q1 (by simp)
  ·exact u2.tups b xs (ub.tups b xs q)
  ·exact u2.frzs b o u (ub.frzs b o u q)
  ·obtain ⟨m1,q1⟩:=ub.tbls b ps q
   obtain ⟨m2,q2⟩:=u2.tbls b _ q1
   exact ⟨m1++m2,by rw [<- Array.append_assoc]; exact q2⟩
  ·have hfree:H' s.heap.objs.size=none:=by
    obtain ⟨oL,eL,hL⟩:=kg I s.heap.objs.size (mem.mpr (.inl rfl))
    exact u2.free _ oL eL hL (by simp)
   refine cv2 b o q1 ?_ fun z=>?_
   ·rcases q2 with z|⟨o',z⟩
    ·exact .inl z
    ·exact .inr (ub.there b o' z (by simp))
   ·rcases mem.mp z with z|z
    ·rcases q2 with y|⟨o',y⟩
     ·rw [z] at y; exact y hfree
     ·exact nL y z
    ·exact q3 z
 show wpAny (model P w) (A.deeper (envOfC qual scope s.heap.objs.size f cd)) (leaving (envOfC qual scope s.heap.objs.size f cd) (.ref e)) (fun _ s''=>CXe P w outer H s E (.ref e) s'') (fun e' s''=>CXe P w outer H s E e' s'') s'
 rcases hst _ _ _ _ hs with ⟨t,he⟩|⟨a0,ht⟩
 ·exact wpAny_leaving_firstW hfr xc.frames hf he xc.stays xc.new rfl (a0:=.ref t) rfl rfl fun h'' hL=>fin h'' _ hL
 ·exact wpAny_leaving_nextW hfr xc.frames hf ht xc.stays xc.new fun h'' hL=>fin h'' _ hL
end
end L2

namespace L2
open PySem PySem.Spec PyProof.Rows
theorem oA {K:PySem.W.Frag} {h:Heap} {C:Addr} {bmB:List Value} {newId:String} (X:K.In h) (q:PySem.W.excIn K C bmB newId=true) :
  ∃ bm N nm q bs hdct sn sub ab col dd k0 k1 k2 k3 k5 mN,h.get? C=some (excClassObj nm q C N bs bm hdct sn sub ab col dd k0 k1 k2 k3 k5 newId)/\h.Ns N mN/\mN "__init__" = none/\OwnTail h bmB bm:=by
 unfold PySem.W.excIn at q
 split at q
 case h_2=>cases q
 rename_i dd cd sl ho
 split at q
 case h_2=>cases q
 rename_i C' bm k0 k1 k2 k3 n k5 hm hs
 simp only [Bool.and_eq_true,beq_iff_eq,Bool.not_eq_true'] at q
 obtain ⟨⟨⟨⟨⟨z1,z2⟩,z3⟩,z4⟩,z5⟩,z6⟩:=q
 subst z1; subst z2
 obtain ⟨nm,bs,mro,ns,qn,hd,sn,sub,ab,col,del⟩:=cd
 dsimp only at hm z3 z5 z6
 subst hm; subst z3
 obtain ⟨l⟩:=sl
 have z7:l=[k0,k1,k2,k3,some (.builtin n),k5]:=hs
 subst z7
 exact ⟨bm,ns,nm,qn,bs,hd,sn,sub,ab,col,dd,k0,k1,k2,k3,k5,_,X _ _ ho,.of_isNs (PySem.W.isNs_of_in X z5),PySem.W.nsMap_none_of_in X z5 z6,PySem.W.tail_of_in X z4⟩
section
variable {X:Cx}
theorem xB {x:Str} {C:Addr} {B newId initId:String} {bmB:List Value} {np cpos pos:Pos} {a:Expr} {v:V} {E:XK} (FB:ExcBaseFacts B newId initId bmB) (ex:PySem.W.excIn X.K C bmB newId=true) (hm:X.mg x=some (.ref C)) (hg:Gl X x) (hc:X.calm=true) (hdb:(x==("__debug__" : Str))=false)
  (ha:PE X a (tC v)) (he:starEach [a] X.env=(false,eval a X.env)::starEach [] X.env) (hx:Passes (CXr X.prog X.w) X E):PS X (.Raise (some (.Call (.Name x np) [a] [] cpos)) none pos) (fun _ _ H=>E (.ref C) none H):=by
 intro pins s σ H D I h
 obtain ⟨tl,N,nm,q,bs,hdct,sn,sub,ab,col,dd,k0,k1,k2,k3,k5,mN,hC,hN,hni,T⟩:=oA I.ok.mod.kin ex
 refine wpAny_Raise_call_subT (C:=C) (nm:=nm) (q:=q) (N:=N) (bs:=bs) (bm:=tl) (hdct:=hdct) (sn:=sn) (sub:=sub) (ab:=ab) (col:=col) (dd:=dd) (k0:=k0) (k1:=k1) (k2:=k2) (k3:=k3) (k5:=k5)
  FB (mN:=mN) (T.hasType FB.hasBase) (I.ok.hd hc) (by rw [he]; rfl) hni (gr I hg hm ⟨rfl,?_⟩ hdb)
 have ha':=iG ha jC he cpos pins s σ H (fun vs H'=>vs.length<=1/\E (.ref C) none H') I ⟨by simp,h⟩
 rw [he] at ha' ⊢
 refine Calls.evalArgs_plain (wpAny_mono ha' (fun vs s2 ⟨ws,H2,I2,r,hl,hE⟩=>⟨rfl,?_,I2.bk _ _ hC,hN.keeps I2.bk,T.keeps I2.bk,fun h' e hmd=>?_⟩) fun _ _ z=>z)
 ·show vs.length<=sizeLine
  rw [<- r.length,sizeLine_eq]; omega
 ·have old:∀ {b:Addr},(H2 b≠none\/∃ o',s2.heap.get? b=some o')->b < s2.heap.objs.size:=fun {b} hb=>by
   rcases hb with z|⟨o',z⟩
   ·cases q:H2 b with
    | none=>exact absurd q z
    | some ob=>exact I2.hok.lt q
   ·exact Heap.lt_size z
  refine hx pins σ H2 s2 _ _ I2 ⟨e,C,PySem.W.hideAll s2.heap (frs X.stack),H2,rfl,rfl,I2.bare,Un.kept hmd.keeps,I2.hok.kept hmd.keeps,⟨fun b o z=>hmd.keeps b o (PySem.W.of_hideAll _ z),?_,?_⟩,?_,fun b o z1 z2 z3=>?_,hE⟩
  ·cases z:(PySem.W.hideAll s2.heap (frs X.stack)).get? e with
   | none=>rfl
   | some o=>have:=PySem.W.of_hideAll _ z; rw [hmd.new] at this; cases this
  ·refine (PySem.W.funFrames_hide I2.stack fun env hv b hb=>List.mem_filterMap.mpr ⟨env,hv,hb⟩).of_keeps fun b o z _=>⟨o,hmd.keeps b o z,rfl⟩
  ·obtain ⟨t,z,_⟩:=hmd.there
   exact ⟨t,z⟩
  ·have:∃ o1,s2.heap.get? b=some o1:=by
    rcases z2 with z|⟨o',z⟩
    ·cases q:H2 b with
     | none=>exact absurd q z
     | some ob=>exact qw I2.hok q
    ·exact ⟨o',z⟩
   obtain ⟨o1,z4⟩:=this
   have z5:=hmd.keeps b o1 z4
   rw [z1] at z5; cases z5
   exact PySem.W.hideAll_get _ z4 z3
theorem lP {A:Around} {E:Value->Shared->Prop} {pins:List (Addr × Obj)} {s:Shared} {σ:St} {H:Hp} {x:Str} {u:Value} {pos:Pos} {Q:Value->Shared->Prop} (I:Inv X pins σ H s) (hg:Gl X x) (hm:X.mg x=some u) (hd:(x==("__debug__" : Str))=false) (h:Q u s):wpAny (model X.prog X.w) A (eval (.Name x pos) X.env) Q E s:=by
 refine Calls.Name_function_global I.ok.kind hg (Calls.loadGlobal_global ?_ hm h) hd
 rw [I.ok.glob]; exact I.mod.glob.keeps I.bk
theorem n9 {CX:CXT} {k:Nat} {f:Addr} {fd:FuncData} {ps:List Str} {sp:Sp} {E:XK} {pins:List (Addr × Obj)} {σ:St} {H:Hp} {s:Shared} {Q:VK} {us:List Value} {vs:List V} {Z:Value->Shared->Prop} (F:c6 X.prog X.w X.K X.mg X.base CX k f fd ps sp) (hr:bS k X.A) (hb:Binds X.K fd ps [])
  (I:Inv X pins σ H s) (r:Vals vs us) (h:sp vs H Q E) (hz:∀ e s',CX X.stack H s E e s'->Z e s'):wpAny (model X.prog X.w) X.A (call (.ref f) us) (EP X pins σ Q) Z s:=by
 have hl:(us++[]).length=ps.length:=by rw [List.append_nil,<- r.length]; exact F.len _ _ _ _ h
 have hb2:=hb s us I.kIn hl
 rw [List.append_nil] at hb2
 refine wpAny_call (codeAny_mono (F.run X.A X.stack s H ⟨us,[]⟩ us vs Q E hr I.tL hb2 r h) fun r s' hq=>?_)
 cases r with
 | error e=>exact hz e s' hq
 | ok fl =>
  cases fl with
  | ret u=>exact I.after hq
  | next=>exact hq.elim
  | brk=>exact hq.elim
  | cont=>exact hq.elim
theorem yk {k:Nat} {f:Addr} {fd:FuncData} {ps:List Str} {sp:Sp} {x c:Str} {C:Addr} {newId:String} {bmB:List Value} {p cpos rpos np hpos rp2 pos:Pos} {e kx:Expr} {es:List Expr} {t:TA} {kv:V}
  (F:c6 X.prog X.w X.K X.mg X.base (CXe X.prog X.w) k f fd ps sp) (hr:bS k X.A) (hg:Gl X x) (hm:X.mg x=some (.ref f)) (hk:PySem.W.keepIn X.K (.ref f)=true) (hb:Binds X.K fd ps []) (hdb:(x==("__debug__" : Str))=false)
  (ha:PA X.nox (e::es) t) (he:starEach (e::es) X.env=(false,eval e X.env)::starEach es X.env) (hpl:(backTo cpos (starEach es X.env)).any (·.1)=false)
  (hgc:Gl X c) (hmc:X.mg c=some (.ref C)) (hdc:(c==("__debug__" : Str))=false) (ex:PySem.W.excIn X.K C bmB newId=true) (hBE:bmB.contains (.type "BaseException")=true)
  (hstk:X.stack=X.env::X.outer/\X.env.frame=some X.env.locals)
  (hkx:∀ (A:Around) (E:Value->Shared->Prop) (s:Shared) (Q:Value->Shared->Prop),(∀ tk u,RelV kv u->Q u { s with toks:=tk })->wpAny (model X.prog X.w) A (eval kx X.env) Q E s) :
  PS X (.Try [.Return (some (.Call (.Name x p) (e::es) [] cpos)) rpos] [.ExceptHandler (some (.Name c np)) none [.Return (some kx) rp2] hpos] [] [] pos)
   (fun D σ H=>t σ H fun vs H1=>∃ E,(∀ cls H',E cls none H'->cls=.ref C/\D.rt kv H')/\sp vs H1 D.rt E):=by
 intro pins s σ H D I h
 refine wpAny_Try_except ?_
 have hC0:=oA I.ok.mod.kin ex
 obtain ⟨tl,N,nm,q,bs,hdct,sn,sub,ab,col,dd,k0,k1,k2,k3,k5,mN,hC,hN,hni,T⟩:=hC0
 have hbase:tl.contains (.type "BaseException")=true:=T.hasType hBE
 refine wpAny_execs_cons (wpAny_mono (wpAny_Return_some (Q:=fun fl s'=>∃ u,fl=.ret u/\EP X pins σ D.rt u s') ?_) (fun fl s' hq=>?_) fun _ _ z=>z)
 ·refine wpAny_Call_Name_kw (gr I hg hm ?_ hdb)
  refine PySem.W.callWith_K (h₀:=X.base) I.ok.mod.kin hk (wpAny_mono (ha cpos pins s σ H _ (I.cV _) h) (fun us s1 ⟨vs,H1,I1,r,E,hE,q⟩=>⟨I1.cM.kIn,?_⟩) fun _ _ z=>False.elim z) he hpl
  have I1:=I1.cM
  refine wpAny_mono (n9 (X:=X) F hr hb I1 r q fun v s2 hx=>?_) (fun u s2 hq=>⟨u,rfl,hq⟩) fun _ _ z=>z
  obtain ⟨ea,C',B,H',rfl,os',bare',un,hok,xc,⟨a0,tr⟩,cv,hEx⟩:=hx
  obtain ⟨hcl,hrt⟩:=hE _ _ hEx
  cases hcl
  have hfr:X.A.frames=some (X.env::X.outer):=by rw [I1.ok.frames,hstk.1]
  have fly:Heap.FlyingW B (X.env::X.outer) ea (.ref C) a0 s2.heap:=⟨xc.stays,xc.new,by rw [<- hstk.1]; exact xc.frames,tr⟩
  have go:∀ {h':Heap},B.StaysIn h'->s2.heap.UpToSlots h'->Inv X pins σ H' { s2 with heap:=h' }:=fun {h'} sb up=>by
   obtain ⟨u2,ok2,_⟩:=n6 (kg I1) un hok xc.frames cv sb up
   exact I1.l6 (s':={ s2 with heap:=h' }) (ch:=[]) os' u2 ok2 bare' fun b z=>absurd z (by simp)
  refine wpAny_looks_onW hfr hstk.2 fly fun h3 held3 up3=>?_
  refine wpAny_landsW held3 fun h4 fly4 up4=>?_
  have I4:=go fly4.1 (up3.trans up4)
  refine wpAny_handleBy_cons (codeAny_handlers_test (lP I4 hgc hmc hdc ?_)) (by intro z; cases z)
  obtain ⟨ob,hob,hobc⟩:=fly4.there
  refine wpAny_excMatches_sub_self (I4.bk _ _ hC) hob hobc hbase (codeAny_handlers_suite ?_)
  refine lands_againW fly4 fun h5 fly5 up5=>?_
  have I5:=go fly5.1 ((up3.trans up4).trans up5)
  refine wpAny_execs_cons (wpAny_Return_some (hkx _ _ _ _ fun tk u ru=>?_))
  exact ⟨kv,σ,H',I5.tok tk,ru,hrt⟩
 ·obtain ⟨u,rfl,v,H',I',r,q⟩:=hq
  exact ⟨v,σ,H',I',r,q⟩
end
end L2

namespace L2
open PySem PySem.Spec PySem.Calls PyProof.Rows
open PySem.W (Looks)
noncomputable def bL (a C:Addr) (h:Heap):Prop:=∃ o,h.get? a=some o/\o.cls=.ref C/\∃ vs,o.data=.fields vs
theorem bL.ty {a C:Addr} {h:Heap} (p:bL a C h) (M:Model):Looks M h (typeOf (.ref a)) (.ref C):=by
 obtain ⟨o,h1,h2,_⟩:=p
 exact h2 ▸ (Looks.ld h1).andThen .now
theorem yj {K:PySem.W.Frag} {a C:Addr} {c:Value} (e:PySem.W.kitOne K (.ref C) c=some true):Answers (fun s=>K.In s.heap/\bL a C s.heap) (.ref a) c true:=by
 intro dep tk prog w A R s hs
 obtain ⟨h0,g,d,tt,os⟩:=s
 obtain ⟨⟨X,p⟩,hq⟩:=hs
 have LT:=bL.ty p (model prog w)
 unfold PySem.W.kitOne at e
 unfold Builtin.«isinstance.nested»
 refine wpAny_bind (LT.at ?_)
 by_cases q:(Value.ref C==c)=true
 ·rw [if_pos q]
  first
   | ((repeat lk); exact hq tt)
   | exact wpAny_bind (wpAny_rule (hq tt))
   | exact wpAny_bind (wpAny_rule (wpAny_pure (hq tt)))
 ·rw [if_neg q] at e
  rw [if_neg q]
  obtain ⟨hty,his,hsub⟩:=PySem.W.kit_cls (M:=model prog w) X e
  have LI:Looks (model prog w) h0 (isInstance (.ref a) c) true:=LT.andThen hsub
  refine wpAny_bind (hty.at ?_)
  rw [if_pos (by decide)]
  k_delta "plainIsInstance"
  refine wpAny_bind (wpAny_bind (his.at ?_))
  simp only [Bool.not_true,Bool.false_eq_true,if_false]
  refine wpAny_bind (LI.at ?_)
  first
   | exact wpAny_pure (wpAny_pure (hq tt))
   | (simp only [if_true]; first|exact wpAny_pure (wpAny_pure (hq tt))|exact wpAny_pure (hq tt)|exact wpAny_bind (wpAny_pure (wpAny_pure (hq tt))))
theorem yJ {K:PySem.W.Frag} {a C:Addr} {c:Value} {prog:Program} {w:World} {A:Around} {E:Value->Shared->Prop} {s:Shared} {Q:Value->Shared->Prop} (X:K.In s.heap) (p:bL a C s.heap) (e:PySem.W.kitOne K (.ref C) c=some true) (h:∀ tk,Q (.bool true) { s with toks:=tk }) :
  wpAny (model prog w) A (call (.builtin "isinstance") [.ref a,c]) Q E s :=
 call_isinstance (S:=fun _ R s=>(K.In s.heap/\bL a C s.heap)/\∀ tk,R (.ok (.ret (.bool true))) { s with toks:=tk })
  (fun prog w A R s hs=>isinstance_outer (yj e 0 _ prog w A R s hs) (fun z=>nomatch z)) ⟨⟨X,p⟩,h⟩
section
variable {X:Cx} {i:Nat} {C:Addr}
noncomputable def PV (X:Cx) (i:Nat) (C:Addr) (e:Expr) (v:V):Prop:=∀ (A:Around) (E:Value->Shared->Prop) (pins:List (Addr × Obj)) (σ:St) (H:Hp) (s:Shared) (a:Addr) (Q:Value->Shared->Prop),
 Inv X pins σ H s->σ[i]?=some (some (.ref a))->bL a C s.heap->(∀ tk u,RelV v u->Q u { s with toks:=tk })->wpAny (model X.prog X.w) A (eval e X.env) Q E s
theorem Fy {A:Around} {E:Value->Shared->Prop} {pins:List (Addr × Obj)} {s:Shared} {σ:St} {H:Hp} {x:Str} {u:Value} {pos:Pos} {Q:Value->Shared->Prop} (I:Inv X pins σ H s) (hg:Gl X x) (hm:X.mg x=none) (hv:bootBuiltins x=some u) (h:Q u s)
  (hn:x≠"__name__") (hd:(x==("__debug__" : Str))=false):wpAny (model X.prog X.w) A (eval (.Name x pos) X.env) Q E s:=by
 obtain ⟨mb,h1,h2⟩:=I.mod.blt
 exact Calls.Name_function_global I.ok.kind hg (Calls.loadGlobal_builtin (by rw [I.ok.glob]; exact I.mod.glob.keeps I.bk) hm (by rw [I.ok.blt]; exact h1.keeps I.bk) ((h2 x hn).trans hv) h) hd
noncomputable def fG (X:Cx) (d:Str) (c:Value):Prop:=Gl X d/\(d==("__debug__" : Str))=false/\(X.mg d=some c\/(X.mg d=none/\bootBuiltins d=some c/\d≠"__name__"))
theorem fG.ld {A:Around} {E:Value->Shared->Prop} {pins:List (Addr × Obj)} {s:Shared} {σ:St} {H:Hp} {d:Str} {c:Value} {pos:Pos} {Q:Value->Shared->Prop} (n:fG X d c) (I:Inv X pins σ H s) (h:Q c s):wpAny (model X.prog X.w) A (eval (.Name d pos) X.env) Q E s:=by
 obtain ⟨hg,hd,hm|⟨hm,hv,hn⟩⟩:=n
 ·exact lP I hg hm hd h
 ·exact Fy I hg hm hv h hn hd
theorem rE {n d:Str} {c:Value} {p1 p2 p3 pos:Pos} (hi:X.N[i]?=some n) (hk:X.env.kindOf n=some .local) (hd:(n==("__debug__" : Str))=false) (hv:Vis X.env.scope n)
  (hb:fG X "isinstance" (.builtin "isinstance")) (hc:fG X d c) (e:PySem.W.kitOne X.K (.ref C) c=some true):PV X i C (.Call (.Name "isinstance" p1) [.Name n p2,.Name d p3] [] pos) (.bl true):=by
 intro A E pins σ H s a Q I hσ hx h
 refine wpAny_Call_Name_kw (hb.ld I ?_)
 refine PyProof.Rows.callWith_builtin1 (Calls.spliced_cons ?_) rfl rfl
 obtain ⟨m,hn,hl⟩:=I.loc
 obtain ⟨u,r,l⟩:=hl i n _ hi hσ hv
 cases (show u=Value.ref a from r)
 have hm:m n=some (.ref a):=by
  rcases l with ⟨_,z⟩|⟨z|z,_⟩
  ·exact z
  ·rw [hk] at z; cases z
  ·rw [hk] at z; cases z
 refine wpAny_Name (wpAny_loadName_local I.ok.kind hk hn hm ?_) hd
 refine Calls.spliced_cons (hc.ld I (Calls.spliced_nil ?_))
 exact yJ I.kIn hx e fun tk=>h tk _ rfl
theorem A3 {op} {a:Expr} {v:V} {pos:Pos} (h:PV X i C a v):PV X i C (.BoolOp op [a] pos) v:=fun A E pins σ H s a Q I hσ hx hq=>BoolOp_one (h A E pins σ H s a Q I hσ hx hq)
theorem D3 {a b:Expr} {rest:List Expr} {v:V} {pos:Pos} (ha:PV X i C a (.bl true)) (hb:PV X i C (.BoolOp .And (b::rest) pos) v):PV X i C (.BoolOp .And (a::b::rest) pos) v:=by
 intro A E pins σ H s x Q I hσ hx h
 refine BoolOp_and (ha A E pins σ H s x _ I hσ hx fun tk u r=>?_)
 cases (show u=Value.bool true from r)
 exact wpAny_truthy_bool (hb A E pins σ H _ x Q (I.tok tk) hσ hx fun tk' u r=>h tk' u r)
theorem z_ {a:Expr} {k:Bool} {p1 pos:Pos} (hb:fG X "int" (.type "int")) (ha:PV X i C a (.bl k)) (he:starEach [a] X.env=(false,eval a X.env)::starEach [] X.env):PV X i C (.Call (.Name "int" p1) [a] [] pos) (.int (if k then 1 else 0)):=by
 intro A E pins σ H s x Q I hσ hx h
 refine wpAny_Call_Name_kw (hb.ld I ?_)
 have hg:wpAny (model X.prog X.w) A (spliced (backTo pos (starEach [a] X.env))) (fun vs s₁=>wpAny (model X.prog X.w) A (call (.type "int") vs) Q E s₁) E s:=by
  rw [he]
  refine Calls.spliced_cons (ha A E pins σ H s x _ I hσ hx fun tk u r=>Calls.spliced_nil ?_)
  cases (show u=Value.bool k from r)
  exact call_int_bool (h _ _ ⟨_,rfl⟩)
 exact PyProof.Rows.callWith_type1 hg he rfl
theorem Bo {x:Str} {a:Expr} {j} {p1 pos:Pos} (ha:PV X i C a (.int 1)):PV X i C (.BinOp (.Constant (.str x) j p1) .Mult a pos) (.str x):=by
 intro A E pins σ H s y Q I hσ hx h
 refine wpAny_BinOp (wpAny_Constant_str ?_)
 refine ha A E pins σ H _ y _ (I.tok _) hσ hx fun tk u r=>?_
 obtain ⟨t,rfl⟩:=(show ∃ t,u=Value.int 1 t from r)
 refine P.mul_str (by decide) (fun _ z=>by simp at z) (fun _ z=>by simp at z) ?_
 simp only [show ¬ ((1:Int) < 1) from by decide,if_false,beq_self_eq_true,Bool.true_or,if_true]
 exact h _ _ ⟨_,rfl⟩
theorem Inv.gone {pins:List (Addr × Obj)} {σ:St} {H:Hp} {s:Shared} {m:Str->Option Value} {n:Str} {v:Option Value} {h':Heap} {t':Nat} (I:Inv X pins σ H s) (hN:X.N.Nodup) (hi:X.N[i]?=some n) (hn:s.heap.Ns X.env.locals m)
  (hl:∀ (j:Nat) (x:Str) (v:V),X.N[j]?=some x->σ[j]?=some (some v)->Vis X.env.scope x->∃ u,RelV v u/\Look X.env s.heap m x u) (hn':h'.Ns X.env.locals (fun x=>if x=n then v else m x)) (hs:Heap.SameBut X.env.locals s.heap h') :
  Inv X pins (σ.set i none) H { s with heap:=h',toks:=t' }:=by
 have cne:=I.cne
 obtain ⟨oL,_,_,hoL,_⟩:=id hn
 refine ⟨I.ok,I.os,I.bare,⟨fun b o e n hb hx=>?_,fun b o e n hb hx=>?_,I.base.free,fun b o e hx=>?_,I.base.tups,I.base.frzs,I.base.tbls⟩,⟨_,hn',fun j y v' e1 e2 e3=>?_⟩,fun y c e=>?_,I.free,I.freeC,fun p hp=>?_,fun b ob e=>?_,by simpa using I.len⟩
 ·exact (hs.2 b (Nat.ne_of_lt (Nat.lt_of_lt_of_le (Heap.lt_size e) I.ok.above))).trans (I.base.keep b o e n hb hx)
 ·obtain ⟨sl,e1⟩:=I.base.slot b o e n hb hx
  exact ⟨sl,(hs.2 b (Nat.ne_of_lt (Nat.lt_of_lt_of_le (Heap.lt_size e) I.ok.above))).trans e1⟩
 ·obtain ⟨o',e1⟩:=I.base.there b o e hx
  exact ⟨o',(hs.2 b (Nat.ne_of_lt (Nat.lt_of_lt_of_le (Heap.lt_size e) I.ok.above))).trans e1⟩
 ·by_cases hj:j=i
  ·subst hj
   rw [List.getElem?_set] at e2
   simp at e2
  ·rw [List.getElem?_set_ne (Ne.symm hj)] at e2
   obtain ⟨u',r',q⟩:=hl j y v' e1 e2 e3
   refine ⟨u',r',?_⟩
   rcases q with ⟨k,e⟩|⟨k,c,e,z⟩
   ·refine .inl ⟨k,?_⟩
    have:y≠n:=fun e=>hj (lX hN e1 (e ▸ hi))
    simp [this,e]
   ·exact .inr ⟨k,c,e,z.sameBut hs (cne y c e)⟩
 ·obtain ⟨w',z⟩:=I.cell y c e
  exact ⟨w',z.sameBut hs (cne y c e)⟩
 ·obtain ⟨e,n,ne,nf,d⟩:=I.pin p hp
  exact ⟨(hs.2 p.1 ne).trans e,n,ne,nf,d⟩
 ·refine (I.hok b ob e).stay (fun c w' hc q=>(hs.2 c ?_).trans q) (fun _ q=>q) fun _ _ q=>q
  rintro rfl
  rcases hc with rfl|hc
  ·rw [I.free] at e; cases e
  ·rw [I.free] at hc; cases hc
noncomputable def PVb (X:Cx) (i:Nat) (C:Addr) (body:List Stmt) (v:V):Prop:=∀ (A:Around) (E:Value->Shared->Prop) (pins:List (Addr × Obj)) (σ:St) (H:Hp) (s:Shared) (a:Addr) (Q:Flow->Shared->Prop),
 Inv X pins σ H s->σ[i]?=some (some (.ref a))->bL a C s.heap->(∀ tk u,RelV v u->Q (.ret u) { s with toks:=tk })->wpAny (model X.prog X.w) A (execs body X.env) Q E s
theorem t9 {kx:Expr} {kv:V} {rp2:Pos} (h:PV X i C kx kv):PVb X i C [.Return (some kx) rp2] kv:=fun A E pins σ H s a Q I hσ hx hq =>
 wpAny_execs_cons (wpAny_Return_some (h A E pins σ H s a _ I hσ hx fun tk u r=>hq tk u r))
noncomputable def PVt (X:Cx) (i:Nat) (C:Addr) (e:Expr):Prop:=∀ (A:Around) (E:Value->Shared->Prop) (pins:List (Addr × Obj)) (σ:St) (H:Hp) (s:Shared) (a:Addr) (Q:Bool->Shared->Prop) (wh:Sem Value),
 Inv X pins σ H s->σ[i]?=some (some (.ref a))->bL a C s.heap->(∀ tk,Q true { s with toks:=tk })->wpAny (model X.prog X.w) A (isTrue e X.env (eval e X.env)) Q E s
theorem sr {e:Expr} (h:PV X i C e (.bl true)) (he:∀ whole,isTrue e X.env whole=(do let v <- whole; standAt e.pos; holding [v] (truthy v))):PVt X i C e:=fun A E pins σ H s a Q wh I hσ hx hq =>
 isTrue_plain (h A E pins σ H s a _ I hσ hx fun tk u r=>by
  cases (show u=Value.bool true from r)
  exact wpAny_truthy_bool (hq tk)) (he _)
noncomputable def PVa (X:Cx) (i:Nat) (C:Addr) (e:Expr):Prop:=∀ (A:Around) (E:Value->Shared->Prop) (pins:List (Addr × Obj)) (σ:St) (H:Hp) (s:Shared) (a:Addr) (Q:Bool->Shared->Prop) (wh:Sem Value),
 Inv X pins σ H s->σ[i]?=some (some (.ref a))->bL a C s.heap->(∀ tk,Q true { s with toks:=tk })->wpAny (model X.prog X.w) A (isTrue e X.env wh) Q E s
theorem Bq {a:Expr} {pos:Pos} (ha:PVt X i C a):PVa X i C (.BoolOp .And [a] pos):=fun A E pins σ H s x Q wh I hσ hx hq =>
 isTrue_and (ha A E pins σ H s x _ wh I hσ hx fun tk=>isTrue_and_nil (hq tk))
theorem vv {a b:Expr} {rest:List Expr} {pos:Pos} (ha:PVt X i C a) (hb:PVa X i C (.BoolOp .And (b::rest) pos)):PVa X i C (.BoolOp .And (a::b::rest) pos):=fun A E pins σ H s x Q wh I hσ hx hq =>
 isTrue_and (ha A E pins σ H s x _ wh I hσ hx fun tk=>hb A E pins σ H _ x Q wh (I.tok tk) hσ hx fun tk'=>hq tk')
theorem Gi {t:Expr} {j} {kp rp ip:Pos} {b:List Stmt} (h:PVa X i C t):PVb X i C [.If t [.Return (some (.Constant .none j kp)) rp] b ip] .non:=fun A E pins σ H s a Q I hσ hx hq =>
 wpAny_execs_cons (wpAny_If (h A E pins σ H s a _ _ I hσ hx fun tk=>wpAny_execs_cons (wpAny_Return_some (wpAny_Constant_none (hq tk .none rfl)))))
theorem pq {c n:Str} {newId:String} {bmB:List Value} {np hpos:Pos} {b1:Stmt} {bs1:List Stmt} {kv:V} {pins:List (Addr × Obj)} {σ:St} {H1:Hp} {s1 s2:Shared} {E:XK} {v:Value} {D:Ends}
  (hgc:Gl X c) (hmc:X.mg c=some (.ref C)) (hdc:(c==("__debug__" : Str))=false) (ex:PySem.W.excIn X.K C bmB newId=true) (hBE:bmB.contains (.type "BaseException")=true)
  (hstk:X.stack=X.env::X.outer/\X.env.frame=some X.env.locals) (hN:X.N.Nodup) (hi:X.N[i]?=some n) (hk:X.env.kindOf n=some .local) (hkx:PVb X i C (b1::bs1) kv)
  (I1:Inv X pins σ H1 s1) (hx:CXe X.prog X.w X.stack H1 s1 E v s2) (hE:∀ cls H',E cls none H'->cls=.ref C/\D.rt kv H') :
  wpAny (model X.prog X.w) X.A (noteFrame v X.env) (fun _ s₂=>wpAny (model X.prog X.w) X.A (setFlight v none) (fun _ s₃=>wpAny (model X.prog X.w) X.A (handleBy v X.env [.ExceptHandler (some (.Name c np)) (some n) (b1::bs1) hpos]) (SP X pins D) X.xe s₃) X.xe s₂) X.xe s2:=by
 have hC0:=oA I1.ok.mod.kin ex
 obtain ⟨tl,N,nm,q,bs,hdct,sn,sub,ab,col,dd,k0,k1,k2,k3,k5,mN,hC,hN2,hni,T⟩:=hC0
 have hbase:tl.contains (.type "BaseException")=true:=T.hasType hBE
 obtain ⟨ea,C',B,H',rfl,os',bare',un,hok,xc,⟨a0,tr⟩,cv,hEx⟩:=hx
 obtain ⟨hcl,hrt⟩:=hE _ _ hEx
 cases hcl
 have hfr:X.A.frames=some (X.env::X.outer):=by rw [I1.ok.frames,hstk.1]
 have fly:Heap.FlyingW B (X.env::X.outer) ea (.ref C) a0 s2.heap:=⟨xc.stays,xc.new,by rw [<- hstk.1]; exact xc.frames,tr⟩
 have go:∀ {h':Heap},B.StaysIn h'->s2.heap.UpToSlots h'->Inv X pins σ H' { s2 with heap:=h' }:=fun {h'} sb up=>by
  obtain ⟨u2,ok2,_⟩:=n6 (kg I1) un hok xc.frames cv sb up
  exact I1.l6 (s':={ s2 with heap:=h' }) (ch:=[]) os' u2 ok2 bare' fun b z=>absurd z (by simp)
 refine wpAny_looks_onW hfr hstk.2 fly fun h3 held3 up3=>?_
 refine wpAny_landsW held3 fun h4 fly4 up4=>?_
 have I4:=go fly4.1 (up3.trans up4)
 refine wpAny_handleBy_cons (codeAny_handlers_test (lP I4 hgc hmc hdc ?_)) (by intro z; cases z)
 obtain ⟨ob,hob,hobc⟩:=fly4.there
 refine wpAny_excMatches_sub_self (I4.bk _ _ hC) hob hobc hbase (codeAny_handlers_suite_as ?_)
 refine lands_againW fly4 fun h5 fly5 up5=>?_
 have I5:=go fly5.1 ((up3.trans up4).trans up5)
 have xa5:bL ea C h5:=by
  obtain ⟨_,_,_,oe,vs,_,_,_,he,hc,hd,_⟩:=fly5
  exact ⟨oe,he,hc.1,vs,hd⟩
 have hLoc:Loc X.env.scope n:=.inl hk
 refine mW (v:=.ref ea) I5 hN hi hLoc rfl (fun s6 I6 ⟨a,sb,ha⟩=>?_) (.inr (by simpa [Env.kindOf] using hk))
 have hal:a=X.env.locals\/∃ w,h5.IsCell a w:=by
  rcases ha with z|z
  ·exact .inl z
  ·exact .inr (I5.cell n a z)
 have xa6:bL ea C s6.heap:=by
  obtain ⟨o,e1,e2,vs,e3⟩:=xa5
  refine ⟨o,(sb.2 ea fun z=>?_).trans e1,e2,vs,e3⟩
  subst z
  rcases hal with rfl|⟨w',oc,z1,z2⟩
  ·obtain ⟨m,⟨o',es,ep,z1,z2,_⟩,_⟩:=I5.loc
   have z3:some o=some o':=e1.symm.trans z1
   cases z3
   rw [e3] at z2; cases z2
  ·have z3:some o=some oc:=e1.symm.trans z1
   cases z3
   rw [e3] at z2; cases z2
 have hiσ:i < σ.length:=by rw [I5.len]; exact (List.getElem?_eq_some_iff.mp hi).1
 refine hkx _ _ pins _ H' s6 ea _ I6 (by rw [List.getElem?_set_self hiσ]) xa6 fun tk u ru=>?_
 have I7:=I6.tok tk
 obtain ⟨m,hn,hl⟩:=id I7.loc
 have hcls:(X.env.scope.kind==.class||(X.env.scope.kind==.module&&X.env.locals != X.env.globals))=false:=by rw [I5.ok.kind]; rfl
 exact wpAny_nameGoes_keeps hk hn hcls fun h8 v8 hn8 hs8=>⟨kv,_,H',I7.gone hN hi hn hl hn8 hs8,ru,hrt⟩
section
variable {k:Nat} {f:Addr} {fd:FuncData} {ps:List Str} {sp:Sp} {x c n:Str} {newId:String} {bmB:List Value} {p cpos rpos np hpos rp2 pos:Pos} {e kx:Expr} {es:List Expr} {t:TA} {kv:V} {b1:Stmt} {bs1:List Stmt}
theorem pD
  (F:c6 X.prog X.w X.K X.mg X.base (CXe X.prog X.w) k f fd ps sp) (hr:bS k X.A) (hg:Gl X x) (hm:X.mg x=some (.ref f)) (hkp:PySem.W.keepIn X.K (.ref f)=true) (hb:Binds X.K fd ps []) (hdb:(x==("__debug__" : Str))=false)
  (ha:PA X.nox (e::es) t) (he:starEach (e::es) X.env=(false,eval e X.env)::starEach es X.env) (hpl:(backTo cpos (starEach es X.env)).any (·.1)=false)
  (hgc:Gl X c) (hmc:X.mg c=some (.ref C)) (hdc:(c==("__debug__" : Str))=false) (ex:PySem.W.excIn X.K C bmB newId=true) (hBE:bmB.contains (.type "BaseException")=true)
  (hstk:X.stack=X.env::X.outer/\X.env.frame=some X.env.locals) (hN:X.N.Nodup) (hi:X.N[i]?=some n) (hk:X.env.kindOf n=some .local) (hkx:PVb X i C (b1::bs1) kv) :
  PS X (.Try [.Return (some (.Call (.Name x p) (e::es) [] cpos)) rpos] [.ExceptHandler (some (.Name c np)) (some n) (b1::bs1) hpos] [] [] pos)
   (fun D σ H=>t σ H fun vs H1=>∃ E,(∀ cls H',E cls none H'->cls=.ref C/\D.rt kv H')/\sp vs H1 D.rt E):=by
 intro pins s σ H D I h
 refine wpAny_Try_except ?_
 refine wpAny_execs_cons (wpAny_mono (wpAny_Return_some (Q:=fun fl s'=>∃ u,fl=.ret u/\EP X pins σ D.rt u s') ?_) (fun fl s' hq=>?_) fun _ _ z=>z)
 ·refine wpAny_Call_Name_kw (gr I hg hm ?_ hdb)
  refine PySem.W.callWith_K (h₀:=X.base) I.ok.mod.kin hkp (wpAny_mono (ha cpos pins s σ H _ (I.cV _) h) (fun us s1 ⟨vs,H1,I1,r,E,hE,q⟩=>⟨I1.cM.kIn,?_⟩) fun _ _ z=>False.elim z) he hpl
  have I1:=I1.cM
  exact wpAny_mono (n9 (X:=X) F hr hb I1 r q fun v s2 hx=>pq hgc hmc hdc ex hBE hstk hN hi hk hkx I1 hx hE) (fun u s2 hq=>⟨u,rfl,hq⟩) fun _ _ z=>z
 ·obtain ⟨u,rfl,v,H',I',r,q⟩:=hq
  exact ⟨v,σ,H',I',r,q⟩
theorem EM
  (F:c6 X.prog X.w X.K X.mg X.base (CXe X.prog X.w) k f fd ps sp) (hr:bS k X.A) (hg:Gl X x) (hm:X.mg x=some (.ref f)) (hkp:PySem.W.keepIn X.K (.ref f)=true) (hb:Binds X.K fd ps []) (hdb:(x==("__debug__" : Str))=false)
  (ha:PA X.nox (e::es) t) (he:starEach (e::es) X.env=(false,eval e X.env)::starEach es X.env) (hpl:(backTo cpos (starEach es X.env)).any (·.1)=false)
  (hgc:Gl X c) (hmc:X.mg c=some (.ref C)) (hdc:(c==("__debug__" : Str))=false) (ex:PySem.W.excIn X.K C bmB newId=true) (hBE:bmB.contains (.type "BaseException")=true)
  (hstk:X.stack=X.env::X.outer/\X.env.frame=some X.env.locals) (hN:X.N.Nodup) (hi:X.N[i]?=some n) (hk:X.env.kindOf n=some .local) (hkx:PV X i C kx kv) :
  PS X (.Try [.Expr (.Call (.Name x p) (e::es) [] cpos) rpos] [.ExceptHandler (some (.Name c np)) (some n) [.Return (some kx) rp2] hpos] [] [] pos)
   (fun D σ H=>t σ H fun vs H1=>∃ E,(∀ cls H',E cls none H'->cls=.ref C/\D.rt kv H')/\sp vs H1 (fun _ H'=>D.nx σ H') E):=by
 intro pins s σ H D I h
 refine wpAny_Try_except ?_
 refine wpAny_execs_cons (wpAny_Expr_any ?_ I.quiet rfl)
 refine wpAny_Call_Name_kw (gr I hg hm ?_ hdb)
 refine PySem.W.callWith_K (h₀:=X.base) I.ok.mod.kin hkp (wpAny_mono (ha cpos pins s σ H _ (I.cV _) h) (fun us s1 ⟨vs,H1,I1,r,E,hE,q⟩=>⟨I1.cM.kIn,?_⟩) fun _ _ z=>False.elim z) he hpl
 have I1:=I1.cM
 refine wpAny_mono (n9 (X:=X) F hr hb I1 r q fun v s2 hx=>pq hgc hmc hdc ex hBE hstk hN hi hk (t9 hkx) I1 hx hE) (fun u s2 hq=>?_) fun _ _ z=>z
 obtain ⟨v,H',I',_,q'⟩:=hq
 exact wpAny_execs_nil (wpAny_execs_nil ⟨σ,H',I',q'⟩)
end
end
end L2

namespace L2
open PySem PySem.Spec PySem.Calls PyProof.Rows
open PySem.W (Looks)
open PySem.Builtin PySem.Builtin.ObjectAttr PySem.Builtin.Getset_descriptor
structure fE (K:PySem.W.Frag) (C:Addr):Prop where
 ga:PySem.W.findIn K (.ref C) "__getattribute__" = some (some (.builtin "BaseException.__getattribute__"))
 gt:PySem.W.findIn K (.ref C) "__getattr__" = some none
 cl:PySem.W.findIn K (.ref C) "__class__" = some (some (.builtin "object.__class__"))
 gn:PySem.W.specialIn K (.builtin "object.__class__") "__get__" = some (some (.builtin "getset_descriptor.__get__"))
 tk:PySem.W.takesIn K (.builtin "object.__class__")=some true
 mo:PySem.W.mroIn K C (.type "object")=some true
 mb:PySem.W.mroIn K C (.type "BaseException")=some true
 is:(PySem.W.clsIn K C).isSome=true
section
variable {K:PySem.W.Frag} {prog:Program} {w:World} {A:Around} {E:Value->Shared->Prop} {s:Shared} {a C:Addr}
theorem wC (X:K.In s.heap) (p:bL a C s.heap) (T:fE K C) (M:Model):Looks M s.heap (find (.ref a) (.ref C) "__class__") (.bind (.builtin "getset_descriptor.__get__") (.builtin "object.__class__")):=by
 have L1:=PySem.W.looks_findIn (M:=M) X T.cl
 have L2:Looks M s.heap (getOf (some (.builtin "object.__class__"))) (some (.builtin "getset_descriptor.__get__")):=PySem.W.looks_specialIn X T.gn
 have L3:=PySem.W.looks_takesIn (M:=M) X T.tk
 refine L1.andThen (L2.andThen ?_)
 exact (show Looks M s.heap (dataDescriptor? (some (.builtin "object.__class__")) (some (.builtin "getset_descriptor.__get__"))) (some (.builtin "getset_descriptor.__get__",.builtin "object.__class__")) from L3.andThen .now).andThen (Looks.tag .now)
theorem w4 {R:Result->Shared->Prop} {tp:Value} (X:K.In s.heap) (p:bL a C s.heap) (T:fE K C) (h:R (.ok (.ret (.ref C))) s):codeAny (model prog w) A (.call (.builtin "getset_descriptor.__get__") ⟨[.builtin "object.__class__",.ref a,tp],[]⟩) R s:=by
 obtain ⟨hh,g,dr,t,os⟩:=s
 have L0:=bL.ty p (model prog w)
 have L1:=PySem.W.looks_mroIn (M:=model prog w) X T.mo
 refine codeAny_call_builtin PySem.W.KF.slot_gs.plain PySem.W.KF.entry_gs (PySem.W.KF.slot_gs.check _ _ _ _ _ _ _ _ PySem.W.KF.type_class (PySem.W.KF.args_gs _ _ _) ?_)
 unfold Builtin.«getset_descriptor.__get__» descrGet
 rw [PySem.W.dga_obj]
 refine wpAny_bind (wpAny_pure ?_)
 unfold descrGetter descrCheckInstance descrNameAndClass isInstance
 simp only [PySem.W.KF.owner_class]
 repeat lk
 refine ⟨Code.quiet_builtin _ (by decide +kernel),codeAny_builtin PySem.W.KF.entry_class ?_⟩
 unfold Builtin.«object.__class__» shownTypeOf
 repeat lk
 exact h
theorem AV {tk:Tok} {Q:Fin->Shared->Prop} (X:K.In s.heap) (p:bL a C s.heap) (T:fE K C) (h:Q (.done (.ret (.ref C))) s) :
  wpAny (model prog w) A (Builtin.«object.__getattribute__» ⟨[.ref a,.str "__class__" tk],[]⟩) Q E s:=by
 obtain ⟨hh,g,dr,t,os⟩:=s
 have L0:=bL.ty p (model prog w)
 have L1:=wC (s:=⟨hh,g,dr,t,os⟩) X p T (model prog w)
 unfold Builtin.«object.__getattribute__»
 repeat lk
 refine wpAny_run (c:=.call (.builtin "getset_descriptor.__get__") ⟨[.builtin "object.__class__",.ref a,.ref C],[]⟩) (h:=none) (w4 X p T ?_)
 exact wpAny_pure (wpAny_pure h)
theorem BH {M:Model} {nameV:Value} {Q:Unit->Shared->Prop} (X:K.In s.heap) (p:bL a C s.heap) (T:fE K C) (hq:Q () s):wpAny M A (checkBuiltinCall "BaseException.__getattribute__" ⟨[.ref a,nameV],[]⟩) Q E s:=by
 obtain ⟨hh,g,d,t,os⟩:=s
 have hk:builtinKind "BaseException.__getattribute__" = some .slot:=by decide +kernel
 have hsplit:splitId "BaseException.__getattribute__" = some ("BaseException","__getattribute__"):=by decide +kernel
 have L0:=bL.ty p M
 have L1:=PySem.W.looks_mroIn (M:=M) X T.mb
 have LI:Looks M hh (isInstance (.ref a) (.type "BaseException")) true:=L0.andThen L1
 have ha:=F.args_bexc_ga (.ref a) nameV
 simp only [checkBuiltinCall,hk,hsplit]
 refine wpAny_bind (LI.at ?_)
 repeat (any_goals (first|assumption|wp_step))
theorem zp {Q:Option Value->Shared->Prop} (X:K.In s.heap) (p:bL a C s.heap) (T:fE K C) (h:Q (some (.ref C)) { s with toks:=s.toks+1 }):wpAny (model prog w) A (getAttr? (.ref a) "__class__") Q E s:=by
 obtain ⟨hh,g,d,t,os⟩:=s
 have L0:=bL.ty p (model prog w)
 have L1:=PySem.W.looks_findIn (M:=model prog w) X T.ga
 have L2:=PySem.W.looks_findIn (M:=model prog w) X T.gt
 have f3:=F.attrBase_ValueError.ga.bind (.ref a)
 unfold getAttr? getAttrBy? getAttrBy
 refine wpAny_bind (wpAny_mkText (wpAny_bind (wpAny_attempt (wpAny_holding (wpAny_bind (L0.at (wpAny_bind (L1.at ?_))))))))
 dsimp only
 rw [show (Value.builtin "BaseException.__getattribute__"==Value.builtin "object.__getattribute__")=false from by decide +kernel]
 simp only [Bool.and_false,Bool.false_eq_true,if_false]
 unfold getAttrByItsOwn
 have HB:Looks (model prog w) hh (hookBefore (.ref C)) none:=by
  unfold hookBefore
  first|exact L2|exact L2.andThen .now
 refine wpAny_bind (HB.at (wpAny_bind (wpAny_attempt (wpAny_holding ?_))))
 unfold callGetattribute boundAndCalled
 simp only [Bool.false_and,Bool.false_eq_true,if_false]
 rw [f3]
 refine wpAny_bind (wpAny_pure (wpAny_call (codeAny_call_builtin F.attrBase_ValueError.ga.plain F.entry_bexc_ga (BH (s:=⟨hh,g,d,t+1,os⟩) X p T (AV (s:=⟨hh,g,d,t+1,os⟩) X p T ?_)))))
 exact wpAny_pure (wpAny_pure h)
theorem wH (T:fE K C):PySem.W.KitX K (.ref a) (.ref C) (bL a C) where
 ty:=fun M _ _ p=>p.ty M
 it:=fun _ _ X _=>by
  have z:=T.is
  unfold PySem.W.clsIn at z
  split at z
  ·rename_i c' d' cd' sl' ho
   intro A' Q' E' s' k q
   unfold isType loadHead
   exact wpAny_bind (wpAny_loadPart (k _ _ (X _ _ ho)) (wpAny_pure q))
  ·cases z
 ne:=fun h tp dd its n sl X htp=>by
  refine Bool.eq_false_iff.mpr fun q=>?_
  have e:C=tp:=Value.ref.inj (beq_iff_eq.mp q)
  subst e
  have z:=T.is
  unfold PySem.W.clsIn at z
  split at z
  ·rename_i c' d' cd' sl' ho
   have z:=(X _ _ ho).symm.trans htp
   cases z
  ·cases z
 ca:=fun X p k=>zp X p T k
end
section
variable {X:Cx} {i:Nat} {C:Addr}
theorem Di {n d:Str} {c:Value} {p1 p2 p3 pos:Pos} (hi:X.N[i]?=some n) (hk:X.env.kindOf n=some .local) (hd:(n==("__debug__" : Str))=false) (hv:Vis X.env.scope n)
  (hb:fG X "isinstance" (.builtin "isinstance")) (hc:fG X d c) (T:fE X.K C) (e:PySem.W.kitOne X.K (.ref C) c=some false):PV X i C (.Call (.Name "isinstance" p1) [.Name n p2,.Name d p3] [] pos) (.bl false):=by
 intro A E pins σ H s a Q I hσ hx h
 refine wpAny_Call_Name_kw (hb.ld I ?_)
 refine PyProof.Rows.callWith_builtin1 (Calls.spliced_cons ?_) rfl rfl
 obtain ⟨m,hn,hl⟩:=I.loc
 obtain ⟨u,r,l⟩:=hl i n _ hi hσ hv
 cases (show u=Value.ref a from r)
 have hm:m n=some (.ref a):=by
  rcases l with ⟨_,z⟩|⟨z|z,_⟩
  ·exact z
  ·rw [hk] at z; cases z
  ·rw [hk] at z; cases z
 refine wpAny_Name (wpAny_loadName_local I.ok.kind hk hn hm ?_) hd
 refine Calls.spliced_cons (hc.ld I (Calls.spliced_nil ?_))
 exact PySem.W.kia_one (wH T) I.kIn hx e (fun z=>nomatch z) fun tk=>h tk _ rfl
theorem sG {a:Expr} {p4:Pos} (h0:PV X i C a (.bl false)):PV X i C (.UnaryOp .Not a p4) (.bl true):=fun A E pins σ H s x Q I hσ hx h =>
 UnaryOp_ (h0 A E pins σ H s x _ I hσ hx fun tk u r=>by
  cases (show u=Value.bool false from r)
  exact not_of (wpAny_truthy_bool (h tk _ rfl)))
theorem rJ {a:Expr} {p4:Pos} (h0:PV X i C a (.bl false)) (he:∀ whole,isTrue a X.env whole=(do let v <- whole; standAt a.pos; holding [v] (truthy v))):PVt X i C (.UnaryOp .Not a p4):=fun A E pins σ H s x Q wh I hσ hx hq =>
 isTrue_not (isTrue_plain (h0 A E pins σ H s x _ I hσ hx fun tk u r=>by
  cases (show u=Value.bool false from r)
  exact wpAny_truthy_bool (hq tk)) (he _))
end
end L2

namespace EV
open PySem
inductive GE where|fn|val (d:D)|cls
structure TC where
 sc:Scope
 N:List Str
 inF:Str->Bool
 top:Bool
 gt:List (Str × GE)
noncomputable def idx:List Str->Str->Option Nat
 | [],_=>none
 | y::r,x=>if y=x then some 0 else (idx r x).map (· + 1)
noncomputable def gi (sc:Scope) (x:Str):Bool:=match sc.names.lookup x with
 | some .local=>true
 | some .cell=>true
 | some .free=>true
 | _=>false
noncomputable def eU (c:TC) (x:Str):Bool:=match c.sc.names.lookup x with
 | some .local=>true
 | some .cell=>c.inF x
 | _=>false
noncomputable def glB (c:TC) (x:Str):Bool:=decide (c.sc.names.lookup x=some .globalImplicit)
noncomputable def bZ (x:Str):Bool:=!(x==("__debug__" : Str))&&!(x==("__classdict__" : Str))
noncomputable def op2:Operator->Option Op2
 | .Add=>some .add
 | .Sub=>some .sub
 | .Mult=>some .mul
 | .FloorDiv=>some .fdiv
 | .Mod=>some .mod
 | .Pow=>some .pow
 | _=>none
noncomputable def cmO:CmpOp->Option Cm
 | .Lt=>some .lt
 | .LtE=>some .le
 | .Gt=>some .gt
 | .GtE=>some .ge
 | .Eq=>some .eq
 | .NotEq=>some .ne
 | .In=>some .isin
 | .NotIn=>some .d9
 | _=>none
noncomputable def G_:PySem.Expr->Bool
 | .Name x _=>decide (x = "kept")
 | _=>false
noncomputable def Hf:CmpOp->Option Cm
 | .In=>some .din
 | .NotIn=>some .dnin
 | _=>none
noncomputable def j0:PySem.Expr->Bool
 | .Name x _=>decide (x = "word")||(decide (x = "_law_text_here")||decide (x = "DIGITS"))
 | _=>false
noncomputable def lG (op:CmpOp) (b:PySem.Expr):Option Cm:=if j0 b&&decide (op=.In) then some .tin else cmO op
noncomputable def mU (x:Str):Option Tm:=if x = "join" then some .join else if x = "split" then some .split else if x = "startswith" then some .starts else if x = "partition" then some .part else none
noncomputable def uG:Const->Option E
 | .none=>some (.c .non)
 | .bool b=>some (.c (.bl b))
 | .int i=>some (.c (.int i))
 | .str s=>some (.c (.str s))
 | _=>none
noncomputable def mV (c:TC) (x:Str):Option E :=
 if bZ x then
  if gi c.sc x then (idx c.N x).map .v
  else if glB c x then match c.gt.lookup x with
   | some (.val d)=>some (.c d)
   | _=>none
  else none
 else none
noncomputable def c9 (c:TC) (x:Str):Bool:=glB c x&&(c.gt.lookup x).isNone
noncomputable def nE (x:Str):Option Bi :=
 if x = "len" then some .len else if x = "all" then some .all
 else if x = "list" then some .list else if x = "tuple" then some .tuple else if x = "str" then some .str1 else none
noncomputable def om (x:Str):Option Ty :=
 if x = "int" then some .int else if x = "bool" then some .bool else if x = "str" then some .str else if x = "list" then some .list else if x = "tuple" then some .tuple else if x = "dict" then some .dict else none
noncomputable def nK (x:Str):Option Me:=if x = "append" then some .append else if x = "extend" then some .extend else none
noncomputable def bO (f:PySem.Expr->Option E):List PySem.Expr->Option E
 | []=>some .nl
 | e::r=>match f e,bO f r with
  | some a,some b=>some (.cs a b)
  | _,_=>none
noncomputable def trO (f:PySem.Expr->Option E):Option PySem.Expr->Option E
 | none=>some .nl
 | some e=>match f e with
  | some .nl=>none
  | o=>o
noncomputable def f9 (c:TC):List PySem.Expr->Option (List Nat)
 | []=>some []
 | .Name x _::r=>if eU c x then match idx c.N x,f9 c r with
   | some i,some is=>some (i::is)
   | _,_=>none
  else none
 | _=>none
noncomputable def iQ (c:TC):PySem.Expr->Option Tg
 | .Name x _=>if eU c x then (idx c.N x).map .one else none
 | .Tuple es _ _=>(f9 c es).map .many
 | _=>none
noncomputable def isTup:PySem.Expr->Bool
 | .Tuple _ _ _=>true
 | _=>false
noncomputable def lC (c:TC) (x:Str):Bool:=c9 c x&&decide (x = "range")
noncomputable def mJ (c:TC) (x:Str):Bool:=c9 c x&&decide (x = "enumerate")
noncomputable def GH (c:TC) (x:Str):Bool:=c9 c x&&decide (x = "zip")
noncomputable def pair (es:List PySem.Expr):Bool:=decide (es.length=2)
noncomputable def few (es:List PySem.Expr):Bool:=decide (1<=es.length)&&decide (es.length<=3)
noncomputable def nH:PySem.Expr->Bool
 | .Set _ _ _=>false
 | _=>true
noncomputable def trI (f:PySem.Expr->Option E) (c:TC) (tg:PySem.Expr) (e:PySem.Expr):Option E :=
 if nH e then match e with
  | .Call (.Name x _) args [] _ =>
   if lC c x then (if few args then (bO f args).map .iRng else none)
   else if mJ c x then match isTup tg,args with
    | true,[a]=>(f a).map .iEnum
    | _,_=>none
   else (f e).map .iSeq
  | _=>if j0 e then (f e).map (fun a=>.iSeq (.bi .signs (.cs a .nl))) else (f e).map .iSeq
 else none
noncomputable def mangle (x:Str):Str:=⟨#[0]++x.cps⟩
noncomputable def iV (scope sc:Scope):Scope :=
 { scope with names:=scope.names.map fun (n,k)=>if (k==.free&&sc.kind==.function&&sc.names.lookup n==some .cell) then (n,.cell) else (n,k) }
noncomputable def isFree (scope:Scope) (x:Str):Bool:=scope.names.any fun y=>decide (y.1=x)&&decide (y.2=.free)
noncomputable def own (scope:Scope):List Str:=(scope.names.filter fun y=>decide (y.2=.local)||decide (y.2=.cell)).map (·.1)
noncomputable def iw (scope:Scope) (x:Str):Str:=if isFree scope x then x else mangle x
noncomputable def inComp (c:TC) (scope:Scope):TC:={ c with sc:=iV scope c.sc,N:=c.N.map (iw scope)++own scope,inF:=fun x=>decide (scope.names.lookup x=some .cell),top:=false }
noncomputable def gM:List Str->Bool
 | []=>true
 | x::r=>!(r.any fun y=>decide (y=x))&&gM r
noncomputable def lY (c:TC) (scope:Scope):Bool :=
 scope.names.all (fun y=>!decide (y.2=.free)||(match c.sc.names.lookup y.1 with|some .cell=>true|some .free=>true|_=>false)) &&
 gM (scope.names.map (·.1))&&decide (scope.kind=.function) &&
 scope.names.all (fun y=>!decide (y.2=.local)||decide (scope.names.lookup y.1=some .local)) &&
 gM (c.N.map (iw scope)++own scope) &&
 c.N.all (fun x=>if isFree scope x then !decide ((iV scope c.sc).names.lookup x=some .local) else !gi (iV scope c.sc) (mangle x))
noncomputable def Tg.uw (n:Nat):Tg->Bool
 | .one i=>decide (n<=i)
 | .many is=>is.all fun i=>decide (n<=i)
noncomputable def k9:PySem.Expr->Bool
 | .Call _ [] [] _=>false
 | _=>true
noncomputable def two (es:List PySem.Expr):Bool:=decide (es.length=1)||decide (es.length=2)
noncomputable def GV (c:TC) (x:Str):Bool:=c9 c x&&decide (x = "set")
noncomputable def GZ (c:TC) (x:Str):Bool:=c9 c x&&decide (x = "dict")
noncomputable def GI:List PySem.Expr->Bool
 | [_]=>true
 | _=>false
noncomputable def mS (c:TC) (x:Str):List PySem.Expr->Option (Bi × List PySem.Expr)
 | [.Name w q]=>if j0 (.Name w q) then (if x = "len" then some (.lenT,[.Name w q]) else if x = "int" then some (.intT,[.Name w q]) else none) else none
 | _=>none
noncomputable def l0:CmpOp->Option Bool
 | .Is=>some true
 | .IsNot=>some false
 | _=>none
noncomputable def ue:PySem.Expr->Bool
 | .Constant k _ _=>(match k with
  | .none=>true
  | _=>false)
 | _=>false
noncomputable def GU:PySem.Expr->Bool
 | .Constant k _ _=>(match k with
  | .bool _=>true
  | _=>false)
 | _=>false
noncomputable def GL:PySem.Expr->Bool
 | .UnaryOp .USub (.Constant k _ _) _=>(match k with
  | .int i=>decide (i=1)
  | _=>false)
 | _=>false
noncomputable def ju:PySem.Expr->Bool
 | .Constant k _ _=>(match k with
  | .str _=>true
  | _=>false)
 | _=>false
noncomputable def yR:List PySem.Expr->Bool
 | [e]=>ju e
 | _=>false
noncomputable def l7 (f:PySem.Expr->Option E) (a':E):Option PySem.Expr->Option PySem.Expr->Option E
 | none,some h=>(f h).map (fun h'=>.bi .tTo (.cs a' (.cs h' .nl)))
 | some l,none=>(f l).map (fun l'=>.bi .tFrom (.cs a' (.cs l' .nl)))
 | _,_=>none
noncomputable def trE:Nat->TC->PySem.Expr->Option E
 | 0,_,_=>none
 | n+1,c,e=>match e with
  | .Name x _=>mV c x
  | .Constant k _ _=>uG k
  | .BinOp a op b _=>match op2 op,trE n c a,trE n c b with
   | some o,some a',some b'=>some (.bin o a' b')
   | _,_,_=>none
  | .UnaryOp op a _=>match op,trE n c a with
   | .Not,some a'=>some (.not a')
   | .USub,some a'=>some (.neg a')
   | _,_=>none
  | .BoolOp op vs p=>match vs with
   | []=>none
   | [a]=>trE n c a
   | a::b::r=>match op,trE n c a,trE n c (.BoolOp op (b::r) p) with
    | .And,some a',some b'=>some (.and a' b')
    | .Or,some a',some b'=>some (.or a' b')
    | _,_,_=>none
  | .IfExp t a b _=>match trE n c t,trE n c a,trE n c b with
   | some t',some a',some b'=>some (.ite t' a' b')
   | _,_,_=>none
  | .Compare a ops cs _=>match ops,cs with
   | [op],[b]=>match l0 op with
    | some k=>if ue b then (trE n c a).map (fun x=>bif k then .isN x else .notN x) else none
    | none=>match lG op b,trE n c a,trE n c b,behindInMarks op b with
     | some o,some a',some b',false=>some (.cmp o a' b')
     | _,_,_,_=>none
   | [op,op'],[b,d]=>match cmO op,cmO op',trE n c a,trE n c b,trE n c d,lastMarks [op,op'] [b,d] with
    | some o,some o',some a',some b',some d',false=>some (.chn o o' a' b' d')
    | _,_,_,_,_,_=>none
   | _,_=>none
  | .Tuple es _ _=>(bO (trE n c) es).map .tup
  | .List es _=>(bO (trE n c) es).map .lst
  | .Dict ks vs _=>match ks,vs with
   | _,_=>none
  | .Subscript a i _=>match i with
   | .Slice lo hi none _=>if j0 a then (match trE n c a with
     | some a'=>l7 (trE n c) a' lo hi
     | none=>none) else match trE n c a,trO (trE n c) lo,trO (trE n c) hi with
    | some a',some l,some h=>some (.sl a' l h)
    | _,_,_=>none
   | .Slice _ _ (some _) _=>none
   | .Tuple es _ _=>none
   | i=>match trE n c a,trE n c i with
    | some a',some i'=>if ju a then some (.bi .tAt (.cs a' (.cs i' .nl))) else some (.ix a' i')
    | _,_=>none
  | .Call f args kws cpos=>match f,kws with
   | .Name x _,[] =>
    if bZ x&&glB c x then match c.gt.lookup x with
     | some .fn=>(bO (trE n c) args).map (.call x)
     | some _=>none
     | none =>
      if x = "isinstance" then match args with
       | [a,.Name y _]=>if bZ y&&c9 c y then match om y,trE n c a with
         | some t,some a'=>some (.bi (.inst t) (.cs a' .nl))
         | _,_=>none
        else none
       | _=>none
      else match mS c x args with
       | some (b,ra)=>(bO (trE n c) ra).map (.bi b)
       | none=>match args with
        | []=>none
        | a::r=>match nE x,bO (trE n c) (a::r) with
         | some b,some es=>some (.bi b es)
         | _,_=>none
    else none
   | .Attribute o name apos,[]=>match args with
    | []=>none
    | a::r=>if k9 o&&(apos.endLine==cpos.line)&&decide (args.length < 20) then match mU name,nK name,trE n c o,bO (trE n c) (a::r) with
      | some m,_,some o',some es=>some (.tm m o' es)
      | none,some m,some o',some es=>some (.me m o' es)
      | _,_,_,_=>none
     else none
   | _,_=>none
  | .ListComp elt gens scope _=>match gens with
   | [⟨tg,iter,ifs,asy⟩]=>if asy=0&&lY c scope then
     match trI (trE n c) c tg iter,iQ (inComp c scope) tg,trE n (inComp c scope) elt,(match ifs with|[]=>some .nl|[t]=>trO (trE n (inComp c scope)) (some t)|_=>none) with
     | some it,some t,some el,some tt=>if t.uw c.N.length then some (.comp (own scope).length el t it tt) else none
     | _,_,_,_=>none
    else none
   | _=>none
  | _=>none
noncomputable def jk:PySem.Expr->Bool
 | .ListComp _ _ _ _=>false
 | .SetComp _ _ _ _=>false
 | .DictComp _ _ _ _ _=>false
 | _=>true
noncomputable def ur:PySem.Expr->PySem.Expr->Bool
 | .Name _ _,_=>true
 | .Tuple _ _ _,v=>!isTup v&&jk v
 | _,_=>false
noncomputable def dI (f:Stmt->Option S):List Stmt->Option S
 | []=>some .skip
 | [s]=>f s
 | s::r=>match f s,dI f r with
  | some a,some b=>some (.seq a b)
  | _,_=>none
noncomputable def lF (c:TC):PySem.Expr->Option S
 | .Call f args kws _=>match f,kws with
  | .Name x _,[]=>if yR args&&(bZ x&&glB c x) then match c.gt.lookup x with
    | some .cls=>some (.rais x)
    | _=>none
   else none
  | _,_=>none
 | _=>none
noncomputable def G6:PySem.Expr->Bool
 | .Slice _ _ _ _=>false
 | .Tuple _ _ _=>false
 | _=>true
noncomputable def cY (c:TC) (n:Str):PySem.Expr->Bool
 | .Call (.Name x _) [.Name y _,.Name d _] [] _=>(decide (x = "isinstance")&&decide (y=n))&&(c9 c "isinstance"&&((decide (d = "LapError")&&glB c d&&(match c.gt.lookup d with|some .cls=>true|_=>false))||(decide (d = "ValueError")&&c9 c d)))
 | _=>false
noncomputable def fk (k d:Str):Bool:=(decide (k = "NoLoop")&&decide (d = "NoPlan"))||(decide (k = "NoText")&&decide (d = "NoLoop"))
noncomputable def dM (c:TC) (n k:Str):PySem.Expr->Bool
 | .UnaryOp .Not (.Call (.Name x _) [.Name y _,.Name d _] [] _) _=>(decide (x = "isinstance")&&decide (y=n))&&(c9 c "isinstance"&&(fk k d&&glB c d&&(match c.gt.lookup d with|some .cls=>true|_=>false)))
 | _=>false
noncomputable def fK (c:TC) (n k:Str):List PySem.Expr->Bool
 | []=>false
 | [t]=>cY c n t||dM c n k t
 | t::r=>(cY c n t||dM c n k t)&&fK c n k r
noncomputable def kI (c:TC) (n k:Str):PySem.Expr->Option D
 | .BoolOp .And ts _=>if fK c n k ts then some (.bl true) else none
 | .BinOp (.Constant (.str x) _ _) .Mult (.Call (.Name y _) [.BoolOp .And ts _] [] _) _=>if (decide (y = "int")&&c9 c "int")&&fK c n k ts then some (.str x) else none
 | _=>none
noncomputable def lN (c:TC) (f:PySem.Expr->Option E):List Stmt->List ExceptHandler->Option S
 | [.Return (some (.Call (.Name x _) (a::as) [] _)) _],[.ExceptHandler (some (.Name k _)) (some n) [.Return (some kx) _] _] =>
  if ((c.top&&(bZ x&&glB c x))&&(bZ k&&glB c k))&&(bZ n&&decide (c.sc.names.lookup n=some .local)) then match c.gt.lookup x,c.gt.lookup k,bO f (a::as),kI c n k kx,idx c.N n with
   | some .fn,some .cls,some es,some d,some _=>some (.tryR x es k d)
   | _,_,_,_,_=>none
  else none
 | [.Return (some (.Call (.Name x _) (a::as) [] _)) _],[.ExceptHandler (some (.Name k _)) (some n) [.If (.BoolOp .And ts _) [.Return (some (.Constant .none _ _)) _] [] _] _] =>
  if (((c.top&&(bZ x&&glB c x))&&(bZ k&&glB c k))&&(bZ n&&decide (c.sc.names.lookup n=some .local)))&&fK c n k ts then match c.gt.lookup x,c.gt.lookup k,bO f (a::as),idx c.N n with
   | some .fn,some .cls,some es,some _=>some (.tryR x es k .non)
   | _,_,_,_=>none
  else none
 | [.Expr (.Call (.Name x _) (a::as) [] _) _],[.ExceptHandler (some (.Name k _)) (some n) [.Return (some kx) _] _] =>
  if ((c.top&&(bZ x&&glB c x))&&(bZ k&&glB c k))&&(bZ n&&decide (c.sc.names.lookup n=some .local)) then match c.gt.lookup x,c.gt.lookup k,bO f (a::as),kI c n k kx,idx c.N n with
   | some .fn,some .cls,some es,some d,some _=>some (.tryE x es k d)
   | _,_,_,_,_=>none
  else none
 | _,_=>none
noncomputable def mZ (c:TC) (f:PySem.Expr->Option E):List Stmt->List ExceptHandler->Option S
 | [.Return (some (.Call (.Name x _) (a::as) [] _)) _],[.ExceptHandler (some (.Name k _)) none [.Return (some (.Constant .none _ _)) _] _] =>
  if (c.top&&(bZ x&&glB c x))&&(bZ k&&glB c k) then match c.gt.lookup x,c.gt.lookup k,bO f (a::as) with
   | some .fn,some .cls,some es=>some (.tryR x es k .non)
   | _,_,_=>none
  else none
 | b,hs=>lN c f b hs
noncomputable def trS (m:Nat):Nat->TC->Stmt->Option S
 | 0,_,_=>none
 | n+1,c,s=>match s with
  | .Return none _=>some .retN
  | .Return (some e) _=>(trE m c e).map .ret
  | .Expr e _=>if ju e then some .skip else if jk e then (trE m c e).map .ex else none
  | .Pass _=>some .skip
  | .Assign ts e _=>match ts with
   | [tg]=>if ur tg e then match iQ c tg,trE m c e with
     | some t,some e'=>some (.set t e')
     | _,_=>none
    else none
   | _=>none
  | .If t a b _=>match trE m c t,dI (trS m n c) a,dI (trS m n c) b with
   | some t',some a',some b'=>some (.ite t' a' b')
   | _,_,_=>none
  | .For tg it body els _=>match els,iQ c tg,trI (trE m c) c tg it,dI (trS m n c) body with
   | [],some t,some i,some b=>some (.forS t i b)
   | _,_,_,_=>none
  | .Raise (some e) none _=>lF c e
  | .Try body hs [] [] _=>mZ c (trE m c) body hs
  | _=>none
noncomputable def depth:Nat:=60
noncomputable def argNames (a:Arguments):List Str:=a.args.map (·.arg)
noncomputable def kY (a:Arguments):Bool:=a.posonlyargs.isEmpty&&a.vararg.isNone&&a.kwonlyargs.isEmpty&&a.kw_defaults.isEmpty&&a.kwarg.isNone&&a.defaults.isEmpty
noncomputable def namesOf (a:Arguments) (sc:Scope):List Str:=argNames a++(sc.names.filter fun y=>(decide (y.2=.local)||decide (y.2=.cell))&&!((argNames a).any fun x=>decide (x=y.1))).map (·.1)
noncomputable def f_ (gt:List (Str × GE)) (a:Arguments) (sc:Scope):TC:=⟨sc,namesOf a sc,fun _=>true,true,gt⟩
noncomputable def dO (a:Arguments) (sc:Scope):Bool :=
 kY a&&decide (sc.kind=.function)&&!sc.isCoroutine&&!sc.isGenerator&&gM (namesOf a sc)&&(argNames a).all (fun x=>match sc.names.lookup x with|some .local=>true|some .cell=>true|_=>false)&&sc.names.all fun y=>!decide (y.2=.free)
noncomputable def trF (gt:List (Str × GE)):Stmt->Option Fn
 | .FunctionDef _ a body _ _ _ sc _ _ _=>if dO a sc then (dI (trS depth depth (f_ gt a sc)) body).map fun b=>⟨(argNames a).length,(namesOf a sc).length,b⟩ else none
 | _=>none
end EV

namespace EV
open PySem PySem.Spec PyProof.Rows L2
theorem fZ:∀ {l:List Str} {x:Str} {i:Nat},idx l x=some i->l[i]?=some x
 | [],_,_,h=>by cases h
 | y::r,x,i,h=>by
  unfold idx at h
  by_cases e:y=x
  ·rw [if_pos e] at h; cases h; subst e; rfl
  ·rw [if_neg e] at h
   cases q:idx r x with
   | none=>rw [q] at h; cases h
   | some j=>rw [q] at h; cases h; show r[j]?=some x; exact fZ q
theorem j5:∀ {l:List Str},gM l=true->l.Nodup
 | [],_=>List.nodup_nil
 | x::r,h=>by
  rw [gM,Bool.and_eq_true] at h
  refine List.nodup_cons.mpr ⟨fun m=>?_,j5 h.2⟩
  have:(r.any fun y=>decide (y=x))=true:=List.any_eq_true.mpr ⟨x,m,decide_eq_true rfl⟩
  rw [this] at h; exact absurd h.1 (by simp)
theorem EB {sc:Scope} {x:Str} (h:gi sc x=true):Vis sc x:=by
 unfold gi at h
 unfold Vis
 cases q:sc.names.lookup x with
 | none=>rw [q] at h; cases h
 | some k=>rw [q] at h; cases k <;> first|exact .inl rfl|exact .inr (.inl rfl)|exact .inr (.inr rfl)|cases h
theorem A9 {sc:Scope} {x:Str} (h:Vis sc x):gi sc x=true:=by
 unfold gi
 rcases h with h|h|h <;> rw [h]
theorem cz {x:Str} (h:bZ x=true):(x==("__debug__" : Str))=false/\(x==("__classdict__" : Str))=false:=by
 unfold bZ at h
 rw [Bool.and_eq_true] at h
 exact ⟨by simpa using h.1,by simpa using h.2⟩
structure Cok (c:TC) (X:Cx):Prop where
 sc:X.env.scope=c.sc
 N:X.N=c.N
 nd:X.N.Nodup
 kind:c.sc.kind=.function
 fn:∀ x,c.inF x=true->X.fn x=true
 stk:c.top=true->X.stack=X.env::X.outer/\X.env.frame=some X.env.locals
theorem Cok.gl {c:TC} {X:Cx} (C:Cok c X) {x:Str} (h:glB c x=true):Gl X x:=by
 show X.env.scope.names.lookup x=_
 rw [C.sc]; exact of_decide_eq_true h
theorem Cok.loc {c:TC} {X:Cx} (C:Cok c X) {x:Str} (h:eU c x=true):L2.Loc X.env.scope x/\(X.fn x=true\/X.env.scope.names.lookup x=some .local):=by
 unfold eU at h
 unfold L2.Loc
 rw [C.sc]
 cases q:c.sc.names.lookup x with
 | none=>rw [q] at h; cases h
 | some k =>
  rw [q] at h
  cases k with
  | «local»=>exact ⟨.inl rfl,.inr rfl⟩
  | cell=>exact ⟨.inr rfl,.inl (C.fn x h)⟩
  | _=>cases h
theorem C9 {scope:Scope} {env:Env}:relabel scope env=iV scope env.scope:=rfl
noncomputable def fj:List Str:=["len","all","any","sum","min","max","sorted","abs","list","tuple","int","bool","str","dict","range","enumerate","isinstance","set","zip","ValueError"]
section
variable (Γ:Gx) (W:XW->Prop) (CX:CXT) (EW:XW->XK)
noncomputable def spF (g:List D->M D) (n:Nat):Sp:=fun vs H Q E=>vs.length=n/\∃ xw,W xw/\E=EW xw/\∃ ι S ds,ay Γ ι H S/\az Γ ι H ds vs/\Out Γ xw ι H (g ds S) fun d _ ι' H'=>∀ v,Rep Γ ι' H' d v->Q v H'
noncomputable def EWx (K:PySem.W.Frag):XW->XK:=fun xw cls _ H'=>∃ c C,cls=.ref C/\PySem.W.nsIn K mainGlobals c=some (some (.ref C))/\∃ S ι,xw c S ι H'
theorem ewF {K:PySem.W.Frag} {cls:Value} {o:Option Addr} {H:Hp} (h:EWx K XF cls o H):False:=by
 obtain ⟨_,_,_,_,_,_,z⟩:=h
 exact z
noncomputable def ClsAt (K:PySem.W.Frag) (x:Str):Prop:=∃ C newId initId B bmB,PySem.W.nsIn K mainGlobals x=some (some (.ref C))/\PySem.W.excIn K C bmB newId=true/\ExcBaseFacts B newId initId bmB/\PySem.W.kitOne K (.ref C) (.type "ValueError")=some true /\
 (∃ L,PySem.W.nsIn K mainGlobals "LapError" = some (some (.ref L))/\PySem.W.kitOne K (.ref C) (.ref L)=some true) /\
 (∀ d P,fk x d=true->PySem.W.nsIn K mainGlobals d=some (some (.ref P))->fE K C/\PySem.W.kitOne K (.ref C) (.ref P)=some false)
structure Fam (gt:List (Str × GE)) (cf:Str->List D->M D) (X:Cx) (xw:XW):Prop where
 hK:Γ.K=X.K
 calm:X.calm=true
 un:X.A.units+64 < cLine
 blt:∀ x∈fj,gt.lookup x=none->X.mg x=none
 val:∀ x d,gt.lookup x=some (.val d)->∃ u v,X.mg x=some u/\RelV v u/\∀ ι H,Rep Γ ι H d v
 fn:∀ x,gt.lookup x=some .fn->∃ k f fd ps,c6 X.prog X.w X.K X.mg X.base CX k f fd ps (spF Γ W EW (cf x) ps.length)/\bS k X.A/\X.mg x=some (.ref f)/\PySem.W.keepIn X.K (.ref f)=true/\Binds X.K fd ps []/\∀ ds S,ds.length≠ps.length->cf x ds S=.bad
 pass:Passes CX X (EW xw)
 rp:Passes (CXr X.prog X.w) X (EW xw)
 cls:∀ x,gt.lookup x=some .cls->ClsAt X.K x/\∀ C,PySem.W.nsIn X.K mainGlobals x=some (some (.ref C))->X.mg x=some (.ref C)
 cx:CX=CXe X.prog X.w
 ew:EW=EWx X.K
 wt:∀ xw,W xw
end
section
variable {Γ:Gx} {W:XW->Prop} {CX:CXT} {EW:XW->XK} {gt:List (Str × GE)} {cf:Str->List D->M D} {X:Cx} {xw:XW}
theorem Fam.noR (F:Fam Γ W CX EW gt cf X xw) {st:Heap->Heap->Addr->Addr->Prop} {outer:List Env} {H:Hp} {s:Shared} {e:Value} {s':Shared} (h:CXg st X.prog X.w outer H s (EW XF) e s'):False:=by
 obtain ⟨_,_,_,_,_,_,_,_,_,_,_,_,z⟩:=h
 rw [F.ew] at z
 exact ewF z
theorem Fam.noF (F:Fam Γ W CX EW gt cf X xw) {outer:List Env} {H:Hp} {s:Shared} {e:Value} {s':Shared} (h:CX outer H s (EW XF) e s'):False:=by
 rw [F.cx] at h
 exact F.noR h
theorem Fam.ok (F:Fam Γ W CX EW gt cf X xw):W xw:=F.wt xw
theorem Fam.nox (F:Fam Γ W CX EW gt cf X xw):Fam Γ W CX EW gt cf X.nox XF :=
 ⟨F.hK,F.calm,F.un,F.blt,F.val,F.fn,fun _ _ _ _ _ _ _ h=>(F.noF h).elim,fun _ _ _ _ _ _ _ h=>(F.noR h).elim,F.cls,F.cx,F.ew,F.wt⟩
theorem Fam.comp (F:Fam Γ W CX EW gt cf X xw) (scope:Scope) (cl:List (Str × Addr)) (N':List Str) (fp:List Addr) (s3:Shared) (H3:Hp):Fam Γ W CX EW gt cf (aU X scope cl N' fp s3 H3) XF :=
 ⟨F.hK,F.calm,F.un,F.blt,F.val,F.fn,fun _ _ _ _ _ _ _ h=>(F.noF h).elim,fun _ _ _ _ _ _ _ h=>(F.noR h).elim,F.cls,F.cx,F.ew,F.wt⟩
theorem Cok.nox {c:TC} (C:Cok c X):Cok c X.nox:=⟨C.sc,C.N,C.nd,C.kind,C.fn,C.stk⟩
end
theorem yf {scope:Scope} {x:Str} (h:isFree scope x=true):(x,NameKind.free)∈scope.names:=by
 obtain ⟨⟨n,k⟩,m,e⟩:=List.any_eq_true.mp h
 rw [Bool.and_eq_true] at e
 obtain ⟨e1,e2⟩:=e
 have e1:n=x:=of_decide_eq_true e1
 have e2:k=.free:=of_decide_eq_true e2
 subst e1; subst e2; exact m
theorem oW {c:TC} {X:Cx} {scope:Scope} (C:Cok c X) (h:lY c scope=true):fQ X scope (inComp c scope).N (own scope).length /\
  ∀ cl fp s3 H3,Cok (inComp c scope) (aU X scope cl (inComp c scope).N fp s3 H3):=by
 unfold lY at h
 simp only [Bool.and_eq_true] at h
 obtain ⟨⟨⟨⟨⟨h1,h2⟩,h3⟩,h4⟩,h5⟩,h6⟩:=h
 rw [List.all_eq_true] at h1 h4 h6
 have hrel:relabel scope X.env=iV scope c.sc:=by rw [C9,C.sc]
 refine ⟨⟨fun y hy hf=>?_,j5 h2,of_decide_eq_true h3,fun y hy hl=>?_,?_,fun i x hi hx hv=>?_⟩,fun cl fp s3 H3=>⟨hrel,rfl,j5 h5,?_,fun _ h=>h,fun z=>by cases z⟩⟩
 ·have:=h1 y hy
  rw [Bool.or_eq_true] at this
  rcases this with z|z
  ·rw [hf] at z; simp at z
  ·show X.env.scope.names.lookup y.1=_\/X.env.scope.names.lookup y.1=_
   rw [C.sc]
   cases q:c.sc.names.lookup y.1 with
   | none=>rw [q] at z; cases z
   | some k=>rw [q] at z; cases k <;> first|exact .inl rfl|exact .inr rfl|cases z
 ·have:=h4 y hy
  rw [Bool.or_eq_true] at this
  rcases this with z|z
  ·rw [hl] at z; simp at z
  ·exact of_decide_eq_true z
 ·show (c.N.map (iw scope)++own scope).length=_
  rw [List.length_append,List.length_map,C.N]
 ·have hx:(c.N.map (iw scope)++own scope)[i]?=some x:=hx
  have hi':i < c.N.length:=by rw [<- C.N]; exact hi
  rw [List.getElem?_append_left (by rw [List.length_map]; exact hi'),List.getElem?_map,List.getElem?_eq_getElem hi'] at hx
  have hx:iw scope c.N[i]=x:=Option.some.inj hx
  have hm:=h6 c.N[i] (List.getElem_mem hi')
  rw [hrel] at hv ⊢
  unfold iw at hx
  by_cases hf:isFree scope c.N[i]=true
  ·rw [if_pos hf] at hx hm
   subst hx
   refine ⟨by rw [C.N]; exact List.getElem?_eq_getElem hi',yf hf,fun z=>?_⟩
   rw [z] at hm; simp at hm
  ·rw [if_neg hf] at hx hm
   subst hx
   rw [A9 hv] at hm; simp at hm
 ·exact of_decide_eq_true h3
end EV

namespace EV
open PySem PySem.Spec PyProof.Rows L2
theorem bM {n:Nat} {c:TC} {a:PySem.Expr} {a':E} (h:trE n c a=some a'):∀ es env,starEach (a::es) env=(false,eval a env)::starEach es env:=by
 cases n with
 | zero=>cases h
 | succ n=>cases a <;> first|(intro _ _; rfl)|cases h
theorem b7 {f:PySem.Expr->Option E} {e:PySem.Expr} {r:List PySem.Expr} {es:E} (h:bO f (e::r)=some es):∃ a b,f e=some a/\bO f r=some b/\es=.cs a b:=by
 unfold bO at h
 cases q:f e with
 | none=>rw [q] at h; cases h
 | some a =>
  rw [q] at h
  cases q2:bO f r with
  | none=>rw [q2] at h; cases h
  | some b=>rw [q2] at h; cases h; exact ⟨a,b,rfl,rfl,rfl⟩
theorem cZ {n:Nat} {c:TC}:∀ {es:List PySem.Expr} {es':E},bO (trE n c) es=some es'->∀ env pos,(backTo pos (starEach es env)).any (·.1)=false/\(backTo pos (starEach es env)).all (fun x=>!x.1)=true
 | [],_,_,_,_=>⟨rfl,rfl⟩
 | e::r,_,h,env,pos=>by
  obtain ⟨a,b,h1,h2,_⟩:=b7 h
  rw [bM h1]
  obtain ⟨z1,z2⟩:=cZ h2 env pos
  constructor
  ·show (List.map _ ((false,eval e env)::starEach r env)).any _=false
   rw [List.map_cons,List.any_cons]
   have:(List.map (fun x:Bool × Sem Value=>(x.1,if x.1=true then do let v <- x.2; standAt pos; pure v else x.2)) (starEach r env)).any (·.1)=false:=z1
   simpa using this
  ·show (List.map _ ((false,eval e env)::starEach r env)).all _=true
   rw [List.map_cons,List.all_cons]
   have:(List.map (fun x:Bool × Sem Value=>(x.1,if x.1=true then do let v <- x.2; standAt pos; pure v else x.2)) (starEach r env)).all (fun x=>!x.1)=true:=z2
   simpa using this
section
variable {Γ:Gx} {W:XW->Prop} {CX:CXT} {EW:XW->XK} {gt:List (Str × GE)} {cf:Str->List D->M D} {sub:Sub} {X:Cx} {xw:XW}
theorem Bx (hw:W xw) {ps:List Str} {m:Sg->M (List D)} {i:Str} (hb:∀ ds S,ds.length≠ps.length->cf i ds S=.bad) {σ:L2.St} {H:Hp} {Q:VK} (h:tM Γ xw (fun σ=>m σ>>=cf i) σ H Q) :
  mQ (spF Γ W EW (cf i) ps.length) [] (EW xw) (tMA Γ xw m) σ H Q:=by
 obtain ⟨σd,ι,S,he,hs,ho⟩:=h
 refine ⟨σd,ι,S,he,hs,ho.bind.mono fun ds S' ι' H' _ _ ⟨s',e',o'⟩ vs rs=>?_⟩
 show spF Γ W EW (cf i) ps.length (vs++[]) H' Q (EW xw)
 rw [List.append_nil]
 refine ⟨?_,xw,hw,rfl,ι',S',ds,s',rs,o'⟩
 by_cases hl:ds.length=ps.length
 ·rw [<- rs.length]; exact hl
 ·rw [hb ds S' hl] at o'; exact o'.elim
theorem BP (F:Fam Γ W CX EW gt cf X xw) {x:Str} (hx:gt.lookup x=some .fn) (hg:Gl X x) (hdb:(x==("__debug__" : Str))=false) {a:PySem.Expr} {es:List PySem.Expr} {m:Sg->M (List D)} {p pos:Pos}
  (ha:PA X (a::es) (tMA Γ xw m)) (he:starEach (a::es) X.env=(false,eval a X.env)::starEach es X.env) (hpl:(backTo pos (starEach es X.env)).any (·.1)=false) :
  PE X (.Call (.Name x p) (a::es) [] pos) (tM Γ xw fun σ=>m σ>>=cf x):=by
 obtain ⟨k,f,fd,ps,hf,hr,hm,hk,hb,hl⟩:=F.fn x hx
 exact PE.imp (DS hf hr hg hm hk hb .nil F.pass ha hdb he hpl) fun σ H Q h=>Bx F.ok hl h
theorem EK (F:Fam Γ W CX EW gt cf X xw) {x:Str} (hx:gt.lookup x=some .fn) (hg:Gl X x) (hdb:(x==("__debug__" : Str))=false) {p pos:Pos} :
  PE X (.Call (.Name x p) [] [] pos) (tM Γ xw fun _=>cf x []):=by
 obtain ⟨k,f,fd,ps,hf,hr,hm,hk,hb,hl⟩:=F.fn x hx
 refine PE.imp (C2 hf hr hg hm hk hb .nil F.pass hdb) fun σ H Q h=>?_
 obtain ⟨σd,ι,S,he,hs,ho⟩:=h
 have ho:Out Γ xw ι H (cf x [] S) fun d x ι' H'=>∀ (v:V),Rep Γ ι' H' d v->Q v H':=ho
 refine ⟨?_,xw,F.ok,rfl,ι,S,[],hs,.nil,ho⟩
 by_cases hz:([]:List D).length=ps.length
 ·exact hz
 ·rw [hl [] S hz] at ho; exact ho.elim
theorem tD (F:Fam Γ W CX EW gt cf X xw) {x:Str} (h:gt.lookup x=none) (hm:x∈fj):X.mg x=none:=F.blt x hm h
theorem xx (F:Fam Γ W CX EW gt cf X xw) {x:Str} {b:Bi} (hb:nE x=some b) (hn:gt.lookup x=none) (hg:Gl X x) {a:PySem.Expr} {es:List PySem.Expr} {m:Sg->M (List D)} {p pos:Pos}
  (ha:PA X (a::es) (tMA Γ xw m)) (he:starEach (a::es) X.env=(false,eval a X.env)::starEach es X.env) (hpl:(backTo pos (starEach es X.env)).any (·.1)=false) :
  PE X (.Call (.Name x p) (a::es) [] pos) (tM Γ xw fun σ=>m σ>>=biD sub b):=by
 have hm:x∈fj->X.mg x=none:=tD F hn
 unfold nE at hb
 by_cases e:x = "len"
 ·subst e; rw [if_pos rfl] at hb; cases hb
  exact mK (zN F.hK) hg (hm (by decide +kernel)) PySem.boot_len ha (by decide +kernel) (by decide +kernel) he hpl
 rw [if_neg e] at hb; clear e
 by_cases e:x = "all"
 ·subst e; rw [if_pos rfl] at hb; cases hb
  exact mK (A_ F.hK F.calm) hg (hm (by decide +kernel)) boot_all ha (by decide +kernel) (by decide +kernel) he hpl
 rw [if_neg e] at hb; clear e
 by_cases e:x = "list"
 ·subst e; rw [if_pos rfl] at hb; cases hb
  exact kR (wD F.hK) hg (hm (by decide +kernel)) PyProof.Rows.boot_list ha (by decide +kernel) (by decide +kernel) he hpl
 rw [if_neg e] at hb; clear e
 by_cases e:x = "tuple"
 ·subst e; rw [if_pos rfl] at hb; cases hb
  exact kR (A8 F.hK) hg (hm (by decide +kernel)) PyProof.Rows.boot_tuple ha (by decide +kernel) (by decide +kernel) he hpl
 rw [if_neg e] at hb; clear e
 by_cases e:x = "str"
 ·subst e; rw [if_pos rfl] at hb; cases hb
  exact kR Fd hg (hm (by decide +kernel)) PyProof.Rows.boot_str ha (by decide +kernel) (by decide +kernel) he hpl
 rw [if_neg e] at hb; cases hb
theorem Eu (F:Fam Γ W CX EW gt cf X xw) {y:Str} {t:Ty} (hb:om y=some t) (hn:gt.lookup y=none):∃ T,t.name=some T/\bootBuiltins y=some (.type T)/\X.mg y=none/\y≠"__name__"/\(y==("__debug__" : Str))=false:=by
 have hm:y∈fj->X.mg y=none:=tD F hn
 unfold om at hb
 by_cases e:y = "int"
 ·subst e; rw [if_pos rfl] at hb; cases hb
  exact ⟨_,rfl,PyProof.Rows.boot_int,hm (by decide +kernel),by decide +kernel,by decide +kernel⟩
 rw [if_neg e] at hb; clear e
 by_cases e:y = "bool"
 ·subst e; rw [if_pos rfl] at hb; cases hb
  exact ⟨_,rfl,PyProof.Rows.boot_bool,hm (by decide +kernel),by decide +kernel,by decide +kernel⟩
 rw [if_neg e] at hb; clear e
 by_cases e:y = "str"
 ·subst e; rw [if_pos rfl] at hb; cases hb
  exact ⟨_,rfl,PyProof.Rows.boot_str,hm (by decide +kernel),by decide +kernel,by decide +kernel⟩
 rw [if_neg e] at hb; clear e
 by_cases e:y = "list"
 ·subst e; rw [if_pos rfl] at hb; cases hb
  exact ⟨_,rfl,PyProof.Rows.boot_list,hm (by decide +kernel),by decide +kernel,by decide +kernel⟩
 rw [if_neg e] at hb; clear e
 by_cases e:y = "tuple"
 ·subst e; rw [if_pos rfl] at hb; cases hb
  exact ⟨_,rfl,PyProof.Rows.boot_tuple,hm (by decide +kernel),by decide +kernel,by decide +kernel⟩
 rw [if_neg e] at hb; clear e
 by_cases e:y = "dict"
 ·subst e; rw [if_pos rfl] at hb; cases hb
  exact ⟨_,rfl,PyProof.Rows.boot_dict,hm (by decide +kernel),by decide +kernel,by decide +kernel⟩
 rw [if_neg e] at hb; cases hb
theorem zE {o:PySem.Expr} {name:Str} {env:Env} (hc0:k9 o=true):attributeBase o name env (eval o env)=eval o env:=by
 unfold attributeBase
 cases o with
 | Call f as ks p =>
  cases as with
  | cons _ _=>cases f <;> rfl
  | nil =>
   cases ks with
   | nil=>cases hc0
   | cons _ _=>cases f <;> rfl
 | _=>rfl
theorem wM (F:Fam Γ W CX EW gt cf X xw) {name:Str} {me:Me} (hb:nK name=some me) {o a:PySem.Expr} {es:List PySem.Expr} {apos cpos:Pos} {mo:Sg->M D} {m:Sg->M (List D)}
  (ho:PE X o (tM Γ xw mo)) (ha:PA X (a::es) (tMA Γ xw m)) (hc0:k9 o=true) (hlen:(a::es).length < 20) (hall:(backTo cpos (starEach (a::es) X.env)).all (fun x=>!x.1)=true)
  (hline:(apos.endLine==cpos.line)=true) (hs:starEach (a::es) X.env=(false,eval a X.env)::starEach es X.env) (hplain:(backTo cpos (starEach es X.env)).any (·.1)=false) :
  PE X (.Call (.Attribute o name apos) (a::es) [] cpos) (tM Γ xw fun σ=>mo σ>>=fun x=>kJ x (m σ>>=fun ds=>meD me x ds)):=by
 have hbase:attributeBase o name X.env (eval o X.env)=eval o X.env:=by
  unfold attributeBase
  cases o with
  | Call f as ks p =>
   cases as with
   | cons _ _=>cases f <;> rfl
   | nil =>
    cases ks with
    | nil=>cases hc0
    | cons _ _=>cases f <;> rfl
  | _=>rfl
 have hfew:((backTo cpos (starEach (a::es) X.env)).all (fun x=>!x.1)&&(backToKw cpos (keywordEach [] X.env)).all (fun x=>x.1.isSome)&&decide ((a::es).length+([]:List Keyword).length+(if ([]:List Keyword).isEmpty then 0 else 1) < 30))=true:=by
  rw [hall]
  show (true&&true&&decide ((a::es).length+0+0 < 30))=true
  rw [decide_eq_true (show (a::es).length+0+0 < 30 by omega)]
  rfl
 unfold nK at hb
 by_cases e:name = "append"
 ·subst e; rw [if_pos rfl] at hb; cases hb
  exact oO F.hK PySem.F.plainAttrs_list PySem.F.slot_list_append PySem.F.type_list_append Bd ho ha hbase hfew hline hs hplain
 rw [if_neg e] at hb; clear e
 by_cases e:name = "extend"
 ·subst e; rw [if_pos rfl] at hb; cases hb
  exact oO F.hK PySem.F.plainAttrs_list PySem.F.slot_list_extend PySem.F.type_list_extend EU ho ha hbase hfew hline hs hplain
 rw [if_neg e] at hb; cases hb
theorem Gv (F:Fam Γ W CX EW gt cf X xw) {name:Str} {m:Tm} (hb:mU name=some m) {o a:PySem.Expr} {es:List PySem.Expr} {apos cpos:Pos} {mo:Sg->M D} {ma:Sg->M (List D)}
  (ho:PE X o (tM Γ xw mo)) (ha:PA X (a::es) (tMA Γ xw ma)) (hc0:k9 o=true) (hlen:(a::es).length < 20) (hall:(backTo cpos (starEach (a::es) X.env)).all (fun x=>!x.1)=true)
  (hline:(apos.endLine==cpos.line)=true) (hs:starEach (a::es) X.env=(false,eval a X.env)::starEach es X.env) (hplain:(backTo cpos (starEach es X.env)).any (·.1)=false) :
  PE X (.Call (.Attribute o name apos) (a::es) [] cpos) (tM Γ xw fun σ=>mo σ>>=fun x=>iE x fun z=>ma σ>>=fun ds=>g9 m z ds):=by
 have hbase:attributeBase o name X.env (eval o X.env)=eval o X.env:=zE hc0
 have hfew:((backTo cpos (starEach (a::es) X.env)).all (fun x=>!x.1)&&(backToKw cpos (keywordEach [] X.env)).all (fun x=>x.1.isSome)&&decide ((a::es).length+([]:List Keyword).length+(if ([]:List Keyword).isEmpty then 0 else 1) < 30))=true:=by
  rw [hall]
  show (true&&true&&decide ((a::es).length+0+0 < 30))=true
  rw [decide_eq_true (show (a::es).length+0+0 < 30 by omega)]
  rfl
 unfold mU at hb
 by_cases e:name = "join"
 ·subst e; rw [if_pos rfl] at hb; cases hb
  exact j4 PySem.F.slot_str_join PySem.F.type_str_join (vI F.hK) ho ha hbase hfew hline hs hplain
 rw [if_neg e] at hb; clear e
 by_cases e:name = "split"
 ·subst e; rw [if_pos rfl] at hb; cases hb
  exact j4 PySem.F.slot_str_split PySem.F.type_str_split m_split ho ha hbase hfew hline hs hplain
 rw [if_neg e] at hb; clear e
 by_cases e:name = "startswith"
 ·subst e; rw [if_pos rfl] at hb; cases hb
  exact j4 PySem.F.slot_str_startswith PySem.F.type_str_startswith vj ho ha hbase hfew hline hs hplain
 rw [if_neg e] at hb; clear e
 by_cases e:name = "partition"
 ·subst e; rw [if_pos rfl] at hb; cases hb
  exact j4 PySem.F.slot_str_partition PySem.F.type_str_partition Ey ho ha hbase hfew hline hs hplain
 rw [if_neg e] at hb; cases hb
end
end EV

namespace EV
open PySem PySem.Spec PyProof.Rows L2
section
variable (Γ:Gx) (sub:Sub) (cf:Str->List D->M D)
structure ClE (X:Cx) (xw:XW) (e:PySem.Expr) (e':E):Prop where
 pe:PE X e (tM Γ xw (ev sub cf e'))
 pt:PT X e (tMT Γ xw (evT sub cf e'))
 pw:(∃ op vs p,e=.BoolOp op vs p)->PW X e (tMT Γ xw (evT sub cf e'))
end
section
variable {Γ:Gx} {W:XW->Prop} {CX:CXT} {EW:XW->XK} {gt:List (Str × GE)} {cf:Str->List D->M D} {sub:Sub} {X:Cx} {xw:XW}
theorem p_ {e:PySem.Expr}:PT X e (tMT Γ xw fun _=>bad):=fun _ _ _ _ _ _ h=>by
 obtain ⟨_,_,_,_,_,ho⟩:=h
 exact ho.elim
theorem noBool {e:PySem.Expr} (h:∀ op vs p,e≠.BoolOp op vs p) {P:Prop}:(∃ op vs p,e=.BoolOp op vs p)->P:=fun ⟨op,vs,p,q⟩=>(h op vs p q).elim
theorem bJ {e:PySem.Expr} {e':E} (hK:Γ.K=X.K) (h:PE X e (tM Γ xw (ev sub cf e'))) (he:∀ whole,isTrue e X.env whole=(do let v <- whole; standAt e.pos; holding [v] (truthy v)))
  (hb:(evT sub cf e'=fun σ=>ev sub cf e' σ>>=truth)\/evT sub cf e'=fun _=>bad) (hn:∀ op vs p,e≠.BoolOp op vs p):ClE Γ sub cf X xw e e':=by
 refine ⟨h,?_,noBool hn⟩
 rcases hb with q|q
 ·rw [q]; exact yq hK h he
 ·rw [q]; exact p_
theorem Dl {c:TC} {x:Str} {p:Pos} {e':E} (F:Fam Γ W CX EW c.gt cf X xw) (C:Cok c X) (h:mV c x=some e'):ClE Γ sub cf X xw (.Name x p) e':=by
 unfold mV at h
 by_cases h1:bZ x=true
 ·rw [if_pos h1] at h
  obtain ⟨d1,d2⟩:=cz h1
  by_cases h2:gi c.sc x=true
  ·rw [if_pos h2] at h
   cases q:idx c.N x with
   | none=>rw [q] at h; cases h
   | some i =>
    rw [q] at h; cases h
    exact bJ F.hK (xQ (by rw [C.N]; exact fZ q) (by rw [C.sc]; exact EB h2) d1 d2) (fun _=>rfl) (.inl rfl) (fun _ _ _ z=>nomatch z)
  ·rw [if_neg h2] at h
   by_cases h3:glB c x=true
   ·rw [if_pos h3] at h
    cases q:c.gt.lookup x with
    | none=>rw [q] at h; cases h
    | some g =>
     rw [q] at h
     cases g with
     | val d =>
      cases h
      obtain ⟨u,v,hm,r,hv⟩:=F.val x d q
      exact bJ F.hK (iI (GA (C.gl h3) hm r d1) hv) (fun _=>rfl) (.inl rfl) (fun _ _ _ z=>nomatch z)
     | _=>cases h
   ·rw [if_neg h3] at h; cases h
 ·rw [if_neg h1] at h; cases h
theorem xO {k:Const} {j:Nat} {p:Pos} {e':E} (hK:Γ.K=X.K) (h:uG k=some e'):ClE Γ sub cf X xw (.Constant k j p) e':=by
 cases k <;> first|(cases h; done)|skip
 ·cases h; exact bJ hK (iI vV fun _ _=>.non) (fun _=>rfl) (.inl rfl) (fun _ _ _ z=>nomatch z)
 ·cases h; exact bJ hK (iI zO fun _ _=>.bl _) (fun _=>rfl) (.inl rfl) (fun _ _ _ z=>nomatch z)
 ·cases h; exact bJ hK (iI yy fun _ _=>.int _) (fun _=>rfl) (.inl rfl) (fun _ _ _ z=>nomatch z)
 ·cases h; exact bJ hK (iI pX fun _ _=>.str _) (fun _=>rfl) (.inl rfl) (fun _ _ _ z=>nomatch z)
theorem Cb (hK:Γ.K=X.K) {op:Operator} {o:Op2} (h:op2 op=some o):OpR X (binaryOp op) (br Γ xw (opD o)):=by
 cases op <;> cases h
 ·exact ye hK
 ·exact FA
 ·exact Bp hK
 ·exact AE
 ·exact Bk
 ·exact Cf
theorem jt (F:Fam Γ W CX EW gt cf X xw) {op:CmpOp} {o:Cm} (h:cmO op=some o):OpR X (compareOp op) (br Γ xw (cmD o)):=by
 cases op <;> cases h
 ·exact s_eq F.hK F.un
 ·exact BD F.hK F.un
 ·exact EE
 ·exact wc
 ·exact D5
 ·exact vY
 ·exact vh F.hK F.un
 ·exact xX F.hK F.un
theorem qz (F:Fam Γ W CX EW gt cf X xw) {op:CmpOp} {b:PySem.Expr} {o:Cm} (h:lG op b=some o):OpR X (compareOp op) (br Γ xw (cmD o)):=by
 unfold lG at h
 split at h
 ·rename_i hx
  rw [Bool.and_eq_true] at hx
  have e:op=.In:=of_decide_eq_true hx.2
  subst e
  cases h
  exact yE
 ·exact jt F h
theorem lK {o:Cm}:∀ (x y:D) (S:af) (d:D) (S':af),cmD o x y S=.ok d S'->∃ k,d=.bl k:=by
 intro x y S d S' h
 have intc:∀ p:Int->Int->Bool,ig p x y S=.ok d S'->∃ k,d=.bl k:=fun p h=>by
  cases x <;> first|(cases h; done)|skip
  cases y <;> first|(cases h; done)|skip
  cases h; exact ⟨_,rfl⟩
 have inc:∀ neg,inM neg x y S=.ok d S'->∃ k,d=.bl k:=fun neg h=>by
  unfold inM at h
  rcases iR y S with ⟨ds,e⟩|e
  ·rw [ao e] at h
   unfold inA at h
   cases q:inL S x ds with
   | none=>rw [q] at h; cases h
   | some k=>rw [q] at h; cases h; exact ⟨_,rfl⟩
  ·rw [bz e] at h; cases h
 cases o with
 | lt=>exact intc _ h
 | le=>exact intc _ h
 | gt=>exact intc _ h
 | ge=>exact intc _ h
 | eq =>
  have h:(eqM x y>>=fun b=>pure (.bl b)) S=.ok d S':=h
  rw [bB] at h
  unfold eqM at h
  cases q:eqD deep S x y with
  | none=>rw [q] at h; cases h
  | some k=>rw [q] at h; cases h; exact ⟨_,rfl⟩
 | ne =>
  have h:guard (fY x y) (eqM x y>>=fun b=>pure (.bl (!b))) S=.ok d S':=h
  cases q:fY x y with
  | false=>rw [q] at h; cases h
  | true =>
   rw [q] at h
   have h:(eqM x y>>=fun b=>pure (.bl (!b))) S=.ok d S':=h
   rw [bB] at h
   unfold eqM at h
   cases q:eqD deep S x y with
   | none=>rw [q] at h; cases h
   | some k=>rw [q] at h; cases h; exact ⟨_,rfl⟩
 | isin=>exact inc _ h
 | d9=>exact inc _ h
 | tin =>
  cases x <;> first|(cases h; done)|skip
  cases y <;> first|(cases h; done)|skip
  rename_i a b
  have h:(match a.cps.toList with|[c]=>pure (.bl (decide (c∈b.cps.toList)))|_=>bad:M D) S=.ok d S':=h
  cases hc:a.cps.toList with
  | nil=>rw [hc] at h; cases h
  | cons c r =>
   rw [hc] at h
   cases r with
   | nil=>cases h; exact ⟨_,rfl⟩
   | cons _ _=>cases h
 | nisB =>
  cases x <;> first|(cases h; done)|skip
  cases y <;> first|(cases h; done)|skip
  cases h; exact ⟨_,rfl⟩
 | din=>exact rj h
 | dnin=>exact rj h
theorem cP {c:TC} {n:Nat} (F:Fam Γ W CX EW c.gt cf X xw) (C:Cok c X) (ih:∀ e e',trE n c e=some e'->ClE Γ sub cf X xw e e'):∀ {es:List PySem.Expr} {es':E},bO (trE n c) es=some es'->PA X es (tMA Γ xw (evs sub cf es'))
 | [],_,h=>by cases h; exact vz
 | e::r,_,h=>by
  obtain ⟨a,b,h1,h2,rfl⟩:=b7 h
  exact y9 (ih e a h1).pe (cP F C ih h2) (bM h1 r X.env)
theorem uX {c:TC} {n:Nat} (ih:∀ e e',trE n c e=some e'->ClE Γ sub cf X xw e e') {o:Option PySem.Expr} {e':E} (h:trO (trE n c) o=some e'):PO X o (tMO Γ xw fun σ=>if e'.bD=true then pure none else ev sub cf e' σ>>=gz):=by
 cases o with
 | none=>cases h; exact E6
 | some e =>
  have h:(match trE n c e with|some .nl=>none|o=>o)=some e':=h
  cases q:trE n c e with
  | none=>rw [q] at h; cases h
  | some f =>
   rw [q] at h
   have hf:f=e'/\f.bD=false:=by
    cases f <;> first|(cases h; done)|(cases h; exact ⟨rfl,rfl⟩)
   obtain ⟨rfl,hn⟩:=hf
   rw [hn]
   simp only [Bool.false_eq_true,if_false]
   exact FU (ih e f q).pe
theorem kU {c:TC} (hK:Γ.K=X.K) (hc:X.calm=true) (C:Cok c X) {tg:PySem.Expr} {t:Tg} (h:iQ c tg=some t):PG X tg (tMG Γ t):=by
 have names:∀ (es:List PySem.Expr) (is:List Nat),f9 c es=some is->kM X es is:=by
  intro es
  induction es with
  | nil=>intro is h; cases h; exact .nil
  | cons e r ih =>
   intro is h
   cases e with
   | Name x p =>
    unfold f9 at h
    by_cases hl:eU c x=true
    ·rw [if_pos hl] at h
     cases q:idx c.N x with
     | none=>rw [q] at h; cases h
     | some i =>
      rw [q] at h
      cases q2:f9 c r with
      | none=>rw [q2] at h; cases h
      | some js =>
       rw [q2] at h; cases h
       exact .cons ⟨x,p,rfl,by rw [C.N]; exact fZ q,(C.loc hl).1,(C.loc hl).2⟩ (ih js q2)
    ·rw [if_neg hl] at h; cases h
   | _=>cases h
 cases tg with
 | Name x p =>
  have h:(if eU c x=true then (idx c.N x).map Tg.one else none)=some t:=h
  by_cases hl:eU c x=true
  ·rw [if_pos hl] at h
   cases q:idx c.N x with
   | none=>rw [q] at h; cases h
   | some i =>
    rw [q] at h; cases h
    exact B3 C.nd (by rw [C.N]; exact fZ q) (C.loc hl).1 (C.loc hl).2
  ·rw [if_neg hl] at h; cases h
 | Tuple es k p =>
  have h:(f9 c es).map Tg.many=some t:=h
  cases q:f9 c es with
  | none=>rw [q] at h; cases h
  | some is =>
   rw [q] at h; cases h
   exact E5 hK hc C.nd (names es is q)
 | _=>cases h
theorem Bb {e:PySem.Expr} (h:nH e=true) (env:Env):∀ x,foldedSetIterable e env x=pure x:=by
 intro x
 cases e <;> first|rfl|cases h
theorem gb {c:TC} (C:Cok c X) {x:Str} (h:c9 c x=true):Gl X x/\c.gt.lookup x=none:=by
 unfold c9 at h
 rw [Bool.and_eq_true] at h
 exact ⟨C.gl h.1,by simpa using h.2⟩
theorem pJ {f:PySem.Expr->Option E}:∀ {es:List PySem.Expr} {es':E},bO f es=some es'->∀ (σ:Sg) (S:af) (ds:List D) (S':af),evs sub cf es' σ S=.ok ds S'->ds.length=es.length
 | [],_,h,σ,S,ds,S',q=>by
  cases h
  have q:(Res.ok [] S:Res (List D))=.ok ds S':=q
  cases q; rfl
 | e::r,_,h,σ,S,ds,S',q=>by
  obtain ⟨a,b,h1,h2,rfl⟩:=b7 h
  have q:(ev sub cf a σ>>=fun x=>evs sub cf b σ>>=fun xs=>pure (x::xs)) S=.ok ds S':=q
  cases q1:ev sub cf a σ S with
  | ok d S1 =>
   rw [ao q1] at q
   cases q2:evs sub cf b σ S1 with
   | ok xs S2 =>
    rw [ao q2] at q
    cases q
    show xs.length+1=r.length+1
    rw [pJ h2 σ S1 xs _ q2]
   | exc k S2=>rw [dS q2] at q; cases q
   | bad=>rw [bz q2] at q; cases q
  | exc k S2=>rw [dS q1] at q; cases q
  | bad=>rw [bz q1] at q; cases q
theorem rW {α:Type} {m m':M α} (h:∀ S,m S=m' S):m=m':=funext h
theorem ug (m:M D) (f:List D->M D):((m>>=fun x=>(pure []:M (List D))>>=fun xs=>pure (x::xs))>>=f)=(m>>=fun x=>f [x]):=by
 refine rW fun S=>?_
 rw [bB,bB,bB]
 cases m S <;> rfl
theorem nG {c:TC} {n:Nat} (F:Fam Γ W CX EW c.gt cf X xw) (C:Cok c X) (ih:∀ e e',trE n c e=some e'->ClE Γ sub cf X xw e e') {tg e:PySem.Expr} {e':E} (h:trI (trE n c) c tg e=some e') :
  PI X tg e (tMI Γ xw (evI sub cf e'))/\∀ x,foldedSetIterable e X.env x=pure x:=by
 unfold trI at h
 by_cases hs:nH e=true
 ·rw [if_pos hs] at h
  refine ⟨?_,Bb hs X.env⟩
  have seq:(trE n c e).map E.iSeq=some e'->PI X tg e (tMI Γ xw (evI sub cf e')):=fun h=>by
   cases q:trE n c e with
   | none=>rw [q] at h; cases h
   | some a=>rw [q] at h; cases h; exact Ac F.hK (ih e a q).pe
  split at h
  ·rename_i x p args pos
   by_cases hr:lC c x=true
   ·rw [if_pos hr] at h
    unfold lC at hr
    rw [Bool.and_eq_true] at hr
    have hx:x = "range":=of_decide_eq_true hr.2
    subst hx
    obtain ⟨hg,hn⟩:=gb C hr.1
    have hm:X.mg "range" = none:=F.blt _ (by decide +kernel) hn
    by_cases hf:few args=true
    ·rw [if_pos hf] at h
     cases q:bO (trE n c) args with
     | none=>rw [q] at h; cases h
     | some es =>
      rw [q] at h; cases h
      have ha:=cP F C ih q
      have hl:=pJ (sub:=sub) (cf:=cf) q
      match args,q,ha,hl,hf with
      | [],_,_,_,hf=>exact absurd hf (by decide)
      | [a],q,ha,hl,_ =>
       obtain ⟨a',b',q1,q2,_⟩:=b7 q
       exact xN hg hm ha (bM q1 [] X.env) hl
      | [a,b],q,ha,hl,_ =>
       obtain ⟨a',r',q1,q2,_⟩:=b7 q
       obtain ⟨b',r2,q3,q4,_⟩:=b7 q2
       exact AN hg hm ha (by rw [bM q1,bM q3]; rfl) (bM q3 [] X.env) hl
      | [a,b,d],q,ha,hl,_ =>
       obtain ⟨a',r',q1,q2,_⟩:=b7 q
       obtain ⟨b',r2,q3,q4,_⟩:=b7 q2
       obtain ⟨d',r3,q5,q6,_⟩:=b7 q4
       exact Dg hg hm ha (by rw [bM q1,bM q3,bM q5]; rfl) (by rw [bM q3,bM q5]; rfl) hl
      | _::_::_::_::r,_,_,_,hf =>
       unfold few at hf
       rw [Bool.and_eq_true] at hf
       have:=of_decide_eq_true hf.2
       simp at this
    ·rw [if_neg hf] at h; cases h
   ·rw [if_neg hr] at h
    by_cases he:mJ c x=true
    ·rw [if_pos he] at h
     unfold mJ at he
     rw [Bool.and_eq_true] at he
     have hx:x = "enumerate":=of_decide_eq_true he.2
     subst hx
     obtain ⟨hg,hn⟩:=gb C he.1
     have hm:X.mg "enumerate" = none:=F.blt _ (by decide +kernel) hn
     cases tg with
     | Tuple es k tp =>
      match args,h with
      | [a],h =>
       have h:(trE n c a).map E.iEnum=some e':=h
       cases q:trE n c a with
       | none=>rw [q] at h; cases h
       | some a'=>rw [q] at h; cases h; exact xj F.hK hg hm boot_enumerate (ih a a' q).pe (bM q [] X.env)
      | [],h=>cases h
      | _::_::_,h=>cases h
     | _=>cases h
    ·rw [if_neg he] at h
     exact seq h
  ·split at h
   ·cases q:trE n c e with
    | none=>rw [q] at h; cases h
    | some a =>
     rw [q] at h; cases h
     have key:(fun σ=>evI sub cf (.iSeq (.bi .signs (.cs a .nl))) σ)=fun σ=>ev sub cf a σ>>=fun d=>ja d>>=srcOf:=by
      funext σ
      have e1:ev sub cf (.bi .signs (.cs a .nl)) σ=ev sub cf a σ>>=fun d=>ja d:=ug (ev sub cf a σ) (biD sub .signs)
      show (ev sub cf (.bi .signs (.cs a .nl)) σ>>=srcOf)=_
      rw [e1]
      funext S
      rw [bB,bB,bB]
      cases ev sub cf a σ S <;> rfl
     show PI X tg e (tMI Γ xw fun σ=>evI sub cf (.iSeq (.bi .signs (.cs a .nl))) σ)
     rw [key]
     exact Gr (ih e a q).pe
   ·exact seq h
 ·rw [if_neg hs] at h; cases h
end
end EV

namespace EV
open PySem PySem.Spec PyProof.Rows L2
section
variable {Γ:Gx} {W:XW->Prop} {CX:CXT} {EW:XW->XK} {cf:Str->List D->M D} {sub:Sub}
theorem dw {α β:Type} {o:Option α} {f:α->β} {d:β} (h:o.map f=some d):∃ a,o=some a/\d=f a:=by
 cases o with
 | none=>cases h
 | some a=>cases h; exact ⟨a,rfl,rfl⟩
theorem r_ {t:Tg} {n:Nat} (h:t.uw n=true):∀ j,j < n->t.has j=false:=by
 intro j hj
 cases t with
 | one i =>
  have:n<=i:=of_decide_eq_true h
  show (i==j)=false
  simp; omega
 | many is =>
  show is.contains j=false
  have h:(is.all fun i=>decide (n<=i))=true:=h
  rw [List.all_eq_true] at h
  cases q:is.contains j with
  | false=>rfl
  | true =>
   have hm:j∈is:=List.contains_iff_mem.mp q
   have:=of_decide_eq_true (h j hm)
   omega
theorem BZ {c:TC} {n:Nat} {X:Cx} {xw:XW} (F:Fam Γ W CX EW c.gt cf X xw) (C:Cok c X) (ih:∀ e e',trE n c e=some e'->ClE Γ sub cf X xw e e') {x:Str} {args ra:List PySem.Expr} {b:Bi} {es:E} {p pos:Pos} (hn:c.gt.lookup x=none) (hg:Gl X x)
  (h:mS c x args=some (b,ra)) (h1:bO (trE n c) ra=some es):PE X (.Call (.Name x p) args [] pos) (tM Γ xw (ev sub cf (.bi b es))):=by
 unfold mS at h
 split at h
 ·rename_i w q
  split at h
  ·obtain ⟨a',b',q1,q2,q3⟩:∃ a' b',trE n c (.Name w q)=some a'/\bO (trE n c) []=some b'/\True:=by
    by_cases e:x = "len"
    ·subst e; rw [if_pos rfl] at h; cases h
     obtain ⟨a',b',q1,q2,_⟩:=b7 h1
     exact ⟨a',b',q1,q2,trivial⟩
    ·rw [if_neg e] at h
     by_cases e:x = "int"
     ·subst e; rw [if_pos rfl] at h; cases h
      obtain ⟨a',b',q1,q2,_⟩:=b7 h1
      exact ⟨a',b',q1,q2,trivial⟩
     ·rw [if_neg e] at h; cases h
   have st:=bM q1 [] X.env
   by_cases e:x = "len"
   ·subst e; rw [if_pos rfl] at h; cases h
    exact mK Eg hg (F.blt _ (by decide +kernel) hn) PySem.boot_len (cP F C ih h1) (by decide +kernel) (by decide +kernel) st (cZ q2 X.env pos).1
   rw [if_neg e] at h; clear e
   by_cases e:x = "int"
   ·subst e; rw [if_pos rfl] at h; cases h
    exact kR xH hg (F.blt _ (by decide +kernel) hn) PyProof.Rows.boot_int (cP F C ih h1) (by decide +kernel) (by decide +kernel) st (cZ q2 X.env pos).1
   rw [if_neg e] at h; cases h
  ·cases h
 ·cases h
theorem CW {b:PySem.Expr} (h:ue b=true):∃ j p,b=.Constant .none j p:=by
 cases b with
 | Constant k j p=>cases k <;> first|exact ⟨_,_,rfl⟩|cases h
 | _=>cases h
theorem rF {b:PySem.Expr} (h:ju b=true):∃ x j p,b=.Constant (.str x) j p:=by
 cases b with
 | Constant k j p=>cases k <;> first|exact ⟨_,_,_,rfl⟩|cases h
 | _=>cases h
theorem vZ {op:CmpOp} (h:l0 op=some true):op=.Is:=by cases op <;> first|rfl|cases h
theorem BA {op:CmpOp} (h:l0 op=some false):op=.IsNot:=by cases op <;> first|rfl|cases h
theorem DN (m k:M D) (f:List D->M D):((m>>=fun x=>(k>>=fun y=>(pure []:M (List D))>>=fun r=>pure (y::r))>>=fun xs=>pure (x::xs))>>=f)=(m>>=fun x=>k>>=fun y=>f [x,y]):=by
 refine rW fun S=>?_
 rw [bB,bB,bB]
 cases m S with
 | ok x S1 =>
  dsimp only
  rw [bB,bB,bB]
  cases k S1 <;> rfl
 | exc c S1=>rfl
 | bad=>rfl
theorem lS {b:Bi} {a' h':E} (hb:b.isR=false):(fun σ=>ev sub cf (.bi b (.cs a' (.cs h' .nl))) σ)=fun σ=>ev sub cf a' σ>>=fun x=>ev sub cf h' σ>>=fun y=>bi2 b x y:=by
 funext σ
 have e:(fun x=>ev sub cf h' σ>>=fun y=>bi2 b x y)=fun x=>ev sub cf h' σ>>=fun y=>biD sub b [x,y]:=by
  funext x
  congr 1
  funext y
  unfold biD; rw [hb]
 rw [e]
 exact DN (ev sub cf a' σ) (ev sub cf h' σ) (biD sub b)
theorem x_ {c:TC} {n:Nat} {X:Cx} {xw:XW} (F:Fam Γ W CX EW c.gt cf X xw) (ih:∀ e e',trE n c e=some e'->ClE Γ sub cf X xw e e') {a:PySem.Expr} {a' e':E} {lo hi:Option PySem.Expr} {p p2:Pos} (h1:trE n c a=some a') (h:l7 (trE n c) a' lo hi=some e'):ClE Γ sub cf X xw (.Subscript a (.Slice lo hi none p2) p) e':=by
 unfold l7 at h
 split at h
 ·rename_i i
  obtain ⟨i',h2,rfl⟩:=dw (f:=fun h'=>E.bi .tTo (.cs a' (.cs h' .nl))) h
  refine bJ F.hK ?_ (fun _=>rfl) (.inl rfl) (fun _ _ _ z=>nomatch z)
  show PE X _ (tM Γ xw (fun σ=>ev sub cf (.bi .tTo (.cs a' (.cs i' .nl))) σ))
  rw [lS rfl]
  exact BB (ih a a' h1).pe (ih i i' h2).pe
 ·rename_i i
  obtain ⟨i',h2,rfl⟩:=dw (f:=fun h'=>E.bi .tFrom (.cs a' (.cs h' .nl))) h
  refine bJ F.hK ?_ (fun _=>rfl) (.inl rfl) (fun _ _ _ z=>nomatch z)
  show PE X _ (tM Γ xw (fun σ=>ev sub cf (.bi .tFrom (.cs a' (.cs i' .nl))) σ))
  rw [lS rfl]
  exact Ck (ih a a' h1).pe (ih i i' h2).pe
 ·cases h
theorem fF:∀ (n:Nat) (c:TC) (e:PySem.Expr) (e':E),trE n c e=some e'->∀ (X:Cx) (xw:XW),Fam Γ W CX EW c.gt cf X xw->Cok c X->ClE Γ sub cf X xw e e':=by
 intro n
 induction n with
 | zero=>intro c e e' h; cases h
 | succ n ihn =>
  intro c e e' h X xw F C
  have ih:∀ e e',trE n c e=some e'->ClE Γ sub cf X xw e e':=fun e e' h=>ihn c e e' h X xw F C
  cases e with
  | Name x p=>exact Dl F C h
  | Constant k j p=>exact xO F.hK h
  | BinOp a op b p =>
   simp only [trE] at h
   split at h
   rotate_left
   ·cases h
   rename_i o a' b' h1 h2 h3
   cases h
   exact bJ F.hK (Df (Cb F.hK h1) (ih a a' h2).pe (ih b b' h3).pe) (fun _=>rfl) (.inr rfl) (fun _ _ _ z=>nomatch z)
  | UnaryOp op a p =>
   cases op with
   | Not =>
    obtain ⟨a',h1,rfl⟩:∃ a',trE n c a=some a'/\e'=.not a':=by
     cases q:trE n c a with
     | none=>simp only [trE,q] at h; cases h
     | some a'=>simp only [trE,q] at h; cases h; exact ⟨a',rfl,rfl⟩
    exact ⟨DO (ih a a' h1).pe,Gj (ih a a' h1).pt,fun ⟨_,_,_,z⟩=>by cases z⟩
   | USub =>
    obtain ⟨a',h1,rfl⟩:∃ a',trE n c a=some a'/\e'=.neg a':=by
     cases q:trE n c a with
     | none=>simp only [trE,q] at h; cases h
     | some a'=>simp only [trE,q] at h; cases h; exact ⟨a',rfl,rfl⟩
    exact bJ F.hK (F1 (ih a a' h1).pe) (fun _=>rfl) (.inr rfl) (fun _ _ _ z=>nomatch z)
   | _ =>
    exfalso
    cases q:trE n c a with
    | none=>simp only [trE,q] at h; cases h
    | some a'=>simp only [trE,q] at h; cases h
  | BoolOp op vs p =>
   match vs,h with
   | [],h=>cases h
   | [a],h =>
    have h:trE n c a=some e':=h
    have ca:=ih a e' h
    cases op with
    | And=>exact ⟨fun pins s σ H Q I hw=>ri ca.pe pins s σ H Q I hw,(sS ca.pt).pt,fun _=>sS ca.pt⟩
    | Or=>exact ⟨fun pins s σ H Q I hw=>ri ca.pe pins s σ H Q I hw,(qV ca.pt).pt,fun _=>qV ca.pt⟩
   | a::b::r,h =>
    cases op with
    | And =>
     obtain ⟨a',b',h1,h2,rfl⟩:∃ a' b',trE n c a=some a'/\trE n c (.BoolOp .And (b::r) p)=some b'/\e'=.and a' b':=by
      cases q:trE n c a with
      | none=>simp only [trE,q] at h; cases h
      | some a' =>
       cases q2:trE n c (.BoolOp .And (b::r) p) with
       | none=>simp only [trE,q,q2] at h; cases h
       | some b'=>simp only [trE,q,q2] at h; cases h; exact ⟨a',b',rfl,rfl,rfl⟩
     have ca:=ih _ _ h1
     have cb:=ih _ _ h2
     exact ⟨xZ ca.pe cb.pe,(tu ca.pt (cb.pw ⟨_,_,_,rfl⟩)).pt,fun _=>tu ca.pt (cb.pw ⟨_,_,_,rfl⟩)⟩
    | Or =>
     obtain ⟨a',b',h1,h2,rfl⟩:∃ a' b',trE n c a=some a'/\trE n c (.BoolOp .Or (b::r) p)=some b'/\e'=.or a' b':=by
      cases q:trE n c a with
      | none=>simp only [trE,q] at h; cases h
      | some a' =>
       cases q2:trE n c (.BoolOp .Or (b::r) p) with
       | none=>simp only [trE,q,q2] at h; cases h
       | some b'=>simp only [trE,q,q2] at h; cases h; exact ⟨a',b',rfl,rfl,rfl⟩
     have ca:=ih _ _ h1
     have cb:=ih _ _ h2
     exact ⟨zF ca.pe cb.pe,(rH ca.pt (cb.pw ⟨_,_,_,rfl⟩)).pt,fun _=>rH ca.pt (cb.pw ⟨_,_,_,rfl⟩)⟩
  | IfExp t a b p =>
   simp only [trE] at h
   split at h
   rotate_left
   ·cases h
   rename_i t' a' b' h1 h2 h3
   cases h
   refine ⟨CD (ih t t' h1).pt (ih a a' h2).pe (ih b b' h3).pe,p_,fun ⟨_,_,_,z⟩=>by cases z⟩
  | Tuple es k p =>
   obtain ⟨es',h1,rfl⟩:=dw (f:=E.tup) h
   exact bJ F.hK (wj (cP F C ih h1)) (fun _=>rfl) (.inr rfl) (fun _ _ _ z=>nomatch z)
  | Dict ks vs p =>
   have h:(none:Option E)=some _:=h
   cases h
  | List es p =>
   obtain ⟨es',h1,rfl⟩:=dw (f:=E.lst) h
   exact bJ F.hK (Ex (cP F C ih h1)) (fun _=>rfl) (.inr rfl) (fun _ _ _ z=>nomatch z)
  | Compare a ops cs p =>
   simp only [trE] at h
   split at h
   ·rename_i op b
    split at h
    ·rename_i k hk
     split at h
     ·rename_i hb
      obtain ⟨j,p',rfl⟩:=CW hb
      obtain ⟨a',h1,rfl⟩:=dw (f:=fun x=>bif k then E.isN x else E.notN x) h
      cases k with
      | true =>
       cases vZ hk
       exact ⟨zy (ih a a' h1).pe,jJ (ih a a' h1).pe,fun ⟨_,_,_,z⟩=>by cases z⟩
      | false =>
       cases BA hk
       exact ⟨B9 (ih a a' h1).pe,Gg (ih a a' h1).pe,fun ⟨_,_,_,z⟩=>by cases z⟩
     ·cases h
    ·split at h
     ·rename_i o a' b' h1 h2 h3 h4
      cases h
      exact ⟨FF (qz F h1) (ih a a' h2).pe (ih b b' h3).pe h4,AM lK (qz F h1) (ih a a' h2).pe (ih b b' h3).pe h4,fun ⟨_,_,_,z⟩=>by cases z⟩
     ·cases h
   ·rename_i op op' b d
    split at h
    ·rename_i o o' a' b' d' h1 h2 h3 h4 h5 h6
     cases h
     exact ⟨yu (jt F h1) (jt F h2) (ih a a' h3).pe (ih b b' h4).pe (ih d d' h5).pe h6,E4 lK lK (jt F h1) (jt F h2) (ih a a' h3).pe (ih b b' h4).pe (ih d d' h5).pe h6,fun ⟨_,_,_,z⟩=>by cases z⟩
    ·cases h
   ·cases h
  | Subscript a i p =>
   simp only [trE] at h
   split at h
   ·rename_i lo hi p2
    split at h
    ·split at h
     ·rename_i a' h1
      exact x_ F ih h1 h
     ·cases h
    ·split at h
     ·rename_i a' l u h1 h2 h3
      cases h
      exact bJ F.hK (CS F.hK (ih a a' h1).pe (uX ih h2) (uX ih h3)) (fun _=>rfl) (.inr rfl) (fun _ _ _ z=>nomatch z)
     ·cases h
   ·cases h
   ·cases h
   ·rename_i hs1 hs2 hs3
    split at h
    ·rename_i a' i' h1 h2
     have hp:kE i:=by
      intro o j
      cases i with
      | Slice lo hi st p2 =>
       cases st with
       | none=>exact (hs1 lo hi p2 rfl).elim
       | some x=>exact (hs2 lo hi x p2 rfl).elim
      | _=>rfl
     split at h
     ·cases h
      refine bJ F.hK ?_ (fun _=>rfl) (.inl rfl) (fun _ _ _ z=>nomatch z)
      show PE X _ (tM Γ xw (fun σ=>ev sub cf (.bi .tAt (.cs a' (.cs i' .nl))) σ))
      rw [lS rfl]
      exact Ah (ih a a' h1).pe (ih i i' h2).pe hp
     ·cases h
      exact bJ F.hK (zB F.hK (ih a a' h1).pe (ih i i' h2).pe hp) (fun _=>rfl) (.inl rfl) (fun _ _ _ z=>nomatch z)
    ·cases h
  | Call f args kws cpos =>
   simp only [trE] at h
   split at h
   ·rename_i x p
    by_cases hx:(bZ x&&glB c x)=true
    ·rw [if_pos hx] at h
     rw [Bool.and_eq_true] at hx
     have hd:=(cz hx.1).1
     have hg:=C.gl hx.2
     split at h
     ·rename_i hi
      obtain ⟨es',h1,rfl⟩:=dw (f:=E.call x) h
      cases args with
      | nil =>
       cases h1
       refine bJ F.hK ?_ (fun _=>rfl) (.inl rfl) (fun _ _ _ z=>nomatch z)
       exact EK F hi hg hd
      | cons a r =>
       obtain ⟨a',b',q1,q2,_⟩:=b7 h1
       exact bJ F.hK (BP F hi hg hd (cP F C ih h1) (bM q1 r X.env) (cZ q2 X.env cpos).1) (fun _=>rfl) (.inl rfl) (fun _ _ _ z=>nomatch z)
     ·cases h
     ·rename_i hn
      by_cases hi:x = "isinstance"
      ·rw [if_pos hi] at h
       subst hi
       split at h
       ·rename_i a y p2
        by_cases hy:(bZ y&&c9 c y)=true
        ·rw [if_pos hy] at h
         rw [Bool.and_eq_true] at hy
         split at h
         ·rename_i t a' h1 h2
          cases h
          obtain ⟨hg2,hn2⟩:=gb C hy.2
          obtain ⟨T,t1,t2,t3,t4,t5⟩:=Eu F h1 hn2
          have hm:X.mg "isinstance" = none:=F.blt _ (by decide +kernel) hn
          have key:(fun σ=>ev sub cf (.bi (.inst t) (.cs a' .nl)) σ)=fun σ=>ev sub cf a' σ>>=fun d=>jq sub t d:=by
           funext σ
           exact ug (ev sub cf a' σ) (biD sub (.inst t))
          refine bJ F.hK ?_ (fun _=>rfl) (.inl rfl) (fun _ _ _ z=>nomatch z)
          show PE X _ (tM Γ xw (fun σ=>ev sub cf (.bi (.inst t) (.cs a' .nl)) σ))
          rw [key]
          exact yD F.hK t1 hg hm boot_isinstance hg2 t3 t2 (ih a a' h2).pe (by decide +kernel) (by decide +kernel) t4 t5 (bM h2 _ X.env)
         ·cases h
        ·rw [if_neg hy] at h; cases h
       ·cases h
      ·rw [if_neg hi] at h
       split at h
       ·rename_i b ra hr
        obtain ⟨es,h1,rfl⟩:=dw (f:=E.bi b) h
        exact bJ F.hK (BZ F C ih hn hg hr h1) (fun _=>rfl) (.inl rfl) (fun _ _ _ z=>nomatch z)
       ·split at h
        ·cases h
        ·rename_i a r hrn
         split at h
         ·rename_i b es h1 h2
          cases h
          obtain ⟨a',b',q1,q2,_⟩:=b7 h2
          exact bJ F.hK (xx F h1 hn hg (cP F C ih h2) (bM q1 r X.env) (cZ q2 X.env cpos).1) (fun _=>rfl) (.inl rfl) (fun _ _ _ z=>nomatch z)
         ·cases h
    ·rw [if_neg hx] at h; cases h
   ·rename_i o name apos
    split at h
    ·cases h
    ·rename_i a r
     split at h
     ·rename_i hx
      simp only [Bool.and_eq_true] at hx
      obtain ⟨⟨x1,x2⟩,x3⟩:=hx
      split at h
      ·rename_i m o' es h1 h2 h3
       cases h
       obtain ⟨a',b',q1,q2,_⟩:=b7 h3
       exact bJ F.hK (Gv F h1 (ih o o' h2).pe (cP F C ih h3) x1 (of_decide_eq_true x3) (cZ h3 X.env cpos).2 x2 (bM q1 r X.env) (cZ q2 X.env cpos).1) (fun _=>rfl) (.inl rfl) (fun _ _ _ z=>nomatch z)
      ·rename_i m o' es h0 h1 h2 h3
       cases h
       obtain ⟨a',b',q1,q2,_⟩:=b7 h3
       exact bJ F.hK (wM F h1 (ih o o' h2).pe (cP F C ih h3) x1 (of_decide_eq_true x3) (cZ h3 X.env cpos).2 x2 (bM q1 r X.env) (cZ q2 X.env cpos).1) (fun _=>rfl) (.inr rfl) (fun _ _ _ z=>nomatch z)
      ·cases h
     ·cases h
   ·cases h
  | ListComp elt gens scope p =>
   simp only [trE] at h
   split at h
   ·rename_i tg iter ifs asy
    split at h
    ·rename_i hx
     rw [Bool.and_eq_true] at hx
     have ha:asy=0:=of_decide_eq_true hx.1
     subst ha
     obtain ⟨CO,CK⟩:=oW C hx.2
     split at h
     ·rename_i it t el tt h1 h2 h3 h4
      split at h
      ·rename_i hge
       cases h
       obtain ⟨PI1,hs⟩:=nG F C ih h1
       have ihc:∀ cl fp s3 H3 e e',trE n (inComp c scope) e=some e'->ClE Γ sub cf (aU X scope cl (inComp c scope).N fp s3 H3) XF e e' :=
        fun cl fp s3 H3 e e' h=>ihn (inComp c scope) e e' h _ XF (F.comp scope cl _ fp s3 H3) (CK cl fp s3 H3)
       have htt:∀ cl fp s3 H3,PF (aU X scope cl (inComp c scope).N fp s3 H3) ifs (tMT Γ XF fun σ=>if tt.bD=true then pure true else evT sub cf tt σ):=fun cl fp s3 H3=>by
        match ifs,h4 with
        | [],h4 =>
         cases h4
         exact fun pins s σ H Q I h=>qF pins s σ H Q I (by
          obtain ⟨σd,ι,S,he,hs,ho⟩:=h
          exact ho.here hs)
        | [t0],h4 =>
         have h4:(match trE n (inComp c scope) t0 with|some .nl=>none|o=>o)=some tt:=h4
         cases q:trE n (inComp c scope) t0 with
         | none=>rw [q] at h4; cases h4
         | some f =>
          rw [q] at h4
          have hf:f=tt/\f.bD=false:=by
           cases f <;> first|(cases h4; done)|(cases h4; exact ⟨rfl,rfl⟩)
          obtain ⟨rfl,hn⟩:=hf
          rw [hn]
          simp only [Bool.false_eq_true,if_false]
          exact uB (ihc cl fp s3 H3 t0 f q).pt
        | _::_::_,h4=>cases h4
       refine bJ F.hK ?_ (fun _=>rfl) (.inr rfl) (fun _ _ _ z=>nomatch z)
       exact zV CO F.calm (by rw [C.N]; exact r_ hge) PI1 (fun cl fp s3 H3=>kU (X:=aU X scope cl (inComp c scope).N fp s3 H3) F.hK F.calm (CK cl fp s3 H3) h2) htt (fun cl fp s3 H3=>(ihc cl fp s3 H3 elt el h3).pe) hs
      ·cases h
     ·cases h
    ·cases h
   ·cases h
  | _=>cases h
end
end EV

namespace EV
open PySem PySem.Spec PyProof.Rows L2
section
variable {Γ:Gx} {W:XW->Prop} {CX:CXT} {EW:XW->XK} {cf:Str->List D->M D} {sub:Sub}
theorem CQ {n:Nat} {c:TC} {elt:PySem.Expr} {gens:List Comprehension} {scope:Scope} {p:Pos} {e':E} (h:trE n c (.ListComp elt gens scope p)=some e') {X:Cx} {xw:XW} (F:Fam Γ W CX EW c.gt cf X xw) (C:Cok c X) :
  ∃ tg iter ifs it t el tt,gens=[⟨tg,iter,ifs,0⟩]/\e'=.comp (own scope).length el t it tt/\fQ X scope (inComp c scope).N (own scope).length/\(∀ j,j < X.N.length->t.has j=false)/\PI X tg iter (tMI Γ xw (evI sub cf it)) /\
   (∀ cl fp s3 H3,PG (aU X scope cl (inComp c scope).N fp s3 H3) tg (tMG Γ t))/\(∀ cl fp s3 H3,PF (aU X scope cl (inComp c scope).N fp s3 H3) ifs (tMT Γ XF fun σ=>if tt.bD=true then pure true else evT sub cf tt σ)) /\
   (∀ cl fp s3 H3,PE (aU X scope cl (inComp c scope).N fp s3 H3) elt (tM Γ XF (ev sub cf el)))/\∀ x,foldedSetIterable iter X.env x=pure x:=by
 cases n with
 | zero=>cases h
 | succ n =>
  have ih:∀ e e',trE n c e=some e'->ClE Γ sub cf X xw e e':=fun e e' h=>fF n c e e' h X xw F C
  simp only [trE] at h
  split at h
  ·rename_i tg iter ifs asy
   split at h
   ·rename_i hx
    rw [Bool.and_eq_true] at hx
    have ha:asy=0:=of_decide_eq_true hx.1
    subst ha
    obtain ⟨CO,CK⟩:=oW C hx.2
    split at h
    ·rename_i it t el tt h1 h2 h3 h4
     split at h
     ·rename_i hge
      cases h
      obtain ⟨PI1,hs⟩:=nG F C ih h1
      have ihc:∀ cl fp s3 H3 e e',trE n (inComp c scope) e=some e'->ClE Γ sub cf (aU X scope cl (inComp c scope).N fp s3 H3) XF e e' :=
       fun cl fp s3 H3 e e' h=>fF n (inComp c scope) e e' h _ XF (F.comp scope cl _ fp s3 H3) (CK cl fp s3 H3)
      have htt:∀ cl fp s3 H3,PF (aU X scope cl (inComp c scope).N fp s3 H3) ifs (tMT Γ XF fun σ=>if tt.bD=true then pure true else evT sub cf tt σ):=fun cl fp s3 H3=>by
       match ifs,h4 with
       | [],h4 =>
        cases h4
        exact fun pins s σ H Q I h=>qF pins s σ H Q I (by
         obtain ⟨σd,ι,S,he,hs,ho⟩:=h
         exact ho.here hs)
       | [t0],h4 =>
        have h4:(match trE n (inComp c scope) t0 with|some .nl=>none|o=>o)=some tt:=h4
        cases q:trE n (inComp c scope) t0 with
        | none=>rw [q] at h4; cases h4
        | some f =>
         rw [q] at h4
         have hf:f=tt/\f.bD=false:=by
          cases f <;> first|(cases h4; done)|(cases h4; exact ⟨rfl,rfl⟩)
         obtain ⟨rfl,hn⟩:=hf
         rw [hn]
         simp only [Bool.false_eq_true,if_false]
         exact uB (ihc cl fp s3 H3 t0 f q).pt
       | _::_::_,h4=>cases h4
      exact ⟨tg,iter,ifs,it,t,el,tt,rfl,rfl,CO,by rw [C.N]; exact r_ hge,PI1,fun cl fp s3 H3=>kU (X:=aU X scope cl (inComp c scope).N fp s3 H3) F.hK F.calm (CK cl fp s3 H3) h2,htt,fun cl fp s3 H3=>(ihc cl fp s3 H3 elt el h3).pe,hs⟩
     ·cases h
    ·cases h
   ·cases h
  ·cases h
theorem nM {e:PySem.Expr} (h:jk e=true) (t:Option PySem.Expr) (l:Nat) (env:Env):swapsWith e t l env=pure false:=by
 cases e <;> first|rfl|cases h
theorem yP {m:Nat} {c:TC} {X:Cx} {xw:XW} (F:Fam Γ W CX EW c.gt cf X xw) (C:Cok c X) {tg e:PySem.Expr} {t:Tg} {e':E} {pos:Pos} (ha:ur tg e=true) (h1:iQ c tg=some t) (h2:trE m c e=some e') :
  PS X (.Assign [tg] e pos) (tMS Γ xw (exec sub cf (.set t e'))):=by
 have hg:PG X tg (tMG Γ t):=kU F.hK F.calm C h1
 have he:=(fF (sub:=sub) m c e e' h2 X xw F C).pe
 cases tg with
 | Name y py =>
  by_cases hc:jk e=true
  ·exact l9 he hg (show swapsWithSole [.Name y py] e pos.line X.env=pure false from nM hc (some (.Name y py)) pos.line X.env) rfl rfl
  ·cases e with
   | ListComp elt gens scope p =>
    obtain ⟨tg,iter,ifs,it,t2,el,tt,rfl,rfl,CO,hslot,PI1,PG1,PF1,PE1,hs⟩:=CQ (sub:=sub) h2 F C
    have h1':(if eU c y=true then (idx c.N y).map Tg.one else none)=some t:=h1
    by_cases hl:eU c y=true
    ·rw [if_pos hl] at h1'
     obtain ⟨j,hj,rfl⟩:=dw h1'
     have sw:swapsWith (.ListComp elt [⟨tg,iter,ifs,0⟩] scope p) (some (.Name y py)) pos.line X.env=pure (X.env.blockKind==.function&&X.env.kindOf y==some .local&&py.line==p.line
      &&!(scope.names.any fun (n,k)=>n==y&&(k==.local||k==.cell))):=rfl
     cases q:(X.env.blockKind==.function&&X.env.kindOf y==some .local&&py.line==p.line&&!(scope.names.any fun (n,k)=>n==y&&(k==.local||k==.cell))) with
     | true =>
      rw [q] at sw
      simp only [Bool.and_eq_true] at q
      have hy:X.env.scope.names.lookup y=some .local:=eq_of_beq q.1.1.2
      exact Bg CO F.calm hslot PI1 PG1 PF1 PE1 C.nd (by rw [C.N]; exact fZ hj) hy sw hs
     | false =>
      rw [q] at sw
      exact l9 he hg sw rfl rfl
    ·rw [if_neg hl] at h1'; cases h1'
   | SetComp _ _ _ _=>cases m <;> cases h2
   | DictComp _ _ _ _ _=>cases m <;> cases h2
   | _=>exact absurd rfl hc
 | Tuple es k p =>
  have ha:(!isTup e&&jk e)=true:=ha
  rw [Bool.and_eq_true] at ha
  refine l9 he hg (show swapsWithSole [.Tuple es k p] e pos.line X.env=pure false from nM ha.2 (some (.Tuple es k p)) pos.line X.env) ?_ rfl
  cases e <;> first|rfl|exact absurd ha.1 (by simp [isTup])
 | _=>cases ha
theorem jf {f:Stmt->Option S} {X:Cx} {xw:XW} (ih:∀ s s',f s=some s'->PS X s (tMS Γ xw (exec sub cf s'))):∀ {ss:List Stmt} {s':S},dI f ss=some s'->PSs X ss (tMS Γ xw (exec sub cf s'))
 | [],_,h=>by cases h; exact D_
 | [s],_,h=>wY (ih _ _ h)
 | s::s2::r,s',h=>by
  have h:(match f s,dI f (s2::r) with|some a,some b=>some (.seq a b)|_,_=>none)=some s':=h
  split at h
  ·rename_i a b h1 h2
   cases h
   exact Dv (ih s a h1) (jf ih h2)
  ·cases h
theorem yg {c:TC} {X:Cx} {xw:XW} {e:PySem.Expr} {s':S} {pos:Pos} (F:Fam Γ W CX EW c.gt cf X xw) (C:Cok c X) (h:lF c e=some s'):PS X (.Raise (some e) none pos) (tMS Γ xw (exec sub cf s')):=by
 unfold lF at h
 split at h
 case h_2=>cases h
 rename_i f args kws cpos
 split at h
 case h_2=>cases h
 rename_i x np
 split at h
 case isFalse=>cases h
 rename_i hc
 rw [Bool.and_eq_true,Bool.and_eq_true] at hc
 split at h
 case h_2=>cases h
 rename_i hl
 cases h
 match args,hc.1 with
 | [a],hd =>
  obtain ⟨v,j,q,rfl⟩:=rF (show ju a=true from hd)
  obtain ⟨⟨C1,newId,initId,B,bmB,hns,hex,FB,_⟩,hmg⟩:=F.cls x hl
  refine PS.imp (xB (E:=EW xw) FB hex (hmg C1 hns) (C.gl hc.2.2) F.calm (cz hc.2.1).1 pX rfl F.rp) fun D σ H h=>?_
  obtain ⟨σd,ι,S,hE,hs,ho⟩:=h
  have hx:xw x S ι H:=ho ι H .refl hs
  rw [F.ew]
  exact ⟨x,C1,rfl,hns,S,ι,hx⟩
theorem lz {c:TC} {X:Cx} {xw:XW} {n:Str} {i:Nat} {C1 L:Addr} {e:PySem.Expr} (F:Fam Γ W CX EW c.gt cf X xw) (C:Cok c X) (hi:X.N[i]?=some n) (hk:X.env.kindOf n=some .local) (hd:(n==("__debug__" : Str))=false)
  (v1:PySem.W.kitOne X.K (.ref C1) (.type "ValueError")=some true) (l1:PySem.W.nsIn X.K mainGlobals "LapError" = some (some (.ref L))) (l2:PySem.W.kitOne X.K (.ref C1) (.ref L)=some true) (h:cY c n e=true):PV X i C1 e (.bl true):=by
 unfold cY at h
 split at h
 case h_2=>cases h
 rename_i x p1 y p2 d p3 pos
 rw [Bool.and_eq_true,Bool.and_eq_true,Bool.and_eq_true,Bool.or_eq_true] at h
 obtain ⟨⟨hx,hy⟩,hb,hcd⟩:=h
 have hx:=of_decide_eq_true hx
 have hy:=of_decide_eq_true hy
 subst hx hy
 obtain ⟨b1,b2⟩:=gb C hb
 have nb:fG X "isinstance" (.builtin "isinstance"):=⟨b1,by decide +kernel,.inr ⟨F.blt _ (by decide +kernel) b2,boot_isinstance,by decide +kernel⟩⟩
 have hv:Vis X.env.scope y:=by
  have z:X.env.scope.names.lookup y=some .local:=hk
  unfold Vis; simp [z]
 rcases hcd with h|h
 ·rw [Bool.and_eq_true,Bool.and_eq_true] at h
  obtain ⟨⟨e1,e2⟩,e3⟩:=h
  have e1:=of_decide_eq_true e1
  subst e1
  have e4:c.gt.lookup ("LapError" : Str)=some .cls:=by
   split at e3
   ·assumption
   ·cases e3
  exact rE hi hk hd hv nb ⟨C.gl e2,by decide +kernel,.inl ((F.cls _ e4).2 _ l1)⟩ l2
 ·rw [Bool.and_eq_true] at h
  obtain ⟨e1,e2⟩:=h
  have e1:=of_decide_eq_true e1
  subst e1
  obtain ⟨g1,g2⟩:=gb C e2
  exact rE hi hk hd hv nb ⟨g1,by decide +kernel,.inr ⟨F.blt _ (by decide +kernel) g2,by decide +kernel,by decide +kernel⟩⟩ v1
theorem nF {c:TC} {X:Cx} {xw:XW} {n k:Str} {i:Nat} {C1:Addr} {e:PySem.Expr} (F:Fam Γ W CX EW c.gt cf X xw) (C:Cok c X) (hi:X.N[i]?=some n) (hk:X.env.kindOf n=some .local) (hd:(n==("__debug__" : Str))=false)
  (np:∀ d P,fk k d=true->PySem.W.nsIn X.K mainGlobals d=some (some (.ref P))->fE X.K C1/\PySem.W.kitOne X.K (.ref C1) (.ref P)=some false) (h:dM c n k e=true):∃ a p4,e=.UnaryOp .Not a p4/\PV X i C1 a (.bl false)/\∀ whole,isTrue a X.env whole=(do let v <- whole; standAt a.pos; holding [v] (truthy v)):=by
 unfold dM at h
 split at h
 case h_2=>cases h
 rename_i x p1 y p2 d p3 pos p4
 rw [Bool.and_eq_true,Bool.and_eq_true,Bool.and_eq_true,Bool.and_eq_true,Bool.and_eq_true] at h
 obtain ⟨⟨hx,hy⟩,hb,⟨h1,h3⟩,h4⟩:=h
 have hx:=of_decide_eq_true hx
 have hy:=of_decide_eq_true hy
 subst hx hy
 obtain ⟨b1,b2⟩:=gb C hb
 have nb:fG X "isinstance" (.builtin "isinstance"):=⟨b1,by decide +kernel,.inr ⟨F.blt _ (by decide +kernel) b2,boot_isinstance,by decide +kernel⟩⟩
 have hv:Vis X.env.scope y:=by
  have z:X.env.scope.names.lookup y=some .local:=hk
  unfold Vis; simp [z]
 have e4:c.gt.lookup d=some .cls:=by
  split at h4
  ·assumption
  ·cases h4
 obtain ⟨⟨P,_,_,_,_,hP,_⟩,hmg⟩:=F.cls _ e4
 obtain ⟨T,e⟩:=np d P h1 hP
 have hdd:(d==("__debug__" : Str))=false:=by
  unfold fk at h1
  rw [Bool.or_eq_true,Bool.and_eq_true,Bool.and_eq_true] at h1
  rcases h1 with ⟨_,z⟩|⟨_,z⟩
  ·rw [of_decide_eq_true z]; decide +kernel
  ·rw [of_decide_eq_true z]; decide +kernel
 exact ⟨_,_,rfl,Di hi hk hd hv nb ⟨C.gl h3,hdd,.inl (hmg P hP)⟩ T e,fun _=>rfl⟩
theorem qN {c:TC} {X:Cx} {n:Str} {e:PySem.Expr} (h:cY c n e=true):∀ whole,isTrue e X.env whole=(do let v <- whole; standAt e.pos; holding [v] (truthy v)):=by
 unfold cY at h
 split at h
 ·exact fun _=>rfl
 ·cases h
theorem sF {c:TC} {X:Cx} {n k:Str} {i:Nat} {C1:Addr} {pos:Pos} (h1:∀ e,cY c n e=true->PV X i C1 e (.bl true)) (h2:∀ e,dM c n k e=true->∃ a p4,e=.UnaryOp .Not a p4/\PV X i C1 a (.bl false)/\∀ whole,isTrue a X.env whole=(do let v <- whole; standAt a.pos; holding [v] (truthy v))):∀ {ts:List PySem.Expr},fK c n k ts=true->PVa X i C1 (.BoolOp .And ts pos)
 | [],h=>by cases h
 | [t],h=>by
  have h:(cY c n t||dM c n k t)=true:=h
  rw [Bool.or_eq_true] at h
  refine Bq ?_
  rcases h with h|h
  ·exact sr (h1 t h) (qN h)
  ·obtain ⟨a,p4,rfl,q1,q2⟩:=h2 t h
   exact rJ q1 q2
 | t::t2::r,h=>by
  have h:((cY c n t||dM c n k t)&&fK c n k (t2::r))=true:=h
  rw [Bool.and_eq_true,Bool.or_eq_true] at h
  refine vv ?_ (sF h1 h2 h.2)
  rcases h.1 with h|h
  ·exact sr (h1 t h) (qN h)
  ·obtain ⟨a,p4,rfl,q1,q2⟩:=h2 t h
   exact rJ q1 q2
theorem nW {c:TC} {X:Cx} {n k:Str} {i:Nat} {C1:Addr} {pos:Pos} (h1:∀ e,cY c n e=true->PV X i C1 e (.bl true)) (h2:∀ e,dM c n k e=true->PV X i C1 e (.bl true)):∀ {ts:List PySem.Expr},fK c n k ts=true->PV X i C1 (.BoolOp .And ts pos) (.bl true)
 | [],h=>by cases h
 | [t],h=>by
  have h:(cY c n t||dM c n k t)=true:=h
  rw [Bool.or_eq_true] at h
  exact A3 (h.elim (h1 t) (h2 t))
 | t::t2::r,h=>by
  have h:((cY c n t||dM c n k t)&&fK c n k (t2::r))=true:=h
  rw [Bool.and_eq_true,Bool.or_eq_true] at h
  exact D3 (h.1.elim (h1 t) (h2 t)) (nW h1 h2 h.2)
noncomputable def kxV:D->V
 | .bl b=>.bl b
 | .str x=>.str x
 | _=>.non
theorem o9 {c:TC} {X:Cx} {xw:XW} {n k:Str} {i:Nat} {C1:Addr} {kx:PySem.Expr} {d:D} (F:Fam Γ W CX EW c.gt cf X xw) (C:Cok c X)
  (h1:∀ e,cY c n e=true->PV X i C1 e (.bl true)) (h2:∀ e,dM c n k e=true->PV X i C1 e (.bl true)) (h:kI c n k kx=some d):PV X i C1 kx (kxV d)/\∀ ι H,Rep Γ ι H d (kxV d):=by
 unfold kI at h
 split at h
 ·split at h
  ·rename_i q; cases h
   exact ⟨nW h1 h2 q,fun _ _=>.bl _⟩
  ·cases h
 ·split at h
  ·rename_i q; cases h
   rw [Bool.and_eq_true,Bool.and_eq_true] at q
   obtain ⟨⟨q1,q2⟩,q3⟩:=q
   have q1:=of_decide_eq_true q1
   subst q1
   obtain ⟨b1,b2⟩:=gb C q2
   exact ⟨Bo (z_ (k:=true) ⟨b1,by decide +kernel,.inr ⟨F.blt _ (by decide +kernel) b2,PyProof.Rows.boot_int,by decide +kernel⟩⟩ (nW h1 h2 q3) rfl),fun _ _=>.str _⟩
  ·cases h
 ·cases h
theorem zv {m:Nat} {c:TC} {X:Cx} {xw:XW} {body:List Stmt} {hs:List ExceptHandler} {s':S} {pos:Pos} (F:Fam Γ W CX EW c.gt cf X xw) (C:Cok c X) (h:lN c (trE m c) body hs=some s'):PS X (.Try body hs [] [] pos) (tMS Γ xw (exec sub cf s')):=by
 unfold lN at h
 split at h
 case h_4=>cases h
 ·rename_i x p a as cpos rpos k np n kx rp2 hpos
  split at h
  case isFalse=>cases h
  rename_i hc
  rw [Bool.and_eq_true,Bool.and_eq_true,Bool.and_eq_true,Bool.and_eq_true,Bool.and_eq_true,Bool.and_eq_true] at hc
  obtain ⟨⟨⟨ht,hx1,hx2⟩,hk1,hk2⟩,hn1,hn2⟩:=hc
  split at h
  case h_2=>cases h
  rename_i es d i h1 h2 h3 h4 h5
  cases h
  have hi:X.N[i]?=some n:=by rw [C.N]; exact fZ h5
  have hkn:X.env.kindOf n=some .local:=by show X.env.scope.names.lookup n=_; rw [C.sc]; exact of_decide_eq_true hn2
  obtain ⟨n1,f,fd,ps,hf,hr,hm,hk,hb,hl⟩:=F.fn x h1
  obtain ⟨⟨C1,newId,initId,B,bmB,hns,hex,FB,v1,⟨L,l1,l2⟩,noP⟩,hmg⟩:=F.cls k h2
  rw [F.cx] at hf
  obtain ⟨a',b',q1,q2,_⟩:=b7 h3
  obtain ⟨pv,rep⟩:=o9 F C (fun e h=>lz F C hi hkn (cz hn1).1 v1 l1 l2 h) (fun e h=>by obtain ⟨a,p4,rfl,q,_⟩:=nF F C hi hkn (cz hn1).1 noP h; exact sG q) h4
  refine PS.imp (pD hf hr (C.gl hx2) hm hk hb (cz hx1).1 (cP (sub:=sub) F.nox C.nox (fun e e' h=>fF m c e e' h X.nox XF F.nox C.nox) h3) (bM q1 as X.env) (cZ q2 X.env cpos).1 (C.gl hk2) (hmg C1 hns) (cz hk1).1 hex FB.hasBase (C.stk ht) C.nd hi hkn (t9 pv)) fun D σ H h=>?_
  obtain ⟨σd,ι,S,hE,hs,ho⟩:=h
  have ho:Out Γ xw ι H ((quiet (evs sub cf es σd)>>=fun ds=>cR k d (cf x ds)>>=fun v=>pure (Fl.rt v)) S) (FlK Γ D):=ho
  refine ⟨σd,ι,S,hE,hs,(Out.quiet ho.bind XF).mono fun ds S1 ι1 H1 _ _ ⟨s1,e1,o1⟩ vs rs=>?_⟩
  refine ⟨EW fun c' _ _ H'=>c'=k/\D.rt (kxV d) H',fun cls H' z=>?_,?_⟩
  ·rw [F.ew] at z
   obtain ⟨c',C',rfl,hn,_,_,rfl,q⟩:=z
   rw [hns] at hn; cases hn
   exact ⟨rfl,q⟩
  ·have hlen:vs.length=ps.length:=by
    by_cases z:ds.length=ps.length
    ·rw [<- rs.length]; exact z
    ·rw [bB] at o1
     unfold cR at o1
     rw [hl ds S1 z] at o1
     exact o1.elim
   refine ⟨hlen,_,F.wt _,rfl,ι1,S1,ds,s1,rs,?_⟩
   rw [bB] at o1
   unfold cR at o1
   cases q:cf x ds S1 with
   | bad=>rw [q] at o1; exact o1.elim
   | ok d S2=>rw [q] at o1; exact o1
   | exc c' S2 =>
    rw [q] at o1
    dsimp only at o1
    by_cases z:c'=k
    ·rw [if_pos z] at o1
     exact fun ι' H' e' s2=>⟨z,o1 ι' H' e' s2 _ (rep _ _)⟩
    ·rw [if_neg z] at o1; exact o1.elim
 ·rename_i x p a as cpos rpos k np n ts bp j kp rp ip hpos
  split at h
  case isFalse=>cases h
  rename_i hc
  rw [Bool.and_eq_true,Bool.and_eq_true,Bool.and_eq_true,Bool.and_eq_true,Bool.and_eq_true,Bool.and_eq_true,Bool.and_eq_true] at hc
  obtain ⟨⟨⟨⟨ht,hx1,hx2⟩,hk1,hk2⟩,hn1,hn2⟩,hts⟩:=hc
  split at h
  case h_2=>cases h
  rename_i es i h1 h2 h3 h5
  cases h
  have hi:X.N[i]?=some n:=by rw [C.N]; exact fZ h5
  have hkn:X.env.kindOf n=some .local:=by show X.env.scope.names.lookup n=_; rw [C.sc]; exact of_decide_eq_true hn2
  obtain ⟨n1,f,fd,ps,hf,hr,hm,hk,hb,hl⟩:=F.fn x h1
  obtain ⟨⟨C1,newId,initId,B,bmB,hns,hex,FB,v1,⟨L,l1,l2⟩,noP⟩,hmg⟩:=F.cls k h2
  rw [F.cx] at hf
  obtain ⟨a',b',q1,q2,_⟩:=b7 h3
  have pv:=sF (pos:=bp) (fun e h=>lz F C hi hkn (cz hn1).1 v1 l1 l2 h) (fun e h=>nF F C hi hkn (cz hn1).1 noP h) hts
  refine PS.imp (pD hf hr (C.gl hx2) hm hk hb (cz hx1).1 (cP (sub:=sub) F.nox C.nox (fun e e' h=>fF m c e e' h X.nox XF F.nox C.nox) h3) (bM q1 as X.env) (cZ q2 X.env cpos).1 (C.gl hk2) (hmg C1 hns) (cz hk1).1 hex FB.hasBase (C.stk ht) C.nd hi hkn (Gi pv)) fun D σ H h=>?_
  obtain ⟨σd,ι,S,hE,hs,ho⟩:=h
  have ho:Out Γ xw ι H ((quiet (evs sub cf es σd)>>=fun ds=>cR k .non (cf x ds)>>=fun v=>pure (Fl.rt v)) S) (FlK Γ D):=ho
  refine ⟨σd,ι,S,hE,hs,(Out.quiet ho.bind XF).mono fun ds S1 ι1 H1 _ _ ⟨s1,e1,o1⟩ vs rs=>?_⟩
  refine ⟨EW fun c' _ _ H'=>c'=k/\D.rt .non H',fun cls H' z=>?_,?_⟩
  ·rw [F.ew] at z
   obtain ⟨c',C',rfl,hn,_,_,rfl,q⟩:=z
   rw [hns] at hn; cases hn
   exact ⟨rfl,q⟩
  ·have hlen:vs.length=ps.length:=by
    by_cases z:ds.length=ps.length
    ·rw [<- rs.length]; exact z
    ·rw [bB] at o1
     unfold cR at o1
     rw [hl ds S1 z] at o1
     exact o1.elim
   refine ⟨hlen,_,F.wt _,rfl,ι1,S1,ds,s1,rs,?_⟩
   rw [bB] at o1
   unfold cR at o1
   cases q:cf x ds S1 with
   | bad=>rw [q] at o1; exact o1.elim
   | ok d S2=>rw [q] at o1; exact o1
   | exc c' S2 =>
    rw [q] at o1
    dsimp only at o1
    by_cases z:c'=k
    ·rw [if_pos z] at o1
     exact fun ι' H' e' s2=>⟨z,o1 ι' H' e' s2 .non .non⟩
    ·rw [if_neg z] at o1; exact o1.elim
 ·rename_i x p a as cpos rpos k np n kx rp2 hpos
  split at h
  case isFalse=>cases h
  rename_i hc
  rw [Bool.and_eq_true,Bool.and_eq_true,Bool.and_eq_true,Bool.and_eq_true,Bool.and_eq_true,Bool.and_eq_true] at hc
  obtain ⟨⟨⟨ht,hx1,hx2⟩,hk1,hk2⟩,hn1,hn2⟩:=hc
  split at h
  case h_2=>cases h
  rename_i es d i h1 h2 h3 h4 h5
  cases h
  have hi:X.N[i]?=some n:=by rw [C.N]; exact fZ h5
  have hkn:X.env.kindOf n=some .local:=by show X.env.scope.names.lookup n=_; rw [C.sc]; exact of_decide_eq_true hn2
  obtain ⟨n1,f,fd,ps,hf,hr,hm,hk,hb,hl⟩:=F.fn x h1
  obtain ⟨⟨C1,newId,initId,B,bmB,hns,hex,FB,v1,⟨L,l1,l2⟩,noP⟩,hmg⟩:=F.cls k h2
  rw [F.cx] at hf
  obtain ⟨a',b',q1,q2,_⟩:=b7 h3
  obtain ⟨pv,rep⟩:=o9 F C (fun e h=>lz F C hi hkn (cz hn1).1 v1 l1 l2 h) (fun e h=>by obtain ⟨a,p4,rfl,q,_⟩:=nF F C hi hkn (cz hn1).1 noP h; exact sG q) h4
  refine PS.imp (EM hf hr (C.gl hx2) hm hk hb (cz hx1).1 (cP (sub:=sub) F.nox C.nox (fun e e' h=>fF m c e e' h X.nox XF F.nox C.nox) h3) (bM q1 as X.env) (cZ q2 X.env cpos).1 (C.gl hk2) (hmg C1 hns) (cz hk1).1 hex FB.hasBase (C.stk ht) C.nd hi hkn pv) fun D σ H h=>?_
  obtain ⟨σd,ι,S,hE,hs,ho⟩:=h
  have ho:Out Γ xw ι H ((quiet (evs sub cf es σd)>>=fun ds=>kD k d σd (cf x ds)) S) (FlK Γ D):=ho
  refine ⟨σd,ι,S,hE,hs,(Out.quiet ho.bind XF).mono fun ds S1 ι1 H1 _ _ ⟨s1,e1,o1⟩ vs rs=>?_⟩
  refine ⟨EW fun c' _ _ H'=>c'=k/\D.rt (kxV d) H',fun cls H' z=>?_,?_⟩
  ·rw [F.ew] at z
   obtain ⟨c',C',rfl,hn,_,_,rfl,q⟩:=z
   rw [hns] at hn; cases hn
   exact ⟨rfl,q⟩
  ·have hlen:vs.length=ps.length:=by
    by_cases z:ds.length=ps.length
    ·rw [<- rs.length]; exact z
    ·unfold kD at o1
     rw [hl ds S1 z] at o1
     exact o1.elim
   refine ⟨hlen,_,F.wt _,rfl,ι1,S1,ds,s1,rs,?_⟩
   unfold kD at o1
   cases q:cf x ds S1 with
   | bad=>rw [q] at o1; exact o1.elim
   | ok d' S2 =>
    rw [q] at o1
    exact fun ι' H' e' s2 v r=>o1 ι' H' e' s2 σ (hE.ext (e1.trans e'))
   | exc c' S2 =>
    rw [q] at o1
    dsimp only at o1
    by_cases z:c'=k
    ·rw [if_pos z] at o1
     exact fun ι' H' e' s2=>⟨z,o1 ι' H' e' s2 _ (rep _ _)⟩
    ·rw [if_neg z] at o1; exact o1.elim
theorem Fz {m:Nat} {c:TC} {X:Cx} {xw:XW} {body:List Stmt} {hs:List ExceptHandler} {s':S} {pos:Pos} (F:Fam Γ W CX EW c.gt cf X xw) (C:Cok c X) (h:mZ c (trE m c) body hs=some s'):PS X (.Try body hs [] [] pos) (tMS Γ xw (exec sub cf s')):=by
 unfold mZ at h
 split at h
 case h_2=>exact zv F C h
 rename_i x p a as cpos rpos k np j kp rp2 hpos
 split at h
 case isFalse=>cases h
 rename_i hc
 rw [Bool.and_eq_true,Bool.and_eq_true,Bool.and_eq_true,Bool.and_eq_true] at hc
 obtain ⟨⟨ht,hx1,hx2⟩,hk1,hk2⟩:=hc
 split at h
 case h_2=>cases h
 rename_i es h1 h2 h3
 cases h
 obtain ⟨n,f,fd,ps,hf,hr,hm,hk,hb,hl⟩:=F.fn x h1
 obtain ⟨⟨C1,newId,initId,B,bmB,hns,hex,FB,_⟩,hmg⟩:=F.cls k h2
 rw [F.cx] at hf
 obtain ⟨a',b',q1,q2,_⟩:=b7 h3
 refine PS.imp (yk (kv:=.non) hf hr (C.gl hx2) hm hk hb (cz hx1).1 (cP (sub:=sub) F.nox C.nox (fun e e' h=>fF m c e e' h X.nox XF F.nox C.nox) h3) (bM q1 as X.env) (cZ q2 X.env cpos).1 (C.gl hk2) (hmg C1 hns) (cz hk1).1 hex FB.hasBase (C.stk ht) fun A E s Q q=>Constant_none (q s.toks .none rfl)) fun D σ H h=>?_
 obtain ⟨σd,ι,S,hE,hs,ho⟩:=h
 have ho:Out Γ xw ι H ((quiet (evs sub cf es σd)>>=fun ds=>cR k .non (cf x ds)>>=fun v=>pure (Fl.rt v)) S) (FlK Γ D):=ho
 refine ⟨σd,ι,S,hE,hs,(Out.quiet ho.bind XF).mono fun ds S1 ι1 H1 _ _ ⟨s1,e1,o1⟩ vs rs=>?_⟩
 refine ⟨EW fun c' _ _ H'=>c'=k/\D.rt .non H',fun cls H' z=>?_,?_⟩
 ·rw [F.ew] at z
  obtain ⟨c',C',rfl,hn,_,_,rfl,q⟩:=z
  rw [hns] at hn; cases hn
  exact ⟨rfl,q⟩
 ·have hlen:vs.length=ps.length:=by
   by_cases z:ds.length=ps.length
   ·rw [<- rs.length]; exact z
   ·rw [bB] at o1
    unfold cR at o1
    rw [hl ds S1 z] at o1
    exact o1.elim
  refine ⟨hlen,_,F.wt _,rfl,ι1,S1,ds,s1,rs,?_⟩
  rw [bB] at o1
  unfold cR at o1
  cases q:cf x ds S1 with
  | bad=>rw [q] at o1; exact o1.elim
  | ok d S2=>rw [q] at o1; exact o1
  | exc c' S2 =>
   rw [q] at o1
   dsimp only at o1
   by_cases z:c'=k
   ·rw [if_pos z] at o1
    exact fun ι' H' e' s2=>⟨z,o1 ι' H' e' s2 .non .non⟩
   ·rw [if_neg z] at o1; exact o1.elim
theorem D6 (m:Nat):∀ (n:Nat) (c:TC) (s:Stmt) (s':S),trS m n c s=some s'->∀ (X:Cx) (xw:XW),Fam Γ W CX EW c.gt cf X xw->Cok c X->PS X s (tMS Γ xw (exec sub cf s')):=by
 intro n
 induction n with
 | zero=>intro c s s' h; cases h
 | succ n ihn =>
  intro c s s' h X xw F C
  have ih:∀ s s',trS m n c s=some s'->PS X s (tMS Γ xw (exec sub cf s')):=fun s s' h=>ihn c s s' h X xw F C
  have ihx:∀ s s',trS m n c s=some s'->PS X.nox s (tMS Γ XF (exec sub cf s')):=fun s s' h=>ihn c s s' h X.nox XF F.nox C.nox
  have ce:∀ {e e'},trE m c e=some e'->ClE Γ sub cf X xw e e':=fun {e e'} h=>fF m c e e' h X xw F C
  have cx:∀ {e e'},trE m c e=some e'->ClE Γ sub cf X.nox XF e e':=fun {e e'} h=>fF m c e e' h X.nox XF F.nox C.nox
  cases s with
  | Return v p =>
   cases v with
   | none=>cases h; exact xY
   | some e =>
    obtain ⟨e',h1,rfl⟩:=dw (f:=S.ret) h
    exact vD (ce h1).pe
  | Expr e p =>
   simp only [trS] at h
   split at h
   ·rename_i hd
    obtain ⟨x,j,q,rfl⟩:=rF hd
    cases h; exact Az
   ·split at h
    ·rename_i hn
     obtain ⟨e',h1,rfl⟩:=dw (f:=S.ex) h
     exact B0 (ce h1).pe (nM hn _ _ _)
    ·cases h
  | Pass p=>cases h; exact GB
  | Assign ts e p =>
   simp only [trS] at h
   split at h
   ·rename_i tg
    split at h
    ·rename_i ha
     split at h
     ·rename_i t e' h1 h2
      cases h
      exact yP F C ha h1 h2
     ·cases h
    ·cases h
   ·cases h
  | If t a b p =>
   simp only [trS] at h
   split at h
   ·rename_i t' a' b' h1 h2 h3
    cases h
    exact Gk (ce h1).pt (jf ih h2) (jf ih h3)
   ·cases h
  | For tg it body els p =>
   simp only [trS] at h
   split at h
   ·rename_i t i b h1 h2 h3
    cases h
    obtain ⟨PI1,hs⟩:=nG (X:=X.nox) (xw:=XF) F.nox C.nox (fun e e' h=>cx h) h2
    exact zT F.calm PI1 (kU (X:=X.nox) F.hK F.calm C.nox h1) (jf ihx h3) hs
   ·cases h
  | Raise e cause p =>
   cases e with
   | none=>cases cause <;> cases h
   | some e =>
    cases cause with
    | none=>exact yg F C h
    | some _=>cases h
  | Try body hs els fin p =>
   cases els with
   | cons _ _=>cases h
   | nil =>
    cases fin with
    | cons _ _=>cases h
    | nil=>exact Fz F C h
  | _=>cases h
end
end EV

namespace EV
open PySem PySem.Spec PyProof.Rows L2
theorem nu:∀ {ns:List Str} {us:List Value} {i:Nat} {x:Str} {u:Value},ns.Nodup->ns[i]?=some x->us[i]?=some u->(ns.zip us).lookup x=some u
 | [],_,_,_,_,_,h,_=>by simp at h
 | _::_,[],_,_,_,_,_,h=>by simp at h
 | y::ns,v::us,0,x,u,_,h1,h2=>by
  simp at h1 h2; subst h1; subst h2
  simp [List.lookup]
 | y::ns,v::us,i+1,x,u,nd,h1,h2=>by
  have h1':ns[i]?=some x:=by simpa using h1
  have hne:¬ x=y:=fun e=>by
   subst e; exact (List.nodup_cons.mp nd).1 (List.mem_of_getElem? h1')
  have hb:(x==y)=false:=by simpa using hne
  show List.lookup x ((y,v)::ns.zip us)=some u
  rw [List.lookup_cons,hb]
  exact nu (List.nodup_cons.mp nd).2 h1' (by simpa using h2)
theorem yY {ns:List Str} {us:List Value} (nd:ns.Nodup) (hl:us.length=ns.length):ns.filterMap (fun n=>((ns.zip us).lookup n).map (n,·))=ns.zip us:=by
 have all:∀ (ms:List Str) (vs:List Value),vs.length=ms.length->(∀ (i:Nat) x u,ms[i]?=some x->vs[i]?=some u->(ns.zip us).lookup x=some u)->ms.filterMap (fun n=>((ns.zip us).lookup n).map (n,·))=ms.zip vs:=by
  intro ms
  induction ms with
  | nil=>intro vs _ _; rfl
  | cons m ms ih =>
   intro vs hl h
   cases vs with
   | nil=>simp at hl
   | cons v vs =>
    rw [List.filterMap_cons,h 0 m v rfl rfl]
    show (m,v)::_=(m,v)::ms.zip vs
    rw [ih vs (by simpa using hl) fun i x u h1 h2=>h (i+1) x u (by simpa using h1) (by simpa using h2)]
 exact all ns us hl fun i x u h1 h2=>nu nd h1 h2
theorem rM {x qual:Str} {a:Arguments} {body:List Stmt} {sc:Scope} {kV doc pm cdv ct:Value} {an:Option Addr} (hp:kY a=true) (nd:(argNames a).Nodup) {us:List Value} (hl:us.length=(argNames a).length) :
  bindArgs (PySem.W.fnOf x qual a body sc .none kV doc pm an cdv ct) ⟨us,[]⟩=pure ((argNames a).zip us):=by
 obtain ⟨po,as,va,ko,kd,kw,df⟩:=a
 unfold kY at hp
 simp only [Bool.and_eq_true,List.isEmpty_iff,Option.isNone_iff_eq_none] at hp
 obtain ⟨⟨⟨⟨⟨rfl,rfl⟩,rfl⟩,rfl⟩,rfl⟩,rfl⟩:=hp
 have nd:(as.map (·.arg)).Nodup:=nd
 have hl:us.length=(as.map (·.arg)).length:=hl
 show bindArgs _ _=pure ((as.map (·.arg)).zip us)
 unfold bindArgs
 simp only [PySem.W.fnOf,List.map_nil,List.nil_append,List.append_nil]
 generalize as.map (·.arg)=ns at nd hl
 have hnot:¬ us.length > ns.length:=by rw [hl]; exact Nat.lt_irrefl _
 have hmiss:(List.take ns.length ns).filter (fun n=>((ns.zip us).lookup n).isNone)=[]:=by
  rw [List.filter_eq_nil_iff]
  intro n hn
  obtain ⟨i,hi⟩:=List.getElem?_of_mem (List.mem_of_mem_take hn)
  have hi':i < us.length:=by rw [hl]; exact (List.getElem?_eq_some_iff.mp hi).1
  rw [nu nd hi (List.getElem?_eq_getElem hi')]
  simp
 have hb:=yY nd hl
 have hd:seqItems? .none=pure none:=rfl
 rw [hd]
 have hz:(#[]:Array Value).toList=[]:=rfl
 have hdec:decide (us.length > ns.length)=false:=decide_eq_false hnot
 simp only [List.forIn_nil,pure_bind,Option.getD_none,hz,List.length_nil,Nat.zero_sub,List.drop_nil,Nat.sub_zero,hmiss,hdec,Bool.false_and,Bool.false_eq_true,if_false,List.isEmpty_nil,Bool.not_true,List.zip_nil_right,hb]
noncomputable def m_ (xw:XW):XW:=fun c _ _ H=>∃ S ι,xw c S ι H
structure Txt (K:PySem.W.Frag) (mg:Str->Option Value) (gt:List (Str × GE)) (defs:List (Str × Stmt)):Prop where
 fn:∀ x,gt.lookup x=some .fn->∃ st f fd,defs.lookup x=some st/\mg x=some (.ref f)/\Fun K x x st f fd
 blt:∀ x∈fj,gt.lookup x=none->mg x=none
 val:∀ x d,gt.lookup x=some (.val d)->∃ u v,mg x=some u/\RelV v u/\∀ ι H,Rep ⟨K⟩ ι H d v
 cls:∀ x,gt.lookup x=some .cls->ClsAt K x/\∀ C,PySem.W.nsIn K mainGlobals x=some (some (.ref C))->mg x=some (.ref C)
theorem zG {Γ:Gx} {ι:List Addr} {H:Hp} {ds:List D} {vs:List V} (rs:az Γ ι H ds vs) (N:List Str) {k:Nat} (hk:k=N.length):bu Γ ι H (L2.start N vs) (ds.map some++List.replicate (k - ds.length) none):=by
 have hl:=rs.length
 refine ⟨by unfold L2.start; simp [hl,hk],fun i d h=>?_⟩
 by_cases hi:i < ds.length
 ·rw [List.getElem?_append_left (by simpa using hi),List.getElem?_map] at h
  have h:ds[i]?=some d:=by
   rw [List.getElem?_eq_getElem hi] at h ⊢
   simpa using h
  obtain ⟨v,hv,r⟩:=Paired.get rs h
  refine ⟨v,?_,r⟩
  unfold L2.start
  rw [List.getElem?_append_left (by rw [List.length_map,<- hl]; exact hi),List.getElem?_map,hv]
  rfl
 ·rw [List.getElem?_append_right (by simpa using hi),List.getElem?_replicate] at h
  split at h <;> cases h
theorem oM {a:Arguments} {sc:Scope} (h:dO a sc=true):mj (namesOf a sc) (argNames a) sc/\kY a=true:=by
 unfold dO at h
 simp only [Bool.and_eq_true] at h
 obtain ⟨⟨⟨⟨⟨⟨h1,h2⟩,h3⟩,h4⟩,h5⟩,h6⟩,h7⟩:=h
 rw [List.all_eq_true] at h6 h7
 refine ⟨⟨of_decide_eq_true h2,by simpa using h3,by simpa using h4,j5 h5,?_,fun x hx=>?_,fun y hy hf=>?_⟩,h1⟩
 ·unfold namesOf; rw [List.take_append_of_le_length (Nat.le_refl _),List.take_length]
 ·have:=h6 x hx
  cases q:sc.names.lookup x with
  | none=>rw [q] at this; cases this
  | some k=>rw [q] at this; cases k <;> first|exact .inl rfl|exact .inr rfl|cases this
 ·have:=h7 y hy
  rw [hf] at this; simp at this
theorem uI {CX:CXT} {P:Program} {w:World} {K:PySem.W.Frag} {mg:Str->Option Value} {base:Heap} {N:List Str} {qual:Str} {scope:Scope} {f:Addr} {cd:Value} {A:Around} {outer:List Env} {s:Shared} {H:Hp} {E:XK} {pins:List (Addr × Obj)} {σ:L2.St} {H1:Hp} {s1:Shared} (I:Inv (dc CX P w K mg base N qual scope f cd A outer s H E) pins σ H1 s1):A.frames=some outer:=by
 have z:A.frames.map (envOfC qual scope s.heap.objs.size f cd :: ·)=some (envOfC qual scope s.heap.objs.size f cd::outer):=I.ok.frames
 cases q:A.frames with
 | none=>rw [q] at z; cases z
 | some l=>rw [q] at z; cases z; rfl
section
variable {P:Program} {w:World} {K:PySem.W.Frag} {mg:Str->Option Value} {base:Heap} {W:XW->Prop} {sub:Sub} {gt:List (Str × GE)} {defs:List (Str × Stmt)} {Pd:Prg}
theorem yx (T:Txt K mg gt defs) (hW:∀ xw,W xw) (hP:∀ x st,defs.lookup x=some st->∃ F,trF gt st=some F/\Pd.lookup x=some F) :
  ∀ (n:Nat) (x:Str) (st:Stmt) (f:Addr) (fd:FuncData),defs.lookup x=some st->Fun K x x st f fd->c6 P w K mg base (CXe P w) n f fd (argNames (dR st)) (spF ⟨K⟩ W (EWx K) (ai sub Pd n x) (argNames (dR st)).length):=by
 intro n
 induction n with
 | zero =>
  intro x st f fd _ _
  refine ⟨fun vs H Q E h=>h.1,fun A outer s H args us vs Q E _ _ _ _ h=>?_⟩
  obtain ⟨_,_,_,_,_,_,_,_,_,ho⟩:=h
  exact ho.elim
 | succ n ih =>
  intro x st f fd hst Fu
  obtain ⟨F,hF,hPi⟩:=hP x st hst
  cases st with
  | FunctionDef x0 a body d1 d2 d3 sc d4 d5 d6 =>
   have hF:(if dO a sc=true then (dI (trS depth depth (f_ gt a sc)) body).map fun b=>(⟨(argNames a).length,(namesOf a sc).length,b⟩:Fn) else none)=some F:=hF
   by_cases hs:dO a sc=true
   ·rw [if_pos hs] at hF
    obtain ⟨b,hb,rfl⟩:=dw hF
    obtain ⟨SC,hpl⟩:=oM hs
    obtain ⟨oc,od,kV,doc,pm,an,cdv,ct,osl,rfl,lk,hcd⟩:=Fu.ex
    refine zU (N:=namesOf a sc) lk hcd SC (fun vs H Q E h=>h.1) fun A outer s H vs Q E hr hsp=>?_
    obtain ⟨hl,xw,hw,rfl,ι,S,ds,hS,rs,ho⟩:=hsp
    have hew:∀ C H,EWx K (m_ xw) (.ref C) none H->EWx K xw (.ref C) none H:=fun C H z=>by
     obtain ⟨c,C',z1,z2,_,_,S',ι',z3⟩:=z
     exact ⟨c,C',z1,z2,S',ι',z3⟩
    have FM:Fam ⟨K⟩ W (CXe P w) (EWx K) gt (ai sub Pd n) (dc (CXe P w) P w K mg base (namesOf a sc) x sc f cdv A outer s H (EWx K xw)) (m_ xw):=by
     refine ⟨rfl,rfl,hr.units,T.blt,T.val,fun y hy=>?_,fun pins σ H1 s1 v s2 I hx=>sy (fun _ _ _ _ z=>.inr z) hew (uI I) I hx,fun pins σ H1 s1 v s2 I hx=>sy (fun _ _ _ _ z=>.inl z) hew (uI I) I hx,T.cls,rfl,rfl,hW⟩
     obtain ⟨st2,f2,fd2,h1,h2,h3⟩:=T.fn y hy
     obtain ⟨F2,hF2,hPj⟩:=hP y st2 h1
     have hb2:Binds K fd2 (argNames (dR st2)) []:=by
      cases st2 with
      | FunctionDef x1 a1 body1 e1 e2 e3 sc1 e4 e5 e6 =>
       have hF2:(if dO a1 sc1=true then (dI (trS depth depth (f_ gt a1 sc1)) body1).map fun b=>(⟨(argNames a1).length,(namesOf a1 sc1).length,b⟩:Fn) else none)=some F2:=hF2
       by_cases hs1:dO a1 sc1=true
       ·obtain ⟨SC1,hpl1⟩:=oM hs1
        refine h3.binds fun _ _ _ _ _ _ us hl=>?_
        have nd1:(argNames a1).Nodup:=by rw [<- SC1.pre]; exact SC1.nd.sublist (List.take_sublist _ _)
        exact rM hpl1 nd1 hl
       ·rw [if_neg hs1] at hF2; cases hF2
      | _=>cases hF2
     refine ⟨n,f2,fd2,argNames (dR st2),ih y st2 f2 fd2 h1 h3,hr,h2,h3.kp,hb2,fun ds S hne=>?_⟩
     cases n with
     | zero=>rfl
     | succ n =>
      have hpar:F2.par=(argNames (dR st2)).length:=by
       cases st2 with
       | FunctionDef x1 a1 body1 e1 e2 e3 sc1 e4 e5 e6 =>
        have hF2:(if dO a1 sc1=true then (dI (trS depth depth (f_ gt a1 sc1)) body1).map fun b=>(⟨(argNames a1).length,(namesOf a1 sc1).length,b⟩:Fn) else none)=some F2:=hF2
        by_cases hs1:dO a1 sc1=true
        ·rw [if_pos hs1] at hF2
         obtain ⟨b1,_,rfl⟩:=dw hF2
         rfl
        ·rw [if_neg hs1] at hF2; cases hF2
       | _=>cases hF2
      exact En hPj (by rw [hpar]; exact hne)
    have CK:Cok (f_ gt a sc) (dc (CXe P w) P w K mg base (namesOf a sc) x sc f cdv A outer s H (EWx K xw)):=⟨rfl,rfl,SC.nd,SC.kind,fun _ _=>rfl,fun _=>⟨rfl,rfl⟩⟩
    refine ⟨tMS ⟨K⟩ (m_ xw) (exec sub (ai sub Pd n) b),jf (fun s s' h=>D6 depth depth (f_ gt a sc) s s' h _ _ FM CK) hb,?_⟩
    have hdl:ds.length=(argNames a).length:=rs.length.trans hl
    refine ⟨ds.map some++List.replicate ((namesOf a sc).length - ds.length) none,ι,S,zG rs _ rfl,hS,?_⟩
    have ho:Out ⟨K⟩ xw ι H (ai sub Pd (n+1) x ds S) _:=ho
    rw [cH hPi hdl] at ho
    unfold frame at ho
    cases q:exec sub (ai sub Pd n) b (ds.map some++List.replicate ((namesOf a sc).length - ds.length) none) S with
    | bad=>rw [q] at ho; exact ho.elim
    | exc k S' =>
     rw [q] at ho
     intro ι' H' e' s'
     have ho:Out ⟨K⟩ xw ι H (if S'.take S.length=S then .exc k S else .exc k S') _:=ho
     by_cases ht:S'.take S.length=S
     ·rw [if_pos ht] at ho
      exact ⟨S,ι,ho ι H' e'.back (ay.back e' hS s' ht)⟩
     ·rw [if_neg ht] at ho
      exact ⟨S',ι',ho ι' H' e' s'⟩
    | ok fl S' =>
     rw [q] at ho
     intro ι' H' e' s'
     cases fl with
     | nx σ'=>exact fun σv hv=>uY hS e' s' .non ho
     | rt d=>exact fun v r=>uY hS e' s' r ho
     | bk σ'=>exact ho.elim
     | ct σ'=>exact ho.elim
   ·rw [if_neg hs] at hF; cases hF
  | _=>cases hF
end
end EV

namespace EV
open PySem PySem.Spec PyProof.Rows L2
inductive dZ (K:PySem.W.Frag):List (Str × Stmt)->Prop
 | nil:dZ K []
 | cons {x:Str} {st:Stmt} {r:List (Str × Stmt)} {f:Addr} {oc:Value} {od an:Option Addr} {osl:Array (Option Value)} {kV doc pm cdv ct:Value} :
   PySem.W.nsIn K mainGlobals x=some (some (.ref f)) ->
   K.lookup f=some ⟨oc,od,.func (PySem.W.fnOf x x (dR st) (jo st) (iO st) .none kV doc pm an cdv ct),osl⟩ ->
   PySem.W.codeIn K cdv x=true->PySem.W.keepIn K (.ref f)=true->dZ K r->dZ K ((x,st)::r)
inductive fU:D->Value->Prop
 | non:fU .non .none
 | bl (b:Bool):fU (.bl b) (.bool b)
 | int (i:Int) (t:Tok):fU (.int i) (.int i t)
 | str (x:Str) (t:Tok):fU (.str x) (.str x t)
inductive fL:List D->List Value->Prop
 | nil:fL [] []
 | cons {d:D} {u:Value} {ds:List D} {us:List Value}:fU d u->fL ds us->fL (d::ds) (u::us)
inductive cQ (K:PySem.W.Frag):List (Str × D)->Prop
 | nil:cQ K []
 | flat {x:Str} {d:D} {u:Value} {r:List (Str × D)}:PySem.W.nsIn K mainGlobals x=some (some u)->fU d u->cQ K r->cQ K ((x,d)::r)
 | tup {x:Str} {ds:List D} {a:Addr} {od:Option Addr} {us:List Value} {n:Nat} {sl:Array (Option Value)} {r:List (Str × D)}:PySem.W.nsIn K mainGlobals x=some (some (.ref a)) ->
   K.lookup a=some ⟨.type "tuple",od,.seq us.toArray n,sl⟩->us.length<=1000->allInts ds=none->fL ds us->cQ K r->cQ K ((x,.tup ds)::r)
inductive fu (K:PySem.W.Frag):List Str->Prop
 | nil:fu K []
 | cons {x:Str} {r:List Str}:PySem.W.nsIn K mainGlobals x=some none->fu K r->fu K (x::r)
noncomputable def jK:D->V
 | .bl b=>.bl b
 | .int i=>.int i
 | .str x=>.str x
 | _=>.non
theorem fU.rel {d:D} {u:Value} (h:fU d u):RelV (jK d) u/\∀ Γ ι H,Rep Γ ι H d (jK d):=by
 cases h with
 | non=>exact ⟨rfl,fun _ _ _=>.non⟩
 | bl b=>exact ⟨rfl,fun _ _ _=>.bl b⟩
 | int i t=>exact ⟨⟨t,rfl⟩,fun _ _ _=>.int i⟩
 | str x t=>exact ⟨⟨t,rfl⟩,fun _ _ _=>.str x⟩
theorem fL.rel:∀ {ds:List D} {us:List Value},fL ds us->Vals (ds.map jK) us/\∀ Γ ι H,az Γ ι H ds (ds.map jK)
 | _,_,.nil=>⟨.nil,fun _ _ _=>.nil⟩
 | _,_,.cons h r=>⟨.cons h.rel.1 (fL.rel r).1,fun Γ ι H=>.cons (h.rel.2 Γ ι H) ((fL.rel r).2 Γ ι H)⟩
theorem dZ.get {K:PySem.W.Frag}:∀ {fns:List (Str × Stmt)} {x:Str} {st:Stmt},dZ K fns->(x,st)∈fns->∃ f fd,PySem.W.nsIn K mainGlobals x=some (some (.ref f))/\Fun K x x st f fd
 | _,_,_,.nil,h=>by simp at h
 | _,_,_,.cons a l c k r,h=>by
  rcases List.mem_cons.mp h with e|h
  ·cases e; exact ⟨_,_,a,wm l c k⟩
  ·exact dZ.get r h
theorem cQ.get {K:PySem.W.Frag}:∀ {vals:List (Str × D)} {x:Str} {d:D},cQ K vals->(x,d)∈vals->∃ u v,PySem.W.nsIn K mainGlobals x=some (some u)/\RelV v u/\∀ ι H,Rep ⟨K⟩ ι H d v
 | _,_,_,.nil,h=>by simp at h
 | _,x,d,.flat a f r,h=>by
  rcases List.mem_cons.mp h with e|h
  ·cases e; exact ⟨_,_,a,f.rel.1,fun ι H=>f.rel.2 _ ι H⟩
  ·exact cQ.get r h
 | _,x,d,.tup a l z no f r,h=>by
  rcases List.mem_cons.mp h with e|h
  ·cases e
   refine ⟨_,.ref _,a,rfl,fun ι H=>?_⟩
   have hz:∀ {us:List Value},us.length<=1000->us.toArray.size<=sizeLine:=fun {us} h=>by rw [List.size_toArray,sizeLine_eq]; omega
   exact .tY (.inr ⟨_,_,_,l,rfl,rfl,hz z,by simpa using f.rel.1⟩) (f.rel.2 _ ι H) fun k q=>by rw [no] at q; cases q
  ·exact cQ.get r h
theorem fu.get {K:PySem.W.Frag}:∀ {l:List Str} {x:Str},fu K l->x∈l->PySem.W.nsIn K mainGlobals x=some none
 | _,_,.nil,h=>by simp at h
 | _,_,.cons a r,h=>by
  rcases List.mem_cons.mp h with rfl|h
  ·exact a
  ·exact fu.get r h
inductive bQ (K:PySem.W.Frag):List Str->Prop
 | nil:bQ K []
 | cons {x:Str} {r:List Str} {C L:Addr} (a:PySem.W.nsIn K mainGlobals x=some (some (.ref C))) (b:PySem.W.excIn K C [.type "ValueError",.type "Exception",.type "BaseException",.type "object"] "ValueError.__new__" = true)
   (v:PySem.W.kitOne K (.ref C) (.type "ValueError")=some true) (l1:PySem.W.nsIn K mainGlobals "LapError" = some (some (.ref L))) (l2:PySem.W.kitOne K (.ref C) (.ref L)=some true) (n:x≠"NoLoop"/\x≠"NoText") (c:bQ K r):bQ K (x::r)
 | consN {r:List Str} {C L:Addr} (a:PySem.W.nsIn K mainGlobals "NoLoop" = some (some (.ref C))) (b:PySem.W.excIn K C [.type "ValueError",.type "Exception",.type "BaseException",.type "object"] "ValueError.__new__" = true)
   (v:PySem.W.kitOne K (.ref C) (.type "ValueError")=some true) (l1:PySem.W.nsIn K mainGlobals "LapError" = some (some (.ref L))) (l2:PySem.W.kitOne K (.ref C) (.ref L)=some true) (n:PySem.W.nsIn K mainGlobals "NoPlan" = some none) (c:bQ K r):bQ K ("NoLoop" :: r)
 | consP {r:List Str} {C L P:Addr} (a:PySem.W.nsIn K mainGlobals "NoLoop" = some (some (.ref C))) (b:PySem.W.excIn K C [.type "ValueError",.type "Exception",.type "BaseException",.type "object"] "ValueError.__new__" = true)
   (v:PySem.W.kitOne K (.ref C) (.type "ValueError")=some true) (l1:PySem.W.nsIn K mainGlobals "LapError" = some (some (.ref L))) (l2:PySem.W.kitOne K (.ref C) (.ref L)=some true)
   (n:PySem.W.nsIn K mainGlobals "NoPlan" = some (some (.ref P))) (p:PySem.W.kitOne K (.ref C) (.ref P)=some false)
   (e1:PySem.W.findIn K (.ref C) "__getattribute__" = some (some (.builtin "BaseException.__getattribute__")))
   (e2:PySem.W.findIn K (.ref C) "__getattr__" = some none)
   (e3:PySem.W.findIn K (.ref C) "__class__" = some (some (.builtin "object.__class__")))
   (e4:PySem.W.specialIn K (.builtin "object.__class__") "__get__" = some (some (.builtin "getset_descriptor.__get__")))
   (e5:PySem.W.takesIn K (.builtin "object.__class__")=some true)
   (e6:PySem.W.mroIn K C (.type "object")=some true)
   (e7:PySem.W.mroIn K C (.type "BaseException")=some true) (c:bQ K r):bQ K ("NoLoop" :: r)
 | consT {r:List Str} {C L P:Addr} (a:PySem.W.nsIn K mainGlobals "NoText" = some (some (.ref C))) (b:PySem.W.excIn K C [.type "ValueError",.type "Exception",.type "BaseException",.type "object"] "ValueError.__new__" = true)
   (v:PySem.W.kitOne K (.ref C) (.type "ValueError")=some true) (l1:PySem.W.nsIn K mainGlobals "LapError" = some (some (.ref L))) (l2:PySem.W.kitOne K (.ref C) (.ref L)=some true)
   (n:PySem.W.nsIn K mainGlobals "NoLoop" = some (some (.ref P))) (p:PySem.W.kitOne K (.ref C) (.ref P)=some false)
   (e1:PySem.W.findIn K (.ref C) "__getattribute__" = some (some (.builtin "BaseException.__getattribute__")))
   (e2:PySem.W.findIn K (.ref C) "__getattr__" = some none)
   (e3:PySem.W.findIn K (.ref C) "__class__" = some (some (.builtin "object.__class__")))
   (e4:PySem.W.specialIn K (.builtin "object.__class__") "__get__" = some (some (.builtin "getset_descriptor.__get__")))
   (e5:PySem.W.takesIn K (.builtin "object.__class__")=some true)
   (e6:PySem.W.mroIn K C (.type "object")=some true)
   (e7:PySem.W.mroIn K C (.type "BaseException")=some true) (c:bQ K r):bQ K ("NoText" :: r)
theorem sf {d:Str} (h:fk "NoLoop" d=true):d = "NoPlan":=by
 unfold fk at h
 rw [Bool.or_eq_true,Bool.and_eq_true,Bool.and_eq_true] at h
 rcases h with ⟨_,z⟩|⟨z,_⟩
 ·exact of_decide_eq_true z
 ·exact absurd (of_decide_eq_true z) (by decide)
theorem AD {d:Str} (h:fk "NoText" d=true):d = "NoLoop":=by
 unfold fk at h
 rw [Bool.or_eq_true,Bool.and_eq_true,Bool.and_eq_true] at h
 rcases h with ⟨z,_⟩|⟨_,z⟩
 ·exact absurd (of_decide_eq_true z) (by decide)
 ·exact of_decide_eq_true z
theorem bQ.get {K:PySem.W.Frag}:∀ {l:List Str} {x:Str},bQ K l->x∈l->ClsAt K x
 | _,_,.nil,h=>by cases h
 | _,_,.cons a b v l1 l2 n r,h=>by
  rcases List.mem_cons.mp h with rfl|h
  ·refine ⟨_,_,_,_,_,a,b,PySem.F.excBase_ValueError,v,⟨_,l1,l2⟩,fun d P z _=>?_⟩
   unfold fk at z
   rw [Bool.or_eq_true,Bool.and_eq_true,Bool.and_eq_true] at z
   rcases z with ⟨z,_⟩|⟨z,_⟩
   ·exact absurd (of_decide_eq_true z) n.1
   ·exact absurd (of_decide_eq_true z) n.2
  ·exact bQ.get r h
 | _,_,.consN a b v l1 l2 n r,h=>by
  rcases List.mem_cons.mp h with rfl|h
  ·exact ⟨_,_,_,_,_,a,b,PySem.F.excBase_ValueError,v,⟨_,l1,l2⟩,fun d P z q=>by rw [sf z,n] at q; cases q⟩
  ·exact bQ.get r h
 | _,_,.consP a b v l1 l2 n p e1 e2 e3 e4 e5 e6 e7 r,h=>by
  rcases List.mem_cons.mp h with rfl|h
  ·exact ⟨_,_,_,_,_,a,b,PySem.F.excBase_ValueError,v,⟨_,l1,l2⟩,fun d P z q=>by rw [sf z,n] at q; cases q; exact ⟨⟨e1,e2,e3,e4,e5,e6,e7,by obtain ⟨cd,q,_⟩:=Option.bind_eq_some_iff.mp e6; rw [q]; rfl⟩,p⟩⟩
  ·exact bQ.get r h
 | _,_,.consT a b v l1 l2 n p e1 e2 e3 e4 e5 e6 e7 r,h=>by
  rcases List.mem_cons.mp h with rfl|h
  ·exact ⟨_,_,_,_,_,a,b,PySem.F.excBase_ValueError,v,⟨_,l1,l2⟩,fun d P z q=>by rw [AD z,n] at q; cases q; exact ⟨⟨e1,e2,e3,e4,e5,e6,e7,by obtain ⟨cd,q,_⟩:=Option.bind_eq_some_iff.mp e6; rw [q]; rfl⟩,p⟩⟩
  ·exact bQ.get r h
noncomputable def fD (fns:List (Str × Stmt)) (vals:List (Str × D)) (cls:List Str):List (Str × GE):=(fns.map fun p=>(p.1,.fn))++(vals.map fun p=>(p.1,.val p.2))++cls.map fun x=>(x,.cls)
theorem lM {α β γ:Type} {f:Str × α->Str × β} (hf:∀ p,(f p).1=p.1) {g:Str × α->γ}:∀ {l:List (Str × α)} {x:Str} {b:β},(l.map f).lookup x=some b->∃ p∈l,p.1=x/\(f p).2=b/\l.lookup x=some p.2
 | [],_,_,h=>by simp at h
 | p::r,x,b,h=>by
  have e:f p=(p.1,(f p).2):=by rw [<- hf p]
  rw [List.map_cons,e,List.lookup_cons] at h
  obtain ⟨y,a⟩:=p
  cases q:x==y with
  | true =>
   simp only [q] at h
   have e:x=y:=by simpa using q
   subst e
   exact ⟨(x,a),List.mem_cons_self,rfl,by simpa using h,by rw [List.lookup_cons,q]⟩
  | false =>
   simp only [q] at h
   obtain ⟨p,h1,h2,h3,h4⟩:=lM hf (g:=g) h
   exact ⟨p,List.mem_cons_of_mem _ h1,h2,h3,by rw [List.lookup_cons,q]; exact h4⟩
theorem lU {β:Type}:∀ {l m:List (Str × β)} {x:Str},(l++m).lookup x=(match l.lookup x with|some b=>some b|none=>m.lookup x)
 | [],m,x=>by simp
 | (y,a)::r,m,x=>by
  rw [List.cons_append,List.lookup_cons,List.lookup_cons]
  cases x==y with
  | true=>rfl
  | false=>exact lU
theorem iD {α:Type}:∀ {l:List (Str × α)} {x:Str} {a:α},l.lookup x=some a->(x,a)∈l
 | [],_,_,h=>by simp at h
 | (y,b)::r,x,a,h=>by
  rw [List.lookup_cons] at h
  cases q:x==y with
  | true =>
   rw [q] at h
   have e:x=y:=by simpa using q
   subst e
   have e:b=a:=by simpa using h
   subst e
   exact List.mem_cons_self
  | false=>rw [q] at h; exact List.mem_cons_of_mem _ (iD h)
theorem oX {K:PySem.W.Frag} {h:Heap} {mg:Str->Option Value} {fns:List (Str × Stmt)} {vals:List (Str × D)} {cls:List Str} (X:K.In h) (G:h.Ns mainGlobals mg) (hd:dZ K fns) (hv:cQ K vals) (hc:∀ x∈cls,ClsAt K x)
  (hb:∀ x∈fj,(fD fns vals cls).lookup x=none->PySem.W.nsIn K mainGlobals x=some none):Txt K mg (fD fns vals cls) fns where
 fn:=fun x hx=>by
  unfold fD at hx
  rw [lU,lU] at hx
  cases q:(fns.map fun p=>(p.1,GE.fn)).lookup x with
  | some b =>
   obtain ⟨p,h1,h2,_,h4⟩:=lM (g:=fun _=>()) (f:=fun p=>(p.1,GE.fn)) (fun _=>rfl) q
   obtain ⟨y,st⟩:=p
   have h2:y=x:=h2
   subst h2
   obtain ⟨f,fd,a,F⟩:=hd.get h1
   exact ⟨st,f,fd,h4,PySem.W.mg_of X G a,F⟩
  | none =>
   rw [q] at hx
   cases q2:(vals.map fun p=>(p.1,GE.val p.2)).lookup x with
   | some b =>
    rw [q2] at hx
    obtain ⟨p,h1,h2,h3,_⟩:=lM (g:=fun _=>()) (f:=fun p=>(p.1,GE.val p.2)) (fun _=>rfl) q2
    have hx:b=.fn:=by simpa using hx
    rw [hx] at h3; cases h3
   | none =>
    rw [q2] at hx
    have hm:=iD hx
    obtain ⟨p,_,e⟩:=List.mem_map.mp hm; cases e
 blt:=fun x hx hn=>PySem.W.mg_none_of X G (hb x hx hn)
 val:=fun x d hx=>by
  have hm:=iD hx
  unfold fD at hm
  rcases List.mem_append.mp hm with hm|hm
  ·rcases List.mem_append.mp hm with hm|hm
   ·obtain ⟨p,hp,e⟩:=List.mem_map.mp hm; cases e
   ·obtain ⟨p,hp,e⟩:=List.mem_map.mp hm
    cases e
    obtain ⟨u,v,a,r,q⟩:=hv.get hp
    exact ⟨u,v,PySem.W.mg_of X G a,r,q⟩
  ·obtain ⟨p,_,e⟩:=List.mem_map.mp hm; cases e
 cls:=fun x hx=>by
  have hm:=iD hx
  unfold fD at hm
  have hx:x∈cls:=by
   rcases List.mem_append.mp hm with hm|hm
   ·rcases List.mem_append.mp hm with hm|hm
    ·obtain ⟨p,_,e⟩:=List.mem_map.mp hm; cases e
    ·obtain ⟨p,_,e⟩:=List.mem_map.mp hm; cases e
   ·obtain ⟨p,hp,e⟩:=List.mem_map.mp hm; cases e; exact hp
  exact ⟨hc x hx,fun C a=>PySem.W.mg_of X G a⟩
theorem xG {K:PySem.W.Frag} {H:Hp} {a:Addr} {ns:List Int} (hO:jg H) (hS:SqL K H a (ns.map V.int)):ay ⟨K⟩ [] H []/\az ⟨K⟩ [] H [.fro (ns.map .int)] [.ref a]:=by
 refine ⟨⟨rfl,List.nodup_nil,fun l c h=>by simp at h⟩,.cons ?_ .nil⟩
 have hp:az ⟨K⟩ [] H (ns.map D.int) (ns.map V.int):=sd ns
 have hf:Fro K H a (ns.map V.int):=by
  rcases hS with (h|⟨o,h⟩)|h
  ·rcases hO a with z|⟨o,xs,z⟩
   ·rw [h] at z; cases z
   ·rw [h] at z; cases z
  ·exact .inl ⟨o,h⟩
  ·exact .inr fun H=>.inr h
 exact .fro hf (by simp) fun i d v e1 e2=>by
  obtain ⟨y,e,f⟩:=Paired.get hp e1
  rw [e2] at e; cases e; exact f
theorem BY {fns:List (Str × Stmt)} {gt:List (Str × GE)} {Pd:Prg} (hP:fns.map (fun p=>(p.1,trF gt p.2))=Pd.map fun p=>(p.1,some p.2)):∀ x st,fns.lookup x=some st->∃ F,trF gt st=some F/\Pd.lookup x=some F:=by
 have all:∀ (fns:List (Str × Stmt)) (Pd:Prg),(fns.map (fun p=>(p.1,trF gt p.2))=Pd.map fun p=>(p.1,some p.2))->∀ x st,fns.lookup x=some st->∃ F,trF gt st=some F/\Pd.lookup x=some F:=by
  intro fns
  induction fns with
  | nil=>intro Pd _ x st h; simp at h
  | cons p r ih =>
   intro Pd hP x st h
   cases Pd with
   | nil=>simp at hP
   | cons F Pd =>
    obtain ⟨y,st0⟩:=p
    obtain ⟨y2,F⟩:=F
    rw [List.map_cons,List.map_cons] at hP
    injection hP with e1 e2
    have e1a:y=y2:=congrArg Prod.fst e1
    have e1b:trF gt st0=some F:=congrArg Prod.snd e1
    subst e1a
    rw [List.lookup_cons] at h
    rw [List.lookup_cons]
    cases q:x==y with
    | true =>
     rw [q] at h
     have h:st0=st:=by simpa using h
     subst h
     exact ⟨F,e1b,rfl⟩
    | false=>rw [q] at h; exact ih Pd e2 x st h
 exact all fns Pd hP
theorem F9 {l:PySem.W.OpenLaw} {q:Program} {loose:List Str} {XP:(Str->Option Value)->Heap->Prop} {YP:World->Heap->Prop} {d:DefRec} {K:Params->PySem.W.Frag} {fns:List (Str × Stmt)} {vals:List (Str × D)} {cls:List Str} {Pd:Prg} {sub:Sub} {n:Nat} {st:Stmt} {x:Str}
  (hn:l.most=some 63) (hdf:d.params.defaults=[]) (hr:bS n callerA) (hY:∀ (w:World) (h:Heap),YP w h->(K w.params).In h)
  (hP:fns.map (fun p=>(p.1,trF (fD fns vals cls) p.2))=Pd.map fun p=>(p.1,some p.2)) (hL:fns.lookup d.name=some st) (hx:argNames (dR st)=[x])
  (hT:∀ w:World,∀ h:Heap,(K w.params).In h->dZ (K w.params) fns/\cQ (K w.params) vals/\bQ (K w.params) cls/\∀ x∈fj,(fD fns vals cls).lookup x=none->PySem.W.nsIn (K w.params) mainGlobals x=some none)
  (hmain:∀ ns:List Int,ns.length<=63->∃ S',ai sub Pd n d.name [.fro (ns.map .int)] []=.ok (.bl true) S') :
  PySem.W.WalkO q loose XP YP l.row.toRowW d [] (fun f vs=>PySem.call f vs):=by
 have hP':=BY hP
 refine L2.uv (n:=63) (k:=n) (x:=x) (CX:=fun w=>CXe l.prog w) (sp:=fun w=>spF ⟨K w.params⟩ (fun _=>True) (EWx (K w.params)) (ai sub Pd n d.name) 1) hn (by decide) hdf hr hY (fun w mg fa h KX G hmg=>?_) (fun w H a ns hl hO hS=>?_) fun _ _ _ _ _ ⟨_,_,_,_,_,_,_,_,_,_,_,_,z⟩=>z
 ·obtain ⟨h1,h2,h4,h3⟩:=hT w h KX
  have T:=oX KX G h1 h2 (fun x hx=>h4.get hx) h3
  obtain ⟨f,fd,a,F⟩:=h1.get (iD hL)
  have e:=hmg.symm.trans (PySem.W.mg_of KX G a)
  cases e
  refine ⟨fd,fun s u=>?_,fun base kb nb=>?_⟩
  ·obtain ⟨F2,hF2,_⟩:=hP' d.name st hL
   obtain ⟨oc,od,kV,doc,pm,an,cdv,ct,osl,rfl,lk,hcd⟩:=F.ex
   cases st with
   | FunctionDef x1 a1 body1 e1 e2 e3 sc1 e4 e5 e6 =>
    have hF2:(if dO a1 sc1=true then (dI (trS depth depth (f_ (fD fns vals cls) a1 sc1)) body1).map fun b=>(⟨(argNames a1).length,(namesOf a1 sc1).length,b⟩:Fn) else none)=some F2:=hF2
    by_cases hs1:dO a1 sc1=true
    ·obtain ⟨SC1,hpl1⟩:=oM hs1
     have nd1:(argNames a1).Nodup:=by rw [<- SC1.pre]; exact SC1.nd.sublist (List.take_sublist _ _)
     have hx:argNames a1=[x]:=hx
     have:=rM (x:=d.name) (qual:=d.name) (body:=body1) (sc:=sc1) (kV:=kV) (doc:=doc) (pm:=pm) (cdv:=cdv) (ct:=ct) (an:=an) hpl1 nd1 (us:=[u]) (by rw [hx]; rfl)
     rw [hx] at this
     exact .of_eq this
    ·rw [if_neg hs1] at hF2; cases hF2
   | _=>cases hF2
  ·have T':=oX kb nb h1 h2 (fun x hx=>h4.get hx) h3
   have:=yx (sub:=sub) (P:=l.prog) (w:=w) (base:=base) T' (W:=fun _=>True) (fun _=>trivial) hP' n d.name st fa fd hL F
   rw [hx] at this
   exact this
 ·obtain ⟨hs,rs⟩:=xG hO hS
  obtain ⟨S',hm⟩:=hmain ns hl
  refine ⟨rfl,XF,trivial,funext fun _=>funext fun _=>funext fun _=>propext ⟨fun z=>z.elim,fun z=>(ewF z).elim⟩,[],[],[.fro (ns.map .int)],hs,rs,?_⟩
  rw [hm]
  intro ι' H' _ _ v r
  cases r
  rfl
end EV

namespace K23
open PySem EV RL
noncomputable def top (i:Nat):Stmt:=PySem.Challenge.pw_roundlap_k23_texts.main.body.getD i (.Pass ⟨0,0,0,0⟩)
noncomputable def fns:List (Str × Stmt):=[(("is_whole" : Str),top 15),(("is_value" : Str),top 16),(("is_row" : Str),top 17),(("is_crew" : Str),top 18),(("are_crews" : Str),top 19),(("is_work_source" : Str),top 20),(("is_source" : Str),top 21),(("are_starts" : Str),top 22),(("is_work" : Str),top 23),(("are_works" : Str),top 24),(("are_outs" : Str),top 25),(("is_loop" : Str),top 26),(("checked" : Str),top 27),(("row_of" : Str),top 32),(("source_text" : Str),top 33),(("work_row" : Str),top 34),(("written" : Str),top 35),(("shown" : Str),top 36),(("number_of" : Str),top 37),(("numbers_of" : Str),top 38),(("source_of" : Str),top 39),(("work_of" : Str),top 40),(("rows_headed" : Str),top 41),(("loosely_read" : Str),top 42),(("read" : Str),top 43),(("_law_cell_at" : Str),top 45),(("_law_mixed" : Str),top 46),(("_law_source" : Str),top 47),(("_law_work" : Str),top 48),(("_law_loop" : Str),top 49),(("_law_source_text" : Str),top 50),(("_law_text" : Str),top 51),(("_law_spoilt" : Str),top 52),(("_law_told" : Str),top 53),(("law" : Str),top 54)]
noncomputable def vals:List (Str × D):=[("REST",(.int 9973)),("MOST_STREAMS",(.int 6)),("MOST_CREWS",(.int 3)),("MOST_MACHINES",(.int 3)),("MOST_BUSY",(.int 4)),("MOST_WORKS",(.int 8)),("MOST_LONG",(.int 8)),("MOST_SOURCES",(.int 3)),("MOST_BACK",(.int 3)),("WORDS",(.tup [(.str "plus"),(.str "less"),(.str "times"),(.str "least"),(.str "greatest")])),("DIGITS",(.str "0123456789")),("MOST_DIGITS",(.int 4)),("LEAST_WORDS",(.int 8))]
noncomputable def cls:List Str:=["LapError","NoLoop","NoText"]
set_option maxRecDepth 100000 in
set_option maxHeartbeats 0 in
theorem hP:fns.map (fun p=>(p.1,trF (fD fns vals cls) p.2))=Pd.map fun p=>(p.1,some p.2):=by kernel_rfl
end K23
noncomputable def PySem.W.Fast.tw11321236336907107649:Nat:=0
noncomputable def PySem.W.Fast.tw11440226462750510252:Nat:=0
noncomputable def PySem.W.Fast.tw3227495271430138611:Nat:=0
noncomputable def PySem.W.Fast.tw3440045083607107478:Nat:=0
noncomputable def PySem.W.Fast.tw773249216621623635:Nat:=0
noncomputable def PySem.W.Fast.tw11605160130870981176:Nat:=0
noncomputable def PySem.W.Fast.tw15775930241215126711:Nat:=0
noncomputable def PySem.W.Fast.tw9793202176810707531:Nat:=0
noncomputable def PySem.W.Fast.tw6082986187226477978:Nat:=0
noncomputable def PySem.W.Fast.tw1803335295385367022:Nat:=0
noncomputable def PySem.W.Fast.tw16107877664257046052:Nat:=0
noncomputable def PySem.W.Fast.tw6027488895606207567:Nat:=0
noncomputable def PySem.W.Fast.tw1043103007191394336:Nat:=0
noncomputable def PySem.W.Fast.tw2615121673833191654:Nat:=0
noncomputable def PySem.W.Fast.tw1371609656813576995:Nat:=0
noncomputable def PySem.W.Fast.tw9860244111982802549:Nat:=0
noncomputable def PySem.W.Fast.tw10152858680299245038:Nat:=0
noncomputable def PySem.W.Fast.tw13057384697386257838:Nat:=0
noncomputable def PySem.W.Fast.tw2698553795088360940:Nat:=0
noncomputable def PySem.W.Fast.tw14698339726350073701:Nat:=0
noncomputable def PySem.W.Fast.tw16691162063380844053:Nat:=0
noncomputable def PySem.W.Fast.tw11008509671796604429:Nat:=0
noncomputable def PySem.W.Fast.tw4102605781953963072:Nat:=0
noncomputable def PySem.W.Fast.tw3464812601719184926:Nat:=0
noncomputable def PySem.W.Fast.tw8983050691544356690:Nat:=0
noncomputable def PySem.W.Fast.tw16818544603513713042:Nat:=0
noncomputable def PySem.W.Fast.tw9141787163256726736:Nat:=0
noncomputable def PySem.W.Fast.tw1619733418451178386:Nat:=0
noncomputable def PySem.W.Fast.tw5926389262644117363:Nat:=0
noncomputable def PySem.W.Fast.tw11186321966198100978:Nat:=0
noncomputable def PySem.W.Fast.tw3450673281170860798:Nat:=0
noncomputable def PySem.W.Fast.tw16099592924304344596:Nat:=0
noncomputable def PySem.W.Fast.tw1456207976476077093:Nat:=0
noncomputable def PySem.W.Fast.tw5637634803023551121:Nat:=0
noncomputable def PySem.W.Fast.tw15238040773428310078:Nat:=0
noncomputable def PySem.W.Fast.tw3341396146021949736:Nat:=0
noncomputable def PySem.W.Fast.tw2791828297422621588:Nat:=0
noncomputable def PySem.W.Fast.tw10373537398316261596:Nat:=0
noncomputable def PySem.W.Fast.tw4468931923688265664:Nat:=0
noncomputable def PySem.W.Fast.tw17535457634971342739:Nat:=0
noncomputable def PySem.W.Fast.tw6684685730434824242:Nat:=0
noncomputable def PySem.W.Fast.tw14105843322078192051:Nat:=0
noncomputable def PySem.W.Fast.tw10742623869165795588:Nat:=0
noncomputable def PySem.W.Fast.tw12634354823453099317:Nat:=0
noncomputable def PySem.W.Fast.tw4640015856919449470:Nat:=0
noncomputable def PySem.W.Fast.tw17688939310785694123:Nat:=0
noncomputable def PySem.W.Fast.tw17837533965580838820:Nat:=0
noncomputable def PySem.W.Fast.tw15503083923253543523:Nat:=0
noncomputable def PySem.W.Fast.tw4197743087575347913:Nat:=0
noncomputable def PySem.W.Fast.tw7224526767011677983:Nat:=0
noncomputable def PySem.W.Fast.tw3148966116140140084:Nat:=0
noncomputable def PySem.W.Fast.tw15713085676413994274:Nat:=0
noncomputable def PySem.W.Fast.tw4659515593440156725:Nat:=0
noncomputable def PySem.W.Fast.tw10147235108128606590:Nat:=0
noncomputable def PySem.W.Fast.tw2489413460042447768:Nat:=0
noncomputable def PySem.W.Fast.tw11125511274990785852:Nat:=0
noncomputable def PySem.W.Fast.tw8680608787280069119:Nat:=0
noncomputable def PySem.W.Fast.tw14494747830387557499:Nat:=0
noncomputable def PySem.W.Fast.tw1368863615823069608:Nat:=0
noncomputable def PySem.W.Fast.tw789523204187768855:Nat:=0
noncomputable def PySem.W.Fast.tw16119853174383279158:Nat:=0
noncomputable def PySem.W.Fast.tw1222877894424010972:Nat:=0
noncomputable def PySem.W.Fast.tw13067761553199253286:Nat:=0
noncomputable def PySem.W.Fast.tw16475854959002500099:Nat:=0
noncomputable def PySem.W.Fast.tw8629533112118869515:Nat:=0
noncomputable def PySem.W.Fast.tw8639023417881947941:Nat:=0
noncomputable def PySem.W.Fast.tw12370968984207079109:Nat:=0
noncomputable def PySem.W.Fast.tw1498272952781730474:Nat:=0
noncomputable def PySem.W.Fast.tw14193944812319195139:Nat:=0
noncomputable def PySem.W.Fast.tw16520743880888982979:Nat:=0
noncomputable def PySem.W.Fast.tw16698434362711735823:Nat:=0
noncomputable def PySem.W.Fast.tw1479052114461413557:Nat:=0
noncomputable def PySem.W.Fast.tw3940120704167185856:Nat:=0
noncomputable def PySem.W.Fast.tw6810776666897392352:Nat:=0
noncomputable def PySem.W.Fast.tw15554537889026346732:Nat:=0
noncomputable def PySem.W.Fast.tw2425616038439011486:Nat:=0
noncomputable def PySem.W.Fast.tw2857639469741540296:Nat:=0
noncomputable def PySem.W.Fast.tw17540576613382298513:Nat:=0
noncomputable def PySem.W.Fast.tw2782947343656741258:Nat:=0
noncomputable def PySem.W.Fast.tw9108884591509558987:Nat:=0
noncomputable def PySem.W.Fast.tw13624865503363952307:Nat:=0
noncomputable def PySem.W.Fast.tw15843096899142643660:Nat:=0
noncomputable def PySem.W.Fast.tw942505405101540418:Nat:=0
noncomputable def PySem.W.Fast.tw4442484461226345521:Nat:=0
noncomputable def PySem.W.Fast.tw1533917541996522091:Nat:=0
noncomputable def PySem.W.Fast.tw18322928564912860095:Nat:=0
noncomputable def PySem.W.Fast.tw7253324542600345593:Nat:=0
noncomputable def PySem.W.Fast.tw18313361299888997422:Nat:=0
noncomputable def PySem.W.Fast.tw9466407502475860660:Nat:=0
noncomputable def PySem.W.Fast.tw3039411910181390631:Nat:=0
noncomputable def PySem.W.Fast.tw16860538907385949747:Nat:=0
noncomputable def PySem.W.Fast.tw9926840301044445713:Nat:=0
noncomputable def PySem.W.Fast.tw17337470376311144461:Nat:=0
noncomputable def PySem.W.Fast.tw712454478512789654:Nat:=0
noncomputable def PySem.W.Fast.tw10175584965975911421:Nat:=0
noncomputable def PySem.W.Fast.tw3168173462547414118:Nat:=0
noncomputable def PySem.W.Fast.tw6836884221337404825:Nat:=0
noncomputable def PySem.W.Fast.tw5263700114199526907:Nat:=0
noncomputable def PySem.W.Fast.tw9636204754066539360:Nat:=0
noncomputable def PySem.W.Fast.tw5873890942563090937:Nat:=0
noncomputable def PySem.W.Fast.tw11663730219300273963:Nat:=0
noncomputable def PySem.W.Fast.tw1190836116330661433:Nat:=0
noncomputable def PySem.W.Fast.tw8160267268889929570:Nat:=0
noncomputable def PySem.W.Fast.tw14146590417100444750:Nat:=0
noncomputable def PySem.W.Fast.tw8790070497837548294:Nat:=0
noncomputable def PySem.W.Fast.tw9652901096157606598:Nat:=0
noncomputable def PySem.W.Fast.tw11586161596774506816:Nat:=0
noncomputable def PySem.W.Fast.tw7695579971058770229:Nat:=0
noncomputable def PySem.W.Fast.tw7853845560081303055:Nat:=0
noncomputable def PySem.W.Fast.tw9417541010745442035:Nat:=0
noncomputable def PySem.W.Fast.tw3954755573460247973:Nat:=0
noncomputable def PySem.W.Fast.tw12446781888614746485:Nat:=0
noncomputable def PySem.W.Fast.tw1379862941010510634:Nat:=0
noncomputable def PySem.W.Fast.tw2123530252880890103:Nat:=0
noncomputable def PySem.W.Fast.tw8659592186428398542:Nat:=0
noncomputable def PySem.W.Fast.tw15301820360586864094:Nat:=0
noncomputable def PySem.W.Fast.tw13083680940350829298:Nat:=0
noncomputable def PySem.W.Fast.tw7988400318800139462:Nat:=0
noncomputable def PySem.W.Fast.tw16116906462843455745:Nat:=0
noncomputable def PySem.W.Fast.tw8500952307170706718:Nat:=0
noncomputable def PySem.W.Fast.tw6272646037725499680:Nat:=0
noncomputable def PySem.W.Fast.tw6660071739658972437:Nat:=0
noncomputable def PySem.W.Fast.tw6499135290800772066:Nat:=0
noncomputable def PySem.W.Fast.tw11619851214250086390:Nat:=0
noncomputable def PySem.W.Fast.tw1212812931045790475:Nat:=0
noncomputable def PySem.W.Fast.tw5574117664838283218:Nat:=0
noncomputable def PySem.W.Fast.tw16504401898085813431:Nat:=0
noncomputable def PySem.W.Fast.tw3433903889193572272:Nat:=0
noncomputable def PySem.W.Fast.tw3028867039743782041:Nat:=0
noncomputable def PySem.W.Fast.tw9566343250067294218:Nat:=0
noncomputable def PySem.W.Fast.tw18063061813373046720:Nat:=0
noncomputable def PySem.W.Fast.tw13944215000303438184:Nat:=0
noncomputable def PySem.W.Fast.tw15991925194925119663:Nat:=0
noncomputable def PySem.W.Fast.tw13636896549149857307:Nat:=0
noncomputable def PySem.W.Fast.tw4949332907332382858:Nat:=0
noncomputable def PySem.W.Fast.tw16501122519663712161:Nat:=0
noncomputable def PySem.W.Fast.tw5544889125566762658:Nat:=0
noncomputable def PySem.W.Fast.tw2365780857007873252:Nat:=0
noncomputable def PySem.W.Fast.tw7596078428087241100:Nat:=0
noncomputable def PySem.W.Fast.tw13569521617641983808:Nat:=0
noncomputable def PySem.W.Fast.tw13528335523207314659:Nat:=0
noncomputable def PySem.W.Fast.tw13278070885013406699:Nat:=0
noncomputable def PySem.W.Fast.tw1873702666059874399:Nat:=0
noncomputable def PySem.W.Fast.tw483341764178677225:Nat:=0
noncomputable def PySem.W.Fast.tw4657724034141563499:Nat:=0
noncomputable def PySem.W.Fast.tw5984506302781968964:Nat:=0
noncomputable def PySem.W.Fast.tw12176090394135351315:Nat:=0
noncomputable def PySem.W.Fast.tw693917062428416413:Nat:=0
noncomputable def PySem.W.Fast.tw13334970887217669873:Nat:=0
noncomputable def PySem.W.Fast.tw14320025328534103668:Nat:=0
noncomputable def PySem.W.Fast.tw5299232365613834834:Nat:=0
noncomputable def PySem.W.Fast.tw578115654856826878:Nat:=0
noncomputable def PySem.W.Fast.tw11191569200383089859:Nat:=0
noncomputable def PySem.W.Fast.tw4473347334685650698:Nat:=0
noncomputable def PySem.W.Fast.tw6273252172328555502:Nat:=0
noncomputable def PySem.W.Fast.tw12494936801119148968:Nat:=0
noncomputable def PySem.W.Fast.tw6587769232776893755:Nat:=0
noncomputable def PySem.W.Fast.tw3123400500585032755:Nat:=0
noncomputable def PySem.W.Fast.tw17032283416856364019:Nat:=0
noncomputable def PySem.W.Fast.tw18440231638054382953:Nat:=0
noncomputable def PySem.W.Fast.tw2018011913297736639:Nat:=0
noncomputable def PySem.W.Fast.tw15816109029653848595:Nat:=0
noncomputable def PySem.W.Fast.tw11439300465230828517:Nat:=0
noncomputable def PySem.W.Fast.tw5669382828383106230:Nat:=0
noncomputable def PySem.W.Fast.tw14601753248763427886:Nat:=0
noncomputable def PySem.W.Fast.tw14364779176245168706:Nat:=0
noncomputable def PySem.W.Fast.tw9985842353619365040:Nat:=0
noncomputable def PySem.W.Fast.tw9914087149173866266:Nat:=0
noncomputable def PySem.W.Fast.tw3203587271515163905:Nat:=0
noncomputable def PySem.W.Fast.tw5856022582103760805:Nat:=0
noncomputable def PySem.W.Fast.tw6592172981991824965:Nat:=0
noncomputable def PySem.W.Fast.tw16502545103983180604:Nat:=0
noncomputable def PySem.W.Fast.tw14622534924348052805:Nat:=0
noncomputable def PySem.W.Fast.tw7689391131484531692:Nat:=0
noncomputable def PySem.W.Fast.tw16263058302608435597:Nat:=0
noncomputable def PySem.W.Fast.tw3720388969253147517:Nat:=0
noncomputable def PySem.W.Fast.tw10033237946487700437:Nat:=0
noncomputable def PySem.W.Fast.tw13744111171873453288:Nat:=0
noncomputable def PySem.W.Fast.tw12393665493986574158:Nat:=0
noncomputable def PySem.W.Fast.tw8234669652744302586:Nat:=0
noncomputable def PySem.W.Fast.tw3049930335071949819:Nat:=0
noncomputable def PySem.W.Fast.tw5219289156037285289:Nat:=0
noncomputable def PySem.W.Fast.tw9476864031653921244:Nat:=0
noncomputable def PySem.W.Fast.tw3028103542114848232:Nat:=0
noncomputable def PySem.W.Fast.tw11910605367991274512:Nat:=0
noncomputable def PySem.W.Fast.tw16445942045022586623:Nat:=0
noncomputable def PySem.W.Fast.tw1978965015839559618:Nat:=0
noncomputable def PySem.W.Fast.tw82896392167382189:Nat:=0
noncomputable def PySem.W.Fast.tw6501534188048597427:Nat:=0
noncomputable def PySem.W.Fast.tw9934343131581677979:Nat:=0
noncomputable def PySem.W.Fast.tw7904606326383262576:Nat:=0
noncomputable def PySem.W.Fast.tw3752011312900174552:Nat:=0
noncomputable def PySem.W.Fast.tw6605964054449465659:Nat:=0
noncomputable def PySem.W.Fast.tw14887765040728997998:Nat:=0
noncomputable def PySem.W.Fast.tw6103173197082753121:Nat:=0
noncomputable def PySem.W.Fast.tw17313894342342753372:Nat:=0
noncomputable def PySem.W.Fast.tw8207827933479607956:Nat:=0
noncomputable def PySem.W.Fast.tw9526315924256830662:Nat:=0
noncomputable def PySem.W.Fast.tw1676600872041959724:Nat:=0
noncomputable def PySem.W.Fast.tw6775646597479563713:Nat:=0
noncomputable def PySem.W.Fast.tw5743480937879666170:Nat:=0
noncomputable def PySem.W.Fast.tw5447692871709675725:Nat:=0
noncomputable def PySem.W.Fast.tw10375784961281466896:Nat:=0
noncomputable def PySem.W.Fast.tw2313069598189812109:Nat:=0
noncomputable def PySem.W.Fast.tw17667838240639214592:Nat:=0
noncomputable def PySem.W.Fast.tw16846515230082346285:Nat:=0
noncomputable def PySem.W.Fast.tw5050426701221736993:Nat:=0
noncomputable def PySem.W.Fast.tw358801649478400793:Nat:=0
noncomputable def PySem.W.Fast.tw821520491670380178:Nat:=0
noncomputable def PySem.W.Fast.tw3841326814300508738:Nat:=0
noncomputable def PySem.W.Fast.tw15279237293610651308:Nat:=0
noncomputable def PySem.W.Fast.tw5901440028453092159:Nat:=0
noncomputable def PySem.W.Fast.tw7313909505189434106:Nat:=0
noncomputable def PySem.W.Fast.tw13821773150454114140:Nat:=0
noncomputable def PySem.W.Fast.tw12080107505551377910:Nat:=0
noncomputable def PySem.W.Fast.tw12565980979590158745:Nat:=0
noncomputable def PySem.W.Fast.tw347211089680829297:Nat:=0
noncomputable def PySem.W.Fast.tw15074597213509909607:Nat:=0
noncomputable def PySem.W.Fast.tw16733005056549081772:Nat:=0
noncomputable def PySem.W.Fast.tw13856703434538297910:Nat:=0
noncomputable def PySem.W.Fast.tw4687315292683249668:Nat:=0
noncomputable def PySem.W.Fast.tw14670046810210908927:Nat:=0
noncomputable def PySem.W.Fast.tw6203448573057080395:Nat:=0
noncomputable def PySem.W.Fast.tw14737165268691132488:Nat:=0
noncomputable def PySem.W.Fast.tw10751911996822209249:Nat:=0
noncomputable def PySem.W.Fast.tw14090299877799758053:Nat:=0
noncomputable def PySem.W.Fast.tw3339172151227183596:Nat:=0
noncomputable def PySem.W.Fast.tw8868245769291030834:Nat:=0
noncomputable def PySem.W.Fast.tw5278910742896563323:Nat:=0
noncomputable def PySem.W.Fast.tw17815223884989721028:Nat:=0
noncomputable def PySem.W.Fast.tw15792101021628220005:Nat:=0
noncomputable def PySem.W.Fast.tw1226833560560530506:Nat:=0
noncomputable def PySem.W.Fast.tw17801913892619379958:Nat:=0
noncomputable def PySem.W.Fast.tw10660345393771803144:Nat:=0
noncomputable def PySem.W.Fast.tw10492984850341152457:Nat:=0
noncomputable def PySem.W.Fast.tw1909732313544390500:Nat:=0
noncomputable def PySem.W.Fast.tw16403125977006357876:Nat:=0
noncomputable def PySem.W.Fast.tw18306565128213664527:Nat:=0
noncomputable def PySem.W.Fast.tw9878121767380534137:Nat:=0
noncomputable def PySem.W.Fast.tw15217277552205017471:Nat:=0
noncomputable def PySem.W.Fast.tw936087723241882145:Nat:=0
noncomputable def PySem.W.Fast.tw8790395297278813176:Nat:=0
noncomputable def PySem.W.Fast.tw9288427492463197215:Nat:=0
noncomputable def PySem.W.Fast.tw3677290484580615466:Nat:=0
noncomputable def PySem.W.Fast.tw2031237820002561631:Nat:=0
open PySem PySem.W PyProof.Rows
set_option maxRecDepth 100000 in
set_option maxHeartbeats 0 in
theorem PySem.Challenge.cw_roundlap_k23_texts_holds : PySem.Challenge.rw_roundlap_k23_texts.Holds := by
 w_on; o_law; k_head; (case hw=>w_witness2)
 k_fill
 refine EV.F9 (l:=PySem.Challenge.rw_roundlap_k23_texts) (fns:=K23.fns) (vals:=K23.vals) (cls:=K23.cls) (Pd:=K23.Pd) (sub:=fun _ _=>false) (n:=30) (st:=K23.top 54) (x:="_law_script") rfl rfl ⟨rfl,by decide,by decide⟩ (fun w h Y=>PySem.W.kIn_of Y) K23.hP rfl rfl ?T K23.main
 case T =>
  intro w h KX
  refine ⟨?_,?_,?_,?_⟩
  ·unfold K23.fns
   repeat (apply EV.dZ.cons; k_is; k_is; k_is; k_is)
   exact EV.dZ.nil
  ·unfold K23.vals
   repeat first
    | (apply EV.cQ.flat; k_is; constructor)
    | (apply EV.cQ.tup; k_is; k_is; decide; rfl; (focus (repeat' constructor)))
   exact EV.cQ.nil
  ·unfold K23.cls
   repeat first
    | (apply EV.bQ.cons; k_is; k_exc; kit_is; k_is; kit_is; decide +kernel)
    | (apply EV.bQ.consN; k_is; k_exc; kit_is; k_is; kit_is; k_is)
    | (apply EV.bQ.consT; k_is; k_exc; kit_is; k_is; kit_is; k_is; kit_is; k_is; k_is; k_is; k_is; k_is; k_is; k_is)
    | (apply EV.bQ.consP; k_is; k_exc; kit_is; k_is; kit_is; k_is; kit_is; k_is; k_is; k_is; k_is; k_is; k_is; k_is)
   exact EV.bQ.nil
  ·refine fun x hx _=>EV.fu.get (l:=EV.fj) ?hNone0 hx
   unfold EV.fj
   repeat (apply EV.fu.cons; k_is)
   exact EV.fu.nil
end
