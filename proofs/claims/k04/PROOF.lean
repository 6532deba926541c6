import PyProof.Rows.All
import Wide.All
import OpenK.AllK
import Wide.FinOn
import Lean
import PyProof.EqAt
import PyProof.EqKinds
import PyProof.TupleCall
import PyProof.ListRange
import PyProof.TupleOfSeq
import PySem.SetTable
import PyProof.SetScanFacts
import PyProof.TupleKey
import PyProof.SetKind
import PyProof.IsRules
import PyProof.DictKinds
import PyProof.InstSpecial
import PyProof.Rows.SetFrom
import PyProof.WalksS
import PyProof.Walks
import PyProof.Seq
import PyProof.FactsAll.set_1
import PyProof.Comp
import PyProof.CollectWalk
import PyProof.SetNew
import PyProof.FactsAll.set_2
import PyProof.Rows.SortShellK
import PyProof.Rows.SortWalk
import PyProof.ZipIter
import PySem.Str
import PySem.Eval
import PySem.Challenge.RW_roundlap_k04_wrong
set_option genSizeOfSpec false
set_option bootstrap.genMatcherCode false
noncomputable section
set_option Elab.async false
set_option linter.all false
set_option maxRecDepth 100000
namespace L2
open PySem PySem.Spec PyProof.Rows
abbrev Key:=Sum Int Str
noncomputable def pP:Key->Value->Bool
 | .inl k,v=>Value.isInt k v
 | .inr x,v=>Value.isStrOf x v
noncomputable def AN (w:World):Key->Int
 | .inl k=>hashInt k
 | .inr x=>hashStr w x
theorem dw:∀ {k:Key} {v:Value},pP k v=true->(∃ i t,k=Sum.inl i/\v=Value.int i t)\/(∃ x t,k=Sum.inr x/\v=Value.str x t)
 | .inl i,v,h=>by
  obtain ⟨t,e⟩:=Value.isInt_shape (k:=i) (v:=v) h
  exact .inl ⟨i,t,rfl,e⟩
 | .inr x,v,h=>by
  obtain ⟨t,e⟩:=Value.isStrOf_shape (x:=x) (v:=v) h
  exact .inr ⟨x,t,rfl,e⟩
theorem tR (a b:Int):decide ((Sum.inl a:Key)=Sum.inl b)=(a==b):=by
 by_cases e:a=b
 ·subst e; simp
 ·have h:¬ (Sum.inl a:Key)=Sum.inl b:=fun q=>e (Sum.inl.inj q)
  rw [decide_eq_false h]
  exact (beq_eq_false_iff_ne.mpr e).symm
theorem C_ (a b:Str):decide ((Sum.inr a:Key)=Sum.inr b)=decide (a=b):=by
 by_cases e:a=b
 ·subst e; simp
 ·have h:¬ (Sum.inr a:Key)=Sum.inr b:=fun q=>e (Sum.inr.inj q)
  rw [decide_eq_false h,decide_eq_false e]
theorem Ei (a:Int) (b:Str):decide ((Sum.inl a:Key)=Sum.inr b)=false:=decide_eq_false (fun q=>nomatch q)
theorem EJ (a:Str) (b:Int):decide ((Sum.inr a:Key)=Sum.inl b)=false:=decide_eq_false (fun q=>nomatch q)
noncomputable def lG (prog:Program) (w:World):PySem.KeyKind prog w Key where
 is:=pP
 hash:=AN w
 inj:=fun v a b ha hb=>by
  rcases dw ha with ⟨i,t,rfl,rfl⟩|⟨x,t,rfl,rfl⟩
  ·rcases dw hb with ⟨j,u,rfl,e⟩|⟨y,u,rfl,e⟩
   ·injection e with e1 _; rw [e1]
   ·exact nomatch e
  ·rcases dw hb with ⟨j,u,rfl,e⟩|⟨y,u,rfl,e⟩
   ·exact nomatch e
   ·injection e with e1 _; rw [e1]
 byValue:=fun k v h=>by
  rcases dw h with ⟨i,t,rfl,rfl⟩|⟨x,t,rfl,rfl⟩ <;> rfl
 pyHash:=fun hv h=>by
  rcases dw hv with ⟨i,t,rfl,rfl⟩|⟨x,t,rfl,rfl⟩
  ·exact wpAny_pyHash_int h
  ·exact wpAny_pyHash_str h
 eqBool:=fun hu hv h=>by
  rcases dw hu with ⟨i,t,rfl,rfl⟩|⟨x,t,rfl,rfl⟩
  ·rcases dw hv with ⟨j,u,rfl,rfl⟩|⟨y,u,rfl,rfl⟩
   ·rw [tR] at h; exact wpAny_eqBool_int h
   ·rw [Ei] at h; exact SeqAt.EqAt.int_str i t y u _ _ _ _ h
  ·rcases dw hv with ⟨j,u,rfl,rfl⟩|⟨y,u,rfl,rfl⟩
   ·rw [EJ] at h; exact SeqAt.EqAt.str_int x t j u _ _ _ _ h
   ·rw [C_] at h; exact wpAny_eqBool_str h
 «strs»:=fun k x t v h=>by
  rcases dw h with ⟨i,u,rfl,e⟩|⟨y,u,rfl,e⟩
  ·exact nomatch e
  ·injection e with e1 _
   subst e1
   cases v <;> rfl
end L2
namespace L2
open PySem PySem.Spec PyProof.Rows
inductive V where
 | non|bl (b:Bool)|int (i:Int)|str (x:Str)|byt (b:Array UInt8)|flt (b:UInt64)|ref (a:Addr)|ty (n:String)
 deriving DecidableEq
noncomputable def RelV:V->Value->Prop
 | .non,u=>u=Value.none
 | .bl b,u=>u=Value.bool b
 | .int i,u=>∃ t,u=Value.int i t
 | .str x,u=>∃ t,u=Value.str x t
 | .byt b,u=>∃ t,u=Value.bytes b t
 | .flt b,u=>∃ t,u=Value.float b t
 | .ref a,u=>u=Value.ref a
 | .ty n,u=>u=Value.type n
abbrev Vals:List V->List Value->Prop:=Paired RelV
theorem Vals.length {xs:List V} {us:List Value} (r:Vals xs us):xs.length=us.length:=Paired.length r
theorem Vals.get:∀ {xs:List V} {us:List Value} {i:Nat} {x:V},Vals xs us->xs[i]?=some x->∃ u,us[i]?=some u/\RelV x u
 | _,_,_,_,.nil,e=>by simp at e
 | _,_,0,_,.cons r _,e=>by simp at e; subst e; exact ⟨_,rfl,r⟩
 | _,_,i+1,x,.cons _ t,e=>by
  obtain ⟨u,h1,h2⟩:=Vals.get (i:=i) (x:=x) t (by simpa using e)
  exact ⟨u,by simpa using h1,h2⟩
theorem Vals.set {x:V} {u:Value} (r:RelV x u):∀ {xs:List V} {us:List Value} (i:Nat),Vals xs us->Vals (xs.set i x) (us.set i u)
 | _,_,_,.nil=>.nil
 | _,_,0,.cons _ t=>.cons r t
 | _,_,i+1,.cons q t=>.cons q (Vals.set r i t)
theorem Vals.append:∀ {xs ys:List V} {us ws:List Value},Vals xs us->Vals ys ws->Vals (xs++ys) (us++ws)
 | _,_,_,_,.nil,s=>s
 | _,_,_,_,.cons r t,s=>.cons r (Vals.append t s)
theorem Vals.take:∀ {xs:List V} {us:List Value} (n:Nat),Vals xs us->Vals (xs.take n) (us.take n)
 | _,_,0,_=>.nil
 | _,_,_+1,.nil=>.nil
 | _,_,n+1,.cons r t=>.cons r (Vals.take n t)
theorem Vals.drop:∀ {xs:List V} {us:List Value} (n:Nat),Vals xs us->Vals (xs.drop n) (us.drop n)
 | _,_,0,r=>r
 | _,_,_+1,.nil=>.nil
 | _,_,n+1,.cons _ t=>Vals.drop n t
noncomputable def mw:Option V->Option Value->Prop
 | some v,some u=>RelV v u
 | none,none=>True
 | _,_=>False
noncomputable def KV {κ:Type}:List (κ × V)->List (κ × Value)->Prop:=Paired fun (p:κ × V) (q:κ × Value)=>p.1=q.1/\RelV p.2 q.2
noncomputable def kV:Key->V
 | .inl i=>.int i
 | .inr x=>.str x
inductive HO where
 /-- a list -/
 | lst (xs:List V)
 /-- a tuple (never changes) -/
 | tup (xs:List V)
 /-- a dict whose keys are ints and texts; one whose keys are tuples of ints and texts (the empty one is both) -/
 | dK (kvs:List (Key × V))|dT (kvs:List (List Key × V))
 /-- a set of ints: its members,its size -/
 | set (S:Int->Bool) (n:Nat)
 /-- an instance of the class at C,its dict at dx,its attributes -/
 | ins (C dx:Addr) (fs:List (Str × V))
 /-- the dict of the instance at x -/
 | own (x:Addr)
 /-- the dict of an exception -/
 | xd (fs:List (Str × V))
 /-- a bound method,f of x -/
 | met (f x:Addr)
 /-- a range object lo,lo+1,.. below hi -/
 | rng (lo hi:Int)
 /-- a thing that is known to the object (the script; a dict while a loop walks it): read,never written while it is so -/
 | frz (o:Obj) (u:HO)
 /-- a code object's table -/
 | tbl (ps:Array Value)
 /-- any other thing,by what is true of its one object (a def of one's own: SetO a S n:=HO.ext fun h=>..) -/
 | ext (φ:Heap->Prop)
abbrev Hp:=Addr->Option HO
noncomputable def upd (H:Hp) (a:Addr) (o:HO):Hp:=fun b=>if b=a then some o else H b
theorem cB {H:Hp} {a:Addr} {o:HO}:upd H a o a=some o:=by unfold upd; rw [if_pos rfl]
theorem aE {H:Hp} {a b:Addr} {o:HO} (h:b≠a):upd H a o b=H b:=by unfold upd; rw [if_neg h]
theorem sE {H:Hp} {a b:Addr} {o u:HO} (h:H a=some o) (h':H b=some u) (d:o≠u):a≠b:=by
 intro e; subst e; rw [h] at h'; exact d (Option.some.inj h')
theorem aV {H:Hp} {a b:Addr} {o:HO} (h:H a=some o) (h':H b=none):a≠b:=by
 intro e; subst e; rw [h] at h'; cases h'
section
variable (P:Program) (w:World)
noncomputable def bY (H:Hp) (h:Heap) (a:Addr):HO->Prop
 | .lst xs=>xs.length<=sizeLine/\∃ (its:List Value) (n:Nat),Vals xs its/\h.get? a=some { cls:=.type "list",data:=.seq its.toArray n }
 | .tup xs=>xs.length<=sizeLine/\∃ its:List Value,Vals xs its/\IsTup h a its.toArray
 | .dK kvs=>kvs.length<=sizeLine/\(a==sysModules)=false/\∃ vs,KV kvs vs/\h.DictOf (lG P w) a vs
 | .dT kvs=>kvs.length<=sizeLine/\(a==sysModules)=false/\∃ xs:List (List Key × Addr × Value),
   Paired (fun (p:List Key × V) (q:List Key × Addr × Value)=>p.1=q.1/\H q.2.1=some (.tup (p.1.map kV))/\RelV p.2 q.2.2) kvs xs /\
   ∃ o es ep,h.get? a=some o/\o.ExactDict/\o.data=.dict es ep/\es.toList=xs.map (entryOfKey (tupleKind (lG P w)))/\(xs.map (·.1)).Nodup
 | .set S n=>h.SetOf (intKind P w) a S n
 | .ins C dx fs=>H dx=some (.own a)/\fs.length<=1000/\dx≠a/\h.get? a=some (PySem.W.instObj C dx) /\
   ∃ mA,h.Ns1 dx mA/\(∀ f,mw (fs.lookup f) (mA f))/\PySem.Within mA (fs.map (·.1))
 | .own _=>∃ o,h.get? a=some o
 | .xd fs=>∃ mA,h.Ns1 a mA/\∀ f,mw (fs.lookup f) (mA f)
 | .rng lo hi=>∃ t u v,h.get? a=some { cls:=.type "range",data:=.fields #[.int lo t,.int hi u,.int 1 v] }
 | .frz o u=>h.get? a=some o/\bY H h a u
 | .tbl ps=>h.get? a=some { cls:=.none,data:=.fields ps }
 | .met f x=>h.get? a=some (PySem.W.methodObj (.ref f) (.ref x))
 | .ext φ=>φ h/\(∃ o,h.get? a=some o)/\∀ h1 h2:Heap,φ h1->(∀ o,h1.get? a=some o->h2.get? a=some o)->φ h2
noncomputable def HOk (H:Hp) (h:Heap):Prop:=∀ a o,H a=some o->bY P w H h a o
end
section
variable {P:Program} {w:World} {H H':Hp} {h h':Heap} {a:Addr} {o:HO}
theorem bY.lt (x:bY P w H h a o):a < h.objs.size:=by
 cases o with
 | lst xs=>obtain ⟨_,_,_,_,e⟩:=x; exact Heap.lt_size e
 | tup xs=>obtain ⟨_,_,_,p⟩:=x; exact p.lt
 | dK kvs=>obtain ⟨_,_,_,_,o,_,_,e,_⟩:=x; exact Heap.lt_size e
 | dT kvs=>obtain ⟨_,_,_,_,o,_,_,e,_⟩:=x; exact Heap.lt_size e
 | set S n=>obtain ⟨o,_,_,_,e,_⟩:=x; exact Heap.lt_size e
 | ins C dx fs=>obtain ⟨_,_,_,e,_⟩:=x; exact Heap.lt_size e
 | own y=>obtain ⟨_,e⟩:=x; exact Heap.lt_size e
 | xd fs=>obtain ⟨_,⟨_,_,_,e,_⟩,_⟩:=x; exact Heap.lt_size e
 | rng lo hi=>obtain ⟨_,_,_,e⟩:=x; exact Heap.lt_size e
 | frz ob u=>obtain ⟨e,_⟩:=x; exact Heap.lt_size e
 | tbl ps=>exact Heap.lt_size (show h.get? a=some _ from x)
 | met f y=>exact Heap.lt_size (show h.get? a=some _ from x)
 | ext φ=>obtain ⟨_,⟨_,e⟩,_⟩:=x; exact Heap.lt_size e
theorem Paired.nL {α β:Type} {F G:α->β->Prop}:∀ {l₁:List α} {l₂:List β},Paired F l₁ l₂->(∀ a b,F a b->G a b)->Paired G l₁ l₂
 | _,_,.nil,_=>.nil
 | _,_,.cons r t,f=>.cons (f _ _ r) (Paired.nL t f)
theorem bY.stay (x:bY P w H h a o) (k:∀ b u,(b=a\/H b=some (.own a))->h.get? b=some u->h'.get? b=some u)
  (ho:∀ b,H b=some (.own a)->H' b=some (.own a)) (ht:∀ b xs,H b=some (.tup xs)->H' b=some (.tup xs)):bY P w H' h' a o:=by
 induction o with
 | lst xs=>obtain ⟨z,its,n,r,e⟩:=x; exact ⟨z,its,n,r,k _ _ (.inl rfl) e⟩
 | tup xs=>obtain ⟨z,its,r,ob,e,c⟩:=x; exact ⟨z,its,r,ob,k _ _ (.inl rfl) e,c⟩
 | dK kvs=>obtain ⟨z,y,vs,r,ob,es,ep,e,c⟩:=x; exact ⟨z,y,vs,r,ob,es,ep,k _ _ (.inl rfl) e,c⟩
 | dT kvs =>
  obtain ⟨z,y,xs,r,ob,es,ep,e,c⟩:=x
  exact ⟨z,y,xs,Paired.nL r fun p q z=>⟨z.1,ht _ _ z.2.1,z.2.2⟩,ob,es,ep,k _ _ (.inl rfl) e,c⟩
 | set S n=>obtain ⟨ob,es,ep,t,e,c⟩:=x; exact ⟨ob,es,ep,t,k _ _ (.inl rfl) e,c⟩
 | ins C dx fs =>
  obtain ⟨d,z,ne,e,mA,⟨od,es,ep,e2,c⟩,r⟩:=x
  exact ⟨ho _ d,z,ne,k _ _ (.inl rfl) e,mA,⟨od,es,ep,k _ _ (.inr d) e2,c⟩,r⟩
 | own y=>obtain ⟨ob,e⟩:=x; exact ⟨ob,k _ _ (.inl rfl) e⟩
 | xd fs=>obtain ⟨mA,⟨od,es,ep,e,c⟩,r⟩:=x; exact ⟨mA,⟨od,es,ep,k _ _ (.inl rfl) e,c⟩,r⟩
 | rng lo hi=>obtain ⟨t,u,v,e⟩:=x; exact ⟨t,u,v,k _ _ (.inl rfl) e⟩
 | frz ob u ih=>obtain ⟨e,q⟩:=x; exact ⟨k _ _ (.inl rfl) e,ih q⟩
 | tbl ps =>
  have e:h.get? a=some { cls:=.none,data:=.fields ps }:=x
  show h'.get? a=some { cls:=.none,data:=.fields ps }
  exact k a _ (.inl rfl) e
 | met f y =>
  have e:h.get? a=some (PySem.W.methodObj (.ref f) (.ref y)):=x
  show h'.get? a=some (PySem.W.methodObj (.ref f) (.ref y))
  exact k a _ (.inl rfl) e
 | ext φ=>obtain ⟨p,⟨o,e⟩,st⟩:=x; exact ⟨st _ _ p fun o q=>k _ _ (.inl rfl) q,⟨o,k _ _ (.inl rfl) e⟩,st⟩
theorem HOk.lt (x:HOk P w H h) (e:H a=some o):a < h.objs.size:=(x a o e).lt
theorem HOk.fresh (x:HOk P w H h) (e:h.objs.size<=a):H a=none:=by
 cases q:H a with
 | none=>rfl
 | some u=>exact absurd (Nat.lt_of_lt_of_le (x.lt q) e) (Nat.lt_irrefl _)
theorem HOk.kept (x:HOk P w H h) (k:∀ b u,h.get? b=some u->h'.get? b=some u):HOk P w H h':=fun a o e =>
 (x a o e).stay (fun b u _ q=>k b u q) (fun _ q=>q) fun _ _ q=>q
theorem HOk.laid (x:HOk P w H h) (k:∀ b u,h.get? b=some u->h'.get? b=some u) (hp:h.objs.size<=a) (new:bY P w (upd H a o) h' a o):HOk P w (upd H a o) h':=fun b u e=>by
 have hn:=x.fresh hp
 by_cases hb:b=a
 ·subst hb; rw [cB] at e; cases e; exact new
 ·rw [aE hb] at e
  exact (x b u e).stay (fun c v _ q=>k c v q) (fun c q=>by rw [aE (aV q hn)]; exact q) fun c xs q=>by rw [aE (aV q hn)]; exact q
end
noncomputable def Rd (H:Hp) (a:Addr) (u:HO):Prop:=H a=some u\/∃ o,H a=some (.frz o u)
theorem Rd.ok {P:Program} {w:World} {H:Hp} {h:Heap} {a:Addr} {u:HO} (r:Rd H a u) (x:HOk P w H h):bY P w H h a u:=by
 rcases r with r|⟨o,r⟩
 ·exact x a u r
 ·obtain ⟨_,q⟩:=x a _ r
  exact q
noncomputable def Mut:Option HO->Prop
 | some (.lst _)=>True
 | some (.dK _)=>True
 | some (.dT _)=>True
 | some (.set _ _)=>True
 | some (.ins _ _ _)=>True
 | some (.ext _)=>True
 | _=>False
section
variable {P:Program} {w:World} {H:Hp} {h h':Heap} {x e:Addr} {o':HO}
theorem HOk.write (ok:HOk P w H h) (mu:Mut (H x)) (he:e=x\/H e=some (.own x)) (k:∀ b u,b≠e->h.get? b=some u->h'.get? b=some u) (heo:∃ u,h'.get? e=some u)
  (new:bY P w (upd H x o') h' x o'):HOk P w (upd H x o') h':=fun b u q=>by
 have nown:∀ c y,H c=some (.own y)->c≠x:=fun c y r z=>by subst z; rw [r] at mu; exact mu
 have ntup:∀ c xs,H c=some (.tup xs)->c≠x:=fun c xs r z=>by subst z; rw [r] at mu; exact mu
 by_cases hb:b=x
 ·subst hb; rw [cB] at q; cases q; exact new
 ·rw [aE hb] at q
  by_cases hbe:b=e
  ·have q':H b=some (.own x):=by
    rcases he with z|z
    ·exact absurd (hbe.trans z) hb
    ·rw [hbe]; exact z
   rw [q] at q'; cases q'
   obtain ⟨v,hv⟩:=heo
   exact ⟨v,by rw [hbe]; exact hv⟩
  ·refine (ok b u q).stay (fun c v hc r=>k c v ?_ r) (fun c r=>by rw [aE (nown c b r)]; exact r) fun c xs r=>by rw [aE (ntup c xs r)]; exact r
   rcases hc with rfl|hc
   ·exact hbe
   ·rintro rfl
    rcases he with z|z
    ·exact nown c b hc z
    ·rw [hc] at z; cases z; exact hb rfl
end
structure Un (fs ex:List Addr) (H H':Hp) (h h':Heap):Prop where
 keep:∀ b o,h.get? b=some o->H b=none->b ∉ fs->b ∉ ex->h'.get? b=some o
 slot:∀ b o,h.get? b=some o->H b=none->b∈fs->b ∉ ex->∃ sl,h'.get? b=some { o with slots:=sl }
 free:∀ b o,h.get? b=some o->H b=none->b ∉ ex->H' b=none
 there:∀ b o,h.get? b=some o->b ∉ ex->∃ o',h'.get? b=some o'
 tups:∀ b xs,H b=some (.tup xs)->H' b=some (.tup xs)
 frzs:∀ b o u,H b=some (.frz o u)->H' b=some (.frz o u)
 tbls:∀ b ps,H b=some (.tbl ps)->∃ more,H' b=some (.tbl (ps++more))
section
variable {fs fs' ex ex':List Addr} {H H1 H2:Hp} {h h1 h2 h':Heap} {a x e:Addr} {o:HO}
theorem Un.any (u:Un fs ex H H1 h h1) {b:Addr} {ob:Obj} (q:h.get? b=some ob) (n:H b=none) (hx:b ∉ ex):∃ sl,h1.get? b=some { ob with slots:=sl }:=by
 by_cases hb:b∈fs
 ·exact u.slot b ob q n hb hx
 ·exact ⟨ob.slots,u.keep b ob q n hb hx⟩
theorem Un.kept (k:∀ b u,h.get? b=some u->h'.get? b=some u):Un fs ex H H h h' :=
 ⟨fun b ob q _ _ _=>k b ob q,fun b ob q _ _ _=>⟨ob.slots,k b ob q⟩,fun _ _ _ n _=>n,fun b ob q _=>⟨ob,k b ob q⟩,fun _ _ q=>q,fun _ _ _ q=>q,fun _ ps q=>⟨#[],by rw [q]; simp⟩⟩
theorem Un.refl:Un fs ex H H h h:=Un.kept fun _ _ q=>q
theorem Un.laid (k:∀ b u,h.get? b=some u->h'.get? b=some u) (hp:h.objs.size<=a) (hn:H a=none):Un fs ex H (upd H a o) h h' where
 keep:=fun b u q _ _ _=>k b u q
 slot:=fun b u q _ _ _=>⟨u.slots,k b u q⟩
 free:=fun b u q n _=>by rw [aE (Nat.ne_of_lt (Nat.lt_of_lt_of_le (Heap.lt_size q) hp))]; exact n
 there:=fun b u q _=>⟨u,k b u q⟩
 tups:=fun b xs q=>by rw [aE (aV q hn)]; exact q
 frzs:=fun b u xs q=>by rw [aE (aV q hn)]; exact q
 tbls:=fun b ps q=>⟨#[],by rw [aE (aV q hn),q]; simp⟩
theorem Un.write (mu:Mut (H x)) (he:e=x\/H e=some (.own x)) (k:∀ b u,b≠e->h.get? b=some u->h'.get? b=some u) (heo:∃ u,h'.get? e=some u):Un fs ex H (upd H x o) h h':=by
 have hx:∀ b,H b=none->b≠x:=fun b n z=>by subst z; rw [n] at mu; exact mu
 have hb:∀ b,H b=none->b≠e:=fun b n z=>by
  subst z
  rcases he with r|r
  ·exact hx b n r
  ·rw [n] at r; cases r
 have hm:∀ b u,H b=some u->¬ Mut (some u)->b≠x:=fun b u q nm z=>by subst z; rw [q] at mu; exact nm mu
 refine ⟨fun b u q n _ _=>k b u (hb b n) q,fun b u q n _ _=>⟨u.slots,k b u (hb b n) q⟩,fun b u q n _=>by rw [aE (hx b n)]; exact n,fun b u q _=>?_,
  fun b xs q=>by rw [aE (hm b _ q fun z=>z)]; exact q,fun b u xs q=>by rw [aE (hm b _ q fun z=>z)]; exact q,fun b ps q=>⟨#[],by rw [aE (hm b _ q fun z=>z),q]; simp⟩⟩
 by_cases hbe:b=e
 ·subst hbe; exact heo
 ·exact ⟨u,k b u hbe q⟩
end
noncomputable def trk (h:Heap) (H:Hp):List Addr:=(List.range h.objs.size).filter fun a=>(H a).isSome
noncomputable def cY (h:Heap) (H:Hp):Heap:=PySem.W.hideAll h (trk h H)
theorem wR (h:Heap) (H:Hp):(cY h H).objs.size=h.objs.size:=PySem.W.hideAll_size _ _
theorem CY {h:Heap} {H:Hp} {b:Addr} {o:Obj} (e:h.get? b=some o) (n:H b=none):(cY h H).get? b=some o :=
 PySem.W.hideAll_get _ e fun hm=>by
  have q:(H b).isSome=true:=(List.mem_filter.mp hm).2
  rw [n] at q; simp at q
theorem yS {h:Heap} {H:Hp} {b:Addr} {o:Obj} (e:(cY h H).get? b=some o):h.get? b=some o/\H b=none:=by
 have e':h.get? b=some o:=PySem.W.of_hideAll (trk h H) e
 refine ⟨e',?_⟩
 cases q:H b with
 | none=>rfl
 | some x =>
  have hm:b∈trk h H:=List.mem_filter.mpr ⟨List.mem_range.mpr (Heap.lt_size e'),by simp [q]⟩
  have z:(cY h H).get? b=none:=PySem.W.hideAll_none (trk h H) hm
  rw [z] at e; cases e
end L2
namespace L2
open PySem PySem.Spec PyProof.Rows
structure Mod (K:PySem.W.Frag) (mg:Str->Option Value) (base:Heap):Prop where
 kin:K.In base
 glob:base.Ns mainGlobals mg
 blt:∃ mb,base.Ns builtinsNs mb/\∀ x:Str,x≠"__name__"->mb x=bootBuiltins x
 nolimit:base.NoLimit
structure Cx where
 prog:Program
 w:World
 K:PySem.W.Frag
 mg:Str->Option Value
 base:Heap
 A:Around
 N:List Str
 s₀:Shared
 H₀:Hp
 env:Env
 outer:List Env
 stack:List Env
 ex:List Addr
 fn:Str->Bool
 calm:Bool
 pn:List (Addr × Obj)
 xe:Value->Shared->Prop
noncomputable def frs (l:List Env):List Addr:=l.filterMap (·.frame)
abbrev Cx.fs (X:Cx):List Addr:=frs X.outer
noncomputable def Vis (sc:Scope) (x:Str):Prop:=sc.names.lookup x=some .local\/sc.names.lookup x=some .cell\/sc.names.lookup x=some .free
noncomputable def Loc (sc:Scope) (x:Str):Prop:=sc.names.lookup x=some .local\/sc.names.lookup x=some .cell
noncomputable def Look (env:Env) (h:Heap) (m:Str->Option Value) (x:Str) (u:Value):Prop :=
 (env.kindOf x=some .local/\m x=some u)\/((env.kindOf x=some .cell\/env.kindOf x=some .free)/\∃ c,env.cells.lookup x=some c/\h.IsCell c (some u))
structure Cx.Ok (X:Cx):Prop where
 mod:Mod X.K X.mg X.base
 kind:X.env.scope.kind=.function
 glob:X.env.globals=mainGlobals
 blt:X.env.builtins=builtinsNs
 above:X.s₀.heap.objs.size<=X.env.locals
 inj:∀ x y c,X.env.cells.lookup x=some c->X.env.cells.lookup y=some c->x=y
 has:∀ x,(X.env.kindOf x=some .cell\/X.env.kindOf x=some .free)->∃ c,X.env.cells.lookup x=some c
 cab:∀ x c,X.fn x=true->X.env.cells.lookup x=some c->X.s₀.heap.objs.size<=c
 hd:X.calm=true->X.A.handled=none
 frames:X.A.frames=some X.stack
 stk:X.stack=X.outer\/(X.stack=X.env::X.outer/\X.env.frame=some X.env.locals)
 exf:∀ b∈X.ex,b≠X.env.locals/\∀ x c,X.env.cells.lookup x=some c->c≠b
 bs:∀ b o,X.base.get? b=some o->X.s₀.heap.get? b=some o/\X.H₀ b=none
 bsz:X.base.objs.size<=X.s₀.heap.objs.size
 noex:∀ b o,X.base.get? b=some o->b ∉ X.ex
 exfs:∀ b∈X.ex,b ∉ X.fs
 cE:X.s₀.heap.FunFrames X.base X.outer
 frf:∀ b∈X.fs,X.H₀ b=none
structure Inv (X:Cx) (pins:List (Addr × Obj)) (σ:List (Option V)) (H:Hp) (s:Shared):Prop where
 ok:X.Ok
 os:s.os=X.s₀.os
 bare:AllBare s.gens
 base:Un X.fs X.ex X.H₀ H X.s₀.heap s.heap
 loc:∃ m,s.heap.Ns X.env.locals m/\∀ (i:Nat) (x:Str) (v:V),X.N[i]?=some x->σ[i]?=some (some v)->Vis X.env.scope x->∃ u,RelV v u/\Look X.env s.heap m x u
 cell:∀ x c,X.env.cells.lookup x=some c->∃ v,s.heap.IsCell c v
 free:H X.env.locals=none
 freeC:∀ x c,X.env.cells.lookup x=some c->H c=none
 pin:∀ p∈X.pn++pins,s.heap.get? p.1=some p.2/\H p.1=none/\p.1≠X.env.locals/\p.1 ∉ X.fs/\∀ v,p.2.data≠.cell v
 hok:HOk X.prog X.w H s.heap
 len:σ.length=X.N.length
section
variable {X:Cx} {pins:List (Addr × Obj)} {σ:List (Option V)} {H H':Hp} {s:Shared} {h':Heap}
theorem Cx.Ok.z7 (ok:X.Ok) {b:Addr} {o:Obj} (e:X.base.get? b=some o):b ∉ X.fs:=fun hb=>by
 have:=(ok.cE.mem hb).1
 rw [e] at this; cases this
theorem Inv.bs (I:Inv X pins σ H s):∀ b o,X.base.get? b=some o->s.heap.get? b=some o/\H b=none:=fun b o e =>
 ⟨I.base.keep b o (I.ok.bs b o e).1 (I.ok.bs b o e).2 (I.ok.z7 e) (I.ok.noex b o e),I.base.free b o (I.ok.bs b o e).1 (I.ok.bs b o e).2 (I.ok.noex b o e)⟩
theorem Inv.bk (I:Inv X pins σ H s):∀ b o,X.base.get? b=some o->s.heap.get? b=some o:=fun b o e=>(I.bs b o e).1
theorem Inv.mod (I:Inv X pins σ H s):Mod X.K X.mg X.base:=I.ok.mod
theorem Inv.kIn (I:Inv X pins σ H s):X.K.In s.heap:=I.ok.mod.kin.keeps I.bk
theorem Inv.lt (I:Inv X pins σ H s):X.env.locals < s.heap.objs.size:=let ⟨_,hn,_⟩:=I.loc; hn.lt
theorem Inv.sz (I:Inv X pins σ H s):X.s₀.heap.objs.size<=s.heap.objs.size:=Nat.le_trans I.ok.above (Nat.le_of_lt I.lt)
theorem Inv.wX (I:Inv X pins σ H s) {a:Addr} (h:s.heap.objs.size<=a):a ∉ X.fs:=fun hb=>by
 obtain ⟨_,o,ho,_⟩:=I.ok.cE.mem hb
 exact absurd (Nat.lt_of_lt_of_le (Heap.lt_size ho) (Nat.le_trans I.sz h)) (Nat.lt_irrefl _)
theorem Inv.cne (I:Inv X pins σ H s):∀ x c,X.env.cells.lookup x=some c->c≠X.env.locals:=fun x c e z=>by
 obtain ⟨v,o,ho,hd⟩:=I.cell x c e
 obtain ⟨m,⟨o',es,ep,ho',hd',_⟩,_⟩:=I.loc
 rw [z,ho'] at ho; cases ho; rw [hd'] at hd; cases hd
theorem Inv.cE (I:Inv X pins σ H s):s.heap.FunFrames X.base X.outer:=by
 have all:∀ (l:List Env),(∀ b∈frs l,b∈X.fs)->X.s₀.heap.FunFrames X.base l->s.heap.FunFrames X.base l:=by
  intro l
  induction l with
  | nil=>intro _ _; trivial
  | cons env r ih =>
   intro hs hl
   obtain ⟨hk,⟨L,o,hf,hn,ho,hd⟩,hr⟩:=hl
   have hL:L∈X.fs:=hs L (by unfold frs; rw [List.filterMap_cons,hf]; exact List.mem_cons_self)
   obtain ⟨sl,e⟩:=I.base.slot L o ho (I.ok.frf L hL) hL fun z=>I.ok.exfs L z hL
   exact ⟨hk,⟨L,_,hf,hn,e,hd⟩,ih (fun b hb=>hs b (by unfold frs; rw [List.filterMap_cons,hf]; exact List.mem_cons_of_mem _ hb)) hr⟩
 exact all X.outer (fun _ hb=>hb) I.ok.cE
theorem Inv.stack (I:Inv X pins σ H s):s.heap.FunFrames X.base X.stack:=by
 rcases I.ok.stk with e|⟨e,hf⟩
 ·rw [e]; exact I.cE
 ·rw [e]
  obtain ⟨m,hn,_⟩:=I.loc
  refine .cons (by rw [I.ok.kind]; decide) hf hn ?_ I.cE
  exact Heap.get?_none_of_le (Nat.le_trans I.ok.bsz I.ok.above)
theorem Inv.lU (I:Inv X pins σ H s):∀ b∈frs X.stack,b∈X.env.locals::X.fs:=fun b hb=>by
 rcases I.ok.stk with e|⟨e,hf⟩
 ·rw [e] at hb; exact List.mem_cons_of_mem _ hb
 ·rw [e] at hb
  unfold frs at hb
  rw [List.filterMap_cons,hf] at hb
  exact hb
theorem Inv.nM (I:Inv X pins σ H s):∀ b∈frs X.stack,H b=none:=fun b hb=>by
 rcases List.mem_cons.mp (I.lU b hb) with e|hb
 ·rw [e]; exact I.free
 ·obtain ⟨_,o,ho,_⟩:=I.ok.cE.mem hb
  exact I.base.free b o ho (I.ok.frf b hb) fun z=>I.ok.exfs b z hb
theorem Inv.step {g':Array GenState} {t':Nat} {d':Drawn} {ch:List Addr} (I:Inv X pins σ H s)
  (hch:∀ b∈ch,(b∈X.ex\/X.s₀.heap.objs.size<=b)/\b≠X.env.locals/\(∀ x c,X.env.cells.lookup x=some c->c≠b)/\∀ p∈X.pn++pins,p.1≠b)
  (keep:∀ b o,b≠X.env.locals->b ∉ X.fs->b ∉ ch->s.heap.get? b=some o->H b=none->h'.get? b=some o)
  (slot:∀ b o,b≠X.env.locals->b∈X.fs->b ∉ ch->s.heap.get? b=some o->H b=none->∃ sl,h'.get? b=some { o with slots:=sl }) (free:∀ b o,b ∉ ch->s.heap.get? b=some o->H b=none->H' b=none)
  (there:∀ b o,b ∉ ch->s.heap.get? b=some o->∃ o',h'.get? b=some o')
  (tups:∀ b xs,H b=some (.tup xs)->H' b=some (.tup xs)) (frzs:∀ b o u,H b=some (.frz o u)->H' b=some (.frz o u)) (tbls:∀ b ps,H b=some (.tbl ps)->∃ more,H' b=some (.tbl (ps++more)))
  (ns:∀ m,s.heap.Ns X.env.locals m->h'.Ns X.env.locals m) (hok:HOk X.prog X.w H' h') (hg:AllBare g') :
  Inv X pins σ H' { s with heap:=h',gens:=g',drawn:=d',toks:=t' }:=by
 have neL:∀ b o,X.s₀.heap.get? b=some o->b≠X.env.locals:=fun b o e=>Nat.ne_of_lt (Nat.lt_of_lt_of_le (Heap.lt_size e) I.ok.above)
 have neC:∀ b o,X.s₀.heap.get? b=some o->b ∉ X.ex->b ∉ ch:=fun b o e hx hb=>by
  rcases (hch b hb).1 with z|z
  ·exact hx z
  ·exact absurd (Nat.lt_of_lt_of_le (Heap.lt_size e) z) (Nat.lt_irrefl _)
 have cellK:∀ x c,X.env.cells.lookup x=some c->∀ v,s.heap.IsCell c v->h'.IsCell c v:=fun x c e v ⟨o,ho,hd⟩=>by
  have nch:c ∉ ch:=fun z=>(hch c z).2.2.1 x c e rfl
  by_cases hc:c∈X.fs
  ·obtain ⟨sl,q⟩:=slot c o (I.cne x c e) hc nch ho (I.freeC x c e)
   exact ⟨_,q,hd⟩
  ·exact ⟨o,keep c o (I.cne x c e) hc nch ho (I.freeC x c e),hd⟩
 refine ⟨I.ok,I.os,hg,⟨fun b o e n hb hx=>?_,fun b o e n hb hx=>?_,fun b o e n hx=>?_,fun b o e hx=>?_,fun b xs e=>tups b xs (I.base.tups b xs e),fun b o xs e=>frzs b o xs (I.base.frzs b o xs e),fun b ps e=>?_⟩,?_,fun x c e=>?_,?_,fun x c e=>?_,fun p hp=>?_,hok,I.len⟩
 ·exact keep b o (neL b o e) hb (neC b o e hx) (I.base.keep b o e n hb hx) (I.base.free b o e n hx)
 ·obtain ⟨sl,e1⟩:=I.base.slot b o e n hb hx
  obtain ⟨sl',e2⟩:=slot b _ (neL b o e) hb (neC b o e hx) e1 (I.base.free b o e n hx)
  exact ⟨sl',e2⟩
 ·obtain ⟨o',e1⟩:=I.base.there b o e hx
  exact free b o' (neC b o e hx) e1 (I.base.free b o e n hx)
 ·obtain ⟨o',e1⟩:=I.base.there b o e hx
  exact there b o' (neC b o e hx) e1
 ·obtain ⟨m1,e1⟩:=I.base.tbls b ps e
  obtain ⟨m2,e2⟩:=tbls b _ e1
  exact ⟨m1++m2,by rw [e2,Array.append_assoc]⟩
 ·obtain ⟨m,hn,hl⟩:=I.loc
  refine ⟨m,ns m hn,fun i x v e1 e2 e3=>?_⟩
  obtain ⟨u,r,l⟩:=hl i x v e1 e2 e3
  refine ⟨u,r,?_⟩
  rcases l with l|⟨k,c,e,z⟩
  ·exact .inl l
  ·exact .inr ⟨k,c,e,cellK x c e _ z⟩
 ·obtain ⟨v,z⟩:=I.cell x c e
  exact ⟨v,cellK x c e v z⟩
 ·obtain ⟨m,⟨o,_,_,ho,_⟩,_⟩:=I.loc
  exact free _ o (fun z=>(hch _ z).2.1 rfl) ho I.free
 ·obtain ⟨v,o,ho,hd⟩:=I.cell x c e
  exact free c o (fun z=>(hch c z).2.2.1 x c e rfl) ho (I.freeC x c e)
 ·obtain ⟨e,n,ne,nf,d⟩:=I.pin p hp
  have nch:p.1 ∉ ch:=fun z=>(hch p.1 z).2.2.2 p hp rfl
  exact ⟨keep p.1 p.2 ne nf nch e n,free p.1 p.2 nch e n,ne,nf,d⟩
theorem Inv.un {t':Nat} (I:Inv X pins σ H s) (u:Un X.fs [] H H' s.heap h') (hok:HOk X.prog X.w H' h'):Inv X pins σ H' { s with heap:=h',toks:=t' }:=by
 obtain ⟨m,⟨o,es,ep,ho,r⟩,_⟩:=id I.loc
 obtain ⟨sl,hL⟩:=u.any ho I.free (by simp)
 exact I.step (g':=s.gens) (d':=s.drawn) (ch:=[]) (fun _ z=>nomatch z) (fun b o _ hb _ e n=>u.keep b o e n hb (by simp)) (fun b o _ hb _ e n=>u.slot b o e n hb (by simp)) (fun b o _ e n=>u.free b o e n (by simp)) (fun b o _ e=>u.there b o e (by simp)) u.tups u.frzs u.tbls (fun m' hm=>by
  obtain ⟨o',es',ep',ho',r'⟩:=hm
  rw [ho] at ho'; cases ho'
  exact ⟨_,es',ep',hL,r'⟩) hok I.bare
theorem Inv.call {g':Array GenState} {t':Nat} {d':Drawn} {ch:List Addr} (I:Inv X pins σ H s) (u:Un (frs X.stack) ch H H' s.heap h') (hok:HOk X.prog X.w H' h') (hg:AllBare g')
  (hch:∀ b∈ch,(b∈X.ex\/X.s₀.heap.objs.size<=b)/\b≠X.env.locals/\(∀ x c,X.env.cells.lookup x=some c->c≠b)/\∀ p∈X.pn++pins,p.1≠b) :
  Inv X pins σ H' { s with heap:=h',gens:=g',drawn:=d',toks:=t' }:=by
 obtain ⟨m,⟨o,es,ep,ho,r⟩,_⟩:=id I.loc
 obtain ⟨sl,hL⟩:=u.any ho I.free fun z=>(hch _ z).2.1 rfl
 exact I.step (ch:=ch) hch (fun b o hL hb hc e n=>u.keep b o e n (fun z=>(List.mem_cons.mp (I.lU b z)).elim hL hb) hc) (fun b o _ _ hc e n=>u.any e n hc) (fun b o hc e n=>u.free b o e n hc) (fun b o hc e=>u.there b o e hc) u.tups u.frzs u.tbls (fun m' hm=>by
  obtain ⟨o',es',ep',ho',r'⟩:=hm
  rw [ho] at ho'; cases ho'
  exact ⟨_,es',ep',hL,r'⟩) hok hg
theorem Inv.turned {t':Nat} {it:Addr} (I:Inv X pins σ H s) (k:∀ b o,b≠it->s.heap.get? b=some o->h'.get? b=some o) (hn:H it=none) (hL:it≠X.env.locals)
  (h1:it∈X.ex\/X.s₀.heap.objs.size<=it) (h2:∀ x c,X.env.cells.lookup x=some c->c≠it) (h3:∀ p∈X.pn++pins,p.1≠it):Inv X pins σ H { s with heap:=h',toks:=t' }:=by
 have nit:∀ b u,H b=some u->b≠it:=fun b u e z=>by rw [z,hn] at e; cases e
 refine I.step (g':=s.gens) (d':=s.drawn) (ch:=[it]) (fun b hb=>?_) (fun b o _ _ hc e _=>k b o (fun z=>hc (by simp [z])) e) (fun b o _ _ hc e _=>⟨o.slots,k b o (fun z=>hc (by simp [z])) e⟩) (fun _ _ _ _ n=>n)
  (fun b o hc e=>⟨o,k b o (fun z=>hc (by simp [z])) e⟩) (fun _ _ e=>e) (fun _ _ _ e=>e) (fun b ps e=>⟨#[],by rw [e]; simp⟩) (fun m hm=>?_) (fun b u e=>?_) I.bare
 ·have e:b=it:=by simpa using hb
  subst e
  exact ⟨h1,hL,h2,h3⟩
 ·obtain ⟨o,es,ep,ho,r⟩:=hm
  exact ⟨o,es,ep,k _ o (Ne.symm hL) ho,r⟩
 ·refine (I.hok b u e).stay (fun c v hc q=>k c v ?_ q) (fun _ q=>q) fun _ _ q=>q
  rcases hc with z|z
  ·rw [z]; exact nit b u e
  ·exact nit c _ z
theorem Inv.tok (I:Inv X pins σ H s) (t:Nat):Inv X pins σ H { s with toks:=t }:=I.un (h':=s.heap) (t':=t) Un.refl I.hok
theorem Inv.kept {t':Nat} (I:Inv X pins σ H s) (k:∀ b u,s.heap.get? b=some u->h'.get? b=some u):Inv X pins σ H { s with heap:=h',toks:=t' }:=I.un (Un.kept k) (I.hok.kept k)
theorem Inv.laid {a:Addr} {o:HO} {t':Nat} (I:Inv X pins σ H s) (k:∀ b u,s.heap.get? b=some u->h'.get? b=some u) (hp:s.heap.objs.size<=a) (new:bY X.prog X.w (upd H a o) h' a o) :
  Inv X pins σ (upd H a o) { s with heap:=h',toks:=t' }:=I.un (Un.laid k hp (I.hok.fresh hp)) (I.hok.laid k hp new)
theorem Inv.write {x e:Addr} {o:HO} {t':Nat} (I:Inv X pins σ H s) (mu:Mut (H x)) (he:e=x\/H e=some (.own x)) (k:∀ b u,b≠e->s.heap.get? b=some u->h'.get? b=some u) (heo:∃ u,h'.get? e=some u)
  (new:bY X.prog X.w (upd H x o) h' x o):Inv X pins σ (upd H x o) { s with heap:=h',toks:=t' }:=I.un (Un.write mu he k heo) (I.hok.write mu he k heo new)
theorem Inv.weak {σ':List (Option V)} (I:Inv X pins σ H s) (hl:σ'.length=σ.length) (w:∀ (i:Nat) v,σ'[i]?=some (some v)->σ[i]?=some (some v)):Inv X pins σ' H s :=
 ⟨I.ok,I.os,I.bare,I.base,let ⟨m,hn,hl'⟩:=I.loc; ⟨m,hn,fun i x v e1 e2 e3=>hl' i x v e1 (w i v e2) e3⟩,I.cell,I.free,I.freeC,I.pin,I.hok,hl.trans I.len⟩
theorem Inv.qH {pins':List (Addr × Obj)} (I:Inv X pins σ H s) (h:∀ p∈pins',s.heap.get? p.1=some p.2/\H p.1=none/\p.1≠X.env.locals/\p.1 ∉ X.fs/\∀ v,p.2.data≠.cell v):Inv X pins' σ H s :=
 ⟨I.ok,I.os,I.bare,I.base,I.loc,I.cell,I.free,I.freeC,fun p hp=>(List.mem_append.mp hp).elim (fun z=>I.pin p (List.mem_append_left _ z)) (h p),I.hok,I.len⟩
theorem qx {N:List Str} (hN:N.Nodup) {i j:Nat} {x:Str} (a:N[i]?=some x) (b:N[j]?=some x):i=j:=by
 obtain ⟨h1,e1⟩:=List.getElem?_eq_some_iff.mp a
 obtain ⟨h2,e2⟩:=List.getElem?_eq_some_iff.mp b
 exact (List.getElem_inj hN).mp (e1.trans e2.symm)
theorem rC {M:Model} {A:Around} {E:Value->Shared->Prop} {i:Nat} {x:Str} {v:V} {u:Value} {Q:Unit->Shared->Prop} (I:Inv X pins σ H s) (hN:X.N.Nodup) (hi:X.N[i]?=some x) (hx:Loc X.env.scope x) (r:RelV v u)
  (h:∀ s',Inv X pins (σ.set i (some v)) H s'->(∃ a,Heap.SameBut a s.heap s'.heap/\(a=X.env.locals\/X.env.cells.lookup x=some a))->Q () s') (hf:X.fn x=true\/X.env.scope.names.lookup x=some .local:=by first|exact .inl rfl|exact .inr rfl|assumption):wpAny M A (storeName X.env x u) Q E s:=by
 obtain ⟨m,hn,hl⟩:=id I.loc
 have hcls:(X.env.scope.kind==.class||(X.env.scope.kind==.module&&X.env.locals != X.env.globals))=false:=by rw [I.ok.kind]; rfl
 have hiσ:i < σ.length:=by rw [I.len]; exact (List.getElem?_eq_some_iff.mp hi).1
 have cne:=I.cne
 have tracked:∀ {a:Addr} {h':Heap},(∃ o,s.heap.get? a=some o/\H a=none)->Heap.SameBut a s.heap h'->HOk X.prog X.w H h':=fun {a h'} ha hs b ob e=>by
  obtain ⟨_,_,hfree⟩:=ha
  refine (I.hok b ob e).stay (fun c w' hc q=>(hs.2 c ?_).trans q) (fun _ q=>q) fun _ _ q=>q
  rintro rfl
  rcases hc with rfl|hc
  ·rw [hfree] at e; cases e
  ·rw [hfree] at hc; cases hc
 rcases hx with hk|hk
 ·refine wpAny_storeName_local hk hn (fun h' hn' hs=>?_) hcls
  obtain ⟨oL,_,_,hoL,_⟩:=id hn
  refine h _ ⟨I.ok,I.os,I.bare,⟨fun b o e n hb hx=>?_,fun b o e n hb hx=>?_,I.base.free,fun b o e hx=>?_,I.base.tups,I.base.frzs,I.base.tbls⟩,⟨_,hn',fun j y v' e1 e2 e3=>?_⟩,fun y c e=>?_,I.free,I.freeC,fun p hp=>?_,tracked ⟨oL,hoL,I.free⟩ hs,by simpa using I.len⟩ ⟨_,hs,.inl rfl⟩
  ·exact (hs.2 b (Nat.ne_of_lt (Nat.lt_of_lt_of_le (Heap.lt_size e) I.ok.above))).trans (I.base.keep b o e n hb hx)
  ·obtain ⟨sl,e1⟩:=I.base.slot b o e n hb hx
   exact ⟨sl,(hs.2 b (Nat.ne_of_lt (Nat.lt_of_lt_of_le (Heap.lt_size e) I.ok.above))).trans e1⟩
  ·obtain ⟨o',e1⟩:=I.base.there b o e hx
   exact ⟨o',(hs.2 b (Nat.ne_of_lt (Nat.lt_of_lt_of_le (Heap.lt_size e) I.ok.above))).trans e1⟩
  ·by_cases hj:j=i
   ·subst hj
    rw [hi] at e1; cases e1
    rw [List.getElem?_set_self hiσ] at e2
    cases e2
    exact ⟨u,r,.inl ⟨hk,by simp⟩⟩
   ·rw [List.getElem?_set_ne (Ne.symm hj)] at e2
    obtain ⟨u',r',q⟩:=hl j y v' e1 e2 e3
    refine ⟨u',r',?_⟩
    rcases q with ⟨k,e⟩|⟨k,c,e,z⟩
    ·refine .inl ⟨k,?_⟩
     have:y≠x:=fun e=>hj (qx hN e1 (e ▸ hi))
     simp [this,e]
    ·exact .inr ⟨k,c,e,z.sameBut hs (cne y c e)⟩
  ·obtain ⟨w',z⟩:=I.cell y c e
   exact ⟨w',z.sameBut hs (cne y c e)⟩
  ·obtain ⟨e,n,ne,nf,d⟩:=I.pin p hp
   exact ⟨(hs.2 p.1 ne).trans e,n,ne,nf,d⟩
 ·have hfn:X.fn x=true:=by
   rcases hf with z|z
   ·exact z
   ·rw [z] at hk; cases hk
  obtain ⟨c,hc⟩:=I.ok.has x (.inl hk)
  obtain ⟨w',z⟩:=I.cell x c hc
  refine wpAny_storeName_cell I.ok.kind hk hc z (fun h' hc' hs=>?_)
  obtain ⟨oc,hoc,hocd⟩:=id z
  refine h { s with heap:=h' } ⟨I.ok,I.os,I.bare,⟨fun b o e n hb hx=>?_,fun b o e n hb hx=>?_,I.base.free,fun b o e hx=>?_,I.base.tups,I.base.frzs,I.base.tbls⟩,⟨m,hn.sameBut hs (Ne.symm (cne x c hc)),fun j y v' e1 e2 e3=>?_⟩,fun y c' e=>?_,I.free,I.freeC,fun p hp=>?_,tracked ⟨oc,hoc,I.freeC x c hc⟩ hs,by simpa using I.len⟩ ⟨c,hs,.inr hc⟩
  ·exact (hs.2 b (Nat.ne_of_lt (Nat.lt_of_lt_of_le (Heap.lt_size e) (I.ok.cab x c hfn hc)))).trans (I.base.keep b o e n hb hx)
  ·obtain ⟨sl,e1⟩:=I.base.slot b o e n hb hx
   exact ⟨sl,(hs.2 b (Nat.ne_of_lt (Nat.lt_of_lt_of_le (Heap.lt_size e) (I.ok.cab x c hfn hc)))).trans e1⟩
  ·obtain ⟨o',e1⟩:=I.base.there b o e hx
   exact ⟨o',(hs.2 b (Nat.ne_of_lt (Nat.lt_of_lt_of_le (Heap.lt_size e) (I.ok.cab x c hfn hc)))).trans e1⟩
  ·by_cases hj:j=i
   ·subst hj
    rw [hi] at e1; cases e1
    rw [List.getElem?_set_self hiσ] at e2
    cases e2
    exact ⟨u,r,.inr ⟨.inl hk,c,hc,hc'⟩⟩
   ·rw [List.getElem?_set_ne (Ne.symm hj)] at e2
    obtain ⟨u',r',q⟩:=hl j y v' e1 e2 e3
    refine ⟨u',r',?_⟩
    rcases q with q|⟨k,c',e,z'⟩
    ·exact .inl q
    ·refine .inr ⟨k,c',e,z'.sameBut hs ?_⟩
     rintro rfl
     exact hj (qx hN e1 (I.ok.inj _ _ _ e hc ▸ hi))
  ·by_cases hcc:c'=c
   ·subst hcc; exact ⟨_,hc'⟩
   ·obtain ⟨w2,z2⟩:=I.cell y c' e
    exact ⟨w2,z2.sameBut hs hcc⟩
  ·obtain ⟨e,n,ne,nf,d⟩:=I.pin p hp
   refine ⟨(hs.2 p.1 ?_).trans e,n,ne,nf,d⟩
   intro q
   rw [q,hoc] at e
   have q':oc=p.2:=Option.some.inj e
   exact d w' (by rw [<- q']; exact hocd)
theorem Dv {M:Model} {A:Around} {E:Value->Shared->Prop} {i:Nat} {x:Str} {v:V} {u:Value} {Q:Unit->Shared->Prop} (I:Inv X pins σ H s) (hN:X.N.Nodup) (hi:X.N[i]?=some x) (hx:Loc X.env.scope x) (r:RelV v u)
  (h:∀ s',Inv X pins (σ.set i (some v)) H s'->Q () s') (hf:X.fn x=true\/X.env.scope.names.lookup x=some .local:=by first|exact .inl rfl|exact .inr rfl|assumption):wpAny M A (storeName X.env x u) Q E s :=
 rC I hN hi hx r (fun s' I' _=>h s' I') hf
theorem Inv.uH {s':Shared} {ch:List Addr} (I:Inv X pins σ H s) (ho:s'.os=s.os) (u:Un (frs X.stack) ch H H' s.heap s'.heap) (hok:HOk X.prog X.w H' s'.heap) (hg:AllBare s'.gens)
  (hch:∀ b∈ch,(b∈X.ex\/X.s₀.heap.objs.size<=b)/\b≠X.env.locals/\(∀ x c,X.env.cells.lookup x=some c->c≠b)/\∀ p∈X.pn++pins,p.1≠b):Inv X pins σ H' s':=by
 obtain ⟨h',g',d',t',o'⟩:=s'
 have e:o'=s.os:=ho
 subst e
 exact I.call (g':=g') (t':=t') (d':=d') u hok hg hch
end
abbrev XK:=Value->Option Addr->Hp->Prop
abbrev St:=List (Option V)
abbrev VK:=V->Hp->Prop
abbrev TE:=St->Hp->VK->Prop
abbrev TT:=St->Hp->(Bool->Hp->Prop)->Prop
abbrev TA:=St->Hp->(List V->Hp->Prop)->Prop
structure Ends where
 nx:St->Hp->Prop
 rt:VK
 bk:St->Hp->Prop:=fun _ _=>False
 ct:St->Hp->Prop:=fun _ _=>False
abbrev TS:=Ends->St->Hp->Prop
noncomputable def EP (X:Cx) (pins:List (Addr × Obj)) (σ:St) (Q:VK) (u:Value) (s':Shared):Prop:=∃ v H',Inv X pins σ H' s'/\RelV v u/\Q v H'
noncomputable def TP (X:Cx) (pins:List (Addr × Obj)) (σ:St) (Q:Bool->Hp->Prop) (b:Bool) (s':Shared):Prop:=∃ H',Inv X pins σ H' s'/\Q b H'
noncomputable def AP (X:Cx) (pins:List (Addr × Obj)) (σ:St) (Q:List V->Hp->Prop) (us:List Value) (s':Shared):Prop:=∃ vs H',Inv X pins σ H' s'/\Vals vs us/\Q vs H'
noncomputable def SP (X:Cx) (pins:List (Addr × Obj)) (D:Ends) (f:Flow) (s':Shared):Prop :=
 match f with
 | .next=>∃ σ' H',Inv X pins σ' H' s'/\D.nx σ' H'
 | .brk=>∃ σ' H',Inv X pins σ' H' s'/\D.bk σ' H'
 | .cont=>∃ σ' H',Inv X pins σ' H' s'/\D.ct σ' H'
 | .ret u=>∃ v σ' H',Inv X pins σ' H' s'/\RelV v u/\D.rt v H'
noncomputable def PE (X:Cx) (e:Expr) (t:TE):Prop :=
 ∀ (pins:List (Addr × Obj)) (s:Shared) (σ:St) (H:Hp) (Q:VK),Inv X pins σ H s->t σ H Q->wpAny (model X.prog X.w) X.A (eval e X.env) (EP X pins σ Q) X.xe s
noncomputable def PT (X:Cx) (e:Expr) (t:TT):Prop :=
 ∀ (pins:List (Addr × Obj)) (s:Shared) (σ:St) (H:Hp) (Q:Bool->Hp->Prop),Inv X pins σ H s->t σ H Q->wpAny (model X.prog X.w) X.A (isTrue e X.env (eval e X.env)) (TP X pins σ Q) X.xe s
noncomputable def PW (X:Cx) (e:Expr) (t:TT):Prop :=
 ∀ (whole:Sem Value) (pins:List (Addr × Obj)) (s:Shared) (σ:St) (H:Hp) (Q:Bool->Hp->Prop),Inv X pins σ H s->t σ H Q->wpAny (model X.prog X.w) X.A (isTrue e X.env whole) (TP X pins σ Q) X.xe s
theorem PW.pt {X:Cx} {e:Expr} {t:TT} (h:PW X e t):PT X e t:=h _
noncomputable def PA (X:Cx) (es:List Expr) (t:TA):Prop :=
 ∀ (pos:Pos) (pins:List (Addr × Obj)) (s:Shared) (σ:St) (H:Hp) (Q:List V->Hp->Prop),Inv X pins σ H s->t σ H Q->wpAny (model X.prog X.w) X.A (spliced (backTo pos (starEach es X.env))) (AP X pins σ Q) X.xe s
noncomputable def PS (X:Cx) (st:Stmt) (t:TS):Prop :=
 ∀ (pins:List (Addr × Obj)) (s:Shared) (σ:St) (H:Hp) (D:Ends),Inv X pins σ H s->t D σ H->wpAny (model X.prog X.w) X.A (exec st X.env) (SP X pins D) X.xe s
noncomputable def PSs (X:Cx) (st:List Stmt) (t:TS):Prop :=
 ∀ (pins:List (Addr × Obj)) (s:Shared) (σ:St) (H:Hp) (D:Ends),Inv X pins σ H s->t D σ H->wpAny (model X.prog X.w) X.A (execs st X.env) (SP X pins D) X.xe s
theorem thn {α:Type} {t:Sem α} {Q Q':α->Shared->Prop} {M:Model} {A:Around} {E:Value->Shared->Prop} {s:Shared} (h:wpAny M A t Q E s) (hQ:∀ a s,Q a s->Q' a s):wpAny M A t Q' E s:=wpAny_mono h hQ fun _ _ x=>x
end L2
namespace L2
open PySem PySem.Spec PyProof.Rows
section
variable {X:Cx}
noncomputable def Cn (i:Nat):TE:=fun σ H Q=>∃ v,σ[i]?=some (some v)/\Q v H
noncomputable def tC (v:V):TE:=fun _ H Q=>Q v H
theorem u6 {i:Nat} {x:Str} {pos:Pos} (hN:X.N[i]?=some x) (hv:Vis X.env.scope x) (hd:(x==("__debug__" : Str))=false:=by decide) (hcd:(x==("__classdict__" : Str))=false:=by decide):PE X (.Name x pos) (Cn i):=by
 intro pins s σ H Q I h
 obtain ⟨v,e,h⟩:=h
 obtain ⟨m,hn,hl⟩:=I.loc
 obtain ⟨u,r,l⟩:=hl i x v hN e hv
 have fin:EP X pins σ Q u s:=⟨v,H,I,r,h⟩
 rcases l with ⟨hk,hm⟩|⟨hk,c,hc,hcell⟩
 ·exact wpAny_Name (wpAny_loadName_local I.ok.kind hk hn hm fin) hd
 ·rcases hk with hk|hk
  ·exact wpAny_Name (wpAny_loadName_cell I.ok.kind hk hc hcell fin) hd
  ·exact wpAny_Name (wpAny_loadName_free I.ok.kind hk hc hcell fin hcd) hd
theorem Co {i j pos}:PE X (.Constant (.int i) j pos) (tC (.int i)):=fun _ _ _ H _ I h=>wpAny_Constant_int ⟨.int i,H,I.tok _,⟨_,rfl⟩,h⟩
theorem Ck {b j pos}:PE X (.Constant (.bool b) j pos) (tC (.bl b)):=fun _ _ _ H _ I h=>Constant_bool ⟨.bl b,H,I,rfl,h⟩
theorem wL {j pos}:PE X (.Constant .none j pos) (tC .non):=fun _ _ _ H _ I h=>Constant_none ⟨.non,H,I,rfl,h⟩
theorem B6 {x j pos}:PE X (.Constant (.str x) j pos) (tC (.str x)):=fun _ _ _ H _ I h=>Calls.Constant_str ⟨.str x,H,I.tok _,⟨_,rfl⟩,h⟩
noncomputable def Gl (X:Cx) (x:Str):Prop:=X.env.kindOf x=some .globalImplicit
theorem jN {E:Value->Shared->Prop} {pins:List (Addr × Obj)} {s:Shared} {σ:St} {H:Hp} {x:Str} {u:Value} {pos:Pos} {Q:Value->Shared->Prop} (I:Inv X pins σ H s) (hg:Gl X x) (hm:X.mg x=some u) (h:Q u s)
  (hd:(x==("__debug__" : Str))=false:=by decide):wpAny (model X.prog X.w) X.A (eval (.Name x pos) X.env) Q E s :=
 Calls.Name_function_global I.ok.kind hg (Calls.loadGlobal_global (by rw [I.ok.glob]; exact I.mod.glob.keeps I.bk) hm h) hd
theorem cu {E:Value->Shared->Prop} {pins:List (Addr × Obj)} {s:Shared} {σ:St} {H:Hp} {x:Str} {u:Value} {pos:Pos} {Q:Value->Shared->Prop} (I:Inv X pins σ H s) (hg:Gl X x) (hm:X.mg x=none) (hv:bootBuiltins x=some u) (h:Q u s)
  (hn:x≠"__name__":=by decide) (hd:(x==("__debug__" : Str))=false:=by decide):wpAny (model X.prog X.w) X.A (eval (.Name x pos) X.env) Q E s:=by
 obtain ⟨mb,h1,h2⟩:=I.mod.blt
 exact Calls.Name_function_global I.ok.kind hg (Calls.loadGlobal_builtin (by rw [I.ok.glob]; exact I.mod.glob.keeps I.bk) hm (by rw [I.ok.blt]; exact h1.keeps I.bk) ((h2 x hn).trans hv) h) hd
theorem zj {x:Str} {v:V} {u:Value} {pos:Pos} (hg:Gl X x) (hm:X.mg x=some u) (r:RelV v u) (hd:(x==("__debug__" : Str))=false:=by decide):PE X (.Name x pos) (tC v) :=
 fun _ _ _ H _ I h=>jN I hg hm ⟨v,H,I,r,h⟩ hd
theorem zb {x:Str} {v:V} {u:Value} {pos:Pos} (hg:Gl X x) (hm:X.mg x=none) (hv:bootBuiltins x=some u) (r:RelV v u) (hn:x≠"__name__":=by decide) (hd:(x==("__debug__" : Str))=false:=by decide):PE X (.Name x pos) (tC v) :=
 fun _ _ _ H _ I h=>cu I hg hm hv ⟨v,H,I,r,h⟩ hn hd
variable {a b:Expr} {ta tb:TE} {pos:Pos}
noncomputable def PC (X:Cx) (op:CmpOp) (a b:Expr) (t:TE):Prop :=
 ∀ (pins:List (Addr × Obj)) (s:Shared) (σ:St) (H:Hp) (Q:VK),Inv X pins σ H s->t σ H Q ->
  wpAny (model X.prog X.w) X.A (eval a X.env) (fun v s₁=>wpAny (model X.prog X.w) X.A (eval b X.env) (fun u s₂=>wpAny (model X.prog X.w) X.A (compareOp op v u) (EP X pins σ Q) X.xe s₂) X.xe s₁) X.xe s
theorem q_ (b:Expr) {op:CmpOp} (h:op≠.In) (h2:op≠.NotIn):behindInMarks op b=false:=by
 have e1:(op==CmpOp.In)=false:=by cases op <;> first|rfl|exact absurd rfl h
 have e2:(op==CmpOp.NotIn)=false:=by cases op <;> first|rfl|exact absurd rfl h2
 cases b <;> simp [behindInMarks,e1,e2]
noncomputable def xx (ta:TE):TE:=fun σ H Q=>ta σ H fun x H1=>Q (.bl (decide (x=.non))) H1
noncomputable def BK (ta:TE):TE:=fun σ H Q=>ta σ H fun x H1=>Q (.bl (!decide (x=.non))) H1
theorem RelV.nH {x:V} {v:Value} (r:RelV x v):(v==Value.none)=decide (x=.non):=by
 cases x with
 | non=>cases r; rfl
 | bl _=>cases r; rfl
 | int _=>obtain ⟨t,rfl⟩:=r; rfl
 | str _=>obtain ⟨t,rfl⟩:=r; rfl
 | byt _=>obtain ⟨t,rfl⟩:=r; rfl
 | flt _=>obtain ⟨t,rfl⟩:=r; rfl
 | ref _=>cases r; rfl
 | ty _=>cases r; rfl
theorem sj {j pos'} (ha:PE X a ta):PC X .Is a (.Constant .none j pos') (xx ta):=by
 intro pins s σ H Q I h
 refine thn (ha pins s σ H _ I h) fun v s1 ⟨x,H1,I1,r1,q1⟩=>?_
 exact Constant_none (is_none_gen ⟨.bl _,H1,I1,by rw [r1.nH]; rfl,q1⟩)
theorem qW {j pos'} (ha:PE X a ta):PC X .IsNot a (.Constant .none j pos') (BK ta):=by
 intro pins s σ H Q I h
 refine thn (ha pins s σ H _ I h) fun v s1 ⟨x,H1,I1,r1,q1⟩=>?_
 exact Constant_none (isnot_none_gen ⟨.bl _,H1,I1,by rw [r1.nH]; rfl,q1⟩)
noncomputable def tB (t:TE):TT:=fun σ H Q=>t σ H fun x H1=>∃ c,x=.bl c/\Q c H1
theorem nD {op:CmpOp} {t:TE} (h:PC X op a b t) (h1:behindInMarks op b=false:=by first|exact q_ _ (by decide) (by decide)|rfl):PE X (.Compare a [op] [b] pos) t:=fun pins s σ H Q I hw=>wpAny_Compare1 (h pins s σ H Q I hw) h1
theorem oi {op:CmpOp} {t:TE} (h:PC X op a b t) (h1:behindInMarks op b=false:=by first|exact q_ _ (by decide) (by decide)|rfl):PT X (.Compare a [op] [b] pos) (tB t):=by
 intro pins s σ H Q I hw
 refine wpAny_isTrue_Compare1 (thn (h pins s σ H _ I hw) fun v s1 h1=>thn h1 fun u s2 h2=>thn h2 fun c s3 ⟨x,H1,I1,r1,q1⟩=>?_) h1
 obtain ⟨d,rfl,q⟩:=q1
 cases r1
 exact wpAny_truthy_bool ⟨H1,I1,q⟩
variable {tA tB':TT} {rest:List Expr}
noncomputable def xu (t u:TT):TT:=fun σ H Q=>t σ H fun c H1=>if c=true then u σ H1 Q else Q false H1
noncomputable def tOr (t u:TT):TT:=fun σ H Q=>t σ H fun c H1=>if c=true then Q true H1 else u σ H1 Q
noncomputable def CQ (t:TT):TT:=fun σ H Q=>t σ H fun c H1=>Q (!c) H1
theorem rf (ha:PT X a tA):PW X (.BoolOp .And [a] pos) tA:=by
 intro wh pins s σ H Q I h
 refine isTrue_and (thn (ha pins s σ H Q I h) fun c s1 e=>?_)
 cases c with
 | true=>exact isTrue_and_nil e
 | false=>exact e
theorem qP (ha:PT X a tA):PW X (.BoolOp .Or [a] pos) tA:=by
 intro wh pins s σ H Q I h
 refine isTrue_or (thn (ha pins s σ H Q I h) fun c s1 e=>?_)
 cases c with
 | false=>exact isTrue_or_nil e
 | true=>exact e
theorem AE (ha:PT X a tA) (hb:PW X (.BoolOp .And (b::rest) pos) tB'):PW X (.BoolOp .And (a::b::rest) pos) (xu tA tB'):=by
 intro wh pins s σ H Q I h
 refine isTrue_and (thn (ha pins s σ H _ I h) fun c s1 ⟨H1,I1,q1⟩=>?_)
 cases c with
 | true=>exact hb wh pins s1 σ H1 Q I1 q1
 | false=>exact ⟨H1,I1,q1⟩
theorem wC (ha:PT X a tA) (hb:PW X (.BoolOp .Or (b::rest) pos) tB'):PW X (.BoolOp .Or (a::b::rest) pos) (tOr tA tB'):=by
 intro wh pins s σ H Q I h
 refine isTrue_or (thn (ha pins s σ H _ I h) fun c s1 ⟨H1,I1,q1⟩=>?_)
 cases c with
 | true=>exact ⟨H1,I1,q1⟩
 | false=>exact hb wh pins s1 σ H1 Q I1 q1
theorem wK (ha:PT X a tA):PT X (.UnaryOp .Not a pos) (CQ tA):=by
 intro pins s σ H Q I h
 exact isTrue_not (ha pins s σ H (fun c H1=>Q (!c) H1) I h)
noncomputable def De (ta tb:TE):TE:=fun σ H Q=>ta σ H fun x H1=>∃ c,x=.bl c/\if c=true then tb σ H1 Q else Q (.bl false) H1
noncomputable def v7 (ta tb:TE):TE:=fun σ H Q=>ta σ H fun x H1=>∃ c,x=.bl c/\if c=true then Q (.bl true) H1 else tb σ H1 Q
noncomputable def DZ (ta:TE):TE:=fun σ H Q=>ta σ H fun x H1=>∃ c,x=.bl c/\Q (.bl (!c)) H1
theorem rL {op} {t:TE} (h:PE X a t):PE X (.BoolOp op [a] pos) t:=fun pins s σ H Q I hw=>BoolOp_one (h pins s σ H Q I hw)
theorem uG (ha:PE X a ta) (hb:PE X (.BoolOp .And (b::rest) pos) tb):PE X (.BoolOp .And (a::b::rest) pos) (De ta tb):=by
 intro pins s σ H Q I h
 refine BoolOp_and (thn (ha pins s σ H _ I h) fun v s1 ⟨x,H1,I1,r1,q1⟩=>?_)
 obtain ⟨c,rfl,q1⟩:=q1
 cases r1
 refine wpAny_truthy_bool ?_
 cases c with
 | true=>exact hb pins s1 σ H1 Q I1 q1
 | false=>exact ⟨.bl false,H1,I1,rfl,q1⟩
theorem u7 (ha:PE X a ta) (hb:PE X (.BoolOp .Or (b::rest) pos) tb):PE X (.BoolOp .Or (a::b::rest) pos) (v7 ta tb):=by
 intro pins s σ H Q I h
 refine BoolOp_or (thn (ha pins s σ H _ I h) fun v s1 ⟨x,H1,I1,r1,q1⟩=>?_)
 obtain ⟨c,rfl,q1⟩:=q1
 cases r1
 refine wpAny_truthy_bool ?_
 cases c with
 | false=>exact hb pins s1 σ H1 Q I1 q1
 | true=>exact ⟨.bl true,H1,I1,rfl,q1⟩
theorem uh (ha:PE X a ta):PE X (.UnaryOp .Not a pos) (DZ ta):=by
 intro pins s σ H Q I h
 refine UnaryOp_ (thn (ha pins s σ H _ I h) fun v s1 ⟨x,H1,I1,r1,q1⟩=>?_)
 obtain ⟨c,rfl,q1⟩:=q1
 cases r1
 exact not_of (wpAny_truthy_bool ⟨.bl (!c),H1,I1,rfl,q1⟩)
noncomputable def tIf (t:TT) (ta tb:TE):TE:=fun σ H Q=>t σ H fun c H1=>if c=true then ta σ H1 Q else tb σ H1 Q
theorem C9 {c:Expr} (hc:PT X c tA) (ha:PE X a ta) (hb:PE X b tb):PE X (.IfExp c a b pos) (tIf tA ta tb):=by
 intro pins s σ H Q I h
 refine wpAny_IfExp (thn (hc pins s σ H _ I h) fun d s1 ⟨H1,I1,q1⟩=>?_)
 cases d with
 | true=>exact ha pins s1 σ H1 Q I1 q1
 | false=>exact hb pins s1 σ H1 Q I1 q1
end
end L2
namespace L2
open PySem PySem.Spec PyProof.Rows
noncomputable def SqL (K:PySem.W.Frag) (H:Hp) (a:Addr) (xs:List V):Prop :=
 Rd H a (.lst xs) \/
  ∃ (o:Obj) (its:Array Value) (n:Nat),K.lookup a=some o/\o.cls=.type "list"/\o.dict=none/\o.data=.seq its n/\its.size<=sizeLine/\Vals xs its.toList
noncomputable def SqT (K:PySem.W.Frag) (H:Hp) (a:Addr) (xs:List V):Prop :=
 Rd H a (.tup xs) \/
  ∃ (o:Obj) (its:Array Value) (n:Nat),K.lookup a=some o/\o.cls=.type "tuple"/\o.data=.seq its n/\its.size<=sizeLine/\Vals xs its.toList
noncomputable def tQ:Value->Option V
 | .none=>some .non
 | .bool b=>some (.bl b)
 | .int i _=>some (.int i)
 | .str x _=>some (.str x)
 | .bytes b _=>some (.byt b)
 | .float b _=>some (.flt b)
 | .ref a=>some (.ref a)
 | .type n=>some (.ty n)
 | _=>none
theorem RelV.abs {x:V} {u:Value} (r:RelV x u):tQ u=some x:=by
 cases x with
 | non=>cases r; rfl
 | bl _=>cases r; rfl
 | int _=>obtain ⟨t,rfl⟩:=r; rfl
 | str _=>obtain ⟨t,rfl⟩:=r; rfl
 | byt _=>obtain ⟨t,rfl⟩:=r; rfl
 | flt _=>obtain ⟨t,rfl⟩:=r; rfl
 | ref _=>cases r; rfl
 | ty _=>cases r; rfl
theorem RelV.inj {x y:V} {u:Value} (r:RelV x u) (q:RelV y u):x=y:=Option.some.inj (r.abs.symm.trans q.abs)
theorem Vals.inj:∀ {xs ys:List V} {us:List Value},Vals xs us->Vals ys us->xs=ys
 | _,_,_,.nil,.nil=>rfl
 | _,_,_,.cons r t,.cons r' t'=>by rw [r.inj r',Vals.inj t t']
section
variable {X:Cx} {pins:List (Addr × Obj)} {σ:St} {H:Hp} {s:Shared} {a:Addr} {xs ys:List V}
theorem SqL.of {K:PySem.W.Frag} (h:H a=some (.lst xs)):SqL K H a xs:=.inl (.inl h)
theorem SqT.of {K:PySem.W.Frag} (h:H a=some (.tup xs)):SqT K H a xs:=.inl (.inl h)
theorem Inv.list (I:Inv X pins σ H s) (h:SqL X.K H a xs):∃ its:List Value,Vals xs its/\PlainL s.heap a its.toArray/\xs.length<=sizeLine:=by
 rcases h with h|⟨o,its,n,hk,hc,hd,hs,hz,r⟩
 ·obtain ⟨z,its,n,r,e⟩:=h.ok I.hok
  exact ⟨its,r,⟨_,n,e,rfl,rfl,rfl⟩,z⟩
 ·refine ⟨its.toList,r,⟨o,n,I.kIn a o hk,hc,hd,by simpa using hs⟩,?_⟩
  have e:=r.length
  simp only [Array.length_toList] at e
  omega
theorem Inv.tuple (I:Inv X pins σ H s) (h:SqT X.K H a xs):∃ its:List Value,Vals xs its/\IsTup s.heap a its.toArray/\xs.length<=sizeLine:=by
 rcases h with h|⟨o,its,n,hk,hc,hs,hz,r⟩
 ·obtain ⟨z,its,r,p⟩:=h.ok I.hok
  exact ⟨its,r,p,z⟩
 ·refine ⟨its.toList,r,⟨o,I.kIn a o hk,hc,n,by simpa using hs⟩,?_⟩
  have e:=r.length
  simp only [Array.length_toList] at e
  omega
theorem Inv.iR (I:Inv X pins σ H s) (h:SqL X.K H a xs) (h':SqL X.K H a ys):xs=ys:=by
 obtain ⟨its,r,⟨o,n,e,_,_,d⟩,_⟩:=I.list h
 obtain ⟨its',r',⟨o',n',e',_,_,d'⟩,_⟩:=I.list h'
 rw [e] at e'; cases e'
 rw [d] at d'
 injection d' with d1 _
 have:its=its':=by simpa using congrArg Array.toList d1
 subst this
 exact r.inj r'
theorem Inv.gZ (I:Inv X pins σ H s) (h:SqT X.K H a xs) (h':SqT X.K H a ys):xs=ys:=by
 obtain ⟨its,r,⟨o,e,_,n,d⟩,_⟩:=I.tuple h
 obtain ⟨its',r',⟨o',e',_,n',d'⟩,_⟩:=I.tuple h'
 rw [e] at e'; cases e'
 rw [d] at d'
 injection d' with d1 _
 have:its=its':=by simpa using congrArg Array.toList d1
 subst this
 exact r.inj r'
end
abbrev Cx.cS (X:Cx) (E:Value->Shared->Prop):Cx:={ X with xe:=E }
abbrev Cx.nox (X:Cx):Cx:=X.cS fun _ _=>False
theorem Cx.Ok.cS {X:Cx} (ok:X.Ok) (E:Value->Shared->Prop):(X.cS E).Ok :=
 ⟨ok.mod,ok.kind,ok.glob,ok.blt,ok.above,ok.inj,ok.has,ok.cab,ok.hd,ok.frames,ok.stk,ok.exf,ok.bs,ok.bsz,ok.noex,ok.exfs,ok.cE,ok.frf⟩
theorem Cx.Ok.dX {X:Cx} {E:Value->Shared->Prop} (ok:(X.cS E).Ok):X.Ok :=
 ⟨ok.mod,ok.kind,ok.glob,ok.blt,ok.above,ok.inj,ok.has,ok.cab,ok.hd,ok.frames,ok.stk,ok.exf,ok.bs,ok.bsz,ok.noex,ok.exfs,ok.cE,ok.frf⟩
section
variable {X:Cx} {pins:List (Addr × Obj)} {σ:St} {H:Hp} {s:Shared} {E:Value->Shared->Prop}
theorem Inv.cS (I:Inv X pins σ H s) (E:Value->Shared->Prop):Inv (X.cS E) pins σ H s:=⟨I.ok.cS E,I.os,I.bare,I.base,I.loc,I.cell,I.free,I.freeC,I.pin,I.hok,I.len⟩
theorem Inv.dX (I:Inv (X.cS E) pins σ H s):Inv X pins σ H s:=⟨I.ok.dX,I.os,I.bare,I.base,I.loc,I.cell,I.free,I.freeC,I.pin,I.hok,I.len⟩
theorem SP.dX {D:Ends} {f:Flow} {s':Shared} (h:SP (X.cS E) pins D f s'):SP X pins D f s':=by
 cases f with
 | next=>obtain ⟨σ',H',I,q⟩:=h; exact ⟨σ',H',I.dX,q⟩
 | brk=>obtain ⟨σ',H',I,q⟩:=h; exact ⟨σ',H',I.dX,q⟩
 | cont=>obtain ⟨σ',H',I,q⟩:=h; exact ⟨σ',H',I.dX,q⟩
 | ret u=>obtain ⟨v,σ',H',I,r,q⟩:=h; exact ⟨v,σ',H',I.dX,r,q⟩
end
section
variable {X:Cx} {st:Stmt} {rest:List Stmt} {t u:TS} {e:Expr} {te:TE} {pos:Pos}
noncomputable def lV:TS:=fun D σ H=>D.nx σ H
noncomputable def uo (t u:TS):TS:=fun D σ H=>t { D with nx:=u D } σ H
theorem yH:PSs X [] lV:=fun _ _ σ H _ I h=>wpAny_execs_nil ⟨σ,H,I,h⟩
theorem zX (h1:PS X st t) (h2:PSs X rest u):PSs X (st::rest) (uo t u):=by
 intro pins s σ H D I h
 refine wpAny_execs_cons (thn (h1 pins s σ H { D with nx:=u D } I h) fun f s1 q=>?_)
 cases f with
 | next =>
  obtain ⟨σ',H',I',q⟩:=q
  exact h2 pins s1 σ' H' D I' q
 | ret v=>exact q
 | brk=>exact q
 | cont=>exact q
theorem uB (h1:PS X st t):PSs X [st] t:=by
 intro pins s σ H D I h
 refine wpAny_execs_cons (thn (h1 pins s σ H D I h) fun f s1 q=>?_)
 cases f with
 | next=>exact wpAny_execs_nil q
 | ret v=>exact q
 | brk=>exact q
 | cont=>exact q
theorem zO:PS X (.Pass pos) lV:=fun _ _ σ H _ I h=>wpAny_Pass ⟨σ,H,I,h⟩
theorem Inv.quiet {pins:List (Addr × Obj)} {σ:St} {H:Hp} {s:Shared} (I:Inv X pins σ H s):interactive X.env=false:=by simp [interactive,I.ok.kind]
theorem uv {x j pos pos'}:PS X (.Expr (.Constant (.str x) j pos) pos') lV:=fun _ s σ H _ I h=>wpAny_Expr (Calls.Constant_str (show SP X _ _ .next { s with toks:=s.toks+1 } from ⟨σ,H,I.tok _,h⟩)) I.quiet
noncomputable def vn (te:TE):TS:=fun D σ H=>te σ H fun _ H1=>D.nx σ H1
theorem zo (he:PE X e te) (hs:swapsWith e none pos.line X.env=pure false:=by rfl):PS X (.Expr e pos) (vn te):=by
 intro pins s σ H D I h
 exact wpAny_Expr_any (thn (he pins s σ H _ I h) fun v s1 ⟨x,H1,I1,r1,q1⟩=>⟨σ,H1,I1,q1⟩) I.quiet hs
noncomputable def Ad (te:TE):TS:=fun D σ H=>te σ H D.rt
theorem A4 (he:PE X e te):PS X (.Return (some e) pos) (Ad te):=by
 intro pins s σ H D I h
 exact wpAny_Return_some (thn (he pins s σ H _ I h) fun v s1 ⟨x,H1,I1,r1,q1⟩=>⟨x,σ,H1,I1,r1,q1⟩)
noncomputable def Aq:TS:=fun D _ H=>D.rt .non H
theorem AY:PS X (.Return none pos) Aq:=fun _ _ σ H _ I h=>wpAny_Return_none ⟨.non,σ,H,I,rfl,h⟩
noncomputable def sW (c:TT) (t u:TS):TS:=fun D σ H=>c σ H fun b H1=>if b=true then t D σ H1 else u D σ H1
theorem CT {c:Expr} {a b:List Stmt} {tc:TT} (hc:PT X c tc) (ha:PSs X a t) (hb:PSs X b u):PS X (.If c a b pos) (sW tc t u):=by
 intro pins s σ H D I h
 refine wpAny_If (thn (hc pins s σ H _ I h) fun d s1 ⟨H1,I1,q1⟩=>?_)
 cases d with
 | true=>exact ha pins s1 σ H1 D I1 q1
 | false=>exact hb pins s1 σ H1 D I1 q1
noncomputable def tE:TS:=fun _ _ _=>False
theorem xV:PS X st tE:=fun _ _ _ _ _ _ h=>h.elim
end
abbrev TG:=V->St->Hp->(St->Hp->Prop)->Prop
abbrev TGs:=List V->St->Hp->(St->Hp->Prop)->Prop
noncomputable def PG (X:Cx) (target:Expr) (t:TG):Prop :=
 ∀ (pins:List (Addr × Obj)) (s:Shared) (σ:St) (H:Hp) (v:V) (u:Value) (Q:St->Hp->Prop),Inv X pins σ H s->RelV v u->t v σ H Q ->
  wpAny (model X.prog X.w) X.A (assign target X.env u) (fun _ s'=>∃ σ' H',Inv X pins σ' H' s'/\Q σ' H') X.xe s
noncomputable def PGs (X:Cx) (ts:List Expr) (t:TGs):Prop :=
 ∀ (pins:List (Addr × Obj)) (s:Shared) (σ:St) (H:Hp) (vs:List V) (us:List Value) (Q:St->Hp->Prop),Inv X pins σ H s->Vals vs us->t vs σ H Q ->
  wpAny (model X.prog X.w) X.A (assignInOrder ((assignEach ts X.env).map (·.2)) us) (fun _ s'=>∃ σ' H',Inv X pins σ' H' s'/\Q σ' H') X.xe s
abbrev bJ:=V->V->V->Hp->(Hp->Prop)->Prop
noncomputable def j7 (X:Cx) (t:bJ):Prop :=
 ∀ (pins:List (Addr × Obj)) (s:Shared) (σ:St) (H:Hp) (o i v:V) (ov iv u:Value) (Q:Hp->Prop),Inv X pins σ H s->RelV o ov->RelV i iv->RelV v u->t o i v H Q ->
  wpAny (model X.prog X.w) X.A (setItem ov iv u) (fun _ s'=>∃ H',Inv X pins σ H' s'/\Q H') X.xe s
section
variable {X:Cx} {pos:Pos}
noncomputable def gE (i:Nat):TG:=fun v σ H Q=>Q (σ.set i (some v)) H
theorem p9 {i:Nat} {x:Str} (hN:X.N.Nodup) (hi:X.N[i]?=some x) (hx:Loc X.env.scope x) (hf:X.fn x=true\/X.env.scope.names.lookup x=some .local:=by first|exact .inl rfl|exact .inr rfl|assumption):PG X (.Name x pos) (gE i):=by
 intro pins s σ H v u Q I r h
 exact wpAny_assign_Name (Dv I hN hi hx r (fun s' I'=>⟨_,H,I',h⟩) hf)
noncomputable def nJ:TGs:=fun vs σ H Q=>vs=[]/\Q σ H
noncomputable def mj (t:TG) (u:TGs):TGs:=fun vs σ H Q=>∃ v r,vs=v::r/\t v σ H fun σ' H'=>u r σ' H' Q
theorem Bu:PGs X [] nJ:=by
 intro pins s σ H vs us Q I r h
 obtain ⟨e,h⟩:=h
 subst e
 cases r
 exact assignInOrder_nil ⟨σ,H,I,h⟩
theorem xB {e:Expr} {es:List Expr} {t:TG} {u:TGs} (h1:PG X e t) (h2:PGs X es u)
  (hs:(assignEach (e::es) X.env).map (·.2)=assign e X.env::(assignEach es X.env).map (·.2):=by rfl):PGs X (e::es) (mj t u):=by
 intro pins s σ H vs us Q I r h
 obtain ⟨v,vr,e1,h⟩:=h
 subst e1
 cases r with
 | cons r rr =>
  rw [hs]
  refine assignInOrder_cons (thn (h1 pins s σ H _ _ _ I r h) fun _ s1 ⟨σ1,H1,I1,q1⟩=>?_)
  exact h2 pins s1 σ1 H1 _ _ Q I1 rr q1
noncomputable def zv (K:PySem.W.Frag) (n:Nat) (t:TGs):TG:=fun v σ H Q=>∃ a xs,v=.ref a/\SqT K H a xs/\xs.length=n/\t xs σ H Q
theorem y9 {es:List Expr} {k:Nat} {t:TGs} {n:Nat} (hc:X.calm=true) (h:PGs X es t)
  (hn:(assignEach es X.env).length=n:=by rfl) (hst:(assignEach es X.env).findIdx? (·.1)=none:=by rfl):PG X (.Tuple es k pos) (zv X.K n t):=by
 intro pins s σ H v u Q I r hw
 obtain ⟨a,xs,e1,hq,hl,hw⟩:=hw
 subst e1
 cases r
 obtain ⟨its,rv,ht,hz⟩:=I.tuple hq
 refine assign_Tuple_tuple (I.ok.hd hc) ht (by simp [hn,<- hl,rv.length]) hst fun h' hx=>?_
 have I1:Inv X pins σ H { s with heap:=h' }:=I.kept (t':=s.toks) fun b o e=>hx b o (Nat.ne_of_lt (Heap.lt_size e)) e
 exact h pins _ σ H xs _ Q I1 (by simpa using rv) hw
noncomputable def qL (to ti:TE) (t:bJ):TG:=fun v σ H Q=>to σ H fun o H1=>ti σ H1 fun i H2=>t o i v H2 fun H3=>Q σ H3
theorem Dn {o i:Expr} {to ti:TE} {t:bJ} (ho:PE X o to) (hi:PE X i ti) (hs:j7 X t)
  (ha:∀ v,assign (.Subscript o i pos) X.env v=(do
   let ov <- holding [v] (eval o X.env)
   let iv <- holding [v,ov] (eval i X.env)
   standAt pos
   holding [v,ov,iv] (setItem ov iv v)
   release [v,ov,iv] []):=by intro _; rfl):PG X (.Subscript o i pos) (qL to ti t):=by
 intro pins s σ H v u Q I r h
 rw [ha]
 refine wpAny_bind (wpAny_holding (thn (ho pins s σ H _ I h) fun ov s1 ⟨x,H1,I1,r1,q1⟩=>?_))
 refine wpAny_bind (wpAny_holding (thn (hi pins s1 σ H1 _ I1 q1) fun iv s2 ⟨y,H2,I2,r2,q2⟩=>?_))
 refine wpAny_bind (wpAny_standAt (wpAny_bind (wpAny_holding (thn (hs pins s2 σ H2 x y v ov iv u _ I2 r1 r2 r q2) fun _ s3 ⟨H3,I3,q3⟩=>?_))))
 exact wpAny_release ⟨σ,H3,I3,q3⟩
noncomputable def kW (te:TE) (g:TG):TS:=fun D σ H=>te σ H fun x H1=>g x σ H1 D.nx
theorem oj {tg e:Expr} {te:TE} {g:TG} (he:PE X e te) (hg:PG X tg g) (hs:swapsWithSole [tg] e pos.line X.env=pure false:=by rfl) (hw:swappedStores [tg] e X.env=pure none:=by rfl)
  (h1:(assignEach [tg] X.env).map (·.2)=[assign tg X.env]:=by rfl):PS X (.Assign [tg] e pos) (kW te g):=by
 intro pins s σ H D I h
 refine wpAny_Assign_stores (thn (he pins s σ H _ I h) fun v s1 ⟨x,H1,I1,r1,q1⟩=>?_) hs hw
 rw [h1]
 exact thn (hg pins s1 σ H1 x v _ I1 r1 q1) fun _ s2 q=>q
end
section
variable {X:Cx} {pos:Pos}
end
structure It where
 go:Nat->Hp->Prop
 yld:Nat->Hp->V->Hp->Prop
 stop:Nat->Hp->Prop
noncomputable def b6 (X:Cx) (pins:List (Addr × Obj)) (H:Hp) (b:Addr):Prop :=
 H b=none/\b≠X.env.locals/\b ∉ X.fs/\(b∈X.ex\/X.s₀.heap.objs.size<=b)/\(∀ x c,X.env.cells.lookup x=some c->c≠b)/\∀ p∈X.pn++pins,p.1≠b
theorem Inv.eT {X:Cx} {pins:List (Addr × Obj)} {σ:St} {H H':Hp} {s:Shared} {b:Addr} (I:Inv X pins σ H s) (hb:s.heap.objs.size<=b) (hn:H' b=none):b6 X pins H' b:=by
 refine ⟨hn,Nat.ne_of_gt (Nat.lt_of_lt_of_le I.lt hb),I.wX hb,.inr (Nat.le_trans I.sz hb),fun x c e z=>?_,fun p hp z=>?_⟩
 ·obtain ⟨v,q⟩:=I.cell x c e
  exact absurd (Nat.lt_of_lt_of_le q.lt (by rw [z]; exact hb)) (Nat.lt_irrefl _)
 ·exact absurd (Nat.lt_of_lt_of_le (Heap.lt_size (I.pin p hp).1) (by rw [z]; exact hb)) (Nat.lt_irrefl _)
structure Turn (P:Program) (w:World) (K:PySem.W.Frag) (tg:Expr) (J:It) (fp:List Addr) (it:Addr) (tn:Nat->Heap->Prop):Prop where
 mem:it∈fp
 obj:∀ i h,tn i h->∀ b∈fp,∃ o,h.get? b=some o/\∀ v,o.data≠.cell v
 keep:∀ i h h',tn i h->(∀ b∈fp,∀ o,h.get? b=some o->h'.get? b=some o)->tn i h'
 item:∀ (X:Cx),X.prog=P->X.w=w->X.K=K->X.calm=true->∀ (i:Nat) (pins:List (Addr × Obj)) (s:Shared) (σ:St) (H:Hp) (E:Value->Shared->Prop),Inv X pins σ H s->(∀ b∈fp,b6 X pins H b)->tn i s.heap->J.go i H ->
  wpAny (model P w) X.A (pyNext (.ref it)) (fun r s1=>∃ u,r=some u /\
   wpAny (model P w) X.A (letOwnedTupleGo tg (.ref it) u) (fun _ s2=>∃ x H',Inv X pins σ H' s2/\RelV x u/\J.yld i H x H'/\tn (i+1) s2.heap/\∀ b∈fp,H' b=none) E s1) E s
 done:∀ (X:Cx),X.prog=P->X.w=w->X.K=K->X.calm=true->∀ (i:Nat) (pins:List (Addr × Obj)) (s:Shared) (σ:St) (H:Hp) (E:Value->Shared->Prop),Inv X pins σ H s->(∀ b∈fp,b6 X pins H b)->tn i s.heap->J.stop i H ->
  wpAny (model P w) X.A (pyNext (.ref it)) (fun r s1=>r=none/\Inv X pins σ H s1) E s
 self:∀ (A:Around) (i:Nat) (s:Shared) (Q:Value->Shared->Prop) (E:Value->Shared->Prop),tn i s.heap->Q (.ref it) s->wpAny (model P w) A (pyIter (.ref it)) Q E s
abbrev TI:=St->Hp->(It->Hp->Prop)->Prop
noncomputable def PIE (X:Cx) (pins:List (Addr × Obj)) (σ:St) (tg:Expr) (R:It->Hp->Prop) (itv:Value) (s2:Shared):Prop :=
 ∃ (it:Addr) (fp:List Addr) (tn:Nat->Heap->Prop) (J:It) (H':Hp),itv=.ref it/\Inv X pins σ H' s2/\Turn X.prog X.w X.K tg J fp it tn/\tn 0 s2.heap/\(∀ b∈fp,b6 X pins H' b)/\R J H'
noncomputable def PI (X:Cx) (tg iter:Expr) (wi:TI):Prop :=
 ∀ (pins:List (Addr × Obj)) (s:Shared) (σ:St) (H:Hp) (R:It->Hp->Prop),Inv X pins σ H s->wi σ H R ->
  wpAny (model X.prog X.w) X.A (eval iter X.env) (fun v s1=>wpAny (model X.prog X.w) X.A (pyIter v) (PIE X pins σ tg R) X.xe s1) X.xe s
theorem g7 {M:Model} {A:Around} {E:Value->Shared->Prop} {s:Shared} {tg:Expr} {it:Addr} {u:Value} {o:Obj} {n:String} {vs:Array Value} {Q:Unit->Shared->Prop} (ho:s.heap.get? it=some o) (hc:o.cls=.type n) (hd:o.data=.fields vs)
  (hn:["enumerate","zip","dict_itemiterator","dict_reverseitemiterator","odict_iterator","itertools.zip_longest","itertools.pairwise"].contains n=false) (hQ:Q () s):wpAny M A (letOwnedTupleGo tg (.ref it) u) Q E s:=by
 unfold letOwnedTupleGo
 cases tg <;> first
  | exact wpAny_pure hQ
  | (cases u <;> first
    | exact wpAny_pure hQ
    | (
      refine wpAny_bind (wpAny_load ho ?_)
      rw [hc,hd]
      show wpAny M A (if (["enumerate","zip","dict_itemiterator","dict_reverseitemiterator","odict_iterator","itertools.zip_longest","itertools.pairwise"].contains n&&vs[0]?==some (rawInt _))=true then _ else _) Q E s
      rw [if_neg (by intro h; rw [hn,Bool.false_and] at h; cases h)]
      exact wpAny_pure hQ))
noncomputable def Itl (K:PySem.W.Frag) (a:Addr):It :=
 ⟨fun i H=>∃ xs x,SqL K H a xs/\xs[i]?=some x,fun i H x H'=>H'=H/\∀ xs,SqL K H a xs->xs[i]?=some x,fun i H=>∃ xs,SqL K H a xs/\xs.length<=i⟩
noncomputable def Itt (K:PySem.W.Frag) (a:Addr):It :=
 ⟨fun i H=>∃ xs x,SqT K H a xs/\xs[i]?=some x,fun i H x H'=>H'=H/\∀ xs,SqT K H a xs->xs[i]?=some x,fun i H=>∃ xs,SqT K H a xs/\xs.length<=i⟩
noncomputable def Itr (lo:Int) (n:Nat):It:=⟨fun i _=>i < n,fun i H x H'=>H'=H/\x=.int (lo+i),fun i _=>n<=i⟩
theorem Bh {P:Program} {w:World} {K:PySem.W.Frag} {tg:Expr} (a it:Addr):Turn P w K tg (Itl K a) [it] it (fun i h=>h.IsListIter it a i) where
 mem:=by simp
 obj:=fun i h st b hb=>by
  have e:b=it:=by simpa using hb
  subst e
  obtain ⟨o,e,c,d⟩:=st
  exact ⟨o,e,fun v z=>by rw [d] at z; cases z⟩
 keep:=fun i h h' st k=>st.at fun o e=>k it (by simp) o e
 item:=by
  intro X hP hw hK hc i pins s σ H E I hf st hg
  subst hP hw hK
  obtain ⟨xs,x,hq,hx⟩:=hg
  obtain ⟨its,rv,p,hz⟩:=I.list hq
  obtain ⟨u,hu,ru⟩:=rv.get hx
  obtain ⟨f0,f1,f2,f3,f4,f5⟩:=hf it (by simp)
  refine wpAny_pyNext_list_item st p.isList (x:=u) (by simpa using hu) fun h' st' sb=>?_
  have I1:Inv X pins σ H { s with heap:=h' }:=I.turned (t':=s.toks) (fun b o hb e=>(sb.2 b hb).trans e) f0 f1 f3 f4 f5
  obtain ⟨o,e,c,d⟩:=id st'
  exact ⟨u,rfl,g7 (s:={ s with heap:=h' }) e c d (by decide) ⟨x,H,I1,ru,⟨rfl,fun ys hy=>by rw [I.iR hy hq]; exact hx⟩,st',fun b hb=>(hf b hb).1⟩⟩
 done:=by
  intro X hP hw hK hc i pins s σ H E I hf st hg
  subst hP hw hK
  obtain ⟨xs,hq,hx⟩:=hg
  obtain ⟨its,rv,p,hz⟩:=I.list hq
  obtain ⟨f0,f1,f2,f3,f4,f5⟩:=hf it (by simp)
  have hl:=rv.length
  exact wpAny_pyNext_list_end (I.ok.hd hc) st p.isList (by simp; omega) fun h' eb=>⟨rfl,I.turned (t':=s.toks) (fun b o hb e=>eb b o hb e) f0 f1 f3 f4 f5⟩
 self:=fun _ _ _ _ _ st h=>wpAny_pyIter_listiter st h
theorem u5 {P:Program} {w:World} {K:PySem.W.Frag} {tg:Expr} (a it:Addr):Turn P w K tg (Itt K a) [it] it (fun i h=>h.IsTupleIter it a i) where
 mem:=by simp
 obj:=fun i h st b hb=>by
  have e:b=it:=by simpa using hb
  subst e
  obtain ⟨o,e,c,d⟩:=st
  exact ⟨o,e,fun v z=>by rw [d] at z; cases z⟩
 keep:=fun i h h' st k=>st.at fun o e=>k it (by simp) o e
 item:=by
  intro X hP hw hK hc i pins s σ H E I hf st hg
  subst hP hw hK
  obtain ⟨xs,x,hq,hx⟩:=hg
  obtain ⟨its,rv,p,hz⟩:=I.tuple hq
  obtain ⟨u,hu,ru⟩:=rv.get hx
  obtain ⟨f0,f1,f2,f3,f4,f5⟩:=hf it (by simp)
  refine wpAny_pyNext_tuple_item st (show s.heap.IsTuple a its.toArray from p) (x:=u) (by simpa using hu) fun h' st' sb=>?_
  have I1:Inv X pins σ H { s with heap:=h' }:=I.turned (t':=s.toks) (fun b o hb e=>(sb.2 b hb).trans e) f0 f1 f3 f4 f5
  obtain ⟨o,e,c,d⟩:=id st'
  exact ⟨u,rfl,g7 (s:={ s with heap:=h' }) e c d (by decide) ⟨x,H,I1,ru,⟨rfl,fun ys hy=>by rw [I.gZ hy hq]; exact hx⟩,st',fun b hb=>(hf b hb).1⟩⟩
 done:=by
  intro X hP hw hK hc i pins s σ H E I hf st hg
  subst hP hw hK
  obtain ⟨xs,hq,hx⟩:=hg
  obtain ⟨its,rv,p,hz⟩:=I.tuple hq
  obtain ⟨f0,f1,f2,f3,f4,f5⟩:=hf it (by simp)
  have hl:=rv.length
  exact wpAny_pyNext_tuple_end (I.ok.hd hc) st (show s.heap.IsTuple a its.toArray from p) (by simp; omega) fun h' eb=>⟨rfl,I.turned (t':=s.toks) (fun b o hb e=>eb b o hb e) f0 f1 f3 f4 f5⟩
 self:=fun _ _ _ _ _ st h=>wpAny_pyIter_tupleiter st h
theorem zK {P:Program} {w:World} {K:PySem.W.Frag} {tg:Expr} (it:Addr) (lo:Int) (n:Nat):Turn P w K tg (Itr lo n) [it] it (fun i h=>IsRangeIter h it (lo+(i:Nat) * 1) ((n:Int) - (i:Nat)) 1) where
 mem:=by simp
 obj:=fun i h st b hb=>by
  have e:b=it:=by simpa using hb
  subst e
  exact ⟨_,st,fun v z=>by
   have z':Data.fields _=Data.cell v:=z
   cases z'⟩
 keep:=fun i h h' st k=>k it (by simp) _ st
 item:=by
  intro X hP hw hK hc i pins s σ H E I hf st hg
  subst hP hw hK
  obtain ⟨f0,f1,f2,f3,f4,f5⟩:=hf it (by simp)
  have W:=Walks.range (prog:=X.prog) (w:=X.w) (I.ok.hd hc) it lo 1 n
  refine W.item i s _ _ hg st fun v h' tk hv st' kk=>?_
  obtain ⟨t,rfl⟩:=hv
  have I1:Inv X pins σ H { s with heap:=h',toks:=tk }:=I.turned (fun b o hb e=>kk b o (by simpa using hb) e) f0 f1 f3 f4 f5
  refine ⟨_,rfl,g7 (s:={ s with heap:=h',toks:=tk }) (n:="range_iterator") st' rfl rfl (by decide) ⟨.int (lo+i),H,I1,⟨t,?_⟩,⟨rfl,rfl⟩,st',fun b hb=>(hf b hb).1⟩⟩
  rw [Int.mul_one]
 done:=by
  intro X hP hw hK hc i pins s σ H E I hf st hg
  subst hP hw hK
  obtain ⟨f0,f1,f2,f3,f4,f5⟩:=hf it (by simp)
  exact wpAny_pyNext_range_end (I.ok.hd hc) st (by have:n<=i:=hg; omega) fun h' eb=>⟨rfl,I.turned (t':=s.toks) (fun b o hb e=>eb b o hb e) f0 f1 f3 f4 f5⟩
 self:=fun _ _ _ _ _ st h=>wpAny_pyIter_rangeiter st h
end L2
namespace L2
open PySem PySem.Spec PyProof.Rows
section
variable {X:Cx} {tg:Expr}
theorem ng {pins:List (Addr × Obj)} {σ:St} {H:Hp} {s:Shared} {R:It->Hp->Prop} {E:Value->Shared->Prop} {lo hi:Int} {t u v:Tok} {tk:Nat} (I:Inv X pins σ H s) (h1:-(2 ^ 62)<=lo) (h2:lo < 2 ^ 62) (h3:-(2 ^ 62)<=hi) (h4:hi < 2 ^ 62)
  (q:R (Itr lo (hi - lo).toNat) H):wpAny (model X.prog X.w) X.A (pyIter (.ref s.heap.objs.size)) (PIE X pins σ tg R) E { s with heap:=s.heap.push { cls:=.type "range",data:=.fields #[.int lo t,.int hi u,.int 1 v] },toks:=tk }:=by
 refine wpAny_pyIter_range (IsRange.new ..) (small_one h1 h2 h3 h4) ?_
 have I1:Inv X pins σ H { s with heap:=s.heap.push { cls:=.type "range",data:=.fields #[.int lo t,.int hi u,.int 1 v] },toks:=tk }:=I.kept fun b o e=>Heap.get?_push_of_some _ e
 refine ⟨(s.heap.push { cls:=.type "range",data:=.fields #[.int lo t,.int hi u,.int 1 v] }).objs.size,[(s.heap.push { cls:=.type "range",data:=.fields #[.int lo t,.int hi u,.int 1 v] }).objs.size],_,_,H,rfl,
  I1.kept (t':=tk) fun b o e=>Heap.get?_push_of_some _ e,zK _ lo (hi - lo).toNat,?_,fun b hb=>?_,q⟩
 ·have e1:lo+((0:Nat):Int) * 1=lo:=by simp
  have e2:(((hi - lo).toNat:Nat):Int) - ((0:Nat):Int)=Builtin.Range.rangeSize lo hi 1:=by rw [rangeSize_one]; split <;> omega
  show IsRangeIter _ _ (lo+((0:Nat):Int) * 1) ((((hi - lo).toNat:Nat):Int) - ((0:Nat):Int)) 1
  rw [e1,e2]
  exact Heap.get?_push_size _ rfl
 ·have e:b=(s.heap.push { cls:=.type "range",data:=.fields #[.int lo t,.int hi u,.int 1 v] }).objs.size:=by simpa using hb
  subst e
  exact I1.eT (Nat.le_refl _) (I1.hok.fresh (Nat.le_refl _))
noncomputable def Dp (ta:TA):TI:=fun σ H R=>ta σ H fun vs H1=>∃ j:Int,vs=[.int j]/\-(2 ^ 62)<=j/\j < 2 ^ 62/\R (Itr 0 j.toNat) H1
noncomputable def xX (ta:TA):TI:=fun σ H R=>ta σ H fun vs H1=>∃ i j:Int,vs=[.int i,.int j]/\(-(2 ^ 62)<=i/\i < 2 ^ 62/\-(2 ^ 62)<=j/\j < 2 ^ 62)/\R (Itr i (j - i).toNat) H1
theorem AA {a:Expr} {ta:TA} {p pos:Pos} (hg:Gl X "range") (hm:X.mg "range" = none) (ha:PA X [a] ta) (hs:starEach [a] X.env=[(false,eval a X.env)]:=by rfl):PI X tg (.Call (.Name "range" p) [a] [] pos) (Dp ta):=by
 intro pins s σ H R I h
 refine Call_ (cu I hg hm boot_range (PyProof.Rows.callWith_type1 (thn (ha pos pins s σ H _ I h) fun us s1 ⟨vs,H1,I1,r1,q1⟩=>?_) hs rfl))
 obtain ⟨j,e,q1,q2,q⟩:=q1
 subst e
 cases r1 with
 | cons r rr =>
  cases rr
  obtain ⟨t,rfl⟩:=r
  exact call_range_1 (ng I1 (by omega) (by omega) q1 q2 (by simpa using q))
theorem DY {a b:Expr} {ta:TA} {p pos:Pos} (hg:Gl X "range") (hm:X.mg "range" = none) (ha:PA X [a,b] ta) (hs:starEach [a,b] X.env=[(false,eval a X.env),(false,eval b X.env)]:=by rfl) (hs2:starEach [b] X.env=[(false,eval b X.env)]:=by rfl) :
  PI X tg (.Call (.Name "range" p) [a,b] [] pos) (xX ta):=by
 intro pins s σ H R I h
 refine Call_ (cu I hg hm boot_range (PyProof.Rows.callWith_type1 (thn (ha pos pins s σ H _ I h) fun us s1 ⟨vs,H1,I1,r1,q1⟩=>?_) (by rw [hs,hs2]) (by rw [hs2]; rfl)))
 obtain ⟨i,j,e,⟨q1,q2,q3,q4⟩,q⟩:=q1
 subst e
 cases r1 with
 | cons r rr =>
  cases rr with
  | cons r' rr =>
   cases rr
   obtain ⟨t,rfl⟩:=r
   obtain ⟨t',rfl⟩:=r'
   exact call_range_2 (ng I1 q1 q2 q3 q4 q)
noncomputable def mD (wi:TI) (g:TG) (tb:TS):TS:=fun D σ H=>wi σ H fun J H1=>∃ W:Nat->Nat->St->Hp->Prop,(∃ m,W 0 m σ H1)/\∀ i m σ H,W i m σ H ->
 (J.stop i H/\D.nx σ H)\/(J.go i H/\∃ N:St->Hp->Prop,(∀ σ' H',N σ' H'->∃ m',m' < m/\W (i+1) m' σ' H')/\∀ x H',J.yld i H x H'->g x σ H' fun σ2 H2=>tb { D with nx:=N,ct:=N,bk:=D.nx } σ2 H2)
noncomputable def fX (fp:List Addr) (h:Heap):List (Addr × Obj):=fp.filterMap fun b=>(h.get? b).map fun o=>(b,o)
theorem iO {fp:List Addr} {h:Heap} {b:Addr} {o:Obj} (hb:b∈fp) (e:h.get? b=some o):(b,o)∈fX fp h:=List.mem_filterMap.mpr ⟨b,hb,by rw [e]; rfl⟩
theorem CS {fp:List Addr} {h:Heap} {p:Addr × Obj} (hp:p∈fX fp h):p.1∈fp/\h.get? p.1=some p.2:=by
 obtain ⟨b,hb,e⟩:=List.mem_filterMap.mp hp
 cases q:h.get? b with
 | none=>rw [q] at e; cases e
 | some o =>
  rw [q] at e
  have e':(b,o)=p:=Option.some.inj e
  subst e'
  exact ⟨hb,q⟩
theorem Inv.pinned {pins:List (Addr × Obj)} {σ:St} {H:Hp} {s:Shared} {fp:List Addr} (I:Inv X pins σ H s) (hf:∀ b∈fp,b6 X pins H b) (ho:∀ b∈fp,∃ o,s.heap.get? b=some o/\∀ v,o.data≠.cell v):Inv X (pins++fX fp s.heap) σ H s :=
 I.qH fun p hp=>(List.mem_append.mp hp).elim (fun z=>I.pin p (List.mem_append_right _ z)) fun z=>by
  obtain ⟨hb,e⟩:=CS z
  obtain ⟨f0,f1,f2,_⟩:=hf p.1 hb
  obtain ⟨o,e',d⟩:=ho p.1 hb
  rw [e] at e'; cases e'
  exact ⟨e,f0,f1,f2,d⟩
theorem Inv.ic {pins pl:List (Addr × Obj)} {σ:St} {H:Hp} {s:Shared} (I:Inv X (pins++pl) σ H s):Inv X pins σ H s:=I.qH fun p hp=>I.pin p (List.mem_append_right _ (List.mem_append_left _ hp))
theorem vf {iter:Expr} {body:List Stmt} {wi:TI} {g:TG} {tb:TS} {pos:Pos} (hp:PassesOwn (model X.prog X.w) X.A X.env X.xe) (hc:X.calm=true) (hi:PI X tg iter wi) (hg:PG X tg g) (hb:PSs X body tb)
  (hs:∀ x,foldedSetIterable iter X.env x=pure x:=by intro _; rfl):PS X (.For tg iter body [] pos) (mD wi g tb):=by
 intro pins s σ H D I h
 refine wpAny_For (thn (hi pins s σ H _ I h) fun v s1 h1=>thn h1 fun itv s2 h2=>?_) hs
 obtain ⟨it,fp,tn,J,H2,e,I2,T,st2,f2,W,⟨m0,w0⟩,turn⟩:=h2
 subst e
 have stat:∀ {H':Hp},(∀ b∈fp,H' b=none)->∀ b∈fp,b6 X pins H' b:=fun hn b hb=>⟨hn b hb,(f2 b hb).2⟩
 refine codeAny_forLoop_any (fun n s'=>∃ i σ' H',Inv X pins σ' H' s'/\tn i s'.heap/\(∀ b∈fp,H' b=none)/\W i n σ' H') ?_ m0 ⟨0,σ,H2,I2,st2,fun b hb=>(f2 b hb).1,w0⟩
 rintro n s3 ⟨i,σ3,H3,I3,st3,fr3,w3⟩
 rcases turn i n σ3 H3 w3 with ⟨stop,qn⟩|⟨go,N,hN,step⟩
 ·refine wpAny_passesOwn hp (thn (T.done X rfl rfl rfl hc i pins s3 σ3 H3 X.xe I3 (stat fr3) st3 stop) fun r s4 ⟨hr,I4⟩=>?_)
  subst hr
  exact wpAny_execs_nil ⟨σ3,H3,I4,qn⟩
 ·refine wpAny_passesOwn hp (thn (T.item X rfl rfl rfl hc i pins s3 σ3 H3 X.xe I3 (stat fr3) st3 go) fun r s4 ⟨u,hr,h4⟩=>?_)
  subst hr
  refine wpAny_passesOwn hp (thn h4 fun _ s5 ⟨x,H5,I5,r5,y5,st5,fr5⟩=>?_)
  have I5':=I5.pinned (stat fr5) (T.obj _ _ st5)
  refine wpAny_passesOwn hp (thn (hg _ s5 σ3 H5 x u _ I5' r5 (step x H5 y5)) fun _ s6 ⟨σ6,H6,I6,q6⟩=>?_)
  refine wpAny_passesOwn hp (thn (hb _ s6 σ6 H6 _ I6 q6) fun f s7 q7=>?_)
  have again:∀ {σ7:St} {H7:Hp},Inv X (pins++fX fp s5.heap) σ7 H7 s7->N σ7 H7->∃ m,m < n/\∃ i σ' H',Inv X pins σ' H' s7/\tn i s7.heap/\(∀ b∈fp,H' b=none)/\W i m σ' H':=fun {σ7 H7} I7 n7=>by
   obtain ⟨m',hm,w7⟩:=hN σ7 H7 n7
   refine ⟨m',hm,i+1,σ7,H7,I7.ic,T.keep _ _ _ st5 fun b hb o e=>(I7.pin (b,o) (List.mem_append_right _ (List.mem_append_right _ (iO hb e)))).1,fun b hb=>?_,w7⟩
   obtain ⟨o,e,d⟩:=T.obj _ _ st5 b hb
   exact (I7.pin (b,o) (List.mem_append_right _ (List.mem_append_right _ (iO hb e)))).2.1
  cases f with
  | next=>obtain ⟨σ7,H7,I7,n7⟩:=q7; exact again I7 n7
  | cont=>obtain ⟨σ7,H7,I7,n7⟩:=q7; exact again I7 n7
  | brk=>obtain ⟨σ7,H7,I7,q7⟩:=q7; exact ⟨σ7,H7,I7.ic,q7⟩
  | ret v=>obtain ⟨x7,σ7,H7,I7,r7,q7⟩:=q7; exact ⟨x7,σ7,H7,I7.ic,r7,q7⟩
end
end L2
namespace L2
open PySem PySem.Spec PyProof.Rows
abbrev R2:=V->V->Hp->VK->Prop
noncomputable def OpR (X:Cx) (f:Value->Value->Sem Value) (r:R2):Prop :=
 ∀ (pins:List (Addr × Obj)) (s:Shared) (σ:St) (H:Hp) (x y:V) (v u:Value) (Q:VK),Inv X pins σ H s->RelV x v->RelV y u->r x y H Q ->
  wpAny (model X.prog X.w) X.A (f v u) (EP X pins σ Q) X.xe s
noncomputable def UnR (X:Cx) (f:Value->Sem Value) (r:V->Hp->VK->Prop):Prop :=
 ∀ (pins:List (Addr × Obj)) (s:Shared) (σ:St) (H:Hp) (x:V) (v:Value) (Q:VK),Inv X pins σ H s->RelV x v->r x H Q ->
  wpAny (model X.prog X.w) X.A (f v) (EP X pins σ Q) X.xe s
noncomputable def bI (X:Cx) (f:Value) (r:List V->Hp->VK->Prop):Prop :=
 ∀ (pins:List (Addr × Obj)) (s:Shared) (σ:St) (H:Hp) (xs:List V) (us:List Value) (Q:VK),Inv X pins σ H s->Vals xs us->r xs H Q ->
  wpAny (model X.prog X.w) X.A (call f us) (EP X pins σ Q) X.xe s
noncomputable def mX (X:Cx) (r:V->Hp->(Bool->Hp->Prop)->Prop):Prop :=
 ∀ (pins:List (Addr × Obj)) (s:Shared) (σ:St) (H:Hp) (x:V) (v:Value) (Q:Bool->Hp->Prop),Inv X pins σ H s->RelV x v->r x H Q ->
  wpAny (model X.prog X.w) X.A (truthy v) (TP X pins σ Q) X.xe s
noncomputable def tOp (r:R2) (ta tb:TE):TE:=fun σ H Q=>ta σ H fun x H1=>tb σ H1 fun y H2=>r x y H2 Q
noncomputable def tUn (r:V->Hp->VK->Prop) (ta:TE):TE:=fun σ H Q=>ta σ H fun x H1=>r x H1 Q
noncomputable def rI (C:Int->Int->Prop) (g:Int->Int->V):R2:=fun x y H Q=>∃ i j,x=.int i/\y=.int j/\C i j/\Q (g i j) H
noncomputable def rI0 (g:Int->Int->V):R2:=fun x y H Q=>∃ i j,x=.int i/\y=.int j/\Q (g i j) H
noncomputable def rU (g:Int->V):V->Hp->VK->Prop:=fun x H Q=>∃ i,x=.int i/\Q (g i) H
section
variable {X:Cx} {a b c:Expr} {ta tb tc:TE} {pos:Pos}
theorem jE (ha:PE X a ta) (hb:PE X b tb) {pins:List (Addr × Obj)} {s:Shared} {σ:St} {H:Hp} {R:V->V->Hp->Prop} (I:Inv X pins σ H s)
  (h:ta σ H fun x H1=>tb σ H1 fun y H2=>R x y H2) {Q:Value->Shared->Prop} {f:Value->Value->Sem Value}
  (hf:∀ v u s2 x y H2,Inv X pins σ H2 s2->RelV x v->RelV y u->R x y H2->wpAny (model X.prog X.w) X.A (f v u) Q X.xe s2) :
  wpAny (model X.prog X.w) X.A (eval a X.env) (fun v s₁=>wpAny (model X.prog X.w) X.A (eval b X.env) (fun u s₂=>wpAny (model X.prog X.w) X.A (f v u) Q X.xe s₂) X.xe s₁) X.xe s:=by
 refine thn (ha pins s σ H _ I h) fun v s1 ⟨x,H1,I1,r1,q1⟩=>?_
 refine thn (hb pins s1 σ H1 _ I1 q1) fun u s2 ⟨y,H2,I2,r2,q2⟩=>?_
 exact hf v u s2 x y H2 I2 r1 r2 q2
theorem xD {op:Operator} {r:R2} (ho:OpR X (binaryOp op) r) (ha:PE X a ta) (hb:PE X b tb):PE X (.BinOp a op b pos) (tOp r ta tb):=by
 intro pins s σ H Q I h
 exact wpAny_BinOp (jE ha hb I h fun v u s2 x y H2 I2 rx ry q=>ho pins s2 σ H2 x y v u Q I2 rx ry q)
theorem BZ {op:UnaryOp} {r:V->Hp->VK->Prop} (ho:UnR X (unaryOp op) r) (ha:PE X a ta):PE X (.UnaryOp op a pos) (tUn r ta):=by
 intro pins s σ H Q I h
 exact UnaryOp_ (thn (ha pins s σ H _ I h) fun v s1 ⟨x,H1,I1,r1,q1⟩=>ho pins s1 σ H1 x v Q I1 r1 q1)
theorem opI {f:Value->Value->Sem Value} {C:Int->Int->Prop} {g:Int->Int->Int}
  (rule:∀ (i j:Int) (t u:Tok) (s:Shared) (Q:Value->Shared->Prop) (E:Value->Shared->Prop),C i j->Q (.int (g i j) s.toks) { s with toks:=s.toks+1 }->wpAny (model X.prog X.w) X.A (f (.int i t) (.int j u)) Q E s) :
  OpR X f (rI C fun i j=>.int (g i j)):=by
 intro pins s σ H x y v u Q I rx ry h
 obtain ⟨i,j,rfl,rfl,hc,q⟩:=h
 obtain ⟨t,rfl⟩:=rx
 obtain ⟨t',rfl⟩:=ry
 exact rule i j t t' s _ _ hc ⟨.int (g i j),H,I.tok _,⟨_,rfl⟩,q⟩
theorem nS {f:Value->Value->Sem Value} {g:Int->Int->Int}
  (rule:∀ (i j:Int) (t u:Tok) (s:Shared) (Q:Value->Shared->Prop) (E:Value->Shared->Prop),Q (.int (g i j) s.toks) { s with toks:=s.toks+1 }->wpAny (model X.prog X.w) X.A (f (.int i t) (.int j u)) Q E s) :
  OpR X f (rI0 fun i j=>.int (g i j)):=by
 intro pins s σ H x y v u Q I rx ry h
 obtain ⟨i,j,rfl,rfl,q⟩:=h
 obtain ⟨t,rfl⟩:=rx
 obtain ⟨t',rfl⟩:=ry
 exact rule i j t t' s _ _ ⟨.int (g i j),H,I.tok _,⟨_,rfl⟩,q⟩
theorem iQ {f:Value->Value->Sem Value} {g:Int->Int->Bool}
  (rule:∀ (i j:Int) (t u:Tok) (s:Shared) (Q:Value->Shared->Prop) (E:Value->Shared->Prop),Q (.bool (g i j)) s->wpAny (model X.prog X.w) X.A (f (.int i t) (.int j u)) Q E s) :
  OpR X f (rI0 fun i j=>.bl (g i j)):=by
 intro pins s σ H x y v u Q I rx ry h
 obtain ⟨i,j,rfl,rfl,q⟩:=h
 obtain ⟨t,rfl⟩:=rx
 obtain ⟨t',rfl⟩:=ry
 exact rule i j t t' s _ _ ⟨.bl (g i j),H,I,rfl,q⟩
noncomputable def Ce (i j:Int):Prop:=0 < j/\j < 1073741824
noncomputable def Al (i j:Int):Prop:=0<=j/\j<=1000000/\i.natAbs < 2 ^ 64
noncomputable def k8 (i j:Int):Prop:=(-(2 ^ 64) < i/\i < 2 ^ 64)\/(-(2 ^ 64) < j/\j < 2 ^ 64)
theorem k8.ok {i j:Int} (h:k8 i j):IntMulOk i j:=by
 rcases h with ⟨h1,h2⟩|⟨h1,h2⟩
 ·exact .of_left (intBits_le_64 h1 h2)
 ·exact .of_right (intBits_le_64 h1 h2)
theorem uu:OpR X (binaryOp .Add) (rI0 fun i j=>.int (i+j)):=nS fun _ _ _ _ _ _ _ q=>add_int q
theorem zh:OpR X (binaryOp .Sub) (rI0 fun i j=>.int (i - j)):=nS fun _ _ _ _ _ _ _ q=>sub_int q
theorem Di:OpR X (binaryOp .Mult) (rI k8 fun i j=>.int (i * j)):=opI fun _ _ _ _ _ _ _ hc q=>mul_int q hc.ok
theorem u_:OpR X (binaryOp .FloorDiv) (rI Ce fun i j=>.int (i / j)):=opI fun i j _ _ _ _ _ hc q=>by
 have h1:(0:Int) < j:=hc.1
 have h2:j < 1073741824:=hc.2
 exact floordiv_int (by omega) (by rw [Int.fdiv_eq_ediv_of_nonneg i (by omega)]; exact q) (.inl (PyProof.noPylong_small (by omega)))
theorem uP:OpR X (binaryOp .Mod) (rI (fun _ j=>0 < j) fun i j=>.int (i % j)):=opI fun i j _ _ _ _ _ hc q=>by
 have h1:(0:Int) < j:=hc
 exact mod_int' (by omega) (by rw [Int.fmod_eq_emod_of_nonneg i (by omega)]; exact q)
theorem uz:OpR X (binaryOp .Pow) (rI Al fun i j=>.int (i ^ j.toNat)):=opI fun _ _ _ _ _ _ _ hc q=>pow_int_small hc.1 hc.2.1 hc.2.2 q
theorem unI {f:Value->Sem Value} {g:Int->Int}
  (rule:∀ (i:Int) (t:Tok) (s:Shared) (Q:Value->Shared->Prop) (E:Value->Shared->Prop),Q (.int (g i) s.toks) { s with toks:=s.toks+1 }->wpAny (model X.prog X.w) X.A (f (.int i t)) Q E s) :
  UnR X f (rU fun i=>.int (g i)):=by
 intro pins s σ H x v Q I rx h
 obtain ⟨i,rfl,q⟩:=h
 obtain ⟨t,rfl⟩:=rx
 exact rule i t s _ _ ⟨.int (g i),H,I.tok _,⟨_,rfl⟩,q⟩
theorem CH:UnR X (unaryOp .USub) (rU fun i=>.int (-i)):=unI fun _ _ _ _ _ q=>neg_int q
end
noncomputable def mG:V->V->Bool
 | .non,.non=>true|.non,.int _=>true|.int _,.non=>true|.non,.bl _=>true|.bl _,.non=>true|.non,.str _=>true|.str _,.non=>true
 | .int _,.int _=>true|.bl _,.bl _=>true|.str _,.str _=>true|.byt _,.byt _=>true
 | .int _,.str _=>true|.str _,.int _=>true|.bl _,.str _=>true|.str _,.bl _=>true
 | _,_=>false
noncomputable def rNe:R2:=fun x y H Q=>mG x y=true/\Q (.bl (!decide (x=y))) H
theorem lD {i j:Int}:decide (V.int i=V.int j)=(i==j):=by
 rw [Bool.eq_iff_iff]
 simp
theorem rA {i j:Bool}:decide (V.bl i=V.bl j)=(i==j):=by
 rw [Bool.eq_iff_iff]
 simp
theorem mV {i j:Str}:decide (V.str i=V.str j)=(i==j):=by
 rw [Bool.eq_iff_iff]
 simp
theorem Eu {i j:Array UInt8}:decide (V.byt i=V.byt j)=(i.toList==j.toList):=by
 rw [Bool.eq_iff_iff]
 cases i
 cases j
 simp
section
variable {X:Cx} {a b c:Expr} {ta tb tc:TE} {pos:Pos}
theorem bT {pins:List (Addr × Obj)} {σ:St} {H:Hp} {s:Shared} {Q:VK} {k k':Bool} (I:Inv X pins σ H s) (q:Q (.bl k) H) (e:k=k'):EP X pins σ Q (.bool k') s:=by
 subst e
 exact ⟨.bl k,H,I,rfl,q⟩
theorem Bt:OpR X (compareOp .NotEq) rNe:=by
 intro pins s σ H x y v u Q I rx ry h
 obtain ⟨hs,q⟩:=h
 cases x with
 | non =>
  cases rx
  cases y with
  | non=>cases ry; exact PySem.EqNone.ne_none_none (bT I q (by simp))
  | bl j=>cases ry; exact PySem.EqNone.ne_none_bool (bT I q (by simp))
  | int j=>obtain ⟨t',rfl⟩:=ry; exact PySem.EqNone.ne_none_int (bT I q (by simp))
  | str j=>obtain ⟨t',rfl⟩:=ry; exact PySem.EqNone.ne_none_str (bT I q (by simp))
  | _=>exact absurd (show false=true from hs) Bool.false_ne_true
 | bl i =>
  cases rx
  cases y with
  | non=>cases ry; exact PySem.EqNone.ne_bool_none (bT I q (by simp))
  | bl j=>cases ry; exact ne_bool (bT I q (congrArg not rA))
  | str j=>obtain ⟨t',rfl⟩:=ry; exact PySem.EqMixed.ne_bool_str (bT I q (by simp))
  | _=>exact absurd (show false=true from hs) Bool.false_ne_true
 | int i =>
  obtain ⟨t,rfl⟩:=rx
  cases y with
  | non=>cases ry; exact PySem.EqNone.ne_int_none (bT I q (by simp))
  | int j=>obtain ⟨t',rfl⟩:=ry; exact ne_int (bT I q (congrArg not lD))
  | str j=>obtain ⟨t',rfl⟩:=ry; exact PySem.EqMixed.ne_int_str (bT I q (by simp))
  | _=>exact absurd (show false=true from hs) Bool.false_ne_true
 | str i =>
  obtain ⟨t,rfl⟩:=rx
  cases y with
  | non=>cases ry; exact PySem.EqNone.ne_str_none (bT I q (by simp))
  | bl j=>cases ry; exact PySem.EqMixed.ne_str_bool (bT I q (by simp))
  | int j=>obtain ⟨t',rfl⟩:=ry; exact PySem.EqMixed.ne_str_int (bT I q (by simp))
  | str j=>obtain ⟨t',rfl⟩:=ry; exact ne_str (bT I q (congrArg not mV))
  | _=>exact absurd (show false=true from hs) Bool.false_ne_true
 | byt i =>
  obtain ⟨t,rfl⟩:=rx
  cases y with
  | byt j=>obtain ⟨t',rfl⟩:=ry; exact PySem.W.ne_bytes (bT I q (congrArg not Eu))
  | _=>exact absurd (show false=true from hs) Bool.false_ne_true
 | _=>cases y <;> exact absurd (show false=true from hs) Bool.false_ne_true
theorem vC:OpR X (compareOp .Lt) (rI0 fun i j=>.bl (decide (i < j))):=iQ fun _ _ _ _ _ _ _ q=>lt_int q
theorem zd:OpR X (compareOp .LtE) (rI0 fun i j=>.bl (decide (i<=j))):=iQ fun _ _ _ _ _ _ _ q=>le_int q
theorem vp:OpR X (compareOp .Gt) (rI0 fun i j=>.bl (decide (j < i))):=iQ fun _ _ _ _ _ _ _ q=>gt_int q
theorem Dq:OpR X (compareOp .GtE) (rI0 fun i j=>.bl (decide (j<=i))):=iQ fun _ _ _ _ _ _ _ q=>ge_int q
theorem A6 {op:CmpOp} {r:R2} (ho:OpR X (compareOp op) r) (ha:PE X a ta) (hb:PE X b tb) (hm:behindInMarks op b=false):PE X (.Compare a [op] [b] pos) (tOp r ta tb):=by
 intro pins s σ H Q I h
 exact wpAny_Compare1 (jE ha hb I h fun v u s2 x y H2 I2 rx ry q=>ho pins s2 σ H2 x y v u Q I2 rx ry q) hm
noncomputable def nN (t:TE):TT:=fun σ H Q=>t σ H fun x H'=>∃ k,x=.bl k/\Q k H'
theorem uc {op:CmpOp} {r:R2} (ho:OpR X (compareOp op) r) (ha:PE X a ta) (hb:PE X b tb) (hm:behindInMarks op b=false):PT X (.Compare a [op] [b] pos) (nN (tOp r ta tb)):=by
 intro pins s σ H Q I h
 refine wpAny_isTrue_Compare1 (thn (ha pins s σ H _ I h) fun v s1 ⟨x,H1,I1,r1,q1⟩=>thn (hb pins s1 σ H1 _ I1 q1) fun u s2 ⟨y,H2,I2,r2,q2⟩ =>
  thn (ho pins s2 σ H2 x y v u _ I2 r1 r2 q2) fun c s3 ⟨z,H3,I3,r3,k,e,q3⟩=>?_) hm
 subst e
 cases r3
 exact wpAny_truthy_bool ⟨H3,I3,q3⟩
noncomputable def nT (r r':R2) (ta tb tc:TE):TE:=fun σ H Q=>ta σ H fun x H1=>tb σ H1 fun y H2=>r x y H2 fun z H3=>∃ k,z=.bl k /\
 (if k=true then tc σ H3 fun w' H4=>r' y w' H4 Q else Q (.bl false) H3)
theorem DC {op op':CmpOp} {r r':R2} (ho:OpR X (compareOp op) r) (ho':OpR X (compareOp op') r') (ha:PE X a ta) (hb:PE X b tb) (hc:PE X c tc)
  (hm:lastMarks [op,op'] [b,c]=false:=by with_unfolding_all rfl):PE X (.Compare a [op,op'] [b,c] pos) (nT r r' ta tb tc):=by
 intro pins s σ H Q I h
 refine Compare_chain (thn (ha pins s σ H _ I h) fun v s1 ⟨x,H1,I1,r1,q1⟩=>chain_link (thn (hb pins s1 σ H1 _ I1 q1) fun u s2 ⟨y,H2,I2,r2,q2⟩ =>
  thn (ho pins s2 σ H2 x y v u _ I2 r1 r2 q2) fun d s3 ⟨z,H3,I3,r3,k,e,q3⟩=>?_)) hm
 subst e
 cases r3
 refine wpAny_truthy_bool ?_
 cases k with
 | false=>exact ite_ff ⟨.bl false,H3,I3,rfl,q3⟩
 | true=>exact ite_tt (chain_last (thn (hc pins s3 σ H3 _ I3 q3) fun w' s4 ⟨z',H4,I4,r4,q4⟩=>ho' pins s4 σ H4 y z' u w' Q I4 r2 r4 q4))
theorem zg {op op':CmpOp} {r r':R2} (ho:OpR X (compareOp op) r) (ho':OpR X (compareOp op') r') (ha:PE X a ta) (hb:PE X b tb) (hc:PE X c tc)
  (hm:lastMarks [op,op'] [b,c]=false:=by with_unfolding_all rfl):PT X (.Compare a [op,op'] [b,c] pos) (nN (nT r r' ta tb tc)):=by
 intro pins s σ H Q I h
 refine isTrue_chain (thn (ha pins s σ H _ I h) fun v s1 ⟨x,H1,I1,r1,q1⟩=>test_link (thn (hb pins s1 σ H1 _ I1 q1) fun u s2 ⟨y,H2,I2,r2,q2⟩ =>
  thn (ho pins s2 σ H2 x y v u _ I2 r1 r2 q2) fun d s3 ⟨z,H3,I3,r3,k,e,q3⟩=>?_)) hm
 subst e
 cases r3
 refine wpAny_truthy_bool ?_
 cases k with
 | false =>
  obtain ⟨k',e',q'⟩:=q3
  cases e'
  exact ite_ff ⟨H3,I3,q'⟩
 | true =>
  refine ite_tt (test_last (thn (hc pins s3 σ H3 _ I3 q3) fun w' s4 ⟨z',H4,I4,r4,q4⟩=>thn (ho' pins s4 σ H4 y z' u w' _ I4 r2 r4 q4) fun d' s5 ⟨z2,H5,I5,r5,k2,e2,q5⟩=>?_))
  subst e2
  cases r5
  exact wpAny_truthy_bool ⟨H5,I5,q5⟩
noncomputable def BL (K:PySem.W.Frag) (x:V) (H:Hp) (k:Bool):Prop :=
 match x with
 | .non=>k=false
 | .bl b=>k=b
 | .int i=>k=(i != 0)
 | .str y=>y.length<=sizeLine/\k=((y.length:Int) != 0)
 | .byt y=>y.size<=sizeLine/\k=((y.size:Int) != 0)
 | .ref p=>(∃ xs,SqL K H p xs/\k=!xs.isEmpty)\/(∃ xs,SqT K H p xs/\k=!xs.isEmpty)\/∃ kvs,H p=some (.dK kvs)/\k=!kvs.isEmpty
 | _=>False
theorem vz {κ:Type} {kvs:List (κ × V)} {vs:List (κ × Value)} (r:KV kvs vs):(!vs.isEmpty)=!kvs.isEmpty:=by
 cases r <;> rfl
theorem sM {xs:List V} {its:List Value} (r:Vals xs its):(!its.toArray.isEmpty)=!xs.isEmpty:=by
 cases r <;> simp
theorem gv:(sizeLine:Nat) < 2 ^ 63:=by rw [sizeLine_eq]; decide
theorem Dj:mX X (fun x H Q=>∃ k,BL X.K x H k/\Q k H):=by
 intro pins s σ H x v Q I rx h
 obtain ⟨k,e,q⟩:=h
 have hl:=gv
 have hs:sizeLine=16777216:=sizeLine_eq
 cases x with
 | non =>
  cases rx
  have e':k=false:=e
  subst e'
  exact truthy_none ⟨H,I,q⟩
 | bl b =>
  cases rx
  have e':k=b:=e
  subst e'
  exact wpAny_truthy_bool ⟨H,I,q⟩
 | int i =>
  obtain ⟨t,rfl⟩:=rx
  have e':k=(i != 0):=e
  subst e'
  exact PySem.P.truthy_int ⟨H,I,q⟩
 | str y =>
  obtain ⟨t,rfl⟩:=rx
  obtain ⟨hy,e'⟩:y.length<=sizeLine/\k=((y.length:Int) != 0):=e
  subst e'
  exact PySem.P.truthy_str (by omega) ⟨H,I.tok _,q⟩
 | byt y =>
  obtain ⟨t,rfl⟩:=rx
  obtain ⟨hy,e'⟩:y.size<=sizeLine/\k=((y.size:Int) != 0):=e
  subst e'
  exact PySem.W.truthy_bytes (by omega) ⟨H,I.tok _,q⟩
 | ref p =>
  cases rx
  have e':(∃ xs,SqL X.K H p xs/\k=!xs.isEmpty)\/(∃ xs,SqT X.K H p xs/\k=!xs.isEmpty)\/∃ kvs,H p=some (.dK kvs)/\k=!kvs.isEmpty:=e
  rcases e' with ⟨xs,hx,e'⟩|⟨xs,hx,e'⟩|⟨kvs,hx,e'⟩
  ·subst e'
   obtain ⟨its,r,pl,hz⟩:=I.list hx
   have hlen:=r.length
   exact wpAny_truthy_list pl.isList (by simp only [List.size_toArray]; omega) ⟨H,I.tok _,by rw [sM r]; exact q⟩
  ·subst e'
   obtain ⟨its,r,pl,hz⟩:=I.tuple hx
   have hlen:=r.length
   exact truthy_tuple pl (by simp only [List.size_toArray]; omega) ⟨H,I.tok _,by rw [sM r]; exact q⟩
  ·subst e'
   obtain ⟨hz,hS,vs,r,m⟩:kvs.length<=sizeLine/\(p==sysModules)=false/\∃ vs,KV kvs vs/\s.heap.DictOf (lG X.prog X.w) p vs:=I.hok p _ hx
   have hlen:kvs.length=vs.length:=Paired.length r
   exact wpAny_truthy_dict hS m (by omega) ⟨H,I.tok _,by rw [vz r]; exact q⟩
 | _=>exact (show False from e).elim
theorem C0:OpR X (binaryOp .Add) (fun x y H Q=>∃ i j,x=.str i/\y=.str j/\i.length+j.length<=sizeLine/\Q (.str (i++j)) H):=by
 intro pins s σ H x y v u Q I rx ry h
 obtain ⟨i,j,rfl,rfl,hz,q⟩:=h
 obtain ⟨t,rfl⟩:=rx
 obtain ⟨t',rfl⟩:=ry
 exact add_str (fun t' tk=>⟨.str (i++j),H,I.tok _,⟨_,rfl⟩,q⟩) hz
theorem vals1 {x:V} {us:List Value} (r:Vals [x] us):∃ u,us=[u]/\RelV x u:=by
 cases r with
 | cons r1 r2=>cases r2; exact ⟨_,rfl,r1⟩
theorem vals2 {x y:V} {us:List Value} (r:Vals [x,y] us):∃ u w',us=[u,w']/\RelV x u/\RelV y w':=by
 cases r with
 | cons r1 r2 =>
  cases r2 with
  | cons r3 r4=>cases r4; exact ⟨_,_,rfl,r1,r3⟩
theorem ym (hc:X.calm=true):bI X (.builtin "max") (fun xs H Q=>∃ i j,xs=[.int i,.int j]/\Q (.int (if j > i then j else i)) H):=by
 intro pins s σ H xs us Q I r h
 obtain ⟨i,j,rfl,q⟩:=h
 obtain ⟨u,w',rfl,⟨t,rfl⟩,⟨t',rfl⟩⟩:=vals2 r
 refine max_two_ints (I.ok.hd hc) fun h' tk k=>⟨_,H,I.kept k,?_,q⟩
 by_cases hj:j > i
 ·rw [if_pos hj,if_pos hj]; exact ⟨_,rfl⟩
 ·rw [if_neg hj,if_neg hj]; exact ⟨_,rfl⟩
theorem z_ (hc:X.calm=true):bI X (.builtin "min") (fun xs H Q=>∃ i j,xs=[.int i,.int j]/\Q (.int (if j < i then j else i)) H):=by
 intro pins s σ H xs us Q I r h
 obtain ⟨i,j,rfl,q⟩:=h
 obtain ⟨u,w',rfl,⟨t,rfl⟩,⟨t',rfl⟩⟩:=vals2 r
 refine min_two_ints (I.ok.hd hc) fun h' tk k=>⟨_,H,I.kept k,?_,q⟩
 by_cases hj:j < i
 ·rw [if_pos hj,if_pos hj]; exact ⟨_,rfl⟩
 ·rw [if_neg hj,if_neg hj]; exact ⟨_,rfl⟩
end
end L2
namespace L2
open PySem PySem.Spec PyProof.Rows
structure ET (h:Heap) (x dx C:Addr) (mA:Str->Option Value):Prop where
 obj:h.get? x=some (PySem.W.instObj C dx)
 ns:h.Ns1 dx mA
 ne:dx≠x
section
variable {prog:Program} {w:World} {A:Around} {E:Value->Shared->Prop} {s:Shared} {K:PySem.W.Frag} {x dx C f:Addr} {mA:Str->Option Value} {name:Str} {v:Value}
end
section
variable {P:Program} {w:World} {H H':Hp} {h h':Heap} {a C dx:Addr} {fs fs':List (Str × V)}
end
structure Cls (K:PySem.W.Frag) (C:Addr):Prop where
 pg:PySem.W.plainGet K C Str.empty=true
 hd:PySem.W.hasDictIn K C=true
 po:PySem.W.plainOver K C=true
 sa:PySem.W.findIn K (.ref C) "__setattr__" = some (some (.builtin "object.__setattr__"))
structure Con (K:PySem.W.Frag) (C:Addr) (f:Str) (v:V) (u:Value):Prop where
 at_:PySem.W.findIn K (.ref C) f=some (some u)
 rel:RelV v u
 get:PySem.W.specialIn K u "__get__" = some none
 cp:PySem.W.copiedNames.contains f=false
section
variable {X:Cx} {pins:List (Addr × Obj)} {σ:St} {H:Hp} {s:Shared} {a C dx:Addr} {fs:List (Str × V)} {f:Str} {v:V} {A:Around} {E:Value->Shared->Prop}
end
section
variable {X:Cx} {o e value:Expr} {f:Str} {pos pos' tpos:Pos} {ta tv:TE}
end
section
variable {X:Cx} {pins:List (Addr × Obj)} {σ:St} {H:Hp} {s:Shared} {A:Around} {E:Value->Shared->Prop} {Q:Value->Shared->Prop} {c:Value} {b:Bool}
inductive cF (K:PySem.W.Frag) (H:Hp):V->Value->Prop where
 | non:cF K H .non (.type "NoneType")
 | bl (x:Bool):cF K H (.bl x) (.type "bool")
 | int (i:Int):cF K H (.int i) (.type "int")
 | str (x:Str):cF K H (.str x) (.type "str")
 | flt (x:UInt64):cF K H (.flt x) (.type "float")
 | lst {a:Addr} {xs:List V} (e:H a=some (.lst xs)):cF K H (.ref a) (.type "list")
 | frz {a:Addr} {o:Obj} {xs:List V} (e:H a=some (.frz o (.lst xs))):cF K H (.ref a) (.type "list")
 | tup {a:Addr} {xs:List V} (e:H a=some (.tup xs)):cF K H (.ref a) (.type "tuple")
 | dK {a:Addr} {kvs:List (Key × V)} (e:H a=some (.dK kvs)):cF K H (.ref a) (.type "dict")
 | dT {a:Addr} {kvs:List (List Key × V)} (e:H a=some (.dT kvs)):cF K H (.ref a) (.type "dict")
 | ins {a C dx:Addr} {fs:List (Str × V)} (e:H a=some (.ins C dx fs)) (cl:Cls K C) (ha:PySem.W.findIn K (.ref C) "__class__" = some (some (.builtin "object.__class__")))
   (hn:PySem.W.specialIn K (.builtin "object.__class__") "__get__" = some (some (.builtin "getset_descriptor.__get__"))) (htk:PySem.W.takesIn K (.builtin "object.__class__")=some true)
   (hm:PySem.W.mroIn K C (.type "object")=some true):cF K H (.ref a) (.ref C)
end
end L2
namespace L2
open PySem PySem.Spec PyProof.Rows
structure bF (k:Nat) (A:Around):Prop where
 hd:A.handled=none
 dp:A.depth+3 * k+5 < recursionLimit
 un:A.units+16 * k+200 < cLine
theorem bF.deeper {k:Nat} {A:Around} (r:bF (k+1) A) (env:Env):bF k (A.deeper env) :=
 ⟨r.hd,by have:=r.dp; show A.depth+1+3 * k+5 < _; omega,by have:=r.un; show A.units+3+16 * k+200 < _; omega⟩
theorem bF.depth {k:Nat} {A:Around} (r:bF k A):A.depth < recursionLimit:=by have:=r.dp; omega
theorem bF.units {k:Nat} {A:Around} (r:bF k A):A.units+64 < cLine:=by have:=r.un; omega
noncomputable def oE:TA:=fun _ H Q=>Q [] H
noncomputable def zf (ta:TE) (tr:TA):TA:=fun σ H Q=>ta σ H fun x H1=>tr σ H1 fun xs H2=>Q (x::xs) H2
section
variable {X:Cx} {e:Expr} {es:List Expr} {te:TE} {t:TA} {pos:Pos}
theorem jn:PA X [] oE:=fun _ _ _ _ H Q I h=>Calls.spliced_nil ⟨[],H,I,.nil,h⟩
theorem gn (ha:PE X e te) (hr:PA X es t) (hs:starEach (e::es) X.env=(false,eval e X.env)::starEach es X.env:=by rfl):PA X (e::es) (zf te t):=by
 intro pos pins s σ H Q I h
 rw [hs]
 show wpAny _ _ (spliced ((false,eval e X.env)::backTo pos (starEach es X.env))) _ _ s
 refine Calls.spliced_cons (thn (ha pins s σ H _ I h) fun u s1 ⟨x,H1,I1,r1,q1⟩=>?_)
 exact thn (hr pos pins s1 σ H1 _ I1 q1) fun us s2 ⟨xs,H2,I2,r2,q2⟩=>⟨x::xs,H2,I2,.cons r1 r2,q2⟩
noncomputable def xh (t:TA):TE:=fun σ H Q=>t σ H fun xs H1=>xs.length<=sizeLine/\∀ p,H1 p=none->Q (.ref p) (upd H1 p (.tup xs))
noncomputable def CW (t:TA):TE:=fun σ H Q=>t σ H fun xs H1=>xs.length<=sizeLine/\∀ p,H1 p=none->Q (.ref p) (upd H1 p (.lst xs))
theorem Bg {x1} (h:PA X es t):PE X (.Tuple es x1 pos) (xh t):=by
 intro pins s σ H Q I hq
 refine wpAny_Tuple_spliced (thn (h pos pins s σ H _ I hq) fun us s1 ⟨xs,H1,I1,r,z,q⟩=>⟨by rw [<- r.length]; exact z,?_⟩)
 have hf:H1 s1.heap.objs.size=none:=I1.hok.fresh (Nat.le_refl _)
 refine ⟨.ref s1.heap.objs.size,upd H1 s1.heap.objs.size (.tup xs),I1.laid (t':=s1.toks) (fun b u e=>Heap.get?_push_of_some _ e) (Nat.le_refl _) ?_,rfl,q _ hf⟩
 exact ⟨z,us,r,⟨_,Heap.get?_push_size _ rfl,rfl,_,rfl⟩⟩
theorem EI (h:PA X es t):PE X (.List es pos) (CW t):=by
 intro pins s σ H Q I hq
 refine wpAny_List_spliced (thn (h pos pins s σ H _ I hq) fun us s1 ⟨xs,H1,I1,r,z,q⟩=>⟨by rw [<- r.length]; exact z,?_⟩)
 have hf:H1 s1.heap.objs.size=none:=I1.hok.fresh (Nat.le_refl _)
 refine ⟨.ref s1.heap.objs.size,upd H1 s1.heap.objs.size (.lst xs),I1.laid (t':=s1.toks) (fun b u e=>Heap.get?_push_of_some _ e) (Nat.le_refl _) ?_,rfl,q _ hf⟩
 exact ⟨z,us,0,r,Heap.get?_push_size _ rfl⟩
end
abbrev Sp:=List V->Hp->VK->XK->Prop
abbrev CXT:=List Env->Hp->Shared->XK->Value->Shared->Prop
structure i8 (P:Program) (w:World) (K:PySem.W.Frag) (mg:Str->Option Value) (base:Heap) (A:Around) (outer:List Env) (s:Shared) (H:Hp):Prop where
 frames:A.frames=some outer
 mod:Mod K mg base
 bs:∀ b o,base.get? b=some o->s.heap.get? b=some o/\H b=none
 bsz:base.objs.size<=s.heap.objs.size
 cE:s.heap.FunFrames base outer
 frf:∀ b∈frs outer,H b=none
 hok:HOk P w H s.heap
 bare:AllBare s.gens
noncomputable def CE (outer:List Env) (P:Program) (w:World) (H:Hp) (s:Shared) (Q:VK) (u:Value) (s':Shared):Prop :=
 ∃ v H',s'.os=s.os/\AllBare s'.gens/\Un (frs outer) [] H H' s.heap s'.heap/\HOk P w H' s'.heap/\RelV v u/\Q v H'
noncomputable def CR (CX:CXT) (outer:List Env) (P:Program) (w:World) (H:Hp) (s:Shared) (Q:VK) (E:XK) (r:Result) (s':Shared):Prop :=
 match r with
 | .ok (.ret u)=>CE outer P w H s Q u s'
 | .ok _=>False
 | .error e=>CX outer H s E e s'
structure c_ (P:Program) (w:World) (K:PySem.W.Frag) (mg:Str->Option Value) (base:Heap) (CX:CXT) (k:Nat) (f:Addr) (fd:FuncData) (ps:List Str) (sp:Sp):Prop where
 len:∀ vs H Q E,sp vs H Q E->vs.length=ps.length
 run:∀ (A:Around) (outer:List Env) (s:Shared) (H:Hp) (args:Args) (us:List Value) (vs:List V) (Q:VK) (E:XK),bF k A->i8 P w K mg base A outer s H->BindsTo s fd args (ps.zip us)->Vals vs us->sp vs H Q E ->
  codeAny (model P w) A (.call (.ref f) args) (CR CX outer P w H s Q E) s
section
variable {X:Cx} {pins:List (Addr × Obj)} {σ:St} {H:Hp} {s s':Shared}
theorem Inv.sU (I:Inv X pins σ H s):i8 X.prog X.w X.K X.mg X.base X.A X.stack s H :=
 ⟨I.ok.frames,I.ok.mod,I.bs,Nat.le_trans I.ok.bsz I.sz,I.stack,I.nM,I.hok,I.bare⟩
theorem Inv.after {Q:VK} {u:Value} (I:Inv X pins σ H s) (h:CE X.stack X.prog X.w H s Q u s'):EP X pins σ Q u s':=by
 obtain ⟨v,H',os,bare,un,hok,r,q⟩:=h
 obtain ⟨hh,g,d,t,os'⟩:=s'
 obtain rfl:os'=s.os:=os
 exact ⟨v,H',I.call (h':=hh) (g':=g) (d':=d) (t':=t) (ch:=[]) un hok bare (fun b z=>absurd z (by simp)),r,q⟩
end
noncomputable def jz (sp:Sp) (dvs:List V) (E:XK) (t:TA):TE:=fun σ H Q=>t σ H fun vs H1=>sp (vs++dvs) H1 Q E
noncomputable def Binds (K:PySem.W.Frag) (fd:FuncData) (ps:List Str) (ds:List Value):Prop :=
 ∀ (s:Shared) (us:List Value),K.In s.heap->(us++ds).length=ps.length->BindsTo s fd ⟨us,[]⟩ (ps.zip (us++ds))
theorem Binds.all {K:PySem.W.Frag} {fd:FuncData} {ps:List Str} (h:∀ us:List Value,us.length=ps.length->bindArgs fd ⟨us,[]⟩=pure (ps.zip us)):Binds K fd ps []:=fun s us _ hl=>by
 rw [List.append_nil] at hl ⊢
 exact .of_eq (h us hl)
noncomputable def Passes (CX:CXT) (X:Cx) (E:XK):Prop:=∀ (pins:List (Addr × Obj)) (σ:St) (H:Hp) (s:Shared) (e:Value) (s':Shared),Inv X pins σ H s->CX X.stack H s E e s'->X.xe e s'
section
variable {X:Cx} {CX:CXT} {k:Nat} {f C:Addr} {fd:FuncData} {ps:List Str} {sp:Sp} {dvs:List V} {ds:List Value} {E:XK} {x m:Str} {p pos apos:Pos} {e o:Expr} {es:List Expr} {ta:TE} {t:TA}
theorem qS {pins:List (Addr × Obj)} {σ:St} {H:Hp} {s:Shared} {Q:VK} {us:List Value} {vs:List V} (F:c_ X.prog X.w X.K X.mg X.base CX k f fd ps sp) (hr:bF k X.A) (hb:Binds X.K fd ps ds) (hd:Vals dvs ds) (hx:Passes CX X E)
  (I:Inv X pins σ H s) (r:Vals vs us) (h:sp (vs++dvs) H Q E):wpAny (model X.prog X.w) X.A (call (.ref f) us) (EP X pins σ Q) X.xe s:=by
 have r2:Vals (vs++dvs) (us++ds):=r.append hd
 have hl:(us++ds).length=ps.length:=by rw [<- r2.length]; exact F.len _ _ _ _ h
 refine wpAny_call (codeAny_mono (F.run X.A X.stack s H ⟨us,[]⟩ (us++ds) (vs++dvs) Q E hr I.sU (hb s us I.kIn hl) r2 h) fun r s' hq=>?_)
 cases r with
 | error e=>exact hx pins σ H s e s' I hq
 | ok fl =>
  cases fl with
  | ret u=>exact I.after hq
  | next=>exact False.elim hq
  | brk=>exact False.elim hq
  | cont=>exact False.elim hq
theorem xj (F:c_ X.prog X.w X.K X.mg X.base CX k f fd ps sp) (hr:bF k X.A) (hg:Gl X x) (hm:X.mg x=some (.ref f)) (hk:PySem.W.keepIn X.K (.ref f)=true) (hb:Binds X.K fd ps ds) (hd:Vals dvs ds) (hx:Passes CX X E)
  (ha:PA X (e::es) t) (hdb:(x==("__debug__" : Str))=false:=by decide) (he:starEach (e::es) X.env=(false,eval e X.env)::starEach es X.env:=by rfl) (hpl:(backTo pos (starEach es X.env)).any (·.1)=false:=by rfl) :
  PE X (.Call (.Name x p) (e::es) [] pos) (jz sp dvs E t):=by
 intro pins s σ H Q I h
 refine wpAny_Call_Name_kw (jN I hg hm ?_ hdb)
 refine PySem.W.callWith_K (h₀:=X.base) I.ok.mod.kin hk (thn (ha pos pins s σ H _ I h) fun us s1 ⟨vs,H1,I1,r,q⟩=>⟨I1.kIn,?_⟩) he hpl
 exact qS F hr hb hd hx I1 r q
theorem vF (F:c_ X.prog X.w X.K X.mg X.base CX k f fd ps sp) (hr:bF k X.A) (hg:Gl X x) (hm:X.mg x=some (.ref f)) (hk:PySem.W.keepIn X.K (.ref f)=true) (hb:Binds X.K fd ps ds) (hd:Vals dvs ds) (hx:Passes CX X E)
  (hdb:(x==("__debug__" : Str))=false:=by decide):PE X (.Call (.Name x p) [] [] pos) (jz sp dvs E oE):=by
 intro pins s σ H Q I h
 refine wpAny_Call_Name_kw (jN I hg hm ?_ hdb)
 exact PySem.W.callWith_K0 I.kIn hk (qS (us:=[]) F hr hb hd hx I .nil h)
structure Mk (K:PySem.W.Frag) (C f:Addr):Prop where
 makes:PySem.W.makesIn K C=true
 init:PySem.W.findIn K (.ref C) "__init__" = some (some (.ref f))
 fn:PySem.W.isFn K (.ref f)=true
 kp:PySem.W.keepIn K (.ref C)=true
end
section
variable {X:Cx} {CX:CXT} {k:Nat} {f C:Addr} {fd:FuncData} {ps ks:List Str} {sp:Sp} {E:XK} {x m:Str} {p pos apos kpos:Pos} {e o:Expr} {es:List Expr} {kws:List Keyword} {te ta:TE} {t tk:TA} {nm:Option Str}
structure EM (K:PySem.W.Frag) (fd:FuncData) (ps ks:List Str) (g:List Value->List Value->List Value) (gV:List V->List V->List V):Prop where
 to:∀ (s:Shared) (us ws:List Value),K.In s.heap->(g us ws).length=ps.length->BindsTo s fd ⟨us,ks.zip ws⟩ (ps.zip (g us ws))
 rel:∀ {vs:List V} {us:List Value} {zs:List V} {ws:List Value},Vals vs us->Vals zs ws->Vals (gV vs zs) (g us ws)
variable {g:List Value->List Value->List Value} {gV:List V->List V->List V}
end
structure jG (N P:List Str) (sc:Scope):Prop where
 kind:sc.kind=.function
 co:sc.isCoroutine=false
 gen:sc.isGenerator=false
 nd:N.Nodup
 pre:N.take P.length=P
 par:∀ x∈P,sc.names.lookup x=some .local\/sc.names.lookup x=some .cell
 nofree:∀ y∈sc.names,y.2≠.free
theorem oA {kindOf:Str->Option NameKind} {x:Str}:∀ {binds:List (Str × Value)} {m:Str->Option Value},(∀ v,(x,v) ∉ binds)->bindL kindOf binds m x=m x
 | [],_,_=>rfl
 | (n,v)::r,m,h=>by
  unfold bindL
  rw [oA fun w hw=>h w (List.mem_cons_of_mem _ hw)]
  split
  ·have:x≠n:=by rintro rfl; exact h v List.mem_cons_self
   simp [this]
  ·rfl
theorem oQ {kindOf:Str->Option NameKind} {x:Str}:∀ {binds:List (Str × Value)} {m:Str->Option Value},(∀ v,(x,v) ∉ binds)->bindC kindOf binds m x=m x
 | [],_,_=>rfl
 | (n,v)::r,m,h=>by
  unfold bindC
  rw [oQ fun w hw=>h w (List.mem_cons_of_mem _ hw)]
  split
  ·rfl
  ·have:x≠n:=by rintro rfl; exact h v List.mem_cons_self
   simp [this]
theorem oz {kindOf:Str->Option NameKind} {x:Str} {v:Value}:∀ {P:List Str} {vs:List Value} {i:Nat} {m:Str->Option Value},P.Nodup->P[i]?=some x->vs[i]?=some v->kindOf x=some .local ->
  bindL kindOf (P.zip vs) m x=some v
 | [],_,_,_,_,h,_,_=>by simp at h
 | _::_,[],_,_,_,_,h,_=>by simp at h
 | p::P,w::vs,0,m,nd,h1,h2,hk=>by
  simp at h1 h2; subst h1; subst h2
  show bindL kindOf ((p,w)::P.zip vs) m p=_
  unfold bindL
  rw [oA fun v hv=>(List.nodup_cons.mp nd).1 (List.of_mem_zip hv).1,if_pos hk]
  simp
 | p::P,w::vs,i+1,m,nd,h1,h2,hk=>by
  show bindL kindOf ((p,w)::P.zip vs) m x=_
  unfold bindL
  exact oz (i:=i) (List.nodup_cons.mp nd).2 (by simpa using h1) (by simpa using h2) hk
theorem oZ {kindOf:Str->Option NameKind} {x:Str} {v:Value}:∀ {P:List Str} {vs:List Value} {i:Nat} {m:Str->Option Value},P.Nodup->P[i]?=some x->vs[i]?=some v->kindOf x≠some .local ->
  bindC kindOf (P.zip vs) m x=some v
 | [],_,_,_,_,h,_,_=>by simp at h
 | _::_,[],_,_,_,_,h,_=>by simp at h
 | p::P,w::vs,0,m,nd,h1,h2,hk=>by
  simp at h1 h2; subst h1; subst h2
  show bindC kindOf ((p,w)::P.zip vs) m p=_
  unfold bindC
  rw [oQ fun v hv=>(List.nodup_cons.mp nd).1 (List.of_mem_zip hv).1,if_neg hk]
  simp
 | p::P,w::vs,i+1,m,nd,h1,h2,hk=>by
  show bindC kindOf ((p,w)::P.zip vs) m x=_
  unfold bindC
  exact oZ (i:=i) (List.nodup_cons.mp nd).2 (by simpa using h1) (by simpa using h2) hk
noncomputable def start (N:List Str) (vs:List V):St:=vs.map some++List.replicate (N.length - vs.length) none
noncomputable def dQ (CX:CXT) (P:Program) (w:World) (K:PySem.W.Frag) (mg:Str->Option Value) (base:Heap) (N:List Str) (qual:Str) (scope:Scope) (f:Addr) (cd:Value) (A:Around) (outer:List Env) (s:Shared) (H:Hp) (E:XK):Cx where
 prog:=P
 w:=w
 K:=K
 mg:=mg
 base:=base
 A:=A.deeper (envOfC qual scope s.heap.objs.size f cd)
 N:=N
 s₀:=s
 H₀:=H
 env:=envOfC qual scope s.heap.objs.size f cd
 outer:=outer
 stack:=envOfC qual scope s.heap.objs.size f cd::outer
 ex:=[]
 calm:=true
 fn:=fun _=>true
 pn:=[]
 xe:=fun e s'=>wpAny (model P w) (A.deeper (envOfC qual scope s.heap.objs.size f cd)) (leaving (envOfC qual scope s.heap.objs.size f cd) e) (fun _ s''=>CX outer H s E e s'') (fun e' s''=>CX outer H s E e' s'') s'
theorem sQ {sc:Scope} {n:Nat} {x:Str} (h:sc.names.lookup x=some .cell):∃ c,(cellsFrom n sc.names []).lookup x=some c:=by
 have q:=PySem.W.cellsFrom_some sc.names n [] (.inl h)
 exact Option.isSome_iff_exists.mp q
theorem Ay {CX:CXT} {P:Program} {w:World} {K:PySem.W.Frag} {mg:Str->Option Value} {base:Heap} {N ps:List Str} {qual:Str} {scope:Scope} {f:Addr} {cd:Value} {A:Around} {outer:List Env} {s s1:Shared} {H:Hp} {E:XK} {us:List Value} {vs:List V}
  (S:jG N ps scope) (hd:A.handled=none) (e0:i8 P w K mg base A outer s H) (hl:vs.length=ps.length) (r:Vals vs us)
  (x:InCallC s s.heap.objs.size (bindL (envOfC qual scope s.heap.objs.size f cd).kindOf (ps.zip us) fun _=>none) (cellsFrom (s.heap.objs.size+1) scope.names []) (bindC (envOfC qual scope s.heap.objs.size f cd).kindOf (ps.zip us) fun _=>none) s1) :
  Inv (dQ CX P w K mg base N qual scope f cd A outer s H E) [] (start N vs) H s1:=by
 have hpl:ps.length<=N.length:=by have:=congrArg List.length S.pre; rw [List.length_take] at this; omega
 obtain ⟨h1,tk,rfl,hk⟩:=x.done
 have noA:∀ b:Addr,b ∉ (dQ CX P w K mg base N qual scope f cd A outer s H E).ex:=fun b z=>absurd (show b∈([]:List Addr) from z) (by simp)
 refine ⟨⟨e0.mod,S.kind,rfl,rfl,Nat.le_refl _,fun y z c h1 h2=>?_,fun y hy=>?_,fun y c _ h=>?_,fun _=>hd,Around.frames_deeper e0.frames,.inr ⟨rfl,rfl⟩,fun b z=>absurd z (noA b),e0.bs,e0.bsz,fun b _ _=>noA b,fun b z=>absurd z (noA b),e0.cE,e0.frf⟩,
  rfl,e0.bare,Un.kept hk,⟨_,x.toInCall.ns,fun i y v h1 h2 h3=>?_⟩,fun y c h=>⟨_,x.cell y c h⟩,e0.hok.fresh (Nat.le_refl _),fun y c h=>?_,fun p hp=>absurd (show p∈([]:List (Addr × Obj)) from hp) (by simp),e0.hok.kept hk,?_⟩
 ·exact name_of_addr x.apart (PySem.mem_of_lookup h1) (PySem.mem_of_lookup h2)
 ·have hy:scope.names.lookup y=some .cell\/scope.names.lookup y=some .free:=hy
  rcases hy with hy|hy
  ·exact sQ hy
  ·exact absurd rfl (S.nofree _ (PySem.mem_of_lookup hy))
 ·exact Nat.le_of_lt (x.above y c (PySem.mem_of_lookup h))
 ·have hi:i < vs.length:=by
   unfold start at h2
   by_cases hi:i < vs.length
   ·exact hi
   ·rw [List.getElem?_append_right (by simpa using hi)] at h2
    rw [List.getElem?_replicate] at h2
    split at h2 <;> cases h2
  have ha:vs[i]?=some v:=by
   unfold start at h2
   rw [List.getElem?_append_left (by simpa using hi),List.getElem?_map] at h2
   cases e:vs[i]? with
   | none=>rw [e] at h2; cases h2
   | some a=>rw [e] at h2; cases h2; rfl
  obtain ⟨u,hu,rv⟩:=r.get ha
  have hp:ps[i]?=some y:=by
   rw [<- S.pre,List.getElem?_take_of_lt (by omega)]; exact h1
  have ndP:ps.Nodup:=by rw [<- S.pre]; exact S.nd.sublist (List.take_sublist _ _)
  refine ⟨u,rv,?_⟩
  rcases S.par y (List.mem_of_getElem? hp) with k|k
  ·exact .inl ⟨k,oz ndP hp hu k⟩
  ·obtain ⟨c,e⟩:=sQ (n:=s.heap.objs.size+1) k
   refine .inr ⟨.inl k,c,e,?_⟩
   have q:=x.cell y c e
   rw [oZ ndP hp hu (by show scope.names.lookup y≠_; rw [k]; decide)] at q
   exact q
 ·exact e0.hok.fresh (Nat.le_of_lt (x.above y c (PySem.mem_of_lookup h)))
 ·unfold start
  show _=N.length
  rw [List.length_append,List.length_map,List.length_replicate]
  omega
theorem t_ {CX:CXT} {P:Program} {w:World} {K:PySem.W.Frag} {mg:Str->Option Value} {base:Heap} {k:Nat} {f:Addr} {name qual:Str} {params:Arguments} {body:List Stmt} {scope:Scope} {dV kV doc pm cdv ct oc:Value} {an od:Option Addr}
  {osl:Array (Option Value)} {N ps:List Str} {sp:Sp} (lk:K.lookup f=some ⟨oc,od,.func (PySem.W.fnOf name qual params body scope dV kV doc pm an cdv ct),osl⟩) (hcd:PySem.W.codeIn K cdv qual=true) (S:jG N ps scope)
  (len:∀ vs H Q E,sp vs H Q E->vs.length=ps.length)
  (hbody:∀ (A:Around) (outer:List Env) (s:Shared) (H:Hp) (vs:List V) (Q:VK) (E:XK),bF k (A.deeper (envOfC qual scope s.heap.objs.size f cdv))->sp vs H Q E ->
   ∃ t,PSs (dQ CX P w K mg base N qual scope f cdv A outer s H E) body t/\t { nx:=fun _ H'=>Q .non H',rt:=Q } (start N vs) H) :
  c_ P w K mg base CX (k+1) f (PySem.W.fnOf name qual params body scope dV kV doc pm an cdv ct) ps sp:=by
 refine ⟨len,fun A outer s H args us vs Q E hr e0 hb r hsp=>?_⟩
 have hl:=len _ _ _ _ hsp
 have KX:K.In s.heap:=e0.mod.kin.keeps fun b o e=>(e0.bs b o e).1
 have lim:s.heap.NoLimit:=e0.mod.nolimit.keeps fun b o e=>(e0.bs b o e).1
 have hkind:∀ y∈ps.zip us,scope.names.lookup y.1=some .local\/(scope.names.lookup y.1=some .cell/\((cellsFrom (s.heap.objs.size+1) scope.names []).lookup y.1).isSome=true):=fun ⟨n,v⟩ hy=>by
  rcases S.par n (List.of_mem_zip hy).1 with q|q
  ·exact .inl q
  ·exact .inr ⟨q,PySem.W.cellsFrom_some _ _ _ (.inl q)⟩
 refine codeAny_call_function hr.depth (KX _ _ lk) rfl S.co S.gen rfl (PySem.W.codeRec_of KX hcd) (hb _ _ _ _ ?_)
 refine wpAny_newFunctionEnv_cells S.kind hkind fun env he s1 x=>?_
 subst he
 refine ⟨lim.keeps x.toInCall.keep,codeAny_func ?_⟩
 obtain ⟨t,ht,hq⟩:=hbody A outer s H vs Q E (hr.deeper _) hsp
 have I:Inv (dQ CX P w K mg base N qual scope f cdv A outer s H E) [] (start N vs) H s1:=Ay S hr.hd e0 hl r x
 refine wpAny_mono (ht [] s1 (start N vs) H _ I hq) (fun fl s' hs=>?_) fun e s' hs=>hs
 have fin:∀ {σ':St} {H':Hp} {v:V} {u:Value},Inv (dQ CX P w K mg base N qual scope f cdv A outer s H E) [] σ' H' s'->RelV v u->Q v H'->CE outer P w H s Q u s' :=
  fun {σ' H' v u} J rv q=>⟨v,H',J.os,J.bare,J.base,J.hok,rv,q⟩
 cases fl with
 | ret u =>
  obtain ⟨v,σ',H',J,rv,q⟩:=hs
  exact fin J rv q
 | next =>
  obtain ⟨σ',H',J,q⟩:=hs
  exact fin (v:=V.non) (u:=Value.none) J rfl q
 | brk =>
  obtain ⟨_,_,_,q⟩:=hs
  exact False.elim q
 | cont =>
  obtain ⟨_,_,_,q⟩:=hs
  exact False.elim q
end L2
namespace L2
open PySem PySem.Spec PyProof.Rows
section
variable {X:Cx} {x:Str} {p pos:Pos} {e:Expr} {es:List Expr} {t:TA} {id T:String} {r:List V->Hp->VK->Prop}
noncomputable def tCB (r:List V->Hp->VK->Prop) (t:TA):TE:=fun σ H Q=>t σ H fun vs H1=>r vs H1 Q
theorem qf (hc:bI X (.builtin id) r) (hg:Gl X x) (hm:X.mg x=none) (hv:bootBuiltins x=some (.builtin id)) (ha:PA X (e::es) t) (hn:x≠"__name__":=by decide) (hdb:(x==("__debug__" : Str))=false:=by decide)
  (he:starEach (e::es) X.env=(false,eval e X.env)::starEach es X.env:=by rfl) (hpl:(backTo pos (starEach es X.env)).any (·.1)=false:=by rfl):PE X (.Call (.Name x p) (e::es) [] pos) (tCB r t):=by
 intro pins s σ H Q I h
 refine wpAny_Call_Name_kw (cu I hg hm hv ?_ hn hdb)
 exact PyProof.Rows.callWith_builtin1 (thn (ha pos pins s σ H _ I h) fun us s1 ⟨vs,H1,I1,r1,q1⟩=>hc pins s1 σ H1 vs us Q I1 r1 q1) he hpl
theorem qE (hc:bI X (.type T) r) (hg:Gl X x) (hm:X.mg x=none) (hv:bootBuiltins x=some (.type T)) (ha:PA X (e::es) t) (hn:x≠"__name__":=by decide) (hdb:(x==("__debug__" : Str))=false:=by decide)
  (he:starEach (e::es) X.env=(false,eval e X.env)::starEach es X.env:=by rfl) (hpl:(backTo pos (starEach es X.env)).any (·.1)=false:=by rfl):PE X (.Call (.Name x p) (e::es) [] pos) (tCB r t):=by
 intro pins s σ H Q I h
 refine wpAny_Call_Name_kw (cu I hg hm hv ?_ hn hdb)
 exact PyProof.Rows.callWith_type1 (thn (ha pos pins s σ H _ I h) fun us s1 ⟨vs,H1,I1,r1,q1⟩=>hc pins s1 σ H1 vs us Q I1 r1 q1) he hpl
end
end L2
namespace HT
open PySem PyProof.Rows
section
open PySem.SeqAt
open PySem.AutoSeq1 (wpAny_loadPart')
open PySem.MeetsSeq PySem.MeetsSeq2 PySem.MeetsSeq3
end
section
variable {prog:Program} {w:World} {A:Around} {E:Value->Shared->Prop} {s:Shared}
theorem zV {t b:Addr} {vs ws:List Value} {Q:Value->Shared->Prop} (ht:IsTup s.heap t vs.toArray) (hb:IsTup s.heap b ws.toArray) (hv:vs≠[])
  (h1:ws=[]->Q (.ref t) s) (h2:ws≠[]->Q (.ref s.heap.objs.size) { s with heap:=s.heap.push { cls:=.type "tuple",data:=.seq (vs++ws).toArray } })
  (hsz:vs.length+ws.length<=sizeLine):wpAny (model prog w) A (binaryOp .Add (.ref t) (.ref b)) Q E s:=by
 obtain ⟨⟨cls,dd,data,sl⟩,ho,hc,n,hd⟩:=id ht
 obtain ⟨⟨cls2,dd2,data2,sl2⟩,ho2,hc2,n2,hd2⟩:=id hb
 simp only at hc hd hc2 hd2
 subst hc hd hc2 hd2
 have e:vs.toArray++ws.toArray=(vs++ws).toArray:=by simp
 by_cases hw:ws=[]
 ·exact concat_meets ⟨_,ho,rfl⟩ ⟨_,ho2,rfl⟩ noFill_tuple_add seq_tuple_add PySem.F.slot_tuple_add PySem.F.entry_tuple_add (PySem.F.args_tuple_add_2 _ _)
   (tuple_addW1 t b vs.toArray ws.toArray n n2 dd dd2 sl sl2 (by simpa using hv) (by simp [hw])) ⟨ho,ho2,h1 hw⟩
 ·refine concat_meets ⟨_,ho,rfl⟩ ⟨_,ho2,rfl⟩ noFill_tuple_add seq_tuple_add PySem.F.slot_tuple_add PySem.F.entry_tuple_add (PySem.F.args_tuple_add_2 _ _)
   (tuple_addW2 t b vs.toArray ws.toArray n n2 dd dd2 sl sl2 (by simpa using hv) (by simpa using hw) (by rw [List.size_toArray,List.size_toArray]; exact hsz)) ⟨ho,ho2,?_⟩
  rw [e]
  exact h2 hw
noncomputable def sIx (n d:Nat):Option Int->Nat
 | none=>d
 | some v=>if v < 0 then (v+(n:Int)).toNat else min v.toNat n
theorem xg (n d:Nat) (hd:d<=n) (o:Option Int):sIx n d o<=n:=by
 cases o with
 | none=>exact hd
 | some v =>
  show (if v < 0 then (v+(n:Int)).toNat else min v.toNat n)<=n
  by_cases hv:v < 0
  ·rw [if_pos hv]; omega
  ·rw [if_neg hv]; exact Nat.min_le_right _ _
theorem nU (v:Int) (n d:Nat):(if v < 0 then max (v+(n:Int)) 0 else min v (n:Int))=((sIx n d (some v):Nat):Int):=by
 show (if v < 0 then max (v+(n:Int)) 0 else min v (n:Int))=(((if v < 0 then (v+(n:Int)).toNat else min v.toNat n):Nat):Int)
 by_cases hv:v < 0
 ·simp only [if_pos hv]; omega
 ·simp only [if_neg hv]; omega
theorem C4 (lo hi:Option Int) (n:Nat):Builtin.Slice.sliceAdjust lo hi 1 (n:Int)=(((sIx n 0 lo:Nat):Int),((sIx n n hi:Nat):Int)):=by
 have h1:¬ ((1:Int) < 0):=by omega
 unfold Builtin.Slice.sliceAdjust
 simp only [h1,if_false]
 refine Prod.ext ?_ ?_
 ·cases lo with
  | none=>rfl
  | some v=>exact nU v n 0
 ·cases hi with
  | none=>rfl
  | some v=>exact nU v n n
theorem CL (i j:Nat):Builtin.Slice.slicePlaces (i:Int) (j:Int) 1=j - i:=by
 unfold Builtin.Slice.slicePlaces
 have h1:(1:Int) > 0:=by omega
 simp only [h1,if_true,Int.ediv_one]
 split <;> omega
theorem qB {v:Value} {o:Option Int} {Q:Option Int->Shared->Prop} (p:IsPart v o) (h:Q o s):wpAny (model prog w) A (Builtin.Slice.slicePartIndex v) Q E s:=by
 cases p with
 | none=>exact slicePart_none h
 | int i t=>exact slicePart_int h
theorem qm {sl:Addr} {vl vu:Value} {lo hi:Option Int} {n:Nat} {Q:Int × Int × Nat->Shared->Prop} (hs:s.heap.IsSliceOf sl vl vu .none) (pl:IsPart vl lo) (pu:IsPart vu hi)
  (h:Q (((sIx n 0 lo:Nat):Int),1,sIx n n hi - sIx n 0 lo) s):wpAny (model prog w) A (Builtin.Slice.sliceApplied (.ref sl) (pure (n:Int))) Q E s:=by
 obtain ⟨os,hos,hcs,hds⟩:=id hs
 unfold Builtin.Slice.sliceApplied Builtin.Slice.sliceFields
 refine wpAny_bind (wpAny_bind (wpAny_field hos hds (x:=vl) rfl (wpAny_bind (wpAny_field hos hds (x:=vu) rfl (wpAny_bind (wpAny_field hos hds (x:=.none) rfl (wpAny_pure ?_)))))))
 refine wpAny_bind (slicePart_none ?_)
 show wpAny _ _ (if ((1:Int)==0)=true then _ else _) _ _ s
 rw [if_neg (by decide)]
 refine wpAny_bind (qB pl (wpAny_bind (qB pu (wpAny_bind (wpAny_pure ?_)))))
 show wpAny _ _ (match Builtin.Slice.sliceAdjust lo hi 1 (n:Int) with|(lo,hi)=>pure (lo,(1:Int),Builtin.Slice.slicePlaces lo hi 1)) _ _ s
 rw [C4 lo hi n]
 show wpAny _ _ (pure (((sIx n 0 lo:Nat):Int),(1:Int),Builtin.Slice.slicePlaces ((sIx n 0 lo:Nat):Int) ((sIx n n hi:Nat):Int) 1)) _ _ s
 rw [CL]
 exact wpAny_pure h
theorem vo (xs:Array Value) (i k:Nat):((List.range k).filterMap fun (m:Nat)=>xs[((i:Int)+(m:Int) * 1).toNat]?).toArray=((xs.toList.drop i).take k).toArray:=by
 have e:(fun (m:Nat)=>xs[((i:Int)+(m:Int) * 1).toNat]?)=fun m=>xs[i+m]?:=by
  funext m
  have:((i:Int)+(m:Int) * 1).toNat=i+m:=by omega
  rw [this]
 rw [e]
 have:=pick_run xs i k
 rw [List.filterMap_map] at this
 have e2:((fun x=>xs[x]?) ∘ fun x=>i+x)=fun m=>xs[i+m]?:=rfl
 rw [e2] at this
 rw [this]
theorem xT {t sl:Addr} {items:Array Value} {vl vu:Value} {lo hi:Option Int} {Q:Value->Shared->Prop} (ht:IsTup s.heap t items) (hs:s.heap.IsSliceOf sl vl vu .none) (pl:IsPart vl lo) (pu:IsPart vu hi)
  (hw:¬ (sIx items.size 0 lo=0/\sIx items.size items.size hi=items.size))
  (h:Q (.ref s.heap.objs.size) { s with heap:=s.heap.push { cls:=.type "tuple",data:=.seq ((items.toList.drop (sIx items.size 0 lo)).take (sIx items.size items.size hi - sIx items.size 0 lo)).toArray } })
  (hsz:items.size<=sizeLine):wpAny (model prog w) A (getItem (.ref t) (.ref sl)) Q E s:=by
 have htake:sizeOk (.seq ((items.toList.drop (sIx items.size 0 lo)).take (sIx items.size items.size hi - sIx items.size 0 lo)).toArray):=by
  show ((items.toList.drop (sIx items.size 0 lo)).take (sIx items.size items.size hi - sIx items.size 0 lo)).toArray.size<=sizeLine
  rw [List.size_toArray,List.length_take,List.length_drop,Array.length_toList]
  omega
 have hj:sIx items.size items.size hi<=items.size:=xg _ _ (Nat.le_refl _) hi
 obtain ⟨os,hos,hcs,hds⟩:=id hs
 have hTs:s.TypeIs (.ref sl) "slice":=⟨os,hos,hcs⟩
 unfold getItem
 try with_reducible refine wpAny_holding ?_
 first|refine wpAny_bind (wpAny_pure ?_)|skip
 refine wpAny_bind (wpAny_sequenceKey ht.typeIs (by decide) ?_)
 refine wpAny_bind (wpAny_callSpecial?_slot (name:=Str.ofString "__getitem__") ht.typeIs PyProof.Rows.slot_tuple_getitem
  (wpAny_call_entry PyProof.Rows.slot_tuple_getitem ht.typeIs entry_tuple_getitem ?_ (args_tuple_getitem _ _)))
 show wpAny _ _ (Builtin.Tuple.tupleItemsOf (.ref t)>>=_) _ _ s
 refine wpAny_bind (tupleItemsOf_ ht ?_)
 refine wpAny_bind (wpAny_typeOf hTs ?_)
 rw [if_pos (by decide)]
 refine wpAny_bind (qm hs pl pu ?_)
 have hno:¬ ((((sIx items.size 0 lo:Nat):Int)==0&&(1:Int)==1&&(sIx items.size items.size hi - sIx items.size 0 lo)==items.size)=true):=by
  intro q
  rw [Bool.and_eq_true,Bool.and_eq_true] at q
  have q1:((sIx items.size 0 lo:Nat):Int)=0:=eq_of_beq q.1.1
  have q2:sIx items.size items.size hi - sIx items.size 0 lo=items.size:=eq_of_beq q.2
  exact hw ⟨by omega,by omega⟩
 show wpAny _ _ (if (((sIx items.size 0 lo:Nat):Int)==0&&(1:Int)==1&&(sIx items.size items.size hi - sIx items.size 0 lo)==items.size)=true then _ else _) _ _ s
 rw [if_neg hno,vo]
 first
  | exact wpAny_bind (m:=Builtin.Tuple.tupleExact _) (wpAny_newObj_type (wpAny_pure ⟨_,rfl,wpAny_pure h⟩) htake)
  | exact wpAny_bind (m:=Builtin.Tuple.tupleExact _) (wpAny_newObj_type (wpAny_bind (wpAny_pure (wpAny_pure ⟨_,rfl,wpAny_pure h⟩))) htake)
  | exact wpAny_bind (wpAny_bind (m:=Builtin.Tuple.tupleExact _) (wpAny_newObj_type (wpAny_pure (wpAny_pure ⟨_,rfl,wpAny_pure h⟩)) htake))
  | exact wpAny_bind (wpAny_bind (m:=Builtin.Tuple.tupleExact _) (wpAny_newObj_type (wpAny_pure ⟨_,rfl,wpAny_pure h⟩) htake))
end
end HT
namespace L2
open PySem PySem.Spec PyProof.Rows
abbrev TO:=St->Hp->(Option Int->Hp->Prop)->Prop
noncomputable def PO (X:Cx) (e:Option Expr) (t:TO):Prop :=
 ∀ (pins:List (Addr × Obj)) (s:Shared) (σ:St) (H:Hp) (Q:Option Int->Hp->Prop),Inv X pins σ H s->t σ H Q ->
  wpAny (model X.prog X.w) X.A (evalPart e X.env) (fun u s'=>∃ o H',Inv X pins σ H' s'/\IsPart u o/\Q o H') X.xe s
noncomputable def CF:TO:=fun _ H Q=>Q none H
noncomputable def uT (t:TE):TO:=fun σ H Q=>t σ H fun x H1=>∃ i,x=.int i/\Q (some i) H1
theorem intsAre_of {ns:List Int}:∀ {us:List Value},Vals (ns.map V.int) us->IntsAre us ns:=by
 induction ns with
 | nil=>intro us r; rw [List.map_nil] at r; cases r; exact .nil
 | cons n ns ih =>
  intro us r
  rw [List.map_cons] at r
  cases r with
  | cons r1 r2 =>
   obtain ⟨t,e⟩:=r1
   subst e
   exact .cons n t (ih r2)
section
variable {X:Cx} {e:Expr} {te:TE} {lo hi:Option Expr} {tl th:TO} {pos p2:Pos}
theorem Bb:PO X none CF:=by
 intro pins s σ H Q I h
 rw [evalPart_none]
 exact wpAny_pure ⟨none,H,I,.none,h⟩
theorem uR (h:PE X e te):PO X (some e) (uT te):=by
 intro pins s σ H Q I hw
 rw [evalPart_some]
 refine thn (h pins s σ H _ I hw) fun u s1 ⟨x,H1,I1,r1,q1⟩=>?_
 obtain ⟨i,rfl,q⟩:=q1
 obtain ⟨t,rfl⟩:=r1
 exact ⟨some i,H1,I1,.int i t,q⟩
noncomputable def SlR (X:Cx) (r:V->Option Int->Option Int->Hp->VK->Prop):Prop :=
 ∀ (pins:List (Addr × Obj)) (s:Shared) (σ:St) (H:Hp) (x:V) (v vl vu:Value) (lo hi:Option Int) (sl:Addr) (Q:VK),Inv X pins σ H s->RelV x v->s.heap.IsSliceOf sl vl vu .none->IsPart vl lo->IsPart vu hi->r x lo hi H Q ->
  ∃ T id,typeLookup (.type T) "__getitem__" = pure (some (.builtin id))/\s.TypeIs v T/\wpAny (model X.prog X.w) X.A (getItem v (.ref sl)) (EP X pins σ Q) X.xe s
noncomputable def tSl (r:V->Option Int->Option Int->Hp->VK->Prop) (te:TE) (tl th:TO):TE:=fun σ H Q=>te σ H fun x H1=>tl σ H1 fun l H2=>th σ H2 fun u H3=>r x l u H3 Q
theorem yp {r:V->Option Int->Option Int->Hp->VK->Prop} (hr:SlR X r) (he:PE X e te) (hl:PO X lo tl) (hu:PO X hi th):PE X (.Subscript e (.Slice lo hi none p2) pos) (tSl r te tl th):=by
 intro pins s σ H Q I h
 refine Subscript_ (thn (he pins s σ H _ I h) fun v s1 ⟨x,H1,I1,r1,q1⟩=>?_)
 refine wpAny_Slice (thn (hl pins s1 σ H1 _ I1 q1) fun vl s2 ⟨l,H2,I2,pl,q2⟩=>thn (hu pins s2 σ H2 _ I2 q2) fun vu s3 ⟨u,H3,I3,pu,q3⟩=>?_)
 rw [evalPart_none]
 refine wpAny_pure ?_
 have I4:Inv X pins σ H3 { s3 with heap:=s3.heap.push { cls:=.type "slice",data:=.fields #[vl,vu,.none] } }:=I3.kept (t':=s3.toks) fun b ob q=>Heap.get?_push_of_some _ q
 obtain ⟨T,id,hT,ht,hg⟩:=hr pins { s3 with heap:=s3.heap.push { cls:=.type "slice",data:=.fields #[vl,vu,.none] } } σ H3 x v vl vu l u s3.heap.objs.size Q I4 r1 (Heap.IsSliceOf.new ..) pl pu q3
 show wpAny (model X.prog X.w) X.A (subscriptTail e (.Slice lo hi none p2) v (.ref s3.heap.objs.size)) (EP X pins σ Q) X.xe { s3 with heap:=s3.heap.push { cls:=.type "slice",data:=.fields #[vl,vu,.none] } }
 exact tail_any (ops:=[.ref s3.heap.objs.size,v]) ht hT hg (by with_unfolding_all rfl)
noncomputable def cT (xs:List V) (lo hi:Option Int):List V:=(xs.drop (HT.sIx xs.length 0 lo)).take (HT.sIx xs.length xs.length hi - HT.sIx xs.length 0 lo)
theorem rH (xs:List V) (lo hi:Option Int):(cT xs lo hi).length<=xs.length:=by
 unfold cT
 rw [List.length_take,List.length_drop]
 omega
noncomputable def uA (K:PySem.W.Frag):V->Option Int->Option Int->Hp->VK->Prop:=fun x lo hi H Q=>∃ a xs,x=.ref a/\SqT K H a xs /\
 ¬ (HT.sIx xs.length 0 lo=0/\HT.sIx xs.length xs.length hi=xs.length)/\∀ p,H p=none->Q (.ref p) (upd H p (.tup (cT xs lo hi)))
theorem tG:SlR X (uA X.K):=by
 intro pins s σ H x v vl vu lo hi sl Q I rx hs pl pu h
 obtain ⟨a,xs,rfl,hx,hw,q⟩:=h
 cases rx
 obtain ⟨its,r,ht,hz⟩:=I.tuple hx
 have hlen:its.toArray.size=xs.length:=by rw [List.size_toArray]; exact r.length.symm
 refine ⟨"tuple",_,PyProof.Rows.slot_tuple_getitem.lookup,ht.typeIs,?_⟩
 refine HT.xT ht hs pl pu (by rw [hlen]; exact hw) ?_ (by rw [hlen]; exact hz)
 rw [hlen]
 refine ⟨.ref s.heap.objs.size,_,I.laid (t':=s.toks) (o:=.tup (cT xs lo hi)) (fun b ob q=>Heap.get?_push_of_some _ q) (Nat.le_refl _) ?_,rfl,q _ (I.hok.fresh (Nat.le_refl _))⟩
 exact ⟨Nat.le_trans (rH xs lo hi) hz,_,(r.drop (HT.sIx xs.length 0 lo)).take (HT.sIx xs.length xs.length hi - HT.sIx xs.length 0 lo),IsTup.new _ _⟩
noncomputable def BQ (K:PySem.W.Frag):R2:=fun x y H Q=>∃ a b xs ys,x=.ref a/\y=.ref b/\SqT K H a xs/\SqT K H b ys/\xs≠[]/\xs.length+ys.length<=sizeLine /\
 (ys=[]->Q (.ref a) H)/\(ys≠[]->∀ p,H p=none->Q (.ref p) (upd H p (.tup (xs++ys))))
theorem Vals.kG {xs:List V} {us:List Value} (r:Vals xs us):us=[] ↔ xs=[]:=by
 cases r with
 | nil=>simp
 | cons _ _=>simp
theorem Dc:OpR X (binaryOp .Add) (BQ X.K):=by
 intro pins s σ H x y v u Q I rx ry h
 obtain ⟨a,b,xs,ys,rfl,rfl,ha,hb,hx,hz,q1,q2⟩:=h
 cases rx
 cases ry
 obtain ⟨its,r1,p1,_⟩:=I.tuple ha
 obtain ⟨its2,r2,p2,_⟩:=I.tuple hb
 refine HT.zV p1 p2 (fun z=>hx (r1.kG.mp z)) (fun z=>⟨.ref a,H,I,rfl,q1 (r2.kG.mp z)⟩) (fun z=>?_) (by rw [<- r1.length,<- r2.length]; exact hz)
 refine ⟨.ref s.heap.objs.size,_,I.laid (t':=s.toks) (o:=.tup (xs++ys)) (fun b ob q=>Heap.get?_push_of_some _ q) (Nat.le_refl _) ?_,rfl,q2 (fun w=>z (r2.kG.mpr w)) _ (I.hok.fresh (Nat.le_refl _))⟩
 exact ⟨by rw [List.length_append]; exact hz,_,r1.append r2,IsTup.new _ _⟩
end
end L2
namespace L2
open PySem PySem.Spec PyProof.Rows
noncomputable def ixN (n:Nat) (i:Int):Option Nat:=if 0<=i then (if i < n then some i.toNat else none) else if -(n:Int)<=i then some (i+n).toNat else none
noncomputable def atI {α:Type} (xs:List α) (i:Int):Option α:=(ixN xs.length i).bind fun j=>xs[j]?
theorem n8 {n:Nat} {i:Int} {j:Nat} (h:ixN n i=some j):seqIndex? i n=some j/\j < n/\-(n:Int)<=i/\i < n:=by
 unfold ixN at h
 by_cases h0:0<=i
 ·rw [if_pos h0] at h
  by_cases h1:i < n
  ·rw [if_pos h1] at h
   have e:i.toNat=j:=Option.some.inj h
   exact ⟨by rw [seqIndex_of h0 h1,e],by omega,by omega,h1⟩
  ·rw [if_neg h1] at h; cases h
 ·rw [if_neg h0] at h
  by_cases h1:-(n:Int)<=i
  ·rw [if_pos h1] at h
   have e:(i+n).toNat=j:=Option.some.inj h
   exact ⟨by rw [seqIndex_neg (by omega) h1,e],by omega,h1,by omega⟩
  ·rw [if_neg h1] at h; cases h
theorem rQ {α:Type} {xs:List α} {i:Int} {v:α} (h:atI xs i=some v):∃ j,seqIndex? i xs.length=some j/\xs[j]?=some v/\j < xs.length/\-(xs.length:Int)<=i/\i < xs.length:=by
 unfold atI at h
 cases e:ixN xs.length i with
 | none=>rw [e] at h; cases h
 | some j =>
  rw [e] at h
  obtain ⟨h1,h2,h3,h4⟩:=n8 e
  exact ⟨j,h1,h,h2,h3,h4⟩
noncomputable def j8 (b:Expr):Prop:=∀ o i,subscripted b false o i=operate [o,i] (getItem o i)
noncomputable def IxR (X:Cx) (r:R2):Prop :=
 ∀ (value slice:Expr) (pins:List (Addr × Obj)) (s:Shared) (σ:St) (H:Hp) (x y:V) (v u:Value) (Q:VK),Inv X pins σ H s->RelV x v->RelV y u->r x y H Q ->
  subscripted slice false v u=operate [v,u] (getItem v u)->wpAny (model X.prog X.w) X.A (subscriptTail value slice v u) (EP X pins σ Q) X.xe s
noncomputable def MtR (X:Cx) (id:String) (r:V->List V->Hp->VK->Prop):Prop :=
 ∀ (pins:List (Addr × Obj)) (s:Shared) (σ:St) (H:Hp) (x:V) (xs:List V) (v:Value) (us:List Value) (Q:VK),Inv X pins σ H s->RelV x v->Vals xs us->r x xs H Q ->
  wpAny (model X.prog X.w) X.A (call (.builtin id) (v::us)) (EP X pins σ Q) X.xe s
section
variable {X:Cx} {a b:Expr} {ta tb:TE} {pos:Pos}
theorem Bv {r:R2} (hr:IxR X r) (ha:PE X a ta) (hb:PE X b tb) (hs:j8 b):PE X (.Subscript a b pos) (tOp r ta tb):=by
 intro pins s σ H Q I h
 exact Subscript_ (jE ha hb I h fun v u s2 x y H2 I2 rx ry q=>hr a b pins s2 σ H2 x y v u Q I2 rx ry q (hs _ _))
noncomputable def uq (K:PySem.W.Frag):R2:=fun x y H Q=>∃ p xs i v,x=.ref p/\y=.int i/\SqL K H p xs/\atI xs i=some v/\Q v H
noncomputable def yw (K:PySem.W.Frag):R2:=fun x y H Q=>∃ p xs i v,x=.ref p/\y=.int i/\SqT K H p xs/\atI xs i=some v/\Q v H
theorem Cg:IxR X (uq X.K):=by
 intro value slice pins s σ H x y v u Q I rx ry h hs
 obtain ⟨p,xs,i,z,rfl,rfl,hq,he,q⟩:=h
 cases rx
 obtain ⟨t,rfl⟩:=ry
 obtain ⟨its,r,pl,hz⟩:=I.list hq
 obtain ⟨j,h1,h2,h3,h4,h5⟩:=rQ he
 obtain ⟨w,ew,rw'⟩:=r.get h2
 have hl:=r.length
 have hn:=gv
 have fin:EP X pins σ Q w s:=⟨z,H,I,rw',q⟩
 by_cases h0:0<=i
 ·have hj:i.toNat=j:=by
   rw [seqIndex_of h0 h5] at h1
   exact Option.some.inj h1
  exact item_listR pl.isList h0 (by omega) (by rw [hj]; simpa using ew) fin hs
 ·have hj:(i+(its.toArray.size:Int)).toNat=j:=by
   rw [seqIndex_neg (by omega) h4] at h1
   rw [List.size_toArray,<- hl]
   exact Option.some.inj h1
  exact subscriptTail_builtinR (x:=w) pl.isList.typeIs slot_list_getitem.lookup
   (wpAny_getItem_list_neg (Q:=fun r s'=>r=w/\EP X pins σ Q r s') pl.isList (by omega) (by rw [List.size_toArray] <;> omega) (by omega) (by rw [hj]; simpa using ew) ⟨rfl,fin⟩) hs
theorem En:IxR X (yw X.K):=by
 intro value slice pins s σ H x y v u Q I rx ry h hs
 obtain ⟨p,xs,i,z,rfl,rfl,hq,he,q⟩:=h
 cases rx
 obtain ⟨t,rfl⟩:=ry
 obtain ⟨its,r,pl,hz⟩:=I.tuple hq
 obtain ⟨j,h1,h2,h3,h4,h5⟩:=rQ he
 obtain ⟨w,ew,rw'⟩:=r.get h2
 have hl:=r.length
 have hn:=gv
 have fin:EP X pins σ Q w s:=⟨z,H,I,rw',q⟩
 exact subscriptTail_builtinR (x:=w) pl.typeIs slot_tuple_getitem.lookup
  (getItem_tuple (j:=j) (Q:=fun r s'=>r=w/\EP X pins σ Q r s') pl (by omega) (by omega) (by rw [List.size_toArray,<- hl]; exact h1) (by simpa using ew) ⟨rfl,fin⟩) hs
theorem wz (its:List Value) (n j:Nat) (u:Value):Obj.mapSeq (·.setIfInBounds j u) { cls:=.type "list",data:=.seq its.toArray n }={ cls:=.type "list",data:=.seq (its.set j u).toArray n }:=by
 simp [Obj.mapSeq]
theorem Inv.lst {pins:List (Addr × Obj)} {σ:St} {H:Hp} {s:Shared} {p:Addr} {xs:List V} (I:Inv X pins σ H s) (h:H p=some (.lst xs)) :
  ∃ (its:List Value) (n:Nat),Vals xs its/\s.heap.get? p=some { cls:=.type "list",data:=.seq its.toArray n }/\xs.length<=sizeLine:=by
 obtain ⟨z,its,n,r,e⟩:=I.hok p _ h
 exact ⟨its,n,r,e,z⟩
theorem Inv.xW {pins:List (Addr × Obj)} {σ:St} {H:Hp} {s:Shared} {p:Addr} {xs ys:List V} {its its':List Value} {n n':Nat} {f:Obj->Obj} (I:Inv X pins σ H s) (h:H p=some (.lst xs))
  (ho:s.heap.get? p=some { cls:=.type "list",data:=.seq its.toArray n }) (hf:f { cls:=.type "list",data:=.seq its.toArray n }={ cls:=.type "list",data:=.seq its'.toArray n' }) (r:Vals ys its') (hz:ys.length<=sizeLine) (t:Nat) :
  Inv X pins σ (upd H p (.lst ys)) { s with heap:=s.heap.update p f,toks:=t }:=by
 have e:(s.heap.update p f).get? p=some { cls:=.type "list",data:=.seq its'.toArray n' }:=by
  rw [Heap.get?_update_self f ho (by rw [hf] <;> rfl),hf]
 refine I.write (x:=p) (e:=p) (by rw [h]; trivial) (.inl rfl) (fun b u hb q=>(Heap.get?_update_other _ _ (Ne.symm hb)).trans q) ⟨_,e⟩ ?_
 exact ⟨hz,its',n',r,e⟩
noncomputable def Bj:V->V->V->Hp->(Hp->Prop)->Prop:=fun o i v H Q=>∃ p xs k j,o=.ref p/\i=.int k/\H p=some (.lst xs)/\ixN xs.length k=some j/\Q (upd H p (.lst (xs.set j v)))
theorem set_list:j7 X Bj:=by
 intro pins s σ H o i v ov iv u Q I ro ri rv h
 obtain ⟨p,xs,k,j,rfl,rfl,hp,hj,q⟩:=h
 cases ro
 obtain ⟨t,rfl⟩:=ri
 obtain ⟨its,n,r,ho,hz⟩:=I.lst hp
 obtain ⟨h1,h2,h3,h4⟩:=n8 hj
 have hl:=r.length
 have hn:=gv
 have I':Inv X pins σ (upd H p (.lst (xs.set j v))) { s with heap:=s.heap.update p (Obj.mapSeq (·.setIfInBounds j u)) } :=
  I.xW hp ho (wz its n j u) (r.set rv j) (by rw [List.length_set]; exact hz) s.toks
 by_cases h0:0<=k
 ·have hk:k.toNat=j:=by
   rw [seqIndex_of h0 h4] at h1
   exact Option.some.inj h1
  exact PySem.W.ki_setAt ho h0 (by omega) (by rw [List.size_toArray,<- hl]; exact h4) (by rw [hk]; exact ⟨_,I',q⟩)
 ·have hk:(k+(its.toArray.size:Int)).toNat=j:=by
   rw [seqIndex_neg (by omega) h3] at h1
   rw [List.size_toArray,<- hl]
   exact Option.some.inj h1
  exact PySem.W.ki_setBack ho (by omega) (by rw [List.size_toArray,<- hl]; exact h3) (by omega) (by rw [hk]; exact ⟨_,I',q⟩)
theorem Aj (lo hi:Option Int) (n:Nat):(sliceBounds lo hi none n).1=((HT.sIx n 0 lo:Nat):Int)/\(sliceBounds lo hi none n).2.1=((HT.sIx n n hi:Nat):Int)/\(sliceBounds lo hi none n).2.2=1:=by
 refine ⟨?_,?_,rfl⟩
 ·cases lo with
  | none=>simp [sliceBounds,HT.sIx]
  | some i =>
   simp only [sliceBounds,HT.sIx,Option.getD_none,show (1:Int) > 0 by decide,if_true]
   by_cases h:i < 0
   ·simp only [h,if_true] <;> omega
   ·simp only [h,if_false] <;> omega
 ·cases hi with
  | none=>simp [sliceBounds,HT.sIx]
  | some i =>
   simp only [sliceBounds,HT.sIx,Option.getD_none,show (1:Int) > 0 by decide,if_true]
   by_cases h:i < 0
   ·simp only [h,if_true] <;> omega
   ·simp only [h,if_false] <;> omega
theorem tY (its:List Value) (lo hi:Option Int):slicePick its.toArray lo hi none=((its.drop (HT.sIx its.length 0 lo)).take (HT.sIx its.length its.length hi - HT.sIx its.length 0 lo)).toArray:=by
 obtain ⟨h1,h2,h3⟩:=Aj lo hi its.toArray.size
 unfold slicePick
 rw [h1,h2,h3]
 simp only [sliceRange_one,pick_run,List.size_toArray] <;> rfl
noncomputable def B9 (K:PySem.W.Frag):V->Option Int->Option Int->Hp->VK->Prop:=fun x lo hi H Q=>∃ a xs,x=.ref a/\SqL K H a xs/\∀ p,H p=none->Q (.ref p) (upd H p (.lst (cT xs lo hi)))
theorem nZ:SlR X (B9 X.K):=by
 intro pins s σ H x v vl vu lo hi sl Q I rx hs pl pu h
 obtain ⟨a,xs,rfl,hx,q⟩:=h
 cases rx
 obtain ⟨its,r,ht,hz⟩:=I.list hx
 have hlen:=r.length
 refine ⟨"list",_,slot_list_getitem.lookup,ht.isList.typeIs,?_⟩
 refine wpAny_getItem_list_slice ht.isList hs pl pu .none (by simp) ?_ (by rw [List.size_toArray] <;> omega)
 rw [tY,<- hlen]
 refine ⟨.ref s.heap.objs.size,_,I.laid (t':=s.toks) (o:=.lst (cT xs lo hi)) (fun b ob q=>Heap.get?_push_of_some _ q) (Nat.le_refl _) ?_,rfl,q _ (I.hok.fresh (Nat.le_refl _))⟩
 exact ⟨Nat.le_trans (rH xs lo hi) hz,_,0,(r.drop (HT.sIx xs.length 0 lo)).take (HT.sIx xs.length xs.length hi - HT.sIx xs.length 0 lo),Heap.get?_push_size _ rfl⟩
noncomputable def CJ:V->Bool
 | .non=>true
 | .bl _=>true
 | .int _=>true
 | .str _=>true
 | _=>false
theorem uL:bI X (.builtin "len") (fun xs H Q=>∃ p ys,xs=[.ref p]/\(SqL X.K H p ys\/SqT X.K H p ys)/\Q (.int ys.length) H):=by
 intro pins s σ H xs us Q I r h
 obtain ⟨p,ys,rfl,hq,q⟩:=h
 obtain ⟨u,rfl,rx⟩:=vals1 r
 cases rx
 have hn:=gv
 rcases hq with hq|hq
 ·obtain ⟨its,r',pl,hz⟩:=I.list hq
  have hlen:=r'.length
  exact Calls.call_len_list pl.isList (by simp only [List.size_toArray] <;> omega) ⟨.int ys.length,H,I.tok _,⟨s.toks+1,by rw [List.size_toArray,hlen]⟩,q⟩
 ·obtain ⟨its,r',pl,hz⟩:=I.tuple hq
  have hlen:=r'.length
  exact len_tuple pl (by simp only [List.size_toArray] <;> omega) ⟨.int ys.length,H,I.tok _,⟨s.toks+1,by rw [List.size_toArray,hlen]⟩,q⟩
theorem mR:bI X (.type "tuple") (fun xs H Q=>∃ p ys,xs=[.ref p]/\((SqL X.K H p ys/\∀ l,H l=none->Q (.ref l) (upd H l (.tup ys)))\/(SqT X.K H p ys/\Q (.ref p) H))):=by
 intro pins s σ H xs us Q I r h
 obtain ⟨p,ys,rfl,h⟩:=h
 obtain ⟨u,rfl,rx⟩:=vals1 r
 cases rx
 rcases h with ⟨hq,q⟩|⟨hq,q⟩
 ·obtain ⟨its,r',pl,hz⟩:=I.list hq
  have hlen:=r'.length
  refine call_tuple_list pl.isList (fun h' kp=>?_) (by simp only [List.size_toArray] <;> omega)
  have I1:Inv X pins σ H { s with heap:=h' }:=I.kept (t':=s.toks) kp
  have I2:Inv X pins σ (upd H h'.objs.size (.tup ys)) { s with heap:=h'.push { cls:=.type "tuple",data:=.seq its.toArray } } :=
   I1.laid (t':=s.toks) (fun b o e=>Heap.get?_push_of_some _ e) (Nat.le_refl _) (show bY X.prog X.w _ _ _ (.tup ys) from ⟨hz,its,r',IsTup.new _ _⟩)
  exact ⟨.ref h'.objs.size,_,I2,rfl,q _ (I1.hok.fresh (Nat.le_refl _))⟩
 ·obtain ⟨its,r',pl,hz⟩:=I.tuple hq
  exact call_tuple_same pl ⟨.ref p,H,I,rfl,q⟩
noncomputable def tyV (K:PySem.W.Frag) (T:String) (x:V) (H:Hp):Prop:=match x with
 | .str _=>T = "str"
 | .int _=>T = "int"
 | .ref p=>(T = "list"/\∃ xs,SqL K H p xs)\/(T = "tuple"/\∃ o,K.lookup p=some o/\o.cls=.type "tuple"/\o.dict=none) \/
   (T = "dict"/\((∃ kvs,H p=some (.dK kvs))\/∃ kvs,H p=some (.dT kvs)))\/(T = "set"/\∃ S n,H p=some (.set S n))
 | _=>False
theorem yo {pins:List (Addr × Obj)} {σ:St} {H:Hp} {s:Shared} {T:String} {x:V} {v:Value} (I:Inv X pins σ H s) (r:RelV x v) (ty:tyV X.K T x H) :
  s.TypeIs v T/\∀ a,v=.ref a->∃ ob,s.heap.get? a=some ob/\ob.dict=none:=by
 cases x with
 | str z =>
  obtain ⟨t,rfl⟩:=r
  cases (show T = "str" from ty)
  exact ⟨typeIs_str s z t,fun _ e=>nomatch e⟩
 | int i =>
  obtain ⟨t,rfl⟩:=r
  cases (show T = "int" from ty)
  exact ⟨typeIs_int s i t,fun _ e=>nomatch e⟩
 | ref p =>
  cases r
  rcases ty with ⟨rfl,xs,hq⟩|⟨rfl,o,hk,hc,hd⟩|⟨rfl,hk⟩|⟨rfl,S,n,hk⟩
  ·obtain ⟨its,_,pl,_⟩:=I.list hq
   refine ⟨pl.isList.typeIs,fun a e=>?_⟩
   cases e
   obtain ⟨o,n,e,c,hd,_⟩:=pl
   exact ⟨o,e,hd⟩
  ·refine ⟨⟨o,I.kIn p o hk,hc⟩,fun a e=>?_⟩
   cases e
   exact ⟨o,I.kIn _ o hk,hd⟩
  ·have z:∃ o,s.heap.get? p=some o/\o.ExactDict:=by
    rcases hk with ⟨kvs,hk⟩|⟨kvs,hk⟩
    ·obtain ⟨_,_,_,_,o,_,_,e,ex,_⟩:=I.hok p _ hk
     exact ⟨o,e,ex⟩
    ·obtain ⟨_,_,_,_,o,_,_,e,ex,_⟩:=I.hok p _ hk
     exact ⟨o,e,ex⟩
   obtain ⟨o,e,ex⟩:=z
   refine ⟨⟨o,e,ex.1⟩,fun a e2=>?_⟩
   cases e2
   exact ⟨o,e,ex.2.1⟩
  ·obtain ⟨o,_,_,_,e,ex,_⟩:=I.hok p _ hk
   refine ⟨⟨o,e,ex.1⟩,fun a e2=>?_⟩
   cases e2
   exact ⟨o,e,ex.2.1⟩
 | _=>exact False.elim ty
noncomputable def tBM (K:PySem.W.Frag) (T:String) (r:V->List V->Hp->VK->Prop) (to:TE) (t:TA):TE:=fun σ H Q=>to σ H fun x H1=>tyV K T x H1/\t σ H1 fun xs H2=>r x xs H2 Q
variable {o e:Expr} {es:List Expr} {to:TE} {t:TA} {name:Str} {apos cpos:Pos} {T id:String} {r:V->List V->Hp->VK->Prop}
theorem wW (pa:PlainAttrs T) (slot:Slot T name id) (hty:typeOf (.builtin id)=pure (.type "method_descriptor")) (hm:MtR X id r) (ho:PE X o to) (ha:PA X (e::es) t)
  (hbase:attributeBase o name X.env (eval o X.env)=eval o X.env:=by rfl)
  (hfew:((backTo cpos (starEach (e::es) X.env)).all (fun x=>!x.1)&&(backToKw cpos (keywordEach [] X.env)).all (fun x=>x.1.isSome)
  &&decide ((e::es).length+([]:List Keyword).length+(if ([]:List Keyword).isEmpty then 0 else 1) < 30))=true:=by rfl)
  (hline:(apos.endLine==cpos.line)=true:=by rfl) (hs:starEach (e::es) X.env=(false,eval e X.env)::starEach es X.env:=by rfl) (hplain:(backTo cpos (starEach es X.env)).any (·.1)=false:=by rfl) :
  PE X (.Call (.Attribute o name apos) (e::es) [] cpos) (tBM X.K T r to t):=by
 intro pins s σ H Q I h
 refine wpAny_Call_method_late hbase hfew hline rfl (thn (ho pins s σ H _ I h) fun v s1 ⟨x,H1,I1,r1,ty,q1⟩=>?_)
 obtain ⟨h1,h2⟩:=yo I1 r1 ty
 refine ⟨T,id,pa,slot,hty,h1,h2,?_⟩
 have hA:=ha cpos pins s1 σ H1 _ I1 q1
 rw [hs] at hA ⊢
 refine Calls.callWith_builtin (by show (false||(backTo cpos (starEach es X.env)).any (·.1))=false; rw [hplain] <;> rfl) (Calls.evalArgs_plain ?_)
 exact thn hA fun us s2 ⟨vs,H2,I2,r2,q2⟩=>hm pins s2 σ H2 x vs v us Q I2 r1 r2 q2
/- xs.append(e),list.index on a module's tuple .. are MtR facts of 06m -/
end
end L2
namespace L2
open PySem PySem.Spec PyProof.Rows
noncomputable def MtM (X:Cx) (id:String) (r:V->List V->Hp->VK->Prop):Prop :=
 ∀ (pins:List (Addr × Obj)) (s:Shared) (σ:St) (H:Hp) (x:V) (xs:List V) (v:Value) (us:List Value) (Q:VK),Inv X pins σ H s->RelV x v->Vals xs us->r x xs H Q ->
  wpAny (model X.prog X.w) X.A (call (.builtin id) (v::us)) (EP X pins σ Q) X.xe s
theorem Vals.one:∀ {x:V} {us:List Value},Vals [x] us->∃ u,us=[u]/\RelV x u
 | _,_,.cons r .nil=>⟨_,rfl,r⟩
theorem Vals.two:∀ {x y:V} {us:List Value},Vals [x,y] us->∃ u v,us=[u,v]/\RelV x u/\RelV y v
 | _,_,_,.cons r (.cons q .nil)=>⟨_,_,rfl,r,q⟩
theorem Vals.rep {xs:List V} {us:List Value} (h:Vals xs us):∀ k:Nat,Vals (List.replicate k xs).flatten (List.replicate k us).flatten
 | 0=>.nil
 | k+1=>by
  rw [List.replicate_succ,List.replicate_succ,List.flatten_cons,List.flatten_cons]
  exact Vals.append h (Vals.rep h k)
theorem foldl_rep (its:List Value):∀ (k:Nat) (acc:List Value),
  List.foldl (fun x1 x2=>x1++x2) acc.toArray (List.replicate k its.toArray)=(acc++(List.replicate k its).flatten).toArray
 | 0,acc=>by simp
 | k+1,acc=>by
  have e:acc.toArray++its.toArray=(acc++its).toArray:=by simp
  have e2:(acc++its)++(List.replicate k its).flatten=acc++(List.replicate (k+1) its).flatten:=by
   rw [List.replicate_succ,List.flatten_cons,List.append_assoc]
  rw [<- e2,<- foldl_rep its k (acc++its),<- e,List.replicate_succ,List.foldl_cons]
section
variable {X:Cx} {pins:List (Addr × Obj)} {σ:St} {H:Hp} {s:Shared} {l b:Addr} {xs ys zs:List V}
theorem Inv.r6 {its its':List Value} {n:Nat} {f:Array Value->Array Value} {t':Nat} (I:Inv X pins σ H s) (hH:H l=some (.lst xs))
  (e:s.heap.get? l=some { cls:=.type "list",data:=.seq its.toArray n }) (hf:f its.toArray=its'.toArray) (hv:Vals ys its') (hz:ys.length<=sizeLine) :
  Inv X pins σ (upd H l (.lst ys)) { s with heap:=s.heap.update l (Obj.mapSeq f),toks:=t' }:=by
 have q:=PySem.IsL.update e f
 rw [hf] at q
 refine I.write (x:=l) (e:=l) (by rw [hH]; exact trivial) (.inl rfl) (fun b' u hb hu=>(Heap.get?_update_other s.heap (Obj.mapSeq f) (Ne.symm hb)).trans hu) ⟨_,q⟩ ?_
 exact ⟨hz,its',_,hv,q⟩
theorem Inv.qG {its:List Value} {t':Nat} (I:Inv X pins σ H s) (hv:Vals ys its) (hz:ys.length<=sizeLine) :
  Inv X pins σ (upd H s.heap.objs.size (.lst ys)) { s with heap:=s.heap.push { cls:=.type "list",data:=.seq its.toArray },toks:=t' } :=
 I.laid (fun _ _ q=>Heap.get?_push_of_some _ q) (Nat.le_refl _) ⟨hz,its,0,hv,Heap.get?_push_size _ rfl⟩
theorem Inv.fresh (I:Inv X pins σ H s):H s.heap.objs.size=none:=I.hok.fresh (Nat.le_refl _)
theorem Inv.e_ (I:Inv X pins σ H s) (hH:H l=some (.lst xs)):xs.length<=sizeLine/\∃ (its:List Value) (n:Nat),Vals xs its/\xs.length=its.length/\s.heap.get? l=some { cls:=.type "list",data:=.seq its.toArray n }:=by
 obtain ⟨z,its,n,r,e⟩:=I.hok l _ hH
 exact ⟨z,its,n,r,r.length,e⟩
theorem sD {n:Nat} (h:n<=sizeLine):Builtin.List.listTooLong n=false:=by
 unfold Builtin.List.listTooLong
 exact decide_eq_false (by omega)
end
section
variable {X:Cx}
noncomputable def yL:V->List V->Hp->VK->Prop:=fun x vs H Q=>∃ l xs y,x=.ref l/\vs=[y]/\H l=some (.lst xs)/\xs.length < sizeLine/\Q .non (upd H l (.lst (xs++[y])))
theorem nR:MtM X "list.append" yL:=by
 intro pins s σ H x vs v us Q I rx rv h
 obtain ⟨l,xs,y,rfl,rfl,hH,hz,q⟩:=h
 cases rx
 obtain ⟨u,rfl,ru⟩:=rv.one
 obtain ⟨z,its,n,r,hl,e⟩:=I.e_ hH
 refine call_meets F.slot_list_append ⟨_,e,rfl⟩ F.entry_list_append (F.args_list_append_2 _ _) (PySem.list_append l its.toArray n u (by rw [List.size_toArray]; omega)) ⟨e,?_⟩
 refine ⟨.non,_,I.r6 (its':=its++[u]) hH e (by simp) (r.append (.cons ru .nil)) ?_,rfl,q⟩
 rw [List.length_append,List.length_singleton]
 omega
noncomputable def zH:V->List V->Hp->VK->Prop:=fun x vs H Q=>∃ l b xs zs,x=.ref l/\vs=[.ref b]/\H l=some (.lst xs)/\H b=some (.lst zs)/\xs.length+zs.length<=sizeLine/\Q .non (upd H l (.lst (xs++zs)))
theorem ua:MtM X "list.extend" zH:=by
 intro pins s σ H x vs v us Q I rx rv h
 obtain ⟨l,b,xs,zs,rfl,rfl,hH,hB,hz,q⟩:=h
 cases rx
 obtain ⟨u,rfl,ru⟩:=rv.one
 cases ru
 obtain ⟨z,its,n,r,hl,e⟩:=I.e_ hH
 obtain ⟨z2,its2,n2,r2,hl2,e2⟩:=I.e_ hB
 have hsz:its.toArray.size+its2.toArray.size<=sizeLine:=by rw [List.size_toArray,List.size_toArray]; omega
 have hlong:¬ (!its.toArray.isEmpty&&Builtin.List.listTooLong (its.toArray.size+its2.toArray.size))=true:=by
  rw [sD hsz,Bool.and_false]
  exact Bool.false_ne_true
 refine call_meets F.slot_list_extend ⟨_,e,rfl⟩ F.entry_list_extend (F.args_list_extend_2 _ _)
  (AutoSeq1.list_extend_list_list_0 l its.toArray n b its2.toArray n2 hlong (by rw [List.size_toArray]; omega) (by omega)) ⟨e,e2,?_⟩
 refine ⟨.non,_,I.r6 (its':=its++its2) hH e (by simp) (r.append r2) ?_,rfl,q⟩
 rw [List.length_append]
 omega
noncomputable def AD:R2:=fun x y H Q=>∃ l b xs zs,x=.ref l/\y=.ref b/\H l=some (.lst xs)/\H b=some (.lst zs)/\xs.length+zs.length<=sizeLine/\∀ p,H p=none->Q (.ref p) (upd H p (.lst (xs++zs)))
theorem zS:OpR X (binaryOp .Add) AD:=by
 intro pins s σ H x y v u Q I rx ry h
 obtain ⟨l,b,xs,zs,rfl,rfl,hH,hB,hz,q⟩:=h
 cases rx
 cases ry
 obtain ⟨z,its,n,r,hl,e⟩:=I.e_ hH
 obtain ⟨z2,its2,n2,r2,hl2,e2⟩:=I.e_ hB
 refine PySem.P.add_list e e2 ?_ (by rw [List.size_toArray,List.size_toArray]; omega)
 have ea:its.toArray++its2.toArray=(its++its2).toArray:=by simp
 rw [ea]
 exact ⟨.ref _,_,I.qG (t':=s.toks) (r.append r2) (by rw [List.length_append]; omega),rfl,q _ I.fresh⟩
noncomputable def yq:R2:=fun x y H Q=>∃ l k xs,x=.ref l/\y=.int k/\H l=some (.lst xs)/\-(2 ^ 63)<=k/\k < 2 ^ 63/\xs.length * k.toNat<=sizeLine /\
 ∀ p,H p=none->Q (.ref p) (upd H p (.lst (List.replicate k.toNat xs).flatten))
theorem len_rep {α:Type} (xs:List α) (k:Nat):(List.replicate k xs).flatten.length=k * xs.length:=by
 induction k with
 | zero=>simp
 | succ k ih=>rw [List.replicate_succ,List.flatten_cons,List.length_append,ih,Nat.succ_mul,Nat.add_comm]
theorem yI:OpR X (binaryOp .Mult) yq:=by
 intro pins s σ H x y v u Q I rx ry h
 obtain ⟨l,k,xs,rfl,rfl,hH,h1,h2,hz,q⟩:=h
 cases rx
 obtain ⟨t,rfl⟩:=ry
 obtain ⟨z,its,n,r,hl,e⟩:=I.e_ hH
 have hlen:its.toArray.size * k.toNat<=sizeLine:=by rw [List.size_toArray,<- hl]; exact hz
 have hcap:¬ its.toArray.size * k.toNat > (2 ^ 63 - 1) / 8:=by
  have:(sizeLine:Nat)<=(2 ^ 63 - 1) / 8:=by decide
  omega
 have hfit:¬ (!Builtin.List.listFitsIndex k)=true:=by
  rw [fitsIndex_both h1 h2]
  exact Bool.false_ne_true
 have hlong:¬ Builtin.List.listTooLong (its.toArray.size * k.toNat)=true:=by
  rw [sD hlen]
  exact Bool.false_ne_true
 have hnew:List.foldl (fun x1 x2=>x1++x2) #[] (List.replicate (if its.toArray.isEmpty=true then 0 else k.toNat) its.toArray)=(List.replicate k.toNat its).flatten.toArray:=by
  have f0:∀ m:Nat,List.foldl (fun x1 x2=>x1++x2) #[] (List.replicate m its.toArray)=(List.replicate m its).flatten.toArray:=fun m=>by
   have:=foldl_rep its m []
   rw [List.nil_append] at this
   exact this
  rw [f0]
  cases its with
  | nil=>simp
  | cons a r'=>rw [if_neg (by simp)]
 refine wpAny_binaryOp_repeat_ref (T:="list") (U:="int") (by decide) ⟨_,e,rfl⟩ (fun s'=>typeIs_int s' k t) noFill_list_mul F.fills_int_mul F.slot_int_rmul repeat_list F.slot_int_index.lookup
  (call_meets F.slot_int_rmul (typeIs_int s k t) F.entry_int_rmul (F.args_int_rmul_2 _ _) (int___rmul___int_list k t l its.toArray n)
   ⟨e,rfl,⟨_,e,rfl⟩,call_meets F.slot_list_mul ⟨_,e,rfl⟩ F.entry_list_mul (F.args_list_mul_2 _ _) (AutoListH.list___mul___list_int_3 l its.toArray n k t hfit hcap hlong) ⟨e,?_⟩⟩)
 rw [hnew]
 exact ⟨.ref _,_,I.qG (t':=s.toks) (r.rep k.toNat) (by rw [len_rep,Nat.mul_comm]; exact hz),rfl,q _ I.fresh⟩
end
section
variable {prog:Program} {w:World} {A:Around} {E:Value->Shared->Prop} {s:Shared}
end
section
variable {X:Cx}
end
end L2
namespace Att
open PySem PySem.W PySem.Calls PyProof.Rows
theorem Dm {P:Params} {h:Heap}:∀ (ns:List Int) (vs:List Value),WellAll P h vs (ns.map WData.int)->IntsAre vs ns:=by
 intro ns
 induction ns with
 | nil =>
  intro vs w
  rw [List.map_nil] at w
  cases w
  exact .nil
 | cons n ns ih =>
  intro vs w
  rw [List.map_cons] at w
  cases w with
  | cons a b =>
   cases a
   exact .cons _ _ (ih _ b)
theorem Ak {l:OpenLaw} {n:Nat} (hn:l.most=some n) {P:Params} {h:Heap} {args:List WData} {vals:List Value}
  (hpre:l.row.toRowW.claim.pre args=true) (hwl:WellAll P h vals args) :
  ∃ a vs ns,vals=[Value.ref a]/\args=[WData.list (ns.map WData.int)]/\h.get? a=some { cls:=.type "list",data:=.seq vs.toArray }/\IntsAre vs ns/\ns.length<=n:=by
 have hsh:WShape.hasAll [] args [.list .int]=true:=(pre_splitW hpre).1
 have hc:l.pre.holds [] { args:=args }=true:=(pre_splitW hpre).2
 obtain ⟨d,r,rfl,h1,h2⟩:=hasAllW_cons hsh
 obtain rfl:=hasAllW_nil h2
 obtain ⟨xs,rfl,h3⟩:=hasW_list h1
 obtain ⟨ns,rfl⟩:=items_int h3
 have hlen:ns.length<=n:=by
  unfold OpenLaw.pre at hc
  have h4:(WTm.not (.lt (.lit (.int (n:Int))) (.len (.arg 0)))).holds [] { args:=[.list (ns.map .int)] }=true:=by
   have h4:=(holds_andW hc).1
   rw [hn] at h4
   exact h4
  have h5:=condW_of h4 (w_not (w_lt w_lit (w_len_list (w_arg rfl))))
  rw [List.length_map] at h5
  refine Nat.le_of_not_lt fun q=>?_
  have q':(n:Int) < ((ns.length:Nat):Int):=by omega
  first
   | (rw [decide_eq_true q'] at h5; exact absurd h5 (by decide))
   | (simp at h5; omega)
 cases hwl with
 | cons w1 w2 =>
  cases w2
  cases w1 with
  | list ho hall=>exact ⟨_,_,ns,rfl,rfl,ho,Dm ns _ hall,hlen⟩
theorem u9 (l:OpenLaw) (args:List WData):l.row.toRowW.claim.post args (.bool true) args=true :=
 postW_of (r:=l.row.toRowW) (X:=(true==true))
  (show WShape.has [] (.bool true) .bool=true by first|rfl|decide|simp [WShape.has,WShape.arms,WShape.armsAll])
  (show (WTm.eq .res (.lit (.bool true))).value [] { args:=args,res:=some (.bool true),after:=args }=some (.bool (true==true)) from w_eq_bool (w_res rfl) w_lit) rfl
theorem vX {l:OpenLaw} {n:Nat} {q:Program} {loose:List Str} {XP:(Str->Option Value)->Heap->Prop} {YP:World->Heap->Prop} {d:DefRec}
  (hn:l.most=some n) (hdf:d.params.defaults=[])
  (call:∀ (w:World) (s₀ s₁:Shared) (mg mb:Str->Option Value) (fa:Addr) (o:Obj) (pm cd doc:Value) (a:Addr) (vs:List Value) (ns:List Int),
   Ground q loose [] XP w s₀ mg mb s₁.heap->YP w s₁.heap ->
   s₁.heap.get? fa=some o->o.data=.func (docDef d.name d.params d.body d.scope pm cd doc)->s₁.heap.CodeRec cd d.name->mg d.name=some (.ref fa) ->
   s₁.heap.get? a=some { cls:=.type "list",data:=.seq vs.toArray }->IntsAre vs ns->ns.length<=n->s₁.gens=#[] ->
   codeAny (model l.prog w) callerA (.call (.ref fa) ⟨[.ref a],[]⟩) (fun r s'=>r=.ok (.ret (.bool true))/\OldK s₁.heap s'.heap/\s'.os=s₁.os/\AllBare s'.gens) s₁) :
  WalkO q loose XP YP l.row.toRowW d [] (fun f vs=>PySem.call f vs):=by
 intro w s₀ s₁ mg mb G Y fa o pm cd doc dV kV ho hd hcd hD hmg hg args vals as hpre hlay hrd hwl hlo
 obtain rfl:dV=.none:=Dflts.none hD hdf
 obtain rfl:kV=.none:=Dflts.noKw hD
 obtain ⟨a,vs,ns,rfl,rfl,hobj,hints,hlen⟩:=Ak hn hpre hwl
 refine enter_call (codeAny_mono (call w s₀ s₁ mg mb fa o pm cd doc a vs ns G Y ho (fd_plain hd) hcd hmg hobj hints hlen hg) fun r s' hq=>?_)
 obtain ⟨rfl,h2,h3,h4⟩:=hq
 exact ⟨.inl ⟨.bool true,.bool true,[],rfl,fun _=>rfl,.bool true,u9 l _,fun _=>⟨List.Pairwise.nil,fun _ hm=>(nomatch hm)⟩⟩,h2,h3,h4⟩
section
variable {prog:Program} {w:World} {A:Around} {E:Value->Shared->Prop} {s:Shared} {K:Frag}
end
end Att
namespace L2
open PySem PySem.Spec PyProof.Rows
theorem lZ:∀ {vs:List Value} {ns:List Int},IntsAre vs ns->Vals (ns.map V.int) vs
 | _,_,.nil=>.nil
 | _,_,.cons n t h=>.cons ⟨t,rfl⟩ (lZ h)
noncomputable def gb (H:Hp):Prop:=∀ b,H b=none\/∃ o xs,H b=some (.frz o (.lst xs))
theorem xY {P:Program} {w:World} {K:PySem.W.Frag} {mg mb:Str->Option Value} {CX:CXT} {k:Nat} {fa a:Addr} {fd:FuncData} {x:Str} {sp:Sp} {s₁:Shared} {vs:List Value} {ns:List Int}
  (KX:K.In s₁.heap) (hns:s₁.heap.Ns mainGlobals mg) (hb:s₁.heap.Ns builtinsNs mb) (hbb:∀ x:Str,x≠"__name__"->mb x=bootBuiltins x) (hlim:s₁.heap.NoLimit) (hg:s₁.gens=#[])
  (ha:s₁.heap.get? a=some { cls:=.type "list",data:=.seq vs.toArray }) (hi:IntsAre vs ns) (hl:ns.length<=sizeLine) (hr:bF k callerA)
  (F:∀ base:Heap,K.In base->base.Ns mainGlobals mg->c_ P w K mg base CX k fa fd [x] sp) (hbind:∀ (s:Shared) (u:Value),BindsTo s fd ⟨[u],[]⟩ [(x,u)])
  (hsp:∀ H:Hp,gb H->SqL K H a (ns.map V.int)->sp [.ref a] H (fun v _=>v=.bl true) fun _ _ _=>False)
  (hCX:∀ H e s',CX [] H s₁ (fun _ _ _=>False) e s'->False) :
  codeAny (model P w) callerA (.call (.ref fa) ⟨[.ref a],[]⟩) (fun r s'=>r=.ok (.ret (.bool true))/\OldK s₁.heap s'.heap/\s'.os=s₁.os/\AllBare s'.gens) s₁:=by
 have rv:=lZ hi
 have lenV:=hi.length
 have core:∀ H:Hp,gb H->SqL K H a (ns.map V.int)->HOk P w H s₁.heap->(∀ b,H b≠none->b=a)->(H a≠none->K.lookup a=none) ->
   codeAny (model P w) callerA (.call (.ref fa) ⟨[.ref a],[]⟩) (fun r s'=>r=.ok (.ret (.bool true))/\OldK s₁.heap s'.heap/\s'.os=s₁.os/\AllBare s'.gens) s₁:=by
  intro H hO hS hok hA hK
  have base_of:∀ {b:Addr} {o:Obj},s₁.heap.get? b=some o->H b=none->(cY s₁.heap H).get? b=some o:=fun e n=>CY e n
  have noA:∀ {b:Addr} {o:Obj} {es:Array DictEntry} {ep:Nat},s₁.heap.get? b=some o->o.data=.dict es ep->H b=none:=fun {b o es ep} e d=>by
   cases q:H b with
   | none=>rfl
   | some u =>
    have e':b=a:=hA b (by rw [q]; simp)
    subst e'
    rw [ha] at e; cases e
    have d':Data.seq vs.toArray _=Data.dict es ep:=d
    cases d'
  have nsK:∀ {b:Addr} {m:Str->Option Value},s₁.heap.Ns b m->(cY s₁.heap H).Ns b m:=fun {b m} ⟨o,es,ep,e,d,r⟩=>⟨o,es,ep,base_of e (noA e d),d,r⟩
  have hKb:K.In (cY s₁.heap H):=fun b o e=>base_of (KX b o e) (by
   cases q:H b with
   | none=>rfl
   | some u =>
    have e':b=a:=hA b (by rw [q]; simp)
    subst e'
    rw [hK (by rw [q]; simp)] at e; cases e)
  have hM:Mod K mg (cY s₁.heap H):=⟨hKb,nsK hns,⟨mb,nsK hb,hbb⟩,let ⟨mc,h1,h2⟩:=hlim; ⟨mc,nsK h1,h2⟩⟩
  have e0:i8 P w K mg (cY s₁.heap H) callerA [] s₁ H:=⟨rfl,hM,fun b o e=>yS e,Nat.le_of_eq (wR _ _),trivial,fun b hb=>absurd (show b∈([]:List Addr) from hb) (by simp),hok,.of_eq hg⟩
  refine codeAny_mono ((F _ hKb (nsK hns)).run callerA [] s₁ H ⟨[.ref a],[]⟩ [.ref a] [.ref a] _ _ hr e0 (hbind s₁ (.ref a)) (.cons rfl .nil) (hsp H hO hS)) fun r s' h=>?_
  cases r with
  | error e=>exact (hCX H e s' h).elim
  | ok fl =>
   cases fl with
   | next=>exact False.elim h
   | brk=>exact False.elim h
   | cont=>exact False.elim h
   | ret u =>
    obtain ⟨v,H',os,bare,un,hok',r',q⟩:=h
    have q':v=.bl true:=q
    subst q'
    obtain rfl:u=Value.bool true:=r'
    refine ⟨rfl,OldK.of_keep fun b o e=>?_,os,bare⟩
    cases q:H b with
    | none=>exact un.keep b o e q (by intro z; exact absurd (show b∈([]:List Addr) from z) (by simp)) (by simp)
    | some u =>
     rcases hO b with z|⟨ob,xs,z⟩
     ·rw [q] at z; cases z
     ·have z2:=un.frzs b ob _ z
      obtain ⟨e1,_⟩:=hok b _ z
      obtain ⟨e2,_⟩:=hok' b _ z2
      rw [e] at e1; cases e1
      exact e2
 cases hk:K.lookup a with
 | some o =>
  have e:=KX a o hk
  rw [ha] at e
  cases e
  refine core (fun _=>none) (fun _=>.inl rfl) (.inr ⟨_,vs.toArray,_,hk,rfl,rfl,rfl,by rw [List.size_toArray,lenV]; exact hl,by simpa using rv⟩) (fun b u z=>by have z':(none:Option HO)=some u:=z; cases z') (fun b z=>absurd rfl z) fun z=>absurd rfl z
 | none =>
  refine core (fun b=>if b=a then some (.frz { cls:=.type "list",data:=.seq vs.toArray } (.lst (ns.map V.int))) else none) (fun b=>?_) (.inl (.inr ⟨{ cls:=.type "list",data:=.seq vs.toArray },if_pos rfl⟩)) (fun b u z=>?_) (fun b z=>?_) fun _=>hk
  ·by_cases hb:b=a
   ·exact .inr ⟨_,_,if_pos hb⟩
   ·exact .inl (if_neg hb)
  ·by_cases hb:b=a
   ·have z':=(if_pos hb).symm.trans z
    cases z'
    subst hb
    exact ⟨ha,by rw [List.length_map]; exact hl,vs,_,rv,ha⟩
   ·have z':=(if_neg hb).symm.trans z
    cases z'
  ·by_cases hb:b=a
   ·exact hb
   ·exact absurd (if_neg hb) z
end L2
namespace L2
open PySem PySem.Spec PyProof.Rows
theorem p8 {l:PySem.W.OpenLaw} {n k:Nat} {q:Program} {loose:List Str} {XP:(Str->Option Value)->Heap->Prop} {YP:World->Heap->Prop} {d:DefRec} {K:Params->PySem.W.Frag} {CX:World->CXT} {sp:World->Sp} {x:Str}
  (hn:l.most=some n) (hn2:n<=sizeLine) (hdf:d.params.defaults=[]) (hr:bF k callerA)
  (hY:∀ (w:World) (h:Heap),YP w h->(K w.params).In h)
  (F:∀ (w:World) (mg:Str->Option Value) (fa:Addr) (h:Heap),(K w.params).In h->h.Ns mainGlobals mg->mg d.name=some (.ref fa) ->
   ∃ fd:FuncData,(∀ (s:Shared) (u:Value),BindsTo s fd ⟨[u],[]⟩ [(x,u)]) /\
    ∀ base:Heap,(K w.params).In base->base.Ns mainGlobals mg->c_ l.prog w (K w.params) mg base (CX w) k fa fd [x] (sp w))
  (hsp:∀ (w:World) (H:Hp) (a:Addr) (ns:List Int),ns.length<=n->gb H->SqL (K w.params) H a (ns.map V.int)->sp w [.ref a] H (fun v _=>v=.bl true) fun _ _ _=>False)
  (hCX:∀ (w:World) (H:Hp) (s:Shared) (e:Value) (s':Shared),CX w [] H s (fun _ _ _=>False) e s'->False) :
  PySem.W.WalkO q loose XP YP l.row.toRowW d [] (fun f vs=>PySem.call f vs):=by
 refine Att.vX hn hdf fun w s₀ s₁ mg mb fa o pm cd doc a vs ns G Y ho hd hcd hmg hobj hints hlen hg=>?_
 have KX:=hY w _ Y
 obtain ⟨fd,hb,hF⟩:=F w mg fa _ KX G.T.g hmg
 exact xY KX G.T.g G.T.b G.T.builtins G.T.nolimit hg hobj hints (Nat.le_trans hlen hn2) hr hF hb (fun H hO hS=>hsp w H a ns hlen hO hS) fun H e s'=>hCX w H s₁ e s'
theorem E2 {l:PySem.W.OpenLaw} {n k:Nat} {q:Program} {loose:List Str} {XP:(Str->Option Value)->Heap->Prop} {YP:World->Heap->Prop} {d:DefRec} {K:Params->PySem.W.Frag} {CX:CXT} {sp:PySem.W.Frag->Sp} {x:Str}
  (hn:l.most=some n) (hn2:n<=sizeLine) (hdf:d.params.defaults=[]) (hr:bF k callerA)
  (hY:∀ (w:World) (h:Heap),YP w h->(K w.params).In h)
  (F:∀ (w:World) (mg:Str->Option Value) (fa:Addr) (h:Heap),(K w.params).In h->h.Ns mainGlobals mg->mg d.name=some (.ref fa) ->
   ∃ fd:FuncData,(∀ (s:Shared) (u:Value),BindsTo s fd ⟨[u],[]⟩ [(x,u)]) /\
    ∀ base:Heap,(K w.params).In base->base.Ns mainGlobals mg->c_ l.prog w (K w.params) mg base CX k fa fd [x] (sp (K w.params)))
  (hsp:∀ (K:PySem.W.Frag) (H:Hp) (a:Addr) (ns:List Int),ns.length<=n->gb H->SqL K H a (ns.map V.int)->sp K [.ref a] H (fun v _=>v=.bl true) fun _ _ _=>False)
  (hCX:∀ (H:Hp) (s:Shared) (e:Value) (s':Shared),CX [] H s (fun _ _ _=>False) e s'->False) :
  PySem.W.WalkO q loose XP YP l.row.toRowW d [] (fun f vs=>PySem.call f vs) :=
 p8 (K:=K) (CX:=fun _=>CX) (sp:=fun w=>sp (K w.params)) hn hn2 hdf hr hY F (fun w H a ns h1 h2 h3=>hsp (K w.params) H a ns h1 h2 h3) fun _ H s e s'=>hCX H s e s'
end L2
namespace L2
open PySem PySem.Spec PyProof.Rows
noncomputable def cG (s:Stmt):Arguments:=match s with
 | .FunctionDef _ a _ _ _ _ _ _ _ _=>a
 | _=>{ posonlyargs:=[],args:=[],vararg:=none,kwonlyargs:=[],kw_defaults:=[],kwarg:=none,defaults:=[] }
noncomputable def gD (s:Stmt):List Stmt:=match s with
 | .FunctionDef _ _ b _ _ _ _ _ _ _=>b
 | _=>[]
noncomputable def gf (s:Stmt):Scope:=match s with
 | .FunctionDef _ _ _ _ _ _ sc _ _ _=>sc
 | _=>{ kind:=.function,names:=[],isGenerator:=false,isCoroutine:=false }
abbrev CX0:CXT:=fun _ _ _ _ _ _=>False
abbrev E0:XK:=fun _ _ _=>False
structure Fun (K:PySem.W.Frag) (x qual:Str) (st:Stmt) (f:Addr) (fd:FuncData):Prop where
 ex:∃ (oc:Value) (od:Option Addr) (kV doc pm:Value) (an:Option Addr) (cdv ct:Value) (osl:Array (Option Value)),
  fd=PySem.W.fnOf x qual (cG st) (gD st) (gf st) .none kV doc pm an cdv ct/\K.lookup f=some ⟨oc,od,.func fd,osl⟩/\PySem.W.codeIn K cdv qual=true
 kp:PySem.W.keepIn K (.ref f)=true
section
variable {P:Program} {w:World} {K:PySem.W.Frag} {mg:Str->Option Value} {base:Heap}
theorem Fun.binds {x qual:Str} {st:Stmt} {f:Addr} {fd:FuncData} {ps:List Str} (F:Fun K x qual st f fd)
  (h:∀ (kV doc pm:Value) (an:Option Addr) (cdv ct:Value) (us:List Value),us.length=ps.length->bindArgs (PySem.W.fnOf x qual (cG st) (gD st) (gf st) .none kV doc pm an cdv ct) ⟨us,[]⟩=pure (ps.zip us)):Binds K fd ps []:=by
 obtain ⟨oc,od,kV,doc,pm,an,cdv,ct,osl,rfl,lk,hcd⟩:=F.ex
 exact .all (h kV doc pm an cdv ct)
theorem vN {x qual:Str} {st:Stmt} {f:Addr} {oc:Value} {od an:Option Addr} {osl:Array (Option Value)} {kV doc pm cdv ct:Value} (l:K.lookup f=some ⟨oc,od,.func (PySem.W.fnOf x qual (cG st) (gD st) (gf st) .none kV doc pm an cdv ct),osl⟩)
  (c:PySem.W.codeIn K cdv qual=true) (k:PySem.W.keepIn K (.ref f)=true):Fun K x qual st f (PySem.W.fnOf x qual (cG st) (gD st) (gf st) .none kV doc pm an cdv ct):=⟨⟨oc,od,kV,doc,pm,an,cdv,ct,osl,rfl,l,c⟩,k⟩
end
section
variable {X:Cx}
end
end L2

namespace L2
open PySem PySem.Spec PyProof.Rows
section
variable {prog:Program} {w:World} {A:Around} {R:Result->Shared->Prop} {s:Shared}
theorem Dk {elt target iter:Expr} {ifs:List Expr} {scope:Scope} {pos:Pos} {it acc:Value} {env:Env} (I:Nat->Shared->Prop)
  (turn:∀ n s,I n s->wpAny (model prog w) A (pyNext it) (fun r s₁=>match r with
   | none=>R (.ok .next) s₁
   | some v=>wpAny (model prog w) A (letOwnedTupleGo target it v) (fun _ s₁'=>wpAny (model prog w) A (assign target env v) (fun _ s₂ =>
     wpAny (model prog w) A (forIn ifs true fun c r=>if r=true then do let ok <- isTrue c env (eval c env); pure (ForInStep.yield ok) else pure (ForInStep.yield r)) (fun ok s₃ =>
      if ok=true then wpAny (model prog w) A (eval elt env) (fun x s₄ =>
       wpAny (model prog w) A (call (.builtin "list.append") [acc,x]) (fun _ s₅=>∃ m,m < n/\I m s₅) (fun _ _=>False) s₄) (fun _ _=>False) s₃
      else ∃ m,m < n/\I m s₃) (fun _ _=>False) s₂) (fun _ _=>False) s₁') (fun _ _=>False) s₁) (fun _ _=>False) s)
  (n:Nat) (h:I n s) :
  codeAny (model prog w) A (.compLoop (.ListComp elt [⟨target,iter,ifs,0⟩] scope pos) 0 it acc env) R s:=by
 refine codeAny_loop rfl I (fun n s hI=>?_) n h
 show wpAny _ A ((compTurn (.ListComp elt [⟨target,iter,ifs,0⟩] scope pos) 0 it acc env).onRaise (fun x=>do noteFrame x env; theTreesLotGoes x)) _ _ s
 refine wpAny_noted ?_
 rw [compTurn_list]
 refine wpAny_bind (wpAny_standAt (wpAny_bind (wpAny_mono (turn n s hI) (fun r s₁ h₁=>?_) fun _ _ h'=>h'.elim)))
 cases r with
 | none=>exact wpAny_pure h₁
 | some v =>
  refine wpAny_bind (wpAny_mono h₁ (fun _ s₁' h₁'=>?_) fun _ _ h'=>h'.elim)
  refine wpAny_bind (wpAny_mono h₁' (fun _ s₂ h₂=>wpAny_bind (wpAny_mono h₂ (fun ok s₃ h₃=>?_) fun _ _ h'=>h'.elim)) fun _ _ h'=>h'.elim)
  cases ok with
  | false=>exact wpAny_pure ⟨rfl,h₃⟩
  | true =>
   exact wpAny_bind (wpAny_bind (wpAny_mono h₃ (fun x s₄ h₄=>wpAny_bind (wpAny_mono h₄ (fun _ s₅ h₅=>wpAny_pure (wpAny_pure ⟨rfl,h₅⟩)) fun _ _ h'=>h'.elim)) fun _ _ h'=>h'.elim))
end
theorem jK {env:Env}:∀ (names:List (Str × NameKind)) (cs:List (Str × Addr)),(∀ y∈names,y.2=.free->∃ c,env.cells.lookup y.1=some c) ->
  (∀ x c,cs.lookup x=some c->env.cells.lookup x=some c) ->
  ∃ cl,(forIn names cs fun (p:Str × NameKind) (r:List (Str × Addr))=>if (p.2==NameKind.free)=true then (do let c <- cellOf env p.1; pure (ForInStep.yield ((p.1,c)::r))) else pure (ForInStep.yield r):Sem (List (Str × Addr)))=pure cl /\
   (∀ x c,cl.lookup x=some c->env.cells.lookup x=some c)/\(∀ x c,cs.lookup x=some c->cl.lookup x=some c)/\∀ y∈names,y.2=.free->cl.lookup y.1=env.cells.lookup y.1
 | [],cs,_,hc=>⟨cs,rfl,hc,fun _ _ h=>h,fun y hy=>absurd hy (by simp)⟩
 | (x,k)::r,cs,h,hc=>by
  have hr:∀ y∈r,y.2=.free->∃ c,env.cells.lookup y.1=some c:=fun y hy=>h y (List.mem_cons_of_mem _ hy)
  by_cases hk:k=.free
  ·subst hk
   obtain ⟨c,e⟩:=h (x,.free) List.mem_cons_self rfl
   have hc':∀ z d,((x,c)::cs).lookup z=some d->env.cells.lookup z=some d:=fun z d q=>by
    by_cases hz:z=x
    ·subst hz
     rw [List.lookup_cons_self] at q
     cases q; exact e
    ·rw [List.lookup_cons,show (z==x)=false from beq_eq_false_iff_ne.mpr hz] at q
     exact hc z d q
   obtain ⟨cl,e1,e2,e3,e4⟩:=jK r ((x,c)::cs) hr hc'
   refine ⟨cl,?_,e2,fun z d q=>?_,fun y hy hf=>?_⟩
   ·rw [List.forIn_cons]
    simp only [beq_self_eq_true,if_true]
    unfold cellOf
    rw [e]
    simp only [pure_bind]
    exact e1
   ·by_cases hz:z=x
    ·subst hz
     have:=hc z d q
     rw [e] at this
     exact e3 z d (by rw [List.lookup_cons_self]; exact this)
    ·exact e3 z d (by rw [List.lookup_cons,show (z==x)=false from beq_eq_false_iff_ne.mpr hz]; exact q)
   ·rcases List.mem_cons.mp hy with z|z
    ·subst z
     rw [e3 x c (List.lookup_cons_self),e]
    ·exact e4 y z hf
  ·have hb:(k==NameKind.free)=false:=beq_eq_false_iff_ne.mpr hk
   obtain ⟨cl,e1,e2,e3,e4⟩:=jK r cs hr hc
   refine ⟨cl,?_,e2,e3,fun y hy hf=>?_⟩
   ·rw [List.forIn_cons]
    simp only [hb,Bool.false_eq_true,if_false,pure_bind]
    exact e1
   ·rcases List.mem_cons.mp hy with z|z
    ·subst z; exact absurd hf hk
    ·exact e4 y z hf
theorem r8 {env:Env} {scope:Scope} (h:∀ y∈scope.names,y.2=.free->∃ c,env.cells.lookup y.1=some c) :
  ∃ cl,closureFor scope env=pure cl/\(∀ x c,cl.lookup x=some c->env.cells.lookup x=some c)/\∀ y∈scope.names,y.2=.free->cl.lookup y.1=env.cells.lookup y.1:=by
 obtain ⟨cl,e1,e2,_,e4⟩:=jK (env:=env) scope.names [] h (fun x c q=>by cases q)
 refine ⟨cl,?_,e2,e4⟩
 unfold closureFor
 show ((forIn scope.names ([]:List (Str × Addr)) fun (p:Str × NameKind) (r:List (Str × Addr))=>if (p.2==NameKind.free)=true then (do let c <- cellOf env p.1; pure (ForInStep.yield ((p.1,c)::r))) else pure (ForInStep.yield r):Sem (List (Str × Addr)))>>=fun s=>pure s)=pure cl
 rw [e1]
 rfl
noncomputable def aK (X:Cx) (scope:Scope) (cl:List (Str × Addr)) (N':List Str) (fp:List Addr) (s3:Shared) (H3:Hp):Cx :=
 { X with N:=N',s₀:=s3,H₀:=H3,env:=compEnvC scope cl s3.heap.objs.size X.env,outer:=X.stack,stack:=X.stack,ex:=fp,fn:=fun _=>false,pn:=[],xe:=fun _ _=>False }
noncomputable def PF (X:Cx) (ifs:List Expr) (t:TT):Prop :=
 ∀ (pins:List (Addr × Obj)) (s:Shared) (σ:St) (H:Hp) (Q:Bool->Hp->Prop),Inv X pins σ H s->t σ H Q ->
  wpAny (model X.prog X.w) X.A (forIn ifs true fun c r=>if r=true then do let ok <- isTrue c X.env (eval c X.env); pure (ForInStep.yield ok) else pure (ForInStep.yield r)) (TP X pins σ Q) X.xe s
theorem mK {X:Cx}:PF X [] (fun _ H Q=>Q true H):=fun _ _ _ H _ I h=>wpAny_tests_nil ⟨H,I,h⟩
theorem oG {X:Cx} {c:Expr} {t:TT} (hc:PT X c t):PF X [c] t:=fun pins s σ H Q I h=>wpAny_tests_one (hc pins s σ H Q I h)
noncomputable def jx (k:Nat) (wi:TI) (g:TG) (tt:TT) (te:TE):TE:=fun σ H Q=>wi σ H fun J H1=>∀ l,H1 l=none->∃ W:Nat->Nat->Hp->Prop,(∃ m,W 0 m (upd H1 l (.lst [])))/\∀ i m H,W i m H ->
 (J.stop i H/\Q (.ref l) H)\/(J.go i H/\∀ x H',J.yld i H x H'->g x (σ++List.replicate k none) H' fun σ2 H2=>(∀ (j:Nat) v,(σ++List.replicate k none)[j]?=some (some v)->σ2[j]?=some (some v))/\tt σ2 H2 fun b H3 =>
  if b=true then te σ2 H3 fun y H4=>∃ xs,H4 l=some (.lst xs)/\xs.length < sizeLine/\∃ m',m' < m/\W (i+1) m' (upd H4 l (.lst (xs++[y]))) else ∃ m',m' < m/\W (i+1) m' H3)
structure dJ (X:Cx) (scope:Scope) (N':List Str) (k:Nat):Prop where
 fr:∀ y∈scope.names,y.2=.free->X.env.kindOf y.1=some .cell\/X.env.kindOf y.1=some .free
 nocell:∀ y∈scope.names,y.2≠.cell
 kind:scope.kind=.function
 names:∀ y∈scope.names,y.2=.local->scope.names.lookup y.1=some .local
 len:N'.length=X.N.length+k
 old:∀ (i:Nat) (x:Str),i < X.N.length->N'[i]?=some x->Vis (relabel scope X.env) x->X.N[i]?=some x/\(x,NameKind.free)∈scope.names/\(relabel scope X.env).names.lookup x≠some .local
section
variable {X:Cx} {scope:Scope} {N':List Str} {k:Nat} {cl:List (Str × Addr)} {pins:List (Addr × Obj)} {σ:St} {H:Hp} {s3 s4:Shared} {fp:List Addr}
theorem s_ (C:dJ X scope N' k) (hc:X.calm=true) (I:Inv X pins σ H s3) (hf:∀ b∈fp,b6 X pins H b) (hfl:∀ b∈fp,b < s3.heap.objs.size) (hcl1:∀ x c,cl.lookup x=some c->X.env.cells.lookup x=some c)
  (hcl2:∀ y∈scope.names,y.2=.free->cl.lookup y.1=X.env.cells.lookup y.1) (h':Heap) (hns:h'.Ns s3.heap.objs.size fun _=>none) (hk:∀ b o,s3.heap.get? b=some o->h'.get? b=some o) :
  Inv (aK X scope cl N' fp s3 H) [] (σ++List.replicate k none) H { s3 with heap:=h' }:=by
 have fpold:∀ b∈fp,∀ o,X.base.get? b≠some o:=fun b hb o e=>by
  rcases (hf b hb).2.2.2.1 with z|z
  ·exact I.ok.noex b o e z
  ·exact absurd (Nat.lt_of_lt_of_le (Heap.lt_size (I.ok.bs b o e).1) z) (Nat.lt_irrefl _)
 have ok:(aK X scope cl N' fp s3 H).Ok:=by
  refine ⟨I.ok.mod,C.kind,I.ok.glob,I.ok.blt,Nat.le_refl _,fun x y c h1 h2=>I.ok.inj x y c (hcl1 x c h1) (hcl1 y c h2),fun x hx=>?_,fun x c hfn=>absurd (show false=true from hfn) (by decide),I.ok.hd,I.ok.frames,.inl rfl,fun b hb=>?_,I.bs,Nat.le_trans I.ok.bsz I.sz,fun b o e hb=>fpold b hb o e,fun b hb hb2=>?_,I.stack,I.nM⟩
  ·have hx':(relabel scope X.env).names.lookup x=some .cell\/(relabel scope X.env).names.lookup x=some .free:=hx
   have:(x,NameKind.free)∈scope.names:=by
    have all:∀ (ns:List (Str × NameKind)),(∀ y∈ns,y.2≠.cell)->((ns.map fun (n,k)=>if (k==.free&&X.env.scope.kind==.function&&X.env.kindOf n==some .cell) then (n,NameKind.cell) else (n,k)).lookup x=some .cell\/(ns.map fun (n,k)=>if (k==.free&&X.env.scope.kind==.function&&X.env.kindOf n==some .cell) then (n,NameKind.cell) else (n,k)).lookup x=some .free)->(x,NameKind.free)∈ns:=by
     intro ns
     induction ns with
     | nil=>intro _ h; rcases h with h|h <;> simp at h
     | cons y r ih =>
      intro hn h
      obtain ⟨n,kd⟩:=y
      have hr:=ih (fun z hz=>hn z (List.mem_cons_of_mem _ hz))
      simp only [List.map_cons] at h
      by_cases hxn:x=n
      ·subst hxn
       by_cases hkf:kd=.free
       ·subst hkf; exact List.mem_cons_self
       ·have hb:(kd==NameKind.free)=false:=beq_eq_false_iff_ne.mpr hkf
        simp only [hb,Bool.false_and,Bool.false_eq_true,if_false,List.lookup_cons_self] at h
        rcases h with h|h
        ·exact absurd (Option.some.inj h) (hn (x,kd) List.mem_cons_self)
        ·exact absurd (Option.some.inj h) hkf
      ·have hb:(x==n)=false:=beq_eq_false_iff_ne.mpr hxn
       refine List.mem_cons_of_mem _ (hr ?_)
       by_cases hcnd:(kd==NameKind.free&&X.env.scope.kind==.function&&X.env.kindOf n==some .cell)=true
       ·simp only [if_pos hcnd,List.lookup_cons,hb] at h
        exact h
       ·simp only [if_neg hcnd,List.lookup_cons,hb] at h
        exact h
    exact all scope.names C.nocell hx'
   obtain ⟨c,e⟩:=I.ok.has x (C.fr _ this rfl)
   exact ⟨c,(hcl2 _ this rfl).trans e⟩
  ·obtain ⟨f0,f1,f2,f3,f4,f5⟩:=hf b hb
   refine ⟨?_,fun x c e=>f4 x c (hcl1 x c e)⟩
   intro z
   have hz:b=s3.heap.objs.size:=z
   exact absurd (hfl b hb) (by rw [hz]; exact Nat.lt_irrefl _)
  ·obtain ⟨f0,f1,f2,f3,f4,f5⟩:=hf b hb
   rcases List.mem_cons.mp (I.lU b hb2) with z|z
   ·exact f1 z
   ·exact f2 z
 refine ⟨ok,rfl,I.bare,Un.kept hk,⟨fun _=>none,hns,fun i x v e1 e2 e3=>?_⟩,fun x c e=>?_,I.hok.fresh (Nat.le_refl _),fun x c e=>I.freeC x c (hcl1 x c e),fun p hp=>absurd (show p∈([]:List (Addr × Obj)) from hp) (by simp),I.hok.kept hk,?_⟩
 ·have hi:i < σ.length:=by
   by_cases hi:i < σ.length
   ·exact hi
   ·rw [List.getElem?_append_right (by omega),List.getElem?_replicate] at e2
    split at e2 <;> cases e2
  rw [List.getElem?_append_left hi] at e2
  obtain ⟨o1,o2,o3⟩:=C.old i x (by rw [<- I.len]; exact hi) e1 e3
  obtain ⟨m,hn,hl⟩:=I.loc
  have hkk:=C.fr _ o2 rfl
  obtain ⟨u,r,l⟩:=hl i x v o1 e2 (by rcases hkk with q|q; exact .inr (.inl q); exact .inr (.inr q))
  refine ⟨u,r,?_⟩
  rcases l with ⟨q,_⟩|⟨q,c,e,z⟩
  ·rcases hkk with q'|q' <;> (rw [q] at q'; cases q')
  ·refine .inr ⟨?_,c,(hcl2 _ o2 rfl).trans e,?_⟩
   ·rcases e3 with e3|e3|e3
    ·exact absurd e3 o3
    ·exact .inl e3
    ·exact .inr e3
   ·obtain ⟨o,ho,hd⟩:=z
    exact ⟨o,hk _ _ ho,hd⟩
 ·obtain ⟨v,o,ho,hd⟩:=I.cell x c (hcl1 x c e)
  exact ⟨v,o,hk _ _ ho,hd⟩
 ·show (σ++List.replicate k none).length=N'.length
  rw [List.length_append,List.length_replicate,I.len,C.len]
theorem n_ {elt iter tg:Expr} {ifs:List Expr} {pos:Pos} {g:TG} {tt:TT} {te:TE} {it:Addr} {tn:Nat->Heap->Prop} {J:It} {s2:Shared} {Q:VK} {E:Value->Shared->Prop} (C:dJ X scope N' k) (hc:X.calm=true)
  (hg:∀ cl fp s3 H3,PG (aK X scope cl N' fp s3 H3) tg g) (htt:∀ cl fp s3 H3,PF (aK X scope cl N' fp s3 H3) ifs tt) (hte:∀ cl fp s3 H3,PE (aK X scope cl N' fp s3 H3) elt te)
  (hcl1:∀ x c,cl.lookup x=some c->X.env.cells.lookup x=some c) (hcl2:∀ y∈scope.names,y.2=.free->cl.lookup y.1=X.env.cells.lookup y.1)
  (I2:Inv X pins σ H s2) (T:Turn X.prog X.w X.K tg J fp it tn) (st2:tn 0 s2.heap) (f2:∀ b∈fp,b6 X pins H b)
  (h2:∀ l,H l=none->∃ W:Nat->Nat->Hp->Prop,(∃ m,W 0 m (upd H l (.lst [])))/\∀ i m H,W i m H ->
   (J.stop i H/\Q (.ref l) H)\/(J.go i H/\∀ x H',J.yld i H x H'->g x (σ++List.replicate k none) H' fun σ2 H2=>(∀ (j:Nat) v,(σ++List.replicate k none)[j]?=some (some v)->σ2[j]?=some (some v))/\tt σ2 H2 fun b H3 =>
    if b=true then te σ2 H3 fun y H4=>∃ xs,H4 l=some (.lst xs)/\xs.length < sizeLine/\∃ m',m' < m/\W (i+1) m' (upd H4 l (.lst (xs++[y]))) else ∃ m',m' < m/\W (i+1) m' H3))
  {R:Value->Addr->Result->Shared->Prop} (hR:∀ l c H' s' m,Inv X pins σ H' s'->Q (.ref l) H'->s'.heap.Ns c m->b6 X pins H' c->R (.ref l) c (.ok .next) s') :
  wpAny (model X.prog X.w) X.A (newList []) (fun acc s₃=>wpAny (model X.prog X.w) X.A (newFunctionEnv scope X.env.globals cl [] X.env.qual none .none (some X.env)) (fun cenv s₄ =>
   codeAny (model X.prog X.w) X.A (.compStart (.ListComp elt [⟨tg,iter,ifs,0⟩] scope pos) 0 (.ref it) acc { cenv with scope:=relabel scope X.env }) (R acc cenv.locals) s₄) E s₃) E s2:=by
 refine wpAny_newObj_type ?_
 have hl0:H s2.heap.objs.size=none:=I2.hok.fresh (Nat.le_refl _)
 obtain ⟨W,⟨m0,w0⟩,turn⟩:=h2 s2.heap.objs.size hl0
 have I3:Inv X pins σ (upd H s2.heap.objs.size (.lst [])) { s2 with heap:=s2.heap.push { cls:=.type "list",data:=.seq ([]:List Value).toArray } } :=
  I2.laid (t':=s2.toks) (fun b u e=>Heap.get?_push_of_some _ e) (Nat.le_refl _) ⟨by show 0<=_; omega,[],0,.nil,Heap.get?_push_size _ rfl⟩
 have obj2:∀ b∈fp,∃ o,s2.heap.get? b=some o/\∀ v,o.data≠.cell v:=T.obj _ _ st2
 have lt2:∀ b∈fp,b < s2.heap.objs.size:=fun b hb=>let ⟨o,e,_⟩:=obj2 b hb; Heap.lt_size e
 have f3:∀ b∈fp,b6 X pins (upd H s2.heap.objs.size (.lst [])) b:=fun b hb=>⟨by rw [aE (Nat.ne_of_lt (lt2 b hb))]; exact (f2 b hb).1,(f2 b hb).2⟩
 generalize hs3:({ s2 with heap:=s2.heap.push { cls:=.type "list",data:=.seq ([]:List Value).toArray } }:Shared)=s3 at I3 ⊢
 have st3:tn 0 s3.heap:=T.keep _ _ _ st2 fun b hb o e=>by rw [<- hs3]; exact Heap.get?_push_of_some _ e
 generalize hH3:upd H s2.heap.objs.size (.lst [])=H3 at I3 w0 f3
 generalize s2.heap.objs.size=l at turn ⊢ w0
 clear hs3 hH3
 have obj3:∀ b∈fp,∃ o,s3.heap.get? b=some o/\∀ v,o.data≠.cell v:=T.obj _ _ st3
 have lt3:∀ b∈fp,b < s3.heap.objs.size:=fun b hb=>let ⟨o,e,_⟩:=obj3 b hb; Heap.lt_size e
 refine wpAny_newFunctionEnv C.nocell (by intro y hy; simp at hy) (fun h₁ hns₁ hsb₁=>?_) C.kind
 have hk1:∀ b o,s3.heap.get? b=some o->h₁.get? b=some o:=fun b o e=>hsb₁.extBut b o (Nat.ne_of_lt (Heap.lt_size e)) (Heap.get?_push_of_some _ e)
 have I4:Inv (aK X scope cl N' fp s3 H3) [] (σ++List.replicate k none) H3 { s3 with heap:=h₁,toks:=s3.toks+([]:List (Str × Value)).length } :=
  (s_ C hc I3 f3 lt3 hcl1 hcl2 h₁ hns₁ hk1).tok _
 have st4:tn 0 h₁:=T.keep _ _ _ st3 fun b _ o e=>hk1 b o e
 have stat:∀ {H':Hp},(∀ b∈fp,H' b=none)->∀ b∈fp,b6 (aK X scope cl N' fp s3 H3) [] H' b:=fun {H'} hn b hb =>
  ⟨hn b hb,(I4.ok.exf b hb).1,I4.ok.exfs b hb,.inl hb,(I4.ok.exf b hb).2,fun p hp=>absurd (show p∈([]:List (Addr × Obj)) from hp) (by simp)⟩
 have loop:∀ s4:Shared,s4={ s3 with heap:=h₁,toks:=s3.toks+([]:List (Str × Value)).length } ->
   codeAny (model X.prog X.w) X.A (.compLoop (.ListComp elt [⟨tg,iter,ifs,0⟩] scope pos) 0 (.ref it) (.ref l) (compEnvC scope cl s3.heap.objs.size X.env)) (R (.ref l) s3.heap.objs.size) s4:=by
  rintro s4 rfl
  refine Dk (env:=(aK X scope cl N' fp s3 H3).env) (fun n s'=>∃ i H',Inv (aK X scope cl N' fp s3 H3) [] (σ++List.replicate k none) H' s'/\tn i s'.heap/\(∀ b∈fp,H' b=none)/\W i n H') ?_ m0 ⟨0,H3,I4,st4,fun b hb=>(f3 b hb).1,w0⟩
  rintro n s5 ⟨i,H5,I5,st5,fr5,w5⟩
  rcases turn i n H5 w5 with ⟨stop,qn⟩|⟨go,step⟩
  ·refine thn (T.done (aK X scope cl N' fp s3 H3) rfl rfl rfl hc i [] s5 _ H5 _ I5 (stat fr5) st5 stop) fun r s6 ⟨hr,I6⟩=>?_
   subst hr
   obtain ⟨m,hnm,_⟩:=I6.loc
   have I7:Inv X pins σ H5 s6:=I3.uH (ch:=fp) I6.os I6.base I6.hok I6.bare fun b hb=>⟨(f3 b hb).2.2.2.1,(f3 b hb).2.1,(f3 b hb).2.2.2.2.1,(f3 b hb).2.2.2.2.2⟩
   exact hR l _ H5 s6 m I7 qn hnm (I3.eT (Nat.le_refl _) I6.free)
  ·refine thn (T.item (aK X scope cl N' fp s3 H3) rfl rfl rfl hc i [] s5 _ H5 _ I5 (stat fr5) st5 go) fun r s6 ⟨u,hr,h6⟩=>?_
   subst hr
   refine thn h6 fun _ s7 ⟨x,H7,I7,r7,y7,st7,fr7⟩=>?_
   have I7':=I7.pinned (stat fr7) (T.obj _ _ st7)
   refine thn (hg cl fp s3 H3 _ s7 _ H7 x u _ I7' r7 (step x H7 y7)) fun _ s8 ⟨σ8,H8,I8,w8,q8⟩=>?_
   refine thn (htt cl fp s3 H3 _ s8 σ8 H8 _ I8 q8) fun b s9 ⟨H9,I9,q9⟩=>?_
   have again:∀ {H':Hp} {s':Shared},Inv (aK X scope cl N' fp s3 H3) ([]++fX fp s7.heap) σ8 H' s'->(∃ m',m' < n/\W (i+1) m' H') ->
     ∃ m,m < n/\∃ i H',Inv (aK X scope cl N' fp s3 H3) [] (σ++List.replicate k none) H' s'/\tn i s'.heap/\(∀ b∈fp,H' b=none)/\W i m H':=fun {H' s'} I' ⟨m',hm,w'⟩=>by
    refine ⟨m',hm,i+1,H',(I'.ic).weak (by rw [I'.len]; exact I4.len) w8,T.keep _ _ _ st7 fun b hb o e=>(I'.pin (b,o) (List.mem_append_right _ (List.mem_append_right _ (iO hb e)))).1,fun b hb=>?_,w'⟩
    obtain ⟨o,e,d⟩:=T.obj _ _ st7 b hb
    exact (I'.pin (b,o) (List.mem_append_right _ (List.mem_append_right _ (iO hb e)))).2.1
   cases b with
   | false=>exact again I9 (by simpa using q9)
   | true =>
    rw [if_pos rfl]
    rw [if_pos rfl] at q9
    refine thn (hte cl fp s3 H3 _ s9 σ8 H9 _ I9 q9) fun y s10 ⟨yv,H10,I10,r10,xs,hl10,hz,q10⟩=>?_
    refine thn (nR (X:=aK X scope cl N' fp s3 H3) _ s10 σ8 H10 (.ref l) [yv] (.ref l) [y] (fun _ H'=>∃ m',m' < n/\W (i+1) m' H') I10 rfl (.cons r10 .nil) ⟨l,xs,yv,rfl,rfl,hl10,hz,q10⟩) fun _ s11 ⟨_,H11,I11,_,q11⟩=>again I11 q11
 exact codeAny_compStart_list (loop _ rfl) (T.self _ 0 _ _ _ st4 (loop _ rfl))
theorem D8 {elt iter tg:Expr} {ifs:List Expr} {pos:Pos} {wi:TI} {g:TG} {tt:TT} {te:TE} (C:dJ X scope N' k) (hc:X.calm=true) (hi:PI X tg iter wi)
  (hg:∀ cl fp s3 H3,PG (aK X scope cl N' fp s3 H3) tg g) (htt:∀ cl fp s3 H3,PF (aK X scope cl N' fp s3 H3) ifs tt) (hte:∀ cl fp s3 H3,PE (aK X scope cl N' fp s3 H3) elt te)
  (hs:∀ x,foldedSetIterable iter X.env x=pure x:=by intro _; rfl):PE X (.ListComp elt [⟨tg,iter,ifs,0⟩] scope pos) (jx k wi g tt te):=by
 intro pins s σ H Q I h
 rw [eval_ListComp]
 obtain ⟨cl,e1,e2,e3⟩:=r8 (env:=X.env) (scope:=scope) fun y hy hf=>I.ok.has y.1 (C.fr y hy hf)
 refine wpAny_comprehension_free (use:=none) rfl hs e1 C.kind C.names (thn (hi pins s σ H _ I h) fun v s1 h1=>thn h1 fun itv s2 h2=>?_)
 obtain ⟨it,fp,tn,J,H2,e,I2,T,st2,f2,h2⟩:=h2
 subst e
 refine n_ (R:=fun acc c=>compPost (model X.prog X.w) X.A X.xe none (EP X pins σ Q) acc c) C hc hg htt hte e2 e3 I2 T st2 f2 h2 fun l c H' s' m I' q hn fc=>?_
 obtain ⟨f0,f1,f2,f3,f4,f5⟩:=fc
 exact ⟨m,hn,fun h' hsb=>⟨.ref l,H',I'.turned (t':=s'.toks) (fun b o hb e=>(hsb.2 b hb).trans e) f0 f1 f3 f4 f5,rfl,q⟩⟩
theorem vD {elt iter tg:Expr} {ifs:List Expr} {pos:Pos} {wi:TI} {g:TG} {tt:TT} {te:TE} {j:Nat} {y:Str} {py spos:Pos} (C:dJ X scope N' k) (hc:X.calm=true) (hi:PI X tg iter wi)
  (hg:∀ cl fp s3 H3,PG (aK X scope cl N' fp s3 H3) tg g) (htt:∀ cl fp s3 H3,PF (aK X scope cl N' fp s3 H3) ifs tt) (hte:∀ cl fp s3 H3,PE (aK X scope cl N' fp s3 H3) elt te)
  (hN:X.N.Nodup) (hj:X.N[j]?=some y) (hy:X.env.scope.names.lookup y=some .local)
  (hsw:swapsWith (.ListComp elt [⟨tg,iter,ifs,0⟩] scope pos) (some (.Name y py)) spos.line X.env=pure true)
  (hs:∀ x,foldedSetIterable iter X.env x=pure x:=by intro _; rfl):PS X (.Assign [.Name y py] (.ListComp elt [⟨tg,iter,ifs,0⟩] scope pos) spos) (kW (jx k wi g tt te) (gE j)):=by
 intro pins s σ H D I h
 rw [exec_Assign_Name_used _ _ _ _ hsw]
 refine wpAny_bind (wpAny_standAt (wpAny_bind ?_))
 show wpAny _ X.A (do let _ <- comprehension (.ListComp elt [⟨tg,iter,ifs,0⟩] scope pos) scope X.env _ (newList []) false (eval iter X.env) (some (assign (.Name y py) X.env))) _ _ s
 obtain ⟨cl,e1,e2,e3⟩:=r8 (env:=X.env) (scope:=scope) fun y hy hf=>I.ok.has y.1 (C.fr y hy hf)
 refine wpAny_bind (wpAny_mono (wpAny_comprehension_free (use:=some (assign (.Name y py) X.env)) (Q:=fun _ s'=>SP X pins D .next s') rfl hs e1 C.kind C.names
  (thn (hi pins s σ H _ I h) fun v s1 h1=>thn h1 fun itv s2 h2=>?_)) (fun _ s' hq=>wpAny_pure (wpAny_pure hq)) fun _ _ e=>e)
 obtain ⟨it,fp,tn,J,H2,e,I2,T,st2,f2,h2⟩:=h2
 subst e
 refine n_ (Q:=fun x H1=>gE j x σ H1 D.nx) (R:=fun acc c=>compPost (model X.prog X.w) X.A X.xe (some (assign (.Name y py) X.env)) (fun _ s'=>SP X pins D .next s') acc c) C hc hg htt hte e2 e3 I2 T st2 f2 h2 fun l c H' s' m I' q hn fc=>?_
 obtain ⟨f0,f1,f2,f3,f4,f5⟩:=fc
 show wpAny _ X.A (assign (.Name y py) X.env (.ref l)) _ _ _
 refine wpAny_assign_Name (rC I' hN hj (.inl hy) (v:=.ref l) rfl (fun s'' I'' ch=>?_) (.inr hy))
 obtain ⟨a,hsb,ha⟩:=ch
 have hac:c≠a:=by
  rcases ha with z|z
  ·rw [z]; exact f1
  ·exact fun w=>f4 y a z w.symm
 refine ⟨m,hn.sameBut hsb hac,fun h' hsb2=>⟨_,H',I''.turned (t':=s''.toks) (fun b o hb e=>(hsb2.2 b hb).trans e) f0 f1 f3 f4 f5,q⟩⟩
end
end L2

namespace NEQ
open PySem PySem.SeqAt
open AutoSeq1 (wpAny_loadPart')
open MeetsSeq MeetsSeq2 MeetsSeq3 SeqRoads2
theorem Cd (p q:Addr) (us ws:Array Value) (n1 n2:Nat) (d1 d2:Option Addr) (z1 z2:Array (Option Value)) (hlen:us.size=ws.size) (same:Nat->Bool) (left:Nat) :
  ∀ at_:Nat,us.size - at_=left->Meets (Builtin.«list.__eq__.loop» ⟨[.ref p,.ref q,rawInt at_,rawInt 3],[]⟩)
   (fun A R st=>st.heap.get? p=some { cls:=.type "list",dict:=d1,data:=.seq us n1,slots:=z1 }/\st.heap.get? q=some { cls:=.type "list",dict:=d2,data:=.seq ws n2,slots:=z2 } /\
    (∀ j (h1:j < us.size) (h2:j < ws.size),EqAt A.in1 st us[j] ws[j] (same j))/\R (.ok (.ret (.bool (!((List.range us.size).drop at_).all same)))) st):=by
 induction left with
 | zero =>
  intro at_ hk prog w A R st hyp
  obtain ⟨hp,g,dr,tk,os⟩:=st
  obtain ⟨hl,hb,he,fin⟩:=hyp
  wp_walk using wpAny_loadPart' hl,wpAny_loadPart' hb
  have no1:us[((at_:Nat):Int).toNat]?=none:=by simp; omega
  have no2:ws[((at_:Nat):Int).toNat]?=none:=by simp; omega
  have nil:(List.range us.size).drop at_=[]:=by simp; omega
  rw [nil] at fin
  rw [no1,no2]
  wp_walk using wpAny_loadPart' hl,wpAny_loadPart' hb
  show R (.ok (.ret (.bool (us.size != ws.size)))) _
  rw [hlen]
  simpa using fin
 | succ left ih =>
  intro at_ hk prog w A R st hyp
  obtain ⟨hp,g,dr,tk,os⟩:=st
  obtain ⟨hl,hb,he,fin⟩:=hyp
  wp_walk using wpAny_loadPart' hl,wpAny_loadPart' hb
  have lt1:at_ < us.size:=by omega
  have lt2:at_ < ws.size:=by omega
  have yes1:us[((at_:Nat):Int).toNat]?=some us[at_]:=by simp [lt1]
  have yes2:ws[((at_:Nat):Int).toNat]?=some ws[at_]:=by simp [lt2]
  have cons:(List.range us.size).drop at_=at_::(List.range us.size).drop (at_+1):=by simp [List.drop_eq_getElem_cons,lt1]
  have up:((at_:Int)+1)=((at_+1:Nat):Int):=by push_cast; rfl
  rw [cons,List.all_cons] at fin
  rw [yes1,yes2]
  refine wpAny_bind (he at_ lt1 lt2 prog w _ _ ?_)
  cases ev:same at_ with
  | true =>
   rw [ev] at fin
   wp_walk
   rw [up]
   exact ⟨plainId_quiet plain_eq_loop _,codeAny_builtin entry_eq_loop (by
    rw [Around.under_plainId plain_eq_loop _]
    exact ih (at_+1) (by omega) prog w A R _ ⟨hl,hb,he,by simpa using fin⟩)⟩
  | false =>
   rw [ev] at fin
   wp_walk using wpAny_loadPart' hl,wpAny_loadPart' hb
   rw [yes1,yes2]
   wp_walk
   simpa using fin
theorem yM (p q:Addr) (us ws:Array Value) (n1 n2:Nat) (d1 d2:Option Addr) (z1 z2:Array (Option Value)) (hlen:us.size=ws.size) (same:Nat->Bool) :
  Meets (Builtin.«list.__ne__» ⟨[.ref p,.ref q],[]⟩)
   (fun A R st=>st.heap.get? p=some { cls:=.type "list",dict:=d1,data:=.seq us n1,slots:=z1 }/\st.heap.get? q=some { cls:=.type "list",dict:=d2,data:=.seq ws n2,slots:=z2 } /\
    (∀ j (h1:j < us.size) (h2:j < ws.size),EqAt A.in1 st us[j] ws[j] (same j))/\R (.ok (.ret (.bool (!(List.range us.size).all same)))) st):=by
 intro prog w A R st hyp
 obtain ⟨hp,g,dr,tk,os⟩:=st
 obtain ⟨hl,hb,he,fin⟩:=hyp
 have f3:=AutoSeq1.sub_list_list
 have hne:¬ (us.size != ws.size)=true:=by simp [hlen]
 wp_walk using wpAny_loadPart' hl,wpAny_loadPart' hb
 exact ⟨plainId_quiet plain_eq_loop _,codeAny_builtin entry_eq_loop (by
  rw [Around.under_plainId plain_eq_loop _]
  exact Cd p q us ws n1 n2 d1 d2 z1 z2 hlen same _ 0 rfl prog w A R _ ⟨hl,hb,he,by simpa using fin⟩)⟩
theorem yu (p q:Addr) (us ws:Array Value) (n1 n2:Nat) (d1 d2:Option Addr) (z1 z2:Array (Option Value)) (hlen:(us.size != ws.size)=true) :
  Meets (Builtin.«list.__ne__» ⟨[.ref p,.ref q],[]⟩)
   (fun _ R st=>st.heap.get? p=some { cls:=.type "list",dict:=d1,data:=.seq us n1,slots:=z1 }/\st.heap.get? q=some { cls:=.type "list",dict:=d2,data:=.seq ws n2,slots:=z2 } /\
    R (.ok (.ret (.bool true))) st) :=
 .of_wp fun prog w A R st hyp=>by
  obtain ⟨hp,g,dr,tk,os⟩:=st
  obtain ⟨hl,hb,fin⟩:=hyp
  have f3:=AutoSeq1.sub_list_list
  wp_walk using wpAny_loadPart' hl,wpAny_loadPart' hb
  exact ⟨_,rfl,fin⟩
theorem uO (p q:Addr) (us ws:Array Value) (n1 n2:Nat) (d1 d2:Option Addr) (z1 z2:Array (Option Value)) (same:Nat->Bool) :
  Meets (Builtin.«tuple.__ne__» ⟨[.ref p,.ref q],[]⟩)
   (fun A R st=>st.heap.get? p=some { cls:=.type "tuple",dict:=d1,data:=.seq us n1,slots:=z1 }/\st.heap.get? q=some { cls:=.type "tuple",dict:=d2,data:=.seq ws n2,slots:=z2 } /\
    (∀ j (h1:j < us.size) (h2:j < ws.size),EqAt A.in1 st us[j] ws[j] (same j)) /\
    R (.ok (.ret (.bool (!((List.range (min us.size ws.size)).all same&&us.size==ws.size))))) st) :=
 .of_wp fun prog w A R st hyp=>by
  obtain ⟨hp,g,dr,tk,os⟩:=st
  obtain ⟨hl,hb,he,fin⟩:=hyp
  have f2:=AutoSeq1.sub_tuple_tuple
  have zl:(us.toList.zip ws.toList).length=min us.size ws.size:=by simp
  wp_walk using wpAny_loadPart' hl,wpAny_loadPart' hb,wpAny_forIn_list _ (fun more b s'=>b.1=none/\s'=⟨hp,g,dr,tk,os⟩/\∃ i,more=(us.toList.zip ws.toList).drop i /\
   R (.ok (.ret (.bool (!(((List.range (min us.size ws.size)).drop i).all same&&us.size==ws.size))))) ⟨hp,g,dr,tk,os⟩) _
  case turn =>
   rintro ⟨y,x⟩ more b s' ⟨hb',rfl,i,hz,hR⟩
   have lt:i < (us.toList.zip ws.toList).length:=by
    rcases Nat.lt_or_ge i (us.toList.zip ws.toList).length with h'|h'
    ·exact h'
    ·rw [List.drop_of_length_le h'] at hz; cases hz
   have hm:i < min us.size ws.size:=zl ▸ lt
   have h1:i < us.size:=Nat.lt_of_lt_of_le hm (Nat.min_le_left _ _)
   have h2:i < ws.size:=Nat.lt_of_lt_of_le hm (Nat.min_le_right _ _)
   rw [List.drop_eq_getElem_cons lt] at hz
   injection hz with pair hmore
   have hy:y=us[i]:=by have:=congrArg Prod.fst pair; simpa using this
   have hx:x=ws[i]:=by have:=congrArg Prod.snd pair; simpa using this
   subst hy hx
   have cons:(List.range (min us.size ws.size)).drop i=i::(List.range (min us.size ws.size)).drop (i+1):=by simp [List.drop_eq_getElem_cons,hm]
   rw [cons,List.all_cons] at hR
   refine wpAny_bind (he i h1 h2 prog w _ _ ?_)
   cases ev:same i with
   | true =>
    rw [ev] at hR
    wp_walk
    exact ⟨rfl,rfl,i+1,hmore,by simpa using hR⟩
   | false =>
    rw [ev] at hR
    wp_walk
    exact ⟨_,rfl,by simpa using hR⟩
  case fin =>
   rintro ⟨b1,b2⟩ s' ⟨hb',rfl,i,hz,hR⟩
   simp only at hb'
   subst hb'
   have ge:min us.size ws.size<=i:=by
    rcases Nat.lt_or_ge i (us.toList.zip ws.toList).length with h'|h'
    ·rw [List.drop_eq_getElem_cons h'] at hz; cases hz
    ·exact zl ▸ h'
   rw [List.drop_of_length_le (by simpa using ge)] at hR
   wp_walk
   exact ⟨_,rfl,by simpa [Builtin.Tuple.tupleCompareSizes,bne] using hR⟩
  case h =>
   exact ⟨rfl,rfl,0,rfl,by simpa using fin⟩
section
variable {prog:Program} {w:World} {A:Around} {E:Value->Shared->Prop} {s:Shared}
theorem C8 {l b:Addr} {us ws:Array Value} {same:Nat->Bool} {Q:Value->Shared->Prop} (hl:s.heap.IsList l us) (hb:s.heap.IsList b ws) (hlen:us.size=ws.size) (hu:A.units < cLine)
  (he:∀ j (h1:j < us.size) (h2:j < ws.size),EqAt A.in1 s us[j] ws[j] (same j)) (h:Q (.bool (!(List.range us.size).all same)) s):wpAny (model prog w) A (compareOp .NotEq (.ref l) (.ref b)) Q E s:=by
 obtain ⟨⟨c1,d1,t1,z1⟩,o1,k1,n1,e1⟩:=id hl
 obtain ⟨⟨c2,d2,t2,z2⟩,o2,k2,n2,e2⟩:=id hb
 simp only at k1 e1 k2 e2
 subst k1 e1 k2 e2
 exact richCompare_meets_room (op:=.NotEq) ⟨_,o1,rfl⟩ ⟨_,o2,rfl⟩ F.slot_list_ne F.entry_list_ne (F.args_list_ne_2 _ _) (yM l b us ws n1 n2 d1 d2 z1 z2 hlen same) ⟨o1,o2,he,⟨(fun x=>nomatch x),h⟩⟩ hu
theorem Cv {l b:Addr} {us ws:Array Value} {Q:Value->Shared->Prop} (hl:s.heap.IsList l us) (hb:s.heap.IsList b ws) (hlen:(us.size != ws.size)=true) (hu:A.units < cLine)
  (h:Q (.bool true) s):wpAny (model prog w) A (compareOp .NotEq (.ref l) (.ref b)) Q E s:=by
 obtain ⟨⟨c1,d1,t1,z1⟩,o1,k1,n1,e1⟩:=id hl
 obtain ⟨⟨c2,d2,t2,z2⟩,o2,k2,n2,e2⟩:=id hb
 simp only at k1 e1 k2 e2
 subst k1 e1 k2 e2
 exact richCompare_meets_room (op:=.NotEq) ⟨_,o1,rfl⟩ ⟨_,o2,rfl⟩ F.slot_list_ne F.entry_list_ne (F.args_list_ne_2 _ _) (yu l b us ws n1 n2 d1 d2 z1 z2 hlen) ⟨o1,o2,⟨(fun x=>nomatch x),h⟩⟩ hu
theorem Cb {l b:Addr} {us ws:Array Value} {same:Nat->Bool} {Q:Value->Shared->Prop} (hl:s.heap.IsTuple l us) (hb:s.heap.IsTuple b ws) (hu:A.units < cLine)
  (he:∀ j (h1:j < us.size) (h2:j < ws.size),EqAt A.in1 s us[j] ws[j] (same j)) (h:Q (.bool (!((List.range (min us.size ws.size)).all same&&us.size==ws.size))) s):wpAny (model prog w) A (compareOp .NotEq (.ref l) (.ref b)) Q E s:=by
 obtain ⟨⟨c1,d1,t1,z1⟩,o1,k1,n1,e1⟩:=id hl
 obtain ⟨⟨c2,d2,t2,z2⟩,o2,k2,n2,e2⟩:=id hb
 simp only at k1 e1 k2 e2
 subst k1 e1 k2 e2
 exact richCompare_meets_room (op:=.NotEq) ⟨_,o1,rfl⟩ ⟨_,o2,rfl⟩ F.slot_tuple_ne F.entry_tuple_ne (F.args_tuple_ne_2 _ _) (uO l b us ws n1 n2 d1 d2 z1 z2 same) ⟨o1,o2,he,⟨(fun x=>nomatch x),h⟩⟩ hu
end
end NEQ

namespace ENM
open PySem PyProof.Rows
open AutoSeq1 (wpAny_loadPart')
section
variable {prog:Program} {w:World} {A:Around} {E:Value->Shared->Prop} {s:Shared}
theorem sZ {it t:Addr} {k:Nat} {us:Array Value} {u:Value} {Q:Value->Shared->Prop} (hit:s.heap.IsTupleIter it t k) (ht:s.heap.IsTuple t us) (hu:us[k]?=some u)
  (fin:∀ h',h'.IsTupleIter it t (k+1)->Heap.SameBut it s.heap h'->Q u { s with heap:=h' }):wpAny (model prog w) A (Builtin.SmallTypes.nextOf (.ref it)) Q E s:=by
 obtain ⟨ob,hob,hcl,hda⟩:=id hit
 obtain ⟨ot,hot,_,nt,hdt⟩:=ht
 unfold Builtin.SmallTypes.nextOf
 refine wpAny_bind (wpAny_callSpecial?_slot (name:=Str.ofString "__next__") hit.typeIs F.slot_tuple_iterator_next (wpAny_call_entry F.slot_tuple_iterator_next hit.typeIs F.entry_tuple_iterator_next ?_ (F.args_tuple_iterator_next_1 _)))
 show wpAny _ _ (field (.ref it) 0>>=_) _ _ s
 refine wpAny_bind (wpAny_field hob hda (x:=.ref t) rfl ?_)
 show wpAny _ _ (if (Value.ref t==Value.none)=true then _ else _) _ _ s
 rw [if_neg (show ¬ ((Value.ref t==Value.none)=true) from Bool.false_ne_true)]
 show wpAny _ _ (field (.ref it) 1>>=_) _ _ s
 refine wpAny_bind (wpAny_field hob hda (x:=.int k 0) rfl ?_)
 show wpAny _ _ (seqItems? (.ref t)>>=_) _ _ s
 refine wpAny_bind (wpAny_seqItems hot hdt ?_)
 simp only [Int.toNat_natCast,hu]
 refine wpAny_bind (wpAny_setField hob hda (by simp) (wpAny_pure ⟨u,rfl,wpAny_pure (fin _ ?_ (Heap.SameBut.update ..))⟩))
 refine ⟨_,Heap.get?_update_self _ hob (Obj.isFreed_of_fields (Obj.data_mapFields hda _)),(Obj.cls_mapFields ..).trans hcl,?_⟩
 rw [Obj.data_mapFields hda]
 simp [rawInt]
theorem yx {it t:Addr} {k:Nat} {us:Array Value} {Q:Value->Shared->Prop} (calm:A.handled=none) (hit:s.heap.IsTupleIter it t k) (ht:s.heap.IsTuple t us) (hu:us[k]?=none)
  (fin:∀ h' e,Heap.ExtBut it s.heap h'->(∃ o,h'.get? e=some o/\o.cls=.type "StopIteration")->E (.ref e) { s with heap:=h' }):wpAny (model prog w) A (Builtin.SmallTypes.nextOf (.ref it)) Q E s:=by
 obtain ⟨ob,hob,hcl,hda⟩:=id hit
 obtain ⟨ot,hot,_,nt,hdt⟩:=ht
 unfold Builtin.SmallTypes.nextOf
 refine wpAny_bind (wpAny_callSpecial?_slot (name:=Str.ofString "__next__") hit.typeIs F.slot_tuple_iterator_next (wpAny_call_entry F.slot_tuple_iterator_next hit.typeIs F.entry_tuple_iterator_next ?_ (F.args_tuple_iterator_next_1 _)))
 show wpAny _ _ (field (.ref it) 0>>=_) _ _ s
 refine wpAny_bind (wpAny_field hob hda (x:=.ref t) rfl ?_)
 show wpAny _ _ (if (Value.ref t==Value.none)=true then _ else _) _ _ s
 rw [if_neg (show ¬ ((Value.ref t==Value.none)=true) from Bool.false_ne_true)]
 show wpAny _ _ (field (.ref it) 1>>=_) _ _ s
 refine wpAny_bind (wpAny_field hob hda (x:=.int k 0) rfl ?_)
 show wpAny _ _ (seqItems? (.ref t)>>=_) _ _ s
 refine wpAny_bind (wpAny_seqItems hot hdt ?_)
 simp only [Int.toNat_natCast,hu]
 refine wpAny_bind (wpAny_rule (wpAny_bind (wpAny_setField hob hda (by simp) ?_)))
 show wpAny _ _ (newExc (.type "StopIteration") []>>=_) _ _ _
 refine wpAny_bind ?_
 simp only [newExc,newTuple]
 refine wpAny_bind (wpAny_newObj_type ?_ (by size_fits))
 refine wpAny_bind (m:=firstArgMember _ _) (wpAny_of_eq (a:=Value.none) (by first|rfl|(simp only [firstArgMember]; rfl)) ?_)
 refine wpAny_newObj_type ?_ (by size_fits)
 simp only [raiseNew]
 refine wpAny_bind (wpAny_handled ?_)
 first|rw [show A.in1.handled=none from calm]|rw [calm]
 refine wpAny_bind (wpAny_pure (wpAny_throw ?_))
 exact fin _ _ (((Heap.SameBut.update ..).extBut.push _).push _) ⟨_,Heap.get?_push_size _ rfl,rfl⟩
noncomputable def Inn (tup:Bool) (h:Heap) (it a:Addr) (k:Nat):Prop:=match tup with
 | true=>h.IsTupleIter it a k
 | false=>h.IsListIter it a k
noncomputable def Seq (tup:Bool) (h:Heap) (a:Addr) (us:Array Value):Prop:=match tup with
 | true=>h.IsTuple a us
 | false=>h.IsList a us
theorem Inn.keep {tup:Bool} {h h':Heap} {it a:Addr} {k:Nat} (x:Inn tup h it a k) (e:∀ o,h.get? it=some o->h'.get? it=some o):Inn tup h' it a k:=by
 cases tup with
 | true=>obtain ⟨o,ho,r⟩:=(show h.IsTupleIter it a k from x); exact ⟨o,e _ ho,r⟩
 | false=>obtain ⟨o,ho,r⟩:=(show h.IsListIter it a k from x); exact ⟨o,e _ ho,r⟩
theorem Inn.there {tup:Bool} {h:Heap} {it a:Addr} {k:Nat} (x:Inn tup h it a k):∃ o,h.get? it=some o/\∀ v,o.data≠.cell v:=by
 cases tup with
 | true=>obtain ⟨o,ho,_,hd⟩:=(show h.IsTupleIter it a k from x); exact ⟨o,ho,fun v z=>by rw [hd] at z; cases z⟩
 | false=>obtain ⟨o,ho,_,hd⟩:=(show h.IsListIter it a k from x); exact ⟨o,ho,fun v z=>by rw [hd] at z; cases z⟩
theorem iM {tup:Bool} {it a:Addr} {k:Nat} {us:Array Value} {u:Value} {Q:Value->Shared->Prop} (hit:Inn tup s.heap it a k) (hs:Seq tup s.heap a us) (hu:us[k]?=some u)
  (fin:∀ h',Inn tup h' it a (k+1)->Heap.SameBut it s.heap h'->Q u { s with heap:=h' }):wpAny (model prog w) A (Builtin.SmallTypes.nextOf (.ref it)) Q E s:=by
 cases tup with
 | true=>exact sZ hit hs hu fin
 | false=>exact wpAny_nextOf_list_item hit hs hu fin
theorem jW {tup:Bool} {it a:Addr} {k:Nat} {us:Array Value} {Q:Value->Shared->Prop} (calm:A.handled=none) (hit:Inn tup s.heap it a k) (hs:Seq tup s.heap a us) (hu:us[k]?=none)
  (fin:∀ h' e,Heap.ExtBut it s.heap h'->(∃ o,h'.get? e=some o/\o.cls=.type "StopIteration")->E (.ref e) { s with heap:=h' }):wpAny (model prog w) A (Builtin.SmallTypes.nextOf (.ref it)) Q E s:=by
 cases tup with
 | true=>exact yx calm hit hs hu fin
 | false=>exact wpAny_nextOf_list_end calm hit hs hu fin
theorem yO {tup:Bool} {en it a:Addr} {k:Nat} {us:Array Value} {u old:Value} {Q:Option Value->Shared->Prop} (he:IsEnum s.heap en it k old) (hit:Inn tup s.heap it a k) (hs:Seq tup s.heap a us) (hu:us[k]?=some u) (hne:en≠it)
  (fin:∀ h',IsEnumOut h' en it ((k:Int)+1) u s.heap.objs.size->Inn tup h' it a (k+1)->h'.get? s.heap.objs.size=some { cls:=.type "tuple",data:=.seq #[.int k s.toks,u] }->h'.objs.size=s.heap.objs.size+1 ->
   (∀ b o,b≠en->b≠it->s.heap.get? b=some o->h'.get? b=some o)->Q (some (.ref s.heap.objs.size)) { s with heap:=h',toks:=s.toks+1 }):wpAny (model prog w) A (pyNext (.ref en)) Q E s:=by
 have hT:s.TypeIs (.ref en) "enumerate":=⟨_,he,rfl⟩
 unfold pyNext
 refine wpAny_bind (wpAny_attempt (wpAny_callSpecial?_slot (name:=Str.ofString "__next__") hT F.slot_enumerate_next (wpAny_call_entry F.slot_enumerate_next hT F.entry_enumerate_next ?_ (F.args_enumerate_next_1 _))))
 obtain ⟨hp,g,dr,tk,os⟩:=s
 show wpAny _ _ (field (.ref en) 2>>=_) _ _ _
 refine wpAny_bind (wpAny_field he rfl (x:=.ref it) rfl ?_)
 refine wpAny_bind (iM hit hs hu fun h1 hit1 sb1=>?_)
 replace sb1:Heap.SameBut it hp h1:=sb1
 have he1:IsEnum h1 en it k old:=(sb1.2 en hne).trans he
 show wpAny _ _ (field (.ref en) 3>>=_) _ _ ⟨h1,g,dr,tk,os⟩
 refine wpAny_bind (wpAny_field he1 rfl (x:=rawInt k) rfl ?_)
 show wpAny _ _ (field (.ref en) 4>>=_) _ _ ⟨h1,g,dr,tk,os⟩
 refine wpAny_bind (wpAny_field he1 rfl (x:=.none) rfl ?_)
 show wpAny _ _ (mkInt k>>=_) _ _ ⟨h1,g,dr,tk,os⟩
 refine wpAny_bind (wpAny_mkInt ?_)
 show wpAny _ _ (setField (.ref en) 3 (rawInt ((k:Int)+1))>>=_) _ _ ⟨h1,g,dr,tk+1,os⟩
 refine wpAny_bind (wpAny_setField_rec he1 (by simp) fun h2 he2 sb2=>?_)
 replace sb2:Heap.SameBut en h1 h2:=sb2
 replace he2:IsEnum h2 en it ((k:Int)+1) old:=he2
 show wpAny _ _ (setField (.ref en) 4 .none>>=_) _ _ ⟨h2,g,dr,tk+1,os⟩
 refine wpAny_bind (wpAny_setField_rec he2 (by simp) fun h3 he3 sb3=>?_)
 replace sb3:Heap.SameBut en h2 h3:=sb3
 replace he3:IsEnum h3 en it ((k:Int)+1) old:=he3
 show wpAny _ _ (newTuple [.int k tk,u]>>=_) _ _ ⟨h3,g,dr,tk+1,os⟩
 refine wpAny_bind (wpAny_newTuple ?_)
 have he4:IsEnum (h3.push { cls:=.type "tuple",data:=.seq #[.int k tk,u] }) en it ((k:Int)+1) old:=Heap.get?_push_of_some _ he3
 generalize eh4:h3.push { cls:=.type "tuple",data:=.seq #[.int k tk,u] }=h4 at he4
 have sz3:h3.objs.size=hp.objs.size:=by rw [sb3.1,sb2.1,sb1.1]
 have enlt:en < hp.objs.size:=Heap.lt_size he
 have tp4:h4.get? hp.objs.size=some { cls:=.type "tuple",data:=.seq #[.int k tk,u] }:=by rw [<- eh4,<- sz3]; exact Heap.get?_push_size _ rfl
 have sz4:h4.objs.size=hp.objs.size+1:=by rw [<- eh4,Heap.size_push,sz3]
 have kp4:∀ b o,b≠en->b≠it->hp.get? b=some o->h4.get? b=some o:=fun b o hbe hbi hb=>by
  rw [<- eh4]; exact Heap.get?_push_of_some _ (sb3.extBut b o hbe (sb2.extBut b o hbe (sb1.extBut b o hbi hb)))
 have hit4:Inn tup h4 it a (k+1):=hit1.keep fun o e=>by
  rw [<- eh4]; exact Heap.get?_push_of_some _ (sb3.extBut _ o (Ne.symm hne) (sb2.extBut _ o (Ne.symm hne) e))
 show wpAny _ _ (Builtin.SmallTypes.ownedTupleIsFree (.ref en)>>=_) _ _ ⟨h4,g,dr,tk+1,os⟩
 rw [sz3]
 clear eh4 he3 sb3 he2 sb2 he1 sb1 hit1 sz3 h3 h2 h1
 refine wpAny_bind ?_
 unfold Builtin.SmallTypes.ownedTupleIsFree
 refine wpAny_bind (wpAny_field he4 rfl (x:=.none) rfl (wpAny_pure ?_))
 simp only [if_true]
 refine wpAny_bind (wpAny_rule ?_)
 refine wpAny_bind (wpAny_field he4 rfl (x:=old) rfl ?_)
 refine wpAny_bind (wpAny_setField_rec he4 (by simp) fun h5 he5 sb5=>?_)
 replace sb5:Heap.SameBut en h4 h5:=sb5
 replace he5:IsEnum h5 en it ((k:Int)+1) u:=he5
 show wpAny _ _ (Builtin.SmallTypes.ownedTupleHandOut (.ref en) (.ref hp.objs.size)>>=_) _ _ ⟨h5,g,dr,tk+1,os⟩
 refine wpAny_bind ?_
 unfold Builtin.SmallTypes.ownedTupleHandOut
 refine wpAny_bind (wpAny_setField_rec he5 (by simp) fun h6 he6 sb6=>?_)
 replace sb6:Heap.SameBut en h5 h6:=sb6
 replace he6:IsEnumOut h6 en it ((k:Int)+1) u hp.objs.size:=he6
 refine wpAny_setField_rec he6 (by simp) fun h7 he7 sb7=>?_
 replace sb7:Heap.SameBut en h6 h7:=sb7
 replace he7:IsEnumOut h7 en it ((k:Int)+1) u hp.objs.size:=he7
 have up:∀ b o,b≠en->h4.get? b=some o->h7.get? b=some o:=fun b o hbe hb=>sb7.extBut b o hbe (sb6.extBut b o hbe (sb5.extBut b o hbe hb))
 refine wpAny_bind (wpAny_letGo (wpAny_pure ⟨_,rfl,wpAny_pure (fin h7 he7 (hit4.keep fun o e=>up _ o (Ne.symm hne) e) (up _ _ (Nat.ne_of_gt enlt) tp4) ?_ fun b o hbe hbi hb=>up b o hbe (kp4 b o hbe hbi hb))⟩))
 rw [sb7.1,sb6.1,sb5.1,sz4]
theorem yR {tup:Bool} {en it a:Addr} {k:Nat} {us:Array Value} {old:Value} {Q:Option Value->Shared->Prop} (calm:A.handled=none) (he:IsEnum s.heap en it k old) (hit:Inn tup s.heap it a k) (hs:Seq tup s.heap a us) (hu:us[k]?=none)
  (fin:∀ h',Heap.ExtBut it s.heap h'->Q none { s with heap:=h' }):wpAny (model prog w) A (pyNext (.ref en)) Q E s:=by
 have hT:s.TypeIs (.ref en) "enumerate":=⟨_,he,rfl⟩
 unfold pyNext
 refine wpAny_bind (wpAny_attempt (wpAny_callSpecial?_slot (name:=Str.ofString "__next__") hT F.slot_enumerate_next (wpAny_call_entry F.slot_enumerate_next hT F.entry_enumerate_next ?_ (F.args_enumerate_next_1 _))))
 show wpAny _ _ (field (.ref en) 2>>=_) _ _ _
 refine wpAny_bind (wpAny_field he rfl (x:=.ref it) rfl ?_)
 refine wpAny_bind (jW calm hit hs hu fun h' x ext hx=>?_)
 obtain ⟨o,ho,hc⟩:=hx
 refine wpAny_bind (wpAny_isInstance (T:="StopIteration") (b:=true) ⟨o,ho,hc⟩ isSubtype_stop ?_)
 exact wpAny_pure (fin _ ext)
theorem vt (t:Addr) (us:Array Value) (n:Nat) (dd:Option Addr) (sl:Array (Option Value)) :
  Meets (Builtin.«enumerate.__new__» ⟨[.type "enumerate",.ref t],[]⟩) (fun _ R s=>s.heap.get? t=some { cls:=.type "tuple",dict:=dd,data:=.seq us n,slots:=sl } /\
   R (.ok (.ret (.ref (s.heap.push { cls:=.type "tuple_iterator",data:=.fields #[.ref t,.int 0 0] }).objs.size)))
    { s with heap:=(s.heap.push { cls:=.type "tuple_iterator",data:=.fields #[.ref t,.int 0 0] }).push { cls:=.type "enumerate",data:=.fields #[.none,.bool false,.ref s.heap.objs.size,rawInt 0,.none,.none] } }) :=
 .of_wp fun prog w A R s h=>by
  obtain ⟨hp,g,d,tk,os⟩:=s
  obtain ⟨ht,h⟩:=h
  have hsub:=sub_enumerate
  have hT:Heap.IsTuple (Shared.heap ⟨hp,g,d,tk,os⟩) t us:=⟨_,ht,rfl,n,rfl⟩
  wp_walk using wpAny_loadPart' ht
  refine wpAny_stack_any fun st=>wpAny_pure ?_
  split
  ·rename_i c _ _ _ _ _
   cases (c==Value.type "enumerate")
   ·wp_walk using wpAny_loadPart' ht,wpAny_pyIter_tuple hT
    exact ⟨_,rfl,h⟩
   ·wp_walk using wpAny_loadPart' ht,wpAny_pyIter_tuple hT
    exact ⟨_,rfl,h⟩
  ·wp_walk using wpAny_loadPart' ht,wpAny_pyIter_tuple hT
   exact ⟨_,rfl,h⟩
theorem t8 {t:Addr} {us:Array Value} {Q:Value->Shared->Prop} (hT:s.heap.IsTuple t us)
  (h:∀ h',IsEnum h' (s.heap.objs.size+1) s.heap.objs.size 0 .none->h'.IsTupleIter s.heap.objs.size t 0->h'.objs.size=s.heap.objs.size+2->(∀ b o,s.heap.get? b=some o->h'.get? b=some o)->Q (.ref (s.heap.objs.size+1)) { s with heap:=h' }) :
  wpAny (model prog w) A (call (.type "enumerate") [.ref t]) Q E s:=by
 obtain ⟨⟨c,dd,dt,sl⟩,ht,hc,n,hd⟩:=hT
 replace hc:c=.type "tuple":=hc
 replace hd:dt=.seq us n:=hd
 subst hc hd
 refine callType_new F.called_enumerate (by decide) (F.typeCall_enumerate_1 _) (F.newCall_enumerate_1 _) (fun obj=>F.args_object_init_2 obj _) F.entry_enumerate_new (vt t us n dd sl) ⟨ht,?_⟩
 have sz:(s.heap.push { cls:=.type "tuple_iterator",data:=.fields #[.ref t,.int 0 0] }).objs.size=s.heap.objs.size+1:=Heap.size_push ..
 show _/\_
 rw [sz]
 have he:IsEnum ((s.heap.push { cls:=.type "tuple_iterator",data:=.fields #[.ref t,.int 0 0] }).push { cls:=.type "enumerate",data:=.fields #[.none,.bool false,.ref s.heap.objs.size,rawInt 0,.none,.none] }) (s.heap.objs.size+1) s.heap.objs.size 0 .none:=by
  have:=Heap.get?_push_size (s.heap.push { cls:=.type "tuple_iterator",data:=.fields #[.ref t,.int 0 0] }) (o:={ cls:=.type "enumerate",data:=.fields #[.none,.bool false,.ref s.heap.objs.size,rawInt 0,.none,.none] }) rfl
  rw [sz] at this; exact this
 exact ⟨⟨_,he,rfl⟩,h _ he ⟨_,Heap.get?_push_of_some _ (Heap.get?_push_size _ rfl),rfl,rfl⟩ (by rw [Heap.size_push,sz]) fun b o x=>Heap.get?_push_of_some _ (Heap.get?_push_of_some _ x)⟩
theorem uY {tup:Bool} {a:Addr} {us:Array Value} {Q:Value->Shared->Prop} (hs:Seq tup s.heap a us)
  (h:∀ h',IsEnum h' (s.heap.objs.size+1) s.heap.objs.size 0 .none->Inn tup h' s.heap.objs.size a 0->h'.objs.size=s.heap.objs.size+2->(∀ b o,s.heap.get? b=some o->h'.get? b=some o)->Q (.ref (s.heap.objs.size+1)) { s with heap:=h' }) :
  wpAny (model prog w) A (call (.type "enumerate") [.ref a]) Q E s:=by
 cases tup with
 | true=>exact t8 hs h
 | false=>exact call_enumerate_list hs h
end
end ENM
namespace L2
open PySem PySem.Spec PyProof.Rows ENM
noncomputable def SqB (K:PySem.W.Frag) (H:Hp) (tup:Bool) (a:Addr) (xs:List V):Prop:=match tup with
 | true=>SqT K H a xs
 | false=>SqL K H a xs
noncomputable def Ite (K:PySem.W.Frag) (tup:Bool) (a:Addr):It :=
 ⟨fun i H=>∃ xs x,SqB K H tup a xs/\xs[i]?=some x,fun i H x H'=>∃ y p,(∀ xs,SqB K H tup a xs->xs[i]?=some y)/\H p=none/\H'=upd H p (.tup [.int i,y])/\x=.ref p,fun i H=>∃ xs,SqB K H tup a xs/\xs.length<=i⟩
theorem Inv.cZ {X:Cx} {pins:List (Addr × Obj)} {σ:L2.St} {H:Hp} {s:Shared} (I:Inv X pins σ H s) {tup:Bool} {a:Addr} {xs:List V} (h:SqB X.K H tup a xs):∃ its:List Value,Vals xs its/\Seq tup s.heap a its.toArray:=by
 cases tup with
 | true=>obtain ⟨its,rv,p,_⟩:=I.tuple h; exact ⟨its,rv,p⟩
 | false=>obtain ⟨its,rv,p,_⟩:=I.list h; exact ⟨its,rv,p.isList⟩
theorem Inv.ly {X:Cx} {pins:List (Addr × Obj)} {σ:L2.St} {H:Hp} {s:Shared} (I:Inv X pins σ H s) {tup:Bool} {a:Addr} {xs ys:List V} (h:SqB X.K H tup a xs) (h':SqB X.K H tup a ys):xs=ys:=by
 cases tup with
 | true=>exact I.gZ h h'
 | false=>exact I.iR h h'
theorem EB {P:Program} {w:World} {K:PySem.W.Frag} {elts:List Expr} {k1:Nat} {tp:Pos} (tup:Bool) (a en it:Addr) (hne:en≠it) :
  Turn P w K (.Tuple elts k1 tp) (Ite K tup a) [en,it] en (fun i h=>(∃ old,IsEnum h en it i old)/\Inn tup h it a i) where
 mem:=by simp
 obj:=fun i h st b hb=>by
  obtain ⟨⟨old,he⟩,hi⟩:=st
  rcases List.mem_cons.mp hb with rfl|hb
  ·exact ⟨_,he,fun v z=>by
    have z':Data.fields _=Data.cell v:=z
    cases z'⟩
  ·have e:b=it:=by simpa using hb
   subst e; exact hi.there
 keep:=fun i h h' st k=>by
  obtain ⟨⟨old,he⟩,hi⟩:=st
  exact ⟨⟨old,k en (by simp) _ he⟩,hi.keep fun o e=>k it (by simp) o e⟩
 item:=by
  intro X hP hw hK hc i pins s σ H E I hf st hg
  subst hP hw hK
  obtain ⟨⟨old,he⟩,hi⟩:=st
  obtain ⟨xs,x,hq,hx⟩:=hg
  obtain ⟨its,rv,hs⟩:=I.cZ hq
  obtain ⟨u,hu,ru⟩:=rv.get hx
  obtain ⟨f0,f1,f2,f3,f4,f5⟩:=hf en (by simp)
  obtain ⟨g0,g1,g2,g3,g4,g5⟩:=hf it (by simp)
  refine yO he hi hs (u:=u) (by simpa using hu) hne fun h' ho hi' ht hz hk=>?_
  refine ⟨_,rfl,wpAny_letOwnedTupleGo_enum ho fun h2 he2 sb2=>?_⟩
  replace sb2:Heap.SameBut en h' h2:=sb2
  have elt:en < s.heap.objs.size:=Heap.lt_size he
  have hp:H s.heap.objs.size=none:=I.hok.fresh (Nat.le_refl _)
  have ilt:it < s.heap.objs.size:=by obtain ⟨o,e,_⟩:=hi.there; exact Heap.lt_size e
  have kept:∀ b o,b≠en->b≠it->s.heap.get? b=some o->h2.get? b=some o:=fun b o h1 h3 e=>sb2.extBut b o h1 (hk b o h1 h3 e)
  have tp2:h2.get? s.heap.objs.size=some { cls:=.type "tuple",data:=.seq #[.int i s.toks,u] }:=sb2.extBut _ _ (Nat.ne_of_gt elt) ht
  have I2:Inv X pins σ (upd H s.heap.objs.size (.tup [.int i,x])) { s with heap:=h2,toks:=s.toks+1 }:=by
   refine I.step (g':=s.gens) (d':=s.drawn) (ch:=[en,it]) (fun b hb=>?_) (fun b o _ _ hc e _=>kept b o (fun z=>hc (by simp [z])) (fun z=>hc (by simp [z])) e)
    (fun b o _ _ hc e _=>⟨o.slots,kept b o (fun z=>hc (by simp [z])) (fun z=>hc (by simp [z])) e⟩) (fun b o _ e n=>by rw [aE (Nat.ne_of_lt (Heap.lt_size e))]; exact n)
    (fun b o hc e=>⟨o,kept b o (fun z=>hc (by simp [z])) (fun z=>hc (by simp [z])) e⟩) (fun b ys q=>by rw [aE (aV q hp)]; exact q) (fun b o u q=>by rw [aE (aV q hp)]; exact q)
    (fun b ps q=>⟨#[],by rw [aE (aV q hp),q]; simp⟩) (fun m hm=>?_) ?_ I.bare
   ·rcases List.mem_cons.mp hb with rfl|hb
    ·exact ⟨f3,f1,f4,f5⟩
    ·have e:b=it:=by simpa using hb
     subst e; exact ⟨g3,g1,g4,g5⟩
   ·obtain ⟨o,es,ep,ho',r⟩:=hm
    exact ⟨o,es,ep,kept _ o (Ne.symm f1) (Ne.symm g1) ho',r⟩
   ·intro b o q
    by_cases hb:b=s.heap.objs.size
    ·subst hb
     rw [cB] at q
     cases q
     exact ⟨by show 2<=sizeLine; decide,[.int i s.toks,u],.cons ⟨_,rfl⟩ (.cons ru .nil),_,tp2,rfl,_,rfl⟩
    ·rw [aE hb] at q
     have hb1:b≠en:=fun z=>by rw [z,f0] at q; cases q
     have hb2:b≠it:=fun z=>by rw [z,g0] at q; cases q
     refine (I.hok b o q).stay (fun c v hc e=>?_) (fun c q=>by rw [aE (aV q hp)]; exact q) fun c ys q=>by rw [aE (aV q hp)]; exact q
     rcases hc with rfl|hc
     ·exact kept _ v hb1 hb2 e
     ·exact kept c v (fun z=>by rw [z,f0] at hc; cases hc) (fun z=>by rw [z,g0] at hc; cases hc) e
  refine ⟨.ref s.heap.objs.size,upd H s.heap.objs.size (.tup [.int i,x]),I2,rfl,⟨x,_,fun ys hy=>by rw [I.ly hy hq]; exact hx,hp,rfl,rfl⟩,⟨⟨u,by simpa using he2⟩,hi'.keep fun o e=>sb2.extBut _ o (Ne.symm hne) e⟩,fun b hb=>?_⟩
  rcases List.mem_cons.mp hb with rfl|hb
  ·rw [aE (Nat.ne_of_lt elt)]; exact f0
  ·have e:b=it:=by simpa using hb
   subst e; rw [aE (Nat.ne_of_lt ilt)]; exact g0
 done:=by
  intro X hP hw hK hc i pins s σ H E I hf st hg
  subst hP hw hK
  obtain ⟨⟨old,he⟩,hi⟩:=st
  obtain ⟨xs,hq,hx⟩:=hg
  obtain ⟨its,rv,hs⟩:=I.cZ hq
  obtain ⟨g0,g1,g2,g3,g4,g5⟩:=hf it (by simp)
  have hl:=rv.length
  exact yR (I.ok.hd hc) he hi hs (by simp; omega) fun h' eb=>⟨rfl,I.turned (t':=s.toks) (fun b o hb e=>eb b o hb e) g0 g1 g3 g4 g5⟩
 self:=fun _ _ _ _ _ st h=>by
  obtain ⟨⟨old,he⟩,_⟩:=st
  exact wpAny_pyIter_enum he h
section
variable {X:Cx}
noncomputable def B_ (K:PySem.W.Frag) (ta:TA):TI:=fun σ H R=>ta σ H fun vs H1=>∃ tup a,vs=[.ref a]/\(∃ xs,SqB K H1 tup a xs)/\R (Ite K tup a) H1
theorem wu {e:Expr} {ta:TA} {p pos:Pos} {elts:List Expr} {k1:Nat} {tp:Pos} (hg:Gl X "enumerate") (hm:X.mg "enumerate" = none) (hv:bootBuiltins "enumerate" = some (.type "enumerate")) (ha:PA X [e] ta) (hs:starEach [e] X.env=[(false,eval e X.env)]) :
  PI X (.Tuple elts k1 tp) (.Call (.Name "enumerate" p) [e] [] pos) (B_ X.K ta):=by
 intro pins s σ H R I h
 refine Call_ (cu I hg hm hv (PyProof.Rows.callWith_type1 (thn (ha pos pins s σ H _ I h) fun us s1 ⟨vs,H1,I1,r1,q1⟩=>?_) hs rfl))
 obtain ⟨tup,a,e,⟨xs,hq⟩,q⟩:=q1
 subst e
 cases r1 with
 | cons r rr =>
  cases rr
  cases r
  obtain ⟨its,rv,hsq⟩:=I1.cZ hq
  refine uY hsq fun h' he hi hz hk=>?_
  refine wpAny_pyIter_enum he ?_
  have fr:∀ b,s1.heap.objs.size<=b->b6 X pins H1 b:=fun b hb=>I1.eT hb (I1.hok.fresh hb)
  refine ⟨s1.heap.objs.size+1,[s1.heap.objs.size+1,s1.heap.objs.size],_,_,H1,rfl,I1.kept (t':=s1.toks) hk,EB tup a _ _ (Nat.ne_of_gt (Nat.lt_succ_self _)),⟨⟨.none,he⟩,hi⟩,fun b hb=>?_,q⟩
  rcases List.mem_cons.mp hb with rfl|hb
  ·exact fr _ (Nat.le_succ _)
  ·have e:b=s1.heap.objs.size:=by simpa using hb
   subst e; exact fr _ (Nat.le_refl _)
noncomputable def lu (lo:Int) (n:Nat):It:=⟨fun i _=>i < n,fun i H x H'=>H'=H/\x=.int (lo - i),fun i _=>n<=i⟩
theorem vv {P:Program} {w:World} {K:PySem.W.Frag} {tg:Expr} (it:Addr) (lo:Int) (n:Nat):Turn P w K tg (lu lo n) [it] it (fun i h=>IsRangeIter h it (lo+(i:Nat) * (-1)) ((n:Int) - (i:Nat)) (-1)) where
 mem:=by simp
 obj:=fun i h st b hb=>by
  have e:b=it:=by simpa using hb
  subst e
  exact ⟨_,st,fun v z=>by
   have z':Data.fields _=Data.cell v:=z
   cases z'⟩
 keep:=fun i h h' st k=>k it (by simp) _ st
 item:=by
  intro X hP hw hK hc i pins s σ H E I hf st hg
  subst hP hw hK
  obtain ⟨f0,f1,f2,f3,f4,f5⟩:=hf it (by simp)
  have W:=Walks.range (prog:=X.prog) (w:=X.w) (I.ok.hd hc) it lo (-1) n
  refine W.item i s _ _ hg st fun v h' tk hv st' kk=>?_
  obtain ⟨t,rfl⟩:=hv
  have I1:Inv X pins σ H { s with heap:=h',toks:=tk }:=I.turned (fun b o hb e=>kk b o (by simpa using hb) e) f0 f1 f3 f4 f5
  refine ⟨_,rfl,g7 (s:={ s with heap:=h',toks:=tk }) (n:="range_iterator") st' rfl rfl (by decide) ⟨.int (lo - i),H,I1,⟨t,?_⟩,⟨rfl,rfl⟩,st',fun b hb=>(hf b hb).1⟩⟩
  congr 1
  omega
 done:=by
  intro X hP hw hK hc i pins s σ H E I hf st hg
  subst hP hw hK
  obtain ⟨f0,f1,f2,f3,f4,f5⟩:=hf it (by simp)
  exact wpAny_pyNext_range_end (I.ok.hd hc) st (by have:n<=i:=hg; omega) fun h' eb=>⟨rfl,I.turned (t':=s.toks) (fun b o hb e=>eb b o hb e) f0 f1 f3 f4 f5⟩
 self:=fun _ _ _ _ _ st h=>wpAny_pyIter_rangeiter st h
theorem rangeSize_down (a b:Int):Builtin.Range.rangeSize a b (-1)=if b < a then a - b else 0:=by
 unfold Builtin.Range.rangeSize
 rw [if_neg (by decide)]
 by_cases h:b < a
 ·rw [if_pos h,if_pos (show a > b from h)]
  rw [show (-(-1):Int)=1 from rfl,Int.ediv_one]; omega
 ·rw [if_neg h,if_neg (show ¬ a > b from h)]
theorem small_down {a b:Int} (ha:-(2 ^ 62)<=a) (ha':a < 2 ^ 62) (hb:-(2 ^ 62)<=b) (hb':b < 2 ^ 62):Builtin.Range.small a b (-1)=true:=by
 unfold Builtin.Range.small
 rw [rangeSize_down]
 simp only [Builtin.Range.rangeFitsLong,Bool.and_eq_true,Bool.or_eq_true,decide_eq_true_eq,beq_iff_eq]
 by_cases h:b < a
 ·simp only [if_pos h]
  rw [if_neg (show ¬ (-1:Int) > 0 by decide),Bool.and_eq_true,decide_eq_true_eq,decide_eq_true_eq]
  omega
 ·simp only [if_neg h]
  rw [if_neg (show ¬ (-1:Int) > 0 by decide),Bool.and_eq_true,decide_eq_true_eq,decide_eq_true_eq]
  omega
noncomputable def Ey (ta:TA):TI:=fun σ H R=>ta σ H fun vs H1=>∃ i j:Int,vs=[.int i,.int j,.int (-1)]/\(-(2 ^ 62)<=i/\i < 2 ^ 62/\-(2 ^ 62)<=j/\j < 2 ^ 62)/\R (lu i (i - j).toNat) H1
theorem D7 {tg a b c:Expr} {ta:TA} {p pos:Pos} (hg:Gl X "range") (hm:X.mg "range" = none) (ha:PA X [a,b,c] ta) (hs:starEach [a,b,c] X.env=[(false,eval a X.env),(false,eval b X.env),(false,eval c X.env)]) (hs2:starEach [b,c] X.env=[(false,eval b X.env),(false,eval c X.env)]) :
  PI X tg (.Call (.Name "range" p) [a,b,c] [] pos) (Ey ta):=by
 intro pins s σ H R I h
 refine Call_ (cu I hg hm boot_range (PyProof.Rows.callWith_type1 (thn (ha pos pins s σ H _ I h) fun us s1 ⟨vs,H1,I1,r1,q1⟩=>?_) (by rw [hs,hs2]) (by rw [hs2]; rfl)))
 obtain ⟨i,j,e,⟨q1,q2,q3,q4⟩,q⟩:=q1
 subst e
 cases r1 with
 | cons r rr =>
  cases rr with
  | cons r' rr =>
   cases rr with
   | cons r'' rr =>
    cases rr
    obtain ⟨t,rfl⟩:=r
    obtain ⟨t',rfl⟩:=r'
    obtain ⟨t'',rfl⟩:=r''
    refine call_range_3 (by decide) ?_ (.inl (PyProof.noPylong_small (by decide)))
    refine wpAny_pyIter_range (IsRange.new ..) (small_down q1 q2 q3 q4) ?_
    have I2:Inv X pins σ H1 { s1 with heap:=s1.heap.push { cls:=.type "range",data:=.fields #[.int i t,.int j t',.int (-1) t''] } }:=I1.kept (t':=s1.toks) fun b o e=>Heap.get?_push_of_some _ e
    refine ⟨(s1.heap.push { cls:=.type "range",data:=.fields #[.int i t,.int j t',.int (-1) t''] }).objs.size,[(s1.heap.push { cls:=.type "range",data:=.fields #[.int i t,.int j t',.int (-1) t''] }).objs.size],_,_,H1,rfl,
     I2.kept (t':=s1.toks) fun b o e=>Heap.get?_push_of_some _ e,vv _ i (i - j).toNat,?_,fun b hb=>?_,q⟩
    ·have e1:i+((0:Nat):Int) * (-1)=i:=by simp
     have e2:(((i - j).toNat:Nat):Int) - ((0:Nat):Int)=Builtin.Range.rangeSize i j (-1):=by rw [rangeSize_down]; split <;> omega
     show IsRangeIter _ _ (i+((0:Nat):Int) * (-1)) ((((i - j).toNat:Nat):Int) - ((0:Nat):Int)) (-1)
     rw [e1,e2]
     exact Heap.get?_push_size _ rfl
    ·have e:b=(s1.heap.push { cls:=.type "range",data:=.fields #[.int i t,.int j t',.int (-1) t''] }).objs.size:=by simpa using hb
     subst e
     exact I2.eT (Nat.le_refl _) (I2.hok.fresh (Nat.le_refl _))
end
end L2

namespace HT
open PySem PyProof.Rows
open Builtin
theorem Aa:fillsNumberSlot (.type "tuple") "mul" = pure false :=
 PySem.fillsNumberSlot_seq (id:="tuple.__mul__") (r:=some (.builtin "tuple.__rmul__")) F.slot_tuple_mul.lookup (by decide +kernel) F.slot_tuple_rmul.lookup (by decide +kernel)
theorem tw:seqRepeat? (.type "tuple")=pure (some (.builtin "tuple.__mul__")):=by
 unfold seqRepeat?
 rw [PySem.seqSlot_of (T:="tuple") (name:="__mul__") (id:="tuple.__mul__") F.slot_tuple_mul.lookup (by decide +kernel),PySem.seqSlot_of (T:="tuple") (name:="__rmul__") (id:="tuple.__rmul__") F.slot_tuple_rmul.lookup (by decide +kernel)]
 rfl
theorem z6 (a:Int) (t:Tok) (l:Addr) (items:Array Value) (n:Nat) (dd:Option Addr) (sl:Array (Option Value)) :
  Meets (Builtin.«int.__rmul__» ⟨[.int a t,.ref l],[]⟩) (fun _ R s=>s.heap.get? l=some { cls:=.type "tuple",dict:=dd,data:=.seq items n,slots:=sl }/\R (.ok (.ret Value.notImplemented)) s) :=
 .of_wp fun prog w A R s h=>by obtain ⟨hp,g,d,tk,os⟩:=s; obtain ⟨hl,h⟩:=h; wp_walk; exact ⟨_,rfl,h⟩
theorem vd (x:Int) (u:Tok) (l:Addr) (items:Array Value) (n:Nat) (dd:Option Addr) (sl:Array (Option Value)) (h1:(decide (x < -(2 ^ 63))||decide (x ≥ 2 ^ 63))=false) (h2:(items.isEmpty||x==1)=true) :
  Meets (Builtin.«tuple.__mul__» ⟨[.ref l,.int x u],[]⟩) (fun _ R s=>s.heap.get? l=some { cls:=.type "tuple",dict:=dd,data:=.seq items n,slots:=sl }/\R (.ok (.ret (.ref l))) { s with heap:=s.heap,toks:=s.toks }) :=
 .of_wp fun prog w A R s h=>by
  obtain ⟨hp,g,d,tk,os⟩:=s; obtain ⟨hl,h⟩:=h
  have f1:=AutoSeq1.idx_int
  wp_walk using wpAny_loadPart' hl
  refine wpAny_ite_false (by simp only [h1]; decide) ?_
  wp_walk using wpAny_loadPart' hl
  exact ⟨_,rfl,h⟩
theorem t7 (x:Int) (u:Tok) (l:Addr) (items:Array Value) (n:Nat) (dd:Option Addr) (sl:Array (Option Value)) (h1:(decide (x < -(2 ^ 63))||decide (x ≥ 2 ^ 63))=false) (h2:(items.isEmpty||x==1)=false)
  (h3:(decide (x<=0)||items.isEmpty)=false) (h4:¬ (items.size * x > (2 ^ 63 - 1) / 8)) (h5:Builtin.Tuple.tupleTooMany (items.size * x)=false) (h6:(List.foldl (fun x1 x2=>x1++x2) #[] (List.replicate x.toNat items)).size<=sizeLine) :
  Meets (Builtin.«tuple.__mul__» ⟨[.ref l,.int x u],[]⟩) (fun _ R s=>s.heap.get? l=some { cls:=.type "tuple",dict:=dd,data:=.seq items n,slots:=sl }/\R (.ok (.ret (.ref s.heap.objs.size))) { s with heap:=s.heap.push { cls:=Value.type "tuple",data:=Data.seq (List.foldl (fun x1 x2=>x1++x2) #[] (List.replicate x.toNat items)) },toks:=s.toks }) :=
 .of_wp fun prog w A R s h=>by
  obtain ⟨hp,g,d,tk,os⟩:=s; obtain ⟨hl,h⟩:=h
  have f1:=AutoSeq1.idx_int
  wp_walk using wpAny_loadPart' hl
  refine wpAny_ite_false (by simp only [h1]; decide) ?_
  wp_walk using wpAny_loadPart' hl
  refine wpAny_ite_false (decide_eq_false h4) ?_
  refine wpAny_ite_false (by simp only [h5]; decide) ?_
  wp_walk using wpAny_loadPart' hl
  exact ⟨_,rfl,h⟩
theorem Er (x:Int) (u:Tok) (l:Addr) (items:Array Value) (n:Nat) (dd:Option Addr) (sl:Array (Option Value)) (h1:(decide (x < -(2 ^ 63))||decide (x ≥ 2 ^ 63))=false) (h2:(items.isEmpty||x==1)=false)
  (h3:(decide (x<=0)||items.isEmpty)=true) :
  Meets (Builtin.«tuple.__mul__» ⟨[.ref l,.int x u],[]⟩) (fun _ R s=>s.heap.get? l=some { cls:=.type "tuple",dict:=dd,data:=.seq items n,slots:=sl }/\R (.ok (.ret (.ref s.heap.objs.size))) { s with heap:=s.heap.push { cls:=Value.type "tuple",data:=Data.seq #[] },toks:=s.toks }) :=
 .of_wp fun prog w A R s h=>by
  obtain ⟨hp,g,d,tk,os⟩:=s; obtain ⟨hl,h⟩:=h
  have f1:=AutoSeq1.idx_int
  wp_walk using wpAny_loadPart' hl
  refine wpAny_ite_false (by simp only [h1]; decide) ?_
  wp_walk using wpAny_loadPart' hl
  exact ⟨_,rfl,h⟩
end HT
namespace L2
open PySem PySem.Spec PyProof.Rows
section
variable {X:Cx}
theorem AF:OpR X (binaryOp .Mult) (fun x y H Q=>∃ a k xs,x=.ref a/\y=.int k/\SqT X.K H a xs/\-(2 ^ 63)<=k/\k < 2 ^ 63/\xs.length * k.toNat<=sizeLine /\
  ((xs=[]\/k=1)->Q (.ref a) H)/\∀ p,H p=none->Q (.ref p) (upd H p (.tup (List.replicate k.toNat xs).flatten))):=by
 intro pins s σ H x y v u Q I rx ry h
 obtain ⟨a,k,xs,rfl,rfl,ha,h1,h2,hz,q1,q2⟩:=h
 cases rx
 obtain ⟨t,rfl⟩:=ry
 obtain ⟨its,r,p1,_⟩:=I.tuple ha
 obtain ⟨⟨cls,dd,data,sl⟩,ho,hc,n,hd⟩:=id p1
 simp only at hc hd
 subst hc hd
 have hlen:xs.length=its.length:=r.length
 have b1:(decide (k < -(2 ^ 63))||decide (k ≥ 2 ^ 63))=false:=by
  rw [Bool.or_eq_false_iff]; exact ⟨decide_eq_false (by omega),decide_eq_false (by omega)⟩
 refine wpAny_binaryOp_repeat_ref (T:="tuple") (U:="int") (by decide) ⟨_,ho,rfl⟩ (fun s'=>typeIs_int s' k t) HT.Aa F.fills_int_mul F.slot_int_rmul HT.tw F.slot_int_index.lookup
  (call_meets F.slot_int_rmul (typeIs_int s k t) F.entry_int_rmul (F.args_int_rmul_2 _ _) (HT.z6 k t a its.toArray n dd sl) ⟨ho,rfl,⟨_,ho,rfl⟩,?_⟩)
 by_cases hs:xs=[]\/k=1
 ·refine call_meets F.slot_tuple_mul ⟨_,ho,rfl⟩ F.entry_tuple_mul (F.args_tuple_mul_2 _ _) (HT.vd k t a its.toArray n dd sl b1 ?_) ⟨ho,⟨.ref a,H,I,rfl,q1 hs⟩⟩
  rw [Bool.or_eq_true]
  rcases hs with e|e
  ·left
   subst e
   have:its=[]:=List.length_eq_zero_iff.mp hlen.symm
   subst this; rfl
  ·right; exact beq_iff_eq.mpr e
 ·have hne:its≠[]:=fun e=>hs (.inl (List.length_eq_zero_iff.mp (by rw [hlen,e]; rfl)))
  have hemp:its.toArray.isEmpty=false:=by
   cases its with
   | nil=>exact absurd rfl hne
   | cons z zs=>simp
  have b2:(its.toArray.isEmpty||k==1)=false:=by
   rw [Bool.or_eq_false_iff]; exact ⟨hemp,beq_eq_false_iff_ne.mpr fun e=>hs (.inr e)⟩
  by_cases hk:k<=0
  ·have e0:k.toNat=0:=by omega
   refine call_meets F.slot_tuple_mul ⟨_,ho,rfl⟩ F.entry_tuple_mul (F.args_tuple_mul_2 _ _) (HT.Er k t a its.toArray n dd sl b1 b2 (by simp [hk])) ⟨ho,?_⟩
   rw [e0] at q2
   refine ⟨.ref s.heap.objs.size,_,I.laid (t':=s.toks) (o:=.tup []) (fun b ob q=>Heap.get?_push_of_some _ q) (Nat.le_refl _) ?_,rfl,q2 _ (I.hok.fresh (Nat.le_refl _))⟩
   exact ⟨Nat.zero_le _,[],.nil,IsTup.new _ _⟩
  ·have hkk:(k.toNat:Int)=k:=by omega
   have hnew:List.foldl (fun x1 x2=>x1++x2) #[] (List.replicate k.toNat its.toArray)=(List.replicate k.toNat its).flatten.toArray:=by
    have:=foldl_rep its k.toNat []
    rw [List.nil_append] at this
    exact this
   have hm:((its.toArray.size:Nat):Int) * k=((its.length * k.toNat:Nat):Int):=by rw [Int.natCast_mul,hkk,List.size_toArray]
   rw [hlen] at hz
   have hsl:(sizeLine:Nat)<=(2 ^ 63 - 1) / 8:=by decide
   refine call_meets F.slot_tuple_mul ⟨_,ho,rfl⟩ F.entry_tuple_mul (F.args_tuple_mul_2 _ _) (HT.t7 k t a its.toArray n dd sl b1 b2 ?_ ?_ ?_ ?_) ⟨ho,?_⟩
   ·rw [Bool.or_eq_false_iff]; exact ⟨decide_eq_false hk,hemp⟩
   ·rw [hm]; omega
   ·rw [hm]; unfold Builtin.Tuple.tupleTooMany; exact decide_eq_false (by omega)
   ·rw [hnew,List.size_toArray,len_rep,Nat.mul_comm]; exact hz
   ·rw [hnew]
    refine ⟨.ref s.heap.objs.size,_,I.laid (t':=s.toks) (o:=.tup (List.replicate k.toNat xs).flatten) (fun b ob q=>Heap.get?_push_of_some _ q) (Nat.le_refl _) ?_,rfl,q2 _ (I.hok.fresh (Nat.le_refl _))⟩
    exact ⟨by rw [len_rep,Nat.mul_comm,hlen]; exact hz,_,r.rep _,IsTup.new _ _⟩
end
end L2

namespace TB
open PySem PySem.SetTable
noncomputable def adv (mask:Nat) (p:Probe):Probe :=
 if p.more > 0 then { p with j:=p.j+1,more:=p.more - 1 } else
 { p with j:=(leap mask p.i p.perturb).1,more:=runEnd mask (leap mask p.i p.perturb).1 - (leap mask p.i p.perturb).1,i:=(leap mask p.i p.perturb).1,perturb:=(leap mask p.i p.perturb).2 }
theorem pF (t:SetTable) (p:Probe):t.advance p=adv t.mask p:=rfl
noncomputable def bs (mask:Nat) (b:Nat × Nat):Probe:={ j:=b.1,more:=runEnd mask b.1 - b.1,i:=b.1,perturb:=b.2,dummy:=none }
noncomputable def st (mask:Nat) (h:Int):Nat->Probe
 | 0=>bs mask (bits h % (mask+1),bits h)
 | k+1=>adv mask (st mask h k)
noncomputable def pos (mask:Nat) (h:Int) (k:Nat):Nat:=(st mask h k).j
noncomputable def cN (mask:Nat):Nat->Probe->Probe
 | 0,p=>p
 | n+1,p=>cN mask n (adv mask p)
theorem lP (mask:Nat):∀ (a b:Nat) (p:Probe),cN mask (a+b) p=cN mask b (cN mask a p)
 | 0,b,p=>by rw [Nat.zero_add]; rfl
 | a+1,b,p=>by rw [Nat.add_right_comm]; exact lP mask a b (adv mask p)
theorem iG (mask:Nat) (h:Int):∀ (n k:Nat),cN mask n (st mask h k)=st mask h (k+n)
 | 0,k=>rfl
 | n+1,k=>by
  show cN mask n (st mask h (k+1))=_
  rw [iG mask h n (k+1),show k+1+n=k+(n+1) by omega]
theorem rj (mask:Nat) (h:Int):∀ k,(st mask h k).dummy=none
 | 0=>rfl
 | k+1=>by
  show (adv mask (st mask h k)).dummy=none
  unfold adv
  split <;> exact rj mask h k
structure Ok (mask:Nat) (p:Probe):Prop where
 i:p.i<=mask
 q:p.perturb < 2 ^ 64
 m:p.more<=9
 j:p.j+p.more=runEnd mask p.i
 d:p.dummy=none
theorem rM (mask i:Nat):runEnd mask i - i<=9:=by unfold runEnd; split <;> omega
theorem kN (mask i:Nat):i<=runEnd mask i:=by unfold runEnd; split <;> omega
theorem oH {mask i:Nat} (h:i<=mask):runEnd mask i<=mask:=by unfold runEnd; split <;> omega
theorem pR {mask:Nat} {b:Nat × Nat} (h1:b.1<=mask) (h2:b.2 < 2 ^ 64):Ok mask (bs mask b) :=
 ⟨h1,h2,rM mask b.1,Nat.add_sub_cancel' (kN mask b.1),rfl⟩
theorem pU {mask i q:Nat} (h:q < 2 ^ 64):(leap mask i q).1<=mask/\(leap mask i q).2 < 2 ^ 64:=by
 refine ⟨Nat.lt_succ_iff.mp (Nat.mod_lt _ (Nat.succ_pos mask)),?_⟩
 show q / 32 < _
 omega
theorem DU {mask:Nat} {p:Probe} (h:Ok mask p):Ok mask (adv mask p):=by
 unfold adv
 split
 ·rename_i hm
  exact ⟨h.i,h.q,by show p.more - 1<=9; have:=h.m; omega,by show p.j+1+(p.more - 1)=runEnd mask p.i; have:=h.j; omega,h.d⟩
 ·have:=pU (mask:=mask) (i:=p.i) h.q
  exact ⟨this.1,this.2,rM _ _,Nat.add_sub_cancel' (kN _ _),h.d⟩
theorem oB (h:Int):bits h < 2 ^ 64:=by
 unfold bits
 have h1:=Int.emod_nonneg h (show (2 ^ 64:Int)≠0 by decide)
 have h2:=Int.emod_lt_of_pos h (show (0:Int) < 2 ^ 64 by decide)
 omega
theorem kL (mask:Nat) (h:Int):∀ k,Ok mask (st mask h k)
 | 0=>pR (Nat.lt_succ_iff.mp (Nat.mod_lt _ (Nat.succ_pos mask))) (oB h)
 | k+1=>DU (kL mask h k)
theorem Bm (mask:Nat) (h:Int) (k:Nat):pos mask h k<=mask:=by
 have o:=kL mask h k
 have:=oH o.i
 have:=o.j
 unfold pos; omega
theorem lg (mask:Nat):∀ (a:Nat) (p:Probe),a<=p.more->cN mask a p={ p with j:=p.j+a,more:=p.more - a }
 | 0,p,_=>rfl
 | a+1,p,h=>by
  have e:adv mask p={ p with j:=p.j+1,more:=p.more - 1 }:=by unfold adv; rw [if_pos (by omega)]
  show cN mask a (adv mask p)=_
  rw [e,lg mask a _ (by show a<=p.more - 1; omega)]
  show ({ p with j:=p.j+1+a,more:=p.more - 1 - a }:Probe)=_
  congr 1 <;> omega
theorem kR {mask:Nat} {p:Probe} (h:p.dummy=none):cN mask (p.more+1) p=bs mask (leap mask p.i p.perturb):=by
 rw [lP,lg mask p.more p (Nat.le_refl _)]
 show adv mask { p with j:=p.j+p.more,more:=p.more - p.more }=_
 unfold adv
 rw [if_neg (by show ¬ p.more - p.more > 0; omega)]
 unfold bs
 rw [<- h]
noncomputable def bP (mask:Nat):Nat->Nat × Nat->Nat × Nat
 | 0,b=>b
 | n+1,b=>bP mask n (leap mask b.1 b.2)
theorem blocks {mask:Nat}:∀ (n:Nat) (p:Probe),Ok mask p->∃ c,c<=10 * (n+1)/\cN mask c p=bs mask (bP mask (n+1) (p.i,p.perturb))
 | 0,p,h=>⟨p.more+1,by have:=h.m; omega,kR h.d⟩
 | n+1,p,h=>by
  have hb:=pU (mask:=mask) (i:=p.i) h.q
  obtain ⟨c,hc,e⟩:=blocks n (bs mask (leap mask p.i p.perturb)) (pR hb.1 hb.2)
  refine ⟨p.more+1+c,by have:=h.m; omega,?_⟩
  rw [lP,kR h.d,e]
  rfl
theorem qs (mask:Nat):∀ (n:Nat) (b:Nat × Nat),(bP mask n b).2=b.2 / 32 ^ n
 | 0,b=>(Nat.div_one _).symm
 | n+1,b=>by
  show (bP mask n (leap mask b.1 b.2)).2=_
  rw [qs mask n]
  show b.2 / 32 / 32 ^ n=_
  rw [Nat.div_div_eq_div_mul,Nat.pow_succ,Nat.mul_comm]
theorem sd (mask:Nat):∀ (a b:Nat) (x:Nat × Nat),bP mask (a+b) x=bP mask b (bP mask a x)
 | 0,b,x=>by rw [Nat.zero_add]; rfl
 | a+1,b,x=>by rw [Nat.add_right_comm]; exact sd mask a b _
theorem nX {mask:Nat}:∀ (n:Nat) (b:Nat × Nat),b.1<=mask->(bP mask n b).1<=mask
 | 0,b,h=>h
 | n+1,b,_=>nX n _ (Nat.lt_succ_iff.mp (Nat.mod_lt _ (Nat.succ_pos mask)))
noncomputable def gm (mask:Nat):Nat->Nat->List Nat
 | 0,_=>[]
 | n+1,i=>i::gm mask n ((i * 5+1) % (mask+1))
theorem lC {mask:Nat}:∀ (n i j:Nat),j∈gm mask n i->∃ m,m < n/\(bP mask m (i,0)).1=j
 | 0,i,j,h=>by simp [gm] at h
 | n+1,i,j,h=>by
  rcases List.mem_cons.mp h with rfl|h
  ·exact ⟨0,by omega,rfl⟩
  ·obtain ⟨m,hm,e⟩:=lC n _ j h
   refine ⟨m+1,by omega,?_⟩
   have e2:leap mask i 0=((i * 5+1) % (mask+1),0):=by unfold leap; rw [Nat.zero_div,Nat.add_zero]
   rw [<- e,<- e2]
   rfl
theorem A0:∀ i < 8,∀ j < 8,j∈gm 7 8 i:=by decide +kernel
theorem A3:∀ i < 32,∀ j < 32,j∈gm 31 32 i:=by decide +kernel
noncomputable def Msk (mask:Nat):Prop:=mask=7\/mask=31
theorem round {mask:Nat} (hm:Msk mask) {i j:Nat} (hi:i<=mask) (hj:j<=mask):∃ m,m<=mask/\(bP mask m (i,0)).1=j:=by
 rcases hm with rfl|rfl
 ·obtain ⟨m,h,e⟩:=lC _ _ _ (A0 i (by omega) j (by omega)); exact ⟨m,by omega,e⟩
 ·obtain ⟨m,h,e⟩:=lC _ _ _ (A3 i (by omega) j (by omega)); exact ⟨m,by omega,e⟩
theorem reach {mask:Nat} (hm:Msk mask) {i q j:Nat} (hi:i<=mask) (hq:q < 2 ^ 64) (hj:j<=mask):∃ n,12<=n/\n<=12+mask/\(bP mask (n+1) (i,q)).1=j:=by
 have h0:(bP mask 13 (i,q)).2=0:=by
  rw [qs]
  exact Nat.div_eq_of_lt (Nat.lt_trans hq (by decide))
 obtain ⟨m,h1,e⟩:=round hm (nX 13 (i,q) hi) hj
 refine ⟨12+m,by omega,by omega,?_⟩
 rw [show 12+m+1=13+m by omega,sd]
 rw [show bP mask 13 (i,q)=((bP mask 13 (i,q)).1,0) from Prod.ext rfl h0]
 exact e
theorem cover {mask:Nat} (hm:Msk mask) (h:Int) (k:Nat) {j:Nat} (hj:j<=mask):∃ d,d < 10 * turns mask/\pos mask h (k+d)=j:=by
 have o:=kL mask h k
 obtain ⟨n,h1,h2,e⟩:=reach hm o.i o.q hj
 obtain ⟨c,hc,e2⟩:=blocks n (st mask h k) o
 refine ⟨c,by unfold turns; omega,?_⟩
 rw [iG] at e2
 unfold pos
 rw [e2]
 exact e
end TB

namespace TB
open PySem PySem.SetTable
noncomputable def Srt (xs:Array Nat):Prop:=∀ (i i' v v':Nat),xs[i]?=some v->xs[i']?=some v'->i < i'->v < v'
theorem lM {xs:Array Nat} (hs:Srt xs) (j:Nat):∀ (fuel lo hi:Nat),lo<=hi->hi<=xs.size->hi - lo<=fuel->(∀ (i v:Nat),xs[i]?=some v->i < lo->v < j)->(∀ (i v:Nat),xs[i]?=some v->hi<=i->j<=v) ->
  below.go xs j fuel lo hi<=xs.size/\(∀ (i v:Nat),xs[i]?=some v->i < below.go xs j fuel lo hi->v < j)/\∀ (i v:Nat),xs[i]?=some v->below.go xs j fuel lo hi<=i->j<=v
 | 0,lo,hi,h1,h2,h3,h4,h5=>by
  have e:lo=hi:=by omega
  subst e
  exact ⟨h2,h4,h5⟩
 | fuel+1,lo,hi,h1,h2,h3,h4,h5=>by
  by_cases hl:lo < hi
  ·have ego:below.go xs j (fuel+1) lo hi=if xs.getD ((lo+hi) / 2) j < j then below.go xs j fuel ((lo+hi) / 2+1) hi else below.go xs j fuel lo ((lo+hi) / 2):=by
    conv=>lhs; unfold below.go
    rw [if_pos hl]
   have hm:(lo+hi) / 2 < xs.size:=by omega
   have hg:xs[(lo+hi) / 2]?=some xs[(lo+hi) / 2]:=Array.getElem?_eq_getElem hm
   have hd:xs.getD ((lo+hi) / 2) j=xs[(lo+hi) / 2]:=by rw [Array.getD_eq_getD_getElem?,hg]; rfl
   rw [ego,hd]
   by_cases hv:xs[(lo+hi) / 2] < j
   ·rw [if_pos hv]
    refine lM hs j fuel ((lo+hi) / 2+1) hi (by omega) h2 (by omega) (fun i v e hi'=>?_) h5
    by_cases z:i=(lo+hi) / 2
    ·subst z; rw [hg] at e; cases e; exact hv
    ·exact Nat.lt_trans (hs i _ v _ e hg (by omega)) hv
   ·rw [if_neg hv]
    refine lM hs j fuel lo ((lo+hi) / 2) (by omega) (by omega) (by omega) h4 fun i v e hi'=>?_
    by_cases z:i=(lo+hi) / 2
    ·subst z; rw [hg] at e; cases e; omega
    ·have:=hs _ i _ v hg e (by omega); omega
  ·have ego:below.go xs j (fuel+1) lo hi=lo:=by
    conv=>lhs; unfold below.go
    rw [if_neg hl]
   have e:lo=hi:=by omega
   subst e
   rw [ego]
   exact ⟨h2,h4,h5⟩
theorem kC {xs:Array Nat} (hs:Srt xs) (j:Nat):below xs j<=xs.size/\(∀ (i v:Nat),xs[i]?=some v->i < below xs j->v < j)/\∀ (i v:Nat),xs[i]?=some v->below xs j<=i->j<=v :=
 lM hs j xs.size 0 xs.size (Nat.zero_le _) (Nat.le_refl _) (by omega) (fun i v _ h=>by omega) fun i v e h=>by
  have:=(Array.getElem?_eq_some_iff.mp e).1; omega
noncomputable def NotIn (xs:Array Nat) (j:Nat):Prop:=∀ i:Nat,xs[i]?≠some j
theorem below_at {xs:Array Nat} (hs:Srt xs) {i j:Nat} (e:xs[i]?=some j):below xs j=i:=by
 obtain ⟨h1,h2,h3⟩:=kC hs j
 have hi:=(Array.getElem?_eq_some_iff.mp e).1
 rcases Nat.lt_trichotomy (below xs j) i with z|z|z
 ·have hg:xs[below xs j]?=some xs[below xs j]:=Array.getElem?_eq_getElem (by omega)
  have:=h3 _ _ hg (Nat.le_refl _)
  have:=hs _ i _ j hg e z
  omega
 ·exact z
 ·have:=h2 i j e z; omega
theorem i9 {t:SetTable} (hs:Srt t.place) {i j:Nat} (e:t.place[i]?=some j):t.slot j=.live i:=by
 unfold slot
 rw [below_at hs e]
 simp only [e,beq_self_eq_true,if_true]
theorem Ew {t:SetTable} (hd:t.dummies=#[]) {j:Nat} (h:NotIn t.place j):t.slot j=.empty:=by
 unfold slot
 have h1:(t.place[below t.place j]?==some j)=false:=by
  cases q:t.place[below t.place j]?==some j with
  | false=>rfl
  | true=>exact absurd (by simpa using q) (h _)
 simp only [h1,Bool.false_eq_true,if_false]
 rw [hd]
 rfl
theorem lH {t:SetTable} {f:Nat->Int} {h:Int}:∀ (d k fuel:Nat),d < fuel->(∀ k',k<=k'->k' < k+d->∃ i,t.slot (pos t.mask h k')=.live i/\f i≠h) ->
  probe.go t f h fuel (st t.mask h k)=probe.go t f h (fuel - d) (st t.mask h (k+d))
 | 0,k,fuel,_,_=>rfl
 | d+1,k,0,hf,_=>by omega
 | d+1,k,fuel+1,hf,hw=>by
  obtain ⟨i,e,hne⟩:=hw k (Nat.le_refl _) (by omega)
  have e:t.slot (st t.mask h k).j=.live i:=e
  conv=>lhs; unfold probe.go
  simp only [e]
  rw [if_neg (by simpa using hne),pF]
  show probe.go t f h fuel (st t.mask h (k+1))=_
  rw [lH d (k+1) fuel (by omega) fun k' h1 h2=>hw k' (by omega) (by omega),show fuel+1 - (d+1)=fuel - d by omega,show k+1+d=k+(d+1) by omega]
theorem Cf {t:SetTable} {f:Nat->Int} {h:Int} {d k:Nat} (hd:d < 10 * turns t.mask) (hw:∀ k',k<=k'->k' < k+d->∃ i,t.slot (pos t.mask h k')=.live i/\f i≠h) (he:t.slot (pos t.mask h (k+d))=.empty) :
  t.probe f h (st t.mask h k)=some (.empty (pos t.mask h (k+d)) none):=by
 unfold probe
 rw [lH d k _ hd hw]
 obtain ⟨m,hm⟩:∃ m,10 * turns t.mask - d=m+1:=⟨10 * turns t.mask - d - 1,by omega⟩
 rw [hm]
 unfold probe.go
 have he:t.slot (st t.mask h (k+d)).j=.empty:=he
 simp only [he,rj]
 rfl
theorem zm {t:SetTable} {f:Nat->Int} {h:Int} {d k i:Nat} (hd:d < 10 * turns t.mask) (hw:∀ k',k<=k'->k' < k+d->∃ i,t.slot (pos t.mask h k')=.live i/\f i≠h) (he:t.slot (pos t.mask h (k+d))=.live i) (hi:f i=h) :
  t.probe f h (st t.mask h k)=some (.candidate (pos t.mask h (k+d)) i (st t.mask h (k+d+1))):=by
 unfold probe
 rw [lH d k _ hd hw]
 obtain ⟨m,hm⟩:∃ m,10 * turns t.mask - d=m+1:=⟨10 * turns t.mask - d - 1,by omega⟩
 rw [hm]
 unfold probe.go
 have he:t.slot (st t.mask h (k+d)).j=.live i:=he
 simp only [he]
 rw [if_pos (by simpa using hi),pF]
 rfl
structure Good {α:Type} (t:SetTable) (es:Array (Int × α)):Prop where
 dum:t.dummies=#[]
 len:t.place.size=es.size
 srt:Srt t.place
 top:∀ (i s:Nat),t.place[i]?=some s->s<=t.mask
 msk:Msk t.mask
 way:∀ (i s:Nat) e,t.place[i]?=some s->es[i]?=some e->∃ k,pos t.mask e.1 k=s/\∀ k',k' < k->∃ i':Nat,t.place[i']?=some (pos t.mask e.1 k')
variable {α:Type} {t:SetTable} {es:Array (Int × α)}
theorem vj {xs:Array Nat} (hs:Srt xs) {mask:Nat} (ht:∀ (i s:Nat),xs[i]?=some s->s<=mask) (hl:xs.size<=mask):∃ j,j<=mask/\NotIn xs j:=by
 have hnd:xs.toList.Nodup:=by
  refine List.pairwise_iff_getElem.mpr fun i i' h1 h2 hlt e=>?_
  rw [Array.length_toList] at h1 h2
  have:=hs i i' _ _ (Array.getElem?_eq_getElem h1) (Array.getElem?_eq_getElem h2) hlt
  rw [Array.getElem_toList,Array.getElem_toList] at e
  omega
 by_cases h:∃ j,j<=mask/\NotIn xs j
 ·exact h
 ·exfalso
  have hsub:List.range (mask+1) ⊆ xs.toList:=fun j hj=>by
   have hj:j<=mask:=by have:=List.mem_range.mp hj; omega
   by_cases q:NotIn xs j
   ·exact absurd ⟨j,hj,q⟩ h
   ·unfold NotIn at q
    simp only [ne_eq,Classical.not_forall,Classical.not_not] at q
    obtain ⟨i,e⟩:=q
    rw [<- Array.getElem?_toList] at e
    exact List.mem_of_getElem? e
  have:=(List.nodup_range (n:=mask+1)).length_le_of_subset hsub
  rw [List.length_range,Array.length_toList] at this
  omega
end TB

namespace TB
open PySem PySem.SetTable
variable {α:Type} {t:SetTable} {es:Array (Int × α)}
theorem least {P:Nat->Prop}:∀ (n:Nat),P n->∃ m,m<=n/\P m/\∀ k,k < m->¬ P k:=by
 intro n
 induction n using Nat.strongRecOn with
 | ind n ih =>
  intro h
  by_cases q:∃ k,k < n/\P k
  ·obtain ⟨k,hk,hp⟩:=q
   obtain ⟨m,h1,h2,h3⟩:=ih k hk hp
   exact ⟨m,by omega,h2,h3⟩
  ·exact ⟨n,Nat.le_refl _,h,fun k hk hp=>q ⟨k,hk,hp⟩⟩
structure End (t:SetTable) (h:Int) (K:Nat):Prop where
 lt:K < 10 * turns t.mask
 free:NotIn t.place (pos t.mask h K)
 full:∀ k,k < K->∃ i:Nat,t.place[i]?=some (pos t.mask h k)
theorem vW (g:Good t es) (hl:es.size<=t.mask) (h:Int):∃ K,End t h K:=by
 obtain ⟨j,hj,hn⟩:=vj g.srt g.top (g.len ▸ hl)
 obtain ⟨d,hd,e⟩:=cover g.msk h 0 hj
 rw [Nat.zero_add] at e
 obtain ⟨K,h1,h2,h3⟩:=least (P:=fun k=>NotIn t.place (pos t.mask h k)) d (by show NotIn t.place _; rw [e]; exact hn)
 refine ⟨K,by omega,h2,fun k hk=>?_⟩
 have:=h3 k hk
 unfold NotIn at this
 simp only [ne_eq,Classical.not_forall,Classical.not_not] at this
 exact this
theorem x_ (g:Good t es) {h:Int} {K:Nat} (E:End t h K) {i:Nat} {e:Int × α} (he:es[i]?=some e) (hh:e.1=h):∃ k,k < K/\t.place[i]?=some (pos t.mask h k):=by
 have hi:=(Array.getElem?_eq_some_iff.mp he).1
 have hi':i < t.place.size:=g.len ▸ hi
 have hp:t.place[i]?=some t.place[i]:=Array.getElem?_eq_getElem hi'
 obtain ⟨k,e1,e2⟩:=g.way i _ e hp he
 rw [hh] at e1 e2
 refine ⟨k,?_,by rw [hp,<- e1]⟩
 rcases Nat.lt_trichotomy k K with z|z|z
 ·exact z
 ·subst z; exact absurd (e1 ▸ hp) (E.free i)
 ·obtain ⟨i',q⟩:=e2 K z; exact absurd q (E.free i')
theorem vm (g:Good t es) {h:Int} {K:Nat} (E:End t h K) {f:Nat->Int} {k:Nat} (hk:k<=K) :
  t.probe f h (st t.mask h k)=some (.empty (pos t.mask h K) none)/\(∀ (m i:Nat),k<=m->m < K->t.place[i]?=some (pos t.mask h m)->f i≠h) \/
  ∃ m i,k<=m/\m < K/\t.place[i]?=some (pos t.mask h m)/\f i=h/\t.slot (pos t.mask h m)=.live i/\t.probe f h (st t.mask h k)=some (.candidate (pos t.mask h m) i (st t.mask h (m+1)))/\∀ (m' i':Nat),k<=m'->m' < m->t.place[i']?=some (pos t.mask h m')->f i'≠h:=by
 by_cases q:∃ m,k<=m/\m < K/\∃ i:Nat,t.place[i]?=some (pos t.mask h m)/\f i=h
 ·obtain ⟨m0,q⟩:=q
  obtain ⟨m,_,⟨h1,h2,i,h3,h4⟩,h5⟩:=least (P:=fun m=>k<=m/\m < K/\∃ i:Nat,t.place[i]?=some (pos t.mask h m)/\f i=h) m0 q
  have hne:∀ (m' i':Nat),k<=m'->m' < m->t.place[i']?=some (pos t.mask h m')->f i'≠h:=fun m' i' a b c d=>h5 m' b ⟨a,by omega,i',c,d⟩
  refine .inr ⟨m,i,h1,h2,h3,h4,i9 g.srt h3,?_,hne⟩
  have:=zm (t:=t) (f:=f) (h:=h) (d:=m - k) (k:=k) (i:=i) (by have:=E.lt; omega) (fun k' a b=>by
   obtain ⟨i',e⟩:=E.full k' (by omega)
   exact ⟨i',i9 g.srt e,hne k' i' a (by omega) e⟩) (by rw [show k+(m - k)=m by omega]; exact i9 g.srt h3) h4
  rw [show k+(m - k)=m by omega] at this
  exact this
 ·have hne:∀ (m i:Nat),k<=m->m < K->t.place[i]?=some (pos t.mask h m)->f i≠h:=fun m i a b c d=>q ⟨m,a,b,i,c,d⟩
  refine .inl ⟨?_,hne⟩
  have:=Cf (t:=t) (f:=f) (h:=h) (d:=K - k) (k:=k) (by have:=E.lt; omega) (fun k' a b=>by
   obtain ⟨i',e⟩:=E.full k' (by omega)
   exact ⟨i',i9 g.srt e,hne k' i' a (by omega) e⟩) (by rw [show k+(K - k)=K by omega]; exact Ew g.dum E.free)
  rw [show k+(K - k)=K by omega] at this
  exact this
theorem fM {β:Type} (xs:Array β) {p:Nat} (hp:p<=xs.size) (x:β) (i:Nat):(insertAt xs p x)[i]?=if i < p then xs[i]? else if i=p then some x else xs[i - 1]?:=by
 rw [<- Array.getElem?_toList,SetTable.toList_insertAt]
 have hl:(xs.toList.take p).length=p:=by rw [List.length_take,Array.length_toList]; omega
 by_cases h1:i < p
 ·rw [if_pos h1]
  rw [List.getElem?_append_left (by omega),List.getElem?_take_of_lt h1,Array.getElem?_toList]
 ·rw [if_neg h1]
  rw [List.getElem?_append_right (by omega),hl]
  by_cases h2:i=p
  ·subst h2; rw [if_pos rfl,Nat.sub_self]; rfl
  ·rw [if_neg h2]
   obtain ⟨m,rfl⟩:∃ m,i=p+1+m:=⟨i - p - 1,by omega⟩
   rw [show p+1+m - p=m+1 by omega,show p+1+m - 1=p+m by omega]
   show (xs.toList.drop p)[m]?=_
   rw [List.getElem?_drop,Array.getElem?_toList]
theorem kD {β:Type} (xs:Array β) (p:Nat) (x:β):(insertAt xs p x).size=xs.size+1:=by
 have:=(SetTable.insertAt_perm xs p x).length_eq
 rw [Array.length_toList,Array.length_toList,Array.size_push] at this
 exact this
theorem DW (j:Nat):has #[] j=false:=rfl
theorem uJ (g:Good t es) {h:Int} {K:Nat} (E:End t h K) (x:α):Good (t.put (pos t.mask h K)).1 (insertAt es (t.put (pos t.mask h K)).2 (h,x)):=by
 obtain ⟨s1,s2,s3⟩:=kC g.srt (pos t.mask h K)
 generalize hj:pos t.mask h K=j at s1 s2 s3
 have hfree:NotIn t.place j:=hj ▸ E.free
 generalize hp:below t.place j=p at s1 s2 s3
 have e1:(t.put j).1.place=insertAt t.place p j:=by unfold put; rw [hp]
 have e2:(t.put j).2=p:=by unfold put; rw [hp]
 have e3:(t.put j).1.mask=t.mask:=rfl
 have e4:(t.put j).1.dummies=#[]:=by
  show (if has t.dummies j then eraseAt t.dummies (below t.dummies j) else t.dummies)=#[]
  rw [g.dum,DW]; rfl
 have s1':p<=es.size:=g.len ▸ s1
 have up:∀ (i s:Nat),t.place[i]?=some s->∃ i':Nat,(insertAt t.place p j)[i']?=some s:=fun i s e=>by
  by_cases z:i < p
  ·exact ⟨i,by rw [fM _ s1,if_pos z]; exact e⟩
  ·exact ⟨i+1,by rw [fM _ s1,if_neg (by omega),if_neg (by omega)]; exact e⟩
 refine ⟨e4,by rw [e1,e2,kD,kD,g.len],?_,?_,by rw [e3]; exact g.msk,?_⟩
 ·rw [e1]
  intro i i' v v' a b hlt
  rw [fM _ s1] at a b
  by_cases z:i < p
  ·rw [if_pos z] at a
   by_cases z':i' < p
   ·rw [if_pos z'] at b; exact g.srt i i' v v' a b hlt
   ·rw [if_neg z'] at b
    by_cases w:i'=p
    ·rw [if_pos w] at b; cases b; exact s2 i v a z
    ·rw [if_neg w] at b; exact g.srt i _ v v' a b (by omega)
  ·rw [if_neg z] at a
   rw [if_neg (by omega),if_neg (by omega)] at b
   by_cases w:i=p
   ·rw [if_pos w] at a
    cases a
    have h1:=s3 _ v' b (by omega)
    have h2:v'≠j:=fun q=>hfree _ (q ▸ b)
    omega
   ·rw [if_neg w] at a
    exact g.srt _ _ v v' a b (by omega)
 ·rw [e1,e3]
  intro i s a
  rw [fM _ s1] at a
  by_cases z:i < p
  ·rw [if_pos z] at a; exact g.top i s a
  ·rw [if_neg z] at a
   by_cases w:i=p
   ·rw [if_pos w] at a; cases a; rw [<- hj]; exact Bm _ _ _
   ·rw [if_neg w] at a; exact g.top _ s a
 ·rw [e1,e2,e3]
  intro i s e a b
  rw [fM _ s1] at a
  rw [fM _ s1'] at b
  have old:∀ (m s:Nat) e,t.place[m]?=some s->es[m]?=some e->∃ k,pos t.mask e.1 k=s/\∀ k',k' < k->∃ i':Nat,(insertAt t.place p j)[i']?=some (pos t.mask e.1 k'):=fun m s e a b=>by
   obtain ⟨k,q1,q2⟩:=g.way m s e a b
   exact ⟨k,q1,fun k' hk'=>let ⟨i',q⟩:=q2 k' hk'; up i' _ q⟩
  by_cases z:i < p
  ·rw [if_pos z] at a b; exact old i s e a b
  ·rw [if_neg z] at a b
   by_cases w:i=p
   ·rw [if_pos w] at a b
    cases a; cases b
    exact ⟨K,hj,fun k' hk'=>let ⟨i',q⟩:=E.full k' hk'; up i' _ q⟩
   ·rw [if_neg w] at a b; exact old _ s e a b
end TB

namespace TB
open PySem PySem.SetTable
noncomputable def Occ (owner:Array (Option Nat)) (j:Nat):Prop:=∃ i:Nat,owner[j]?=some (some i)
theorem k9 {mask:Nat} {h:Int} {c:Nat} {b:Nat × Nat} (e:st mask h c=bs mask b) {a:Nat} (ha:b.1+a<=runEnd mask b.1):pos mask h (c+a)=b.1+a:=by
 unfold pos
 rw [<- iG,e,lg mask a (bs mask b) (by show a<=runEnd mask b.1 - b.1; omega)]
 rfl
theorem ur {mask:Nat} {h:Int} {c:Nat} {b:Nat × Nat} (e:st mask h c=bs mask b):st mask h (c+(runEnd mask b.1 - b.1+1))=bs mask (leap mask b.1 b.2):=by
 rw [<- iG,e]
 exact kR (p:=bs mask b) rfl
theorem pA {owner:Array (Option Nat)} {j:Nat} (hj:j < owner.size) (h:(owner.getD j (some 0)).isNone=false):Occ owner j:=by
 have hg:owner[j]?=some owner[j]:=Array.getElem?_eq_getElem hj
 rw [Array.getD_eq_getD_getElem?,hg] at h
 show ∃ i:Nat,owner[j]?=some (some i)
 rw [hg]
 cases q:owner[j] with
 | none=>rw [q] at h; cases h
 | some i=>exact ⟨i,rfl⟩
theorem zk {owner:Array (Option Nat)} {j:Nat} (hj:j < owner.size) (h:(owner.getD j (some 0)).isNone=true):owner[j]?=some none:=by
 have hg:owner[j]?=some owner[j]:=Array.getElem?_eq_getElem hj
 rw [Array.getD_eq_getD_getElem?,hg] at h
 rw [hg]
 cases q:owner[j] with
 | none=>rfl
 | some i=>rw [q] at h; cases h
theorem sf {mask:Nat} {owner:Array (Option Nat)} (hs:owner.size=mask+1) {h:Int} {j0:Nat} (hf:owner[j0]?=some none):∀ (fuel n:Nat) (b:Nat × Nat) (c:Nat),b.1<=mask->st mask h c=bs mask b->(∀ k,k < c->Occ owner (pos mask h k))->(bP mask n b).1=j0->n < fuel ->
  ∃ K,layClean.free mask owner fuel b.1 b.2=some (pos mask h K)/\owner[pos mask h K]?=some none/\∀ k,k < K->Occ owner (pos mask h k)
 | 0,n,b,c,_,_,_,_,hn=>by omega
 | fuel+1,n,b,c,hb,e,ho,hl,hn=>by
  have hr:=oH hb
  have hge:=kN mask b.1
  cases q:(List.range (runEnd mask b.1+1 - b.1)).find? (fun k=>(owner.getD (b.1+k) (some 0)).isNone) with
  | some a =>
   obtain ⟨h1,h2,h3⟩:=List.find?_range_eq_some.mp q
   have h2:=List.mem_range.mp h2
   have hp:=k9 e (a:=a) (by omega)
   refine ⟨c+a,?_,?_,fun k hk=>?_⟩
   ·unfold layClean.free
    rw [q,hp]
   ·rw [hp]; exact zk (by omega) h1
   ·by_cases z:k < c
    ·exact ho k z
    ·obtain ⟨m,rfl⟩:∃ m,k=c+m:=⟨k - c,by omega⟩
     rw [k9 e (a:=m) (by omega)]
     exact pA (by omega) (by simpa using h3 m (by omega))
  | none =>
   have h3:=List.find?_range_eq_none.mp q
   have occ:∀ a,b.1+a<=runEnd mask b.1->Occ owner (b.1+a):=fun a ha=>pA (by omega) (by simpa using h3 a (by omega))
   cases n with
   | zero =>
    exfalso
    obtain ⟨i,w⟩:=occ 0 (by omega)
    have hl:b.1=j0:=hl
    rw [Nat.add_zero,hl,hf] at w
    cases w
   | succ n =>
    have hle:(leap mask b.1 b.2).1<=mask:=Nat.lt_succ_iff.mp (Nat.mod_lt _ (Nat.succ_pos mask))
    obtain ⟨K,r1,r2,r3⟩:=sf hs hf fuel n (leap mask b.1 b.2) (c+(runEnd mask b.1 - b.1+1)) hle (ur e) (fun k hk=>by
     by_cases z:k < c
     ·exact ho k z
     ·obtain ⟨m,rfl⟩:∃ m,k=c+m:=⟨k - c,by omega⟩
      rw [k9 e (a:=m) (by omega)]
      exact occ m (by omega)) hl (by omega)
    refine ⟨K,?_,r2,r3⟩
    unfold layClean.free
    rw [q]
    exact r1
theorem BW {mask:Nat} (hm:Msk mask) {owner:Array (Option Nat)} (hs:owner.size=mask+1) {j0:Nat} (hf:owner[j0]?=some none) (h:Int) :
  ∃ K,layClean.free mask owner (turns mask) (bits h % (mask+1)) (bits h)=some (pos mask h K)/\owner[pos mask h K]?=some none/\∀ k,k < K->Occ owner (pos mask h k):=by
 have hj:j0<=mask:=by have:=(Array.getElem?_eq_some_iff.mp hf).1; omega
 have hi:bits h % (mask+1)<=mask:=Nat.lt_succ_iff.mp (Nat.mod_lt _ (Nat.succ_pos mask))
 obtain ⟨n,h1,h2,e⟩:=reach hm hi (oB h) hj
 exact sf hs hf (turns mask) (n+1) (bits h % (mask+1),bits h) 0 hi rfl (fun k hk=>by omega) e (by unfold turns; omega)
structure Own (mask:Nat) (hs:List Int) (owner:Array (Option Nat)):Prop where
 size:owner.size=mask+1
 lt:∀ (j i:Nat),owner[j]?=some (some i)->i < hs.length
 ex:∀ i:Nat,i < hs.length->∃ j:Nat,owner[j]?=some (some i)
 inj:∀ (j j' i:Nat),owner[j]?=some (some i)->owner[j']?=some (some i)->j=j'
 way:∀ (j i:Nat) h,owner[j]?=some (some i)->hs[i]?=some h->∃ K,pos mask h K=j/\∀ k,k < K->Occ owner (pos mask h k)
theorem v9 (mask:Nat):Own mask [] (Array.replicate (mask+1) none):=by
 have no:∀ (j i:Nat),(Array.replicate (mask+1) (none:Option Nat))[j]?≠some (some i):=fun j i e=>by
  rw [Array.getElem?_replicate] at e
  split at e <;> cases e
 exact ⟨Array.size_replicate,fun j i e=>absurd e (no j i),fun i h=>absurd h (Nat.not_lt_zero i),fun j _ i e=>absurd e (no j i),fun j i _ e=>absurd e (no j i)⟩
theorem uV {mask:Nat} {hs:List Int} {owner:Array (Option Nat)} (o:Own mask hs owner) (hl:hs.length<=mask):∃ j:Nat,owner[j]?=some none:=by
 by_cases q:∃ j:Nat,owner[j]?=some none
 ·exact q
 ·exfalso
  have all:∀ j,j < mask+1->∃ i:Nat,owner[j]?=some (some i):=fun j hj=>by
   have hj':j < owner.size:=by rw [o.size]; exact hj
   have hg:owner[j]?=some owner[j]:=Array.getElem?_eq_getElem hj'
   cases w:owner[j] with
   | none=>exact absurd ⟨j,by rw [hg,w]⟩ q
   | some i=>exact ⟨i,by rw [hg,w]⟩
  let g:Nat->Nat:=fun j=>((owner[j]?).getD none).getD 0
  have hg:∀ j i:Nat,owner[j]?=some (some i)->g j=i:=fun j i e=>by show ((owner[j]?).getD none).getD 0=i; rw [e]; rfl
  have hnd:((List.range (mask+1)).map g).Nodup:=by
   refine List.pairwise_map.mpr (List.Pairwise.imp_of_mem (fun {a b} ha hb hab=>?_) (List.nodup_range (n:=mask+1)))
   obtain ⟨i,e⟩:=all a (List.mem_range.mp ha)
   obtain ⟨i',e'⟩:=all b (List.mem_range.mp hb)
   rw [hg a i e,hg b i' e']
   intro z
   subst z
   exact hab (o.inj a b i e e')
  have hsub:(List.range (mask+1)).map g ⊆ List.range hs.length:=fun x hx=>by
   obtain ⟨j,hj,rfl⟩:=List.mem_map.mp hx
   obtain ⟨i,e⟩:=all j (List.mem_range.mp hj)
   rw [hg j i e]
   exact List.mem_range.mpr (o.lt j i e)
  have:=hnd.length_le_of_subset hsub
  rw [List.length_map,List.length_range,List.length_range] at this
  omega
theorem sY {mask:Nat} (hm:Msk mask) {hs:List Int} {owner:Array (Option Nat)} (o:Own mask hs owner) (hl:hs.length<=mask) (h:Int) :
  ∃ j,layClean.free mask owner (turns mask) (bits h % (mask+1)) (bits h)=some j/\Own mask (hs++[h]) (owner.setIfInBounds j (some hs.length)):=by
 obtain ⟨j0,hf⟩:=uV o hl
 obtain ⟨K,e1,e2,e3⟩:=BW hm o.size hf h
 generalize hj:pos mask h K=j at e1 e2
 have hjl:j < owner.size:=(Array.getElem?_eq_some_iff.mp e2).1
 have get:∀ x:Nat,(owner.setIfInBounds j (some hs.length))[x]?=if x=j then some (some hs.length) else owner[x]?:=fun x=>by
  rw [Array.getElem?_setIfInBounds]
  by_cases z:j=x
  ·subst z; rw [if_pos rfl,if_pos hjl,if_pos rfl]
  ·rw [if_neg z,if_neg (fun q=>z q.symm)]
 have keep:∀ x:Nat,Occ owner x->Occ (owner.setIfInBounds j (some hs.length)) x:=fun x ⟨i,w⟩=>⟨i,by
  rw [get,if_neg (fun q=>by subst q; rw [e2] at w; cases w)]; exact w⟩
 refine ⟨j,e1,?_,?_,?_,?_,?_⟩
 ·rw [Array.size_setIfInBounds]; exact o.size
 ·intro x i w
  rw [get] at w
  rw [List.length_append,List.length_singleton]
  split at w
  ·cases w; omega
  ·have:=o.lt x i w; omega
 ·intro i hi
  rw [List.length_append,List.length_singleton] at hi
  by_cases z:i=hs.length
  ·subst z; exact ⟨j,by rw [get,if_pos rfl]⟩
  ·obtain ⟨x,w⟩:=o.ex i (by omega)
   exact ⟨x,by rw [get,if_neg (fun q=>by subst q; rw [e2] at w; cases w)]; exact w⟩
 ·intro x x' i w w'
  rw [get] at w w'
  by_cases z:x=j
  ·by_cases z':x'=j
   ·rw [z,z']
   ·rw [if_pos z] at w; rw [if_neg z'] at w'
    cases w
    have:=o.lt x' _ w'; omega
  ·rw [if_neg z] at w
   by_cases z':x'=j
   ·rw [if_pos z'] at w'
    cases w'
    have:=o.lt x _ w; omega
   ·rw [if_neg z'] at w'; exact o.inj x x' i w w'
 ·intro x i h' w hh
  rw [get] at w
  by_cases z:x=j
  ·rw [if_pos z] at w
   cases w
   rw [List.getElem?_append_right (Nat.le_refl _),Nat.sub_self] at hh
   cases hh
   exact ⟨K,by rw [hj,z],fun k hk=>keep _ (e3 k hk)⟩
  ·rw [if_neg z] at w
   rw [List.getElem?_append_left (o.lt x i w)] at hh
   obtain ⟨K',r1,r2⟩:=o.way x i h' w hh
   exact ⟨K',r1,fun k hk=>keep _ (r2 k hk)⟩
theorem qp {mask:Nat} (hm:Msk mask):∀ (rest done:List Int) (owner:Array (Option Nat)),Own mask done owner->done.length+rest.length<=mask+1 ->
  ∃ o',(rest.foldl (fun (acc:Option (Array (Option Nat) × Nat)) h=>do let (owner,k) <- acc; let j <- layClean.free mask owner (turns mask) (bits h % (mask+1)) (bits h); pure (owner.setIfInBounds j (some k),k+1)) (some (owner,done.length)))=some (o',(done++rest).length)/\Own mask (done++rest) o'
 | [],done,owner,o,_=>⟨owner,by rw [List.append_nil]; rfl,by rw [List.append_nil]; exact o⟩
 | h::rest,done,owner,o,hl=>by
  rw [List.length_cons] at hl
  obtain ⟨j,e,o2⟩:=sY hm o (by omega) h
  obtain ⟨o',e',o3⟩:=qp hm rest (done++[h]) _ o2 (by rw [List.length_append,List.length_singleton]; omega)
  rw [List.append_assoc] at e' o3
  refine ⟨o',?_,o3⟩
  rw [List.foldl_cons]
  rw [List.length_append,List.length_singleton] at e'
  have:(do let (owner,k) <- some (owner,done.length); let j <- layClean.free mask owner (turns mask) (bits h % (mask+1)) (bits h); pure (owner.setIfInBounds j (some k),k+1))=some (owner.setIfInBounds j (some done.length),done.length+1):=by
   show (layClean.free mask owner (turns mask) (bits h % (mask+1)) (bits h)).bind (fun j=>some (owner.setIfInBounds j (some done.length),done.length+1))=_
   rw [e]; rfl
  rw [this]
  exact e'
theorem Cs {mask:Nat} (hm:Msk mask) (hs:Array Int) (hl:hs.size<=mask+1):∃ o',layClean mask hs=some o'/\Own mask hs.toList o':=by
 obtain ⟨o',e,o⟩:=qp hm hs.toList [] _ (v9 mask) (by rw [List.length_nil,Array.length_toList]; omega)
 rw [List.nil_append] at e o
 refine ⟨o',?_,o⟩
 unfold layClean
 rw [<- Array.foldl_toList]
 rw [List.length_nil] at e
 rw [e]
 rfl
end TB

namespace TB
open PySem PySem.SetTable
variable {α:Type} {es:Array (Int × α)}
theorem rF:∀ {l:List Nat},(∀ i∈l,i < es.size)->(l.filterMap (es[·]?)).length=l.length/\∀ m:Nat,(l.filterMap (es[·]?))[m]?=l[m]?.bind (es[·]?)
 | [],_=>⟨rfl,fun m=>by simp⟩
 | i::l,h=>by
  have hi:=h i List.mem_cons_self
  obtain ⟨h1,h2⟩:=rF (l:=l) fun x hx=>h x (List.mem_cons_of_mem _ hx)
  have e:es[i]?=some es[i]:=Array.getElem?_eq_getElem hi
  rw [List.filterMap_cons,e]
  refine ⟨by rw [List.length_cons,List.length_cons,h1],fun m=>?_⟩
  cases m with
  | zero=>rw [List.getElem?_cons_zero,List.getElem?_cons_zero]; exact e.symm
  | succ m=>rw [List.getElem?_cons_succ,List.getElem?_cons_succ]; exact h2 m
noncomputable def bu (mask:Nat) (owner:Array (Option Nat)):List (Nat × Nat):=(List.range (mask+1)).filterMap fun j=>(owner.getD j none).map (j,·)
theorem tT {mask:Nat} {owner:Array (Option Nat)} (hs:owner.size=mask+1) (j i:Nat):(j,i)∈bu mask owner ↔ owner[j]?=some (some i):=by
 unfold bu
 rw [List.mem_filterMap]
 constructor
 ·rintro ⟨x,hx,e⟩
  have hx:x < owner.size:=by rw [hs]; exact List.mem_range.mp hx
  have hg:owner[x]?=some owner[x]:=Array.getElem?_eq_getElem hx
  rw [Array.getD_eq_getD_getElem?,hg] at e
  cases q:owner[x] with
  | none=>rw [q] at e; cases e
  | some y =>
   rw [q] at e
   have e:(x,y)=(j,i):=by simpa using e
   cases e
   rw [hg,q]
 ·intro e
  have hj:j < owner.size:=(Array.getElem?_eq_some_iff.mp e).1
  refine ⟨j,List.mem_range.mpr (by omega),?_⟩
  rw [Array.getD_eq_getD_getElem?,e]; rfl
theorem uZ (mask:Nat) (owner:Array (Option Nat)):(bu mask owner).Pairwise fun a b=>a.1 < b.1:=by
 refine List.Pairwise.filterMap _ (fun a a' hlt b hb b' hb'=>?_) List.pairwise_lt_range
 cases q:owner.getD a none with
 | none=>rw [q] at hb; cases hb
 | some y =>
  cases q':owner.getD a' none with
  | none=>rw [q'] at hb'; cases hb'
  | some y' =>
   rw [q] at hb; rw [q'] at hb'
   have hb:(a,y)=b:=by simpa using hb
   have hb':(a',y')=b':=by simpa using hb'
   subst hb; subst hb'
   exact hlt
theorem yZ {l l':List Nat} (h:l.Nodup) (h':l'.Nodup) (hm:∀ a,a∈l ↔ a∈l'):l.Perm l':=by
 rw [List.perm_iff_count]
 intro a
 rw [h.count,h'.count]
 by_cases q:a∈l
 ·rw [if_pos q,if_pos ((hm a).mp q)]
 ·rw [if_neg q,if_neg (fun z=>q ((hm a).mpr z))]
theorem yb {mask:Nat} (hm:Msk mask) (es:Array (Int × α)) (hl:es.size<=mask+1) (finger moves:Nat) (led plain:Bool) :
  ∃ t' order,laid mask finger moves led plain (es.map (·.1))=some (t',order)/\Good t' (order.filterMap (es[·]?))/\(order.filterMap (es[·]?)).size=es.size/\(order.filterMap (es[·]?)).toList.Perm es.toList /\
   t'={ mask:=mask,place:=t'.place,dummies:=#[],finger:=finger,led:=led,moves:=moves,plain:=plain }:=by
 obtain ⟨owner,e,o⟩:=Cs hm (es.map (·.1)) (by rw [Array.size_map]; exact hl)
 have hlen:(es.map (·.1)).toList.length=es.size:=by rw [Array.length_toList,Array.size_map]
 have hm':=tT o.size
 have hlt:=uZ mask owner
 have hi:∀ i∈(bu mask owner).map (·.2),i < es.size:=fun i hi=>by
  obtain ⟨⟨j,i'⟩,h1,rfl⟩:=List.mem_map.mp hi
  have:=o.lt j i' ((hm' j i').mp h1)
  rw [hlen] at this
  exact this
 obtain ⟨f1,f2⟩:=rF (es:=es) hi
 have hnd:((bu mask owner).map (·.2)).Nodup:=by
  refine List.pairwise_map.mpr (List.Pairwise.imp_of_mem (fun {a b} ha hb hab=>?_) hlt)
  obtain ⟨j,i⟩:=a
  obtain ⟨j',i'⟩:=b
  intro z
  have z:i=i':=z
  subst z
  have:=o.inj j j' i ((hm' j i).mp ha) ((hm' j' i).mp hb)
  subst this
  exact absurd hab (Nat.lt_irrefl _)
 have hperm:((bu mask owner).map (·.2)).Perm (List.range es.size):=yZ hnd List.nodup_range fun a=>by
  constructor
  ·intro h; exact List.mem_range.mpr (hi a h)
  ·intro h
   obtain ⟨j,w⟩:=o.ex a (by rw [hlen]; exact List.mem_range.mp h)
   exact List.mem_map.mpr ⟨(j,a),(hm' j a).mpr w,rfl⟩
 have hfm:(((bu mask owner).map (·.2)).toArray.filterMap (es[·]?)).toList=((bu mask owner).map (·.2)).filterMap (es[·]?):=by rw [Array.toList_filterMap]
 have hget:∀ m:Nat,(((bu mask owner).map (·.2)).toArray.filterMap (es[·]?))[m]?=((bu mask owner).map (·.2))[m]?.bind (es[·]?):=fun m=>by rw [<- Array.getElem?_toList,hfm,f2]
 have hsize:(((bu mask owner).map (·.2)).toArray.filterMap (es[·]?)).size=es.size:=by
  rw [<- Array.length_toList,hfm,f1,hperm.length_eq,List.length_range]
 refine ⟨_,_,by unfold laid; rw [e]; rfl,?_,hsize,?_,rfl⟩
 ·have pget:∀ m:Nat,((bu mask owner).map (·.1)).toArray[m]?=(bu mask owner)[m]?.map (·.1):=fun m=>by rw [List.getElem?_toArray,List.getElem?_map]
  refine ⟨rfl,?_,?_,?_,hm,?_⟩
  ·show ((bu mask owner).map (·.1)).toArray.size=_
   rw [hsize,List.size_toArray,List.length_map]
   have:=hperm.length_eq
   rw [List.length_map,List.length_range] at this
   exact this
  ·intro i i' v v' a b hlt'
   have a:((bu mask owner).map (·.1)).toArray[i]?=some v:=a
   have b:((bu mask owner).map (·.1)).toArray[i']?=some v':=b
   rw [pget] at a b
   obtain ⟨x,hx,rfl⟩:=Option.map_eq_some_iff.mp a
   obtain ⟨y,hy,rfl⟩:=Option.map_eq_some_iff.mp b
   obtain ⟨h1,e1⟩:=List.getElem?_eq_some_iff.mp hx
   obtain ⟨h2,e2⟩:=List.getElem?_eq_some_iff.mp hy
   have:=List.pairwise_iff_getElem.mp hlt i i' h1 h2 hlt'
   rw [e1,e2] at this
   exact this
  ·intro i s a
   have a:((bu mask owner).map (·.1)).toArray[i]?=some s:=a
   rw [pget] at a
   obtain ⟨⟨j,k⟩,hx,rfl⟩:=Option.map_eq_some_iff.mp a
   have:=(Array.getElem?_eq_some_iff.mp ((hm' j k).mp (List.mem_of_getElem? hx))).1
   have:=o.size
   show j<=mask
   omega
  ·intro i s e' a b
   have a:((bu mask owner).map (·.1)).toArray[i]?=some s:=a
   have b:(((bu mask owner).map (·.2)).toArray.filterMap (es[·]?))[i]?=some e':=b
   rw [pget] at a
   obtain ⟨⟨j,k⟩,hx,rfl⟩:=Option.map_eq_some_iff.mp a
   rw [hget,List.getElem?_map,hx] at b
   have b:es[k]?=some e':=b
   have hown:=(hm' j k).mp (List.mem_of_getElem? hx)
   have hh:(es.map (·.1)).toList[k]?=some e'.1:=by rw [Array.getElem?_toList,Array.getElem?_map,b]; rfl
   obtain ⟨K,r1,r2⟩:=o.way j k e'.1 hown hh
   refine ⟨K,r1,fun k' hk'=>?_⟩
   obtain ⟨i2,w⟩:=r2 k' hk'
   obtain ⟨m,hm2⟩:=List.getElem?_of_mem ((hm' _ i2).mpr w)
   exact ⟨m,by show ((bu mask owner).map (·.1)).toArray[m]?=_; rw [pget,hm2]; rfl⟩
 ·rw [hfm]
  have:=hperm.filterMap (es[·]?)
  rw [filterMap_getElem?_range] at this
  exact this
end TB

namespace TB
open PySem PySem.SetTable
section
variable {prog:Program} {w:World} {A:Around} {E:Value->Shared->Prop} {s:Shared}
abbrev TK (prog:Program) (w:World) (h:Heap) (ks:List Int) (b:Addr):Prop:=IsTupleKey (intKind prog w) h ks b
noncomputable def hsh (prog:Program) (w:World) (ks:List Int):Int:=tupleKeyHash (intKind prog w) ks
structure El (prog:Program) (w:World) (h:Heap) (e:Int × Value) (ks:List Int):Prop where
 hash:e.1=hsh prog w ks
 ref:∃ b,e.2=.ref b/\TK prog w h ks b
theorem qd {ks:List Int} {vs:List Value} (h:ItemsAre (intKind prog w) ks vs):∀ v∈vs,∃ i t,v=Value.int i t:=by
 induction h with
 | nil=>intro v hv; cases hv
 | cons h1 _ ih =>
  intro v hv
  rcases List.mem_cons.mp hv with rfl|hv
  ·obtain ⟨t,e⟩:=Value.isInt_shape h1; exact ⟨_,t,e⟩
  ·exact ih v hv
theorem pH (n:Nat) {ks:List Int} {b:Addr} {Q:Bool->Shared->Prop} (hk:TK prog w s.heap ks b) (h:Q false s):wpAny (model prog w) A (ofAClassStatement (n+1) (.ref b)) Q E s:=by
 obtain ⟨o,items,m,ho,hc,hd,hi⟩:=hk
 unfold ofAClassStatement
 refine wpAny_bind (wpAny_typeOf_ref ho ?_)
 rw [hc]
 refine wpAny_bind (wpAny_pure ?_)
 simp only [Bool.not_true,Bool.false_eq_true,if_false]
 refine wpAny_bind (wpAny_seqItems ho hd ?_)
 refine wpAny_bind ?_
 show wpAny _ _ (forIn items _ _) _ _ s
 rw [<- Array.forIn_toList]
 refine wpAny_forIn_list _ (fun rest r z=>r.1=none/\z=s/\∀ v∈rest,∃ i t,v=Value.int i t) _ ?_ ?_ _ _ ⟨rfl,rfl,qd hi⟩
 ·rintro v rest r z ⟨hr,rfl,hall⟩
  obtain ⟨i,t,rfl⟩:=hall v List.mem_cons_self
  have e:ofAClassStatement n (Value.int i t)=pure false:=by cases n <;> rfl
  rw [e]
  refine wpAny_bind (wpAny_pure ?_)
  exact wpAny_pure ⟨rfl,rfl,fun u hu=>hall u (List.mem_cons_of_mem _ hu)⟩
 ·rintro ⟨r1,r2⟩ z ⟨hr,rfl,_⟩
  have hr:r1=none:=hr
  subst hr
  exact wpAny_pure h
theorem Ex {ks:List Int} {b:Addr} {ys:List Value} {Q:Bool->Shared->Prop} (hk:TK prog w s.heap ks b) (hy:∀ y∈ys,∃ js c,y=Value.ref c/\TK prog w s.heap js c) (h:Q false s):wpAny (model prog w) A (searchCouldBeSeen (.ref b) ys) Q E s:=by
 unfold searchCouldBeSeen
 refine wpAny_bind (wpAny_forIn_list _ (fun rest r z=>r.1=none/\z=s/\∀ y∈rest,∃ js c,y=Value.ref c/\TK prog w s.heap js c) _ ?_ ?_ _ _ ⟨rfl,rfl,hy⟩)
 ·rintro y rest r z ⟨hr,rfl,hall⟩
  obtain ⟨js,c,rfl,hc⟩:=hall y List.mem_cons_self
  have hrest:∀ y∈rest,∃ js c,y=Value.ref c/\TK prog w z.heap js c:=fun u hu=>hall u (List.mem_cons_of_mem _ hu)
  dsimp only
  split
  ·exact wpAny_pure ⟨rfl,rfl,hrest⟩
  ·refine wpAny_bind (wpAny_eqIsQuiet_tuple hk ?_)
   simp only [Bool.not_true,Bool.false_eq_true,if_false]
   refine wpAny_bind (wpAny_eqIsQuiet_tuple hc ?_)
   simp only [Bool.not_true,Bool.false_eq_true,if_false]
   refine wpAny_bind (pH 7 hk ?_)
   simp only [Bool.false_eq_true,if_false]
   refine wpAny_bind (pH 7 hc ?_)
   simp only [Bool.false_eq_true,if_false]
   exact wpAny_pure ⟨rfl,rfl,hrest⟩
 ·rintro ⟨r1,r2⟩ z ⟨hr,rfl,_⟩
  have hr:r1=none:=hr
  subst hr
  exact wpAny_pure h
noncomputable def iV (prog:Program) (w:World) (h:Heap) (es:Array (Int × Value)) (L:List (List Int)):Prop:=L.length=es.size/\∀ (i:Nat) e ks,es[i]?=some e->L[i]?=some ks->El prog w h e ks
theorem iV.get {h:Heap} {es:Array (Int × Value)} {L:List (List Int)} (k:iV prog w h es L) {i:Nat} {e:Int × Value} (he:es[i]?=some e):∃ ks,L[i]?=some ks/\El prog w h e ks:=by
 have hi:=(Array.getElem?_eq_some_iff.mp he).1
 have hi':i < L.length:=by rw [k.1]; exact hi
 have hl:L[i]?=some L[i]:=List.getElem?_eq_getElem hi'
 exact ⟨_,hl,k.2 i e _ he hl⟩
theorem eO {t:SetTable} {es:Array (Int × Value)} (g:Good t es) (hl:es.size<=t.mask):t.fits es.size=true:=by
 unfold SetTable.fits SetTable.fill
 rw [g.dum,g.len]
 simp only [beq_self_eq_true,Bool.true_and,decide_eq_true_eq]
 exact hl
theorem wO {mask:Nat} (h:Msk mask):(mask % 2==0)=false:=by rcases h with rfl|rfl <;> rfl
theorem mH {t:SetTable} {f f':Nat->Int} {h:Int} {p:SetTable.Probe} {r:Option SetTable.Met} (e:t.probe f h p=r) (hf:∀ i,f' i=f i):t.probe f' h p=r:=by rw [show f'=f from funext hf]; exact e
theorem tO {a c:Addr} {o:Obj} {es:Array (Int × Value)} {ep:Nat} {t:SetTable} {L:List (List Int)} {ks:List Int} {Q:SetFound->Shared->Prop} (hu:A.units < cLine)
  (ho:s.heap.get? a=some o) (hd:o.data=.set es ep t) (g:Good t es) (hl:es.size<=t.mask) (K:iV prog w s.heap es L) (hk:TK prog w s.heap ks c) {M:Nat} (EN:End t (hsh prog w ks) M)
  (h1:ks∈L->Q (.there none) s) (h2:ks ∉ L->Q (.free (pos t.mask (hsh prog w ks) M) false) s) :
  ∀ (n fuel k:Nat) (stand:Option SetTable.Probe),M - k=n->n < fuel->k<=M->stand.getD (t.probeStart (hsh prog w ks))=st t.mask (hsh prog w ks) k ->
   (∀ (m i:Nat),m < k->t.place[i]?=some (pos t.mask (hsh prog w ks) m)->L[i]?≠some ks) ->
   wpAny (model prog w) A (setSearchFrom a (.ref c) (hsh prog w ks) true fuel stand) Q E s:=by
 intro n
 induction n using Nat.strongRecOn with
 | ind n ih =>
  intro fuel k stand hn hf hkM hst hprev
  obtain ⟨fuel,rfl⟩:∃ f,fuel=f+1:=⟨fuel - 1,by omega⟩
  have hfit:=eO g hl
  unfold setSearchFrom
  refine wpAny_bind (wpAny_setState_of ho hd hfit ?_)
  dsimp only
  have hgw:t.gaveWay=false:=wO g.msk
  rw [hgw]
  simp only [Bool.false_eq_true,if_false]
  rw [hst]
  have hsto:∀ (i:Nat) e,es[i]?=some e->(es[i]?.map (·.1)).getD 0=e.1:=fun i e he=>by rw [he]; rfl
  rcases vm g EN (f:=fun i=>(es[i]?.map (·.1)).getD 0) hkM with ⟨hp,hne⟩|⟨m,i,hkm,hmM,hpi,hfi,hslot,hp,hne⟩
  ·rw [mH hp]
   rotate_left
   ·exact fun i=>rfl
   refine wpAny_pure (h2 fun hmem=>?_)
   obtain ⟨i,hi⟩:=List.getElem?_of_mem hmem
   have hi':i < es.size:=by rw [<- K.1]; exact (List.getElem?_eq_some_iff.mp hi).1
   have he:es[i]?=some es[i]:=Array.getElem?_eq_getElem hi'
   have hel:=K.2 i _ ks he hi
   obtain ⟨m,hm,hpl⟩:=x_ g EN he hel.hash
   by_cases z:m < k
   ·exact hprev m i z hpl hi
   ·exact hne m i (by omega) hm hpl ((hsto i _ he).trans hel.hash)
  ·rw [mH hp]
   rotate_left
   ·exact fun i=>rfl
   dsimp only
   have hi':i < es.size:=by rw [<- g.len]; exact (Array.getElem?_eq_some_iff.mp hpi).1
   have he:es[i]?=some es[i]:=Array.getElem?_eq_getElem hi'
   obtain ⟨js,hjs,hel⟩:=K.get he
   obtain ⟨b,hb,hkb⟩:=hel.ref
   have hstored:∀ y∈(es.filter (·.1==hsh prog w ks)).toList.map (·.2),∃ js c,y=Value.ref c/\TK prog w s.heap js c:=fun y hy=>by
    obtain ⟨e,h3,rfl⟩:=List.mem_map.mp hy
    have h3:e∈es:=by
     rw [Array.toList_filter] at h3
     exact Array.mem_def.mpr (List.mem_filter.mp h3).1
    obtain ⟨i',hi'⟩:=Array.getElem?_of_mem h3
    obtain ⟨js',_,hel'⟩:=K.get hi'
    obtain ⟨b',q1,q2⟩:=hel'.ref
    exact ⟨js',b',q1,q2⟩
   have rest:wpAny (model prog w) A (do
     let some (_,y):=es[i]?|unsupported "internal:set-entry"
     let equal <- holding [y] (eqBool y (.ref c))
     let (es',_,t') <- setState a
     if true&&equal then return .there none
     let some same:=t'.sameMemory t.moves t.mask|unsupported "set.changed-during-lookup:is-the-new-block-at-the-old-address"
     let aC <- match (if same then t'.slot (pos t.mask (hsh prog w ks) m) else .empty) with
      | .live i'=>match es'[i']? with
       | some (_,y')=>do pure (if <- isSame y' y then some i' else none)
       | none=>pure none
      | _=>pure none
     match aC with
     | none=>rule "set.search.anew"; setSearchFrom a (.ref c) (hsh prog w ks) true fuel none
     | some i'=>if equal then return .there (some i') else setSearchFrom a (.ref c) (hsh prog w ks) true fuel (some (st t.mask (hsh prog w ks) (m+1)))) Q E s:=by
    rw [he]
    rcases hE:es[i] with ⟨eh,ev⟩
    rw [hE] at hb
    have hb:ev=.ref b:=hb
    subst hb
    dsimp only
    refine wpAny_bind (wpAny_holding (wpAny_eqBool_tuple hu hkb hk ?_))
    refine wpAny_bind (wpAny_setState_of ho hd hfit ?_)
    dsimp only
    by_cases hq:js=ks
    ·subst hq
     rw [decide_eq_true rfl]
     simp only [Bool.and_self,if_true]
     exact wpAny_pure (h1 (List.mem_of_getElem? hjs))
    ·rw [decide_eq_false hq]
     simp only [Bool.and_false,Bool.false_eq_true,if_false]
     have hsm:t.sameMemory t.moves t.mask=some true:=by unfold SetTable.sameMemory; simp only [beq_self_eq_true,if_true]
     rw [hsm]
     simp only [if_true]
     rw [hslot]
     dsimp only
     rw [he,hE]
     dsimp only
     refine wpAny_bind (wpAny_isSame_ref_self (wpAny_bind (wpAny_pure ?_)))
     simp only [if_true]
     refine ih (M - (m+1)) (by omega) fuel (m+1) _ rfl (by omega) (by omega) rfl fun m' i' hm' hpl=>?_
     by_cases z:m' < k
     ·exact hprev m' i' z hpl
     ·by_cases z2:m'=m
      ·subst z2
       have:i'=i:=by
        have r1:=below_at g.srt hpl
        have r2:=below_at g.srt hpi
        omega
       subst this
       rw [hjs]
       intro q
       cases q
       exact hq rfl
      ·intro q
       have hi2:i' < es.size:=by rw [<- g.len]; exact (Array.getElem?_eq_some_iff.mp hpl).1
       have he2:es[i']?=some es[i']:=Array.getElem?_eq_getElem hi2
       exact hne m' i' (by omega) (by omega) hpl ((hsto i' _ he2).trans (K.2 i' _ ks he2 q).hash)
   cases hled:t.led with
   | true =>
    simp only [Bool.not_true,Bool.false_eq_true,if_false]
    exact rest
   | false =>
    simp only [Bool.not_false,if_true]
    refine wpAny_bind (Ex hk hstored ?_)
    simp only [Bool.false_eq_true,if_false]
    exact rest
end
end TB

namespace TB
open PySem PySem.SetTable
section
variable {prog:Program} {w:World} {A:Around} {E:Value->Shared->Prop} {s:Shared}
inductive Els (prog:Program) (w:World) (h:Heap):List (Int × Value)->List (List Int)->Prop
 | nil:Els prog w h [] []
 | cons {e:Int × Value} {ks:List Int} {l:List (Int × Value)} {L:List (List Int)}:El prog w h e ks->Els prog w h l L->Els prog w h (e::l) (ks::L)
variable {h:Heap}
theorem Els.length:∀ {l:List (Int × Value)} {L:List (List Int)},Els prog w h l L->L.length=l.length
 | _,_,.nil=>rfl
 | _,_,.cons _ r=>by rw [List.length_cons,List.length_cons,r.length]
theorem Els.get:∀ {l:List (Int × Value)} {L:List (List Int)},Els prog w h l L->∀ (i:Nat) e ks,l[i]?=some e->L[i]?=some ks->El prog w h e ks
 | _,_,.nil,i,e,ks,a,_=>by simp at a
 | _,_,.cons q r,0,e,ks,a,b=>by cases a; cases b; exact q
 | _,_,.cons q r,i+1,e,ks,a,b=>r.get i e ks a b
theorem Els.keys {es:Array (Int × Value)} {L:List (List Int)} (x:Els prog w h es.toList L):iV prog w h es L :=
 ⟨by rw [x.length,Array.length_toList],fun i e ks a b=>x.get i e ks (by rw [Array.getElem?_toList]; exact a) b⟩
theorem Els.perm {l l':List (Int × Value)} (p:l.Perm l'):∀ {L:List (List Int)},Els prog w h l' L->∃ L',Els prog w h l L'/\L'.Perm L:=by
 induction p with
 | nil=>intro L x; cases x; exact ⟨[],.nil,.nil⟩
 | cons e _ ih=>intro L x; cases x with|cons q r=>obtain ⟨L',a,b⟩:=ih r; exact ⟨_,.cons q a,b.cons _⟩
 | swap e e' l=>intro L x; cases x with|cons q r=>cases r with|cons q' r'=>exact ⟨_,.cons q' (.cons q r'),.swap ..⟩
 | trans _ _ ih1 ih2 =>
  intro L x
  obtain ⟨L1,a1,b1⟩:=ih2 x
  obtain ⟨L2,a2,b2⟩:=ih1 a1
  exact ⟨L2,a2,b2.trans b1⟩
theorem Els.snoc:∀ {l:List (Int × Value)} {L:List (List Int)} {e:Int × Value} {ks:List Int},Els prog w h l L->El prog w h e ks->Els prog w h (l++[e]) (L++[ks])
 | _,_,_,_,.nil,q=>.cons q .nil
 | _,_,_,_,.cons a r,q=>.cons a (r.snoc q)
theorem Els.mono {h':Heap} (f:∀ ks b,TK prog w h ks b->TK prog w h' ks b):∀ {l:List (Int × Value)} {L:List (List Int)},Els prog w h l L->Els prog w h' l L
 | _,_,.nil=>.nil
 | _,_,.cons ⟨a,b,c,d⟩ r=>.cons ⟨a,b,c,f _ _ d⟩ (r.mono f)
theorem nW {a b:Addr} {h':Heap} {ks:List Int} {o:Obj} {es:Array (Int × Value)} {ep:Nat} {t:SetTable} (ho:h.get? a=some o) (hd:o.data=.set es ep t) (q:Heap.SameBut a h h') (x:TK prog w h ks b):TK prog w h' ks b:=by
 obtain ⟨ob,items,n,x1,x2,x3,x4⟩:=x
 refine ⟨ob,items,n,(q.2 b fun z=>?_).trans x1,x2,x3,x4⟩
 subst z
 rw [ho] at x1
 cases x1
 rw [hd] at x3
 cases x3
noncomputable def byT (w:World):Bool:=w.params.followText "set-order"
noncomputable def bJ (prog:Program) (w:World) (lim:Addr->Prop) (h:Heap) (a:Addr) (L:List (List Int)):Prop:=∃ o es ep t,h.get? a=some o/\o.ExactSet/\o.data=.set es ep t/\Good t es/\(t.plain=true/\t.led=!byT w)/\es.size * 5 < t.mask * 3/\Els prog w h es.toList L/\L.Nodup /\
 ∀ e∈es.toList,∀ b,e.2=.ref b->lim b
theorem EH {ks:List Int} {c:Addr} {Q:Bool->Shared->Prop} (hk:TK prog w s.heap ks c) (q:Q true s):wpAny (model prog w) A (hashByValue 8 (.ref c)) Q E s:=by
 have hT:=hk.typeIs
 obtain ⟨o,items,m,ho,hc,hd,hi⟩:=hk
 unfold hashByValue
 refine wpAny_bind (wpAny_specialOf hT F.slot_tuple_hash.lookup ?_)
 show wpAny _ _ (seqItems? (.ref c)>>=_) _ _ s
 refine wpAny_bind (wpAny_seqItems ho hd ?_)
 refine wpAny_bind ?_
 show wpAny _ _ (forIn items _ _) _ _ s
 rw [<- Array.forIn_toList]
 refine wpAny_forIn_list _ (fun rest r z=>r.1=none/\z=s/\∀ v∈rest,∃ i t,v=Value.int i t) _ ?_ ?_ _ _ ⟨rfl,rfl,qd hi⟩
 ·rintro v rest r z ⟨hr,rfl,hall⟩
  obtain ⟨i,t,rfl⟩:=hall v List.mem_cons_self
  have e:∀ n,hashByValue n (Value.int i t)=pure true:=fun n=>by cases n <;> rfl
  rw [e]
  refine wpAny_bind (wpAny_pure ?_)
  exact wpAny_pure ⟨rfl,rfl,fun u hu=>hall u (List.mem_cons_of_mem _ hu)⟩
 ·rintro ⟨r1,r2⟩ z ⟨hr,rfl,_⟩
  have hr:r1=none:=hr
  subst hr
  exact wpAny_pure q
theorem BC {mask:Nat} (hm:Msk mask):10 * turns mask < 100000:=by rcases hm with rfl|rfl <;> decide
theorem mZ {a:Addr} {o:Obj} {es:Array (Int × Value)} {ep:Nat} {t:SetTable} (ho:h.get? a=some o) (hd:o.data=.set es ep t) (es':Array (Int × Value)) (t':SetTable) :
  (h.update a (Obj.putSet es' t')).get? a=some { o with data:=.set es' (ep+1) t' }:=by
 have q:=Heap.get?_update_self (Obj.putSet es' t') ho (by rw [putSet_of es' t' hd]; rfl)
 rw [putSet_of es' t' hd] at q
 exact q
theorem wM {a c:Addr} {L:List (List Int)} {ks:List Int} {Q:Bool->Shared->Prop} (hu:A.units < cLine) {lim:Addr->Prop} (hs:bJ prog w lim s.heap a L) (hn:L.length<=17) (hk:TK prog w s.heap ks c) (hc:lim c)
  (q:∀ r h' L',Heap.SameBut a s.heap h'->bJ prog w lim h' a L'->(∀ x,x∈L' ↔ x∈L\/x=ks)->L'.length<=L.length+1->Q r { s with heap:=h' }) :
  wpAny (model prog w) A (setAddHashed a (.ref c) (hsh prog w ks)) Q E s:=by
 obtain ⟨o,es,ep,t,ho,hex,hd,g,hpl,hsz,hels,hnd,hlim⟩:=hs
 have hlen:L.length=es.size:=by rw [hels.length,Array.length_toList]
 have hl:es.size<=t.mask:=by rcases g.msk with z|z <;> omega
 have hfit:=eO g hl
 obtain ⟨M,EN⟩:=vW g hl (hsh prog w ks)
 have hts:=BC g.msk
 have hML:=EN.lt
 unfold setAddHashed setAddHashedIn
 refine wpAny_holding (wpAny_bind (wpAny_setState_of ho hd hfit ?_))
 dsimp only
 have hbs:byScan (.ref c) es=false:=rfl
 rw [hbs]
 simp only [Bool.false_eq_true,if_false]
 unfold setSearch
 refine wpAny_bind (tO hu ho hd g hl hels.keys hk EN (fun hm=>?_) (fun hm=>?_) M 100000 0 none (Nat.sub_zero M) (by omega) (Nat.zero_le _) rfl (fun m i hm=>absurd hm (Nat.not_lt_zero m)))
 ·have e:s={ s with heap:=s.heap }:=by cases s; rfl
  rw [e]
  exact wpAny_pure (q _ s.heap L (Heap.SameBut.refl a s.heap) ⟨o,es,ep,t,ho,hex,hd,g,hpl,hsz,hels,hnd,hlim⟩ (fun x=>⟨.inl,fun z=>z.elim id fun z=>z ▸ hm⟩) (Nat.le_succ _))
 dsimp only
 refine wpAny_bind (wpAny_setState_of ho hd hfit ?_)
 dsimp only
 have g1:=uJ g EN (Value.ref c)
 generalize hp:t.put (pos t.mask (hsh prog w ks) M)=TP at g1
 have hmask:TP.1.mask=t.mask:=by rw [<- hp]; rfl
 have hplain:TP.1.plain=true:=by rw [<- hp]; exact hpl.1
 have hled:TP.1.led=!byT w:=by rw [<- hp]; exact hpl.2
 obtain ⟨t1,p⟩:=TP
 have hmask:t1.mask=t.mask:=hmask
 have hplain:t1.plain=true:=hplain
 have hled:t1.led=!byT w:=hled
 have g1:Good t1 (insertAt es p (hsh prog w ks,.ref c)):=g1
 dsimp only
 rw [hplain]
 simp only [if_true]
 refine wpAny_bind (EH hk ?_)
 simp only [if_true]
 have hperm:=SetTable.insertAt_perm es p (hsh prog w ks,Value.ref c)
 rw [Array.toList_push] at hperm
 have hz1:(insertAt es p (hsh prog w ks,Value.ref c)).size=es.size+1:=kD _ _ _
 obtain ⟨L1,x1,y1⟩:=Els.perm hperm (hels.snoc (e:=(hsh prog w ks,Value.ref c)) ⟨rfl,c,rfl,hk⟩)
 have hL1:L1.length=L.length+1:=by rw [y1.length_eq,List.length_append,List.length_singleton]
 have hnd1:L1.Nodup:=y1.nodup_iff.mpr (List.nodup_append.mpr ⟨hnd,by simp,fun x hx y hy=>by rw [List.mem_singleton.mp hy]; intro z; exact hm (z ▸ hx)⟩)
 have hm1:∀ x,x∈L1 ↔ x∈L\/x=ks:=fun x=>by rw [y1.mem_iff,List.mem_append,List.mem_singleton]
 have hlim1:∀ e∈(insertAt es p (hsh prog w ks,Value.ref c)).toList,∀ b,e.2=.ref b->lim b:=fun e he b hb=>by
  rcases List.mem_append.mp (hperm.mem_iff.mp he) with z|z
  ·exact hlim e z b hb
  ·rw [List.mem_singleton.mp z] at hb; cases hb; exact hc
 generalize insertAt es p (hsh prog w ks,Value.ref c)=es1 at g1 hz1 x1 hlim1
 have hline:∀ n:Nat,n<=100->n<=sizeLine:=fun n h=>by rw [sizeLine_eq]; omega
 have ho1:=mZ (h:=s.heap) ho hd es1 t1
 have sb1:=Heap.SameBut.update s.heap a (Obj.putSet es1 t1)
 refine wpAny_bind (wpAny_storeSet_of ho hd ?_ (hline _ (by omega)))
 have hl1:es1.size<=t1.mask:=by rw [hmask]; rcases g.msk with z|z <;> omega
 have hfill:t1.fill=es1.size:=by unfold SetTable.fill; rw [g1.dum,g1.len]; rfl
 have x1':=x1.mono fun ks b z=>nW ho hd sb1 z
 by_cases hfull:t1.tooFull=true
 ·rw [hfull]
  simp only [Bool.not_false,Bool.and_self,if_true]
  have hfull:t1.fill * 5 ≥ t1.mask * 3:=of_decide_eq_true hfull
  rw [hfill,hmask,hz1] at hfull
  have h4:es.size=4:=by rcases g.msk with z|z <;> omega
  unfold setRelay
  refine wpAny_bind ?_
  refine wpAny_bind (wpAny_setState_of ho1 rfl (eO g1 hl1) ?_)
  dsimp only
  have hw:SetTable.grown (es.size+1)=20:=by rw [h4]; rfl
  rw [hw]
  have h32:SetTable.sizeAbove 20=32:=by decide
  have hno:¬ (SetTable.sizeAbove 20 > sizeLine):=by rw [h32,sizeLine_eq]; omega
  rw [if_neg hno]
  obtain ⟨t2,order,e2,g2,z2,p2,f2⟩:=yb (mask:=31) (.inr rfl) es1 (by omega) t1.finger (t1.movedTo 31) t1.led t1.plain
  have hrel:t1.relaid (es1.map (·.1)) 20=some (t2,order):=by unfold SetTable.relaid; rw [h32]; exact e2
  have hplain2:t2.plain=true:=by rw [f2]; exact hplain
  have hled2:t2.led=!byT w:=by rw [f2]; exact hled
  have hmask2:t2.mask=31:=by rw [f2]
  rw [show (es1.map fun x=>x.1)=es1.map (·.1) from rfl,hrel]
  obtain ⟨L2,x2,y2⟩:=Els.perm p2 x1'
  generalize hes2:order.filterMap (es1[·]?)=es2 at g2 z2 p2 x2
  have ho2:=mZ ho1 rfl es2 t2
  have sb2:=Heap.SameBut.update (s.heap.update a (Obj.putSet es1 t1)) a (Obj.putSet es2 t2)
  refine wpAny_bind (wpAny_of_eq (a:=(es2,t2)) ?_ ?_)
  ·show (ite _ _ _:Sem (Array (Int × Value) × SetTable))=_
   refine (if_neg ?_).trans ?_
   ·rw [hes2,z2]; simp
   ·rw [hes2]
  ·refine wpAny_storeSet_of ho1 rfl ?_ (hline _ (by show es2.size<=100; omega))
   refine wpAny_pure (q _ _ L2 (sb1.trans sb2) ⟨_,es2,_,t2,ho2,hex,rfl,g2,⟨hplain2,hled2⟩,by omega,x2.mono fun ks b z=>nW ho1 rfl sb2 z,y2.nodup_iff.mpr hnd1,fun e he=>hlim1 e (p2.mem_iff.mp he)⟩ (fun x=>by rw [y2.mem_iff,hm1]) (by rw [y2.length_eq]; omega))
 ·have hfull':t1.tooFull=false:=by simpa using hfull
  rw [hfull']
  simp only [Bool.and_false,Bool.false_eq_true,if_false]
  have hnf:¬ (t1.fill * 5 ≥ t1.mask * 3):=fun z=>hfull (decide_eq_true z)
  rw [hfill] at hnf
  exact wpAny_pure (q _ _ L1 sb1 ⟨_,es1,ep+1,t1,ho1,hex,rfl,g1,⟨hplain,hled⟩,by omega,x1',hnd1,hlim1⟩ hm1 (by omega))
theorem bJ.keep {lim:Addr->Prop} {a:Addr} {h':Heap} {L:List (List Int)} (x:bJ prog w lim h a L) (k:∀ b o,lim b\/b=a->h.get? b=some o->h'.get? b=some o):bJ prog w lim h' a L:=by
 obtain ⟨o,es,ep,t,ho,hex,hd,g,hpl,hsz,hels,hnd,hlim⟩:=x
 refine ⟨o,es,ep,t,k a o (.inr rfl) ho,hex,hd,g,hpl,hsz,?_,hnd,hlim⟩
 have all:∀ (l:List (Int × Value)) (L:List (List Int)),(∀ e∈l,∀ b,e.2=.ref b->lim b)->Els prog w h l L->Els prog w h' l L:=by
  intro l L hl q
  induction q with
  | nil=>exact .nil
  | @cons e ks l L q r ih =>
   obtain ⟨q1,b,q2,ob,items,n,x1,x2⟩:=q
   exact .cons ⟨q1,b,q2,ob,items,n,k b ob (.inl (hl e List.mem_cons_self b q2)) x1,x2⟩ (ih fun e' he'=>hl e' (List.mem_cons_of_mem _ he'))
 exact all _ _ hlim hels
theorem vq (finger moves:Nat) (led:Bool):Good (.fresh finger moves led) (#[]:Array (Int × Value)) :=
 ⟨rfl,rfl,fun i _ v _ e=>by simp [SetTable.fresh] at e,fun i v e=>by simp [SetTable.fresh] at e,.inl rfl,fun i v _ e=>by simp [SetTable.fresh] at e⟩
theorem bJ.new {lim:Addr->Prop} {a:Addr} (ho:h.get? a=some { cls:=.type "set",dict:=none,data:=.set #[] 0 (.fresh 0 0 (!byT w)) }):bJ prog w lim h a [] :=
 ⟨_,#[],0,_,ho,⟨rfl,rfl,rfl⟩,rfl,vq 0 0 _,⟨rfl,rfl⟩,(show 0 * 5 < 7 * 3 by decide),.nil,List.nodup_nil,fun e he=>by simp at he⟩
end
end TB

namespace TB
open PySem PySem.SetTable PySem.Spec
section
variable {prog:Program} {w:World} {A:Around} {R:Result->Shared->Prop} {I:Addr} {fp wr:List Addr} {G:Array GenState->Array GenState->Prop} {n:Nat} {P:Nat->Value->Prop} {St:Nat->Shared->Prop}
theorem dO {h h':Heap} {ks:List Int} {c:Addr} (x:TK prog w h ks c) (k:∀ o,h.get? c=some o->h'.get? c=some o):TK prog w h' ks c:=by
 obtain ⟨o,items,m,x1,x2⟩:=x
 exact ⟨o,items,m,k o x1,x2⟩
theorem z9 (hu:A.in1.units < cLine) (W:WalksS prog w A.in1 I fp wr G n P St) (S:Addr) (lim:Addr->Prop) (hS1:S ∉ fp) (hwr:∀ b∈wr,¬ lim b) (hSl:¬ lim S) (val:Nat->List Int) (hn:n<=18) (hval:∀ i v,P i v->∃ c,v=.ref c/\lim c) :
  ∀ (k i:Nat) (z:Shared) (L:List (List Int)),n - i=k->i<=n->St i z->bJ prog w lim z.heap S L->(∀ x,x∈L ↔ ∃ j,j < i/\val j=x)->L.length<=i->(∀ i c,P i (.ref c)->TK prog w z.heap (val i) c) ->
   (∀ z' L',Moved (S::wr) G z z'->bJ prog w lim z'.heap S L'->(∀ x,x∈L' ↔ ∃ j,j < n/\val j=x)->(∀ i c,P i (.ref c)->TK prog w z'.heap (val i) c)->R (.ok (.ret .none)) z') ->
   codeAny (model prog w) A (.builtin "set.update.loop" ⟨[.ref S,.ref I],[]⟩) R z:=by
 have hS2:S ∉ wr:=fun q=>hS1 (W.sub _ q)
 have more:∀ b∈wr,b∈S::wr:=fun b q=>List.mem_cons_of_mem _ q
 have old:∀ {c:Addr},lim c->c ∉ wr:=fun hc q=>hwr _ q hc
 intro k
 induction k with
 | zero =>
  intro i z L hk hi hst hT hL hlen hP hR
  obtain rfl:i=n:=by omega
  refine codeAny_builtin PyProof.Rows.F.entry_set_update_loop ?_
  rw [Around.under_plainId PyProof.Rows.F.plain_set_update_loop _]
  refine wpAny_bind (W.done z _ _ hst fun z' hm=>?_)
  refine wpAny_pure (hR z' L (hm.mono more) (hT.keep fun b o hb e=>hm.heap b o ?_ e) hL fun j c hp=>dO (hP j c hp) fun o e=>hm.heap c o ?_ e)
  ·rcases hb with hb|rfl
   ·exact old hb
   ·exact hS2
  ·obtain ⟨c',q1,q2⟩:=hval j _ hp; cases q1; exact old q2
 | succ k ih =>
  intro i z L hk hi hst hT hL hlen hP hR
  have hlt:i < n:=by omega
  refine codeAny_builtin PyProof.Rows.F.entry_set_update_loop ?_
  rw [Around.under_plainId PyProof.Rows.F.plain_set_update_loop _]
  refine wpAny_bind (W.item i z _ _ hlt hst fun v z' hv hst' hm=>?_)
  obtain ⟨c,rfl,hc⟩:=hval i v hv
  have hP':∀ i c,P i (.ref c)->TK prog w z'.heap (val i) c:=fun j d hp=>dO (hP j d hp) fun o e=>hm.heap d o (by obtain ⟨c',q1,q2⟩:=hval j _ hp; cases q1; exact old q2) e
  have hT':bJ prog w lim z'.heap S L:=hT.keep fun b o hb e=>hm.heap b o (by rcases hb with hb|rfl; exact old hb; exact hS2) e
  have hci:=hP' i c hv
  refine wpAny_bind (wpAny_holding ?_)
  unfold setAdd
  refine wpAny_holding (wpAny_bind (wpAny_pyHash_tuple hu hci ?_))
  refine wM (s:={ z' with toks:=z'.toks+((val i).length+1) }) hu hT' (by omega) hci hc fun r h' L' sb hT2 hL2 hlen2=>?_
  have kp:∀ b o,b≠S->z'.heap.get? b=some o->h'.get? b=some o:=fun b o hb e=>(sb.2 b hb).trans e
  refine wpAny_pure ⟨plainId_quiet PyProof.Rows.F.plain_set_update_loop _,ih (i+1) _ L' (by omega) hlt (W.frame _ z' _ _ hst' (Nat.le_add_right _ _) fun b hb o e=>kp b o (fun q=>hS1 (q ▸ hb)) e) hT2 (fun x=>?_) (by omega) (fun j d hp=>dO (hP' j d hp) fun o e=>kp d o ?_ e) fun z2 L2 hm2 a1 a2 a3=>?_⟩
  ·rw [hL2,hL]
   constructor
   ·rintro (⟨j,h1,h2⟩|rfl)
    ·exact ⟨j,by omega,h2⟩
    ·exact ⟨i,by omega,rfl⟩
   ·rintro ⟨j,h1,rfl⟩
    by_cases q:j=i
    ·subst q; exact .inr rfl
    ·exact .inl ⟨j,by omega,rfl⟩
  ·obtain ⟨c',q1,q2⟩:=hval j _ hp; cases q1; exact fun q=>hSl (q ▸ q2)
  ·exact hR z2 L2 (Moved.trans W.gtrans ((hm.mono more).then_heap (Nat.le_add_right _ _) fun b o hb e=>kp b o (fun q=>hb (by rw [q]; exact List.mem_cons_self)) e) hm2) a1 a2 a3
end
end TB

namespace TB
open PySem PySem.SetTable
theorem eW:Slot "set_iterator" "__next__" "set_iterator.__next__" :=
 .of (owner:="set_iterator") (n:="__next__") (by rw [typeLookup_type,builtinLookup_eq_fast]; kernel_rfl) (by decide +kernel) (by decide +kernel) (by decide +kernel) (.inl (by decide +kernel)) (by rw [isSubtype_type]; kernel_rfl)
theorem rS:Slot "set_iterator" "__iter__" "set_iterator.__iter__" :=
 .of (owner:="set_iterator") (n:="__iter__") (by rw [typeLookup_type,builtinLookup_eq_fast]; kernel_rfl) (by decide +kernel) (by decide +kernel) (by decide +kernel) (.inl (by decide +kernel)) (by rw [isSubtype_type]; kernel_rfl)
theorem rG:entryFor table "set_iterator.__next__" = some Builtin.«set_iterator.__next__»:=entryFor_of_fast (by kernel_rfl)
theorem Bq:entryFor table "set_iterator.__iter__" = some Builtin.«dict_keyiterator.__iter__»:=entryFor_alias (id':="dict_keyiterator.__iter__") (by kernel_rfl) rfl (by decide +kernel) (by kernel_rfl)
theorem r9 (a:Value):argsOk "set_iterator.__next__" ⟨[a],[]⟩:=by unfold argsOk; kernel_rfl
theorem CB (a:Value):argsOk "set_iterator.__iter__" ⟨[a],[]⟩:=by unfold argsOk; kernel_rfl
theorem AV:entryFor table "set.__iter__" = some Builtin.«frozenset.__iter__»:=entryFor_alias (id':="frozenset.__iter__") (by kernel_rfl) rfl (by decide +kernel) (by kernel_rfl)
end TB

namespace TB
open PySem PySem.SetTable PySem.Spec
section
variable {prog:Program} {w:World} {A:Around} {E:Value->Shared->Prop} {s:Shared}
noncomputable def DT (prog:Program) (w:World) (h:Heap) (items:Array Value) (val:Nat->List Int):Prop:=∀ (i:Nat) v,items[i]?=some v->∃ c,v=.ref c/\TK prog w h (val i) c
noncomputable def dP (led:Bool):Obj:={ cls:=.type "set",dict:=none,data:=.set #[] 0 (.fresh 0 0 led) }
noncomputable def Made (prog:Program) (w:World) (h:Heap) (items:Array Value) (val:Nat->List Int) (h':Heap):Prop:=(∃ L,bJ prog w (fun c=>c < h.objs.size/\Value.ref c∈items.toList) h' h.objs.size L/\∀ x,x∈L ↔ ∃ j,j < items.size/\val j=x)/\∀ b o,b < h.objs.size->h.get? b=some o->h'.get? b=some o
set_option maxRecDepth 100000 in
set_option maxHeartbeats 3200000 in
theorem C7 (a:Value) {Q:Value->Shared->Prop} (q:Q (.ref s.heap.objs.size) { s with heap:=s.heap.push (dP (!byT w)) }) :
  codeAny (model prog w) A (.call (.builtin "set.__new__") ⟨[.type "set",a],[]⟩) (wants Q E) s:=by
 refine codeAny_of_tree (show wpAny _ A.in1 (do checkBuiltinCall "set.__new__" ⟨[.type "set",a],[]⟩; again (.builtin "set.__new__" ⟨[.type "set",a],[]⟩)) _ _ s from ?_)
 refine wpAny_bind (wpAny_of_eq (F.newCall_set_1 a) (wpAny_pure ⟨plainId_quiet F.plain_set_new _,codeAny_builtin F.entry_set_new ?_⟩)); rw [Around.under_plainId F.plain_set_new _]
 unfold Builtin.«set.__new__» Builtin.Frozenset.newClass; have hsub:=sub_set_self
 obtain ⟨hp,g,d,tk,os⟩:=s
 dsimp only; wp_walk
 refine wpAny_askSetting (wpAny_pure ?_)
 dsimp only; simp only [newObj]
 refine wpAny_bind (wpAny_alloc (wpAny_pure (wpAny_pure ?_)))
 exact q
set_option maxRecDepth 100000 in
set_option maxHeartbeats 3200000 in
theorem zZ {l:Addr} {items:Array Value} {val:Nat->List Int} {Q:Value->Shared->Prop} (hu:A.units+4 < cLine) (hh:A.handled=none) (hl:s.heap.IsList l items) (ht:DT prog w s.heap items val) (hb:items.size<=18)
  (q:∀ h' tk,Made prog w s.heap items val h'->Q (.ref s.heap.objs.size) { s with heap:=h',toks:=tk }):wpAny (model prog w) A (call (.type "set") [.ref l]) Q E s:=by
 obtain ⟨ka,kb,kc⟩:=F.called_set.mro; have kd:=F.called_set.made; have ke:=F.called_set.sub
 refine wpAny_call (codeAny_of_tree (show wpAny _ _ (callAny (.type "set") _) _ _ _ from ?_))
 refine wpAny_pure ⟨Code.quiet_builtin _ (by decide +kernel),codeAny_builtin F.entry_type_call ?_⟩; rw [Around.under_plain (weight_type_call_type "set" [.ref l] []) rfl]
 have kf:=F.called_set.notType; have kg:=F.called_set.canCreate; have ki:=F.typeCall_set_1 (.ref l)
 repeat (any_goals (first|wp_step|assumption))
 refine codeAny_mono (C7 (.ref l) (E:=E) (Q:=fun ob z=>∃ led:Bool,led=!byT w/\ob=.ref s.heap.objs.size/\z={ s with heap:=s.heap.push (dP led) }) ⟨_,rfl,rfl,rfl⟩) fun r z hr=>?_
 cases r with
 | error e=>exact hr
 | ok fl =>
  cases fl with
  | ret ob =>
   obtain ⟨led,hled,rfl,rfl⟩:=hr
   have gS:(s.heap.push (dP led)).get? s.heap.objs.size=some (dP led):=Heap.get?_push_size _ rfl
   have hT:Shared.TypeIs { s with heap:=s.heap.push (dP led) } (.ref s.heap.objs.size) "set":=⟨_,gS,rfl⟩
   have kj:=F.called_set.init.lookup; have kk:=F.called_set.init.bind (.ref s.heap.objs.size)
   repeat (any_goals (first|wp_step|assumption))
   refine codeAny_mono (codeAny_call_builtin (R:=wants (fun r z=>r=.none/\∃ h' tk,z={ s with heap:=h',toks:=tk }/\Made prog w s.heap items val h') E) F.called_set.init.plain F.entry_set_init (check_set_init_1 hT ?_)) fun r2 z2 hr2=>?_
   ·obtain ⟨⟨oc,od,ot,os⟩,hol,hcl,nl,hdl⟩:=hl
    have hcl:oc=.type "list":=hcl; have hdl:ot=.seq items nl:=hdl
    subst hcl; subst hdl
    have hlt:l < s.heap.objs.size:=Heap.lt_size hol
    have gl:(s.heap.push (dP led)).get? l=some { cls:=.type "list",dict:=od,data:=.seq items nl,slots:=os }:=Heap.get?_push_of_some _ hol
    have kl:=F.sub_list_set; have km:=F.sub_list_frozenset; have kn:(Value.type "list"==Value.type "dict")=false:=by decide
    have hl1:(s.heap.push (dP led)).IsList l items:=⟨_,gl,rfl,nl,rfl⟩
    unfold Builtin.«set.__init__» noKeywords Builtin.Frozenset.updateFrom
    generalize hpi:pyIter=pit
    unfold dP at *
    wp_walk
    subst hpi
    refine wpAny_pyIter_list hl1 (wpAny_bind (wpAny_runValue ?_))
    have sz:((s.heap.push ({ cls:=.type "set",dict:=none,data:=.set #[] 0 (.fresh 0 0 led) }:Obj)).objs.size)=s.heap.objs.size+1:=Heap.size_push _ _
    have h3:A.in1.in1.in1.handled=none:=by simpa using hh
    have hI:l≠(s.heap.push ({ cls:=.type "set",dict:=none,data:=.set #[] 0 (.fresh 0 0 led) }:Obj)).objs.size:=by rw [sz]; exact Nat.ne_of_lt (Nat.lt_succ_of_lt hlt)
    refine z9 (by show A.units+1+1+1 < cLine; omega) ((Walks.list h3 _ l hI items).toS) s.heap.objs.size (fun c=>c < s.heap.objs.size/\Value.ref c∈items.toList) ?hS1 ?hwr (fun z=>absurd z.1 (Nat.lt_irrefl _)) val hb ?hval (items.size - 0) 0 _ [] rfl (Nat.zero_le _) ⟨⟨_,Heap.get?_push_size _ rfl,rfl,rfl⟩,hl1.push _⟩ ?hT ?hL (Nat.le_refl _) ?hP ?hR
    case hS1=>rw [sz]; intro z; rcases List.mem_cons.mp z with z|z; exact absurd z (Nat.ne_of_lt (Nat.lt_succ_self _)); exact absurd (List.mem_singleton.mp z) (Nat.ne_of_gt hlt)
    case hwr=>intro b z q; rw [List.mem_singleton.mp z,sz] at q; exact absurd q.1 (Nat.not_lt_of_le (Nat.le_succ _))
    case hval =>
     intro i v hv
     obtain ⟨c,e,o,items',m,h1,h2⟩:=ht i v hv
     exact ⟨c,e,Heap.lt_size h1,List.mem_of_getElem? (by rw [<- e,Array.getElem?_toList]; exact hv)⟩
    case hT=>rw [hled] at gS ⊢; exact bJ.new (Heap.get?_push_of_some _ gS)
    case hL=>intro x; constructor; (intro z; cases z); (rintro ⟨j,z,_⟩; omega)
    case hP =>
     intro i c hp
     obtain ⟨c',e,x⟩:=ht i _ hp
     cases e
     exact dO x fun o e=>Heap.get?_push_of_some _ (Heap.get?_push_of_some _ e)
    case hR =>
     rintro ⟨h',g',d',tk',os'⟩ L' hm h1 h2 _
     obtain rfl:g'=s.gens:=hm.gens
     obtain rfl:d'=s.drawn:=hm.drawn
     obtain rfl:os'=s.os:=hm.os
     refine wpAny_pure (wpAny_pure ⟨rfl,h',tk',rfl,⟨L',h1,h2⟩,fun b o hb' e=>?_⟩)
     refine hm.heap b o (fun z=>?_) (Heap.get?_push_of_some _ (Heap.get?_push_of_some _ e))
     rcases List.mem_cons.mp z with z|z
     ·exact absurd z (Nat.ne_of_lt hb')
     ·rw [List.mem_singleton,sz] at z; exact absurd z (Nat.ne_of_lt (Nat.lt_succ_of_lt hb'))
   ·cases r2 with
    | error e=>exact hr2
    | ok fl2 =>
     cases fl2 with
     | ret r =>
      obtain ⟨rfl,h',tk,rfl,hm⟩:=hr2
      repeat (any_goals (first|wp_step|assumption))
      exact q _ _ hm
     | _=>exact hr2.elim
  | _=>exact hr.elim
end
end TB

namespace TB
open PySem PySem.SetTable
theorem vI {α:Type} {l:List α} {i:Nat} (h:i < l.length):(l[i]::l.eraseIdx i).Perm l:=by
 rw [List.eraseIdx_eq_take_drop_succ]
 refine List.perm_middle.symm.trans ?_
 rw [<- List.drop_eq_getElem_cons h,List.take_append_drop]
theorem sN {α:Type} (next:Nat->Nat):∀ (n k:Nat) (left:List α) (out:Array α),left.length=n->(pickOrder.go next n k left out).toList.Perm (out.toList++left)
 | 0,k,left,out,h=>by
  obtain rfl:=List.length_eq_zero_iff.mp h
  unfold pickOrder.go
  rw [List.append_nil]
 | n+1,k,left,out,h=>by
  have hi:next k % left.length < left.length:=Nat.mod_lt _ (by omega)
  unfold pickOrder.go
  rw [List.getElem?_eq_getElem hi]
  refine (sN next n (k+1) _ _ (by rw [List.length_eraseIdx_of_lt hi]; omega)).trans ?_
  rw [Array.toList_push,List.append_assoc]
  exact (vI hi).append_left _
theorem wF {α:Type} (next:Nat->Nat) (xs:Array α):(pickOrder next xs).toList.Perm xs.toList:=sN next xs.size 0 xs.toList #[] (Array.length_toList)
noncomputable def bM (w:World) (S:Addr) (ep:Nat) (es:Array (Int × Value)):Array (Int × Value):=if byT w=true then pickOrder (w.params.setOrder S ep) es else es
theorem j9 (w:World) (S:Addr) (ep:Nat) (es:Array (Int × Value)):(bM w S ep es).toList.Perm es.toList:=by
 unfold bM
 split
 ·exact wF _ _
 ·exact .refl _
theorem fQ (w:World) (S:Addr) (ep:Nat) (es:Array (Int × Value)):(bM w S ep es).size=es.size:=by
 rw [<- Array.length_toList,(j9 w S ep es).length_eq,Array.length_toList]
noncomputable def slotAt (w:World) (t:SetTable):Nat->Nat
 | 0=>0
 | i+1=>if byT w=true then 0 else t.place.getD i 0+1
noncomputable def lq (w:World) (S:Addr) (es:Array (Int × Value)) (ep:Nat) (t:SetTable) (i:Nat) (d:Option Addr) (sl:Array (Option Value)):Obj :=
 { cls:=.type "set_iterator",dict:=d,data:=.fields #[rawInt (slotAt w t i),rawInt i,.ref S,rawInt es.size,rawInt ep],slots:=sl }
section
variable {prog:Program} {w:World} {A:Around} {E:Value->Shared->Prop} {s:Shared} {I S:Addr} {o:Obj} {es:Array (Int × Value)} {ep:Nat} {t:SetTable}
structure Fix (w:World) (o:Obj) (es:Array (Int × Value)) (ep:Nat) (t:SetTable):Prop where
 data:o.data=.set es ep t
 good:Good t es
 plain:t.plain=true
 led:t.led=!byT w
 fit:es.size<=t.mask
theorem yz (g:Good t es) {i:Nat} (hi:i<=es.size) (hb:byT w=false):below t.place (slotAt w t i)=i:=by
 have hsp:=kC g.srt (slotAt w t i)
 cases i with
 | zero =>
  obtain ⟨h1,h2,h3⟩:=hsp
  rcases Nat.eq_zero_or_pos (below t.place (slotAt w t 0)) with z|z
  ·exact z
  ·have hlt:0 < t.place.size:=by omega
   exact absurd (h2 0 _ (Array.getElem?_eq_getElem hlt) z) (Nat.not_lt_zero _)
 | succ i =>
  have hlt:i < t.place.size:=by rw [g.len]; omega
  have hg:t.place[i]?=some t.place[i]:=Array.getElem?_eq_getElem hlt
  have e:slotAt w t (i+1)=t.place[i]+1:=by
   show (if byT w=true then 0 else t.place.getD i 0+1)=_
   rw [hb,if_neg Bool.false_ne_true,Array.getD_eq_getD_getElem?,hg]; rfl
  rw [e] at hsp ⊢
  obtain ⟨h1,h2,h3⟩:=hsp
  rcases Nat.lt_trichotomy (below t.place (t.place[i]+1)) (i+1) with z|z|z
  ·have:=h3 i _ hg (by omega); omega
  ·exact z
  ·have hlt2:i+1 < t.place.size:=by omega
   have hg2:t.place[i+1]?=some t.place[i+1]:=Array.getElem?_eq_getElem hlt2
   have a:=h2 (i+1) _ hg2 z
   have b:=g.srt i (i+1) _ _ hg hg2 (Nat.lt_succ_self i)
   omega
theorem qX {i:Nat} {Q:Option (Value × Nat)->Shared->Prop} (ho:s.heap.get? S=some o) (X:Fix w o es ep t) (hi:i<=es.size)
  (q:Q (((bM w S ep es)[i]?).map fun e=>(e.2,slotAt w t (i+1))) s):wpAny (model prog w) A (setNext S (slotAt w t i) i ep) Q E s:=by
 have hf:=eO X.good X.fit
 unfold setNext setsByText
 refine wpAny_bind (wpAny_setState_of ho X.data hf (wpAny_bind (wpAny_bind (wpAny_askSetting (wpAny_pure ?_)))))
 dsimp only
 have hbt:(model prog w).w.params.followText "set-order" = byT w:=rfl
 cases hb:byT w with
 | true =>
  rw [hbt,hb]
  simp only [if_true,bne_self_eq_false,Bool.false_eq_true,if_false]
  unfold setWalk setsByText
  refine wpAny_bind (wpAny_bind (wpAny_setState_of ho X.data hf (wpAny_bind (wpAny_bind (wpAny_askSetting (wpAny_pure ?_))))))
  dsimp only
  rw [hbt,hb]
  simp only [if_true]
  refine wpAny_bind (wpAny_askSetting (wpAny_pure (wpAny_pure ?_)))
  have e:bM w S ep es=pickOrder (w.params.setOrder S ep) es:=by unfold bM; rw [hb]; rfl
  have e2:slotAt w t i=slotAt w t (i+1):=by cases i <;> (unfold slotAt; simp [hb])
  rw [e] at q
  rw [e2]
  exact q
 | false =>
  rw [hbt,hb]
  simp only [Bool.false_eq_true,if_false]
  rw [if_neg]
  rotate_left
  ·show ¬ ((!t.plain&&decide (es.size > 1))=true)
   rw [X.plain]; simp
  refine wpAny_bind (wpAny_of_eq (a:=()) (show (if (!t.led&&!es.isEmpty)=true then _ else pure ())=pure () by rw [X.led,hb]; rfl) (wpAny_pure ?_))
  rw [yz X.good hi hb]
  have e:bM w S ep es=es:=by unfold bM; rw [hb]; rfl
  rw [e] at q
  by_cases hlt:i < es.size
  ·have he:es[i]?=some es[i]:=Array.getElem?_eq_getElem hlt
   have hl2:i < t.place.size:=by rw [X.good.len]; exact hlt
   have hp:t.place[i]?=some t.place[i]:=Array.getElem?_eq_getElem hl2
   have e3:slotAt w t (i+1)=t.place[i]+1:=by
    show (if byT w=true then 0 else t.place.getD i 0+1)=_
    rw [hb,if_neg Bool.false_ne_true,Array.getD_eq_getD_getElem?,hp]; rfl
   rw [he,e3] at q
   rw [he,hp]
   exact q
  ·have he:es[i]?=none:=Array.getElem?_eq_none (by omega)
   rw [he] at q
   rw [he]
   exact q
end
end TB

namespace TB
open PySem PySem.SetTable
section
variable {prog:Program} {w:World} {A:Around} {E:Value->Shared->Prop} {s:Shared} {I S:Addr} {o:Obj} {es:Array (Int × Value)} {ep:Nat} {t:SetTable}
noncomputable def AtI (w:World) (S:Addr) (es:Array (Int × Value)) (ep:Nat) (t:SetTable) (h:Heap) (I:Addr) (i:Nat):Prop:=∃ d sl,h.get? I=some (lq w S es ep t i d sl)
theorem AtI.type {i:Nat} (x:AtI w S es ep t s.heap I i):s.TypeIs (.ref I) "set_iterator":=let ⟨_,_,e⟩:=x; ⟨_,e,rfl⟩
theorem AJ {i:Nat} {Q:Option Value->Shared->Prop} (x:AtI w S es ep t s.heap I i) (ho:s.heap.get? S=some o) (X:Fix w o es ep t) (hIS:S≠I) {e:Int × Value} (he:(bM w S ep es)[i]?=some e)
  (q:∀ h',AtI w S es ep t h' I (i+1)->Heap.SameBut I s.heap h'->Q (some e.2) { s with heap:=h' }):wpAny (model prog w) A (pyNext (.ref I)) Q E s:=by
 have hT:=x.type
 obtain ⟨d,sl,hi⟩:=x
 have hlt:i < es.size:=by rw [<- fQ w S ep es]; exact (Array.getElem?_eq_some_iff.mp he).1
 unfold pyNext
 refine wpAny_bind (wpAny_attempt (wpAny_callSpecial?_slot (name:=Str.ofString "__next__") hT eW (wpAny_call_entry eW hT rG ?_ (r9 _))))
 unfold Builtin.«set_iterator.__next__»
 refine wpAny_bind (m:=slotArgs "__next__" 0 _) (wpAny_of_eq (a:=(.ref I,[])) rfl ?_)
 refine wpAny_bind (wpAny_fieldsOf hi rfl ?_)
 dsimp only
 refine wpAny_bind (wpAny_setEntries_of ho X.data (eO X.good X.fit) ?_)
 rw [show (((es.size:Int)) != (es.size:Int))=false from bne_self_eq_false _]
 simp only [Bool.false_eq_true,if_false]
 rw [show rawInt (slotAt w t i)=Value.int (slotAt w t i) 0 from rfl]
 dsimp only
 rw [Int.toNat_natCast,Int.toNat_natCast,Int.toNat_natCast]
 refine wpAny_bind (qX ho X (Nat.le_of_lt hlt) ?_)
 rw [he]
 dsimp only [Option.map]
 refine wpAny_bind (wpAny_setField hi rfl (by simp) ?_)
 have h1:=Heap.get?_update_self (h:=s.heap) (Obj.mapFields (·.setIfInBounds 0 (rawInt (slotAt w t (i+1))))) hi rfl
 refine wpAny_bind (wpAny_setField h1 rfl (by simp) (wpAny_pure ⟨e.2,rfl,wpAny_pure (q _ ⟨d,sl,?_⟩ ?_)⟩))
 ·rw [Heap.get?_update_self _ h1 rfl]
  rfl
 ·exact (Heap.SameBut.update s.heap I _).trans (Heap.SameBut.update _ I _)
theorem vK {i:Nat} {Q:Option Value->Shared->Prop} (hh:A.handled=none) (x:AtI w S es ep t s.heap I i) (ho:s.heap.get? S=some o) (X:Fix w o es ep t) (hi0:i=es.size)
  (q:∀ h',Heap.ExtBut I s.heap h'->Q none { s with heap:=h' }):wpAny (model prog w) A (pyNext (.ref I)) Q E s:=by
 have hT:=x.type
 obtain ⟨d,sl,hi⟩:=x
 have he:(bM w S ep es)[i]?=none:=Array.getElem?_eq_none (by rw [fQ]; omega)
 unfold pyNext
 refine wpAny_bind (wpAny_attempt (wpAny_callSpecial?_slot (name:=Str.ofString "__next__") hT eW (wpAny_call_entry eW hT rG ?_ (r9 _))))
 unfold Builtin.«set_iterator.__next__»
 refine wpAny_bind (m:=slotArgs "__next__" 0 _) (wpAny_of_eq (a:=(.ref I,[])) rfl ?_)
 refine wpAny_bind (wpAny_fieldsOf hi rfl ?_)
 dsimp only
 refine wpAny_bind (wpAny_setEntries_of ho X.data (eO X.good X.fit) ?_)
 rw [show (((es.size:Int)) != (es.size:Int))=false from bne_self_eq_false _]
 simp only [Bool.false_eq_true,if_false]
 rw [show rawInt (slotAt w t i)=Value.int (slotAt w t i) 0 from rfl]
 dsimp only
 rw [Int.toNat_natCast,Int.toNat_natCast,Int.toNat_natCast]
 refine wpAny_bind (qX ho X (Nat.le_of_eq hi0) ?_)
 rw [he]
 dsimp only [Option.map]
 refine wpAny_bind (wpAny_setField hi rfl (by simp) (wpAny_bind ?_)); simp only [newExc,newTuple]
 refine wpAny_bind (wpAny_newObj_type (wpAny_bind (m:=firstArgMember _ _) (wpAny_of_eq (a:=Value.none) (by first|rfl|(simp only [firstArgMember]; rfl)) (wpAny_newObj_type ?_ (by size_fits)))) (by size_fits)); simp only [raiseNew]
 refine wpAny_bind (wpAny_handled ?_); rw [show A.in1.handled=none from hh]
 refine wpAny_bind (wpAny_pure (wpAny_throw ?_))
 refine wpAny_bind (wpAny_isInstance (T:="StopIteration") (b:=true) ⟨_,Heap.get?_push_size _ rfl,rfl⟩ isSubtype_stop (wpAny_pure (q _ ?_)))
 exact ((Heap.SameBut.update s.heap I _).extBut.push _).push _
theorem DO {i:Nat} {Q:Value->Shared->Prop} (x:AtI w S es ep t s.heap I i) (q:Q (.ref I) s):wpAny (model prog w) A (pyIter (.ref I)) Q E s :=
 wpAny_pyIter_slot x.type rS (wpAny_call_entry rS x.type Bq (show wpAny _ _ (ret (.ref I)) _ _ s from wpAny_pure ⟨_,rfl,"set_iterator",_,x.type,eW.lookup,q⟩) (CB _))
theorem zA (hh:A.handled=none) (X:Fix w o es ep t) (hIS:S≠I) :
  Walks prog w A I [I,S] [I] es.size (fun i v=>∃ e,(bM w S ep es)[i]?=some e/\v=e.2) (fun i h=>AtI w S es ep t h I i/\h.get? S=some o) where
 sub:=fun b hb=>by rw [List.mem_singleton.mp hb]; exact List.mem_cons_self
 frame:=fun i h h' ⟨⟨d,sl,a⟩,b⟩ k=>⟨⟨d,sl,k I List.mem_cons_self _ a⟩,k S (List.mem_cons_of_mem _ List.mem_cons_self) _ b⟩
 item:=fun i s Q E hi ⟨a,b⟩ k=>by
  have hw:i < (bM w S ep es).size:=by rw [fQ]; exact hi
  exact AJ a b X hIS (Array.getElem?_eq_getElem hw) fun h' x sb=>k _ h' s.toks ⟨_,Array.getElem?_eq_getElem hw,rfl⟩ ⟨x,(sb.2 S hIS).trans b⟩ fun c oc hc ec=>(sb.2 c fun z=>hc (by rw [z]; exact List.mem_cons_self)).trans ec
 done:=fun s Q E ⟨a,b⟩ k=>vK hh a b X rfl fun h' eb=>k h' s.toks fun c oc hc ec=>eb c oc (fun z=>hc (by rw [z]; exact List.mem_cons_self)) ec
 self:=fun i s Q E ⟨a,b⟩ k=>DO a k
theorem C2 {Q:Value->Shared->Prop} (ho:s.heap.get? S=some o) (hex:o.ExactSet) (X:Fix w o es ep t)
  (q:∀ h',h'=s.heap.push (lq w S es ep t 0 none #[])->Q (.ref s.heap.objs.size) { s with heap:=h' }):wpAny (model prog w) A (pyIter (.ref S)) Q E s:=by
 have hT:s.TypeIs (.ref S) "set":=⟨o,ho,hex.1⟩
 have hf:=eO X.good X.fit
 refine wpAny_pyIter_slot hT F.slot_set_iter (wpAny_call_entry F.slot_set_iter hT AV ?_ (F.args_set_iter_1 _))
 unfold Builtin.«frozenset.__iter__»
 refine wpAny_bind (m:=Builtin.Frozenset.slot0 "__iter__" _) (wpAny_of_eq (a:=S) rfl ?_)
 unfold Builtin.Frozenset.sizeOf
 refine wpAny_bind (wpAny_bind (wpAny_setEntries_of ho X.data hf (wpAny_pure ?_)))
 unfold setDrawn setsByText
 refine wpAny_bind (wpAny_bind (wpAny_setState_of ho X.data hf (wpAny_bind (wpAny_bind (wpAny_askSetting (wpAny_pure (wpAny_pure ?_)))))))
 dsimp only
 have hdr:∀ b:Bool,(b&&(!t.plain&&decide (es.size > 1)))=false:=fun b=>by rw [X.plain]; cases b <;> rfl
 rw [if_neg]
 rotate_left
 ·show ¬ ((!_&&(!t.plain&&decide (es.size > 1)))=true)
  rw [hdr]; exact Bool.false_ne_true
 refine wpAny_bind (wpAny_pure ?_)
 refine wpAny_bind (wpAny_setEpoch_of ho X.data hf ?_)
 refine wpAny_bind (wpAny_newObj_type (wpAny_pure ⟨_,rfl,"set_iterator",_,⟨_,Heap.get?_push_size _ rfl,rfl⟩,eW.lookup,?_⟩))
 exact q _ rfl
end
end TB

namespace TB
open PySem PySem.SetTable
theorem wG:splitId "set.__len__" = some ("set","__len__"):=by decide +kernel
section
variable {prog:Program} {w:World} {A:Around} {E:Value->Shared->Prop} {s:Shared} {S:Addr} {o:Obj} {es:Array (Int × Value)} {ep:Nat} {t:SetTable}
theorem tK {Q:Bool->Shared->Prop} (hT:s.TypeIs (.ref S) "set") (q:Q false s):wpAny (model prog w) A (Builtin.List.listLengthHint (.ref S)) Q E s:=by
 unfold Builtin.List.listLengthHint
 refine wpAny_bind (wpAny_specialOf hT F.slot_set_len.lookup ?_)
 dsimp only
 rw [wG]
 dsimp only
 refine wpAny_bind (wpAny_isInstance hT sub_set_self ?_)
 simp only [Bool.not_true,Bool.false_eq_true,if_false]
 rw [if_pos]
 rotate_left
 ·show (_:Bool)=true
  decide +kernel
 refine wpAny_bind (wpAny_typeOf hT ?_)
 exact wpAny_pure q
theorem BP {Q:List Value->Shared->Prop} (hh:A.handled=none) (ho:s.heap.get? S=some o) (hex:o.ExactSet) (X:Fix w o es ep t)
  (q:∀ h' tk,s.heap.objs.size < h'.objs.size->(∀ b oc,b < s.heap.objs.size->s.heap.get? b=some oc->h'.get? b=some oc)->Q ((bM w S ep es).toList.map (·.2)) { s with heap:=h',toks:=tk }):wpAny (model prog w) A (collect (.ref S)) Q E s:=by
 have hSl:S < s.heap.objs.size:=Heap.lt_size ho
 unfold collect
 refine wpAny_bind (wpAny_runValue (codeAny_builtin F.entry_proto_collect ?_)); rw [Around.under_plainId F.plain_proto_collect _]
 refine wpAny_bind (show wpAny _ A.in1 (newList []) _ _ s from wpAny_newObj_type ?_)
 refine wpAny_pure ⟨plainId_quiet F.plain_list_iadd _,codeAny_builtin F.entry_list_iadd ?_⟩; rw [Around.under_plainId F.plain_list_iadd _]
 generalize hob:({ cls:=.type "list",data:=.seq ([]:List Value).toArray }:Obj)=ob
 have g1:(s.heap.push ob).get? S=some o:=Heap.get?_push_of_some _ ho
 have gL:(s.heap.push ob).get? s.heap.objs.size=some ob:=Heap.get?_push_size _ (by rw [<- hob]; rfl)
 have hT:Shared.TypeIs { s with heap:=s.heap.push ob } (.ref S) "set":=⟨o,g1,hex.1⟩
 show wpAny _ A.in1 (Builtin.List.listExtendWith (.ref s.heap.objs.size) (.ref S) (.ref s.heap.objs.size)) _ _ { s with heap:=s.heap.push ob }
 unfold Builtin.List.listExtendWith
 refine wpAny_bind (wpAny_typeOf hT ?_)
 have n1:Builtin.List.listSameRef (.ref s.heap.objs.size) (.ref S)=false:=by
  show (s.heap.objs.size==S)=false
  exact beq_false_of_ne (Nat.ne_of_gt hSl)
 rw [n1,show (Value.type "set"==Value.type "list")=false by decide,show (Value.type "set"==Value.type "tuple")=false by decide]
 simp only [Bool.or_false,Bool.false_eq_true,if_false]
 refine wpAny_bind (C2 (s:={ s with heap:=s.heap.push ob }) g1 hex X fun h2 e2=>?_)
 have k2:∀ b oc,(s.heap.push ob).get? b=some oc->h2.get? b=some oc:=fun b oc e=>by rw [e2]; exact Heap.get?_push_of_some _ e
 refine wpAny_bind (wpAny_holding (tK (s:={ s with heap:=h2 }) ⟨o,k2 _ _ g1,hex.1⟩ ?_))
 rw [if_pos]
 rotate_left
 ·show (_:Bool)=true
  decide +kernel
 refine wpAny_bind (wpAny_rule ?_)
 have sz:(s.heap.push ob).objs.size=s.heap.objs.size+1:=Heap.size_push _ _
 have gI:h2.get? (s.heap.push ob).objs.size=some (lq w S es ep t 0 none #[]):=by rw [e2]; exact Heap.get?_push_size _ rfl
 have gL2:h2.get? s.heap.objs.size=some { cls:=.type "list",data:=.seq ([]:List Value).toArray }:=by rw [hob]; exact k2 _ _ gL
 refine wpAny_bind (show wpAny _ A.in1 (updateSeq s.heap.objs.size (·.push .none)>>=fun _=>updateSeq s.heap.objs.size (·.pop)) _ _ _ from ?_)
 refine wpAny_bind (wpAny_updateSeq gL2 rfl ?_)
 have gL3:=Heap.get?_update_self (Obj.mapSeq (·.push Value.none)) gL2 rfl
 refine wpAny_updateSeq gL3 rfl ?_
 have gL4:=Heap.get?_update_self (Obj.mapSeq (·.pop)) gL3 rfl
 have k4:∀ b oc,b≠s.heap.objs.size->h2.get? b=some oc->((h2.update s.heap.objs.size (Obj.mapSeq (·.push Value.none))).update s.heap.objs.size (Obj.mapSeq (·.pop))).get? b=some oc :=
  fun b oc hb e=>(Heap.get?_update_other _ _ (Ne.symm hb)).trans ((Heap.get?_update_other _ _ (Ne.symm hb)).trans e)
 generalize ((h2.update s.heap.objs.size (Obj.mapSeq (·.push Value.none))).update s.heap.objs.size (Obj.mapSeq (·.pop)))=h4 at gL4 k4
 have hSI:S≠(s.heap.push ob).objs.size:=by rw [sz]; exact Nat.ne_of_lt (Nat.lt_succ_of_lt hSl)
 have hh2:A.in1.in1.handled=none:=by simpa using hh
 have hh1:A.in1.handled=none:=by simpa using hh
 have hLf:s.heap.objs.size ∉ [(s.heap.push ob).objs.size,S]:=fun z=>by
  rcases List.mem_cons.mp z with z|z
  ·rw [sz] at z; exact absurd z (Nat.ne_of_lt (Nat.lt_succ_self _))
  ·exact absurd (List.mem_singleton.mp z) (Nat.ne_of_gt hSl)
 have hn:es.size<=sizeLine:=by rw [sizeLine_eq]; have:=X.fit; rcases X.good.msk with z|z <;> omega
 refine wpAny_pure ⟨plainId_quiet F.plain_extend_loop _,codeAny_extend_loopS (zA (I:=(s.heap.push ob).objs.size) hh1 X hSI).toS hn _ hLf _ es.size 0 _ _ _ rfl (Nat.zero_le _)
  ⟨⟨_,_,k4 _ _ (by rw [sz]; exact Nat.ne_of_gt (Nat.lt_succ_self _)) gI⟩,k4 S _ (Nat.ne_of_lt hSl) (k2 _ _ g1)⟩ gL4 (ItemsOf.nil _) fun z acc c hm hz hacc=>?_⟩
 obtain ⟨h',g',d',tk',os'⟩:=z
 obtain rfl:g'=s.gens:=hm.gens
 obtain rfl:d'=s.drawn:=hm.drawn
 obtain rfl:os'=s.os:=hm.os
 refine wpAny_bind (wpAny_load hz (wpAny_pure ?_))
 have hacc':acc.toList=(bM w S ep es).toList.map (·.2):=by
  refine List.ext_getElem? fun j=>?_
  rw [Array.getElem?_toList,List.getElem?_map,Array.getElem?_toList]
  by_cases hj:j < es.size
  ·have hj2:j < acc.size:=by rw [hacc.1]; exact hj
   have ha:acc[j]?=some acc[j]:=Array.getElem?_eq_getElem hj2
   obtain ⟨e,q1,q2⟩:=hacc.2 j _ ha
   rw [ha,q1,q2]; rfl
  ·rw [Array.getElem?_eq_none (by rw [hacc.1]; omega),Array.getElem?_eq_none (by rw [fQ]; omega)]; rfl
 show Q acc.toList _
 rw [hacc']
 refine q h' tk' (Heap.lt_size hz) fun b oc hb e=>hm.heap b oc (fun z=>?_) (k4 b oc (Nat.ne_of_lt hb) (k2 _ _ (Heap.get?_push_of_some _ e)))
 rcases List.mem_cons.mp z with z|z
 ·exact absurd z (Nat.ne_of_lt hb)
 ·rw [List.mem_singleton,sz] at z; exact absurd z (Nat.ne_of_lt (Nat.lt_succ_of_lt hb))
end
end TB

namespace TB
open PySem PyProof.Rows
noncomputable def aA:List Int->List Int->Bool
 | [],[]=>false
 | [],_::_=>true
 | _::_,[]=>false
 | a::r,b::q=>if a=b then aA r q else decide (a < b)
section
variable {prog:Program} {w:World} {A:Around} {E:Value->Shared->Prop} {s:Shared}
theorem xK {k:Bool} {a b:Int} {t u:Tok} {Q:Bool->Shared->Prop} (q:Q (decide (a < b)) s):wpAny (model prog w) A (oneLt' k (.int a t) (.int b u)) Q E s:=by
 cases k with
 | true=>exact oneLt_int q
 | false =>
  rw [oneLt'_eq]
  simp only [Bool.false_eq_true,if_false]
  exact wpAny_bind (wpAny_lt_int (wpAny_truthy_bool q))
theorem DK (k:Bool) (x y:Value):keyLt' (tuples' k) x y=(do
  let xs <- Builtin.List.listItems x; let ys <- Builtin.List.listItems y
  for ((p,q),i) in (xs.toList.zip ys.toList).zipIdx do
   if !(<- eqBool p q) then return <- oneLt' (k&&i==0) p q
  return xs.size < ys.size):=rfl
theorem w4 {k:Bool} {ks js:List Int} {x y:Addr} {Q:Bool->Shared->Prop} (hx:TK prog w s.heap ks x) (hy:TK prog w s.heap js y) (q:Q (aA ks js) s):wpAny (model prog w) A (keyLt' (tuples' k) (.ref x) (.ref y)) Q E s:=by
 obtain ⟨ox,xs,nx,hox,_,hdx,hix⟩:=hx
 obtain ⟨oy,ys,ny,hoy,_,hdy,hiy⟩:=hy
 rw [DK]
 refine wpAny_bind (listItems_at hox hdx (wpAny_bind (listItems_at hoy hdy (wpAny_bind ?_))))
 refine wpAny_forIn_list _ (fun rest r z=>r.1=none/\z=s/\∃ ks' js' xs' ys' n,rest=(xs'.zip ys').zipIdx n/\ItemsAre (intKind prog w) ks' xs'/\ItemsAre (intKind prog w) js' ys'/\aA ks' js'=aA ks js/\decide (xs'.length < ys'.length)=decide (xs.size < ys.size)) _ ?_ ?_ _ _
  ⟨rfl,rfl,ks,js,xs.toList,ys.toList,0,rfl,hix,hiy,rfl,by rw [Array.length_toList,Array.length_toList]⟩
 ·rintro ⟨⟨u,v⟩,i⟩ rest r z ⟨hr,rfl,ks',js',xs',ys',n,hz,h1,h2,hl,hs⟩
  cases h1 with
  | nil=>simp at hz
  | @cons a u' ks2 xs2 ha h1 =>
   cases h2 with
   | nil=>simp at hz
   | @cons b v' js2 ys2 hb h2 =>
    simp only [List.zip_cons_cons,List.zipIdx_cons,List.cons.injEq,Prod.mk.injEq] at hz
    obtain ⟨⟨⟨rfl,rfl⟩,rfl⟩,rfl⟩:=hz
    refine wpAny_bind ((intKind prog w).eqBool ha hb ?_)
    obtain ⟨t,rfl⟩:=Value.isInt_shape ha
    obtain ⟨t',rfl⟩:=Value.isInt_shape hb
    by_cases e:a=b
    ·subst e
     rw [decide_eq_true rfl]
     simp only [Bool.not_true,Bool.false_eq_true,if_false]
     refine wpAny_pure ⟨rfl,rfl,ks2,js2,xs2,ys2,i+1,rfl,h1,h2,?_,?_⟩
     ·rw [<- hl,aA,if_pos rfl]
     ·rw [<- hs]; simp
    ·rw [decide_eq_false e]
     simp only [Bool.not_false,if_true]
     have e2:aA ks js=decide (a < b):=by rw [<- hl,aA,if_neg e]
     rw [e2] at q
     exact wpAny_bind (xK (wpAny_pure (wpAny_pure q)))
 ·rintro ⟨r1,r2⟩ z ⟨hr,rfl,ks',js',xs',ys',n,hz,h1,h2,hl,hs⟩
  have hr:r1=none:=hr
  subst hr
  have e:aA ks js=decide (xs.size < ys.size):=by
   rw [<- hl,<- hs]
   cases h1 with
   | nil=>cases h2 with
    | nil=>rfl
    | cons _ _=>rfl
   | cons _ _=>cases h2 with
    | nil=>rfl
    | cons _ _=>simp at hz
  rw [e] at q
  exact wpAny_pure q
theorem Ax {ks:List Int} {c:Addr} {Q:Option Value->Shared->Prop} (hk:TK prog w s.heap ks c) (hne:ks≠[]) (q:∀ i t,Q (some (.int i t)) s):wpAny (model prog w) A (firstOfTuple' (.ref c)) Q E s:=by
 obtain ⟨o,items,n,ho,hc,hd,hi⟩:=hk
 show wpAny _ _ (typeOf (.ref c)>>=_) _ _ s
 refine wpAny_bind (wpAny_typeOf_ref ho ?_)
 rw [hc]
 rw [if_neg (by simp)]
 refine wpAny_bind (listItems_at ho hd (wpAny_pure ?_))
 cases hv:items.toList with
 | nil=>rw [hv] at hi; cases hi; exact absurd rfl hne
 | cons v r =>
  rw [hv] at hi
  cases hi with
  | @cons k _ _ _ h1 _ =>
   obtain ⟨t,rfl⟩:=Value.isInt_shape h1
   have e:items[0]?=some (Value.int k t):=by rw [<- Array.getElem?_toList,hv]; rfl
   rw [e]
   exact q _ _
theorem nI:∀ {vs:List Value} {Q:List (Option Value)->Shared->Prop},(∀ v∈vs,∃ ks c,v=.ref c/\TK prog w s.heap ks c/\ks≠[])->(∀ l:List (Int × Tok),l.length=vs.length->Q (l.map fun p=>some (.int p.1 p.2)) s) ->
  wpAny (model prog w) A (vs.mapM firstOfTuple') Q E s
 | [],Q,_,q=>by
  rw [List.mapM_nil]
  exact wpAny_pure (q [] rfl)
 | v::vs,Q,hv,q=>by
  obtain ⟨ks,c,rfl,hk,hne⟩:=hv v List.mem_cons_self
  rw [List.mapM_cons]
  refine wpAny_bind (Ax hk hne fun i t=>wpAny_bind (nI (vs:=vs) (fun u hu=>hv u (List.mem_cons_of_mem _ hu)) fun l hl=>wpAny_pure ?_))
  exact q ((i,t)::l) (by rw [List.length_cons,List.length_cons,hl])
theorem p7:∀ l:List (Int × Tok),(l.map fun p=>Value.int p.1 p.2).mapM typeOf=(pure (l.map fun _=>Value.type "int"):Sem (List Value))
 | []=>by simp
 | p::l=>by
  rw [List.map_cons,List.mapM_cons,p7 l]
  show (pure (Value.type "int")>>=fun b=>pure _>>=fun bs=>pure (b::bs))=_
  simp
theorem CV {vs:List Value} {Q:SortKind->Shared->Prop} (hne:vs≠[]) (hv:∀ v∈vs,∃ ks c,v=.ref c/\TK prog w s.heap ks c/\ks≠[]) (q:Q (tuples' true) s):wpAny (model prog w) A (keyKind' vs.toArray) Q E s:=by
 rw [keyKind'_eq,List.mapM_toArray]
 refine wpAny_bind ?_
 rw [map_eq_pure_bind]
 refine wpAny_bind (nI hv fun l hl=>wpAny_pure ?_)
 rw [if_pos (by simp)]
 refine wpAny_bind (wpAny_rule ?_)
 have e:((l.map fun p=>some (Value.int p.1 p.2)).toArray.filterMap id)=(l.map fun p=>Value.int p.1 p.2).toArray:=by simp
 rw [e,oneTypeOnly'_eq,List.mapM_toArray,p7]
 simp only [map_pure,pure_bind]
 obtain ⟨p,r,rfl⟩:∃ p r,l=p::r:=List.exists_cons_of_ne_nil fun z=>hne (List.length_eq_zero_iff.mp (by rw [<- hl,z]; rfl))
 have h0:(List.map (fun _=>Value.type "int") (p::r)).toArray[0]?=some (Value.type "int"):=rfl
 have ha:((List.map (fun _=>Value.type "int") (p::r)).toArray.all fun x=>x==Value.type "int")=true:=by
  rw [List.all_toArray,List.all_map,List.all_eq_true]; intro _ _; rfl
 rw [h0]
 simp only [ha,if_true,pure_bind]
 exact wpAny_pure q
end
end TB

namespace TB
open PySem PyProof.Rows
theorem lex_irrefl:∀ a,aA a a=false
 | []=>rfl
 | a::r=>by rw [aA,if_pos rfl,lex_irrefl r]
theorem lex_trans:∀ a b c,aA a b=true->aA b c=true->aA a c=true
 | [],[],c,h,_=>by cases h
 | [],_::_,[],_,h=>by cases h
 | [],_::_,_::_,_,_=>rfl
 | _::_,[],_,h,_=>by cases h
 | _::_,_::_,[],_,h=>by cases h
 | a::r,b::q,c::p,h1,h2=>by
  rw [aA] at h1 h2 ⊢
  by_cases e1:a=b
  ·subst e1
   rw [if_pos rfl] at h1
   by_cases e2:a=c
   ·subst e2; rw [if_pos rfl] at h2 ⊢; exact lex_trans r q p h1 h2
   ·rw [if_neg e2] at h2 ⊢; exact h2
  ·rw [if_neg e1] at h1
   have h1:=of_decide_eq_true h1
   by_cases e2:b=c
   ·subst e2; rw [if_neg e1]; exact decide_eq_true h1
   ·rw [if_neg e2] at h2
    have h2:=of_decide_eq_true h2
    rw [if_neg (by omega)]; exact decide_eq_true (by omega)
theorem je:∀ a b,aA a b=false->aA b a=false->a=b
 | [],[],_,_=>rfl
 | [],_::_,h,_=>by cases h
 | _::_,[],_,h=>by cases h
 | a::r,b::q,h1,h2=>by
  rw [aA] at h1 h2
  by_cases e:a=b
  ·subst e; rw [if_pos rfl] at h1 h2; rw [je r q h1 h2]
  ·rw [if_neg e] at h1; rw [if_neg (Ne.symm e)] at h2
   have h1:=of_decide_eq_false h1
   have h2:=of_decide_eq_false h2
   omega
theorem xS (a b c:List Int) (h:aA a c=true):aA a b=true\/aA b c=true:=by
 cases h1:aA a b with
 | true=>exact .inl rfl
 | false =>
  cases h2:aA b a with
  | true=>exact .inr (lex_trans b a c h2 h)
  | false=>rw [<- je a b h1 h2]; exact .inr h
noncomputable def kT (key:Value->List Int):PyProof.Rows.KeyKind:={ α:=List Int,blt:=aA,irrefl:=lex_irrefl,trans:=lex_trans,negTrans:=xS,total:=je,keyOf:=fun v=>some (key v),dflt:=[] }
noncomputable def at' (key:Value->List Int) (xs:Array Keyed) (i:Nat):List Int:=KK (kT key) xs i
theorem gK {key:Value->List Int} {xs:Array Keyed} {i:Nat} {p:Keyed} (h:xs[i]?=some p):at' key xs i=key p.1:=by unfold at' KK; rw [h]; rfl
structure Bas (key:Value->List Int) (a0:Array Keyed) (z:SortSt):Prop where
 perm:(arrOf z).Perm a0
 kind:kindOf z=tuples' true
 fail:failedOf z=none
 pend:pendingOf z=#[]
noncomputable def Diff (key:Value->List Int) (xs:Array Keyed):Prop:=(xs.toList.map fun p=>key p.1).Nodup
theorem Diff.perm {key:Value->List Int} {xs ys:Array Keyed} (p:xs.Perm ys) (d:Diff key ys):Diff key xs:=(((Array.perm_iff_toList_perm.mp p).map _).nodup_iff).mpr d
theorem Diff.ne {key:Value->List Int} {xs:Array Keyed} (d:Diff key xs) {i j:Nat} (hi:i < xs.size) (hj:j < xs.size) (hij:i≠j):at' key xs i≠at' key xs j:=by
 intro e
 have ei:xs[i]?=some xs[i]:=Array.getElem?_eq_getElem hi
 have ej:xs[j]?=some xs[j]:=Array.getElem?_eq_getElem hj
 rw [gK ei,gK ej] at e
 have hl:(xs.toList.map fun p=>key p.1).length=xs.size:=by rw [List.length_map,Array.length_toList]
 have gi:(xs.toList.map fun p=>key p.1)[i]'(by omega)=key xs[i].1:=by rw [List.getElem_map,Array.getElem_toList]
 have gj:(xs.toList.map fun p=>key p.1)[j]'(by omega)=key xs[j].1:=by rw [List.getElem_map,Array.getElem_toList]
 have:=List.pairwise_iff_getElem.mp d
 rcases Nat.lt_or_gt_of_ne hij with z|z
 ·exact this i j (by omega) (by omega) z (by rw [gi,gj]; exact e)
 ·exact this j i (by omega) (by omega) z (by rw [gi,gj]; exact e.symm)
theorem Diff.or {key:Value->List Int} {xs:Array Keyed} (d:Diff key xs) {i j:Nat} (hi:i < xs.size) (hj:j < xs.size) (hij:i≠j) (h:aA (at' key xs i) (at' key xs j)=false):aA (at' key xs j) (at' key xs i)=true:=by
 cases q:aA (at' key xs j) (at' key xs i) with
 | true=>rfl
 | false=>exact absurd (je _ _ h q) (d.ne hi hj hij)
noncomputable def Up (key:Value->List Int) (xs:Array Keyed) (n:Nat):Prop:=∀ i j,i < j->j < n->aA (at' key xs i) (at' key xs j)=true
noncomputable def Down (key:Value->List Int) (xs:Array Keyed) (n:Nat):Prop:=∀ i j,i < j->j < n->aA (at' key xs j) (at' key xs i)=true
theorem Up.more {key:Value->List Int} {xs:Array Keyed} {n:Nat} (u:Up key xs n) (hn:1<=n) (h:aA (at' key xs (n - 1)) (at' key xs n)=true):Up key xs (n+1):=fun i j hij hj=>by
 by_cases z:j < n
 ·exact u i j hij z
 ·obtain rfl:j=n:=by omega
  by_cases y:i=j - 1
  ·subst y; exact h
  ·exact lex_trans _ _ _ (u i (j - 1) (by omega) (by omega)) h
theorem Down.more {key:Value->List Int} {xs:Array Keyed} {n:Nat} (u:Down key xs n) (hn:1<=n) (h:aA (at' key xs n) (at' key xs (n - 1))=true):Down key xs (n+1):=fun i j hij hj=>by
 by_cases z:j < n
 ·exact u i j hij z
 ·obtain rfl:j=n:=by omega
  by_cases y:i=j - 1
  ·subst y; exact h
  ·exact lex_trans _ _ _ h (u i (j - 1) (by omega) (by omega))
section
variable {prog:Program} {w:World} {A:Around} {E:Value->Shared->Prop} {s:Shared} {a0:Array Keyed} {key:Value->List Int}
noncomputable def Cmp (prog:Program) (w:World) (A:Around) (s:Shared) (key:Value->List Int) (a0:Array Keyed):Prop:=∀ (E:Value->Shared->Prop) (x y:Keyed) (Q:Bool->Shared->Prop),x∈a0.toList->y∈a0.toList->Q (aA (key x.1) (key y.1)) s->wpAny (model prog w) A (keyLt' (tuples' true) x.1 y.1) Q E s
theorem fN {z:SortSt} {i j:Nat} {Q:Option Bool->SortSt->Prop} (C:Cmp prog w A s key a0) (B:Bas key a0 z) (hi:i < a0.size) (hj:j < a0.size) (q:Q (some (aA (at' key (arrOf z) i) (at' key (arrOf z) j))) z) :
  wpS (model prog w) A E s (ltAt' i j) Q z:=by
 have sz:=B.perm.size_eq
 have hi':i < (arrOf z).size:=by omega
 have hj':j < (arrOf z).size:=by omega
 have ei:(arrOf z)[i]?=some (arrOf z)[i]:=Array.getElem?_eq_getElem hi'
 have ej:(arrOf z)[j]?=some (arrOf z)[j]:=Array.getElem?_eq_getElem hj'
 have mem:∀ (k:Nat) (hk:k < (arrOf z).size),(arrOf z)[k]∈a0.toList:=fun k hk=>(Array.perm_iff_toList_perm.mp B.perm).mem_iff.mp (by simp)
 rw [gK ei,gK ej] at q
 rw [ltAt'_eq]
 refine wpS_bind (wpS_get (wpS_bind ?_)); rw [elem'_eq,ei]
 refine wpS_pure (wpS_bind ?_); rw [elem'_eq,ej]
 refine wpS_pure ?_; rw [lt'_eq]
 refine wpS_bind (wpS_get (wpS_bind ?_)); rw [B.kind]
 exact wpS_lift (wpAny_attempt (C _ _ _ _ (mem i hi') (mem j hj') ⟨rfl,wpS_pure q⟩))
theorem nA {z:SortSt} {a n:Nat} {Q:AscSt->SortSt->Prop} (C:Cmp prog w A s key a0) (B:Bas key a0 z) (D:Diff key a0) (hn:n<=a0.size) (ha:1<=a) (han:a<=n) (u:Up key (arrOf z) a)
  (q:∀ m,a<=m->m<=n->Up key (arrOf z) m->(m=n\/aA (at' key (arrOf z) m) (at' key (arrOf z) (m - 1))=true)->Q (none,m) z):wpS (model prog w) A E s (ascLoop a n) Q z:=by
 have sz:=B.perm.size_eq
 have D':=D.perm B.perm
 unfold ascLoop
 refine wpS_forRange (fun x c y=>y=z/\c=(none,x)/\Up key (arrOf z) x) (fun x c y h1 h2=>?_) (fun c y=>?_) ⟨rfl,rfl,u⟩
 ·rintro ⟨rfl,rfl,ux⟩
  refine wpS_bind (fN C B (by omega) (by omega) ?_)
  cases hb:aA (at' key (arrOf y) x) (at' key (arrOf y) (x - 1)) with
  | true=>exact wpS_pure (q x h1 (by omega) ux (.inr hb))
  | false=>exact wpS_pure ⟨rfl,rfl,ux.more (by omega) (D'.or (by omega) (by omega) (by omega) hb)⟩
 ·rintro ⟨rfl,rfl,ux⟩
  rw [show max a n=n by omega] at ux ⊢
  exact q n han (Nat.le_refl n) ux (.inl rfl)
theorem yD {z:SortSt} {a n:Nat} {Q:DescSt->SortSt->Prop} (C:Cmp prog w A s key a0) (B:Bas key a0 z) (D:Diff key a0) (hn:n<=a0.size) (ha:1<=a) (han:a<=n) (u:Down key (arrOf z) a)
  (q:∀ m,a<=m->m<=n->Down key (arrOf z) m->Q (none,m,0) z):wpS (model prog w) A E s (descLoop a n) Q z:=by
 have sz:=B.perm.size_eq
 have D':=D.perm B.perm
 unfold descLoop
 refine wpS_forRange (fun x c y=>y=z/\c=(none,x,0)/\Down key (arrOf z) x) (fun x c y h1 h2=>?_) (fun c y=>?_) ⟨rfl,rfl,u⟩
 ·rintro ⟨rfl,rfl,ux⟩
  dsimp only
  refine wpS_bind (fN C B (by omega) (by omega) ?_)
  cases hb:aA (at' key (arrOf y) x) (at' key (arrOf y) (x - 1)) with
  | true=>exact wpS_pure ⟨rfl,rfl,ux.more (by omega) hb⟩
  | false =>
   refine wpS_bind (fN C B (by omega) (by omega) ?_)
   rw [D'.or (by omega) (by omega) (by omega) hb]
   exact wpS_pure (q x h1 (by omega) ux)
 ·rintro ⟨rfl,rfl,ux⟩
  rw [show max a n=n by omega] at ux ⊢
  exact q n han (Nat.le_refl n) ux
theorem Bas.put {z:SortSt} (B:Bas key a0 z) {xs:Array Keyed} (p:xs.Perm (arrOf z)):Bas key a0 (setArr z xs):=⟨p.trans B.perm,B.kind,B.fail,B.pend⟩
theorem vH {z:SortSt} {m n:Nat} {Q:Option Nat->SortSt->Prop} (C:Cmp prog w A s key a0) (B:Bas key a0 z) (D:Diff key a0) (hn:n<=a0.size) (hm:1<=m) (hmn:m<=n) (u:Down key (arrOf z) m)
  (q:∀ k y,Bas key a0 y->1<=k->k<=n->Up key (arrOf y) k->Q (some k) y):wpS (model prog w) A E s (tail3 m n) Q z:=by
 have sz:=B.perm.size_eq
 unfold tail3
 refine wpS_bind (wpS_reverse ?_)
 have B':Bas key a0 (setArr z (mirror (arrOf z) 0 m ((m - 0) / 2))):=B.put (mirror_perm _ _ _ _)
 have hz:m<=(arrOf z).size:=by omega
 refine wpS_bind (nA C B' D hn hm hmn (fun i j hij hj=>?_) fun k h1 h2 h3 _=>wpS_pure (q k _ B' (by omega) h2 h3))
 show aA (KK (kT key) (mirror (arrOf z) 0 m ((m - 0) / 2)) i) (KK (kT key) (mirror (arrOf z) 0 m ((m - 0) / 2)) j)=true
 rw [KK_mirror hz,KK_mirror hz,if_pos ⟨Nat.zero_le _,by omega⟩,if_pos ⟨Nat.zero_le _,hj⟩]
 exact u _ _ (by omega) (by omega)
theorem ye {z:SortSt} {n:Nat} {Q:Option Nat->SortSt->Prop} (C:Cmp prog w A s key a0) (B:Bas key a0 z) (D:Diff key a0) (hn:n<=a0.size) (h1:1<=n)
  (q:∀ k y,Bas key a0 y->1<=k->k<=n->Up key (arrOf y) k->Q (some k) y):wpS (model prog w) A E s (countRun' 0 n) Q z:=by
 rw [countRun0_eq]
 refine wpS_bind (nA C B D hn (Nat.le_refl 1) h1 (fun i j a b=>by omega) fun m hm1 hm2 um hor=>?_)
 dsimp only
 by_cases e:m=n
 ·rw [if_pos (by simpa using e)]; exact wpS_pure (q m z B hm1 hm2 um)
 rw [if_neg (by simpa using e)]
 have hlt:=hor.resolve_left e
 by_cases g:m > 1
 ·rw [if_pos g]
  refine wpS_bind (fN C B (by omega) (by omega) ?_)
  rw [um 0 (m - 1) (by omega) (by omega)]
  exact wpS_pure (q m z B hm1 hm2 um)
 ·rw [if_neg g]
  obtain rfl:m=1:=by omega
  unfold descPart
  refine wpS_bind (wpS_lift (wpAny_rule ⟨rfl,wpS_bind ?_⟩))
  refine yD C B D hn (by decide) (by omega) (fun i j a b=>?_) fun k k1 k2 k3=>?_
  ·obtain rfl:i=0:=by omega
   obtain rfl:j=1:=by omega
   exact hlt
  ·show wpS _ _ _ _ (tail3 k n) Q z
   exact vH C B D hn (by omega) k2 k3 q
end
end TB

namespace TB
open PySem PyProof.Rows
section
variable {prog:Program} {w:World} {A:Around} {E:Value->Shared->Prop} {s:Shared} {a0:Array Keyed} {key:Value->List Int}
theorem uF {z:SortSt} {k l:Nat} (hk:k < (arrOf z).size) (hl:l<=k) (u:Up key (arrOf z) k) (lo:∀ i,i < l->aA (at' key (arrOf z) i) (at' key (arrOf z) k)=true) (hi:∀ i,l<=i->i < k->aA (at' key (arrOf z) k) (at' key (arrOf z) i)=true) :
  Up key (bubble (arrOf z) k (k - l)) (k+1):=fun i j hij hj=>by
 show aA (KK (kT key) (bubble (arrOf z) k (k - l)) i) (KK (kT key) (bubble (arrOf z) k (k - l)) j)=true
 rw [KK_bubble hk (by omega),KK_bubble hk (by omega),show k - (k - l)=l by omega]
 have u:∀ i j,i < j->j < k->aA (KK (kT key) (arrOf z) i) (KK (kT key) (arrOf z) j)=true:=u
 have lo:∀ i,i < l->aA (KK (kT key) (arrOf z) i) (KK (kT key) (arrOf z) k)=true:=lo
 have hi:∀ i,l<=i->i < k->aA (KK (kT key) (arrOf z) k) (KK (kT key) (arrOf z) i)=true:=hi
 repeat' split
 all_goals first
  | (exfalso; omega)
  | exact lo _ (by omega)
  | exact hi _ (by omega) (by omega)
  | exact u _ _ (by omega) (by omega)
theorem x9 {z:SortSt} {n ok:Nat} {Q:Bool->SortSt->Prop} (C:Cmp prog w A s key a0) (B:Bas key a0 z) (D:Diff key a0) (hn:n<=a0.size) (hok:ok<=n) (u:Up key (arrOf z) ok)
  (q:∀ y,Bas key a0 y->Up key (arrOf y) n->Q true y):wpS (model prog w) A E s (binarySort' 0 n ok) Q z:=by
 rw [binarySort'_eq]; simp only [Nat.zero_add]
 refine wpS_bind (wpS_mono (wpS_forRange (fun x c y=>c=(none,())/\Bas key a0 y/\Up key (arrOf y) (min x n)) (Q:=fun c y=>c=(none,())/\Bas key a0 y/\Up key (arrOf y) n) (fun k c y h1 h2=>?_) (fun c y=>?_) ⟨rfl,B,fun i j a b=>?_⟩) fun c y=>?_)
 ·rintro ⟨rfl,By,uy⟩
  rw [show min k n=k by omega] at uy
  have sz:=By.perm.size_eq
  have Dy:=D.perm By.perm
  refine wpS_bind (wpS_mono (wpS_forRange (fun x c y'=>y'=y/\∃ l r,c=(none,l,r)/\l<=r/\r<=k/\r - l<=k - x/\(∀ i,i < l->aA (at' key (arrOf y) i) (at' key (arrOf y) k)=true)/\∀ i,r<=i->i < k->aA (at' key (arrOf y) k) (at' key (arrOf y) i)=true)
   (Q:=fun c y'=>y'=y/\∃ l r,c=(none,l,r)/\l<=k/\(∀ i,i < l->aA (at' key (arrOf y) i) (at' key (arrOf y) k)=true)/\∀ i,l<=i->i < k->aA (at' key (arrOf y) k) (at' key (arrOf y) i)=true) (fun x c y' g1 g2=>?_) (fun c y'=>?_) ⟨rfl,0,k,rfl,by omega,by omega,by omega,fun i a=>by omega,fun i a b=>by omega⟩) fun c y'=>?_)
  ·rintro ⟨rfl,l,r,rfl,e1,e2,e3,e4,e5⟩
   dsimp only
   by_cases g:l ≥ r
   ·rw [if_pos g]
    obtain rfl:l=r:=by omega
    exact wpS_pure ⟨rfl,l,l,rfl,e2,e4,e5⟩
   rw [if_neg g]
   refine wpS_bind (fN C By (by omega) (by omega) ?_)
   cases hb:aA (at' key (arrOf y') k) (at' key (arrOf y') ((l+r) / 2)) with
   | true =>
    refine wpS_pure ⟨rfl,l,(l+r) / 2,rfl,by omega,by omega,by omega,e4,fun i a b=>?_⟩
    by_cases e:i=(l+r) / 2
    ·subst e; exact hb
    ·exact lex_trans _ _ _ hb (uy _ _ (by omega) b)
   | false =>
    have hb':=Dy.or (by omega) (by omega) (by omega) hb
    refine wpS_pure ⟨rfl,(l+r) / 2+1,r,rfl,by omega,by omega,by omega,fun i a=>?_,e5⟩
    by_cases e:i=(l+r) / 2
    ·subst e; exact hb'
    ·exact lex_trans _ _ _ (uy i _ (by omega) (by omega)) hb'
  ·rintro ⟨rfl,l,r,rfl,e1,e2,e3,e4,e5⟩
   obtain rfl:l=r:=by omega
   exact ⟨rfl,l,l,rfl,e2,e4,e5⟩
  ·rintro ⟨rfl,l,r,rfl,e2,e4,e5⟩
   refine wpS_bind (show wpS _ _ _ _ (moveDown' k l) _ y' from ?_)
   rw [moveDown'_eq]
   refine wpS_modify (wpS_pure ⟨rfl,By.put (bubble_perm _ _ _),?_⟩)
   rw [show min (k+1) n=k+1 by omega]
   exact uF (by omega) e2 uy e4 e5
 ·rintro ⟨rfl,By,uy⟩
  rw [show min (max (max ok 1) n) n=n by omega] at uy
  exact ⟨rfl,By,uy⟩
 ·exact u i j a (by omega)
 ·rintro ⟨rfl,By,uy⟩
  exact wpS_pure (q y By uy)
noncomputable def Fin' (key:Value->List Int) (a0:Array Keyed) (z:SortSt):Prop:=(arrOf z).Perm a0/\failedOf z=none/\pendingOf z=#[(0,a0.size,0)]/\Up key (arrOf z) a0.size
theorem Bas.fin {z:SortSt} (B:Bas key a0 z) (u:Up key (arrOf z) a0.size):Fin' key a0 (setPending z ((pendingOf z).push (0,a0.size,0))):=⟨B.perm,B.fail,by show (pendingOf z).push _=_; rw [B.pend]; rfl,u⟩
theorem yj {z:SortSt} {Q:Unit->SortSt->Prop} (C:Cmp prog w A s key a0) (B:Bas key a0 z) (D:Diff key a0) (h2:2<=a0.size) (h6:a0.size < 64) (q:∀ y,(arrOf y).Perm a0->failedOf y=none->Up key (arrOf y) a0.size->Q () y) :
  wpS (model prog w) A E s sortRuns' Q z:=by
 rw [sortRuns'_eq]
 refine wpS_bind (wpS_get ?_)
 dsimp only
 have hm:minRun' a0.size a0.size 0=a0.size:=by
  obtain ⟨f,e⟩:∃ f,a0.size=f+1:=⟨a0.size - 1,by omega⟩
  conv=>lhs; arg 1; rw [e]
  rw [minRun'_succ,if_pos h6]; rfl
 simp only [B.perm.size_eq,hm]
 refine wpS_bind (wpS_mono (wpS_forRange (fun x c y=>(x=0/\c=(none,0)/\Bas key a0 y)\/(1<=x/\c=(none,a0.size)/\Fin' key a0 y)) (Q:=fun c y=>c=(none,a0.size)/\Fin' key a0 y) (fun x c y _ h1=>?_) (fun c y=>?_) (.inl ⟨rfl,rfl,B⟩)) fun c y=>?_)
 ·have last:∀ y:SortSt,Bas key a0 y->Up key (arrOf y) a0.size->(pendingOf y).back?=none:=fun y By _=>by rw [By.pend]; rfl
  rintro (⟨rfl,rfl,By⟩|⟨_,rfl,Fy⟩)
  ·dsimp only
   rw [if_neg (by omega)]; simp only [Nat.sub_zero,Nat.min_self,Nat.zero_add]
   refine wpS_bind (ye C By D (Nat.le_refl _) (by omega) fun m y2 B2 m1 m2 u2=>?_)
   dsimp only
   by_cases e:m < a0.size
   ·rw [if_pos e]
    refine wpS_bind (wpS_lift (wpAny_rule ⟨rfl,wpS_bind (x9 C B2 D (Nat.le_refl _) m2 u2 fun y3 B3 u3=>?_)⟩))
    simp only [Bool.not_true,Bool.false_eq_true,if_false]
    refine wpS_bind (wpS_get ?_); rw [last y3 B3 u3]
    exact wpS_bind (wpS_modify (wpS_pure (.inr ⟨by omega,rfl,B3.fin u3⟩)))
   ·rw [if_neg e]
    obtain rfl:m=a0.size:=by omega
    refine wpS_bind (wpS_get ?_); rw [last y2 B2 u2]
    exact wpS_bind (wpS_modify (wpS_pure (.inr ⟨by omega,rfl,B2.fin u2⟩)))
  ·dsimp only
   rw [if_pos (Nat.le_refl _)]; exact wpS_pure ⟨rfl,Fy⟩
 ·rintro (⟨h,_,_⟩|⟨_,h,Fy⟩)
  ·omega
  ·exact ⟨h,Fy⟩
 ·rintro ⟨rfl,Fy⟩
  dsimp only
  refine wpS_bind (wpS_mono (wpS_forRange (fun _ c y'=>y'=y/\c=(none,())) (Q:=fun c y'=>y'=y/\c=(none,())) (fun x c y' _ _=>?_) (fun _ _ h=>h) ⟨rfl,rfl⟩) fun c y'=>?_)
  ·rintro ⟨rfl,rfl⟩
   refine wpS_bind (wpS_get ?_); rw [if_pos (by rw [Fy.2.2.1]; exact Nat.le_refl 1)]
   exact wpS_pure ⟨rfl,rfl⟩
  ·rintro ⟨rfl,rfl⟩
   exact wpS_pure (q _ Fy.1 Fy.2.1 Fy.2.2.2)
end
end TB

namespace TB
open PySem PyProof.Rows
section
variable {prog:Program} {w:World} {A:Around} {E:Value->Shared->Prop} {s:Shared} {key:Value->List Int}
theorem lN {vs:List Value} {p:Keyed} (h:p∈(pairsOf vs).toList):p.2=p.1/\p.1∈vs:=by
 rw [pairsOf_toList] at h
 obtain ⟨i,hi⟩:=List.getElem?_of_mem h
 rw [List.getElem?_zip_eq_some] at hi
 exact ⟨Option.some.inj (hi.2.symm.trans hi.1),List.mem_of_getElem? hi.1⟩
theorem BN (vs:List Value):(pairsOf vs).toList.map (·.2)=vs:=by
 rw [pairsOf_toList]
 exact List.map_snd_zip (Nat.le_refl _)
theorem tU (vs:List Value) (f:Value->List Int):(pairsOf vs).toList.map (fun p=>f p.1)=vs.map f:=by
 rw [pairsOf_toList,show (fun p:Value × Value=>f p.1)=f ∘ Prod.fst from rfl,<- List.map_map,List.map_fst_zip (Nat.le_refl _)]
theorem ow {a:Addr} {vs:List Value} {n:Nat} {P:Fin->Shared->Prop} (ho:s.heap.get? a=some (seqObj "list" vs.toArray n)) (hv:∀ v∈vs,∃ c,v=.ref c/\TK prog w s.heap (key v) c/\key v≠[]) (hd:(vs.map key).Nodup) (h6:vs.length < 64)
  (q:∀ out:List Value,out.Perm vs->(out.map key).Pairwise (fun x y=>aA x y=true)->P (.done (.ret .none)) { s with heap:=sortedHeap s.heap a vs out.toArray }):wpAny (model prog w) A (Builtin.«list.sort» ⟨[.ref a],[]⟩) P E s:=by
 have hal:a < s.heap.objs.size:=Heap.lt_size ho
 rw [list_sort_plain]
 refine wpAny_bind (listItems_at ho rfl (wpAny_bind (listUpdate_at ho rfl ?_)))
 obtain ⟨e1,ho1⟩:∃ e1,(s.heap.update a (Obj.mapSeq fun _=>#[])).get? a=some (seqObj "list" #[] e1):=⟨_,get?_update_seq ho fun _=>#[]⟩
 refine wpAny_bind (seqEpoch_at ho1 rfl (wpAny_bind (wpAny_newTuple (wpAny_bind (wpAny_newList (wpAny_holding ?_))))))
 have ot:∀ b o,b≠a->s.heap.get? b=some o->(((s.heap.update a (Obj.mapSeq fun _=>#[])).push (seqObj "tuple" vs.toArray 0)).push (seqObj "list" #[] 0)).get? b=some o:=fun b o hb e =>
  Heap.get?_push_of_some _ (Heap.get?_push_of_some _ ((Heap.get?_update_other _ _ (Ne.symm hb)).trans e))
 have ho6:(((s.heap.update a (Obj.mapSeq fun _=>#[])).push (seqObj "tuple" vs.toArray 0)).push (seqObj "list" #[] 0)).get? a=some (seqObj "list" #[] e1):=Heap.get?_push_of_some _ (Heap.get?_push_of_some _ ho1)
 have fin:∀ y:SortSt,(arrOf y).Perm (pairsOf vs)->Up key (arrOf y) (pairsOf vs).size->P (.done (.ret .none)) { s with heap:=sortedHeap s.heap a vs ((arrOf y).map (·.2)) }:=fun y py uy=>by
  have pl:=Array.perm_iff_toList_perm.mp py
  have h1:=q ((arrOf y).map (·.2)).toList (by rw [Array.toList_map]; exact (pl.map _).trans (by rw [BN])) ?_
  ·rw [Array.toArray_toList] at h1; exact h1
  ·rw [Array.toList_map,List.map_map]
   refine List.pairwise_map.mpr (List.pairwise_iff_getElem.mpr fun i j hi hj hij=>?_)
   have hi2:i < (arrOf y).size:=by rw [Array.length_toList] at hi; exact hi
   have hj2:j < (arrOf y).size:=by rw [Array.length_toList] at hj; exact hj
   have m:∀ (k:Nat) (hk:k < (arrOf y).size),key (arrOf y)[k].2=at' key (arrOf y) k:=fun k hk=>by
    rw [gK (Array.getElem?_eq_getElem hk),(lN (pl.mem_iff.mp (by simp))).1]
   have:=uy i j hij (by rw [<- py.size_eq]; exact hj2)
   show aA (key (arrOf y).toList[i].2) (key (arrOf y).toList[j].2)=true
   rw [Array.getElem_toList,Array.getElem_toList,m i hi2,m j hj2]
   exact this
 dsimp only
 have lin:∀ y:SortSt,(arrOf y).Perm (pairsOf vs)->((arrOf y).map (·.2)).size<=sizeLine+1:=fun y py=>by rw [Array.size_map,py.size_eq,pairsOf_size,sizeLine_eq]; omega
 by_cases h2:vs.toArray.size < 2
 ·rw [if_pos h2,if_pos h2]
  refine wpAny_bind (wpAny_pure ?_); rw [StateT.run_pure]
  refine wpAny_bind (wpAny_pure ?_)
  dsimp only
  refine wpAny_bind (seqEpoch_at ho6 rfl (wpAny_bind (listUpdate_at ho6 rfl ?_ (hsz2:=lin (SortSt.mk' general' (pairsOf vs) #[] 7 none) (Array.Perm.refl _)))))
  simp only [bne_self_eq_false,Bool.false_eq_true,if_false]
  refine wpAny_pure (fin (SortSt.mk' general' (pairsOf vs) #[] 7 none) (Array.Perm.refl _) fun i j hij hj=>?_)
  rw [pairsOf_size] at hj; rw [List.size_toArray] at h2; omega
 ·rw [if_neg h2,if_neg h2]
  have hne:vs≠[]:=fun z=>h2 (by rw [z]; decide)
  have hv6:∀ v∈vs,∃ c,v=.ref c/\TK prog w (((s.heap.update a (Obj.mapSeq fun _=>#[])).push (seqObj "tuple" vs.toArray 0)).push (seqObj "list" #[] 0)) (key v) c/\key v≠[]:=fun v m=>by
   obtain ⟨c,e,x,y⟩:=hv v m
   refine ⟨c,e,?_,y⟩
   obtain ⟨oc,its,k,x1,x2,x3⟩:=x
   refine ⟨oc,its,k,ot c oc (fun z=>?_) x1,x2,x3⟩
   rw [z,ho] at x1
   cases x1
   exact absurd (Value.type.inj (show Value.type "list" = .type "tuple" from x2)) (by decide)
  refine wpAny_bind (CV hne (fun v m=>let ⟨c,e,x,y⟩:=hv6 v m; ⟨_,c,e,x,y⟩) ?_)
  have C:Cmp prog w A { s with heap:=((s.heap.update a (Obj.mapSeq fun _=>#[])).push (seqObj "tuple" vs.toArray 0)).push (seqObj "list" #[] 0) } key (pairsOf vs):=fun E x y Q mx my qq=>by
   obtain ⟨c,ex,kx,_⟩:=hv6 _ (lN mx).2
   obtain ⟨d,ey,ky,_⟩:=hv6 _ (lN my).2
   generalize x.1=vx at ex kx qq ⊢
   generalize y.1=vy at ey ky qq ⊢
   subst ex; subst ey
   exact w4 kx ky qq
  have D:Diff key (pairsOf vs):=by unfold Diff; rw [tU]; exact hd
  refine wpAny_bind (wpAny_mono (yj (z:=SortSt.mk' (tuples' true) (pairsOf vs) #[] 7 none) (Q:=fun _ y=>(arrOf y).Perm (pairsOf vs)/\failedOf y=none/\Up key (arrOf y) (pairsOf vs).size) C ⟨Array.Perm.refl _,rfl,rfl,rfl⟩ D (by rw [pairsOf_size]; rw [List.size_toArray] at h2; omega) (by rw [pairsOf_size]; exact h6) fun y a1 a2 a3=>⟨a1,a2,a3⟩) ?_ fun _ _ e=>e)
  rintro ⟨⟨⟩,y⟩ z ⟨rfl,py,fy,uy⟩
  dsimp only
  refine wpAny_bind (seqEpoch_at ho6 rfl (wpAny_bind (listUpdate_at ho6 rfl ?_ (hsz2:=lin y py))))
  rw [fy]
  simp only [bne_self_eq_false,Bool.false_eq_true,if_false]
  exact wpAny_pure (fin y py uy)
end
end TB

namespace TB
open PySem PyProof.Rows
open Classical in
noncomputable def b4 (prog:Program) (w:World) (h:Heap):Value->List Int
 | .ref c=>if x:∃ ks,TK prog w h ks c then x.choose else []
 | _=>[]
section
variable {prog:Program} {w:World} {A:Around} {E:Value->Shared->Prop} {s:Shared}
open Classical in
theorem fJ {h:Heap} {ks:List Int} {c:Addr} (x:TK prog w h ks c):b4 prog w h (.ref c)=ks:=by
 have hx:∃ ks,TK prog w h ks c:=⟨ks,x⟩
 show (if x:∃ ks,TK prog w h ks c then x.choose else [])=ks
 rw [dif_pos hx]
 exact IsTupleKey.inj hx.choose_spec x
theorem pJ {h:Heap}:∀ {l:List (Int × Value)} {L:List (List Int)},Els prog w h l L->(l.map (·.2)).map (b4 prog w h)=L
 | _,_,.nil=>rfl
 | _,_,.cons ⟨_,b,e,x⟩ r=>by
  rw [List.map_cons,List.map_cons,pJ r,e,fJ x]
theorem pV {h:Heap}:∀ {l:List (Int × Value)} {L:List (List Int)},Els prog w h l L->∀ v∈l.map (·.2),∃ c,v=.ref c/\TK prog w h (b4 prog w h v) c/\b4 prog w h v∈L
 | _,_,.nil,v,hv=>by cases hv
 | _,_,.cons ⟨_,b,e,x⟩ r,v,hv=>by
  rw [List.map_cons] at hv
  rcases List.mem_cons.mp hv with z|z
  ·rw [e] at z
   subst z
   exact ⟨b,rfl,by rw [fJ x]; exact x,by rw [fJ x]; exact List.mem_cons_self⟩
  ·obtain ⟨c,e1,e2,e3⟩:=pV r v z
   exact ⟨c,e1,e2,List.mem_cons_of_mem _ e3⟩
noncomputable def Ec (prog:Program) (w:World) (h:Heap) (lim:Addr->Prop) (R:Addr) (ks:List (List Int)):Prop:=∃ out:List Value,∃ n,h.get? R=some (seqObj "list" out.toArray n)/\out.length=ks.length/\∀ (i:Nat) v k,out[i]?=some v->ks[i]?=some k->∃ c,v=.ref c/\c≠R/\lim c/\TK prog w h k c
theorem Em {S:Addr} {lim:Addr->Prop} {L:List (List Int)} {Q:Value->Shared->Prop} (hh:A.handled=none) (x:bJ prog w lim s.heap S L) (hne:∀ ks∈L,ks≠[])
  (q:∀ h' tk R ks,s.heap.objs.size<=R->Ec prog w h' lim R ks->ks.Pairwise (fun a b=>aA a b=true)->(∀ y,y∈ks ↔ y∈L)->(∀ b o,b < s.heap.objs.size->s.heap.get? b=some o->h'.get? b=some o)->Q (.ref R) { s with heap:=h',toks:=tk }) :
  wpAny (model prog w) A (call (.builtin "sorted") [.ref S]) Q E s:=by
 obtain ⟨o,es,ep,t,ho,hex,hd,g,⟨hp,hl⟩,hsz,hels,hnd,hlim⟩:=x
 have hfit:es.size<=t.mask:=by rcases g.msk with z|z <;> omega
 have X:Fix w o es ep t:=⟨hd,g,hp,hl,hfit⟩
 obtain ⟨L1,x1,y1⟩:=Els.perm (j9 w S ep es) hels
 refine Calls.call_function_entry kind_sorted plain_sorted entry_sorted (args_sorted1 _) ?_
 unfold Builtin.«sorted»
 refine wpAny_bind (m:=checkCount "sorted" 1 1 _) (wpAny_pure ?_)
 refine wpAny_bind (BP (by simpa using hh) ho hex X fun h1 tk hle k1=>?_)
 have hlen:(bM w S ep es).toList.length=es.size:=by rw [Array.length_toList,fQ]
 have he18:es.size<=18:=by rcases g.msk with z|z <;> omega
 generalize hvs:(bM w S ep es).toList.map (·.2)=vs
 have hvl:vs.length=es.size:=by rw [<- hvs,List.length_map,hlen]
 have hkeys:vs.map (b4 prog w s.heap)=L1:=by rw [<- hvs]; exact pJ x1
 have hvals:∀ v∈vs,∃ c,v=.ref c/\TK prog w s.heap (b4 prog w s.heap v) c/\b4 prog w s.heap v∈L1:=by rw [<- hvs]; exact pV x1
 have up:∀ {ks:List Int} {c:Addr},TK prog w s.heap ks c->TK prog w h1 ks c/\c < s.heap.objs.size:=fun {ks c} z=>by
  obtain ⟨oc,its,m,z1,z2⟩:=z
  exact ⟨⟨oc,its,m,k1 c oc (Heap.lt_size z1) z1,z2⟩,Heap.lt_size z1⟩
 refine wpAny_bind (wpAny_newList ?_)
 have gR:(h1.push (seqObj "list" vs.toArray 0)).get? h1.objs.size=some (seqObj "list" vs.toArray 0):=Heap.get?_push_size _ rfl
 refine wpAny_bind (wpAny_holding (wpAny_call_entry slot_list_sort ⟨_,gR,rfl⟩ entry_list_sort (ow (s:={ s with heap:=h1.push (seqObj "list" vs.toArray 0),toks:=tk }) (key:=b4 prog w s.heap) gR (fun v m=>?_) (by rw [hkeys]; exact y1.nodup_iff.mpr hnd) (by omega) fun out po so=>⟨_,rfl,?_⟩) (args_list_sort _)))
 ·obtain ⟨c,e,z,m2⟩:=hvals v m
  refine ⟨c,e,dO (up z).1 fun oc e=>Heap.get?_push_of_some _ e,hne _ (y1.mem_iff.mp m2)⟩
 ·refine wpAny_pure ⟨_,rfl,?_⟩
  have old:∀ b o,b < s.heap.objs.size->s.heap.get? b=some o->(sortedHeap (h1.push (seqObj "list" vs.toArray 0)) h1.objs.size vs out.toArray).get? b=some o:=fun b o hb e =>
   (sortedHeap_old (Nat.ne_of_lt (Nat.lt_trans hb hle)) (by rw [Heap.size_push]; exact Nat.lt_succ_of_lt (Nat.lt_trans hb hle))).trans (Heap.get?_push_of_some _ (k1 b o hb e))
  obtain ⟨n,hn⟩:=sortedHeap_at (vs:=vs) (out:=out.toArray) gR
  refine q _ tk h1.objs.size (out.map (b4 prog w s.heap)) (Nat.le_of_lt hle) ⟨out,n,hn,(List.length_map _).symm,fun i v k e1 e2=>?_⟩ so (fun y=>?_) old
  ·rw [List.getElem?_map,e1] at e2
   have mv:=po.mem_iff.mp (List.mem_of_getElem? e1)
   obtain ⟨c,e,z,_⟩:=hvals v mv
   have hc:lim c:=by
    rw [<- hvs] at mv
    obtain ⟨en,m1,m2⟩:=List.mem_map.mp mv
    exact hlim en ((j9 w S ep es).mem_iff.mp m1) c (m2.trans e)
   have e3:b4 prog w s.heap v=k:=Option.some.inj e2
   rw [e3] at z
   exact ⟨c,e,Nat.ne_of_lt (Nat.lt_trans (up z).2 hle),hc,dO z fun oc e=>old c oc (Heap.lt_size e) e⟩
  ·rw [(po.map _).mem_iff,hkeys]
   exact y1.mem_iff
end
end TB

namespace TB
open PySem PyProof.Rows
section
variable {prog:Program} {w:World} {A:Around} {E:Value->Shared->Prop} {s:Shared} {l:Addr} {vs:List Value} {T:String}
noncomputable def Sq2 (h:Heap) (l:Addr) (vs:List Value):Prop:=∃ T o n,(T = "list"\/T = "tuple")/\h.get? l=some o/\o.cls=.type T/\o.data=.seq vs.toArray n
noncomputable def eU (h:Heap) (vs:List Value):Heap:=(h.push (seqObj "list" #[] 0)).update h.objs.size (Obj.mapSeq (·++vs.toArray))
noncomputable def jb (h:Heap) (vs:List Value):Heap:=(eU h vs).push (seqObj "list" vs.toArray 0)
theorem gather {Q:List Value->Shared->Prop} (x:Sq2 s.heap l vs) (hz:vs.length<=sizeLine) (q:Q vs { s with heap:=eU s.heap vs }):wpAny (model prog w) A (collect (.ref l)) Q E s:=by
 obtain ⟨T,o,n,hT,e1,e2,e3⟩:=x
 unfold collect
 apply wpAny_bind; apply wpAny_runValue; apply codeAny_builtin entry_proto_collect'
 show wpAny _ _ (do again (.builtin "list.__iadd__" ⟨[<- newList [],.ref l],[]⟩)) _ _ s
 apply wpAny_bind; refine wpAny_newList ?_ (Nat.zero_le _); apply wpAny_pure
 refine ⟨Code.quiet_builtin _ (by decide +kernel),?_⟩
 apply codeAny_builtin entry_list_iadd'
 show wpAny _ _ (Builtin.List.listExtendWith (.ref s.heap.objs.size) (.ref l) (.ref s.heap.objs.size)) _ _ { s with heap:=s.heap.push (seqObj "list" #[] 0) }
 unfold Builtin.List.listExtendWith
 have e4:(s.heap.push (seqObj "list" #[] 0)).get? l=some o:=Heap.get?_push_of_some _ e1
 have e5:(s.heap.push (seqObj "list" #[] 0)).get? s.heap.objs.size=some (seqObj "list" #[] 0):=Heap.get?_push_size _ rfl
 refine wpAny_bind (wpAny_typeOf (T:=T) ⟨o,e4,e2⟩ ?_)
 have e7:∀ b:Bool,(b||Value.type T==Value.type "list"||Value.type T==Value.type "tuple")=true:=fun b=>by
  rcases hT with rfl|rfl
  ·rw [show (Value.type "list"==Value.type "list")=true from rfl,Bool.or_true,Bool.true_or]
  ·rw [show (Value.type "tuple"==Value.type "tuple")=true from rfl,Bool.or_true]
 rw [if_pos (e7 _)]
 refine wpAny_bind (listItems_at e4 e3 ?_)
 refine wpAny_bind (listItems_at e5 rfl ?_)
 rw [if_neg (by simp)]
 refine wpAny_bind (listUpdate_at e5 rfl ?_ (Nat.zero_le _) ?_)
 ·refine wpAny_pure ?_
  show wpAny (model prog w) A (do
    let o <- load s.heap.objs.size
    match o.data with
    | .seq xs _=>pure xs.toList
    | _=>unsupported "internal:collect") Q E { s with heap:=eU s.heap vs }
  refine wpAny_bind (wpAny_load (get?_update_seq e5 _) ?_)
  show wpAny _ _ (pure ((#[]:Array Value)++vs.toArray).toList) Q E _
  have e6:((#[]:Array Value)++vs.toArray).toList=vs:=by simp
  rw [e6]
  exact wpAny_pure q
 ·show (#[]++vs.toArray).size<=sizeLine+1
  simp only [Array.size_append,List.size_toArray,List.length_nil]
  omega
theorem pW (h:Heap) (vs:List Value):(eU h vs).objs.size=h.objs.size+1:=by unfold eU; rw [Heap.size_update,size_push']
theorem jD (h:Heap) (vs:List Value):(jb h vs).get? (h.objs.size+1)=some (seqObj "list" vs.toArray 0):=by rw [<- pW h vs]; exact Heap.get?_push_size _ rfl
theorem CG {h:Heap} {vs:List Value} {b:Addr} {o:Obj} (e:h.get? b=some o):(jb h vs).get? b=some o:=by
 have hb:b≠h.objs.size:=Nat.ne_of_lt (Heap.lt_size e)
 refine Heap.get?_push_of_some _ ?_
 unfold eU
 rw [Heap.get?_update_ne _ _ _ _ hb]
 exact Heap.get?_push_of_some _ e
theorem mY {R:List Value->Prop} {Q:Value->Shared->Prop} (x:Sq2 s.heap l vs) (hz:vs.length<=sizeLine)
  (k:∀ (A':Around) (E':Value->Shared->Prop) (P:Fin->Shared->Prop),(∀ out:List Value,R out->P (.done (.ret .none)) { s with heap:=sortedAll s.heap vs out.toArray })->wpAny (model prog w) A' (Builtin.«list.sort» ⟨[.ref (s.heap.objs.size+1)],[]⟩) P E' { s with heap:=jb s.heap vs })
  (q:∀ out:List Value,R out->Q (.ref (s.heap.objs.size+1)) { s with heap:=sortedAll s.heap vs out.toArray }):wpAny (model prog w) A (call (.builtin "sorted") [.ref l]) Q E s:=by
 apply Calls.call_function_entry kind_sorted plain_sorted entry_sorted (args_sorted1 _)
 unfold Builtin.«sorted»
 apply wpAny_bind (m:=checkCount "sorted" 1 1 _); apply wpAny_pure
 refine wpAny_bind (gather x hz ?_)
 apply wpAny_bind; refine wpAny_newList ?_ hz
 show wpAny _ _ _ _ _ { s with heap:=jb s.heap vs }
 rw [pW]
 refine wpAny_bind (wpAny_holding (wpAny_call_entry slot_list_sort ⟨_,jD _ _,rfl⟩ entry_list_sort (k _ _ _ fun out ro=>⟨_,rfl,?_⟩) (args_list_sort _)))
 exact wpAny_pure ⟨_,rfl,q out ro⟩
theorem zw {ns:List Int} {Q:Value->Shared->Prop} (x:Sq2 s.heap l vs) (hI:IntsAre vs ns) (h6:vs.length < 64)
  (q:∀ (out:List Value) (ns':List Int),IntsAre out ns'->ns'.Perm ns->ns'.Pairwise (·<=·)->Q (.ref (s.heap.objs.size+1)) { s with heap:=sortedAll s.heap vs out.toArray }):wpAny (model prog w) A (call (.builtin "sorted") [.ref l]) Q E s :=
 mY (R:=fun out=>∃ ns',IntsAre out ns'/\ns'.Perm ns/\ns'.Pairwise (·<=·)) x (by rw [sizeLine_eq]; omega)
  (fun A' E' P h=>list_sort_tree (jD _ _) hI h6 fun out ns' a1 a2 a3=>h out.toList ⟨ns',a1,a2,a3⟩)
  fun out ⟨ns',a1,a2,a3⟩=>q out ns' a1 a2 a3
theorem zc {key:Value->List Int} {Q:Value->Shared->Prop} (x:Sq2 s.heap l vs) (hv:∀ v∈vs,∃ c,v=.ref c/\TK prog w s.heap (key v) c/\key v≠[]) (hd:(vs.map key).Nodup) (h6:vs.length < 64)
  (q:∀ out:List Value,out.Perm vs->(out.map key).Pairwise (fun x y=>aA x y=true)->Q (.ref (s.heap.objs.size+1)) { s with heap:=sortedAll s.heap vs out.toArray }):wpAny (model prog w) A (call (.builtin "sorted") [.ref l]) Q E s :=
 mY (R:=fun out=>out.Perm vs/\(out.map key).Pairwise (fun x y=>aA x y=true)) x (by rw [sizeLine_eq]; omega)
  (fun A' E' P h=>ow (jD _ _) (fun v m=>let ⟨c,e,t,n⟩:=hv v m; ⟨c,e,dO t fun oc e=>CG e,n⟩) hd h6 fun out a1 a2=>h out ⟨a1,a2⟩)
  fun out ⟨a1,a2⟩=>q out a1 a2
end
end TB

namespace ENM
open PySem PyProof.Rows
open AutoSeq1 (wpAny_loadPart')
theorem Seq.keep {tup:Bool} {h h':Heap} {a:Addr} {us:Array Value} (x:Seq tup h a us) (e:∀ o,h.get? a=some o->h'.get? a=some o):Seq tup h' a us:=by
 cases tup with
 | true=>obtain ⟨o,ho,r⟩:=(show h.IsTuple a us from x); exact ⟨o,e _ ho,r⟩
 | false=>obtain ⟨o,ho,r⟩:=(show h.IsList a us from x); exact ⟨o,e _ ho,r⟩
section
variable {prog:Program} {w:World} {A:Around} {E:Value->Shared->Prop} {s:Shared}
variable {ta tb:Bool} {c pI pO i j a b:Addr} {m n:Nat} {us vs:Array Value} {u v old1 old2:Value}
theorem DR {Q:Value->Shared->Prop} (ap:ZipApart c pI pO i j a b) (hc:IsZip s.heap c pI pO .none) (hI:IsPair s.heap pI (.ref i) (.ref j)) (hO:IsPair s.heap pO old1 old2)
  (h1:Inn ta s.heap i a m) (h2:Inn tb s.heap j b n) (s1:Seq ta s.heap a us) (s2:Seq tb s.heap b vs) (hu:us[m]?=some u) (hv:vs[n]?=some v)
  (fin:∀ h',IsZip h' c pI pO (rawInt s.heap.objs.size)->IsPair h' pO u v->Inn ta h' i a (m+1)->Inn tb h' j b (n+1)->IsPair h' s.heap.objs.size u v->h'.objs.size=s.heap.objs.size+1 ->
   (∀ d o,d≠c->d≠pO->d≠i->d≠j->s.heap.get? d=some o->h'.get? d=some o)->Q (.ref s.heap.objs.size) { s with heap:=h' }) :
  wpAny (model prog w) A (Builtin.«zip.__next__» ⟨[.ref c],[]⟩) (fun e z=>∃ r,e=.done (.ret r)/\Q r z) E s:=by
 show wpAny _ _ (field (.ref c) 2>>=_) _ _ s
 refine wpAny_bind (wpAny_field hc rfl (x:=.bool false) rfl ?_)
 show wpAny _ _ (field (.ref c) 3>>=_) _ _ s
 refine wpAny_bind (wpAny_field hc rfl (x:=.ref pI) rfl ?_)
 refine wpAny_bind (wpAny_seqItems hI rfl ?_)
 show wpAny _ _ (Builtin.SmallTypes.ownedTupleIsFree (.ref c)>>=_) _ _ s
 refine wpAny_bind ?_
 unfold Builtin.SmallTypes.ownedTupleIsFree
 refine wpAny_bind (wpAny_field hc rfl (x:=.none) rfl (wpAny_pure ?_))
 simp only [if_true]
 refine wpAny_bind (wpAny_rule (wpAny_bind (wpAny_field hc rfl (x:=.ref pO) rfl ?_)))
 refine wpAny_bind (wpAny_setField_rec hc (by simp) fun f1 c1 e1=>?_)
 replace c1:IsZip f1 c pI pO .ellipsis:=c1
 refine wpAny_bind ?_
 simp only [List.zipIdx_cons,List.zipIdx_nil,List.forIn_cons,List.forIn_nil]
 refine wpAny_bind (wpAny_bind (wpAny_onRaise (show wpAny _ _ (Builtin.SmallTypes.nextOf (.ref i)>>=_) _ _ _ from ?_)))
 refine wpAny_bind (iM (s:={ s with heap:=f1 }) (h1.keep fun o z=>e1.extBut _ o ap.i1z z) (s1.keep fun o z=>e1.extBut _ o ap.l1z z) hu fun f2 k2 e2=>wpAny_pure ?_)
 replace e2:Heap.SameBut i f1 f2:=e2
 have O2:IsPair f2 pO old1 old2:=e2.extBut _ _ ap.TOi1 (e1.extBut _ _ ap.TOz hO)
 refine wpAny_bind (wpAny_seqItems O2 rfl (wpAny_bind (wpAny_updateSeq_pair O2 fun f3 O3 e3=>?_)))
 replace O3:IsPair f3 pO u old2:=O3
 replace e3:Heap.SameBut pO f2 f3:=e3
 refine wpAny_bind (wpAny_letGo (wpAny_pure (wpAny_bind (wpAny_bind (wpAny_onRaise (show wpAny _ _ (Builtin.SmallTypes.nextOf (.ref j)>>=_) _ _ _ from ?_))))))
 refine wpAny_bind (iM (s:={ s with heap:=f3 }) (h2.keep fun o z=>e3.extBut _ o ap.TOi2.symm (e2.extBut _ o ap.i12.symm (e1.extBut _ o ap.i2z z))) (s2.keep fun o z=>e3.extBut _ o ap.l2TO (e2.extBut _ o ap.l2i1 (e1.extBut _ o ap.l2z z))) hv fun f4 k4 e4=>wpAny_pure ?_)
 replace e4:Heap.SameBut j f3 f4:=e4
 have O4:IsPair f4 pO u old2:=e4.extBut _ _ ap.TOi2 O3
 refine wpAny_bind (wpAny_seqItems O4 rfl (wpAny_bind (wpAny_updateSeq_pair O4 fun f5 O5 e5=>?_)))
 replace O5:IsPair f5 pO u v:=O5
 replace e5:Heap.SameBut pO f4 f5:=e5
 refine wpAny_bind (wpAny_letGo (wpAny_pure (wpAny_pure (wpAny_bind (wpAny_seqItems O5 rfl (wpAny_bind (wpAny_newTuple ?_)))))))
 have sz:f5.objs.size=s.heap.objs.size:=by rw [e5.1,e4.1,e3.1,e2.1]; exact e1.1
 have c5:IsZip f5 c pI pO .ellipsis:=e5.extBut _ _ ap.TOz.symm (e4.extBut _ _ ap.i2z.symm (e3.extBut _ _ ap.TOz.symm (e2.extBut _ _ ap.i1z.symm c1)))
 have k5:∀ d o,d≠c->d≠pO->d≠i->d≠j->s.heap.get? d=some o->f5.get? d=some o:=fun d o d1 d2 d3 d4 z=>e5.extBut _ _ d2 (e4.extBut _ _ d4 (e3.extBut _ _ d2 (e2.extBut _ _ d3 (e1.extBut _ _ d1 z))))
 have I5:Inn ta f5 i a (m+1):=k2.keep fun o z=>e5.extBut _ o ap.TOi1.symm (e4.extBut _ o ap.i12 (e3.extBut _ o ap.TOi1.symm z))
 have J5:Inn tb f5 j b (n+1):=k4.keep fun o z=>e5.extBut _ o ap.TOi2.symm z
 have clt:c < f5.objs.size:=Heap.lt_size c5
 show wpAny _ _ (Builtin.SmallTypes.ownedTupleHandOut (.ref c) (.ref f5.objs.size)>>=_) _ _ _
 refine wpAny_bind ?_
 unfold Builtin.SmallTypes.ownedTupleHandOut
 have c6:IsZip (f5.push { cls:=.type "tuple",data:=.seq #[u,v] }) c pI pO .ellipsis:=Heap.get?_push_of_some _ c5
 refine wpAny_bind (wpAny_setField_rec c6 (by simp) fun f7 c7 e7=>?_)
 replace c7:IsZip f7 c pI pO (rawInt f5.objs.size):=c7
 refine wpAny_setField_rec c7 (by simp) fun f8 c8 e8=>?_
 replace c8:IsZip f8 c pI pO (rawInt f5.objs.size):=c8
 replace e7:Heap.SameBut c (f5.push { cls:=.type "tuple",data:=.seq #[u,v] }) f7:=e7
 replace e8:Heap.SameBut c f7 f8:=e8
 have up:∀ d o,d≠c->f5.get? d=some o->f8.get? d=some o:=fun d o dc z=>e8.extBut _ _ dc (e7.extBut _ _ dc (Heap.get?_push_of_some _ z))
 have T8:IsPair f8 f5.objs.size u v:=e8.extBut _ _ (Nat.ne_of_gt clt) (e7.extBut _ _ (Nat.ne_of_gt clt) (Heap.get?_push_size _ rfl))
 have s8:f8.objs.size=f5.objs.size+1:=by rw [e8.1,e7.1,Heap.size_push]
 rw [sz] at c8 T8 s8
 refine wpAny_pure ⟨_,rfl,(show Q (.ref f5.objs.size) _ from ?_)⟩
 rw [sz]
 exact fin f8 c8 (up _ _ ap.TOz O5) (I5.keep fun o z=>up _ o ap.i1z z) (J5.keep fun o z=>up _ o ap.i2z z) T8 s8 fun d o d1 d2 d3 d4 z=>up d o d1 (k5 d o d1 d2 d3 d4 z)
theorem B8 {Q:Fin->Shared->Prop} (calm:A.handled=none) (ap:ZipApart c pI pO i j a b) (hc:IsZip s.heap c pI pO .none) (hI:IsPair s.heap pI (.ref i) (.ref j)) (hO:IsPair s.heap pO old1 old2)
  (h1:Inn ta s.heap i a m) (h2:Inn tb s.heap j b n) (s1:Seq ta s.heap a us) (s2:Seq tb s.heap b vs) (he:us[m]?=none\/vs[n]?=none)
  (fin:∀ h' e,(∀ d o,d≠c->d≠pO->d≠i->d≠j->s.heap.get? d=some o->h'.get? d=some o)->(∃ o,h'.get? e=some o/\o.cls=.type "StopIteration")->E (.ref e) { s with heap:=h' }) :
  wpAny (model prog w) A (Builtin.«zip.__next__» ⟨[.ref c],[]⟩) Q E s:=by
 show wpAny _ _ (field (.ref c) 2>>=_) _ _ s
 refine wpAny_bind (wpAny_field hc rfl (x:=.bool false) rfl ?_)
 show wpAny _ _ (field (.ref c) 3>>=_) _ _ s
 refine wpAny_bind (wpAny_field hc rfl (x:=.ref pI) rfl ?_)
 refine wpAny_bind (wpAny_seqItems hI rfl ?_)
 show wpAny _ _ (Builtin.SmallTypes.ownedTupleIsFree (.ref c)>>=_) _ _ s
 refine wpAny_bind ?_
 unfold Builtin.SmallTypes.ownedTupleIsFree
 refine wpAny_bind (wpAny_field hc rfl (x:=.none) rfl (wpAny_pure ?_))
 simp only [if_true]
 refine wpAny_bind (wpAny_rule (wpAny_bind (wpAny_field hc rfl (x:=.ref pO) rfl ?_)))
 refine wpAny_bind (wpAny_setField_rec hc (by simp) fun f1 c1 e1=>?_)
 replace c1:IsZip f1 c pI pO .ellipsis:=c1
 refine wpAny_bind ?_
 simp only [List.zipIdx_cons,List.zipIdx_nil,List.forIn_cons,List.forIn_nil]
 refine wpAny_bind (wpAny_bind (wpAny_onRaise (show wpAny _ _ (Builtin.SmallTypes.nextOf (.ref i)>>=_) _ _ _ from ?_)))
 have g1:Inn ta f1 i a m:=h1.keep fun o z=>e1.extBut _ o ap.i1z z
 have q1:Seq ta f1 a us:=s1.keep fun o z=>e1.extBut _ o ap.l1z z
 cases hu:us[m]? with
 | none =>
  refine wpAny_bind (jW (s:={ s with heap:=f1 }) calm g1 q1 hu fun f2 e e2 ⟨oe,w1,w2⟩=>?_)
  replace e2:Heap.ExtBut i f1 f2:=e2
  have c2:IsZip f2 c pI pO .ellipsis:=e2 _ _ ap.i1z.symm c1
  have ne:e≠c:=fun z=>by rw [z] at w1; rw [c2] at w1; cases w1; simp at w2
  refine wpAny_setField_rec c2 (by simp) fun f3 _ e3=>fin f3 e (fun d o d1 _ d3 _ z=>e3.extBut _ _ d1 (e2 _ _ d3 (e1.extBut _ _ d1 z))) ⟨oe,e3.extBut _ _ ne w1,w2⟩
 | some u =>
  have hv:vs[n]?=none:=he.resolve_left fun z=>by rw [hu] at z; cases z
  refine wpAny_bind (iM (s:={ s with heap:=f1 }) g1 q1 hu fun f2 k2 e2=>wpAny_pure ?_)
  replace e2:Heap.SameBut i f1 f2:=e2
  have O2:IsPair f2 pO old1 old2:=e2.extBut _ _ ap.TOi1 (e1.extBut _ _ ap.TOz hO)
  refine wpAny_bind (wpAny_seqItems O2 rfl (wpAny_bind (wpAny_updateSeq_pair O2 fun f3 O3 e3=>?_)))
  replace e3:Heap.SameBut pO f2 f3:=e3
  refine wpAny_bind (wpAny_letGo (wpAny_pure (wpAny_bind (wpAny_bind (wpAny_onRaise (show wpAny _ _ (Builtin.SmallTypes.nextOf (.ref j)>>=_) _ _ _ from ?_))))))
  refine wpAny_bind (jW (s:={ s with heap:=f3 }) calm (h2.keep fun o z=>e3.extBut _ o ap.TOi2.symm (e2.extBut _ o ap.i12.symm (e1.extBut _ o ap.i2z z))) (s2.keep fun o z=>e3.extBut _ o ap.l2TO (e2.extBut _ o ap.l2i1 (e1.extBut _ o ap.l2z z))) hv fun f4 e e4 ⟨oe,w1,w2⟩=>?_)
  replace e4:Heap.ExtBut j f3 f4:=e4
  have c4:IsZip f4 c pI pO .ellipsis:=e4 _ _ ap.i2z.symm (e3.extBut _ _ ap.TOz.symm (e2.extBut _ _ ap.i1z.symm c1))
  have ne:e≠c:=fun z=>by rw [z] at w1; rw [c4] at w1; cases w1; simp at w2
  refine wpAny_setField_rec c4 (by simp) fun f5 _ e5=>fin f5 e (fun d o d1 d2 d3 d4 z=>e5.extBut _ _ d1 (e4 _ _ d4 (e3.extBut _ _ d2 (e2.extBut _ _ d3 (e1.extBut _ _ d1 z))))) ⟨oe,e5.extBut _ _ ne w1,w2⟩
theorem Ag {Q:Option Value->Shared->Prop} (ap:ZipApart c pI pO i j a b) (hc:IsZip s.heap c pI pO .none) (hI:IsPair s.heap pI (.ref i) (.ref j)) (hO:IsPair s.heap pO old1 old2)
  (h1:Inn ta s.heap i a m) (h2:Inn tb s.heap j b n) (s1:Seq ta s.heap a us) (s2:Seq tb s.heap b vs) (hu:us[m]?=some u) (hv:vs[n]?=some v)
  (fin:∀ h',IsZip h' c pI pO (rawInt s.heap.objs.size)->IsPair h' pO u v->Inn ta h' i a (m+1)->Inn tb h' j b (n+1)->IsPair h' s.heap.objs.size u v->h'.objs.size=s.heap.objs.size+1 ->
   (∀ d o,d≠c->d≠pO->d≠i->d≠j->s.heap.get? d=some o->h'.get? d=some o)->Q (some (.ref s.heap.objs.size)) { s with heap:=h' }) :
  wpAny (model prog w) A (pyNext (.ref c)) Q E s:=by
 have ty:s.TypeIs (.ref c) "zip":=⟨_,hc,rfl⟩
 unfold pyNext
 exact wpAny_bind (wpAny_attempt (wpAny_callSpecial?_slot (name:=Str.ofString "__next__") ty F.slot_zip_next (wpAny_call_entry F.slot_zip_next ty F.entry_zip_next
  (DR ap hc hI hO h1 h2 s1 s2 hu hv fun h' x1 x2 x3 x4 x5 x6 x7=>wpAny_pure (fin h' x1 x2 x3 x4 x5 x6 x7)) (F.args_zip_next_1 _))))
theorem CN {Q:Option Value->Shared->Prop} (calm:A.handled=none) (ap:ZipApart c pI pO i j a b) (hc:IsZip s.heap c pI pO .none) (hI:IsPair s.heap pI (.ref i) (.ref j)) (hO:IsPair s.heap pO old1 old2)
  (h1:Inn ta s.heap i a m) (h2:Inn tb s.heap j b n) (s1:Seq ta s.heap a us) (s2:Seq tb s.heap b vs) (he:us[m]?=none\/vs[n]?=none)
  (fin:∀ h',(∀ d o,d≠c->d≠pO->d≠i->d≠j->s.heap.get? d=some o->h'.get? d=some o)->Q none { s with heap:=h' }):wpAny (model prog w) A (pyNext (.ref c)) Q E s:=by
 have ty:s.TypeIs (.ref c) "zip":=⟨_,hc,rfl⟩
 unfold pyNext
 refine wpAny_bind (wpAny_attempt (wpAny_callSpecial?_slot (name:=Str.ofString "__next__") ty F.slot_zip_next (wpAny_call_entry F.slot_zip_next ty F.entry_zip_next
  (B8 calm ap hc hI hO h1 h2 s1 s2 he fun h' e hk ⟨o,w1,w2⟩=>?_) (F.args_zip_next_1 _))))
 refine wpAny_bind (wpAny_isInstance (T:="StopIteration") (b:=true) ⟨o,w1,w2⟩ isSubtype_stop (wpAny_pure (fin _ hk)))
noncomputable def itN:Bool->String
 | true=>"tuple_iterator"
 | false=>"list_iterator"
abbrev itO (t:Bool) (x:Addr):Obj:={ cls:=.type (itN t),data:=.fields #[.ref x,.int 0 0] }
theorem o9 {t:Bool} {x:Addr} {ws:Array Value} {Q:Value->Shared->Prop} (h:Seq t s.heap x ws) (q:Q (.ref s.heap.objs.size) { s with heap:=s.heap.push (itO t x) }):wpAny (model prog w) A (pyIter (.ref x)) Q E s:=by
 cases t with
 | true=>exact wpAny_pyIter_tuple h q
 | false=>exact wpAny_pyIter_list h q
theorem pG (t:Bool) (h:Heap) (x:Addr):Inn t (h.push (itO t x)) h.objs.size x 0:=by
 cases t with
 | true=>exact ⟨_,Heap.get?_push_size _ rfl,rfl,rfl⟩
 | false=>exact ⟨_,Heap.get?_push_size _ rfl,rfl,rfl⟩
abbrev zp2 (ta tb:Bool) (h:Heap) (a b:Addr):Heap:=(h.push (itO ta a)).push (itO tb b)
abbrev zp3 (ta tb:Bool) (h:Heap) (a b:Addr):Heap:=(zp2 ta tb h a b).push { cls:=.type "tuple",data:=.seq #[.ref h.objs.size,.ref (h.push (itO ta a)).objs.size] }
abbrev zp4 (ta tb:Bool) (h:Heap) (a b:Addr):Heap:=(zp3 ta tb h a b).push { cls:=.type "tuple",data:=.seq #[.none,.none] }
abbrev zp5 (ta tb:Bool) (h:Heap) (a b:Addr):Heap:=(zp4 ta tb h a b).push { cls:=.type "zip",data:=.fields #[.none,.bool false,.bool false,.ref (zp2 ta tb h a b).objs.size,.ref (zp3 ta tb h a b).objs.size] }
theorem Dt (ta tb:Bool) (a b:Addr) (us vs:Array Value) :
  Meets (Builtin.«zip.__new__» ⟨[.type "zip",.ref a,.ref b],[]⟩) (fun _ R s=>Seq ta s.heap a us/\Seq tb s.heap b vs/\R (.ok (.ret (.ref (zp4 ta tb s.heap a b).objs.size))) { s with heap:=zp5 ta tb s.heap a b }) :=
 .of_wp fun prog w A R s h=>by
  obtain ⟨hp,g,d,tk,os⟩:=s
  obtain ⟨s1,s2,h⟩:=h
  have ks:=sub_zip
  have i1:∀ {Q:Value->Shared->Prop} {A E},Q (.ref hp.objs.size) ⟨hp.push (itO ta a),g,d,tk,os⟩->wpAny (model prog w) A (pyIter (.ref a)) Q E ⟨hp,g,d,tk,os⟩:=fun q=>o9 (s:=⟨hp,g,d,tk,os⟩) s1 q
  have i2:∀ {Q:Value->Shared->Prop} {A E},Q (.ref (hp.push (itO ta a)).objs.size) ⟨zp2 ta tb hp a b,g,d,tk,os⟩->wpAny (model prog w) A (pyIter (.ref b)) Q E ⟨hp.push (itO ta a),g,d,tk,os⟩:=fun q=>o9 (s:=⟨hp.push (itO ta a),g,d,tk,os⟩) (s2.keep fun o e=>Heap.get?_push_of_some _ e) q
  wp_walk using i1,i2
  exact ⟨_,rfl,h⟩
theorem AH {Q:Value->Shared->Prop} (s1:Seq ta s.heap a us) (s2:Seq tb s.heap b vs)
  (q:∀ h',IsZip h' (s.heap.objs.size+4) (s.heap.objs.size+2) (s.heap.objs.size+3) .none->IsPair h' (s.heap.objs.size+2) (.ref s.heap.objs.size) (.ref (s.heap.objs.size+1))->IsPair h' (s.heap.objs.size+3) .none .none ->
   Inn ta h' s.heap.objs.size a 0->Inn tb h' (s.heap.objs.size+1) b 0->(∀ d o,s.heap.get? d=some o->h'.get? d=some o)->Q (.ref (s.heap.objs.size+4)) { s with heap:=h' }) :
  wpAny (model prog w) A (call (.type "zip") [.ref a,.ref b]) Q E s:=by
 refine callType_new F.called_zip (by decide) (F.typeCall_zip_2 _ _) (F.newCall_zip_2 _ _) (fun x=>F.args_object_init_3 x _ _) F.entry_zip_new (Dt ta tb a b us vs) ⟨s1,s2,?_⟩
 have n1:(s.heap.push (itO ta a)).objs.size=s.heap.objs.size+1:=Heap.size_push ..
 have n2:(zp2 ta tb s.heap a b).objs.size=s.heap.objs.size+2:=by rw [Heap.size_push,n1]
 have n3:(zp3 ta tb s.heap a b).objs.size=s.heap.objs.size+3:=by rw [Heap.size_push,n2]
 have n4:(zp4 ta tb s.heap a b).objs.size=s.heap.objs.size+4:=by rw [Heap.size_push,n3]
 have x5:(zp5 ta tb s.heap a b).get? (zp4 ta tb s.heap a b).objs.size=some _:=Heap.get?_push_size _ rfl
 have x4:(zp5 ta tb s.heap a b).get? (zp3 ta tb s.heap a b).objs.size=some _:=Heap.get?_push_of_some _ (Heap.get?_push_size _ rfl)
 have x3:(zp5 ta tb s.heap a b).get? (zp2 ta tb s.heap a b).objs.size=some _:=Heap.get?_push_of_some _ (Heap.get?_push_of_some _ (Heap.get?_push_size _ rfl))
 have x2:Inn tb (zp5 ta tb s.heap a b) (s.heap.push (itO ta a)).objs.size b 0:=(pG tb (s.heap.push (itO ta a)) b).keep fun o e=>Heap.get?_push_of_some _ (Heap.get?_push_of_some _ (Heap.get?_push_of_some _ e))
 have x1:Inn ta (zp5 ta tb s.heap a b) s.heap.objs.size a 0:=(pG ta s.heap a).keep fun o e=>Heap.get?_push_of_some _ (Heap.get?_push_of_some _ (Heap.get?_push_of_some _ (Heap.get?_push_of_some _ e)))
 show _/\_
 rw [n2,n3,n4] at x5
 rw [n1,n2] at x3
 rw [n3] at x4
 rw [n1] at x2
 rw [n4]
 exact ⟨⟨_,x5,rfl⟩,q _ x5 x3 x4 x1 x2 fun d o e=>Heap.get?_push_of_some _ (Heap.get?_push_of_some _ (Heap.get?_push_of_some _ (Heap.get?_push_of_some _ (Heap.get?_push_of_some _ e))))⟩
end
end ENM
namespace L2
open PySem PySem.Spec PyProof.Rows ENM
noncomputable def Itz (K:PySem.W.Frag) (ta tb:Bool) (a b:Addr):It :=
 ⟨fun i H=>∃ xs ys x y,SqB K H ta a xs/\SqB K H tb b ys/\xs[i]?=some x/\ys[i]?=some y,
  fun i H x H'=>∃ u v p,(∀ xs,SqB K H ta a xs->xs[i]?=some u)/\(∀ ys,SqB K H tb b ys->ys[i]?=some v)/\H p=none/\H'=upd H p (.tup [u,v])/\x=.ref p,
  fun i H=>∃ xs ys,SqB K H ta a xs/\SqB K H tb b ys/\(xs.length<=i\/ys.length<=i)⟩
theorem Az {P:Program} {w:World} {K:PySem.W.Frag} {elts:List Expr} {k1:Nat} {tp:Pos} (ta tb:Bool) {a b c pI pO it jt:Addr} (ap:ZipApart c pI pO it jt a b) :
  Turn P w K (.Tuple elts k1 tp) (Itz K ta tb a b) [c,pI,pO,it,jt] c (fun i h=>IsZip h c pI pO .none/\IsPair h pI (.ref it) (.ref jt)/\(∃ x y,IsPair h pO x y)/\Inn ta h it a i/\Inn tb h jt b i) where
 mem:=by simp
 obj:=fun i h ⟨z1,z2,⟨x,y,z3⟩,z4,z5⟩ d hd=>by
  simp only [List.mem_cons,List.mem_nil_iff,or_false] at hd
  rcases hd with rfl|rfl|rfl|rfl|rfl
  ·exact ⟨_,z1,fun v z=>by
    have z':Data.fields _=Data.cell v:=z
    cases z'⟩
  ·exact ⟨_,z2,fun v z=>by
    have z':Data.seq _ _=Data.cell v:=z
    cases z'⟩
  ·exact ⟨_,z3,fun v z=>by
    have z':Data.seq _ _=Data.cell v:=z
    cases z'⟩
  ·exact z4.there
  ·exact z5.there
 keep:=fun i h h' ⟨z1,z2,⟨x,y,z3⟩,z4,z5⟩ k =>
  ⟨k c (by simp) _ z1,k pI (by simp) _ z2,⟨x,y,k pO (by simp) _ z3⟩,z4.keep fun o e=>k it (by simp) o e,z5.keep fun o e=>k jt (by simp) o e⟩
 item:=by
  intro X hP hw hK hc i pins s σ H E I hf st hg
  subst hP hw hK
  obtain ⟨z1,z2,⟨x0,y0,z3⟩,z4,z5⟩:=st
  obtain ⟨xs,ys,x,y,sq1,sq2,hx,hy⟩:=hg
  obtain ⟨its,rv,hs⟩:=I.cZ sq1
  obtain ⟨jts,rw',hs2⟩:=I.cZ sq2
  obtain ⟨u,hu,ru⟩:=rv.get hx
  obtain ⟨v,hv,rv'⟩:=rw'.get hy
  refine Ag ap z1 z2 z3 z4 z5 hs hs2 (u:=u) (v:=v) (by simpa using hu) (by simpa using hv) fun h' a1 a2 a3 a4 a5 a6 hk=>?_
  refine ⟨_,rfl,wpAny_letOwnedTupleGo_zip a1 fun h2 he2 sb2=>?_⟩
  replace sb2:Heap.SameBut c h' h2:=sb2
  have clt:c < s.heap.objs.size:=Heap.lt_size z1
  have hp:H s.heap.objs.size=none:=I.hok.fresh (Nat.le_refl _)
  have kept:∀ d o,d ∉ [c,pO,it,jt]->s.heap.get? d=some o->h2.get? d=some o:=fun d o hd e =>
   sb2.extBut d o (fun z=>hd (by simp [z])) (hk d o (fun z=>hd (by simp [z])) (fun z=>hd (by simp [z])) (fun z=>hd (by simp [z])) (fun z=>hd (by simp [z])) e)
  have sub:∀ d∈[c,pO,it,jt],d∈[c,pI,pO,it,jt]:=fun d hd=>by
   simp only [List.mem_cons,List.mem_nil_iff,or_false] at hd ⊢
   rcases hd with h|h|h|h
   ·exact .inl h
   ·exact .inr (.inr (.inl h))
   ·exact .inr (.inr (.inr (.inl h)))
   ·exact .inr (.inr (.inr (.inr h)))
  have tp2:h2.get? s.heap.objs.size=some { cls:=.type "tuple",data:=.seq #[u,v] }:=sb2.extBut _ _ (Nat.ne_of_gt clt) a5
  have hn:∀ d o,H d=some o->d ∉ [c,pO,it,jt]:=fun d o q hd=>by
   have:=(hf d (sub d hd)).1
   rw [q] at this; cases this
  have I2:Inv X pins σ (upd H s.heap.objs.size (.tup [x,y])) { s with heap:=h2 }:=by
   refine I.step (t':=s.toks) (g':=s.gens) (d':=s.drawn) (ch:=[c,pO,it,jt]) (fun d hd=>?_) (fun d o _ _ hc e _=>kept d o hc e)
    (fun d o _ _ hc e _=>⟨o.slots,kept d o hc e⟩) (fun d o _ e n=>by rw [aE (Nat.ne_of_lt (Heap.lt_size e))]; exact n)
    (fun d o hc e=>⟨o,kept d o hc e⟩) (fun d ys q=>by rw [aE (aV q hp)]; exact q) (fun d o u q=>by rw [aE (aV q hp)]; exact q)
    (fun d ps q=>⟨#[],by rw [aE (aV q hp),q]; simp⟩) (fun m hm=>?_) ?_ I.bare
   ·obtain ⟨f0,f1,f2,f3,f4,f5⟩:=hf d (sub d hd)
    exact ⟨f3,f1,f4,f5⟩
   ·obtain ⟨o,es,ep,ho',r⟩:=hm
    exact ⟨o,es,ep,kept _ o (fun hd=>(hf _ (sub _ hd)).2.1 rfl) ho',r⟩
   ·intro d o q
    by_cases hd:d=s.heap.objs.size
    ·subst hd
     rw [cB] at q
     cases q
     exact ⟨by show 2<=sizeLine; decide,[u,v],.cons ru (.cons rv' .nil),_,tp2,rfl,_,rfl⟩
    ·rw [aE hd] at q
     refine (I.hok d o q).stay (fun e w hc e1=>?_) (fun e q=>by rw [aE (aV q hp)]; exact q) fun e ys q=>by rw [aE (aV q hp)]; exact q
     rcases hc with rfl|hc
     ·exact kept _ w (hn _ _ q) e1
     ·exact kept e w (hn _ _ hc) e1
  refine ⟨.ref s.heap.objs.size,upd H s.heap.objs.size (.tup [x,y]),I2,rfl,⟨x,y,_,fun ws hw=>by rw [I.ly hw sq1]; exact hx,fun ws hw=>by rw [I.ly hw sq2]; exact hy,hp,rfl,rfl⟩,
   ⟨he2,sb2.extBut _ _ ap.TIz (hk _ _ ap.TIz ap.TITO ap.TIi1 ap.TIi2 z2),⟨u,v,sb2.extBut _ _ ap.TOz a2⟩,a3.keep fun o e=>sb2.extBut _ o ap.i1z e,a4.keep fun o e=>sb2.extBut _ o ap.i2z e⟩,fun d hd=>?_⟩
  have f0:=(hf d hd).1
  by_cases e:d=s.heap.objs.size
  ·exfalso
   subst e
   simp only [List.mem_cons,List.mem_nil_iff,or_false] at hd
   rcases hd with h|h|h|h|h
   ·exact absurd (Heap.lt_size z1) (by rw [<- h]; exact Nat.lt_irrefl _)
   ·exact absurd (Heap.lt_size z2) (by rw [<- h]; exact Nat.lt_irrefl _)
   ·exact absurd (Heap.lt_size z3) (by rw [<- h]; exact Nat.lt_irrefl _)
   ·obtain ⟨o,e,_⟩:=z4.there; exact absurd (Heap.lt_size e) (by rw [<- h]; exact Nat.lt_irrefl _)
   ·obtain ⟨o,e,_⟩:=z5.there; exact absurd (Heap.lt_size e) (by rw [<- h]; exact Nat.lt_irrefl _)
  ·rw [aE e]; exact f0
 done:=by
  intro X hP hw hK hc i pins s σ H E I hf st hg
  subst hP hw hK
  obtain ⟨z1,z2,⟨x0,y0,z3⟩,z4,z5⟩:=st
  obtain ⟨xs,ys,sq1,sq2,hx⟩:=hg
  obtain ⟨its,rv,hs⟩:=I.cZ sq1
  obtain ⟨jts,rw',hs2⟩:=I.cZ sq2
  have l1:=rv.length
  have l2:=rw'.length
  refine CN (I.ok.hd hc) ap z1 z2 z3 z4 z5 hs hs2 ?_ fun h' hk=>?_
  ·rcases hx with h|h
   ·exact .inl (by simp; omega)
   ·exact .inr (by simp; omega)
  ·have sub:∀ d∈[c,pO,it,jt],d∈[c,pI,pO,it,jt]:=fun d hd=>by
    simp only [List.mem_cons,List.mem_nil_iff,or_false] at hd ⊢
    rcases hd with h|h|h|h
    ·exact .inl h
    ·exact .inr (.inr (.inl h))
    ·exact .inr (.inr (.inr (.inl h)))
    ·exact .inr (.inr (.inr (.inr h)))
   have kept:∀ d o,d ∉ [c,pO,it,jt]->s.heap.get? d=some o->h'.get? d=some o:=fun d o hd e =>
    hk d o (fun z=>hd (by simp [z])) (fun z=>hd (by simp [z])) (fun z=>hd (by simp [z])) (fun z=>hd (by simp [z])) e
   have hn:∀ d o,H d=some o->d ∉ [c,pO,it,jt]:=fun d o q hd=>by
    have:=(hf d (sub d hd)).1
    rw [q] at this; cases this
   refine ⟨rfl,I.step (t':=s.toks) (g':=s.gens) (d':=s.drawn) (ch:=[c,pO,it,jt]) (fun d hd=>?_) (fun d o _ _ hc e _=>kept d o hc e) (fun d o _ _ hc e _=>⟨o.slots,kept d o hc e⟩) (fun _ _ _ _ n=>n)
    (fun d o hc e=>⟨o,kept d o hc e⟩) (fun _ _ e=>e) (fun _ _ _ e=>e) (fun d ps e=>⟨#[],by rw [e]; simp⟩) (fun m hm=>?_) (fun d o q=>?_) I.bare⟩
   ·obtain ⟨f0,f1,f2,f3,f4,f5⟩:=hf d (sub d hd)
    exact ⟨f3,f1,f4,f5⟩
   ·obtain ⟨o,es,ep,ho',r⟩:=hm
    exact ⟨o,es,ep,kept _ o (fun hd=>(hf _ (sub _ hd)).2.1 rfl) ho',r⟩
   ·refine (I.hok d o q).stay (fun e w hc e1=>?_) (fun _ q=>q) fun _ _ q=>q
    rcases hc with rfl|hc
    ·exact kept _ w (hn _ _ q) e1
    ·exact kept e w (hn _ _ hc) e1
 self:=fun _ _ _ _ _ st h=>wpAny_pyIter_zip st.1 h
section
variable {X:Cx}
noncomputable def iZp (K:PySem.W.Frag) (ta:TA):TI:=fun σ H R=>ta σ H fun vs H1=>∃ t1 t2 a b,vs=[.ref a,.ref b]/\(∃ xs,SqB K H1 t1 a xs)/\(∃ ys,SqB K H1 t2 b ys)/\R (Itz K t1 t2 a b) H1
theorem Seq.lt {tup:Bool} {h:Heap} {a:Addr} {us:Array Value} (x:Seq tup h a us):a < h.objs.size:=by
 cases tup with
 | true=>obtain ⟨o,ho,_⟩:=(show h.IsTuple a us from x); exact Heap.lt_size ho
 | false=>obtain ⟨o,ho,_⟩:=(show h.IsList a us from x); exact Heap.lt_size ho
theorem uD {e f:Expr} {ta:TA} {p pos:Pos} {elts:List Expr} {k1:Nat} {tp:Pos} (hg:Gl X "zip") (hm:X.mg "zip" = none) (hv:bootBuiltins "zip" = some (.type "zip")) (ha:PA X [e,f] ta) (hs:starEach [e,f] X.env=(false,eval e X.env)::starEach [f] X.env) (hpl:(backTo pos (starEach [f] X.env)).any (·.1)=false) :
  PI X (.Tuple elts k1 tp) (.Call (.Name "zip" p) [e,f] [] pos) (iZp X.K ta):=by
 intro pins s σ H R I h
 refine Call_ (cu I hg hm hv (PyProof.Rows.callWith_type1 (thn (ha pos pins s σ H _ I h) fun us s1 ⟨vs,H1,I1,r1,q1⟩=>?_) hs hpl))
 obtain ⟨t1,t2,a,b,e,⟨xs,hq⟩,⟨ys,hq2⟩,q⟩:=q1
 subst e
 obtain ⟨u1,u2,rfl,r1,r2⟩:=r1.two
 cases r1
 cases r2
 obtain ⟨its,rv,sq1⟩:=I1.cZ hq
 obtain ⟨jts,rw',sq2⟩:=I1.cZ hq2
 have la:=Seq.lt sq1
 have lb:=Seq.lt sq2
 refine AH sq1 sq2 fun h' x1 x2 x3 x4 x5 hk=>?_
 refine wpAny_pyIter_zip x1 ?_
 have fr:∀ d,s1.heap.objs.size<=d->b6 X pins H1 d:=fun d hd=>I1.eT hd (I1.hok.fresh hd)
 have gt:∀ n k:Nat,k < n->n≠k:=fun n k h=>Nat.ne_of_gt h
 have ap:ZipApart (s1.heap.objs.size+4) (s1.heap.objs.size+2) (s1.heap.objs.size+3) s1.heap.objs.size (s1.heap.objs.size+1) a b:=by
  constructor <;> first
   | (refine (gt _ _ ?_).symm; omega)
   | (refine gt _ _ ?_; omega)
   | exact Nat.ne_of_lt (Nat.lt_of_lt_of_le la (Nat.le_add_right _ _))
   | exact Nat.ne_of_lt (Nat.lt_of_lt_of_le lb (Nat.le_add_right _ _))
 refine ⟨s1.heap.objs.size+4,_,_,_,H1,rfl,I1.kept (t':=s1.toks) hk,Az t1 t2 ap,⟨x1,x2,⟨_,_,x3⟩,x4,x5⟩,fun d hd=>fr d ?_,q⟩
 simp only [List.mem_cons,List.mem_nil_iff,or_false] at hd
 rcases hd with rfl|rfl|rfl|rfl|rfl
 ·exact Nat.le_add_right _ _
 ·exact Nat.le_add_right _ _
 ·exact Nat.le_add_right _ _
 ·exact Nat.le_refl _
 ·exact Nat.le_succ _
end
end L2

namespace EV
open PySem
inductive D where
 | non|bl (b:Bool)|int (i:Int)|str (x:Str)|tup (ds:List D)|loc (l:Nat)|exn (c:Str)|fro (ds:List D)
 deriving Inhabited
mutual
noncomputable def D.dec:(a b:D)->Decidable (a=b)
 | .non,b=>match b with|.non=>.isTrue rfl|.bl _|.int _|.str _|.tup _|.loc _|.exn _|.fro _=>.isFalse (fun h=>nomatch h)
 | .bl x,b=>match b with
  | .bl y=>if h:x=y then .isTrue (by rw [h]) else .isFalse (fun e=>h (D.bl.inj e))
  | .non|.int _|.str _|.tup _|.loc _|.exn _|.fro _=>.isFalse (fun h=>nomatch h)
 | .int x,b=>match b with
  | .int y=>if h:x=y then .isTrue (by rw [h]) else .isFalse (fun e=>h (D.int.inj e))
  | .non|.bl _|.str _|.tup _|.loc _|.exn _|.fro _=>.isFalse (fun h=>nomatch h)
 | .str x,b=>match b with
  | .str y=>if h:x=y then .isTrue (by rw [h]) else .isFalse (fun e=>h (D.str.inj e))
  | .non|.bl _|.int _|.tup _|.loc _|.exn _|.fro _=>.isFalse (fun h=>nomatch h)
 | .tup x,b=>match b with
  | .tup y=>match D.decs x y with
   | .isTrue h=>.isTrue (by rw [h])
   | .isFalse h=>.isFalse (fun e=>h (D.tup.inj e))
  | .non|.bl _|.int _|.str _|.loc _|.exn _|.fro _=>.isFalse (fun h=>nomatch h)
 | .loc x,b=>match b with
  | .loc y=>if h:x=y then .isTrue (by rw [h]) else .isFalse (fun e=>h (D.loc.inj e))
  | .non|.bl _|.int _|.str _|.tup _|.exn _|.fro _=>.isFalse (fun h=>nomatch h)
 | .exn x,b=>match b with
  | .exn y=>if h:x=y then .isTrue (by rw [h]) else .isFalse (fun e=>h (D.exn.inj e))
  | .non|.bl _|.int _|.str _|.tup _|.loc _|.fro _=>.isFalse (fun h=>nomatch h)
 | .fro x,b=>match b with
  | .fro y=>match D.decs x y with
   | .isTrue h=>.isTrue (by rw [h])
   | .isFalse h=>.isFalse (fun e=>h (D.fro.inj e))
  | .non|.bl _|.int _|.str _|.loc _|.exn _|.tup _=>.isFalse (fun h=>nomatch h)
noncomputable def D.decs:(a b:List D)->Decidable (a=b)
 | [],[]=>.isTrue rfl
 | [],_::_=>.isFalse (fun h=>nomatch h)
 | _::_,[]=>.isFalse (fun h=>nomatch h)
 | x::xs,y::ys=>match D.dec x y with
  | .isFalse h=>.isFalse (fun e=>h (List.cons.inj e).1)
  | .isTrue h=>match D.decs xs ys with
   | .isTrue h'=>.isTrue (by rw [h,h'])
   | .isFalse h'=>.isFalse (fun e=>h' (List.cons.inj e).2)
end
noncomputable instance:DecidableEq D:=D.dec
inductive Cell where
 | lst (ds:List D)|dct (kvs:List (D × D))
 deriving DecidableEq,Inhabited
abbrev af:=List Cell
inductive Res (α:Type) where
 | ok (a:α) (S:af)|exc (c:Str) (S:af)|bad
noncomputable def M (α:Type):=af->Res α
noncomputable instance:Monad M where
 pure a:=fun S=>.ok a S
 bind m f:=fun S=>match m S with
  | .ok a S'=>f a S'
  | .exc c S'=>.exc c S'
  | .bad=>.bad
theorem b_ {α β:Type} (m:M α) (f:α->M β) (S:af):(m>>=f) S=match m S with|.ok a S'=>f a S'|.exc c S'=>.exc c S'|.bad=>.bad:=rfl
theorem ak {α β:Type} {m:M α} {f:α->M β} {S S':af} {a:α} (h:m S=.ok a S'):(m>>=f) S=f a S':=by rw [b_,h]
theorem cD {α β:Type} {m:M α} {f:α->M β} {S S':af} {c:Str} (h:m S=.exc c S'):(m>>=f) S=.exc c S':=by rw [b_,h]
theorem aU {α β:Type} {m:M α} {f:α->M β} {S:af} (h:m S=.bad):(m>>=f) S=.bad:=by rw [b_,h]
noncomputable def bad {α:Type}:M α:=fun _=>.bad
noncomputable def opt {α:Type}:Option α->M α
 | some a=>pure a
 | none=>bad
noncomputable def alloc (c:Cell):M D:=fun S=>.ok (.loc S.length) (S++[c])
noncomputable def quiet {α:Type} (m:M α):M α:=fun S=>match m S with
 | .ok a S'=>.ok a S'
 | _=>.bad
noncomputable def aR:Nat:=16777216
noncomputable def fits (n:Nat):Bool:=decide (n<=aR)
noncomputable def iw (n:Nat):Bool:=decide (n < aR)
noncomputable def guard {α:Type} (b:Bool) (m:M α):M α:=match b with
 | true=>m
 | false=>bad
noncomputable def listAt (S:af) (l:Nat):Option (List D):=match S[l]? with
 | some (.lst ds)=>some ds
 | _=>none
noncomputable def items:D->M (List D)
 | .tup ds=>pure ds
 | .loc l=>fun S=>match listAt S l with
  | some ds=>.ok ds S
  | none=>.bad
 | .fro ds=>pure ds
 | _=>bad
noncomputable def cK:D->M (List D)
 | .loc l=>items (.loc l)
 | .fro ds=>pure ds
 | _=>bad
noncomputable def asL (S:af):D->Option (List D)
 | .loc l=>listAt S l
 | .fro ds=>some ds
 | _=>none
noncomputable def i2b (b:Bool):Int:=if b then 1 else 0
noncomputable def a_:D->D->Option Bool
 | .non,.non=>some true
 | .non,.bl _|.non,.int _|.non,.str _|.bl _,.non|.int _,.non|.str _,.non=>some false
 | .bl a,.bl b=>some (a==b)
 | .bl a,.int b=>some (i2b a==b)
 | .int a,.bl b=>some (a==i2b b)
 | .int a,.int b=>some (a==b)
 | .str a,.str b=>some (a==b)
 | .bl _,.str _|.int _,.str _|.str _,.bl _|.str _,.int _=>some false
 | _,_=>none
noncomputable def aY (f:D->D->Option Bool):List D->List D->Option Bool
 | x::xs,y::ys=>match f x y,aY f xs ys with
  | some a,some b=>some (a&&b)
  | _,_=>none
 | _,_=>some true
inductive Kd where|flat|tup|list|other
noncomputable def D.kd:D->Kd
 | .non|.bl _|.int _|.str _=>.flat
 | .tup _=>.tup
 | .loc _|.fro _=>.list
 | .exn _=>.other
noncomputable def D.its:D->List D
 | .tup ds=>ds
 | _=>[]
noncomputable def eqD:Nat->af->D->D->Option Bool
 | 0,_,_,_=>none
 | n+1,S,a,b=>match a.kd,b.kd with
  | .flat,.flat=>a_ a b
  | .tup,.tup=>(aY (eqD n S) a.its b.its).map fun r=>r&&(a.its.length==b.its.length)
  | .list,.list=>match asL S a,asL S b with
   | some xs,some ys=>if xs.length=ys.length then aY (eqD n S) xs ys else some false
   | _,_=>none
  | .list,.tup=>(asL S a).map fun _=>false
  | .tup,.list=>(asL S b).map fun _=>false
  | .list,.flat=>(asL S a).map fun _=>false
  | .flat,.list=>(asL S b).map fun _=>false
  | .tup,.flat=>some false
  | .flat,.tup=>some false
  | _,_=>none
noncomputable def deep:Nat:=12
noncomputable def eqM (a b:D):M Bool:=fun S=>match eqD deep S a b with
 | some k=>.ok k S
 | none=>.bad
noncomputable def inL (S:af) (x:D):List D->Option Bool
 | []=>some false
 | y::ys=>match eqD deep S y x,inL S x ys with
  | some a,some b=>some (a||b)
  | _,_=>none
inductive Op2 where|add|sub|mul|fdiv|mod|pow
inductive Cm where|lt|le|gt|ge|eq|ne|isin|b7
inductive Ty where|int|bool|str|list|tuple|dict|cls (c:Str)
 deriving DecidableEq
inductive Bi where|len|inst (t:Ty)|all|any|sum|min|max|sorted|sortedSet|list|tuple|int|abs|rangeT|rangeL
inductive Me where|append|extend
noncomputable def small (i:Int):Bool:=decide (-(2 ^ 64) < i/\i < 2 ^ 64)
noncomputable def aW (l:Nat) (f:List D->M D):M D:=fun S=>match S[l]? with
 | some (.lst ds)=>f ds S
 | _=>.bad
noncomputable def put (l:Nat) (c:Cell):M D:=fun S=>.ok .non (S.set l c)
noncomputable def Bo (a b:Nat):M D:=aW a fun xs=>aW b fun ys=>guard (fits (xs.length+ys.length)) (alloc (.lst (xs++ys)))
noncomputable def AZ:D->D->M D
 | .int i,.int j=>pure (.int (i+j))
 | .tup xs,.tup ys=>guard (fits (xs.length+ys.length)) (pure (.tup (xs++ys)))
 | .str x,.str y=>guard (fits (x.length+y.length)) (pure (.str (x++y)))
 | .loc a,.loc b=>Bo a b
 | _,_=>bad
noncomputable def Ab:D->D->M D
 | .int i,.int j=>pure (.int (i - j))
 | _,_=>bad
noncomputable def uM (l:Nat) (j:Int):M D:=aW l fun xs=>guard (decide (-(2 ^ 63)<=j)&&decide (j < 2 ^ 63)&&fits (xs.length * j.toNat)) (alloc (.lst (List.replicate j.toNat xs).flatten))
noncomputable def xH:D->D->M D
 | .int i,.int j=>guard (small i||small j) (pure (.int (i * j)))
 | .tup xs,.int j=>guard (decide (-(2 ^ 63)<=j)&&decide (j < 2 ^ 63)&&fits (xs.length * j.toNat)) (pure (.tup (List.replicate j.toNat xs).flatten))
 | .loc l,.int j=>uM l j
 | _,_=>bad
noncomputable def wZ:D->D->M D
 | .int i,.int j=>guard (decide (0 < j)&&decide (j < 1073741824)) (pure (.int (i / j)))
 | _,_=>bad
noncomputable def zD:D->D->M D
 | .int i,.int j=>guard (decide (0 < j)) (pure (.int (i % j)))
 | _,_=>bad
noncomputable def z8:D->D->M D
 | .int i,.int j=>guard (decide (0<=j)&&decide (j<=1000)&&decide (i.natAbs < 2 ^ 64)) (pure (.int (i ^ j.toNat)))
 | _,_=>bad
noncomputable def opD:Op2->D->D->M D
 | .add=>AZ
 | .sub=>Ab
 | .mul=>xH
 | .fdiv=>wZ
 | .mod=>zD
 | .pow=>z8
noncomputable def fh (p:Int->Int->Bool):D->D->M D
 | .int i,.int j=>pure (.bl (p i j))
 | _,_=>bad
noncomputable def inA (neg:Bool) (a:D) (ys:List D):M D:=fun S=>match inL S a ys with
 | some k=>.ok (.bl (k != neg)) S
 | none=>.bad
noncomputable def inM (neg:Bool) (a b:D):M D:=do
 let ys <- items b
 inA neg a ys
noncomputable def dR:D->D->Bool
 | .bl _,.int _=>false
 | .int _,.bl _=>false
 | a,b=>match a.kd,b.kd with
  | .flat,.flat=>true
  | .tup,.tup=>true
  | .list,.list=>true
  | _,_=>false
noncomputable def cmD:Cm->D->D->M D
 | .lt=>fh fun i j=>decide (i < j)
 | .le=>fh fun i j=>decide (i<=j)
 | .gt=>fh fun i j=>decide (j < i)
 | .ge=>fh fun i j=>decide (j<=i)
 | .eq=>fun a b=>do pure (.bl (<- eqM a b))
 | .ne=>fun a b=>guard (dR a b) (do pure (.bl (!(<- eqM a b))))
 | .isin=>inM false
 | .b7=>inM true
noncomputable def truth:D->M Bool
 | .bl b=>pure b
 | .non=>pure false
 | .int i=>pure (i != 0)
 | .tup ds=>pure (!ds.isEmpty)
 | .loc l=>do
  let xs <- items (.loc l)
  pure (!xs.isEmpty)
 | .fro ds=>pure (!ds.isEmpty)
 | _=>bad
noncomputable def ixN (n:Nat) (i:Int):Option Nat:=if 0<=i then (if i < n then some i.toNat else none) else if -(n:Int)<=i then some (i+n).toNat else none
noncomputable def atI (xs:List D) (i:Int):Option D:=(ixN xs.length i).bind fun j=>xs[j]?
noncomputable def ixD (a i:D):M D:=match i with
 | .int j=>do
  let xs <- items a
  opt (atI xs j)
 | _=>bad
noncomputable def fk:D->D->D->M D
 | .loc l,.int k,d=>aW l fun xs=>match ixN xs.length k with
  | some j=>put l (.lst (xs.set j d))
  | none=>bad
 | _,_,_=>bad
noncomputable def sIx (n d:Nat):Option Int->Nat
 | none=>d
 | some v=>if v < 0 then (v+(n:Int)).toNat else min v.toNat n
noncomputable def cut (xs:List D) (lo hi:Option Int):List D:=(xs.drop (sIx xs.length 0 lo)).take (sIx xs.length xs.length hi - sIx xs.length 0 lo)
noncomputable def slD (a:D) (lo hi:Option Int):M D:=match a with
 | .tup xs=>pure (.tup (cut xs lo hi))
 | .loc l=>do
  let xs <- items (.loc l)
  alloc (.lst (cut xs lo hi))
 | .fro xs=>alloc (.lst (cut xs lo hi))
 | _=>bad
noncomputable def allInts:List D->Option (List Int)
 | []=>some []
 | .int i::r=>(allInts r).map (i :: ·)
 | _=>none
noncomputable def cM:List D->Option (List Bool)
 | []=>some []
 | .bl i::r=>(cM r).map (i :: ·)
 | _=>none
noncomputable def ins (i:Int):List Int->List Int
 | []=>[i]
 | j::r=>if i<=j then i::j::r else j::ins i r
noncomputable def cV:List Int->List Int
 | []=>[]
 | i::r=>ins i (cV r)
abbrev Sub:=Str->Str->Bool
noncomputable def eZ (sub:Sub) (S:af):D->Ty->Option Bool
 | .non,t=>match t with|.cls _=>none|_=>some false
 | .bl _,t=>match t with|.cls _=>none|.int=>some true|.bool=>some true|_=>some false
 | .int _,t=>match t with|.cls _=>none|.int=>some true|_=>some false
 | .str _,t=>match t with|.cls _=>none|.str=>some true|_=>some false
 | .tup _,t=>match t with|.cls _=>none|.tuple=>some true|_=>some false
 | .loc l,t=>match S[l]?,t with
  | _,.cls _=>none
  | some (.lst _),.list=>some true
  | some (.lst _),_=>some false
  | some (.dct _),.dict=>some true
  | some (.dct _),_=>some false
  | none,_=>none
 | .fro _,t=>match t with|.cls _=>none|.list=>some true|_=>some false
 | .exn c,t=>match t with|.cls d=>some (sub c d)|_=>none
noncomputable def lexLe:List Int->List Int->Bool
 | [],_=>true
 | _::_,[]=>false
 | a::r,b::q=>if a < b then true else if a=b then lexLe r q else false
noncomputable def bU (t:List Int):List (List Int)->List (List Int)
 | []=>[t]
 | u::r=>if t=u then u::r else if lexLe t u then t::u::r else u::bU t r
noncomputable def aD:List (List Int)->List (List Int)
 | []=>[]
 | t::r=>bU t (aD r)
noncomputable def tups:List D->Option (List (List Int))
 | []=>some []
 | .tup ds::r=>match allInts ds,tups r with
  | some t,some q=>some (t::q)
  | _,_=>none
 | _=>none
noncomputable def rng (lo hi step:Int):List Int :=
 if 0 < step then (List.range ((hi - lo+step - 1) / step).toNat).map fun (k:Nat)=>lo+k * step
 else if step < 0 then (List.range ((lo - hi - step - 1) / (-step)).toNat).map fun (k:Nat)=>lo+k * step
 else []
noncomputable def near (i:Int):Bool:=decide (-(2 ^ 62)<=i/\i < 2 ^ 62)
noncomputable def bH:List D->Option (List Int)
 | [.int j]=>if near j then some (rng 0 j 1) else none
 | [.int i,.int j]=>if near i&&near j then some (rng i j 1) else none
 | [.int i,.int j,.int k]=>if near i&&near j&&decide (k=-1) then some (rng i j k) else none
 | _=>none
noncomputable def Ac:List Int->M D
 | []=>bad
 | i::r=>pure (.int (r.foldl min i))
noncomputable def yU:List Int->M D
 | []=>bad
 | i::r=>pure (.int (r.foldl max i))
noncomputable def min2:D->D->M D
 | .int i,.int j=>pure (.int (if j < i then j else i))
 | _,_=>bad
noncomputable def max2:D->D->M D
 | .int i,.int j=>pure (.int (if j > i then j else i))
 | _,_=>bad
noncomputable def toInt:D->M D
 | .int i=>pure (.int i)
 | .bl b=>pure (.int (i2b b))
 | _=>bad
noncomputable def Dg:D->M D
 | .int i=>pure (.int (if i < 0 then -i else i))
 | _=>bad
noncomputable def fU (sub:Sub) (t:Ty) (a:D):M D:=fun S=>match eZ sub S a t with
 | some k=>.ok (.bl k) S
 | none=>.bad
noncomputable def EO:D->M D
 | .tup ds=>pure (.tup ds)
 | a=>do pure (.tup (<- items a))
noncomputable def i7:Option (List (List Int))->M D
 | some ts=>guard (decide (ts.length < 64)&&decide ts.Nodup&&ts.all fun t=>!t.isEmpty) (alloc (.lst ((aD ts).map fun t=>.tup (t.map .int))))
 | none=>bad
noncomputable def qI (r:M D):Option (List Int)->M D
 | some is=>guard (decide (is.length < 64)) (alloc (.lst ((cV is).map .int)))
 | none=>r
noncomputable def gk (ds:List D):M D:=qI (i7 (tups ds)) (allInts ds)
noncomputable def bi1 (sub:Sub):Bi->D->M D
 | .len,a=>do
  let ds <- items a
  pure (.int ds.length)
 | .inst t,a=>fU sub t a
 | .all,a=>do
  let ds <- items a
  let bs <- opt (cM ds)
  pure (.bl (bs.all id))
 | .any,a=>do
  let ds <- items a
  let bs <- opt (cM ds)
  pure (.bl (bs.any id))
 | .sum,a=>do
  let ds <- items a
  let is <- opt (allInts ds)
  pure (.int is.sum)
 | .min,a=>do
  let ds <- items a
  let is <- opt (allInts ds)
  Ac is
 | .max,a=>do
  let ds <- items a
  let is <- opt (allInts ds)
  yU is
 | .sorted,a=>do
  let ds <- items a
  gk ds
 | .sortedSet,a=>do
  let ds <- cK a
  let ts <- opt (tups ds)
  guard (decide (ts.length<=18)&&ts.all fun t=>!t.isEmpty) (alloc (.lst ((aD ts).map fun t=>.tup (t.map .int))))
 | .list,a=>do
  let ds <- items a
  alloc (.lst ds)
 | .tuple,a=>do
  let ds <- items a
  pure (.tup ds)
 | .int,a=>toInt a
 | .abs,a=>Dg a
 | .rangeT,_=>bad
 | .rangeL,_=>bad
noncomputable def bi2:Bi->D->D->M D
 | .min=>min2
 | .max=>max2
 | _=>fun _ _=>bad
noncomputable def biR:Bi->List D->M D
 | .rangeT,as=>do
  let is <- opt (bH as)
  guard (fits is.length) (pure (.tup (is.map .int)))
 | .rangeL,as=>do
  let is <- opt (bH as)
  guard (fits is.length) (alloc (.lst (is.map .int)))
 | _,_=>bad
noncomputable def Bi.isR:Bi->Bool
 | .rangeT=>true
 | .rangeL=>true
 | _=>false
noncomputable def biD (sub:Sub) (b:Bi) (as:List D):M D:=match b.isR with
 | true=>biR b as
 | false=>match as with
  | [a]=>bi1 sub b a
  | [a,c]=>bi2 b a c
  | _=>bad
noncomputable def uS:D->D->M D
 | .loc l,d=>aW l fun ds=>guard (iw ds.length) (put l (.lst (ds++[d])))
 | _,_=>bad
noncomputable def DX:D->D->M D
 | .loc l,.loc k=>aW l fun ds=>aW k fun es=>guard (fits (ds.length+es.length)) (put l (.lst (ds++es)))
 | _,_=>bad
noncomputable def meD (m:Me) (o:D) (as:List D):M D:=match as with
 | [d]=>match m with
  | .append=>uS o d
  | .extend=>DX o d
 | _=>bad
inductive Tg where
 | one (i:Nat)|many (is:List Nat)
abbrev Sg:=List (Option D)
noncomputable def Tg.has:Tg->Nat->Bool
 | .one i,j=>i==j
 | .many is,j=>is.contains j
noncomputable def bQ:List Nat->List D->Sg->Sg
 | i::is,d::ds,σ=>bQ is ds (σ.set i (some d))
 | _,_,σ=>σ
noncomputable def aM:Tg->D->Sg->M Sg
 | .one i,d,σ=>pure (σ.set i (some d))
 | .many is,.tup ds,σ=>guard (decide (ds.length=is.length)) (pure (bQ is ds σ))
 | _,_,_=>bad
inductive E where
 | v (i:Nat)|c (d:D)|bin (op:Op2) (a b:E)|cmp (op:Cm) (a b:E)|chn (o o':Cm) (a b c:E)|and (a b:E)|or (a b:E)|not (a:E)|neg (a:E)|isN (a:E)|notN (a:E)|ite (c a b:E)
 | nl|cs (a r:E)|tup (es:E)|lst (es:E)|ix (a i:E)|sl (a lo hi:E)|call (f:Str) (es:E)|bi (b:Bi) (es:E)|me (m:Me) (o es:E)
 | iSeq (a:E)|iEnum (a:E)|iRng (es:E)|iZip (es:E)|comp (k:Nat) (elt:E) (t:Tg) (it ife:E)
structure Src where
 its:List D
 l:Option Nat
 raw:List D
noncomputable def aC (s:Src):M Unit:=match s.l with
 | none=>pure ()
 | some l=>fun S=>match listAt S l with
  | some ds=>guard (decide (ds=s.raw)) (pure ()) S
  | none=>.bad
noncomputable def srcOf:D->M Src
 | .tup ds=>pure ⟨ds,none,ds⟩
 | .loc l=>do
  let ds <- items (.loc l)
  pure ⟨ds,some l,ds⟩
 | .fro ds=>pure ⟨ds,none,ds⟩
 | _=>bad
noncomputable def bR:List D->List D->List D
 | x::r,y::q=>.tup [x,y]::bR r q
 | _,_=>[]
noncomputable def fj:List D->M Src
 | [.tup xs,.tup ys]=>pure ⟨bR xs ys,none,[]⟩
 | _=>bad
noncomputable def num (k:Nat):List D->List D
 | []=>[]
 | d::r=>.tup [.int k,d]::num (k+1) r
noncomputable def bq (s:Src) (f:D->M (Option D)):List D->M (List D)
 | []=>do
  aC s
  pure []
 | d::ds=>do
  aC s
  let y <- f d
  let ys <- bq s f ds
  pure (match y with|some y=>y::ys|none=>ys)
noncomputable def fR:D->M (Option Int)
 | .int i=>pure (some i)
 | _=>bad
noncomputable def D.eG:D->Bool
 | .loc _=>true
 | _=>false
noncomputable def bg (σ:Sg) (i:Nat):M D:=match σ[i]? with
 | some (some d)=>pure d
 | _=>bad
noncomputable def E.bC:E->Bool
 | .nl=>true
 | _=>false
section
variable (sub:Sub) (cf:Str->List D->M D)
mutual
noncomputable def ev:E->Sg->M D
 | .v i,σ=>bg σ i
 | .c d,_=>pure d
 | .bin op a b,σ=>do
  let x <- ev a σ
  let y <- ev b σ
  opD op x y
 | .cmp op a b,σ=>do
  let x <- ev a σ
  let y <- ev b σ
  cmD op x y
 | .chn o o' a b c,σ=>do
  let x <- ev a σ
  let y <- ev b σ
  match <- cmD o x y with
   | .bl true=>do
    let z <- ev c σ
    cmD o' y z
   | .bl false=>pure (.bl false)
   | _=>bad
 | .and a b,σ=>do
  match <- ev a σ with
   | .bl true=>ev b σ
   | .bl false=>pure (.bl false)
   | _=>bad
 | .or a b,σ=>do
  match <- ev a σ with
   | .bl true=>pure (.bl true)
   | .bl false=>ev b σ
   | _=>bad
 | .not a,σ=>do
  match <- ev a σ with
   | .bl b=>pure (.bl (!b))
   | _=>bad
 | .neg a,σ=>do
  match <- ev a σ with
   | .int i=>pure (.int (-i))
   | _=>bad
 | .isN a,σ=>do
  let x <- ev a σ
  pure (.bl (decide (x=.non)))
 | .notN a,σ=>do
  let x <- ev a σ
  pure (.bl (!decide (x=.non)))
 | .ite c a b,σ=>do
  if <- evT c σ then ev a σ else ev b σ
 | .tup es,σ=>do
  let ds <- evs es σ
  guard (fits ds.length) (pure (.tup ds))
 | .lst es,σ=>do
  let ds <- evs es σ
  guard (fits ds.length) (alloc (.lst ds))
 | .ix a i,σ=>do
  let x <- ev a σ
  let y <- ev i σ
  ixD x y
 | .sl a lo hi,σ=>do
  let x <- ev a σ
  let l <- (if lo.bC then pure none else do fR (<- ev lo σ))
  let h <- (if hi.bC then pure none else do fR (<- ev hi σ))
  slD x l h
 | .call f es,σ=>do
  let ds <- evs es σ
  cf f ds
 | .bi b es,σ=>do
  let ds <- evs es σ
  biD sub b ds
 | .me m o es,σ=>do
  let x <- ev o σ
  guard x.eG (do
   let ds <- evs es σ
   meD m x ds)
 | .comp k elt t it ife,σ=>do
  let s <- evI it σ
  let ys <- quiet (bq s (fun d=>do
   let σ' <- aM t d (σ++List.replicate k none)
   if <- (if ife.bC then pure true else evT ife σ') then do
    let y <- ev elt σ'
    pure (some y)
   else pure none) s.its)
  guard (fits ys.length) (alloc (.lst ys))
 | .nl,_=>bad
 | .cs _ _,_=>bad
 | .iSeq _,_=>bad
 | .iEnum _,_=>bad
 | .iRng _,_=>bad
 | .iZip _,_=>bad
noncomputable def evT:E->Sg->M Bool
 | .and a b,σ=>do
  if <- evT a σ then evT b σ else pure false
 | .or a b,σ=>do
  if <- evT a σ then pure true else evT b σ
 | .not a,σ=>do
  let b <- evT a σ
  pure (!b)
 | .v i,σ=>bg σ i>>=truth
 | .c d,_=>pure d>>=truth
 | .cmp op a b,σ=>do
  let x <- ev a σ
  let y <- ev b σ
  truth (<- cmD op x y)
 | .chn o o' a b c,σ=>do
  let x <- ev a σ
  let y <- ev b σ
  if <- truth (<- cmD o x y) then do
   let z <- ev c σ
   truth (<- cmD o' y z)
  else pure false
 | .isN a,σ=>do
  let x <- ev a σ
  pure (decide (x=.non))
 | .notN a,σ=>do
  let x <- ev a σ
  pure (!decide (x=.non))
 | .ix a i,σ=>(do
  let x <- ev a σ
  let y <- ev i σ
  ixD x y)>>=truth
 | .call f es,σ=>(do
  let ds <- evs es σ
  cf f ds)>>=truth
 | .bi b es,σ=>(do
  let ds <- evs es σ
  biD sub b ds)>>=truth
 | _,_=>bad
noncomputable def evs:E->Sg->M (List D)
 | .nl,_=>pure []
 | .cs a r,σ=>do
  let x <- ev a σ
  let xs <- evs r σ
  pure (x::xs)
 | _,_=>bad
noncomputable def evI:E->Sg->M Src
 | .iSeq a,σ=>do srcOf (<- ev a σ)
 | .iEnum a,σ=>do
  let s <- srcOf (<- ev a σ)
  pure { s with its:=num 0 s.its }
 | .iRng es,σ=>do
  let is <- opt (bH (<- evs es σ))
  pure ⟨is.map .int,none,[]⟩
 | .iZip es,σ=>do fj (<- evs es σ)
 | _,_=>bad
end
end
inductive S where
 | ret (e:E)|retN|set (t:Tg) (e:E)|setIx (o i e:E)|ex (e:E)|ite (c:E) (a b:S)|forS (t:Tg) (it:E) (b:S)|whl (c:E) (b:S)|rais (c:Str)|tryS (b:S) (c:Str) (x:Option Nat) (h:S)
 | skip|seq (a b:S)|brk|cont
inductive Fl where
 | nx (σ:Sg)|rt (d:D)|bk (σ:Sg)|ct (σ:Sg)
noncomputable def forL (s:Src) (f:D->Sg->M Fl):List D->Sg->M Fl
 | [],σ=>do
  aC s
  pure (.nx σ)
 | d::ds,σ=>do
  aC s
  match <- f d σ with
   | .nx σ'=>forL s f ds σ'
   | .ct σ'=>forL s f ds σ'
   | .bk σ'=>pure (.nx σ')
   | .rt d=>pure (.rt d)
noncomputable def kr (c:Sg->M Bool) (f:Sg->M Fl):Nat->Sg->M Fl
 | 0,_=>bad
 | n+1,σ=>do
  if <- c σ then do
   match <- f σ with
    | .nx σ'=>kr c f n σ'
    | .ct σ'=>kr c f n σ'
    | .bk σ'=>pure (.nx σ')
    | .rt d=>pure (.rt d)
  else pure (.nx σ)
noncomputable def tD:Nat:=1000000
section
variable (sub:Sub) (cf:Str->List D->M D)
noncomputable def exec:S->Sg->M Fl
 | .ret e,σ=>do
  let d <- ev sub cf e σ
  pure (.rt d)
 | .retN,_=>pure (.rt .non)
 | .set t e,σ=>do
  let d <- ev sub cf e σ
  let σ' <- aM t d σ
  pure (.nx σ')
 | .setIx o i e,σ=>do
  let d <- ev sub cf e σ
  let a <- ev sub cf o σ
  let k <- ev sub cf i σ
  let _ <- fk a k d
  pure (.nx σ)
 | .ex e,σ=>do
  let _ <- ev sub cf e σ
  pure (.nx σ)
 | .ite c a b,σ=>do
  if <- evT sub cf c σ then exec a σ else exec b σ
 | .forS t it b,σ=>quiet (do
  let s <- evI sub cf it σ
  forL s (fun d σ=>do
   let σ' <- aM t d σ
   exec b σ') s.its σ)
 | .whl c b,σ=>quiet (kr (evT sub cf c) (exec b) tD σ)
 | .rais c,_=>fun S=>.exc c S
 | .tryS b c x h,σ=>fun S=>match exec b σ S with
  | .exc c' S'=>if sub c' c then (match x with
    | none=>exec h σ S'
    | some i=>exec h (σ.set i (some (.exn c'))) S') else .exc c' S'
  | r=>r
 | .skip,σ=>pure (.nx σ)
 | .seq a b,σ=>do
  match <- exec a σ with
   | .nx σ'=>exec b σ'
   | f=>pure f
 | .brk,σ=>pure (.bk σ)
 | .cont,σ=>pure (.ct σ)
end
mutual
noncomputable def D.low (n:Nat):D->Bool
 | .tup ds=>D.lows n ds
 | .fro ds=>D.lows n ds
 | .loc l=>decide (l < n)
 | _=>true
noncomputable def D.lows (n:Nat):List D->Bool
 | []=>true
 | d::r=>D.low n d&&D.lows n r
end
noncomputable def Cell.low (n:Nat):Cell->Bool
 | .lst ds=>D.lows n ds
 | .dct _=>false
noncomputable def leave (S:af) (d:D) (S':af):Res D :=
 if S'.take S.length=S then
  if d.low S.length then .ok d S
  else match d with
   | .loc l=>match S'[l]? with
    | some c=>if c.low S.length then .ok (.loc S.length) (S++[c]) else .ok d S'
    | none=>.ok d S'
   | _=>.ok d S'
 else .ok d S'
structure Fn where
 par:Nat
 names:Nat
 body:S
abbrev Prg:=List (Str × Fn)
noncomputable def gq (S:af):Res Fl->Res D
 | .ok (.rt d) S'=>leave S d S'
 | .ok (.nx _) S'=>leave S .non S'
 | .ok (.bk _) _=>.bad
 | .ok (.ct _) _=>.bad
 | .exc c S'=>if S'.take S.length=S then .exc c S else .exc c S'
 | .bad=>.bad
noncomputable def frame (F:Fn) (ds:List D):Sg:=ds.map some++List.replicate (F.names - ds.length) none
noncomputable def aj (sub:Sub) (P:Prg):Nat->Str->List D->M D
 | 0,_,_=>bad
 | n+1,f,ds=>fun S=>match P.lookup f with
  | none=>.bad
  | some F=>if ds.length=F.par then gq S (exec sub (aj sub P n) F.body (frame F ds) S) else .bad
theorem nj {sub:Sub} {P:Prg} {n:Nat} {f:Str} {ds:List D} {S:af} {F:Fn} (h:P.lookup f=some F) (hl:ds.length=F.par):aj sub P (n+1) f ds S=gq S (exec sub (aj sub P n) F.body (frame F ds) S):=by
 show (match P.lookup f with|none=>Res.bad|some F=>if ds.length=F.par then gq S (exec sub (aj sub P n) F.body (frame F ds) S) else .bad)=_
 rw [h]; simp only [hl,if_true]
theorem zU {sub:Sub} {P:Prg} {n:Nat} {f:Str} {ds:List D} {S:af} {F:Fn} (h:P.lookup f=some F) (hl:ds.length≠F.par):aj sub P (n+1) f ds S=.bad:=by
 show (match P.lookup f with|none=>Res.bad|some F=>if ds.length=F.par then gq S (exec sub (aj sub P n) F.body (frame F ds) S) else .bad)=_
 rw [h]; simp only [hl,if_false]
end EV

namespace EV
open PySem PySem.Spec PyProof.Rows L2
theorem Paired.get {α β:Type} {F:α->β->Prop}:∀ {xs:List α} {ys:List β} {i:Nat} {x:α},Paired F xs ys->xs[i]?=some x->∃ y,ys[i]?=some y/\F x y
 | _,_,_,_,.nil,e=>by simp at e
 | _,_,0,_,.cons r _,e=>by simp at e; subst e; exact ⟨_,rfl,r⟩
 | _,_,i+1,x,.cons _ t,e=>by
  obtain ⟨u,h1,h2⟩:=Paired.get (i:=i) (x:=x) t (by simpa using e)
  exact ⟨u,by simpa using h1,h2⟩
theorem Paired.get' {α β:Type} {F:α->β->Prop} {xs:List α} {ys:List β} {i:Nat} {y:β} (p:Paired F xs ys) (e:ys[i]?=some y):∃ x,xs[i]?=some x/\F x y:=by
 have hl:=p.length
 have hi:i < xs.length:=by rw [hl]; exact (List.getElem?_eq_some_iff.mp e).1
 obtain ⟨y',e',f⟩:=Paired.get p (List.getElem?_eq_getElem hi)
 rw [e] at e'; cases e'
 exact ⟨_,List.getElem?_eq_getElem hi,f⟩
theorem Paired.step {α β:Type} {F:α->β->Prop} {ds:List α} {vs:List β} {n:Nat} (h:Paired F ds vs) (hl:ds.length=n+1):∃ d r v q,ds=d::r/\vs=v::q/\F d v/\Paired F r q/\r.length=n:=by
 cases h with
 | nil=>cases hl
 | cons f t=>exact ⟨_,_,_,_,rfl,rfl,f,t,Nat.succ.inj hl⟩
theorem Paired.last {α β:Type} {F:α->β->Prop} {ds:List α} {vs:List β} (h:Paired F ds vs) (hl:ds.length=0):ds=[]/\vs=[]:=by
 cases h with
 | nil=>exact ⟨rfl,rfl⟩
 | cons f t=>cases hl
theorem Paired.app {α β:Type} {F:α->β->Prop}:∀ {a c:List α} {b d:List β},Paired F a b->Paired F c d->Paired F (a++c) (b++d)
 | _,_,_,_,.nil,s=>s
 | _,_,_,_,.cons r t,s=>.cons r (Paired.app t s)
theorem Paired.tak {α β:Type} {F:α->β->Prop}:∀ {a:List α} {b:List β} (n:Nat),Paired F a b->Paired F (a.take n) (b.take n)
 | _,_,0,_=>.nil
 | _,_,_+1,.nil=>.nil
 | _,_,n+1,.cons r t=>.cons r (Paired.tak n t)
theorem Paired.drp {α β:Type} {F:α->β->Prop}:∀ {a:List α} {b:List β} (n:Nat),Paired F a b->Paired F (a.drop n) (b.drop n)
 | _,_,0,r=>r
 | _,_,_+1,.nil=>.nil
 | _,_,n+1,.cons _ t=>Paired.drp n t
theorem Paired.imp {α β:Type} {F G:α->β->Prop} (f:∀ a b,F a b->G a b):∀ {l₁:List α} {l₂:List β},Paired F l₁ l₂->Paired G l₁ l₂
 | _,_,.nil=>.nil
 | _,_,.cons r t=>.cons (f _ _ r) (Paired.imp f t)
theorem Paired.rep {α β:Type} {F:α->β->Prop} {a:List α} {b:List β} (h:Paired F a b):∀ k:Nat,Paired F (List.replicate k a).flatten (List.replicate k b).flatten
 | 0=>.nil
 | k+1=>by
  simp only [List.replicate_succ,List.flatten_cons]
  exact Paired.app h (Paired.rep h k)
theorem Paired.of_get {α β:Type} {F:α->β->Prop}:∀ {xs:List α} {ys:List β},xs.length=ys.length->(∀ (i:Nat) x y,xs[i]?=some x->ys[i]?=some y->F x y)->Paired F xs ys
 | [],[],_,_=>.nil
 | [],_::_,h,_=>by simp at h
 | _::_,[],h,_=>by simp at h
 | x::xs,y::ys,h,f=>.cons (f 0 x y rfl rfl) (Paired.of_get (by simpa using h) fun i a b e1 e2=>f (i+1) a b (by simpa using e1) (by simpa using e2))
structure Gx where
 K:PySem.W.Frag
noncomputable def Fro (K:PySem.W.Frag) (H:Hp) (a:Addr) (xs:List V):Prop:=(∃ o,H a=some (.frz o (.lst xs)))\/∀ H:Hp,SqL K H a xs
theorem Fro.sq {K:PySem.W.Frag} {H:Hp} {a:Addr} {xs:List V} (h:Fro K H a xs):SqL K H a xs:=by
 rcases h with ⟨o,h⟩|h
 ·exact .inl (.inr ⟨o,h⟩)
 ·exact h H
inductive Rep (Γ:Gx) (ι:List Addr) (H:Hp):D->V->Prop
 | non:Rep Γ ι H .non .non
 | bl (b:Bool):Rep Γ ι H (.bl b) (.bl b)
 | int (i:Int):Rep Γ ι H (.int i) (.int i)
 | str (x:Str):Rep Γ ι H (.str x) (.str x)
 | tup {ds:List D} {a:Addr} {xs:List V}:SqT Γ.K H a xs->ds.length=xs.length->(∀ (i:Nat) d v,ds[i]?=some d->xs[i]?=some v->Rep Γ ι H d v)->Rep Γ ι H (.tup ds) (.ref a)
 | fro {ds:List D} {a:Addr} {xs:List V}:Fro Γ.K H a xs->ds.length=xs.length->(∀ (i:Nat) d v,ds[i]?=some d->xs[i]?=some v->Rep Γ ι H d v)->Rep Γ ι H (.fro ds) (.ref a)
 | loc {l:Nat} {a:Addr}:ι[l]?=some a->Rep Γ ι H (.loc l) (.ref a)
abbrev ay (Γ:Gx) (ι:List Addr) (H:Hp):List D->List V->Prop:=Paired (Rep Γ ι H)
theorem Rep.ek {Γ:Gx} {ι:List Addr} {H:Hp} {ds:List D} {a:Addr} {xs:List V} (h:SqT Γ.K H a xs) (p:ay Γ ι H ds xs):Rep Γ ι H (.tup ds) (.ref a) :=
 .tup h p.length fun i d v e1 e2=>by
  obtain ⟨y,e,f⟩:=Paired.get p e1
  rw [e2] at e; cases e; exact f
theorem Rep.er {Γ:Gx} {ι:List Addr} {H:Hp} {ds:List D} {v:V} (h:Rep Γ ι H (.fro ds) v):∃ a xs,v=.ref a/\Fro Γ.K H a xs/\ay Γ ι H ds xs:=by
 cases h with
 | fro h1 h2 h3=>exact ⟨_,_,rfl,h1,Paired.of_get h2 h3⟩
theorem Rep.bh {Γ:Gx} {ι:List Addr} {H:Hp} {ds:List D} {v:V} (h:Rep Γ ι H (.tup ds) v):∃ a xs,v=.ref a/\SqT Γ.K H a xs/\ay Γ ι H ds xs:=by
 cases h with
 | tup h1 h2 h3=>exact ⟨_,_,rfl,h1,Paired.of_get h2 h3⟩
structure Ext (ι ι':List Addr) (H H':Hp):Prop where
 pre:ι <+: ι'
 tup:∀ a xs,H a=some (.tup xs)->H' a=some (.tup xs)
 frz:∀ a o u,H a=some (.frz o u)->H' a=some (.frz o u)
 oth:∀ a o,H a=some o->a ∉ ι->H' a=some o
 fresh:∀ a∈ι',a ∉ ι->H a=none
section
variable {ι ι1 ι2:List Addr} {H H1 H2:Hp}
theorem Ext.refl:Ext ι ι H H:=⟨List.prefix_refl _,fun _ _ h=>h,fun _ _ _ h=>h,fun _ _ h _=>h,fun _ h n=>absurd h n⟩
theorem Ext.trans (a:Ext ι ι1 H H1) (b:Ext ι1 ι2 H1 H2):Ext ι ι2 H H2 where
 pre:=a.pre.trans b.pre
 tup:=fun x xs h=>b.tup x xs (a.tup x xs h)
 frz:=fun x o u h=>b.frz x o u (a.frz x o u h)
 oth:=fun x o h n=>b.oth x o (a.oth x o h n) fun m=>by
  have:=a.fresh x m n
  rw [h] at this; cases this
 fresh:=fun x m n=>by
  by_cases h1:x∈ι1
  ·exact a.fresh x h1 n
  ·have:=b.fresh x m h1
   cases q:H x with
   | none=>rfl
   | some o=>rw [a.oth x o q n] at this; cases this
theorem Ext.laid {p:Addr} {o:HO} (hp:H p=none):Ext ι ι H (upd H p o) :=
 ⟨List.prefix_refl _,fun a xs h=>by rw [aE (aV h hp)]; exact h,fun a o u h=>by rw [aE (aV h hp)]; exact h,fun a o h _=>by rw [aE (aV h hp)]; exact h,fun _ h n=>absurd h n⟩
theorem Ext.more {p:Addr} {o:HO} (hp:H p=none):Ext ι (ι++[p]) H (upd H p o) :=
 ⟨List.prefix_append _ _,fun a xs h=>by rw [aE (aV h hp)]; exact h,fun a o u h=>by rw [aE (aV h hp)]; exact h,fun a o h _=>by rw [aE (aV h hp)]; exact h,fun a h n=>by
  rcases List.mem_append.mp h with z|z
  ·exact absurd z n
  ·have:a=p:=by simpa using z
   rw [this]; exact hp⟩
theorem fH {α:Type} {xs ys:List α} (h:xs <+: ys) {i:Nat} {x:α} (e:xs[i]?=some x):ys[i]?=some x:=by
 obtain ⟨t,rfl⟩:=h
 rw [List.getElem?_append_left (List.getElem?_eq_some_iff.mp e).1]
 exact e
end
section
variable {Γ:Gx} {ι ι1:List Addr} {H H1:Hp}
theorem Ext.sqT (e:Ext ι ι1 H H1) {a:Addr} {xs:List V} (h:SqT Γ.K H a xs):SqT Γ.K H1 a xs:=by
 rcases h with (h|⟨o,h⟩)|h
 ·exact .inl (.inl (e.tup _ _ h))
 ·exact .inl (.inr ⟨o,e.frz _ _ _ h⟩)
 ·exact .inr h
theorem Ext.fro (e:Ext ι ι1 H H1) {a:Addr} {xs:List V} (h:Fro Γ.K H a xs):Fro Γ.K H1 a xs:=by
 rcases h with ⟨o,h⟩|h
 ·exact .inl ⟨o,e.frz _ _ _ h⟩
 ·exact .inr h
theorem Rep.ext (e:Ext ι ι1 H H1) {d:D} {v:V} (h:Rep Γ ι H d v):Rep Γ ι1 H1 d v:=by
 induction h with
 | non=>exact .non
 | bl b=>exact .bl b
 | int i=>exact .int i
 | str x=>exact .str x
 | tup h1 h2 h3 ih=>exact .tup (e.sqT h1) h2 ih
 | fro h1 h2 h3 ih=>exact .fro (e.fro h1) h2 ih
 | loc h=>exact .loc (fH e.pre h)
theorem ay.ext (e:Ext ι ι1 H H1) {ds:List D} {vs:List V} (h:ay Γ ι H ds vs):ay Γ ι1 H1 ds vs:=Paired.imp (fun _ _ r=>Rep.ext e r) h
end
noncomputable def g8 (Γ:Gx) (ι:List Addr) (H:Hp) (a:Addr):Cell->Prop
 | .lst ds=>∃ xs,H a=some (.lst xs)/\ay Γ ι H ds xs
 | .dct _=>False
structure av (Γ:Gx) (ι:List Addr) (H:Hp) (S:af):Prop where
 len:ι.length=S.length
 nd:ι.Nodup
 cell:∀ (l:Nat) c,S[l]?=some c->∃ a,ι[l]?=some a/\g8 Γ ι H a c
structure aP (Γ:Gx) (ι:List Addr) (H:Hp) (σ:L2.St) (σd:Sg):Prop where
 len:σ.length=σd.length
 var:∀ (i:Nat) d,σd[i]?=some (some d)->∃ v,σ[i]?=some (some v)/\Rep Γ ι H d v
theorem aP.ext {Γ:Gx} {ι ι1:List Addr} {H H1:Hp} {σ:L2.St} {σd:Sg} (e:Ext ι ι1 H H1) (h:aP Γ ι H σ σd):aP Γ ι1 H1 σ σd :=
 ⟨h.len,fun i d q=>let ⟨v,a,b⟩:=h.var i d q; ⟨v,a,b.ext e⟩⟩
abbrev XW:=Str->af->List Addr->Hp->Prop
noncomputable def Out {α:Type} (Γ:Gx) (xw:XW) (ι:List Addr) (H:Hp) (r:Res α) (k:α->af->List Addr->Hp->Prop):Prop:=match r with
 | .ok a S'=>∀ ι' H',Ext ι ι' H H'->av Γ ι' H' S'->k a S' ι' H'
 | .exc c S'=>∀ ι' H',Ext ι ι' H H'->av Γ ι' H' S'->xw c S' ι' H'
 | .bad=>False
section
variable {Γ:Gx} {xw:XW} {ι ι1:List Addr} {H H1:Hp} {α β:Type}
theorem Out.step {r:Res α} {k:α->af->List Addr->Hp->Prop} (h:Out Γ xw ι H r k) (e:Ext ι ι1 H H1):Out Γ xw ι1 H1 r k:=by
 cases r with
 | ok a S'=>exact fun ι' H' e' s'=>h ι' H' (e.trans e') s'
 | exc c S'=>exact fun ι' H' e' s'=>h ι' H' (e.trans e') s'
 | bad=>exact h
theorem Out.mono {r:Res α} {k k':α->af->List Addr->Hp->Prop} (h:Out Γ xw ι H r k) (f:∀ a S' ι' H',Ext ι ι' H H'->av Γ ι' H' S'->k a S' ι' H'->k' a S' ι' H'):Out Γ xw ι H r k':=by
 cases r with
 | ok a S'=>exact fun ι' H' e' s'=>f _ _ _ _ e' s' (h ι' H' e' s')
 | exc c S'=>exact h
 | bad=>exact h
theorem Out.bind {m:M α} {f:α->M β} {S:af} {k:β->af->List Addr->Hp->Prop} (h:Out Γ xw ι H ((m>>=f) S) k) :
  Out Γ xw ι H (m S) (fun a S' ι' H'=>av Γ ι' H' S'/\Ext ι ι' H H'/\Out Γ xw ι' H' (f a S') k):=by
 rw [b_] at h
 cases q:m S with
 | ok a S'=>rw [q] at h; exact fun ι' H' e' s'=>⟨s',e',Out.step h e'⟩
 | exc c S'=>rw [q] at h; exact h
 | bad=>rw [q] at h; exact h
theorem Out.here {a:α} {S:af} {k:α->af->List Addr->Hp->Prop} (h:Out Γ xw ι H (.ok a S) k) (s:av Γ ι H S):k a S ι H:=h ι H .refl s
theorem Out.quiet {m:M α} {S:af} {k:α->af->List Addr->Hp->Prop} (h:Out Γ xw ι H (quiet m S) k) (xw':XW):Out Γ xw' ι H (m S) k:=by
 unfold EV.quiet at h
 cases q:m S with
 | ok a S'=>rw [q] at h; exact h
 | exc c S'=>rw [q] at h; exact h.elim
 | bad=>rw [q] at h; exact h.elim
end
noncomputable def tM (Γ:Gx) (xw:XW) (m:Sg->M D):TE:=fun σ H Q=>∃ σd ι S,aP Γ ι H σ σd/\av Γ ι H S/\Out Γ xw ι H (m σd S) fun d _ ι' H'=>∀ v,Rep Γ ι' H' d v->Q v H'
noncomputable def tMT (Γ:Gx) (xw:XW) (m:Sg->M Bool):TT:=fun σ H Q=>∃ σd ι S,aP Γ ι H σ σd/\av Γ ι H S/\Out Γ xw ι H (m σd S) fun b _ _ H'=>Q b H'
noncomputable def tMA (Γ:Gx) (xw:XW) (m:Sg->M (List D)):TA:=fun σ H Q=>∃ σd ι S,aP Γ ι H σ σd/\av Γ ι H S/\Out Γ xw ι H (m σd S) fun ds _ ι' H'=>∀ vs,ay Γ ι' H' ds vs->Q vs H'
theorem PE.imp {X:Cx} {e:Expr} {t t':TE} (h:PE X e t) (f:∀ σ H Q,t' σ H Q->t σ H Q):PE X e t':=fun pins s σ H Q I q=>h pins s σ H Q I (f σ H Q q)
theorem PT.imp {X:Cx} {e:Expr} {t t':TT} (h:PT X e t) (f:∀ σ H Q,t' σ H Q->t σ H Q):PT X e t':=fun pins s σ H Q I q=>h pins s σ H Q I (f σ H Q q)
theorem PW.imp {X:Cx} {e:Expr} {t t':TT} (h:PW X e t) (f:∀ σ H Q,t' σ H Q->t σ H Q):PW X e t':=fun w pins s σ H Q I q=>h w pins s σ H Q I (f σ H Q q)
theorem PA.imp {X:Cx} {e:List Expr} {t t':TA} (h:PA X e t) (f:∀ σ H Q,t' σ H Q->t σ H Q):PA X e t':=fun p pins s σ H Q I q=>h p pins s σ H Q I (f σ H Q q)
theorem PS.imp {X:Cx} {e:Stmt} {t t':TS} (h:PS X e t) (f:∀ D σ H,t' D σ H->t D σ H):PS X e t':=fun pins s σ H D I q=>h pins s σ H D I (f D σ H q)
theorem PSs.imp {X:Cx} {e:List Stmt} {t t':TS} (h:PSs X e t) (f:∀ D σ H,t' D σ H->t D σ H):PSs X e t':=fun pins s σ H D I q=>h pins s σ H D I (f D σ H q)
section
variable {Γ:Gx} {xw:XW} {σ:L2.St} {H:Hp}
noncomputable def qh (Γ:Gx) (xw:XW) (f:D->M D) (x:V) (H:Hp) (Q:VK):Prop:=∃ ι S dx,av Γ ι H S/\Rep Γ ι H dx x/\Out Γ xw ι H (f dx S) fun d _ ι' H'=>∀ v,Rep Γ ι' H' d v->Q v H'
noncomputable def aX (Γ:Gx) (xw:XW) (f:D->D->M D) (x y:V) (H:Hp) (Q:VK):Prop :=
 ∃ ι S dx dy,av Γ ι H S/\Rep Γ ι H dx x/\Rep Γ ι H dy y/\Out Γ xw ι H (f dx dy S) fun d _ ι' H'=>∀ v,Rep Γ ι' H' d v->Q v H'
noncomputable def cA (Γ:Gx) (xw:XW) (f:List D->M D) (xs:List V) (H:Hp) (Q:VK):Prop:=∃ ι S ds,av Γ ι H S/\ay Γ ι H ds xs/\Out Γ xw ι H (f ds S) fun d _ ι' H'=>∀ v,Rep Γ ι' H' d v->Q v H'
theorem ED {ma:Sg->M D} {f:D->M D} {Q:VK} (h:tM Γ xw (fun σ=>ma σ>>=f) σ H Q):tM Γ xw ma σ H fun x H1=>qh Γ xw f x H1 Q:=by
 obtain ⟨σd,ι,S,he,hs,ho⟩:=h
 exact ⟨σd,ι,S,he,hs,ho.bind.mono fun d S' ι' H' _ _ ⟨s',e',o'⟩ v r=>⟨ι',S',d,s',r,o'⟩⟩
theorem j3 {ma mb:Sg->M D} {f:D->D->M D} {Q:VK} (h:tM Γ xw (fun σ=>ma σ>>=fun x=>mb σ>>=fun y=>f x y) σ H Q) :
  tM Γ xw ma σ H fun x H1=>tM Γ xw mb σ H1 fun y H2=>aX Γ xw f x y H2 Q:=by
 obtain ⟨σd,ι,S,he,hs,ho⟩:=h
 exact ⟨σd,ι,S,he,hs,ho.bind.mono fun d S' ι' H' _ _ ⟨s',e',o'⟩ v r=>⟨σd,ι',S',he.ext e',s',o'.bind.mono fun d2 S2 ι2 H2 _ _ ⟨s2,e2,o2⟩ v2 r2=>⟨ι2,S2,d,d2,s2,r.ext e2,r2,o2⟩⟩⟩
theorem pC {ma:Sg->M (List D)} {f:List D->M D} {Q:VK} (h:tM Γ xw (fun σ=>ma σ>>=f) σ H Q):tMA Γ xw ma σ H fun xs H1=>cA Γ xw f xs H1 Q:=by
 obtain ⟨σd,ι,S,he,hs,ho⟩:=h
 exact ⟨σd,ι,S,he,hs,ho.bind.mono fun d S' ι' H' _ _ ⟨s',e',o'⟩ v r=>⟨ι',S',d,s',r,o'⟩⟩
end
end EV

namespace EV
open PySem PySem.Spec PyProof.Rows L2
open PySem.SeqAt (EqAt RcAt)
section
variable {X:Cx} {Γ:Gx} {xw:XW} {pins:List (Addr × Obj)} {σ:L2.St} {H:Hp} {s:Shared} {ι:List Addr} {S:af}
theorem av.list (hS:av Γ ι H S) {d:D} {v:V} {ds:List D} (r:Rep Γ ι H d v) (h:asL S d=some ds):∃ a xs,v=.ref a/\SqL Γ.K H a xs/\ay Γ ι H ds xs:=by
 cases d with
 | loc l =>
  cases r with
  | loc q =>
   have h':listAt S l=some ds:=h
   unfold listAt at h'
   split at h'
   ·rename_i es e
    cases h'
    obtain ⟨a,ha,xs,hx,r⟩:=hS.cell l _ e
    rw [q] at ha; cases ha
    exact ⟨_,xs,rfl,.of hx,r⟩
   ·cases h'
 | fro es =>
  cases h
  obtain ⟨a,xs,rfl,hf,rs⟩:=r.er
  exact ⟨a,xs,rfl,hf.sq,rs⟩
 | _=>cases h
theorem av.lst (hS:av Γ ι H S) {l:Nat} {ds:List D} (h:S[l]?=some (.lst ds)):∃ a xs,ι[l]?=some a/\H a=some (.lst xs)/\ay Γ ι H ds xs:=by
 obtain ⟨a,ha,xs,hx,r⟩:=hS.cell l _ h
 exact ⟨a,xs,ha,hx,r⟩
theorem l5 {l:Nat}:items (.loc l) S=match listAt S l with|some ds=>.ok ds S|none=>.bad:=rfl
theorem jc {α:Type}:∀ {xs:List α} {i j:Nat} {x:α},xs.Nodup->xs[i]?=some x->xs[j]?=some x->i=j
 | [],_,_,_,_,h,_=>by simp at h
 | y::r,0,0,_,_,_,_=>rfl
 | y::r,0,j+1,x,nd,h1,h2=>by
  simp at h1 h2
  subst h1
  exact absurd (List.mem_of_getElem? h2) (List.nodup_cons.mp nd).1
 | y::r,i+1,0,x,nd,h1,h2=>by
  simp at h1 h2
  subst h2
  exact absurd (List.mem_of_getElem? h1) (List.nodup_cons.mp nd).1
 | y::r,i+1,j+1,x,nd,h1,h2=>by
  exact congrArg (· + 1) (jc (i:=i) (j:=j) (List.nodup_cons.mp nd).2 (by simpa using h1) (by simpa using h2))
theorem fE {f:D->D->Option Bool}:∀ {xs ys:List D} {k:Bool},aY f xs ys=some k->∃ e:Nat->Bool,(∀ (j:Nat) x y,xs[j]?=some x->ys[j]?=some y->f x y=some (e j))/\k=(List.range (min xs.length ys.length)).all e
 | [],ys,k,h=>⟨fun _=>true,fun j x y e1 e2=>by simp at e1,by simp only [aY] at h; cases h; simp⟩
 | _::_,[],k,h=>⟨fun _=>true,fun j x y e1 e2=>by simp at e2,by simp only [aY] at h; cases h; simp⟩
 | x::xs,y::ys,k,h=>by
  simp only [aY] at h
  split at h
  ·rename_i a b e1 e2
   cases h
   obtain ⟨e,he,hk⟩:=fE e2
   refine ⟨fun j=>match j with|0=>a|j+1=>e j,fun j u v q1 q2=>?_,?_⟩
   ·cases j with
    | zero=>simp at q1 q2; subst q1; subst q2; exact e1
    | succ j=>exact he j u v (by simpa using q1) (by simpa using q2)
   ·rw [show min (x::xs).length (y::ys).length=min xs.length ys.length+1 by simp only [List.length_cons]; omega,List.range_succ_eq_map,List.all_cons,List.all_map]
    rw [hk]
    rfl
  ·cases h
theorem Rep.iB {d1 d2:D} {x:V} (q1:Rep Γ ι H d1 x) (q2:Rep Γ ι H d2 x) (e:d1.kd=.flat):d2.kd=.flat:=by
 have h1:CJ x=true:=by cases q1 <;> first|rfl|cases e
 cases q2 <;> first|rfl|cases h1
theorem Rep.xo {d1 d2:D} {x:V} (q1:Rep Γ ι H d1 x) (q2:Rep Γ ι H d2 x) (e:d1.kd=.flat):d1=d2:=by
 cases q1 <;> first|(cases e; done)|(cases q2; rfl)
theorem zP {d:D} {k:Bool} (h:a_ d d=some k):k=true:=by
 cases d <;> first|(cases h; done)|(simp [a_] at h; exact h)
theorem yc (hK:Γ.K=X.K) (I:Inv X pins σ H s) (hS:av Γ ι H S):∀ (m:Nat) (d1 d2:D) (k:Bool) (x:V),eqD m S d1 d2=some k->Rep Γ ι H d1 x->Rep Γ ι H d2 x->k=true:=by
 obtain ⟨K⟩:=Γ
 have hK':K=X.K:=hK
 subst hK'
 have all:∀ (m:Nat),(∀ (d1 d2:D) (k:Bool) (x:V),eqD m S d1 d2=some k->Rep ⟨X.K⟩ ι H d1 x->Rep ⟨X.K⟩ ι H d2 x->k=true) ->
   ∀ (ds es:List D) (xs:List V) (r:Bool),ay ⟨X.K⟩ ι H ds xs->ay ⟨X.K⟩ ι H es xs->aY (eqD m S) ds es=some r->r=true:=by
  intro m ihm ds es xs r p1 p2 hr
  obtain ⟨e,he,hk2⟩:=fE hr
  have l1:=p1.length
  have l2:=p2.length
  rw [hk2,List.all_eq_true]
  intro j hj
  rw [List.mem_range] at hj
  have hj1:j < ds.length:=by omega
  have hj2:j < es.length:=by omega
  obtain ⟨y1,a1,a2⟩:=Paired.get p1 (List.getElem?_eq_getElem hj1)
  obtain ⟨y2,a3,a4⟩:=Paired.get p2 (List.getElem?_eq_getElem hj2)
  rw [a1] at a3; cases a3
  exact ihm _ _ _ y1 (he j _ _ (List.getElem?_eq_getElem hj1) (List.getElem?_eq_getElem hj2)) a2 a4
 intro m
 induction m with
 | zero=>intro d1 d2 k x h; simp [eqD] at h
 | succ m ihm =>
  intro d1 d2 k x h q1 q2
  have hall:=all m ihm
  have tl:∀ {es:List D} {a:Addr} {d:D},(∃ xs,SqT X.K H a xs)->∀ {z},asL S d=some z->Rep ⟨X.K⟩ ι H d (.ref a)->False:=fun {es a d} ht {z} hz hr=>by
   obtain ⟨xs,ht⟩:=ht
   obtain ⟨b,ys,e,sb,_⟩:=hS.list hr hz
   cases e
   obtain ⟨its,_,pl,_⟩:=I.list sb
   obtain ⟨its2,_,pt,_⟩:=I.tuple ht
   exact absurd rfl (SeqAt.ne_of_list_tuple pl.isList pt)
  cases e1:d1.kd <;> cases e2:d2.kd <;> simp only [eqD,e1,e2] at h
  ·have e:=Rep.xo q1 q2 e1
   rw [<- e] at h
   exact zP h
  ·rw [Rep.iB q1 q2 e1] at e2; cases e2
  ·rw [Rep.iB q1 q2 e1] at e2; cases e2
  ·cases h
  ·rw [Rep.iB q2 q1 e2] at e1; cases e1
  ·cases d1 <;> first|(cases e1; done)|skip
   cases d2 <;> first|(cases e2; done)|skip
   obtain ⟨a,xs,rfl,t1,p1⟩:=q1.bh
   obtain ⟨b,ys,eb,t2,p2⟩:=q2.bh
   cases eb
   have e:xs=ys:=I.gZ t1 t2
   subst e
   simp only [Option.map_eq_some_iff] at h
   obtain ⟨r,hr,hk⟩:=h
   have hl:(D.its (D.tup _)).length=(D.its (D.tup _)).length:=(p1.length).trans p2.length.symm
   rw [<- hk,hall _ _ xs r p1 p2 hr,hl]; simp
  ·simp only [Option.map_eq_some_iff] at h
   obtain ⟨z,hz,_⟩:=h
   cases d1 <;> first|(cases e1; done)|skip
   obtain ⟨a,xs,rfl,t1,p1⟩:=q1.bh
   exact (tl (es:=[]) ⟨xs,t1⟩ hz q2).elim
  ·cases h
  ·rw [Rep.iB q2 q1 e2] at e1; cases e1
  ·simp only [Option.map_eq_some_iff] at h
   obtain ⟨z,hz,_⟩:=h
   cases d2 <;> first|(cases e2; done)|skip
   obtain ⟨a,xs,rfl,t1,p1⟩:=q2.bh
   exact (tl (es:=[]) ⟨xs,t1⟩ hz q1).elim
  ·split at h
   ·rename_i ds es hd he
    obtain ⟨a,xs,rfl,s1,p1⟩:=hS.list q1 hd
    obtain ⟨b,ys,eb,s2,p2⟩:=hS.list q2 he
    cases eb
    have e:xs=ys:=I.iR s1 s2
    subst e
    rw [if_pos (p1.length.trans p2.length.symm)] at h
    exact hall _ _ xs k p1 p2 h
   ·cases h
  ·cases h
  ·cases h
  ·cases h
  ·cases h
  ·cases h
theorem tH {A:Around} {d1 d2:D} {k:Bool} {x1 x2:V} {u1 u2:Value} (h:a_ d1 d2=some k) (r1:Rep Γ ι H d1 x1) (r2:Rep Γ ι H d2 x2) (v1:RelV x1 u1) (v2:RelV x2 u2) (e1:d1.kd=.flat) (e2:d2.kd=.flat):RcAt A s u1 u2 k/\EqAt A s u1 u2 k:=by
 cases r1 <;> first|(cases e1; done)|skip
 all_goals (cases r2 <;> first|(cases e2; done)|skip)
 ·cases v1; cases v2; simp [a_] at h; subst h; exact ⟨RcAt.none_none,EqAt.same _⟩
 ·cases v1; cases v2; simp [a_] at h; subst h; exact ⟨.none_bool _,.none_bool _⟩
 ·cases v1; obtain ⟨t,rfl⟩:=v2; simp [a_] at h; subst h; exact ⟨.none_int _ t,.none_int _ t⟩
 ·cases v1; obtain ⟨t,rfl⟩:=v2; simp [a_] at h; subst h; exact ⟨.none_str _ t,.none_str _ t⟩
 ·cases v1; cases v2; simp [a_] at h; subst h; exact ⟨.bool_none _,.bool_none _⟩
 ·cases v1; cases v2; simp [a_] at h; subst h; exact ⟨.bool_bool _ _,.bool_bool _ _⟩
 ·cases v1; obtain ⟨t,rfl⟩:=v2; simp [a_] at h; subst h; exact ⟨.bool_int _ _ t,.bool_int _ _ t⟩
 ·cases v1; obtain ⟨t,rfl⟩:=v2; simp [a_] at h; subst h; exact ⟨.bool_str _ _ t,.bool_str _ _ t⟩
 ·obtain ⟨ta,rfl⟩:=v1; cases v2; simp [a_] at h; subst h; exact ⟨.int_none _ ta,.int_none _ ta⟩
 ·obtain ⟨ta,rfl⟩:=v1; cases v2; simp [a_] at h; subst h; exact ⟨.int_bool _ ta _,.int_bool _ ta _⟩
 ·obtain ⟨ta,rfl⟩:=v1; obtain ⟨t,rfl⟩:=v2; simp [a_] at h; subst h; exact ⟨.int_int _ ta _ t,.int_int _ ta _ t⟩
 ·obtain ⟨ta,rfl⟩:=v1; obtain ⟨t,rfl⟩:=v2; simp [a_] at h; subst h; exact ⟨.int_str _ ta _ t,.int_str _ ta _ t⟩
 ·obtain ⟨ta,rfl⟩:=v1; cases v2; simp [a_] at h; subst h; exact ⟨.str_none _ ta,.str_none _ ta⟩
 ·obtain ⟨ta,rfl⟩:=v1; cases v2; simp [a_] at h; subst h; exact ⟨.str_bool _ ta _,.str_bool _ ta _⟩
 ·obtain ⟨ta,rfl⟩:=v1; obtain ⟨t,rfl⟩:=v2; simp [a_] at h; subst h; exact ⟨.str_int _ ta _ t,.str_int _ ta _ t⟩
 ·obtain ⟨ta,rfl⟩:=v1; obtain ⟨t,rfl⟩:=v2; simp [a_] at h; subst h; exact ⟨.str_str _ ta _ t,.str_str _ ta _ t⟩
theorem jR (hK:Γ.K=X.K) (I:Inv X pins σ H s) (hS:av Γ ι H S):∀ (n:Nat) (A:Around) (d1 d2:D) (k:Bool) (x1 x2:V) (u1 u2:Value),eqD n S d1 d2=some k->Rep Γ ι H d1 x1->Rep Γ ι H d2 x2->RelV x1 u1->RelV x2 u2->A.units+n < cLine ->
  RcAt A s u1 u2 k/\EqAt A s u1 u2 k:=by
 have same:=yc hK I hS
 obtain ⟨K⟩:=Γ
 have hK':K=X.K:=hK
 subst hK'
 intro n
 induction n with
 | zero=>intro A d1 d2 k x1 x2 u1 u2 h; simp [eqD] at h
 | succ n ih =>
  intro A d1 d2 k x1 x2 u1 u2 h r1 r2 v1 v2 hu
  have hu0:A.units < cLine:=by omega
  have hu1:A.in1.units+n < cLine:=by show A.units+1+n < cLine; omega
  have h0:=h
  have each:∀ {ds es:List D} {xs ys:List V} {its1 its2:List Value} {e:Nat->Bool},ay ⟨X.K⟩ ι H ds xs->ay ⟨X.K⟩ ι H es ys->Vals xs its1->Vals ys its2 ->
    (∀ (j:Nat) x y,ds[j]?=some x->es[j]?=some y->eqD n S x y=some (e j))->∀ (j:Nat) (h1:j < its1.toArray.size) (h2:j < its2.toArray.size),EqAt A.in1 s its1.toArray[j] its2.toArray[j] (e j):=by
   intro ds es xs ys its1 its2 e rp1 rp2 rv1 rv2 he j h1 h2
   rw [List.size_toArray] at h1 h2
   have l1:=rp1.length
   have l2:=rp2.length
   have l3:=rv1.length
   have l4:=rv2.length
   have j1:j < ds.length:=by omega
   have j2:j < es.length:=by omega
   obtain ⟨y1,a1,a2⟩:=Paired.get rp1 (List.getElem?_eq_getElem j1)
   obtain ⟨y2,a3,a4⟩:=Paired.get rp2 (List.getElem?_eq_getElem j2)
   obtain ⟨w1,z1,z2⟩:=rv1.get a1
   obtain ⟨w2,z3,z4⟩:=rv2.get a3
   have:=(ih A.in1 ds[j] es[j] (e j) y1 y2 w1 w2 (he j _ _ (List.getElem?_eq_getElem j1) (List.getElem?_eq_getElem j2)) a2 a4 z2 z4 hu1).2
   have q1:its1.toArray[j]'(by rw [List.size_toArray]; exact h1)=w1:=by
    have:its1[j]?=some its1[j]:=List.getElem?_eq_getElem h1
    rw [z1] at this; cases this; rfl
   have q2:its2.toArray[j]'(by rw [List.size_toArray]; exact h2)=w2:=by
    have:its2[j]?=some its2[j]:=List.getElem?_eq_getElem h2
    rw [z3] at this; cases this; rfl
   rw [q1,q2]; exact this
  have lst:∀ {d:D} {x:V} {u:Value} {zs:List D},Rep ⟨X.K⟩ ι H d x->RelV x u->asL S d=some zs->∃ a xs its,x=.ref a/\u=.ref a/\ay ⟨X.K⟩ ι H zs xs/\Vals xs its/\s.heap.IsList a its.toArray:=fun {d x u zs} r rv hz=>by
   obtain ⟨b,ys,e,sb,rp⟩:=hS.list r hz
   subst e
   cases rv
   obtain ⟨its,rv,p,_⟩:=I.list sb
   exact ⟨b,ys,its,rfl,rfl,rp,rv,p.isList⟩
  have tpl:∀ {ds:List D} {x:V} {u:Value},Rep ⟨X.K⟩ ι H (.tup ds) x->RelV x u->∃ a xs its,x=.ref a/\u=.ref a/\ay ⟨X.K⟩ ι H ds xs/\Vals xs its/\s.heap.IsTuple a its.toArray:=fun {ds x u} r rv=>by
   obtain ⟨a,xs,e,t,p⟩:=r.bh
   subst e
   cases rv
   obtain ⟨its,rv,p2,_⟩:=I.tuple t
   exact ⟨a,xs,its,rfl,rfl,p,rv,p2⟩
  cases e1:d1.kd <;> cases e2:d2.kd <;> simp only [eqD,e1,e2] at h
  ·exact tH h r1 r2 v1 v2 e1 e2
  ·cases h
   cases d2 <;> first|(cases e2; done)|skip
   obtain ⟨a,xs,its,rfl,rfl,_,_,p⟩:=tpl r2 v2
   cases r1 <;> first|(cases e1; done)|skip
   ·cases v1; exact ⟨.none_tuple p hu0,.none_tuple p hu0⟩
   ·cases v1; exact ⟨.bool_tuple _ p hu0,.bool_tuple _ p hu0⟩
   ·obtain ⟨ta,rfl⟩:=v1; exact ⟨.int_tuple _ ta p hu0,.int_tuple _ ta p hu0⟩
   ·obtain ⟨ta,rfl⟩:=v1; exact ⟨.str_tuple _ ta p hu0,.str_tuple _ ta p hu0⟩
  ·simp only [Option.map_eq_some_iff] at h
   obtain ⟨z,hz,rfl⟩:=h
   obtain ⟨a,xs,its,rfl,rfl,_,_,p⟩:=lst r2 v2 hz
   cases r1 <;> first|(cases e1; done)|skip
   ·cases v1; exact ⟨.none_list p hu0,.none_list p hu0⟩
   ·cases v1; exact ⟨.bool_list _ p hu0,.bool_list _ p hu0⟩
   ·obtain ⟨ta,rfl⟩:=v1; exact ⟨.int_list _ ta p hu0,.int_list _ ta p hu0⟩
   ·obtain ⟨ta,rfl⟩:=v1; exact ⟨.str_list _ ta p hu0,.str_list _ ta p hu0⟩
  ·cases h
  ·cases h
   cases d1 <;> first|(cases e1; done)|skip
   obtain ⟨a,xs,its,rfl,rfl,_,_,p⟩:=tpl r1 v1
   cases r2 <;> first|(cases e2; done)|skip
   ·cases v2; exact ⟨.tuple_none p hu0,.tuple_none p hu0⟩
   ·cases v2; exact ⟨.tuple_bool _ p hu0,.tuple_bool _ p hu0⟩
   ·obtain ⟨ta,rfl⟩:=v2; exact ⟨.tuple_int _ ta p hu0,.tuple_int _ ta p hu0⟩
   ·obtain ⟨ta,rfl⟩:=v2; exact ⟨.tuple_str _ ta p hu0,.tuple_str _ ta p hu0⟩
  ·cases d1 <;> first|(cases e1; done)|skip
   cases d2 <;> first|(cases e2; done)|skip
   obtain ⟨a,xs,its1,rfl,rfl,rp1,rv1,p1⟩:=tpl r1 v1
   obtain ⟨b,ys,its2,rfl,rfl,rp2,rv2,p2⟩:=tpl r2 v2
   simp only [Option.map_eq_some_iff] at h
   obtain ⟨r,hr,hk⟩:=h
   obtain ⟨e,he,hk2⟩:=fE hr
   have rc:RcAt A s (.ref a) (.ref b) k:=by
    have:=RcAt.tuples (A:=A) (e:=e) p1 p2 hu0 (each rp1 rp2 rv1 rv2 he)
    rw [List.size_toArray,List.size_toArray,<- rv1.length,<- rv2.length,<- rp1.length,<- rp2.length] at this
    rw [<- hk,hk2]; exact this
   refine ⟨rc,?_⟩
   by_cases hab:a=b
   ·subst hab
    rw [same _ _ _ k _ h0 r1 r2]; exact EqAt.same _
   ·exact .of_refs hab rc
  ·simp only [Option.map_eq_some_iff] at h
   obtain ⟨z,hz,rfl⟩:=h
   cases d1 <;> first|(cases e1; done)|skip
   obtain ⟨a,xs,its1,rfl,rfl,rp1,rv1,p1⟩:=tpl r1 v1
   obtain ⟨b,ys,its2,rfl,rfl,rp2,rv2,p2⟩:=lst r2 v2 hz
   exact ⟨.tuple_list p1 p2 hu0,.tuple_list p1 p2 hu0⟩
  ·cases h
  ·simp only [Option.map_eq_some_iff] at h
   obtain ⟨z,hz,rfl⟩:=h
   obtain ⟨a,xs,its,rfl,rfl,_,_,p⟩:=lst r1 v1 hz
   cases r2 <;> first|(cases e2; done)|skip
   ·cases v2; exact ⟨.list_none p hu0,.list_none p hu0⟩
   ·cases v2; exact ⟨.list_bool _ p hu0,.list_bool _ p hu0⟩
   ·obtain ⟨ta,rfl⟩:=v2; exact ⟨.list_int _ ta p hu0,.list_int _ ta p hu0⟩
   ·obtain ⟨ta,rfl⟩:=v2; exact ⟨.list_str _ ta p hu0,.list_str _ ta p hu0⟩
  ·simp only [Option.map_eq_some_iff] at h
   obtain ⟨z,hz,rfl⟩:=h
   cases d2 <;> first|(cases e2; done)|skip
   obtain ⟨a,xs,its1,rfl,rfl,rp1,rv1,p1⟩:=tpl r2 v2
   obtain ⟨b,ys,its2,rfl,rfl,rp2,rv2,p2⟩:=lst r1 v1 hz
   exact ⟨.list_tuple p2 p1 hu0,.list_tuple p2 p1 hu0⟩
  ·split at h
   ·rename_i ds es hd he
    obtain ⟨a,xs,its1,rfl,rfl,rp1,rv1,p1⟩:=lst r1 v1 hd
    obtain ⟨b,ys,its2,rfl,rfl,rp2,rv2,p2⟩:=lst r2 v2 he
    have e1:its1.toArray.size=ds.length:=by rw [List.size_toArray,<- rv1.length,<- rp1.length]
    have e2:its2.toArray.size=es.length:=by rw [List.size_toArray,<- rv2.length,<- rp2.length]
    have rc:RcAt A s (.ref a) (.ref b) k:=by
     by_cases hlen:ds.length=es.length
     ·rw [if_pos hlen] at h
      obtain ⟨e,he',hk2⟩:=fE h
      have:=RcAt.lists (A:=A) (e:=e) p1 p2 (by omega) hu0 (each rp1 rp2 rv1 rv2 he')
      rw [e1] at this; rw [hk2,<- hlen,Nat.min_self]; exact this
     ·rw [if_neg hlen] at h
      cases h
      exact RcAt.lists_lengths p1 p2 (by rw [e1,e2]; simpa using hlen) hu0
    refine ⟨rc,?_⟩
    by_cases hab:a=b
    ·subst hab
     rw [same _ _ _ k _ h0 r1 r2]; exact EqAt.same _
    ·exact .of_refs hab rc
   ·cases h
  ·cases h
  ·cases h
  ·cases h
  ·cases h
  ·cases h
end
end EV

namespace HT
open PySem PyProof.Rows
section
variable {prog:Program} {w:World} {A:Around} {E:Value->Shared->Prop} {s:Shared}
theorem Ed {t sl:Addr} {items:Array Value} {vl vu:Value} {lo hi:Option Int} {Q:Value->Shared->Prop} (ht:IsTup s.heap t items) (hs:s.heap.IsSliceOf sl vl vu .none) (pl:IsPart vl lo) (pu:IsPart vu hi)
  (hw:sIx items.size 0 lo=0/\sIx items.size items.size hi=items.size) (h:Q (.ref t) s):wpAny (model prog w) A (getItem (.ref t) (.ref sl)) Q E s:=by
 obtain ⟨os,hos,hcs,hds⟩:=id hs
 have hTs:s.TypeIs (.ref sl) "slice":=⟨os,hos,hcs⟩
 unfold getItem
 try with_reducible refine wpAny_holding ?_
 first|refine wpAny_bind (wpAny_pure ?_)|skip
 refine wpAny_bind (wpAny_sequenceKey ht.typeIs (by decide) ?_)
 refine wpAny_bind (wpAny_callSpecial?_slot (name:=Str.ofString "__getitem__") ht.typeIs PyProof.Rows.slot_tuple_getitem
  (wpAny_call_entry PyProof.Rows.slot_tuple_getitem ht.typeIs entry_tuple_getitem ?_ (args_tuple_getitem _ _)))
 show wpAny _ _ (Builtin.Tuple.tupleItemsOf (.ref t)>>=_) _ _ s
 refine wpAny_bind (tupleItemsOf_ ht ?_)
 refine wpAny_bind (wpAny_typeOf hTs ?_)
 rw [if_pos (by decide)]
 refine wpAny_bind (qm hs pl pu ?_)
 have hyes:(((sIx items.size 0 lo:Nat):Int)==0&&(1:Int)==1&&(sIx items.size items.size hi - sIx items.size 0 lo)==items.size)=true:=by
  rw [hw.1,hw.2]; simp
 show wpAny _ _ (if (((sIx items.size 0 lo:Nat):Int)==0&&(1:Int)==1&&(sIx items.size items.size hi - sIx items.size 0 lo)==items.size)=true then _ else _) _ _ s
 rw [if_pos hyes]
 have hx:∀ {P:Bool->Shared->Prop},P true s->wpAny (model prog w) A.in1 (Builtin.Tuple.tupleIsExact (.ref t)) P E s:=fun {P} hp=>by
  unfold Builtin.Tuple.tupleIsExact
  refine wpAny_bind (wpAny_typeOf ht.typeIs (wpAny_pure ?_))
  simpa using hp
 refine wpAny_bind (hx ?_)
 rw [if_pos rfl]
 exact wpAny_bind (wpAny_rule (wpAny_pure ⟨_,rfl,wpAny_pure h⟩))
end
end HT
namespace EV
open PySem PySem.Spec PyProof.Rows L2
open PySem.SeqAt (EqAt RcAt)
section
variable {X:Cx} {Γ:Gx} {xw:XW} {pins:List (Addr × Obj)} {σ:L2.St} {H:Hp} {s:Shared} {ι:List Addr} {S:af}
theorem av.new (hS:av Γ ι H S) {p:Addr} (hp:H p=none):p ∉ ι:=fun m=>by
 obtain ⟨l,e⟩:=List.getElem?_of_mem m
 have hl:l < S.length:=by rw [<- hS.len]; exact (List.getElem?_eq_some_iff.mp e).1
 obtain ⟨a,ha,c⟩:=hS.cell l S[l] (List.getElem?_eq_getElem hl)
 rw [e] at ha; cases ha
 cases q:S[l] with
 | lst ds=>rw [q] at c; obtain ⟨xs,hx,_⟩:=c; rw [hp] at hx; cases hx
 | dct kvs=>rw [q] at c; exact c
theorem g8.ext {ι1:List Addr} {H1:Hp} (e:Ext ι ι1 H H1) {a:Addr} {c:Cell} (h:g8 Γ ι H a c) (hl:∀ xs,H a=some (.lst xs)->H1 a=some (.lst xs)):g8 Γ ι1 H1 a c:=by
 cases c with
 | lst ds=>obtain ⟨xs,hx,r⟩:=h; exact ⟨xs,hl xs hx,ay.ext e r⟩
 | dct kvs=>exact h
theorem av.more (hS:av Γ ι H S) {p:Addr} (hp:H p=none) {ds:List D} {xs:List V} (r:ay Γ ι H ds xs):av Γ (ι++[p]) (upd H p (.lst xs)) (S++[.lst ds]):=by
 have e:Ext ι (ι++[p]) H (upd H p (.lst xs)):=Ext.more hp
 refine ⟨by simp [hS.len],List.nodup_append.mpr ⟨hS.nd,by simp,?_⟩,fun l c h=>?_⟩
 ·intro a ha b hb
  have:b=p:=by simpa using hb
  subst this
  exact fun z=>hS.new hp (z ▸ ha)
 ·by_cases hl:l < S.length
  ·rw [List.getElem?_append_left hl] at h
   obtain ⟨a,ha,c1⟩:=hS.cell l c h
   exact ⟨a,fH e.pre ha,c1.ext e fun ys hy=>by rw [aE (aV hy hp)]; exact hy⟩
  ·rw [List.getElem?_append_right (by omega)] at h
   have hl2:l - S.length=0:=by
    have:=(List.getElem?_eq_some_iff.mp h).1
    simp at this; omega
   rw [hl2] at h
   have h':(Cell.lst ds)=c:=by simpa using h
   subst h'
   have e1:l=ι.length:=by rw [hS.len]; omega
   subst e1
   exact ⟨p,by simp,xs,cB,ay.ext e r⟩
theorem av.laid (hS:av Γ ι H S) {p:Addr} (hp:H p=none) (o:HO):av Γ ι (upd H p o) S :=
 ⟨hS.len,hS.nd,fun l c h=>let ⟨a,ha,c1⟩:=hS.cell l c h; ⟨a,ha,c1.ext (Ext.laid hp) fun ys hy=>by rw [aE (aV hy hp)]; exact hy⟩⟩
theorem Out.alloc {Q:VK} {ds:List D} {xs:List V} {p:Addr} (ho:Out Γ xw ι H (alloc (.lst ds) S) fun d _ ι' H'=>∀ v,Rep Γ ι' H' d v->Q v H') (hS:av Γ ι H S) (hp:H p=none) (r:ay Γ ι H ds xs):Q (.ref p) (upd H p (.lst xs)) :=
 ho (ι++[p]) _ (Ext.more hp) (hS.more hp r) _ (.loc (by rw [<- hS.len]; simp))
theorem Out.tup {Q:VK} {ds:List D} {xs:List V} {p:Addr} (ho:Out Γ xw ι H (.ok (.tup ds) S) fun d _ ι' H'=>∀ v,Rep Γ ι' H' d v->Q v H') (hS:av Γ ι H S) (hp:H p=none) (r:ay Γ ι H ds xs):Q (.ref p) (upd H p (.tup xs)) :=
 ho ι _ (Ext.laid hp) (hS.laid hp _) _ (.ek (.of cB) (ay.ext (Ext.laid hp) r))
theorem Out.val {Q:VK} {d:D} {v:V} (ho:Out Γ xw ι H (.ok d S) fun d _ ι' H'=>∀ v,Rep Γ ι' H' d v->Q v H') (hS:av Γ ι H S) (r:Rep Γ ι H d v):Q v H:=ho.here hS v r
theorem xq:OpR X (binaryOp .Add) (fun x y H Q=>∃ a b ys,x=.ref a/\y=.ref b/\SqT X.K H a []/\SqT X.K H b ys/\Q (.ref b) H):=by
 intro pins s σ H x y v u Q I rx ry h
 obtain ⟨a,b,ys,rfl,rfl,ha,hb,q⟩:=h
 cases rx
 cases ry
 obtain ⟨its,r1,p1,_⟩:=I.tuple ha
 obtain ⟨its2,r2,p2,_⟩:=I.tuple hb
 cases r1
 obtain ⟨⟨cls,dd,data,sl⟩,ho,hc,n,hd⟩:=id p1
 obtain ⟨⟨cls2,dd2,data2,sl2⟩,ho2,hc2,n2,hd2⟩:=id p2
 simp only at hc hd hc2 hd2
 subst hc hd hc2 hd2
 exact concat_meets ⟨_,ho,rfl⟩ ⟨_,ho2,rfl⟩ noFill_tuple_add seq_tuple_add PySem.F.slot_tuple_add PySem.F.entry_tuple_add (PySem.F.args_tuple_add_2 _ _)
  (tuple_addW0 a b _ its2.toArray n n2 dd dd2 sl sl2 rfl) ⟨ho,ho2,⟨.ref b,H,I,rfl,q⟩⟩
theorem Out.guard {α:Type} {b:Bool} {m:M α} {k:α->af->List Addr->Hp->Prop} (h:Out Γ xw ι H (EV.guard b m S) k):b=true/\Out Γ xw ι H (m S) k:=by
 cases b with
 | true=>exact ⟨rfl,h⟩
 | false=>exact h.elim
theorem dh {n:Nat} (h:fits n=true):n<=sizeLine:=of_decide_eq_true h
theorem Ba {n:Nat} (h:iw n=true):n < sizeLine:=of_decide_eq_true h
theorem Out.opt {α β:Type} {o:Option α} {f:α->M β} {k:β->af->List Addr->Hp->Prop} (h:Out Γ xw ι H ((EV.opt o>>=f) S) k):∃ a,o=some a/\Out Γ xw ι H (f a S) k:=by
 cases o with
 | none=>exact h.elim
 | some a=>exact ⟨a,rfl,h⟩
theorem Out.aW {l:Nat} {f:List D->M D} {k:D->af->List Addr->Hp->Prop} (h:Out Γ xw ι H (EV.aW l f S) k):∃ ds,S[l]?=some (.lst ds)/\Out Γ xw ι H (f ds S) k:=by
 have e:EV.aW l f S=match S[l]? with|some (.lst ds)=>f ds S|_=>.bad:=rfl
 rw [e] at h
 cases q:S[l]? with
 | none=>rw [q] at h; exact h.elim
 | some c =>
  rw [q] at h
  cases c with
  | lst ds=>exact ⟨ds,rfl,h⟩
  | dct kvs=>exact h.elim
theorem z0 (hK:Γ.K=X.K):OpR X (binaryOp .Add) (aX Γ xw (opD .add)):=by
 intro pins s σ H x y v u Q I rx ry h
 obtain ⟨ι,S,dx,dy,hS,r1,r2,ho⟩:=h
 cases dx with
 | int i =>
  cases dy with
  | int j=>cases r1; cases r2; exact uu pins s σ H _ _ v u Q I rx ry ⟨i,j,rfl,rfl,Out.val ho hS (.int _)⟩
  | _=>exact ho.elim
 | str a =>
  cases dy with
  | str b =>
   cases r1; cases r2
   obtain ⟨hz,ho⟩:=Out.guard ho
   exact C0 pins s σ H _ _ v u Q I rx ry ⟨a,b,rfl,rfl,dh hz,Out.val ho hS (.str _)⟩
  | _=>exact ho.elim
 | tup ds =>
  cases dy with
  | tup es =>
   obtain ⟨a,xs,rfl,t1,p1⟩:=r1.bh
   obtain ⟨b,ys,rfl,t2,p2⟩:=r2.bh
   have l1:=p1.length
   have l2:=p2.length
   rw [hK] at t1 t2
   obtain ⟨hz,ho⟩:=Out.guard ho
   have hz:=dh hz
   cases xs with
   | nil =>
    have e:ds=[]:=List.length_eq_zero_iff.mp l1
    subst e
    exact xq pins s σ H _ _ v u Q I rx ry ⟨a,b,ys,rfl,rfl,t1,t2,Out.val ho hS r2⟩
   | cons z zs =>
    refine Dc pins s σ H _ _ v u Q I rx ry ⟨a,b,z::zs,ys,rfl,rfl,t1,t2,by simp,by rw [<- l1,<- l2]; exact hz,fun e=>?_,fun _ p hp=>?_⟩
    ·subst e
     have e:es=[]:=List.length_eq_zero_iff.mp l2
     subst e
     rw [List.append_nil] at ho
     exact Out.val ho hS r1
    ·exact Out.tup ho hS hp (Paired.app p1 p2)
  | _=>exact ho.elim
 | loc l =>
  cases dy with
  | loc m =>
   obtain ⟨ds,e1,ho⟩:=Out.aW ho
   obtain ⟨es,e2,ho⟩:=Out.aW ho
   obtain ⟨hz,ho⟩:=Out.guard ho
   obtain ⟨a,xs,ha,hx,p1⟩:=hS.lst e1
   obtain ⟨b,ys,hb,hy,p2⟩:=hS.lst e2
   cases r1 with
   | loc q1 =>
    cases r2 with
    | loc q2 =>
     rw [ha] at q1; cases q1
     rw [hb] at q2; cases q2
     exact zS pins s σ H _ _ v u Q I rx ry ⟨a,b,xs,ys,rfl,rfl,hx,hy,by rw [<- p1.length,<- p2.length]; exact dh hz,fun p hp=>Out.alloc ho hS hp (Paired.app p1 p2)⟩
  | _=>exact ho.elim
 | _=>exact ho.elim
theorem Cp:OpR X (binaryOp .Sub) (aX Γ xw (opD .sub)):=by
 intro pins s σ H x y v u Q I rx ry h
 obtain ⟨ι,S,dx,dy,hS,r1,r2,ho⟩:=h
 cases dx with
 | int i =>
  cases dy with
  | int j=>cases r1; cases r2; exact zh pins s σ H _ _ v u Q I rx ry ⟨i,j,rfl,rfl,Out.val ho hS (.int _)⟩
  | _=>exact ho.elim
 | _=>exact ho.elim
theorem Cq (hK:Γ.K=X.K):OpR X (binaryOp .Mult) (aX Γ xw (opD .mul)):=by
 intro pins s σ H x y v u Q I rx ry h
 obtain ⟨ι,S,dx,dy,hS,r1,r2,ho⟩:=h
 cases dx with
 | int i =>
  cases dy with
  | int j =>
   cases r1; cases r2
   obtain ⟨hz,ho⟩:=Out.guard ho
   refine Di pins s σ H _ _ v u Q I rx ry ⟨i,j,rfl,rfl,?_,Out.val ho hS (.int _)⟩
   rcases Bool.or_eq_true_iff.mp hz with hz|hz
   ·exact .inl (of_decide_eq_true hz)
   ·exact .inr (of_decide_eq_true hz)
  | _=>exact ho.elim
 | tup ds =>
  cases dy with
  | int j =>
   obtain ⟨a,xs,rfl,t1,p1⟩:=r1.bh
   have l1:=p1.length
   rw [hK] at t1
   cases r2
   obtain ⟨hz,ho⟩:=Out.guard ho
   rw [Bool.and_eq_true,Bool.and_eq_true] at hz
   refine AF pins s σ H _ _ v u Q I rx ry ⟨a,j,xs,rfl,rfl,t1,of_decide_eq_true hz.1.1,of_decide_eq_true hz.1.2,by rw [<- l1]; exact dh hz.2,fun e=>?_,fun p hp=>?_⟩
   ·have e2:(List.replicate j.toNat ds).flatten=ds:=by
     rcases e with e|e
     ·subst e
      have e:ds=[]:=List.length_eq_zero_iff.mp l1
      subst e
      simp
     ·subst e; simp
    rw [e2] at ho
    exact Out.val ho hS r1
   ·exact Out.tup ho hS hp (Paired.rep p1 _)
  | _=>exact ho.elim
 | loc l =>
  cases dy with
  | int j =>
   obtain ⟨ds,hl,ho⟩:=Out.aW ho
   obtain ⟨a,xs,ha,hx,p1⟩:=hS.lst hl
   cases r2
   cases r1 with
   | loc q =>
    rw [ha] at q; cases q
    obtain ⟨hz,ho⟩:=Out.guard ho
    rw [Bool.and_eq_true,Bool.and_eq_true] at hz
    exact yI pins s σ H _ _ v u Q I rx ry ⟨a,j,xs,rfl,rfl,hx,of_decide_eq_true hz.1.1,of_decide_eq_true hz.1.2,by rw [<- p1.length]; exact dh hz.2,fun p hp=>Out.alloc ho hS hp (Paired.rep p1 _)⟩
  | _=>exact ho.elim
 | _=>exact ho.elim
theorem AS:OpR X (binaryOp .FloorDiv) (aX Γ xw (opD .fdiv)):=by
 intro pins s σ H x y v u Q I rx ry h
 obtain ⟨ι,S,dx,dy,hS,r1,r2,ho⟩:=h
 cases dx with
 | int i =>
  cases dy with
  | int j =>
   cases r1; cases r2
   obtain ⟨hz,ho⟩:=Out.guard ho
   rw [Bool.and_eq_true] at hz
   exact u_ pins s σ H _ _ v u Q I rx ry ⟨i,j,rfl,rfl,⟨of_decide_eq_true hz.1,of_decide_eq_true hz.2⟩,Out.val ho hS (.int _)⟩
  | _=>exact ho.elim
 | _=>exact ho.elim
theorem Ae:OpR X (binaryOp .Mod) (aX Γ xw (opD .mod)):=by
 intro pins s σ H x y v u Q I rx ry h
 obtain ⟨ι,S,dx,dy,hS,r1,r2,ho⟩:=h
 cases dx with
 | int i =>
  cases dy with
  | int j =>
   cases r1; cases r2
   obtain ⟨hz,ho⟩:=Out.guard ho
   exact uP pins s σ H _ _ v u Q I rx ry ⟨i,j,rfl,rfl,of_decide_eq_true hz,Out.val ho hS (.int _)⟩
  | _=>exact ho.elim
 | _=>exact ho.elim
theorem v8:OpR X (binaryOp .Pow) (aX Γ xw (opD .pow)):=by
 intro pins s σ H x y v u Q I rx ry h
 obtain ⟨ι,S,dx,dy,hS,r1,r2,ho⟩:=h
 cases dx with
 | int i =>
  cases dy with
  | int j =>
   cases r1; cases r2
   obtain ⟨hz,ho⟩:=Out.guard ho
   rw [Bool.and_eq_true,Bool.and_eq_true] at hz
   have h2:j<=1000:=of_decide_eq_true hz.1.2
   exact uz pins s σ H _ _ v u Q I rx ry ⟨i,j,rfl,rfl,⟨of_decide_eq_true hz.1.1,by omega,of_decide_eq_true hz.2⟩,Out.val ho hS (.int _)⟩
  | _=>exact ho.elim
 | _=>exact ho.elim
theorem ie {op:CmpOp} {p:Int->Int->Bool} (h0:OpR X (compareOp op) (rI0 fun i j=>.bl (p i j))):OpR X (compareOp op) (aX Γ xw (fh p)):=by
 intro pins s σ H x y v u Q I rx ry h
 obtain ⟨ι,S,dx,dy,hS,r1,r2,ho⟩:=h
 cases dx with
 | int i =>
  cases dy with
  | int j=>cases r1; cases r2; exact h0 pins s σ H _ _ v u Q I rx ry ⟨i,j,rfl,rfl,Out.val ho hS (.bl _)⟩
  | _=>exact ho.elim
 | _=>exact ho.elim
theorem EC:OpR X (compareOp .Lt) (aX Γ xw (cmD .lt)):=ie vC
theorem EG:OpR X (compareOp .LtE) (aX Γ xw (cmD .le)):=ie zd
theorem Cc:OpR X (compareOp .Gt) (aX Γ xw (cmD .gt)):=ie vp
theorem DL:OpR X (compareOp .GtE) (aX Γ xw (cmD .ge)):=ie Dq
theorem mJ {dx dy:D} {f:Bool->M D} {k:D->af->List Addr->Hp->Prop} (ho:Out Γ xw ι H ((eqM dx dy>>=f) S) k):∃ b,eqD deep S dx dy=some b/\Out Γ xw ι H (f b S) k:=by
 rw [b_] at ho
 unfold eqM at ho
 cases q:eqD deep S dx dy with
 | none=>rw [q] at ho; exact ho.elim
 | some b=>rw [q] at ho; exact ⟨b,rfl,ho⟩
theorem s_eq (hK:Γ.K=X.K) (hu:X.A.units+64 < cLine):OpR X (compareOp .Eq) (aX Γ xw (cmD .eq)):=by
 intro pins s σ H x y v u Q I rx ry h
 obtain ⟨ι,S,dx,dy,hS,r1,r2,ho⟩:=h
 obtain ⟨k,q,ho⟩:=mJ ho
 have:=(jR hK I hS deep X.A dx dy k x y v u q r1 r2 rx ry (by unfold deep; omega)).1
 exact this X.prog X.w X.xe _ ⟨.bl k,H,I,rfl,Out.val ho hS (.bl _)⟩
end
end EV

namespace EV
open PySem PySem.Spec PyProof.Rows L2
open PySem.SeqAt (EqAt RcAt)
section
variable {X:Cx} {Γ:Gx} {xw:XW} {pins:List (Addr × Obj)} {σ:L2.St} {H:Hp} {s:Shared} {ι:List Addr} {S:af}
theorem rP (hK:Γ.K=X.K) (I:Inv X pins σ H s) (hS:av Γ ι H S) {n:Nat} {A:Around} (hu:A.units+n < cLine) {ds es:List D} {xs ys:List V} {its1 its2:List Value} {e:Nat->Bool} (rp1:ay Γ ι H ds xs) (rp2:ay Γ ι H es ys)
  (rv1:Vals xs its1) (rv2:Vals ys its2) (he:∀ (j:Nat) x y,ds[j]?=some x->es[j]?=some y->eqD n S x y=some (e j)) (j:Nat) (h1:j < its1.toArray.size) (h2:j < its2.toArray.size):EqAt A s its1.toArray[j] its2.toArray[j] (e j):=by
 rw [List.size_toArray] at h1 h2
 have l1:=rp1.length
 have l2:=rp2.length
 have l3:=rv1.length
 have l4:=rv2.length
 have j1:j < ds.length:=by omega
 have j2:j < es.length:=by omega
 obtain ⟨y1,a1,a2⟩:=Paired.get rp1 (List.getElem?_eq_getElem j1)
 obtain ⟨y2,a3,a4⟩:=Paired.get rp2 (List.getElem?_eq_getElem j2)
 obtain ⟨w1,z1,z2⟩:=rv1.get a1
 obtain ⟨w2,z3,z4⟩:=rv2.get a3
 have:=(jR hK I hS n A ds[j] es[j] (e j) y1 y2 w1 w2 (he j _ _ (List.getElem?_eq_getElem j1) (List.getElem?_eq_getElem j2)) a2 a4 z2 z4 hu).2
 have q1:its1.toArray[j]'(by rw [List.size_toArray]; exact h1)=w1:=by
  have:its1[j]?=some its1[j]:=List.getElem?_eq_getElem h1
  rw [z1] at this; cases this; rfl
 have q2:its2.toArray[j]'(by rw [List.size_toArray]; exact h2)=w2:=by
  have:its2[j]?=some its2[j]:=List.getElem?_eq_getElem h2
  rw [z3] at this; cases this; rfl
 rw [q1,q2]; exact this
theorem BU (n:Nat) (S:af) (xs ys:List D):eqD (n+1) S (.tup xs) (.tup ys)=(aY (eqD n S) xs ys).map fun r=>r&&(xs.length==ys.length):=rfl
theorem D0 (n:Nat) (S:af) (a b:D) (h1:a.kd=.list) (h2:b.kd=.list):eqD (n+1) S a b=match asL S a,asL S b with
  | some xs,some ys=>if xs.length=ys.length then aY (eqD n S) xs ys else some false
  | _,_=>none:=by simp only [eqD,h1,h2] <;> rfl
theorem CP {a b:D} (h:dR a b=true):(a.kd=.flat/\b.kd=.flat)\/(a.kd=.tup/\b.kd=.tup)\/(a.kd=.list/\b.kd=.list):=by
 cases a <;> cases b <;> first|exact .inl ⟨rfl,rfl⟩|exact .inr (.inl ⟨rfl,rfl⟩)|exact .inr (.inr ⟨rfl,rfl⟩)|cases h
theorem EL {S:af} {a b:D} (e1:a.kd=.flat) (e2:b.kd=.flat):eqD deep S a b=a_ a b:=by
 show eqD (11+1) S a b=_
 simp only [eqD,e1,e2]
theorem zR {S:af} {a b:D} {x y:V} {k:Bool} (hn:dR a b=true) (q:eqD deep S a b=some k) (r1:Rep Γ ι H a x) (r2:Rep Γ ι H b y) (e1:a.kd=.flat) (e2:b.kd=.flat):mG x y=true/\(decide (x=y))=k:=by
 rw [EL e1 e2] at q
 clear S
 cases r1 <;> first|(cases e1; done)|skip
 all_goals (cases r2 <;> first|(cases e2; done)|(cases hn; done)|skip)
 all_goals (refine ⟨rfl,?_⟩; simp [a_] at q; subst q; first|rfl|(rw [show (decide _:Bool)=_ from lD]; done)|(rw [show (decide _:Bool)=_ from lD])|rw [mV]|rw [rA]|simp)
theorem zz (hK:Γ.K=X.K) (hu:X.A.units+64 < cLine):OpR X (compareOp .NotEq) (aX Γ xw (cmD .ne)):=by
 intro pins s σ H x y v u Q I rx ry h
 obtain ⟨ι,S,dx,dy,hS,r1,r2,ho⟩:=h
 obtain ⟨hn,ho⟩:=Out.guard ho
 obtain ⟨k,q,ho⟩:=mJ ho
 have fin:Q (.bl (!k)) H:=Out.val ho hS (.bl _)
 have hu0:X.A.units < cLine:=by omega
 have hd:deep=11+1:=rfl
 rcases CP hn with ⟨e1,e2⟩|⟨e1,e2⟩|⟨e1,e2⟩
 ·obtain ⟨z1,z2⟩:=zR hn q r1 r2 e1 e2
  exact Bt pins s σ H _ _ v u Q I rx ry ⟨z1,by rw [z2]; exact fin⟩
 ·-- tuples
  cases dx <;> first|(cases e1; done)|skip
  cases dy <;> first|(cases e2; done)|skip
  obtain ⟨a,xs,rfl,t1,p1⟩:=r1.bh
  obtain ⟨b,ys,rfl,t2,p2⟩:=r2.bh
  cases rx
  cases ry
  rw [hK] at t1 t2
  obtain ⟨its1,rv1,pt1,_⟩:=I.tuple t1
  obtain ⟨its2,rv2,pt2,_⟩:=I.tuple t2
  rw [hd,BU,Option.map_eq_some_iff] at q
  obtain ⟨r,hr,hk⟩:=q
  obtain ⟨e,he,hk2⟩:=fE hr
  refine NEQ.Cb (same:=e) pt1 pt2 hu0 (rP hK I hS (by show X.A.units+1+11 < _; omega) p1 p2 rv1 rv2 he) ?_
  rw [List.size_toArray,List.size_toArray,<- rv1.length,<- rv2.length,<- p1.length,<- p2.length,<- hk2,hk]
  exact ⟨.bl (!k),H,I,rfl,fin⟩
 ·-- lists
  rw [hd,D0 _ _ _ _ e1 e2] at q
  split at q
  ·rename_i ds es h1 h2
   obtain ⟨a,xs,rfl,s1,p1⟩:=hS.list r1 h1
   obtain ⟨b,ys,rfl,s2,p2⟩:=hS.list r2 h2
   cases rx
   cases ry
   rw [hK] at s1 s2
   obtain ⟨its1,rv1,pl1,_⟩:=I.list s1
   obtain ⟨its2,rv2,pl2,_⟩:=I.list s2
   have z1:its1.toArray.size=ds.length:=by rw [List.size_toArray,<- rv1.length,<- p1.length]
   have z2:its2.toArray.size=es.length:=by rw [List.size_toArray,<- rv2.length,<- p2.length]
   by_cases hlen:ds.length=es.length
   ·rw [if_pos hlen] at q
    obtain ⟨e,he,hk2⟩:=fE q
    refine NEQ.C8 (same:=e) pl1.isList pl2.isList (by omega) hu0 (rP hK I hS (by show X.A.units+1+11 < _; omega) p1 p2 rv1 rv2 he) ?_
    rw [z1,show (List.range ds.length).all e=k by rw [hk2,<- hlen,Nat.min_self]]
    exact ⟨.bl (!k),H,I,rfl,fin⟩
   ·rw [if_neg hlen] at q
    cases q
    exact NEQ.Cv pl1.isList pl2.isList (by rw [z1,z2]; simpa using hlen) hu0 ⟨.bl true,H,I,rfl,fin⟩
  ·cases q
theorem Rep.inj (hK:Γ.K=X.K) (I:Inv X pins σ H s) (hS:av Γ ι H S) {d:D} {v:V} (r:Rep Γ ι H d v):∀ {d':D},Rep Γ ι H d' v->d=d':=by
 obtain ⟨K⟩:=Γ
 have hK':K=X.K:=hK
 subst hK'
 have tl:∀ {a:Addr} {xs ys:List V},SqT X.K H a xs->SqL X.K H a ys->False:=fun {a xs ys} ht hl=>by
  obtain ⟨its,_,pl,_⟩:=I.list hl
  obtain ⟨its2,_,pt,_⟩:=I.tuple ht
  exact absurd rfl (SeqAt.ne_of_list_tuple pl.isList pt)
 have ll:∀ {l:Nat} {a:Addr},ι[l]?=some a->∃ xs,H a=some (.lst xs):=fun {l a} q=>by
  have hl:l < S.length:=by rw [<- hS.len]; exact (List.getElem?_eq_some_iff.mp q).1
  obtain ⟨b,hb,c⟩:=hS.cell l S[l] (List.getElem?_eq_getElem hl)
  rw [q] at hb; cases hb
  cases e:S[l] with
  | lst ds=>rw [e] at c; obtain ⟨xs,hx,_⟩:=c; exact ⟨xs,hx⟩
  | dct kvs=>rw [e] at c; exact c.elim
 have fl:∀ {l:Nat} {a:Addr} {xs:List V},Fro X.K H a xs->ι[l]?=some a->False:=fun {l a xs} hf q=>by
  obtain ⟨ys,hy⟩:=ll q
  rcases hf with ⟨o,hf⟩|hf
  ·rw [hy] at hf; cases hf
  ·rcases hf (fun _=>none) with (z|⟨_,z⟩)|z
   ·cases z
   ·cases z
   ·obtain ⟨o,_,_,hk,_⟩:=z
    have hb:X.base.get? a=some o:=I.ok.mod.kin a o hk
    have:=(I.bs a o hb).2
    rw [hy] at this; cases this
 induction r with
 | non=>intro d' r'; cases r'; rfl
 | bl b=>intro d' r'; cases r'; rfl
 | int i=>intro d' r'; cases r'; rfl
 | str x=>intro d' r'; cases r'; rfl
 | @tup ds a xs t1 l1 p1 ih =>
  intro d' r'
  cases r' with
  | @tup es _ ys t2 l2 p2 =>
   have e:xs=ys:=I.gZ t1 t2
   subst e
   congr 1
   refine List.ext_getElem? fun j=>?_
   by_cases hj:j < ds.length
   ·have h1:=List.getElem?_eq_getElem hj
    have h2:es[j]?=some es[j]:=List.getElem?_eq_getElem (by omega)
    have h3:xs[j]?=some xs[j]:=List.getElem?_eq_getElem (by omega)
    rw [h1,h2,ih j _ _ h1 h3 (p2 j _ _ h2 h3)]
   ·rw [List.getElem?_eq_none (by omega),List.getElem?_eq_none (by omega)]
  | fro f2 _ _=>exact (tl t1 f2.sq).elim
  | loc q=>obtain ⟨ys,hy⟩:=ll q; exact (tl t1 (.of hy)).elim
 | @fro ds a xs f1 l1 p1 ih =>
  intro d' r'
  cases r' with
  | tup t2 _ _=>exact (tl t2 f1.sq).elim
  | @fro es _ ys f2 l2 p2 =>
   have e:xs=ys:=I.iR f1.sq f2.sq
   subst e
   congr 1
   refine List.ext_getElem? fun j=>?_
   by_cases hj:j < ds.length
   ·have h1:=List.getElem?_eq_getElem hj
    have h2:es[j]?=some es[j]:=List.getElem?_eq_getElem (by omega)
    have h3:xs[j]?=some xs[j]:=List.getElem?_eq_getElem (by omega)
    rw [h1,h2,ih j _ _ h1 h3 (p2 j _ _ h2 h3)]
   ·rw [List.getElem?_eq_none (by omega),List.getElem?_eq_none (by omega)]
  | loc q=>exact (fl f1 q).elim
 | @loc l a q =>
  intro d' r'
  cases r' with
  | tup t2 _ _=>obtain ⟨ys,hy⟩:=ll q; exact (tl t2 (.of hy)).elim
  | fro f2 _ _=>exact (fl f2 q).elim
  | loc q'=>rw [jc hS.nd q q']
theorem oK {x:D}:∀ {ys:List D} {k:Bool},inL S x ys=some k->(∀ y∈ys,eqD deep S y x=some ((eqD deep S y x).getD false))/\k=ys.any fun y=>(eqD deep S y x).getD false
 | [],k,h=>⟨fun y hy=>absurd hy (by simp),by cases h; rfl⟩
 | y::ys,k,h=>by
  simp only [inL] at h
  split at h
  ·rename_i a b e1 e2
   cases h
   obtain ⟨he,hk⟩:=oK e2
   refine ⟨fun z hz=>?_,?_⟩
   ·rcases List.mem_cons.mp hz with rfl|hz
    ·simp [e1]
    ·exact he z hz
   ·rw [List.any_cons,<- hk]; simp [e1]
  ·cases h
theorem jg (hK:Γ.K=X.K) (I:Inv X pins σ H s) (hS:av Γ ι H S) {A:Around} (hu:A.units+deep < cLine) {dx:D} {x:V} {v:Value} (r1:Rep Γ ι H dx x) (rx:RelV x v) {ds:List D} {xs:List V} {its:List Value} {k:Bool} (h:inL S dx ds=some k)
  (p:ay Γ ι H ds xs) (rv:Vals xs its):∃ e:Value->Bool,(∀ y,y∈its.toArray->EqAt A s y v (e y))/\its.toArray.any e=k:=by
 classical
 obtain ⟨h1,h2⟩:=oK h
 have key:∀ (d:D) (w:V) (u:Value),d∈ds->Rep Γ ι H d w->RelV w u->∀ (d':D) (w':V),Rep Γ ι H d' w'->RelV w' u->d'=d:=fun d w u _ r q d' w' r' q'=>by
  have e:w'=w:=q'.inj q
  subst e
  exact (Rep.inj hK I hS r' r)
 refine ⟨fun u=>decide (∃ d w,d∈ds/\Rep Γ ι H d w/\RelV w u/\(eqD deep S d dx).getD false=true),fun u hu'=>?_,?_⟩
 ·have hm:u∈its:=by simpa using hu'
  obtain ⟨j,hj⟩:=List.getElem?_of_mem hm
  obtain ⟨w,hw,q⟩:=Paired.get' rv hj
  obtain ⟨d,hd,r⟩:=Paired.get' p hw
  have hd':=List.mem_of_getElem? hd
  have e:=(jR hK I hS deep A d dx _ w x u v (h1 d hd') r r1 q rx hu).2
  have:decide (∃ d w,d∈ds/\Rep Γ ι H d w/\RelV w u/\(eqD deep S d dx).getD false=true)=(eqD deep S d dx).getD false:=by
   cases z:(eqD deep S d dx).getD false with
   | true=>exact decide_eq_true ⟨d,w,hd',r,q,z⟩
   | false =>
    refine decide_eq_false ?_
    rintro ⟨d',w',_,r',q',z'⟩
    rw [key d w u hd' r q d' w' r' q',z] at z'
    cases z'
  show EqAt A s u v (decide (∃ d w,d∈ds/\Rep Γ ι H d w/\RelV w u/\(eqD deep S d dx).getD false=true))
  rw [this]; exact e
 ·rw [h2]
  rw [Bool.eq_iff_iff]
  simp only [Array.any_eq_true',List.any_eq_true,decide_eq_true_eq]
  constructor
  ·rintro ⟨u,hu',d,w,hd,r,q,z⟩
   exact ⟨d,hd,z⟩
  ·rintro ⟨d,hd,z⟩
   obtain ⟨j,hj⟩:=List.getElem?_of_mem hd
   obtain ⟨w,hw,r⟩:=Paired.get p hj
   obtain ⟨u,hu',q⟩:=rv.get hw
   exact ⟨u,by simpa using List.mem_of_getElem? hu',d,w,hd,r,q,z⟩
theorem gr (d:D) (S:af):(∃ ds,items d S=.ok ds S)\/items d S=.bad:=by
 cases d with
 | tup ds=>exact .inl ⟨ds,rfl⟩
 | fro ds=>exact .inl ⟨ds,rfl⟩
 | loc l =>
  rw [l5]
  cases listAt S l with
  | none=>exact .inr rfl
  | some ds=>exact .inl ⟨ds,rfl⟩
 | _=>exact .inr rfl
theorem Out.items {α:Type} {d:D} {f:List D->M α} {k:α->af->List Addr->Hp->Prop} (ho:Out Γ xw ι H ((EV.items d>>=f) S) k):∃ ds,EV.items d S=.ok ds S/\Out Γ xw ι H (f ds S) k:=by
 rcases gr d S with ⟨ds,e⟩|e
 ·rw [ak e] at ho; exact ⟨ds,e,ho⟩
 ·rw [aU e] at ho; exact ho.elim
theorem Out.vJ {α:Type} {o:Option α} {k:α->af->List Addr->Hp->Prop} (ho:Out Γ xw ι H (EV.opt o S) k):∃ a,o=some a/\Out Γ xw ι H (.ok a S) k:=by
 cases o with
 | none=>exact ho.elim
 | some a=>exact ⟨a,rfl,ho⟩
theorem qZ {neg:Bool} {a b:D} {k:D->af->List Addr->Hp->Prop} (ho:Out Γ xw ι H (inM neg a b S) k):∃ ds c,items b S=.ok ds S/\inL S a ds=some c/\Out Γ xw ι H (.ok (.bl (c != neg)) S) k:=by
 obtain ⟨ds,e,ho⟩:=Out.items ho
 unfold inA at ho
 cases q:inL S a ds with
 | none=>rw [q] at ho; exact ho.elim
 | some c=>rw [q] at ho; exact ⟨ds,c,e,q,ho⟩
theorem bX (hS:av Γ ι H S) {d:D} {v:V} {ds:List D} {S':af} (r:Rep Γ ι H d v) (h:items d S=.ok ds S'):S'=S/\∃ a xs,v=.ref a/\(SqL Γ.K H a xs\/SqT Γ.K H a xs)/\ay Γ ι H ds xs/\(∀ l,d=.loc l->SqL Γ.K H a xs):=by
 cases d with
 | tup es=>cases h; obtain ⟨a,xs,e,t,p⟩:=r.bh; exact ⟨rfl,a,xs,e,.inr t,p,fun l e=>by cases e⟩
 | fro es=>cases h; obtain ⟨a,xs,e,f,p⟩:=r.er; exact ⟨rfl,a,xs,e,.inl f.sq,p,fun l e=>by cases e⟩
 | loc l =>
  have h':(match listAt S l with|some ds=>Res.ok ds S|none=>.bad)=.ok ds S':=h
  cases q:listAt S l with
  | none=>rw [q] at h'; cases h'
  | some es =>
   rw [q] at h'
   cases h'
   obtain ⟨a,xs,e,t,p⟩:=hS.list r (show asL S (.loc l)=some ds from q)
   exact ⟨rfl,a,xs,e,.inl t,p,fun _ _=>t⟩
 | _=>cases h
theorem BY (hK:Γ.K=X.K) (hu:X.A.units+64 < cLine):OpR X (compareOp .In) (aX Γ xw (inM false)):=by
 intro pins s σ H x y v u Q I rx ry h
 obtain ⟨ι,S,dx,dy,hS,r1,r2,ho⟩:=h
 obtain ⟨ds,c,h1,h2,ho⟩:=qZ ho
 have fin:Q (.bl c) H:=by have:=Out.val ho hS (.bl _); simpa using this
 obtain ⟨_,a,xs,rfl,sq,p,_⟩:=bX hS r2 h1
 cases ry
 rw [hK] at sq
 rcases sq with sq|sq
 ·obtain ⟨its,rv,pl,_⟩:=I.list sq
  obtain ⟨e,he,hk⟩:=jg hK I hS (A:=X.A.in1) (by show X.A.units+1+12 < cLine; omega) r1 rx h2 p rv
  exact SeqAt.in_listAt e pl.isList he (by rw [hk]; exact ⟨.bl c,H,I,rfl,fin⟩)
 ·obtain ⟨its,rv,pl,_⟩:=I.tuple sq
  obtain ⟨e,he,hk⟩:=jg hK I hS (A:=X.A.in1) (by show X.A.units+1+12 < cLine; omega) r1 rx h2 p rv
  exact SeqAt.in_tupleAt e pl he (by rw [hk]; exact ⟨.bl c,H,I,rfl,fin⟩)
theorem Eh (hK:Γ.K=X.K) (hu:X.A.units+64 < cLine):OpR X (compareOp .NotIn) (aX Γ xw (inM true)):=by
 intro pins s σ H x y v u Q I rx ry h
 obtain ⟨ι,S,dx,dy,hS,r1,r2,ho⟩:=h
 obtain ⟨ds,c,h1,h2,ho⟩:=qZ ho
 have fin:Q (.bl (!c)) H:=by have:=Out.val ho hS (.bl _); simpa using this
 obtain ⟨_,a,xs,rfl,sq,p,_⟩:=bX hS r2 h1
 cases ry
 rw [hK] at sq
 rcases sq with sq|sq
 ·obtain ⟨its,rv,pl,_⟩:=I.list sq
  obtain ⟨e,he,hk⟩:=jg hK I hS (A:=X.A.in1) (by show X.A.units+1+12 < cLine; omega) r1 rx h2 p rv
  exact SeqAt.notIn_listAt e pl.isList he (by rw [hk]; exact ⟨.bl (!c),H,I,rfl,fin⟩)
 ·obtain ⟨its,rv,pl,_⟩:=I.tuple sq
  obtain ⟨e,he,hk⟩:=jg hK I hS (A:=X.A.in1) (by show X.A.units+1+12 < cLine; omega) r1 rx h2 p rv
  exact SeqAt.notIn_tupleAt e pl he (by rw [hk]; exact ⟨.bl (!c),H,I,rfl,fin⟩)
theorem yQ (hK:Γ.K=X.K):mX X (fun x H Q=>∃ ι S d,av Γ ι H S/\Rep Γ ι H d x/\Out Γ xw ι H (truth d S) fun b _ _ H'=>Q b H'):=by
 intro pins s σ H x v Q I rx h
 obtain ⟨ι,S,d,hS,r,ho⟩:=h
 refine Dj pins s σ H x v Q I rx ?_
 cases d with
 | bl b=>cases r; exact ⟨b,rfl,ho.here hS⟩
 | non=>cases r; exact ⟨false,rfl,ho.here hS⟩
 | int i=>cases r; exact ⟨_,rfl,ho.here hS⟩
 | tup ds =>
  obtain ⟨a,xs,rfl,t,p⟩:=r.bh
  rw [hK] at t
  refine ⟨!ds.isEmpty,.inr (.inl ⟨xs,t,?_⟩),ho.here hS⟩
  cases p <;> rfl
 | fro ds =>
  obtain ⟨a,xs,rfl,t,p⟩:=r.er
  have t:=t.sq
  rw [hK] at t
  refine ⟨!ds.isEmpty,.inl ⟨xs,t,?_⟩,ho.here hS⟩
  cases p <;> rfl
 | loc l =>
  obtain ⟨ds,q,ho'⟩:=Out.items ho
  obtain ⟨_,a,xs,rfl,_,p,t⟩:=bX hS r q
  ·have t:=t l rfl
   rw [hK] at t
   refine ⟨!ds.isEmpty,.inl ⟨xs,t,?_⟩,ho'.here hS⟩
   cases p <;> rfl
 | _=>exact ho.elim
theorem wB {ds:List D} {xs:List V} {i:Int} {d:D} (p:ay Γ ι H ds xs) (h:EV.atI ds i=some d):∃ v,L2.atI xs i=some v/\Rep Γ ι H d v:=by
 unfold EV.atI at h
 cases e:EV.ixN ds.length i with
 | none=>rw [e] at h; cases h
 | some j =>
  rw [e] at h
  obtain ⟨v,hv,r⟩:=Paired.get p h
  refine ⟨v,?_,r⟩
  have e':L2.ixN xs.length i=some j:=by rw [<- p.length]; exact e
  unfold L2.atI
  rw [e']
  exact hv
theorem zI (hK:Γ.K=X.K):IxR X (aX Γ xw ixD):=by
 intro value slice pins s σ H x y v u Q I rx ry h hsub
 obtain ⟨ι,S,dx,dy,hS,r1,r2,ho⟩:=h
 cases dy with
 | int j =>
  cases r2
  obtain ⟨ds,q,ho'⟩:=Out.items ho
  obtain ⟨d,q2,ho'⟩:=Out.vJ ho'
  obtain ⟨_,a,xs,rfl,sq,p,_⟩:=bX hS r1 q
  ·rw [hK] at sq
   ·obtain ⟨w,hw,rw'⟩:=wB p q2
    have fin:=Out.val ho' hS rw'
    rcases sq with sq|sq
    ·exact Cg value slice pins s σ H _ _ v u Q I rx ry ⟨a,xs,j,w,rfl,rfl,sq,hw,fin⟩ hsub
    ·exact En value slice pins s σ H _ _ v u Q I rx ry ⟨a,xs,j,w,rfl,rfl,sq,hw,fin⟩ hsub
 | _=>exact ho.elim
theorem uN:SlR X (fun x lo hi H Q=>∃ a xs,x=.ref a/\SqT X.K H a xs/\(HT.sIx xs.length 0 lo=0/\HT.sIx xs.length xs.length hi=xs.length)/\Q (.ref a) H):=by
 intro pins s σ H x v vl vu lo hi sl Q I rx hs pl pu h
 obtain ⟨a,xs,rfl,hx,hw,q⟩:=h
 cases rx
 obtain ⟨its,r,ht,hz⟩:=I.tuple hx
 have hlen:its.toArray.size=xs.length:=by rw [List.size_toArray]; exact r.length.symm
 exact ⟨"tuple",_,PyProof.Rows.slot_tuple_getitem.lookup,ht.typeIs,HT.Ed ht hs pl pu (by rw [hlen]; exact hw) ⟨.ref a,H,I,rfl,q⟩⟩
theorem jq {ds:List D} {xs:List V} (p:ay Γ ι H ds xs) (lo hi:Option Int):ay Γ ι H (cut ds lo hi) (cT xs lo hi):=by
 have e:∀ n d o,EV.sIx n d o=HT.sIx n d o:=fun n d o=>by cases o <;> rfl
 unfold cut cT
 rw [e,e,p.length]
 exact Paired.tak _ (Paired.drp _ p)
theorem AW (hK:Γ.K=X.K):SlR X (fun x lo hi H Q=>∃ ι S d,av Γ ι H S/\Rep Γ ι H d x/\Out Γ xw ι H (slD d lo hi S) fun d _ ι' H'=>∀ v,Rep Γ ι' H' d v->Q v H'):=by
 intro pins s σ H x v vl vu lo hi sl Q I rx hs pl pu h
 obtain ⟨ι,S,d,hS,r,ho⟩:=h
 cases d with
 | tup ds =>
  obtain ⟨a,xs,rfl,t,p⟩:=r.bh
  rw [hK] at t
  have pc:=jq p lo hi
  by_cases hw:HT.sIx xs.length 0 lo=0/\HT.sIx xs.length xs.length hi=xs.length
  ·have e:cT xs lo hi=xs:=by unfold cT; rw [hw.1,hw.2]; simp
   rw [e] at pc
   refine uN pins s σ H _ v vl vu lo hi sl Q I rx hs pl pu ⟨a,xs,rfl,t,hw,Out.val ho hS (.ek (by rw [hK]; exact t) pc)⟩
  ·exact tG pins s σ H _ v vl vu lo hi sl Q I rx hs pl pu ⟨a,xs,rfl,t,hw,fun q hq=>Out.tup ho hS hq pc⟩
 | fro ds =>
  obtain ⟨a,xs,rfl,t,p⟩:=r.er
  have t:=t.sq
  rw [hK] at t
  exact nZ pins s σ H _ v vl vu lo hi sl Q I rx hs pl pu ⟨a,xs,rfl,t,fun q hq=>Out.alloc ho hS hq (jq p lo hi)⟩
 | loc l =>
  obtain ⟨ds,q,ho'⟩:=Out.items ho
  obtain ⟨_,a,xs,rfl,_,p,t⟩:=bX hS r q
  ·have t:=t l rfl
   rw [hK] at t
   exact nZ pins s σ H _ v vl vu lo hi sl Q I rx hs pl pu ⟨a,xs,rfl,t,fun q hq=>Out.alloc ho' hS hq (jq p lo hi)⟩
 | _=>exact ho.elim
end
end EV

namespace EV
open PySem PySem.Spec PyProof.Rows L2
theorem ints_map:∀ {ds:List D} {is:List Int},allInts ds=some is->ds=is.map D.int
 | [],is,h=>by cases h; rfl
 | d::r,is,h=>by
  cases d with
  | int i =>
   simp only [allInts,Option.map_eq_some_iff] at h
   obtain ⟨js,e,rfl⟩:=h
   rw [ints_map e]; rfl
  | _=>cases h
theorem qV:∀ {ds:List D} {is:List Bool},cM ds=some is->ds=is.map D.bl
 | [],is,h=>by cases h; rfl
 | d::r,is,h=>by
  cases d with
  | bl i =>
   simp only [cM,Option.map_eq_some_iff] at h
   obtain ⟨js,e,rfl⟩:=h
   rw [qV e]; rfl
  | _=>cases h
theorem d7 {Γ:Gx} {ι:List Addr} {H:Hp}:∀ {is:List Int} {xs:List V},ay Γ ι H (is.map D.int) xs->xs=is.map V.int
 | [],_,.nil=>rfl
 | i::r,_,.cons (b:=y) h t=>by
  cases h
  rw [d7 t]; rfl
theorem o8 {Γ:Gx} {ι:List Addr} {H:Hp}:∀ {is:List Bool} {xs:List V},ay Γ ι H (is.map D.bl) xs->xs=is.map V.bl
 | [],_,.nil=>rfl
 | i::r,_,.cons (b:=y) h t=>by
  cases h
  rw [o8 t]; rfl
theorem gY {Γ:Gx} {ι:List Addr} {H:Hp}:∀ (is:List Int),ay Γ ι H (is.map D.int) (is.map V.int)
 | []=>.nil
 | i::r=>.cons (.int i) (gY r)
theorem nQ (is:List Int):∀ k,preSum (fun i=>is.getD i 0) k=(is.take k).sum
 | 0=>by simp [preSum]
 | k+1=>by
  rw [preSum,nQ is k,List.take_add_one,List.sum_append]
  congr 1
  rw [List.getD_eq_getElem?_getD]
  cases is[k]? <;> simp
theorem range_all (bs:List Bool):(List.range bs.length).all (fun i=>bs.getD i false)=bs.all id:=by
 rw [Bool.eq_iff_iff,List.all_eq_true,List.all_eq_true]
 constructor
 ·intro h b hb
  obtain ⟨i,e⟩:=List.getElem?_of_mem hb
  have:=h i (by rw [List.mem_range]; exact (List.getElem?_eq_some_iff.mp e).1)
  rw [List.getD_eq_getElem?_getD,e] at this
  exact this
 ·intro h i hi
  rw [List.mem_range] at hi
  rw [List.getD_eq_getElem?_getD,List.getElem?_eq_getElem hi]
  exact h _ (List.getElem_mem hi)
theorem m9:∀ (r:List Int) (i:Int),r.foldl min i<=i/\∀ a∈r,r.foldl min i<=a
 | [],i=>⟨Int.le_refl _,fun a h=>absurd h (by simp)⟩
 | b::r,i=>by
  obtain ⟨h1,h2⟩:=m9 r (min i b)
  simp only [List.foldl_cons]
  refine ⟨by omega,fun a ha=>?_⟩
  rcases List.mem_cons.mp ha with rfl|ha
  ·omega
  ·exact h2 a ha
theorem oS:∀ (r:List Int) (i:Int),r.foldl min i=i\/r.foldl min i∈r
 | [],i=>.inl rfl
 | b::r,i=>by
  simp only [List.foldl_cons]
  rcases oS r (min i b) with h|h
  ·rw [h]
   by_cases hb:i<=b
   ·exact .inl (by omega)
   ·exact .inr (by rw [show min i b=b by omega]; exact List.mem_cons_self)
  ·exact .inr (List.mem_cons_of_mem _ h)
theorem pD:∀ (r:List Int) (i:Int),i<=r.foldl max i/\∀ a∈r,a<=r.foldl max i
 | [],i=>⟨Int.le_refl _,fun a h=>absurd h (by simp)⟩
 | b::r,i=>by
  obtain ⟨h1,h2⟩:=pD r (max i b)
  simp only [List.foldl_cons]
  refine ⟨by omega,fun a ha=>?_⟩
  rcases List.mem_cons.mp ha with rfl|ha
  ·omega
  ·exact h2 a ha
theorem m5:∀ (r:List Int) (i:Int),r.foldl max i=i\/r.foldl max i∈r
 | [],i=>.inl rfl
 | b::r,i=>by
  simp only [List.foldl_cons]
  rcases m5 r (max i b) with h|h
  ·rw [h]
   by_cases hb:b<=i
   ·exact .inl (by omega)
   ·exact .inr (by rw [show max i b=b by omega]; exact List.mem_cons_self)
  ·exact .inr (List.mem_cons_of_mem _ h)
theorem kI (i:Int):∀ r:List Int,(ins i r).Perm (i::r)
 | []=>.refl _
 | j::r=>by
  simp only [ins]
  split
  ·exact .refl _
  ·exact ((kI i r).cons j).trans (.swap i j r)
theorem fL:∀ r:List Int,(cV r).Perm r
 | []=>.refl _
 | i::r=>(kI i _).trans ((fL r).cons i)
theorem p5 (i:Int):∀ {r:List Int},r.Pairwise (·<=·)->(ins i r).Pairwise (·<=·)
 | [],_=>by simp [ins]
 | j::r,h=>by
  simp only [ins]
  split
  ·rename_i hij
   refine List.pairwise_cons.mpr ⟨fun a ha=>?_,h⟩
   rcases List.mem_cons.mp ha with rfl|ha
   ·exact hij
   ·exact Int.le_trans hij ((List.pairwise_cons.mp h).1 a ha)
  ·rename_i hij
   refine List.pairwise_cons.mpr ⟨fun a ha=>?_,p5 i (List.pairwise_cons.mp h).2⟩
   rcases List.mem_cons.mp ((kI i r).mem_iff.mp ha) with rfl|ha
   ·omega
   ·exact (List.pairwise_cons.mp h).1 a ha
theorem sL:∀ r:List Int,(cV r).Pairwise (·<=·)
 | []=>.nil
 | i::r=>p5 i (sL r)
section
variable {X:Cx} {Γ:Gx} {xw:XW} {pins:List (Addr × Obj)} {σ:L2.St} {H:Hp} {s:Shared} {ι:List Addr} {S:af} {sub:Sub}
theorem gW {b:Bi} {xs:List V} {Q:VK} (hb:b.isR=false) (hb2:∀ a c S,bi2 b a c S=.bad) (h:cA Γ xw (biD sub b) xs H Q) :
  ∃ ι S a x,xs=[x]/\av Γ ι H S/\Rep Γ ι H a x/\Out Γ xw ι H (bi1 sub b a S) fun d _ ι' H'=>∀ v,Rep Γ ι' H' d v->Q v H':=by
 obtain ⟨ι,S,ds,hS,r,ho⟩:=h
 unfold biD at ho
 rw [hb] at ho
 match ds,r with
 | [],.nil=>exact ho.elim
 | [a],.cons (b:=x) ra .nil=>exact ⟨ι,S,a,x,rfl,hS,ra,ho⟩
 | [a,c],_ =>
  have ho':Out Γ xw ι H (bi2 b a c S) _:=ho
  rw [hb2] at ho'
  exact ho'.elim
 | _::_::_::_,_=>exact ho.elim
theorem iJ (hK:Γ.K=X.K) (I:Inv X pins σ H s) {a:Addr} {xs:List V} (sq:SqL Γ.K H a xs\/SqT Γ.K H a xs):∃ its:List Value,Vals xs its/\∀ (A:Around) (E:Value->Shared->Prop) (Q:Value->Shared->Prop),A.handled=none ->
  (∀ (I0:Addr) (fp:List Addr) (St:Nat->Heap->Prop) (s2:Shared),Walks X.prog X.w A I0 fp [I0] its.toArray.size (fun i v=>its.toArray[i]?=some v) St->St 0 s2.heap->(∀ b∈fp,b < s2.heap.objs.size) ->
   (∀ h' tk,(∀ b o,b ∉ [I0]->s2.heap.get? b=some o->h'.get? b=some o)->Inv X pins σ H { s2 with heap:=h',toks:=tk })->Q (.ref I0) s2)->wpAny (model X.prog X.w) A (pyIter (.ref a)) Q E s:=by
 rw [hK] at sq
 rcases sq with sq|sq
 ·obtain ⟨its,rv,pl,_⟩:=I.list sq
  refine ⟨its,rv,fun A E Q hh hQ=>wpAny_pyIter_list pl.isList ?_⟩
  obtain ⟨o,ho,_⟩:=id pl.isList
  have hlt:=Heap.lt_size ho
  refine hQ s.heap.objs.size _ _ _ (Walks.list hh _ a (Nat.ne_of_lt hlt) its.toArray) ⟨⟨_,Heap.get?_push_size _ rfl,rfl,rfl⟩,pl.isList.at fun o e=>Heap.get?_push_of_some _ e⟩ (fun b hb=>?_) fun h' tk hk=>?_
  ·rw [Heap.size_push]
   rcases List.mem_cons.mp hb with rfl|hb
   ·exact Nat.lt_succ_self _
   ·have:b=a:=by simpa using hb
    subst this; exact Nat.lt_succ_of_lt hlt
  ·exact I.kept fun b u e=>hk b u (by simpa using Nat.ne_of_lt (Heap.lt_size e)) (Heap.get?_push_of_some _ e)
 ·obtain ⟨its,rv,pl,_⟩:=I.tuple sq
  refine ⟨its,rv,fun A E Q hh hQ=>wpAny_pyIter_tuple (show s.heap.IsTuple a its.toArray from pl) ?_⟩
  obtain ⟨o,ho,hc,hd⟩:=id pl
  have hlt:=Heap.lt_size ho
  refine hQ s.heap.objs.size _ _ _ (Walks.tuple hh _ a (Nat.ne_of_lt hlt) its.toArray) ⟨⟨_,Heap.get?_push_size _ rfl,rfl,rfl⟩,⟨o,Heap.get?_push_of_some _ ho,hc,hd⟩⟩ (fun b hb=>?_) fun h' tk hk=>?_
  ·rw [Heap.size_push]
   rcases List.mem_cons.mp hb with rfl|hb
   ·exact Nat.lt_succ_self _
   ·have:b=a:=by simpa using hb
    subst this; exact Nat.lt_succ_of_lt hlt
  ·exact I.kept fun b u e=>hk b u (by simpa using Nat.ne_of_lt (Heap.lt_size e)) (Heap.get?_push_of_some _ e)
theorem fW {is:List Int} {its:List Value} (rv:Vals (is.map V.int) its) {i:Nat} {v:Value} (h:its.toArray[i]?=some v):∃ t,v=.int (is.getD i 0) t:=by
 have h':its[i]?=some v:=by simpa using h
 obtain ⟨x,hx,r⟩:=Paired.get' rv h'
 rw [List.getElem?_map,Option.map_eq_some_iff] at hx
 obtain ⟨j,hj,rfl⟩:=hx
 obtain ⟨t,rfl⟩:=r
 exact ⟨t,by rw [List.getD_eq_getElem?_getD,hj]; rfl⟩
theorem ya {is:List Bool} {its:List Value} (rv:Vals (is.map V.bl) its) {i:Nat} {v:Value} (h:its.toArray[i]?=some v):v=.bool (is.getD i false):=by
 have h':its[i]?=some v:=by simpa using h
 obtain ⟨x,hx,r⟩:=Paired.get' rv h'
 rw [List.getElem?_map,Option.map_eq_some_iff] at hx
 obtain ⟨j,hj,rfl⟩:=hx
 cases r
 rw [List.getD_eq_getElem?_getD,hj]; rfl
theorem uK (hK:Γ.K=X.K):bI X (.builtin "len") (cA Γ xw (biD sub .len)):=by
 intro pins s σ H xs us Q I rs h
 obtain ⟨ι,S,a,x,rfl,hS,r,ho⟩:=gW rfl (fun _ _ _=>rfl) h
 obtain ⟨ds,q,ho⟩:=Out.items ho
 obtain ⟨_,p,ys,rfl,sq,rp,_⟩:=bX hS r q
 rw [hK] at sq
 refine uL pins s σ H _ us Q I rs ⟨p,ys,rfl,sq,?_⟩
 rw [<- rp.length]
 exact Out.val ho hS (.int _)
theorem Dz (hK:Γ.K=X.K) (hc:X.calm=true):bI X (.builtin "all") (cA Γ xw (biD sub .all)):=by
 intro pins s σ H xs us Q I rs h
 obtain ⟨ι,S,a,x,rfl,hS,r,ho⟩:=gW rfl (fun _ _ _=>rfl) h
 obtain ⟨ds,q,ho⟩:=Out.items ho
 obtain ⟨bs,q2,ho⟩:=Out.opt ho
 obtain ⟨_,p,ys,rfl,sq,rp,_⟩:=bX hS r q
 rw [qV q2] at rp
 have e:=o8 rp
 subst e
 obtain ⟨u,rfl,ru⟩:=rs.one
 cases ru
 obtain ⟨its,rv,wk⟩:=iJ hK I sq
 refine call_all_walk (wk X.A.in1 _ _ (I.ok.hd hc) fun I0 fp St s2 W st fl inv=>⟨I0,fp,[I0],_,_,St,fun i=>bs.getD i false,rfl,W,st,fun i v s' Q' E' hv hq=>?_,fun h' tk hk=>?_⟩)
 ·rw [ya rv hv]; exact wpAny_truthy_bool hq
 ·have hl:its.toArray.size=bs.length:=by rw [List.size_toArray,<- rv.length,List.length_map]
  rw [hl,range_all]
  exact ⟨.bl _,H,inv h' tk hk,rfl,Out.val ho hS (.bl _)⟩
theorem yC (hK:Γ.K=X.K) (hc:X.calm=true):bI X (.builtin "sum") (cA Γ xw (biD sub .sum)):=by
 intro pins s σ H xs us Q I rs h
 obtain ⟨ι,S,a,x,rfl,hS,r,ho⟩:=gW rfl (fun _ _ _=>rfl) h
 obtain ⟨ds,q,ho⟩:=Out.items ho
 obtain ⟨is,q2,ho⟩:=Out.opt ho
 obtain ⟨_,p,ys,rfl,sq,rp,_⟩:=bX hS r q
 rw [ints_map q2] at rp
 have e:=d7 rp
 subst e
 obtain ⟨u,rfl,ru⟩:=rs.one
 cases ru
 obtain ⟨its,rv,wk⟩:=iJ hK I sq
 refine call_sum_walkG (wk X.A.in1 _ _ (I.ok.hd hc) fun I0 fp St s2 W st fl inv=>⟨I0,fp,[I0],_,_,St,fun i=>is.getD i 0,rfl,W,st,fl,fun i v hv=>fW rv hv,fun h' tk t' hk=>?_⟩)
 have hl:its.toArray.size=is.length:=by rw [List.size_toArray,<- rv.length,List.length_map]
 rw [hl,nQ,List.take_length]
 exact ⟨.int _,H,inv h' tk hk,⟨_,rfl⟩,Out.val ho hS (.int _)⟩
end
end EV

namespace EV
open PySem PySem.Spec PyProof.Rows L2
section
variable {X:Cx} {Γ:Gx} {xw:XW} {pins:List (Addr × Obj)} {σ:L2.St} {H:Hp} {s:Shared} {ι:List Addr} {S:af} {sub:Sub}
theorem r_ {b:Bi} {xs:List V} {Q:VK} (hb:b.isR=false) (h:cA Γ xw (biD sub b) xs H Q) :
  (∃ ι S a x,xs=[x]/\av Γ ι H S/\Rep Γ ι H a x/\Out Γ xw ι H (bi1 sub b a S) fun d _ ι' H'=>∀ v,Rep Γ ι' H' d v->Q v H') \/
  (∃ ι S a c x y,xs=[x,y]/\av Γ ι H S/\Rep Γ ι H a x/\Rep Γ ι H c y/\Out Γ xw ι H (bi2 b a c S) fun d _ ι' H'=>∀ v,Rep Γ ι' H' d v->Q v H'):=by
 obtain ⟨ι,S,ds,hS,r,ho⟩:=h
 unfold biD at ho
 rw [hb] at ho
 have hl:ds.length=1\/ds.length=2\/ds=[]\/∃ a c e q,ds=a::c::e::q:=by
  rcases ds with _|⟨a,_|⟨c,_|⟨e,q⟩⟩⟩
  ·exact .inr (.inr (.inl rfl))
  ·exact .inl rfl
  ·exact .inr (.inl rfl)
  ·exact .inr (.inr (.inr ⟨_,_,_,_,rfl⟩))
 rcases hl with hl|hl|rfl|⟨_,_,_,_,rfl⟩
 ·obtain ⟨a,_,x,_,rfl,rfl,ra,r,hl⟩:=Paired.step r hl
  obtain ⟨rfl,rfl⟩:=Paired.last r hl
  exact .inl ⟨ι,S,a,x,rfl,hS,ra,ho⟩
 ·obtain ⟨a,_,x,_,rfl,rfl,ra,r,hl⟩:=Paired.step r hl
  obtain ⟨c,_,y,_,rfl,rfl,rc,r,hl⟩:=Paired.step r hl
  obtain ⟨rfl,rfl⟩:=Paired.last r hl
  exact .inr ⟨ι,S,a,c,x,y,rfl,hS,ra,rc,ho⟩
 ·exact ho.elim
 ·exact ho.elim
theorem DB {is:List Int} {i:Int} {r:List Int} (h:is=i::r) {M:Int} (hm:M∈is) (hle:∀ a∈is,M<=a):M=r.foldl min i:=by
 subst h
 obtain ⟨h1,h2⟩:=m9 r i
 have e1:r.foldl min i<=M:=by
  rcases List.mem_cons.mp hm with rfl|hm
  ·exact h1
  ·exact h2 M hm
 have e2:M<=r.foldl min i:=by
  rcases oS r i with h|h
  ·rw [h]; exact hle i List.mem_cons_self
  ·exact hle _ (List.mem_cons_of_mem _ h)
 omega
theorem Cr {is:List Int} {i:Int} {r:List Int} (h:is=i::r) {M:Int} (hm:M∈is) (hle:∀ a∈is,a<=M):M=r.foldl max i:=by
 subst h
 obtain ⟨h1,h2⟩:=pD r i
 have e1:M<=r.foldl max i:=by
  rcases List.mem_cons.mp hm with rfl|hm
  ·exact h1
  ·exact h2 M hm
 have e2:r.foldl max i<=M:=by
  rcases m5 r i with h|h
  ·rw [h]; exact hle i List.mem_cons_self
  ·exact hle _ (List.mem_cons_of_mem _ h)
 omega
theorem getD_in {is:List Int} {j:Nat} (h:j < is.length):is.getD j 0∈is:=by
 rw [List.getD_eq_getElem?_getD,List.getElem?_eq_getElem h]
 exact List.getElem_mem h
theorem Ah (hK:Γ.K=X.K) (hc:X.calm=true):bI X (.builtin "min") (cA Γ xw (biD sub .min)):=by
 intro pins s σ H xs us Q I rs h
 rcases r_ rfl h with ⟨ι,S,a,x,rfl,hS,r,ho⟩|⟨ι,S,a,c,x,y,rfl,hS,r1,r2,ho⟩
 ·obtain ⟨ds,q,ho⟩:=Out.items ho
  obtain ⟨is,q2,ho⟩:=Out.opt ho
  obtain ⟨_,p,ys,rfl,sq,rp,_⟩:=bX hS r q
  rw [ints_map q2] at rp
  have e:=d7 rp
  subst e
  obtain ⟨u,rfl,ru⟩:=rs.one
  cases ru
  cases hi:is with
  | nil=>rw [hi] at ho; exact ho.elim
  | cons i0 r0 =>
   rw [hi] at ho
   have fin:Q (.int (r0.foldl min i0)) H:=Out.val ho hS (.int _)
   obtain ⟨its,rv,wk⟩:=iJ hK I sq
   have hl:its.toArray.size=is.length:=by rw [List.size_toArray,<- rv.length,List.length_map]
   refine call_min_walk (wk X.A.in1 _ _ (I.ok.hd hc) fun I0 fp St s2 W st fl inv=>⟨I0,fp,[I0],_,_,St,fun i j=>decide (is.getD i 0 < is.getD j 0),rfl,W,st,fl,by rw [hl,hi]; simp,CmpOf.ints_lt (fun i=>is.getD i 0) fun i v hv=>fW rv hv,fun v h' tk hv hk=>?_⟩)
   obtain ⟨t,rfl⟩:=fW rv hv
   obtain ⟨h1,h2⟩:=argBest_lt (fun i=>is.getD i 0) (its.toArray.size - 1)
   have hpos:0 < is.length:=by rw [hi]; simp
   have e:is.getD (argBest (fun i j=>decide (is.getD i 0 < is.getD j 0)) (its.toArray.size - 1)) 0=r0.foldl min i0:=DB hi (getD_in (by omega)) fun b hb=>by
    obtain ⟨j,ej⟩:=List.getElem?_of_mem hb
    have hj:=(List.getElem?_eq_some_iff.mp ej).1
    have:=h2 j (by omega)
    rw [show is.getD j 0=b by rw [List.getD_eq_getElem?_getD,ej]; rfl] at this
    exact this
   rw [e]
   exact ⟨.int _,H,inv h' tk hk,⟨_,rfl⟩,fin⟩
 ·cases a with
  | int i =>
   cases c with
   | int j=>cases r1; cases r2; exact z_ hc pins s σ H _ us Q I rs ⟨i,j,rfl,Out.val ho hS (.int _)⟩
   | _=>exact ho.elim
  | _=>exact ho.elim
theorem vP (hK:Γ.K=X.K) (hc:X.calm=true):bI X (.builtin "max") (cA Γ xw (biD sub .max)):=by
 intro pins s σ H xs us Q I rs h
 rcases r_ rfl h with ⟨ι,S,a,x,rfl,hS,r,ho⟩|⟨ι,S,a,c,x,y,rfl,hS,r1,r2,ho⟩
 ·obtain ⟨ds,q,ho⟩:=Out.items ho
  obtain ⟨is,q2,ho⟩:=Out.opt ho
  obtain ⟨_,p,ys,rfl,sq,rp,_⟩:=bX hS r q
  rw [ints_map q2] at rp
  have e:=d7 rp
  subst e
  obtain ⟨u,rfl,ru⟩:=rs.one
  cases ru
  cases hi:is with
  | nil=>rw [hi] at ho; exact ho.elim
  | cons i0 r0 =>
   rw [hi] at ho
   have fin:Q (.int (r0.foldl max i0)) H:=Out.val ho hS (.int _)
   obtain ⟨its,rv,wk⟩:=iJ hK I sq
   have hl:its.toArray.size=is.length:=by rw [List.size_toArray,<- rv.length,List.length_map]
   refine call_max_walk (wk X.A.in1 _ _ (I.ok.hd hc) fun I0 fp St s2 W st fl inv=>⟨I0,fp,[I0],_,_,St,fun i j=>decide (is.getD i 0 > is.getD j 0),rfl,W,st,fl,by rw [hl,hi]; simp,CmpOf.ints_gt (fun i=>is.getD i 0) fun i v hv=>fW rv hv,fun v h' tk hv hk=>?_⟩)
   obtain ⟨t,rfl⟩:=fW rv hv
   obtain ⟨h1,h2⟩:=argBest_gt (fun i=>is.getD i 0) (its.toArray.size - 1)
   have hpos:0 < is.length:=by rw [hi]; simp
   have e:is.getD (argBest (fun i j=>decide (is.getD i 0 > is.getD j 0)) (its.toArray.size - 1)) 0=r0.foldl max i0:=Cr hi (getD_in (by omega)) fun b hb=>by
    obtain ⟨j,ej⟩:=List.getElem?_of_mem hb
    have hj:=(List.getElem?_eq_some_iff.mp ej).1
    have:=h2 j (by omega)
    rw [show is.getD j 0=b by rw [List.getD_eq_getElem?_getD,ej]; rfl] at this
    exact this
   rw [e]
   exact ⟨.int _,H,inv h' tk hk,⟨_,rfl⟩,fin⟩
 ·cases a with
  | int i =>
   cases c with
   | int j=>cases r1; cases r2; exact ym hc pins s σ H _ us Q I rs ⟨i,j,rfl,Out.val ho hS (.int _)⟩
   | _=>exact ho.elim
  | _=>exact ho.elim
theorem vV (hS:av Γ ι H S) {d:D} {v:V} {ds:List D} {S':af} (r:Rep Γ ι H d v) (h:cK d S=.ok ds S'):S'=S/\∃ a xs,v=.ref a/\SqL Γ.K H a xs/\ay Γ ι H ds xs:=by
 cases d with
 | fro es=>cases h; obtain ⟨a,xs,e,f,p⟩:=r.er; exact ⟨rfl,a,xs,e,f.sq,p⟩
 | loc l=>obtain ⟨e,a,xs,e2,_,p,t⟩:=bX hS r (show items (.loc l) S=.ok ds S' from h); exact ⟨e,a,xs,e2,t l rfl,p⟩
 | _=>cases h
theorem xA (d:D) (S:af):(∃ ds,cK d S=.ok ds S)\/cK d S=.bad:=by
 cases d with
 | fro ds=>exact .inl ⟨ds,rfl⟩
 | loc l=>exact gr (.loc l) S
 | _=>exact .inr rfl
theorem Out.cK {α:Type} {d:D} {f:List D->M α} {k:α->af->List Addr->Hp->Prop} (ho:Out Γ xw ι H ((EV.cK d>>=f) S) k):∃ ds,EV.cK d S=.ok ds S/\Out Γ xw ι H (f ds S) k:=by
 rcases xA d S with ⟨ds,e⟩|e
 ·rw [ak e] at ho; exact ⟨ds,e,ho⟩
 ·rw [aU e] at ho; exact ho.elim
theorem l8:∀ {vs:List Value} {ns:List Int},IntsAre vs ns->Vals (ns.map V.int) vs
 | _,_,.nil=>.nil
 | _,_,.cons n t h=>.cons ⟨t,rfl⟩ (l8 h)
theorem zp (hK:Γ.K=X.K):bI X (.type "tuple") (cA Γ xw (biD sub .tuple)):=by
 intro pins s σ H xs us Q I rs h
 obtain ⟨ι,S,a,x,rfl,hS,r,ho⟩:=gW rfl (fun _ _ _=>rfl) h
 obtain ⟨ds,q,ho⟩:=Out.items ho
 obtain ⟨_,p,ys,rfl,sq,rp,_⟩:=bX hS r q
 rw [hK] at sq
 rcases sq with sq|sq
 ·exact mR pins s σ H _ us Q I rs ⟨p,ys,rfl,.inl ⟨sq,fun l hl=>Out.tup ho hS hl rp⟩⟩
 ·exact mR pins s σ H _ us Q I rs ⟨p,ys,rfl,.inr ⟨sq,Out.val ho hS (.ek (by rw [hK]; exact sq) rp)⟩⟩
noncomputable def Ty.name:Ty->Option String
 | .int=>some "int" | .bool=>some "bool" | .str=>some "str" | .list=>some "list" | .tuple=>some "tuple" | .dict=>some "dict" | .cls _=>none
theorem Aw (hK:Γ.K=X.K) (I:Inv X pins σ H s) (hS:av Γ ι H S) {t:Ty} {T:String} (ht:t.name=some T) {d:D} {x:V} {v:Value} (r:Rep Γ ι H d x) (rx:RelV x v) {k:Bool} (h:eZ sub S d t=some k) {A:Around} {E:Value->Shared->Prop} {Q:Value->Shared->Prop}
  (hq:∀ tk,Q (.bool k) { s with toks:=tk }):wpAny (model X.prog X.w) A (call (.builtin "isinstance") [v,.type T]) Q E s:=by
 have seqL:∀ {a:Addr} {xs:List V},SqL X.K H a xs->∀ {b:Bool},PySem.W.kitOne X.K (.type "list") (.type T)=some b->(∀ tk,Q (.bool b) { s with toks:=tk })->wpAny (model X.prog X.w) A (call (.builtin "isinstance") [.ref a,.type T]) Q E s:=fun {a xs} sq {b} e hq=>by
  obtain ⟨its,_,pl,_⟩:=I.list sq
  obtain ⟨o,h1,h2,_⟩:=pl.isList
  exact PySem.W.kia_one PySem.W.kitx_list I.kIn ⟨o,h1,h2⟩ e (fun z=>nomatch z) hq
 cases d with
 | non=>cases r; cases rx; cases t <;> cases ht <;> cases h <;> exact PySem.W.kia_one PySem.W.kitx_none I.kIn True.intro (by rfl) (fun z=>nomatch z) hq
 | bl b=>cases r; cases rx; cases t <;> cases ht <;> cases h <;> exact PySem.W.kia_one PySem.W.kitx_bool I.kIn True.intro (by rfl) (fun z=>nomatch z) hq
 | int b=>cases r; obtain ⟨tk,rfl⟩:=rx; cases t <;> cases ht <;> cases h <;> exact PySem.W.kia_one PySem.W.kitx_int I.kIn True.intro (by rfl) (fun z=>nomatch z) hq
 | str b=>cases r; obtain ⟨tk,rfl⟩:=rx; cases t <;> cases ht <;> cases h <;> exact PySem.W.kia_one PySem.W.kitx_str I.kIn True.intro (by rfl) (fun z=>nomatch z) hq
 | tup ds =>
  obtain ⟨a,xs,rfl,sq,_⟩:=r.bh
  cases rx
  rw [hK] at sq
  obtain ⟨its,_,pl,_⟩:=I.tuple sq
  obtain ⟨o,h1,h2,_⟩:=pl
  cases t <;> cases ht <;> cases h <;> exact PySem.W.kia_one PySem.W.kitx_tuple I.kIn ⟨o,h1,h2⟩ (by rfl) (fun z=>nomatch z) hq
 | fro ds =>
  obtain ⟨a,xs,rfl,sq,_⟩:=r.er
  cases rx
  have sq:=sq.sq
  rw [hK] at sq
  cases t <;> cases ht <;> cases h <;> exact seqL sq (by rfl) hq
 | loc l =>
  cases r with
  | loc ql =>
   cases rx
   simp only [eZ] at h
   cases q:S[l]? with
   | none=>rw [q] at h; cases t <;> cases ht <;> cases h
   | some c =>
    rw [q] at h
    cases c with
    | lst ds =>
     obtain ⟨a,xs,ha,hx,_⟩:=hS.lst q
     rw [ql] at ha; cases ha
     cases t <;> cases ht <;> cases h <;> exact seqL (.of hx) (by rfl) hq
    | dct kvs=>obtain ⟨a,_,c⟩:=hS.cell l _ q; exact c.elim
 | exn c=>cases r
end
end EV

namespace EV
open PySem PySem.Spec PyProof.Rows L2
section
variable {X:Cx} {Γ:Gx} {xw:XW} {a b c:Expr} {ma mb mc:Sg->M D} {pos:Pos}
theorem yF {i:Nat} {x:Str} (hN:X.N[i]?=some x) (hv:Vis X.env.scope x) (hd:(x==("__debug__" : Str))=false) (hcd:(x==("__classdict__" : Str))=false):PE X (.Name x pos) (tM Γ xw fun σ=>bg σ i) :=
 PE.imp (u6 hN hv hd hcd) fun σ H Q h=>by
  obtain ⟨σd,ι,S,he,hs,ho⟩:=h
  have ho:Out Γ xw ι H (bg σd i S) fun d _ ι' H'=>∀ v,Rep Γ ι' H' d v->Q v H':=ho
  cases q:σd[i]? with
  | none=>rw [show bg σd i S=.bad by unfold bg; rw [q]; rfl] at ho; exact ho.elim
  | some o =>
   cases o with
   | none=>rw [show bg σd i S=.bad by unfold bg; rw [q]; rfl] at ho; exact ho.elim
   | some d =>
    rw [show bg σd i S=.ok d S by unfold bg; rw [q]; rfl] at ho
    obtain ⟨v,hv,r⟩:=he.var i d q
    exact ⟨v,hv,ho.here hs v r⟩
theorem fS {e:Expr} {d:D} {v:V} (h:PE X e (tC v)) (r:∀ ι H,Rep Γ ι H d v):PE X e (tM Γ xw fun _=>pure d) :=
 PE.imp h fun σ H Q h=>by
  obtain ⟨σd,ι,S,he,hs,ho⟩:=h
  exact ho.here hs v (r _ _)
theorem Df {op:Operator} {f:D->D->M D} (ho:OpR X (binaryOp op) (aX Γ xw f)) (ha:PE X a (tM Γ xw ma)) (hb:PE X b (tM Γ xw mb)):PE X (.BinOp a op b pos) (tM Γ xw fun σ=>ma σ>>=fun x=>mb σ>>=fun y=>f x y) :=
 PE.imp (xD ho ha hb) fun _ _ _ h=>j3 h
theorem wN {op:CmpOp} {f:D->D->M D} (ho:OpR X (compareOp op) (aX Γ xw f)) (ha:PE X a (tM Γ xw ma)) (hb:PE X b (tM Γ xw mb)) (hm:behindInMarks op b=false):PE X (.Compare a [op] [b] pos) (tM Γ xw fun σ=>ma σ>>=fun x=>mb σ>>=fun y=>f x y) :=
 PE.imp (A6 ho ha hb hm) fun _ _ _ h=>j3 h
theorem vY {rest:List Expr} (ha:PE X a (tM Γ xw ma)) (hb:PE X (.BoolOp .And (b::rest) pos) (tM Γ xw mb)):PE X (.BoolOp .And (a::b::rest) pos) (tM Γ xw fun σ=>ma σ>>=fun x=>match x with|.bl true=>mb σ|.bl false=>pure (.bl false)|_=>bad) :=
 PE.imp (uG ha hb) fun σ H Q h=>by
  obtain ⟨σd,ι,S,he,hs,ho⟩:=h
  refine ⟨σd,ι,S,he,hs,ho.bind.mono fun d S' ι' H' _ _ ⟨s',e',o'⟩ v r=>?_⟩
  cases d with
  | bl k =>
   cases r
   refine ⟨k,rfl,?_⟩
   cases k with
   | true=>rw [if_pos rfl]; exact ⟨σd,ι',S',he.ext e',s',o'⟩
   | false=>rw [if_neg Bool.false_ne_true]; exact o'.here s' _ (.bl _)
  | _=>exact o'.elim
theorem AL {rest:List Expr} (ha:PE X a (tM Γ xw ma)) (hb:PE X (.BoolOp .Or (b::rest) pos) (tM Γ xw mb)):PE X (.BoolOp .Or (a::b::rest) pos) (tM Γ xw fun σ=>ma σ>>=fun x=>match x with|.bl true=>pure (.bl true)|.bl false=>mb σ|_=>bad) :=
 PE.imp (u7 ha hb) fun σ H Q h=>by
  obtain ⟨σd,ι,S,he,hs,ho⟩:=h
  refine ⟨σd,ι,S,he,hs,ho.bind.mono fun d S' ι' H' _ _ ⟨s',e',o'⟩ v r=>?_⟩
  cases d with
  | bl k =>
   cases r
   refine ⟨k,rfl,?_⟩
   cases k with
   | false=>rw [if_neg Bool.false_ne_true]; exact ⟨σd,ι',S',he.ext e',s',o'⟩
   | true=>rw [if_pos rfl]; exact o'.here s' _ (.bl _)
  | _=>exact o'.elim
theorem B5 (ha:PE X a (tM Γ xw ma)):PE X (.UnaryOp .Not a pos) (tM Γ xw fun σ=>ma σ>>=fun x=>match x with|.bl b=>pure (.bl (!b))|_=>bad) :=
 PE.imp (uh ha) fun σ H Q h=>by
  obtain ⟨σd,ι,S,he,hs,ho⟩:=h
  refine ⟨σd,ι,S,he,hs,ho.bind.mono fun d S' ι' H' _ _ ⟨s',e',o'⟩ v r=>?_⟩
  cases d with
  | bl k=>cases r; exact ⟨k,rfl,o'.here s' _ (.bl _)⟩
  | _=>exact o'.elim
theorem AX (ha:PE X a (tM Γ xw ma)):PE X (.UnaryOp .USub a pos) (tM Γ xw fun σ=>ma σ>>=fun x=>match x with|.int i=>pure (.int (-i))|_=>bad) :=
 PE.imp (BZ CH ha) fun σ H Q h=>by
  obtain ⟨σd,ι,S,he,hs,ho⟩:=h
  refine ⟨σd,ι,S,he,hs,ho.bind.mono fun d S' ι' H' _ _ ⟨s',e',o'⟩ v r=>?_⟩
  cases d with
  | int k=>cases r; exact ⟨k,rfl,o'.here s' _ (.int _)⟩
  | _=>exact o'.elim
theorem h_ {ι:List Addr} {H:Hp} {d:D} {v:V} (r:Rep Γ ι H d v):decide (v=.non)=decide (d=.non):=by
 cases r <;> simp
theorem BH {j pos'} (ha:PE X a (tM Γ xw ma)):PE X (.Compare a [.Is] [.Constant .none j pos'] pos) (tM Γ xw fun σ=>ma σ>>=fun x=>pure (.bl (decide (x=.non)))) :=
 PE.imp (nD (sj ha)) fun σ H Q h=>by
  obtain ⟨σd,ι,S,he,hs,ho⟩:=h
  refine ⟨σd,ι,S,he,hs,ho.bind.mono fun d S' ι' H' _ _ ⟨s',e',o'⟩ v r=>?_⟩
  show Q (.bl (decide (v=.non))) H'
  rw [h_ r]; exact o'.here s' _ (.bl _)
theorem yk {j pos'} (ha:PE X a (tM Γ xw ma)):PE X (.Compare a [.IsNot] [.Constant .none j pos'] pos) (tM Γ xw fun σ=>ma σ>>=fun x=>pure (.bl (!decide (x=.non)))) :=
 PE.imp (nD (qW ha)) fun σ H Q h=>by
  obtain ⟨σd,ι,S,he,hs,ho⟩:=h
  refine ⟨σd,ι,S,he,hs,ho.bind.mono fun d S' ι' H' _ _ ⟨s',e',o'⟩ v r=>?_⟩
  show Q (.bl (!decide (v=.non))) H'
  rw [h_ r]; exact o'.here s' _ (.bl _)
theorem tF {op op':CmpOp} {f f':D->D->M D} (ho:OpR X (compareOp op) (aX Γ xw f)) (ho':OpR X (compareOp op') (aX Γ xw f')) (ha:PE X a (tM Γ xw ma)) (hb:PE X b (tM Γ xw mb)) (hc:PE X c (tM Γ xw mc)) (hm:lastMarks [op,op'] [b,c]=false) :
  PE X (.Compare a [op,op'] [b,c] pos) (tM Γ xw fun σ=>ma σ>>=fun x=>mb σ>>=fun y=>f x y>>=fun r=>match r with|.bl true=>mc σ>>=fun z=>f' y z|.bl false=>pure (.bl false)|_=>bad) :=
 PE.imp (DC ho ho' ha hb hc hm) fun σ H Q h=>by
  obtain ⟨σd,ι,S,he,hs,ho⟩:=h
  refine ⟨σd,ι,S,he,hs,ho.bind.mono fun d S' ι' H' _ _ ⟨s',e',o'⟩ v r=>⟨σd,ι',S',he.ext e',s',o'.bind.mono fun d2 S2 ι2 H2 _ _ ⟨s2,e2,o2⟩ v2 r2=>⟨ι2,S2,d,d2,s2,r.ext e2,r2,o2.bind.mono fun d3 S3 ι3 H3 _ _ ⟨s3,e3,o3⟩ v3 r3=>?_⟩⟩⟩
  cases d3 with
  | bl k =>
   cases r3
   refine ⟨k,rfl,?_⟩
   cases k with
   | true =>
    rw [if_pos rfl]
    exact ⟨σd,ι3,S3,(he.ext (e'.trans e2)).ext e3,s3,o3.bind.mono fun d4 S4 ι4 H4 _ _ ⟨s4,e4,o4⟩ v4 r4=>⟨ι4,S4,d2,d4,s4,(r2.ext e3).ext e4,r4,o4⟩⟩
   | false=>rw [if_neg Bool.false_ne_true]; exact o3.here s3 _ (.bl _)
  | _=>exact o3.elim
theorem Be {e:Expr} {m:Sg->M D} (hK:Γ.K=X.K) (h:PE X e (tM Γ xw m)) (he:∀ whole,isTrue e X.env whole=(do let v <- whole; standAt e.pos; holding [v] (truthy v))):PT X e (tMT Γ xw fun σ=>m σ>>=truth):=by
 intro pins s σ H Q I hw
 obtain ⟨σd,ι,S,hE,hs,ho⟩:=hw
 refine isTrue_plain (thn (h pins s σ H (fun x H'=>∃ ι S d,av Γ ι H' S/\Rep Γ ι H' d x/\Out Γ xw ι H' (truth d S) fun b _ _ H'=>Q b H') I ⟨σd,ι,S,hE,hs,ho.bind.mono fun d S' ι' H' _ _ ⟨s',e',o'⟩ v r=>⟨ι',S',d,s',r,o'⟩⟩) fun v s1 ⟨x,H1,I1,r1,q1⟩=>?_) (he _)
 exact yQ hK pins s1 σ H1 x v Q I1 r1 q1
theorem vL {op:CmpOp} {f:D->D->M D} (hbl:∀ x y S d S',f x y S=.ok d S'->∃ k,d=.bl k) (ho:OpR X (compareOp op) (aX Γ xw f)) (ha:PE X a (tM Γ xw ma)) (hb:PE X b (tM Γ xw mb)) (hm:behindInMarks op b=false) :
  PT X (.Compare a [op] [b] pos) (tMT Γ xw fun σ=>ma σ>>=fun x=>mb σ>>=fun y=>f x y>>=fun r=>truth r) :=
 PT.imp (uc ho ha hb hm) fun σ H Q h=>by
  obtain ⟨σd,ι,S,he,hs,ho⟩:=h
  refine ⟨σd,ι,S,he,hs,ho.bind.mono fun d S' ι' H' _ _ ⟨s',e',o'⟩ v r=>⟨σd,ι',S',he.ext e',s',o'.bind.mono fun d2 S2 ι2 H2 _ _ ⟨s2,e2,o2⟩ v2 r2=>⟨ι2,S2,d,d2,s2,r.ext e2,r2,?_⟩⟩⟩
  cases q:f d d2 S2 with
  | bad=>rw [aU q] at o2; exact o2.elim
  | exc c S3=>rw [cD q] at o2; exact o2
  | ok d3 S3 =>
   rw [ak q] at o2
   obtain ⟨k,rfl⟩:=hbl _ _ _ _ _ q
   intro ι3 H3 e3 s3 v3 r3
   cases r3
   exact ⟨k,rfl,(o2.step e3).here s3⟩
theorem yy {op op':CmpOp} {f f':D->D->M D} (hbl:∀ x y S d S',f x y S=.ok d S'->∃ k,d=.bl k) (hbl':∀ x y S d S',f' x y S=.ok d S'->∃ k,d=.bl k) (ho:OpR X (compareOp op) (aX Γ xw f)) (ho':OpR X (compareOp op') (aX Γ xw f')) (ha:PE X a (tM Γ xw ma)) (hb:PE X b (tM Γ xw mb)) (hc:PE X c (tM Γ xw mc)) (hm:lastMarks [op,op'] [b,c]=false) :
  PT X (.Compare a [op,op'] [b,c] pos) (tMT Γ xw fun σ=>ma σ>>=fun x=>mb σ>>=fun y=>f x y>>=fun r=>truth r>>=fun k=>if k=true then mc σ>>=fun z=>f' y z>>=fun q=>truth q else pure false) :=
 PT.imp (zg ho ho' ha hb hc hm) fun σ H Q h=>by
  obtain ⟨σd,ι,S,he,hs,ho⟩:=h
  refine ⟨σd,ι,S,he,hs,ho.bind.mono fun d S' ι' H' _ _ ⟨s',e',o'⟩ v r=>⟨σd,ι',S',he.ext e',s',o'.bind.mono fun d2 S2 ι2 H2 _ _ ⟨s2,e2,o2⟩ v2 r2=>⟨ι2,S2,d,d2,s2,r.ext e2,r2,?_⟩⟩⟩
  cases q:f d d2 S2 with
  | bad=>rw [aU q] at o2; exact o2.elim
  | exc c S3=>rw [cD q] at o2; exact o2
  | ok d3 S3 =>
   rw [ak q] at o2
   obtain ⟨k,rfl⟩:=hbl _ _ _ _ _ q
   intro ι3 H3 e3 s3 v3 r3
   cases r3
   refine ⟨k,rfl,?_⟩
   have o3:=o2.step e3
   cases k with
   | false=>rw [if_neg Bool.false_ne_true]; exact ⟨false,rfl,o3.here s3⟩
   | true =>
    rw [if_pos rfl]
    have o3:Out Γ xw ι3 H3 ((mc σd>>=fun z=>f' d2 z>>=fun q=>truth q) S3) _:=o3
    refine ⟨σd,ι3,S3,(he.ext (e'.trans e2)).ext e3,s3,o3.bind.mono fun d4 S4 ι4 H4 _ _ ⟨s4,e4,o4⟩ v4 r4=>⟨ι4,S4,d2,d4,s4,(r2.ext e3).ext e4,r4,?_⟩⟩
    cases q4:f' d2 d4 S4 with
    | bad=>rw [aU q4] at o4; exact o4.elim
    | exc c S5=>rw [cD q4] at o4; exact o4
    | ok d5 S5 =>
     rw [ak q4] at o4
     obtain ⟨k5,rfl⟩:=hbl' _ _ _ _ _ q4
     intro ι5 H5 e5 s5 v5 r5
     cases r5
     exact ⟨k5,rfl,(o4.step e5).here s5⟩
theorem tS {j pos'} (ha:PE X a (tM Γ xw ma)):PT X (.Compare a [.Is] [.Constant .none j pos'] pos) (tMT Γ xw fun σ=>ma σ>>=fun x=>pure (decide (x=.non))) :=
 PT.imp (oi (sj ha)) fun σ H Q h=>by
  obtain ⟨σd,ι,S,he,hs,ho⟩:=h
  refine ⟨σd,ι,S,he,hs,ho.bind.mono fun d S' ι' H' _ _ ⟨s',e',o'⟩ v r=>⟨_,rfl,?_⟩⟩
  rw [h_ r]; exact o'.here s'
theorem iy {j pos'} (ha:PE X a (tM Γ xw ma)):PT X (.Compare a [.IsNot] [.Constant .none j pos'] pos) (tMT Γ xw fun σ=>ma σ>>=fun x=>pure (!decide (x=.non))) :=
 PT.imp (oi (qW ha)) fun σ H Q h=>by
  obtain ⟨σd,ι,S,he,hs,ho⟩:=h
  refine ⟨σd,ι,S,he,hs,ho.bind.mono fun d S' ι' H' _ _ ⟨s',e',o'⟩ v r=>⟨_,rfl,?_⟩⟩
  rw [h_ r]; exact o'.here s'
variable {na nb:Sg->M Bool}
theorem n5 {rest:List Expr} (ha:PT X a (tMT Γ xw na)) (hb:PW X (.BoolOp .And (b::rest) pos) (tMT Γ xw nb)):PW X (.BoolOp .And (a::b::rest) pos) (tMT Γ xw fun σ=>na σ>>=fun k=>if k=true then nb σ else pure false) :=
 PW.imp (AE ha hb) fun σ H Q h=>by
  obtain ⟨σd,ι,S,he,hs,ho⟩:=h
  refine ⟨σd,ι,S,he,hs,ho.bind.mono fun k S' ι' H' _ _ ⟨s',e',o'⟩=>?_⟩
  cases k with
  | true=>rw [if_pos rfl]; exact ⟨σd,ι',S',he.ext e',s',o'⟩
  | false=>rw [if_neg Bool.false_ne_true]; exact o'.here s'
theorem oh {rest:List Expr} (ha:PT X a (tMT Γ xw na)) (hb:PW X (.BoolOp .Or (b::rest) pos) (tMT Γ xw nb)):PW X (.BoolOp .Or (a::b::rest) pos) (tMT Γ xw fun σ=>na σ>>=fun k=>if k=true then pure true else nb σ) :=
 PW.imp (wC ha hb) fun σ H Q h=>by
  obtain ⟨σd,ι,S,he,hs,ho⟩:=h
  refine ⟨σd,ι,S,he,hs,ho.bind.mono fun k S' ι' H' _ _ ⟨s',e',o'⟩=>?_⟩
  cases k with
  | false=>rw [if_neg Bool.false_ne_true]; exact ⟨σd,ι',S',he.ext e',s',o'⟩
  | true=>rw [if_pos rfl]; exact o'.here s'
theorem xF (ha:PT X a (tMT Γ xw na)):PT X (.UnaryOp .Not a pos) (tMT Γ xw fun σ=>na σ>>=fun k=>pure (!k)) :=
 PT.imp (wK ha) fun σ H Q h=>by
  obtain ⟨σd,ι,S,he,hs,ho⟩:=h
  exact ⟨σd,ι,S,he,hs,ho.bind.mono fun k S' ι' H' _ _ ⟨s',e',o'⟩=>o'.here s'⟩
theorem xZ (hc:PT X c (tMT Γ xw na)) (ha:PE X a (tM Γ xw ma)) (hb:PE X b (tM Γ xw mb)):PE X (.IfExp c a b pos) (tM Γ xw fun σ=>na σ>>=fun k=>if k=true then ma σ else mb σ) :=
 PE.imp (C9 hc ha hb) fun σ H Q h=>by
  obtain ⟨σd,ι,S,he,hs,ho⟩:=h
  refine ⟨σd,ι,S,he,hs,ho.bind.mono fun k S' ι' H' _ _ ⟨s',e',o'⟩=>?_⟩
  cases k with
  | true=>rw [if_pos rfl]; exact ⟨σd,ι',S',he.ext e',s',o'⟩
  | false=>rw [if_neg Bool.false_ne_true]; exact ⟨σd,ι',S',he.ext e',s',o'⟩
theorem xQ:PA X [] (tMA Γ xw fun _=>pure []) :=
 PA.imp jn fun σ H Q h=>by
  obtain ⟨σd,ι,S,he,hs,ho⟩:=h
  exact ho.here hs [] .nil
theorem DQ {es:List Expr} {m:Sg->M (List D)} (ha:PE X a (tM Γ xw ma)) (hr:PA X es (tMA Γ xw m)) (hs:starEach (a::es) X.env=(false,eval a X.env)::starEach es X.env):PA X (a::es) (tMA Γ xw fun σ=>ma σ>>=fun x=>m σ>>=fun xs=>pure (x::xs)) :=
 PA.imp (gn ha hr hs) fun σ H Q h=>by
  obtain ⟨σd,ι,S,he,hs,ho⟩:=h
  exact ⟨σd,ι,S,he,hs,ho.bind.mono fun d S' ι' H' _ _ ⟨s',e',o'⟩ v r=>⟨σd,ι',S',he.ext e',s',o'.bind.mono fun ds S2 ι2 H2 _ _ ⟨s2,e2,o2⟩ vs rs=>o2.here s2 _ (.cons (r.ext e2) rs)⟩⟩
theorem xm {es:List Expr} {k:Nat} {m:Sg->M (List D)} (h:PA X es (tMA Γ xw m)):PE X (.Tuple es k pos) (tM Γ xw fun σ=>m σ>>=fun ds=>guard (fits ds.length) (pure (.tup ds))) :=
 PE.imp (Bg h) fun σ H Q h=>by
  obtain ⟨σd,ι,S,he,hs,ho⟩:=h
  refine ⟨σd,ι,S,he,hs,ho.bind.mono fun ds S' ι' H' _ _ ⟨s',e',o'⟩ vs rs=>?_⟩
  obtain ⟨hz,o'⟩:=Out.guard o'
  exact ⟨by rw [<- rs.length]; exact dh hz,fun p hp=>Out.tup o' s' hp rs⟩
theorem vU {es:List Expr} {m:Sg->M (List D)} (h:PA X es (tMA Γ xw m)):PE X (.List es pos) (tM Γ xw fun σ=>m σ>>=fun ds=>guard (fits ds.length) (alloc (.lst ds))) :=
 PE.imp (EI h) fun σ H Q h=>by
  obtain ⟨σd,ι,S,he,hs,ho⟩:=h
  refine ⟨σd,ι,S,he,hs,ho.bind.mono fun ds S' ι' H' _ _ ⟨s',e',o'⟩ vs rs=>?_⟩
  obtain ⟨hz,o'⟩:=Out.guard o'
  exact ⟨by rw [<- rs.length]; exact dh hz,fun p hp=>Out.alloc o' s' hp rs⟩
theorem ug (hK:Γ.K=X.K) (ha:PE X a (tM Γ xw ma)) (hb:PE X b (tM Γ xw mb)) (hs:j8 b):PE X (.Subscript a b pos) (tM Γ xw fun σ=>ma σ>>=fun x=>mb σ>>=fun y=>ixD x y) :=
 PE.imp (Bv (zI hK) ha hb hs) fun _ _ _ h=>j3 h
noncomputable def tMO (Γ:Gx) (xw:XW) (m:Sg->M (Option Int)):TO:=fun σ H Q=>∃ σd ι S,aP Γ ι H σ σd/\av Γ ι H S/\Out Γ xw ι H (m σd S) fun o _ _ H'=>Q o H'
theorem PO.imp {e:Option Expr} {t t':TO} (h:PO X e t) (f:∀ σ H Q,t' σ H Q->t σ H Q):PO X e t':=fun pins s σ H Q I q=>h pins s σ H Q I (f σ H Q q)
theorem Cw:PO X none (tMO Γ xw fun _=>pure none):=PO.imp Bb fun σ H Q h=>by
 obtain ⟨σd,ι,S,he,hs,ho⟩:=h
 exact ho.here hs
theorem Et (ha:PE X a (tM Γ xw ma)):PO X (some a) (tMO Γ xw fun σ=>ma σ>>=fR):=PO.imp (uR ha) fun σ H Q h=>by
 obtain ⟨σd,ι,S,he,hs,ho⟩:=h
 refine ⟨σd,ι,S,he,hs,ho.bind.mono fun d S' ι' H' _ _ ⟨s',e',o'⟩ v r=>?_⟩
 cases d with
 | int i=>cases r; exact ⟨i,rfl,o'.here s'⟩
 | _=>exact o'.elim
theorem yt {lo hi:Option Expr} {ml mh:Sg->M (Option Int)} {p2:Pos} (hK:Γ.K=X.K) (ha:PE X a (tM Γ xw ma)) (hl:PO X lo (tMO Γ xw ml)) (hh:PO X hi (tMO Γ xw mh)) :
  PE X (.Subscript a (.Slice lo hi none p2) pos) (tM Γ xw fun σ=>ma σ>>=fun x=>ml σ>>=fun l=>mh σ>>=fun h=>slD x l h) :=
 PE.imp (yp (AW hK) ha hl hh) fun σ H Q h=>by
  obtain ⟨σd,ι,S,he,hs,ho⟩:=h
  exact ⟨σd,ι,S,he,hs,ho.bind.mono fun d S' ι' H' _ _ ⟨s',e',o'⟩ v r=>⟨σd,ι',S',he.ext e',s',o'.bind.mono fun l S2 ι2 H2 _ _ ⟨s2,e2,o2⟩=>⟨σd,ι2,S2,(he.ext e').ext e2,s2,o2.bind.mono fun u S3 ι3 H3 _ _ ⟨s3,e3,o3⟩=>⟨ι3,S3,d,s3,(r.ext e2).ext e3,o3⟩⟩⟩⟩
theorem e9 {id:String} {x:Str} {p:Pos} {es:List Expr} {m:Sg->M (List D)} {f:List D->M D} (hc:bI X (.builtin id) (cA Γ xw f)) (hg:Gl X x) (hm:X.mg x=none) (hv:bootBuiltins x=some (.builtin id)) (ha:PA X (a::es) (tMA Γ xw m)) (hn:x≠"__name__") (hdb:(x==("__debug__" : Str))=false)
  (he:starEach (a::es) X.env=(false,eval a X.env)::starEach es X.env) (hpl:(backTo pos (starEach es X.env)).any (·.1)=false):PE X (.Call (.Name x p) (a::es) [] pos) (tM Γ xw fun σ=>m σ>>=f) :=
 PE.imp (qf hc hg hm hv ha hn hdb he hpl) fun _ _ _ h=>pC h
theorem A1 {T:String} {x:Str} {p:Pos} {es:List Expr} {m:Sg->M (List D)} {f:List D->M D} (hc:bI X (.type T) (cA Γ xw f)) (hg:Gl X x) (hm:X.mg x=none) (hv:bootBuiltins x=some (.type T)) (ha:PA X (a::es) (tMA Γ xw m)) (hn:x≠"__name__") (hdb:(x==("__debug__" : Str))=false)
  (he:starEach (a::es) X.env=(false,eval a X.env)::starEach es X.env) (hpl:(backTo pos (starEach es X.env)).any (·.1)=false):PE X (.Call (.Name x p) (a::es) [] pos) (tM Γ xw fun σ=>m σ>>=f) :=
 PE.imp (qE hc hg hm hv ha hn hdb he hpl) fun _ _ _ h=>pC h
theorem BF {sub:Sub} {t:Ty} {T:String} {x y:Str} {p p':Pos} (hK:Γ.K=X.K) (ht:t.name=some T) (hg:Gl X x) (hm:X.mg x=none) (hv:bootBuiltins x=some (.builtin "isinstance")) (hg':Gl X y) (hm':X.mg y=none) (hv':bootBuiltins y=some (.type T)) (ha:PE X a (tM Γ xw ma))
  (hn:x≠"__name__") (hdb:(x==("__debug__" : Str))=false) (hn':y≠"__name__") (hdb':(y==("__debug__" : Str))=false) (hst:starEach [a,.Name y p'] X.env=(false,eval a X.env)::starEach [.Name y p'] X.env) :
  PE X (.Call (.Name x p) [a,.Name y p'] [] pos) (tM Γ xw fun σ=>ma σ>>=fun d=>fU sub t d):=by
 have hy:PE X (.Name y p') (tC (.ty T)):=zb hg' hm' hv' rfl hn' hdb'
 have hc:bI X (.builtin "isinstance") (fun xs H Q=>∃ x,xs=[x,.ty T]/\qh Γ xw (fU sub t) x H Q):=by
  intro pins s σ H xs us Q I rs h
  obtain ⟨x,rfl,ι,S,d,hS,r,ho⟩:=h
  obtain ⟨u1,u2,rfl,r1,r2⟩:=rs.two
  cases r2
  unfold fU at ho
  cases q:eZ sub S d t with
  | none=>rw [q] at ho; exact ho.elim
  | some k =>
   rw [q] at ho
   exact Aw hK I hS ht r r1 q fun tk=>⟨.bl k,H,I.tok _,rfl,Out.val ho hS (.bl _)⟩
 refine PE.imp (qf hc hg hm hv (gn ha (gn hy jn rfl) hst) hn hdb hst rfl) fun σ H Q h=>?_
 obtain ⟨σd,ι,S,he,hs,ho⟩:=h
 exact ⟨σd,ι,S,he,hs,ho.bind.mono fun d S' ι' H' _ _ ⟨s',e',o'⟩ v r=>⟨v,rfl,ι',S',d,s',r,o'⟩⟩
end
end EV

namespace EV
open PySem PySem.Spec PyProof.Rows L2
section
variable {X:Cx} {Γ:Gx} {xw:XW} {ι ι':List Addr} {H H':Hp} {S:af} {σ:L2.St}
theorem Rep.move (hp:ι <+: ι') (ht:∀ a xs,H a=some (.tup xs)->H' a=some (.tup xs)) (hf:∀ a o u,H a=some (.frz o u)->H' a=some (.frz o u)) {d:D} {v:V} (h:Rep Γ ι H d v):Rep Γ ι' H' d v:=by
 induction h with
 | non=>exact .non
 | bl b=>exact .bl b
 | int i=>exact .int i
 | str x=>exact .str x
 | tup h1 h2 h3 ih =>
  refine .tup ?_ h2 ih
  rcases h1 with (h|⟨o,h⟩)|h
  ·exact .inl (.inl (ht _ _ h))
  ·exact .inl (.inr ⟨o,hf _ _ _ h⟩)
  ·exact .inr h
 | fro h1 h2 h3 ih =>
  refine .fro ?_ h2 ih
  rcases h1 with ⟨o,h⟩|h
  ·exact .inl ⟨o,hf _ _ _ h⟩
  ·exact .inr h
 | loc h=>exact .loc (fH hp h)
theorem ou {a:Addr} {xs ys:List V} (h:H a=some (.lst xs)):∀ b zs,H b=some (.tup zs)->upd H a (.lst ys) b=some (.tup zs):=fun b zs e=>by
 rw [aE (sE e h (by intro z; cases z))]; exact e
theorem qR {a:Addr} {xs ys:List V} (h:H a=some (.lst xs)):∀ b o u,H b=some (.frz o u)->upd H a (.lst ys) b=some (.frz o u):=fun b o u e=>by
 rw [aE (sE e h (by intro z; cases z))]; exact e
theorem Rep.write {a:Addr} {xs ys:List V} (h:H a=some (.lst xs)) {d:D} {v:V} (r:Rep Γ ι H d v):Rep Γ ι (upd H a (.lst ys)) d v:=r.move (List.prefix_refl _) (ou h) (qR h)
theorem ay.write {a:Addr} {xs ys:List V} (h:H a=some (.lst xs)) {ds:List D} {vs:List V} (r:ay Γ ι H ds vs):ay Γ ι (upd H a (.lst ys)) ds vs:=Paired.imp (fun _ _ r=>Rep.write h r) r
theorem aP.write {a:Addr} {xs ys:List V} (h:H a=some (.lst xs)) {σd:Sg} (e:aP Γ ι H σ σd):aP Γ ι (upd H a (.lst ys)) σ σd:=⟨e.len,fun i d q=>let ⟨v,e1,r⟩:=e.var i d q; ⟨v,e1,r.write h⟩⟩
theorem Ext.write {a:Addr} {xs ys:List V} (h:H a=some (.lst xs)) (hm:a∈ι):Ext ι ι H (upd H a (.lst ys)) :=
 ⟨List.prefix_refl _,ou h,qR h,fun b o e n=>by rw [aE (fun z=>n (by rw [z]; exact hm))]; exact e,fun _ h n=>absurd h n⟩
theorem av.write (hS:av Γ ι H S) {l:Nat} {a:Addr} {xs ys:List V} {es ds:List D} (hl:S[l]?=some (.lst es)) (ha:ι[l]?=some a) (h:H a=some (.lst xs)) (r:ay Γ ι H ds ys):av Γ ι (upd H a (.lst ys)) (S.set l (.lst ds)):=by
 refine ⟨by rw [List.length_set]; exact hS.len,hS.nd,fun m c hm=>?_⟩
 by_cases e:m=l
 ·subst e
  rw [List.getElem?_set_self (List.getElem?_eq_some_iff.mp hl).1] at hm
  cases hm
  exact ⟨a,ha,ys,cB,ay.write h r⟩
 ·rw [List.getElem?_set_ne (Ne.symm e)] at hm
  obtain ⟨b,hb,c1⟩:=hS.cell m c hm
  have hne:b≠a:=fun z=>e (jc hS.nd hb (z ▸ ha))
  refine ⟨b,hb,?_⟩
  cases c with
  | lst zs=>obtain ⟨ws,hw,rw'⟩:=c1; exact ⟨ws,by rw [aE hne]; exact hw,ay.write h rw'⟩
  | dct kvs=>exact c1
theorem av.other (hS:av Γ ι H S) {a:Addr} {xs ys:List V} (h:H a=some (.lst xs)) (hn:a ∉ ι):av Γ ι (upd H a (.lst ys)) S :=
 ⟨hS.len,hS.nd,fun m c hm=>by
  obtain ⟨b,hb,c1⟩:=hS.cell m c hm
  have hne:b≠a:=fun z=>hn (z ▸ List.mem_of_getElem? hb)
  refine ⟨b,hb,?_⟩
  cases c with
  | lst zs=>obtain ⟨ws,hw,rw'⟩:=c1; exact ⟨ws,by rw [aE hne]; exact hw,ay.write h rw'⟩
  | dct kvs=>exact c1⟩
theorem aP.set {σd:Sg} (e:aP Γ ι H σ σd) (i:Nat) {d:D} {v:V} (r:Rep Γ ι H d v):aP Γ ι H (σ.set i (some v)) (σd.set i (some d)):=by
 refine ⟨by rw [List.length_set,List.length_set]; exact e.len,fun j d' h=>?_⟩
 by_cases hij:j=i
 ·subst hij
  have hj:j < σd.length:=by
   have:=(List.getElem?_eq_some_iff.mp h).1
   rw [List.length_set] at this; exact this
  rw [List.getElem?_set_self hj] at h
  cases h
  exact ⟨v,by rw [List.getElem?_set_self (by rw [e.len]; exact hj)],r⟩
 ·rw [List.getElem?_set_ne (Ne.symm hij)] at h
  obtain ⟨w,hw,rw'⟩:=e.var j d' h
  exact ⟨w,by rw [List.getElem?_set_ne (Ne.symm hij)]; exact hw,rw'⟩
theorem aP.more {σd:Sg} (e:aP Γ ι H σ σd) (k:Nat):aP Γ ι H (σ++List.replicate k none) (σd++List.replicate k none):=by
 refine ⟨by simp [e.len],fun j d h=>?_⟩
 by_cases hj:j < σd.length
 ·rw [List.getElem?_append_left hj] at h
  obtain ⟨w,hw,r⟩:=e.var j d h
  exact ⟨w,by rw [List.getElem?_append_left (by rw [e.len]; exact hj)]; exact hw,r⟩
 ·rw [List.getElem?_append_right (by omega),List.getElem?_replicate] at h
  split at h <;> cases h
theorem yT:MtR X "list.append" (fun x xs H Q=>∃ ι S dx ds,av Γ ι H S/\Rep Γ ι H dx x/\ay Γ ι H ds xs/\Out Γ xw ι H (meD .append dx ds S) fun d _ ι' H'=>∀ v,Rep Γ ι' H' d v->Q v H'):=by
 intro pins s σ H x xs v us Q I rx rs h
 obtain ⟨ι,S,dx,ds,hS,r1,r2,ho⟩:=h
 match ds,r2 with
 | [],_=>exact ho.elim
 | _::_::_,_=>exact ho.elim
 | [d],.cons (b:=y) rd .nil =>
  cases dx with
  | loc l =>
   obtain ⟨es,e,ho⟩:=Out.aW ho
   obtain ⟨hz,ho⟩:=Out.guard ho
   obtain ⟨a,ws,ha,hx,p⟩:=hS.lst e
   cases r1 with
   | loc q =>
    rw [ha] at q; cases q
    refine nR pins s σ H _ _ v us Q I rx rs ⟨a,ws,y,rfl,rfl,hx,by rw [<- p.length]; exact Ba hz,?_⟩
    exact ho ι _ (Ext.write hx (List.mem_of_getElem? ha)) (hS.write e ha hx (Paired.app p (.cons rd .nil))) _ .non
  | _=>exact ho.elim
theorem uw:MtR X "list.extend" (fun x xs H Q=>∃ ι S dx ds,av Γ ι H S/\Rep Γ ι H dx x/\ay Γ ι H ds xs/\Out Γ xw ι H (meD .extend dx ds S) fun d _ ι' H'=>∀ v,Rep Γ ι' H' d v->Q v H'):=by
 intro pins s σ H x xs v us Q I rx rs h
 obtain ⟨ι,S,dx,ds,hS,r1,r2,ho⟩:=h
 match ds,r2 with
 | [],_=>exact ho.elim
 | _::_::_,_=>exact ho.elim
 | [d],.cons (b:=y) rd .nil =>
  cases dx with
  | loc l =>
   cases d with
   | loc m =>
    obtain ⟨es,e,ho⟩:=Out.aW ho
    obtain ⟨fs,e2,ho⟩:=Out.aW ho
    obtain ⟨hz,ho⟩:=Out.guard ho
    obtain ⟨a,ws,ha,hx,p⟩:=hS.lst e
    obtain ⟨b,zs,hb,hy,p2⟩:=hS.lst e2
    cases r1 with
    | loc q =>
     cases rd with
     | loc q2 =>
      rw [ha] at q; cases q
      rw [hb] at q2; cases q2
      refine ua pins s σ H _ _ v us Q I rx rs ⟨a,b,ws,zs,rfl,rfl,hx,hy,by rw [<- p.length,<- p2.length]; exact dh hz,?_⟩
      exact ho ι _ (Ext.write hx (List.mem_of_getElem? ha)) (hS.write e ha hx (Paired.app p p2)) _ .non
   | _=>exact ho.elim
  | _=>exact ho.elim
theorem su {o a:Expr} {es:List Expr} {me:Me} {name:Str} {apos cpos:Pos} {id:String} {mo:Sg->M D} {m:Sg->M (List D)} (hK:Γ.K=X.K) (pa:PlainAttrs "list") (slot:Slot "list" name id) (hty:typeOf (.builtin id)=pure (.type "method_descriptor"))
  (hm:MtR X id (fun x xs H Q=>∃ ι S dx ds,av Γ ι H S/\Rep Γ ι H dx x/\ay Γ ι H ds xs/\Out Γ xw ι H (meD me dx ds S) fun d _ ι' H'=>∀ v,Rep Γ ι' H' d v->Q v H')) (ho:PE X o (tM Γ xw mo)) (ha:PA X (a::es) (tMA Γ xw m))
  (hbase:attributeBase o name X.env (eval o X.env)=eval o X.env)
  (hfew:((backTo cpos (starEach (a::es) X.env)).all (fun x=>!x.1)&&(backToKw cpos (keywordEach [] X.env)).all (fun x=>x.1.isSome)&&decide ((a::es).length+([]:List Keyword).length+(if ([]:List Keyword).isEmpty then 0 else 1) < 30))=true)
  (hline:(apos.endLine==cpos.line)=true) (hs:starEach (a::es) X.env=(false,eval a X.env)::starEach es X.env) (hplain:(backTo cpos (starEach es X.env)).any (·.1)=false) :
  PE X (.Call (.Attribute o name apos) (a::es) [] cpos) (tM Γ xw fun σ=>mo σ>>=fun x=>guard x.eG (m σ>>=fun ds=>meD me x ds)) :=
 PE.imp (wW pa slot hty hm ho ha hbase hfew hline hs hplain) fun σ H Q h=>by
  obtain ⟨σd,ι,S,he,hs,ho⟩:=h
  refine ⟨σd,ι,S,he,hs,ho.bind.mono fun d S' ι' H' _ _ ⟨s',e',o'⟩ v r=>?_⟩
  obtain ⟨hl,o'⟩:=Out.guard o'
  cases d with
  | loc l =>
   have r0:=r
   cases r with
   | loc q =>
    have hlt:l < S'.length:=by rw [<- s'.len]; exact (List.getElem?_eq_some_iff.mp q).1
    obtain ⟨b,hb,c⟩:=s'.cell l S'[l] (List.getElem?_eq_getElem hlt)
    rw [q] at hb; cases hb
    cases e:S'[l] with
    | lst ds =>
     rw [e] at c
     obtain ⟨xs,hx,_⟩:=c
     refine ⟨.inl ⟨rfl,xs,.of hx⟩,σd,ι',S',he.ext e',s',o'.bind.mono fun ds S2 ι2 H2 _ _ ⟨s2,e2,o2⟩ vs rs=>⟨ι2,S2,.loc l,ds,s2,r0.ext e2,rs,o2⟩⟩
    | dct kvs=>rw [e] at c; exact c.elim
  | _=>exact absurd hl Bool.false_ne_true
end
end EV

namespace EV
open PySem PySem.Spec PyProof.Rows L2
noncomputable def k7 (Γ:Gx) (src:Src) (J:It) (ι0:List Addr) (H0:Hp):Prop:=∀ ι H S,Ext ι0 ι H0 H->av Γ ι H S->aC src S=.ok () S ->
 (∀ (i:Nat) d,src.its[i]?=some d->J.go i H/\∀ x H',J.yld i H x H'->Ext ι ι H H'/\av Γ ι H' S/\Rep Γ ι H' d x)/\J.stop src.its.length H
noncomputable def tMI (Γ:Gx) (xw:XW) (m:Sg->M Src):TI:=fun σ H R=>∃ σd ι S,aP Γ ι H σ σd/\av Γ ι H S/\Out Γ xw ι H (m σd S) fun src _ ι' H'=>∀ J,k7 Γ src J ι' H'->R J H'
theorem ia (src:Src) (S:af):aC src S=.ok () S\/aC src S=.bad:=by
 unfold aC
 cases src.l with
 | none=>exact .inl rfl
 | some l =>
  dsimp only
  cases listAt S l with
  | none=>exact .inr rfl
  | some ds =>
   by_cases h:ds=src.raw
   ·exact .inl (by simp only [h,decide_true]; rfl)
   ·exact .inr (by simp only [h,decide_false]; rfl)
section
variable {X:Cx} {Γ:Gx} {xw:XW} {tg a:Expr} {ma:Sg->M D} {pos:Pos}
theorem PI.imp {iter:Expr} {t t':TI} (h:PI X tg iter t) (f:∀ σ H R,t' σ H R->t σ H R):PI X tg iter t':=fun pins s σ H R I q=>h pins s σ H R I (f σ H R q)
noncomputable def iSq (K:PySem.W.Frag) (tl:TE):TI:=fun σ H R=>tl σ H fun x H1=>∃ a,x=.ref a/\(((∃ xs,SqL K H1 a xs)/\R (Itl K a) H1)\/((∃ xs,SqT K H1 a xs)/\R (Itt K a) H1))
theorem AR {l:Expr} {tl:TE} (hl:PE X l tl):PI X tg l (iSq X.K tl):=by
 intro pins s σ H R I h
 refine thn (hl pins s σ H _ I h) fun v s1 ⟨x,H1,I1,r1,q1⟩=>?_
 obtain ⟨a,e,q1⟩:=q1
 subst e
 cases r1
 rcases q1 with ⟨⟨xs,hq⟩,q⟩|⟨⟨xs,hq⟩,q⟩
 ·have hc:PE X l (fun σ H Q=>True->True->tl σ H Q):=fun pins s σ H Q I h=>hl pins s σ H Q I (h trivial trivial)
  obtain ⟨its,rv,p,hz⟩:=I1.list hq
  refine wpAny_pyIter_list p.isList ?_
  refine ⟨s1.heap.objs.size,[s1.heap.objs.size],_,_,H1,rfl,I1.kept (t':=s1.toks) fun b o e=>Heap.get?_push_of_some _ e,Bh a _,⟨_,Heap.get?_push_size _ rfl,rfl,rfl⟩,fun b hb=>?_,q⟩
  have e:b=s1.heap.objs.size:=by simpa using hb
  subst e
  exact I1.eT (Nat.le_refl _) (I1.hok.fresh (Nat.le_refl _))
 ·obtain ⟨its,rv,p,hz⟩:=I1.tuple hq
  refine wpAny_pyIter_tuple (show s1.heap.IsTuple a its.toArray from p) ?_
  refine ⟨s1.heap.objs.size,[s1.heap.objs.size],_,_,H1,rfl,I1.kept (t':=s1.toks) fun b o e=>Heap.get?_push_of_some _ e,u5 a _,⟨_,Heap.get?_push_size _ rfl,rfl,rfl⟩,fun b hb=>?_,q⟩
  have e:b=s1.heap.objs.size:=by simpa using hb
  subst e
  exact I1.eT (Nat.le_refl _) (I1.hok.fresh (Nat.le_refl _))
theorem pY {ι:List Addr} {H:Hp} {S:af} {d:D} {v:V} {src:Src} {S':af} (hS:av Γ ι H S) (r:Rep Γ ι H d v) (h:srcOf d S=.ok src S'):S'=S/\src.its=src.raw/\aC src S=.ok () S/\∃ a tup,v=.ref a/\(∃ xs,SqB Γ.K H tup a xs) /\
  ∀ ι1 H1 S1,Ext ι ι1 H H1->av Γ ι1 H1 S1->aC src S1=.ok () S1->∃ xs,SqB Γ.K H1 tup a xs/\ay Γ ι1 H1 src.raw xs:=by
 cases d with
 | tup ds =>
  cases h
  obtain ⟨a,xs,e,t,p⟩:=r.bh
  exact ⟨rfl,rfl,rfl,a,true,e,⟨xs,t⟩,fun ι1 H1 S1 e1 _ _=>⟨xs,e1.sqT t,ay.ext e1 p⟩⟩
 | fro ds =>
  cases h
  obtain ⟨a,xs,e,t,p⟩:=r.er
  exact ⟨rfl,rfl,rfl,a,false,e,⟨xs,t.sq⟩,fun ι1 H1 S1 e1 _ _=>⟨xs,(e1.fro t).sq,ay.ext e1 p⟩⟩
 | loc l =>
  have h:(items (.loc l)>>=fun ds=>pure (⟨ds,some l,ds⟩:Src)) S=.ok src S':=h
  rcases gr (.loc l) S with ⟨ds,e⟩|e
  ·rw [ak e] at h
   cases h
   obtain ⟨_,a,xs,e2,_,p,t⟩:=bX hS r e
   subst e2
   have hl:listAt S l=some ds:=by
    rw [l5] at e
    cases q:listAt S l with
    | none=>rw [q] at e; cases e
    | some es=>rw [q] at e; cases e; rfl
   refine ⟨rfl,rfl,?_,a,false,rfl,⟨xs,t l rfl⟩,fun ι1 H1 S1 e1 s1 st=>?_⟩
   ·unfold aC; simp only [hl,decide_true]; rfl
   ·have hl1:listAt S1 l=some ds:=by
     unfold aC at st
     dsimp only at st
     cases q:listAt S1 l with
     | none=>rw [q] at st; cases st
     | some es =>
      rw [q] at st
      by_cases h:es=ds
      ·rw [h]
      ·simp only [h,decide_false] at st; cases st
    obtain ⟨b,ys,e3,sb,p1⟩:=s1.list (r.ext e1) (show asL S1 (.loc l)=some ds from hl1)
    cases e3
    exact ⟨ys,sb,p1⟩
  ·rw [aU e] at h; cases h
 | _=>cases h
theorem n9 (d:D) (S:af):(∃ src,srcOf d S=.ok src S)\/srcOf d S=.bad:=by
 cases d with
 | tup ds=>exact .inl ⟨_,rfl⟩
 | fro ds=>exact .inl ⟨_,rfl⟩
 | loc l =>
  show (∃ src,(items (.loc l)>>=fun ds=>pure (⟨ds,some l,ds⟩:Src)) S=.ok src S)\/(items (.loc l)>>=fun ds=>pure (⟨ds,some l,ds⟩:Src)) S=.bad
  rcases gr (.loc l) S with ⟨ds,e⟩|e
  ·rw [ak e]; exact .inl ⟨_,rfl⟩
  ·rw [aU e]; exact .inr rfl
 | _=>exact .inr rfl
theorem yV (hK:Γ.K=X.K) (ha:PE X a (tM Γ xw ma)):PI X tg a (tMI Γ xw fun σ=>ma σ>>=srcOf) :=
 PI.imp (AR ha) fun σ H R h=>by
  obtain ⟨σd,ι,S,he,hs,ho⟩:=h
  refine ⟨σd,ι,S,he,hs,ho.bind.mono fun d S' ι' H' _ _ ⟨s',e',o'⟩ v r=>?_⟩
  rcases n9 d S' with ⟨src,q⟩|q
  ·rw [q] at o'
   obtain ⟨_,e1,st,a,tup,rfl,⟨xs,sq⟩,hall⟩:=pY s' r q
   refine ⟨a,rfl,?_⟩
   have fin:=o'.here s'
   cases tup with
   | true =>
    refine .inr ⟨⟨xs,by rw [<- hK]; exact sq⟩,fin _ fun ι1 H1 S1 e2 s1 st1=>?_⟩
    obtain ⟨ys,sq1,p1⟩:=hall ι1 H1 S1 e2 s1 st1
    have sq1:SqT X.K H1 a ys:=by rw [<- hK]; exact sq1
    rw [e1]
    refine ⟨fun i d hd=>?_,ys,sq1,by rw [p1.length]; exact Nat.le_refl _⟩
    obtain ⟨y,hy,r1⟩:=Paired.get p1 hd
    exact ⟨⟨ys,y,sq1,hy⟩,fun x H' ⟨e3,hx⟩=>by
     subst e3
     have:=hx ys sq1
     rw [hy] at this; cases this
     exact ⟨.refl,s1,r1⟩⟩
   | false =>
    refine .inl ⟨⟨xs,by rw [<- hK]; exact sq⟩,fin _ fun ι1 H1 S1 e2 s1 st1=>?_⟩
    obtain ⟨ys,sq1,p1⟩:=hall ι1 H1 S1 e2 s1 st1
    have sq1:SqL X.K H1 a ys:=by rw [<- hK]; exact sq1
    rw [e1]
    refine ⟨fun i d hd=>?_,ys,sq1,by rw [p1.length]; exact Nat.le_refl _⟩
    obtain ⟨y,hy,r1⟩:=Paired.get p1 hd
    exact ⟨⟨ys,y,sq1,hy⟩,fun x H' ⟨e3,hx⟩=>by
     subst e3
     have:=hx ys sq1
     rw [hy] at this; cases this
     exact ⟨.refl,s1,r1⟩⟩
  ·rw [q] at o'; exact o'.elim
theorem oO:∀ {ds:List D} {k i:Nat} {d:D},(num k ds)[i]?=some d->∃ e,ds[i]?=some e/\d=.tup [.int ((k+i:Nat):Int),e]
 | [],k,i,d,h=>by simp [num] at h
 | x::r,k,0,d,h=>by simp [num] at h; exact ⟨x,rfl,by rw [<- h]; simp⟩
 | x::r,k,i+1,d,h=>by
  have h:(num (k+1) r)[i]?=some d:=by simpa [num] using h
  obtain ⟨e,h1,h2⟩:=oO h
  exact ⟨e,by simpa using h1,by rw [h2]; congr 3; omega⟩
theorem sG:∀ (ds:List D) (k:Nat),(num k ds).length=ds.length
 | [],_=>rfl
 | _::r,k=>by simp [num,sG r]
theorem Ep {p:Pos} {elts:List Expr} {k1:Nat} {tp:Pos} (hK:Γ.K=X.K) (hg:Gl X "enumerate") (hm:X.mg "enumerate" = none) (hv:bootBuiltins "enumerate" = some (.type "enumerate")) (ha:PE X a (tM Γ xw ma)) (hs:starEach [a] X.env=[(false,eval a X.env)]) :
  PI X (.Tuple elts k1 tp) (.Call (.Name "enumerate" p) [a] [] pos) (tMI Γ xw fun σ=>ma σ>>=fun d=>srcOf d>>=fun s=>pure { s with its:=num 0 s.its }) :=
 PI.imp (wu hg hm hv (gn ha jn (by rw [hs]; rfl)) hs) fun σ H R h=>by
  obtain ⟨σd,ι,S,he,hs,ho⟩:=h
  refine ⟨σd,ι,S,he,hs,ho.bind.mono fun d S' ι' H' _ _ ⟨s',e',o'⟩ v r=>?_⟩
  rcases n9 d S' with ⟨src,q⟩|q
  ·rw [ak q] at o'
   obtain ⟨_,e1,st,a,tup,rfl,⟨xs,sq⟩,hall⟩:=pY s' r q
   have fin:=o'.here s'
   refine ⟨tup,a,rfl,⟨xs,by rw [<- hK]; exact sq⟩,fin _ fun ι1 H1 S1 e2 s1 st1=>?_⟩
   obtain ⟨ys,sq1,p1⟩:=hall ι1 H1 S1 e2 s1 st1
   have sq1:SqB X.K H1 tup a ys:=by rw [<- hK]; exact sq1
   refine ⟨fun i d hd=>?_,ys,sq1,by show ys.length<=(num 0 src.its).length; rw [sG,e1,p1.length]; exact Nat.le_refl _⟩
   obtain ⟨e,he',rfl⟩:=oO hd
   rw [e1] at he'
   obtain ⟨y,hy,r1⟩:=Paired.get p1 he'
   refine ⟨⟨ys,y,sq1,hy⟩,?_⟩
   rintro x H' ⟨z,p,hz,hp,rfl,rfl⟩
   have hz:=hz ys sq1
   rw [hy] at hz; cases hz
   refine ⟨Ext.laid hp,s1.laid hp _,.ek (.of cB) (.cons ?_ (.cons (r1.ext (Ext.laid hp)) .nil))⟩
   rw [Nat.zero_add]; exact .int _
  ·rw [aU q] at o'; exact o'.elim
theorem lB (lo hi:Int):rng lo hi 1=(List.range (hi - lo).toNat).map fun (k:Nat)=>lo+k:=by
 unfold rng
 rw [if_pos (by decide)]
 have:(hi - lo+1 - 1) / 1=hi - lo:=by rw [Int.ediv_one]; omega
 rw [this]
 simp
theorem zu (lo hi:Int):rng lo hi (-1)=(List.range (lo - hi).toNat).map fun (k:Nat)=>lo - k:=by
 unfold rng
 rw [if_neg (by decide),if_pos (by decide)]
 have:(lo - hi - -1 - 1) / -(-1)=lo - hi:=by rw [show (-(-1):Int)=1 from rfl,Int.ediv_one]; omega
 rw [this]
 refine List.map_congr_left fun k _=>?_
 omega
theorem rN {n i k:Nat} (h:(List.range n)[i]?=some k):k=i/\i < n:=by
 obtain ⟨h1,h2⟩:=List.getElem?_eq_some_iff.mp h
 rw [List.getElem_range] at h2
 rw [List.length_range] at h1
 exact ⟨h2.symm,h1⟩
theorem qw {ι:List Addr} {H:Hp} (lo hi:Int):k7 Γ ⟨(rng lo hi 1).map .int,none,[]⟩ (Itr lo (hi - lo).toNat) ι H:=fun ι1 H1 S1 e s1 st=>by
 rw [lB,List.map_map]
 refine ⟨fun i d hd=>?_,by show (hi - lo).toNat<=_; simp⟩
 have hd:((List.range (hi - lo).toNat).map (D.int ∘ fun (k:Nat)=>lo+k))[i]?=some d:=hd
 rw [List.getElem?_map,Option.map_eq_some_iff] at hd
 obtain ⟨k,hk,rfl⟩:=hd
 obtain ⟨rfl,hlt⟩:=rN hk
 exact ⟨hlt,fun x H' ⟨e1,e2⟩=>by subst e1; subst e2; exact ⟨.refl,s1,.int _⟩⟩
theorem BB {ι:List Addr} {H:Hp} (lo hi:Int):k7 Γ ⟨(rng lo hi (-1)).map .int,none,[]⟩ (lu lo (lo - hi).toNat) ι H:=fun ι1 H1 S1 e s1 st=>by
 rw [zu,List.map_map]
 refine ⟨fun i d hd=>?_,by show (lo - hi).toNat<=_; simp⟩
 have hd:((List.range (lo - hi).toNat).map (D.int ∘ fun (k:Nat)=>lo - k))[i]?=some d:=hd
 rw [List.getElem?_map,Option.map_eq_some_iff] at hd
 obtain ⟨k,hk,rfl⟩:=hd
 obtain ⟨rfl,hlt⟩:=rN hk
 exact ⟨hlt,fun x H' ⟨e1,e2⟩=>by subst e1; subst e2; exact ⟨.refl,s1,.int _⟩⟩
theorem d_ {i:Int} (h:near i=true):-(2 ^ 62)<=i/\i < 2 ^ 62:=of_decide_eq_true h
variable {b c:Expr} {m:Sg->M (List D)} {p:Pos}
theorem Out.monoE {α:Type} {r:Res α} {ι:List Addr} {H:Hp} {k k':α->af->List Addr->Hp->Prop} (h:Out Γ xw ι H r k) (f:∀ a S' ι' H',r=.ok a S'->Ext ι ι' H H'->av Γ ι' H' S'->k a S' ι' H'->k' a S' ι' H'):Out Γ xw ι H r k':=by
 cases r with
 | ok a S'=>exact fun ι' H' e' s'=>f _ _ _ _ rfl e' s' (h ι' H' e' s')
 | exc c S'=>exact h
 | bad=>exact h
theorem ud (hg:Gl X "range") (hm:X.mg "range" = none) (ha:PA X [a] (tMA Γ xw m)) (hs:starEach [a] X.env=[(false,eval a X.env)]) (hlen:∀ σ S ds S',m σ S=.ok ds S'->ds.length=1) :
  PI X tg (.Call (.Name "range" p) [a] [] pos) (tMI Γ xw fun σ=>m σ>>=fun ds=>opt (bH ds)>>=fun is=>pure ⟨is.map .int,none,[]⟩) :=
 PI.imp (AA hg hm ha hs) fun σ H R h=>by
  obtain ⟨σd,ι,S,he,hs,ho⟩:=h
  refine ⟨σd,ι,S,he,hs,Out.monoE ho.bind fun ds S' ι' H' eq _ _ ⟨s',e',o'⟩ vs rs=>?_⟩
  have hl:=hlen _ _ _ _ eq
  obtain ⟨is,q,o'⟩:=Out.opt o'
  have fin:=o'.here s'
  obtain ⟨d,_,_,_,rfl,rfl,r,rs,hl⟩:=Paired.step rs hl
  obtain ⟨rfl,rfl⟩:=Paired.last rs hl
  (
   cases r with
   | int j =>
    simp only [bH] at q
    split at q
    ·rename_i hn
     cases q
     have hn:=d_ hn
     refine ⟨j,rfl,hn.1,hn.2,fin _ ?_⟩
     have:=qw (Γ:=Γ) (ι:=ι') (H:=H') 0 j
     rw [Int.sub_zero] at this
     exact this
    ·cases q
   | _=>cases q)
theorem uQ (hg:Gl X "range") (hm:X.mg "range" = none) (ha:PA X [a,b] (tMA Γ xw m)) (hs:starEach [a,b] X.env=[(false,eval a X.env),(false,eval b X.env)]) (hs2:starEach [b] X.env=[(false,eval b X.env)]) (hlen:∀ σ S ds S',m σ S=.ok ds S'->ds.length=2) :
  PI X tg (.Call (.Name "range" p) [a,b] [] pos) (tMI Γ xw fun σ=>m σ>>=fun ds=>opt (bH ds)>>=fun is=>pure ⟨is.map .int,none,[]⟩) :=
 PI.imp (DY hg hm ha hs hs2) fun σ H R h=>by
  obtain ⟨σd,ι,S,he,hs,ho⟩:=h
  refine ⟨σd,ι,S,he,hs,Out.monoE ho.bind fun ds S' ι' H' eq _ _ ⟨s',e',o'⟩ vs rs=>?_⟩
  have hl:=hlen _ _ _ _ eq
  obtain ⟨is,q,o'⟩:=Out.opt o'
  have fin:=o'.here s'
  obtain ⟨d,_,_,_,rfl,rfl,r,rs,hl⟩:=Paired.step rs hl
  obtain ⟨e,_,_,_,rfl,rfl,r2,rs,hl⟩:=Paired.step rs hl
  obtain ⟨rfl,rfl⟩:=Paired.last rs hl
  (
   cases r with
   | int i =>
    cases r2 with
    | int j =>
     simp only [bH] at q
     split at q
     ·rename_i hn
      cases q
      rw [Bool.and_eq_true] at hn
      have h1:=d_ hn.1
      have h2:=d_ hn.2
      exact ⟨i,j,rfl,⟨h1.1,h1.2,h2.1,h2.2⟩,fin _ (qw i j)⟩
     ·cases q
    | _=>cases q
   | _=>cases q)
theorem xG (hg:Gl X "range") (hm:X.mg "range" = none) (ha:PA X [a,b,c] (tMA Γ xw m)) (hs:starEach [a,b,c] X.env=[(false,eval a X.env),(false,eval b X.env),(false,eval c X.env)]) (hs2:starEach [b,c] X.env=[(false,eval b X.env),(false,eval c X.env)]) (hlen:∀ σ S ds S',m σ S=.ok ds S'->ds.length=3) :
  PI X tg (.Call (.Name "range" p) [a,b,c] [] pos) (tMI Γ xw fun σ=>m σ>>=fun ds=>opt (bH ds)>>=fun is=>pure ⟨is.map .int,none,[]⟩) :=
 PI.imp (D7 hg hm ha hs hs2) fun σ H R h=>by
  obtain ⟨σd,ι,S,he,hs,ho⟩:=h
  refine ⟨σd,ι,S,he,hs,Out.monoE ho.bind fun ds S' ι' H' eq _ _ ⟨s',e',o'⟩ vs rs=>?_⟩
  have hl:=hlen _ _ _ _ eq
  obtain ⟨is,q,o'⟩:=Out.opt o'
  have fin:=o'.here s'
  obtain ⟨d,_,_,_,rfl,rfl,r,rs,hl⟩:=Paired.step rs hl
  obtain ⟨e,_,_,_,rfl,rfl,r2,rs,hl⟩:=Paired.step rs hl
  obtain ⟨f,_,_,_,rfl,rfl,r3,rs,hl⟩:=Paired.step rs hl
  obtain ⟨rfl,rfl⟩:=Paired.last rs hl
  (
   cases r with
   | int i =>
    cases r2 with
    | int j =>
     cases r3 with
     | int k =>
      simp only [bH] at q
      split at q
      ·rename_i hn
       cases q
       rw [Bool.and_eq_true,Bool.and_eq_true] at hn
       have h1:=d_ hn.1.1
       have h2:=d_ hn.1.2
       have h3:k=-1:=of_decide_eq_true hn.2
       subst h3
       exact ⟨i,j,rfl,⟨h1.1,h1.2,h2.1,h2.2⟩,fin _ (BB i j)⟩
      ·cases q
     | _=>cases q
    | _=>cases q
   | _=>cases q)
noncomputable def tMG (Γ:Gx) (t:Tg):TG:=fun v σ H Q=>∃ σd ι S d σd',aP Γ ι H σ σd/\av Γ ι H S/\Rep Γ ι H d v/\aM t d σd S=.ok σd' S/\∀ σ',aP Γ ι H σ' σd'->(∀ j,t.has j=false->σ'[j]?=σ[j]?)->Q σ' H
theorem PG.imp {target:Expr} {t t':TG} (h:PG X target t) (f:∀ v σ H Q,t' v σ H Q->t v σ H Q):PG X target t':=fun pins s σ H v u Q I r q=>h pins s σ H v u Q I r (f v σ H Q q)
theorem u0 {i:Nat} {x:Str} (hN:X.N.Nodup) (hi:X.N[i]?=some x) (hx:Loc X.env.scope x) (hf:X.fn x=true\/X.env.scope.names.lookup x=some .local):PG X (.Name x pos) (tMG Γ (.one i)) :=
 PG.imp (p9 hN hi hx hf) fun v σ H Q h=>by
  obtain ⟨σd,ι,S,d,σd',he,hs,r,hb,q⟩:=h
  cases hb
  exact q _ (he.set i r) fun j hj=>by rw [List.getElem?_set_ne (by intro z; subst z; simp [Tg.has] at hj)]
noncomputable def lF:List Nat->TGs
 | []=>nJ
 | i::r=>mj (gE i) (lF r)
noncomputable def iY (X:Cx):List Expr->List Nat->Prop:=Paired fun e i=>∃ x p,e=.Name x p/\X.N[i]?=some x/\Loc X.env.scope x/\(X.fn x=true\/X.env.scope.names.lookup x=some .local)
theorem rz (hN:X.N.Nodup):∀ {es:List Expr} {is:List Nat},iY X es is->PGs X es (lF is)
 | _,_,.nil=>Bu
 | _,_,.cons ⟨x,p,e,h1,h2,h3⟩ r=>by
  subst e
  exact xB (p9 hN h1 h2 h3) (rz hN r) rfl
theorem lX:∀ {es:List Expr} {is:List Nat},iY X es is->(assignEach es X.env).length=is.length/\(assignEach es X.env).findIdx? (·.1)=none
 | _,_,.nil=>⟨rfl,rfl⟩
 | _,_,.cons ⟨x,p,e,h1,h2,h3⟩ r=>by
  subst e
  obtain ⟨a,b⟩:=lX r
  refine ⟨congrArg (· + 1) a,?_⟩
  show List.findIdx? (·.1) ((false,_)::assignEach _ X.env)=none
  rw [List.findIdx?_cons]
  simp only [Bool.false_eq_true,if_false]
  rw [b]; rfl
theorem qO {ι:List Addr} {H:Hp} {Q:L2.St->Hp->Prop}:∀ {is:List Nat} {ds:List D} {xs:List V} {σ:L2.St} {σd:Sg},ds.length=is.length->ay Γ ι H ds xs->aP Γ ι H σ σd->(∀ σ',aP Γ ι H σ' (bQ is ds σd)->(∀ j,is.contains j=false->σ'[j]?=σ[j]?)->Q σ' H)->lF is xs σ H Q
 | [],[],_,σ,σd,_,.nil,he,q=>⟨rfl,q _ he fun _ _=>rfl⟩
 | i::is,d::ds,_,σ,σd,hl,.cons (b:=v) r rr,he,q=>⟨v,_,rfl,qO (by simpa using hl) rr (he.set i r) fun σ' h' hl'=>q σ' h' fun j hj=>by
   rw [List.contains_cons,Bool.or_eq_false_iff] at hj
   rw [hl' j hj.2,List.getElem?_set_ne (by intro z; subst z; simp at hj)]⟩
 | [],_::_,_,_,_,hl,_,_,_=>by simp at hl
 | _::_,[],_,_,_,hl,_,_,_=>by simp at hl
theorem D5 {es:List Expr} {is:List Nat} {k:Nat} (hK:Γ.K=X.K) (hc:X.calm=true) (hN:X.N.Nodup) (hn:iY X es is):PG X (.Tuple es k pos) (tMG Γ (.many is)) :=
 PG.imp (y9 hc (rz hN hn) (lX hn).1 (lX hn).2) fun v σ H Q h=>by
  obtain ⟨σd,ι,S,d,σd',he,hs,r,hb,q⟩:=h
  cases d with
  | tup ds =>
   obtain ⟨a,xs,rfl,t,p⟩:=r.bh
   have hb:guard (decide (ds.length=is.length)) (pure (bQ is ds σd):M Sg) S=.ok σd' S:=hb
   by_cases hl:ds.length=is.length
   ·rw [show decide (ds.length=is.length)=true from decide_eq_true hl] at hb
    cases hb
    exact ⟨a,xs,rfl,by rw [<- hK]; exact t,by rw [<- p.length]; exact hl,qO hl p he q⟩
   ·rw [show decide (ds.length=is.length)=false from decide_eq_false hl] at hb
    cases hb
  | _=>cases hb
theorem k_ (t:Tg) (d:D) (σ:Sg) (S:af):(∃ σ',aM t d σ S=.ok σ' S/\σ'.length=σ.length)\/aM t d σ S=.bad:=by
 have hlen:∀ (is:List Nat) (ds:List D) (σ:Sg),(bQ is ds σ).length=σ.length:=by
  intro is
  induction is with
  | nil=>intro ds σ; cases ds <;> rfl
  | cons i r ih=>intro ds σ; cases ds with
   | nil=>rfl
   | cons d ds=>show (bQ r ds (σ.set i (some d))).length=_; rw [ih,List.length_set]
 cases t with
 | one i=>exact .inl ⟨_,rfl,by rw [List.length_set]⟩
 | many is =>
  cases d with
  | tup ds =>
   show (∃ σ',guard (decide (ds.length=is.length)) (pure (bQ is ds σ):M Sg) S=.ok σ' S/\_)\/guard (decide (ds.length=is.length)) (pure (bQ is ds σ):M Sg) S=.bad
   by_cases hl:ds.length=is.length
   ·rw [show decide (ds.length=is.length)=true from decide_eq_true hl]
    exact .inl ⟨_,rfl,hlen _ _ _⟩
   ·rw [show decide (ds.length=is.length)=false from decide_eq_false hl]
    exact .inr rfl
  | _=>exact .inr rfl
theorem Out.aM {α:Type} {t:Tg} {d:D} {σd:Sg} {ι:List Addr} {H:Hp} {S:af} {f:Sg->M α} {k:α->af->List Addr->Hp->Prop} (ho:Out Γ xw ι H ((EV.aM t d σd>>=f) S) k):∃ σd',EV.aM t d σd S=.ok σd' S/\σd'.length=σd.length/\Out Γ xw ι H (f σd' S) k:=by
 rcases k_ t d σd S with ⟨σ',e,l⟩|e
 ·rw [ak e] at ho; exact ⟨σ',e,l,ho⟩
 ·rw [aU e] at ho; exact ho.elim
end
end EV

namespace EV
open PySem PySem.Spec PyProof.Rows L2
theorem nK:∀ {xs ys:List D} {i:Nat} {d:D},(bR xs ys)[i]?=some d->∃ x y,xs[i]?=some x/\ys[i]?=some y/\d=.tup [x,y]
 | [],_,i,d,h=>by simp [bR] at h
 | _::_,[],i,d,h=>by simp [bR] at h
 | x::r,y::q,0,d,h=>by simp [bR] at h; exact ⟨x,y,rfl,rfl,h.symm⟩
 | x::r,y::q,i+1,d,h=>by
  have h:(bR r q)[i]?=some d:=by simpa [bR] using h
  obtain ⟨a,b,h1,h2,h3⟩:=nK h
  exact ⟨a,b,by simpa using h1,by simpa using h2,h3⟩
theorem pZ:∀ (xs ys:List D),xs.length<=(bR xs ys).length\/ys.length<=(bR xs ys).length
 | [],_=>.inl (Nat.zero_le _)
 | _::_,[]=>.inr (Nat.zero_le _)
 | x::r,y::q=>(pZ r q).imp (fun h=>Nat.succ_le_succ h) fun h=>Nat.succ_le_succ h
theorem AU (ds:List D) (S:af):(∃ xs ys,ds=[.tup xs,.tup ys])\/fj ds S=.bad:=by
 unfold fj
 split
 ·exact .inl ⟨_,_,rfl⟩
 ·exact .inr rfl
theorem AQ {Γ:Gx} {ι:List Addr} {H:Hp} {x y:D} {vs:List V} (r:ay Γ ι H [x,y] vs):∃ v1 v2,vs=[v1,v2]/\Rep Γ ι H x v1/\Rep Γ ι H y v2:=by
 cases r with
 | cons r1 r =>
  cases r with
  | cons r2 r=>cases r; exact ⟨_,_,rfl,r1,r2⟩
section
variable {X:Cx} {Γ:Gx} {xw:XW} {a b:Expr} {m:Sg->M (List D)} {pos:Pos}
theorem A8 {p:Pos} {elts:List Expr} {k1:Nat} {tp:Pos} (hK:Γ.K=X.K) (hg:Gl X "zip") (hm:X.mg "zip" = none) (ha:PA X [a,b] (tMA Γ xw m)) (hs:starEach [a,b] X.env=(false,eval a X.env)::starEach [b] X.env) (hpl:(backTo pos (starEach [b] X.env)).any (·.1)=false) :
  PI X (.Tuple elts k1 tp) (.Call (.Name "zip" p) [a,b] [] pos) (tMI Γ xw fun σ=>m σ>>=fun ds=>fj ds) :=
 PI.imp (uD hg hm boot_zip ha hs hpl) fun σ H R h=>by
  obtain ⟨σd,ι,S,he,hs,ho⟩:=h
  refine ⟨σd,ι,S,he,hs,ho.bind.mono fun ds S' ι' H' _ _ ⟨s',e',o'⟩ vs r=>?_⟩
  rcases AU ds S' with ⟨xs,ys,rfl⟩|q
  ·obtain ⟨v1,v2,rfl,r1,r2⟩:=AQ r
   obtain ⟨a,us,rfl,sq1,p1⟩:=r1.bh
   obtain ⟨b,ws,rfl,sq2,p2⟩:=r2.bh
   have fin:=o'.here s'
   refine ⟨true,true,a,b,rfl,⟨us,by rw [<- hK]; exact sq1⟩,⟨ws,by rw [<- hK]; exact sq2⟩,fin _ fun ι1 H1 S1 e2 s1 st1=>?_⟩
   obtain ⟨a',us',e3,sq3,p3⟩:=(r1.ext e2).bh
   cases e3
   obtain ⟨b',ws',e4,sq4,p4⟩:=(r2.ext e2).bh
   cases e4
   have q3:SqB X.K H1 true a us':=by rw [<- hK]; exact sq3
   have q4:SqB X.K H1 true b ws':=by rw [<- hK]; exact sq4
   refine ⟨fun i d hd=>?_,us',ws',q3,q4,?_⟩
   ·obtain ⟨x,y,hx,hy,rfl⟩:=nK hd
    obtain ⟨x',hx',rx⟩:=Paired.get p3 hx
    obtain ⟨y',hy',ry⟩:=Paired.get p4 hy
    refine ⟨⟨us',ws',x',y',q3,q4,hx',hy'⟩,?_⟩
    rintro z H' ⟨u,v,p,h1,h2,hp,rfl,rfl⟩
    have h1:=h1 us' q3
    have h2:=h2 ws' q4
    rw [hx'] at h1; cases h1
    rw [hy'] at h2; cases h2
    exact ⟨Ext.laid hp,s1.laid hp _,.ek (.of cB) (.cons (rx.ext (Ext.laid hp)) (.cons (ry.ext (Ext.laid hp)) .nil))⟩
   ·show us'.length<=(bR xs ys).length\/ws'.length<=(bR xs ys).length
    rw [<- p3.length,<- p4.length]
    exact pZ xs ys
  ·rw [q] at o'; exact o'.elim
end
end EV

namespace EV
open PySem PySem.Spec PyProof.Rows L2
noncomputable def XF:XW:=fun _ _ _ _=>False
section
variable {Γ:Gx} {xw:XW} {ι ι':List Addr} {H H':Hp} {S:af} {σ:L2.St}
theorem av.take (hS:av Γ ι H S) {l:Addr} {xs:List V} {ds:List D} (hn:l ∉ ι) (h:H l=some (.lst xs)) (r:ay Γ ι H ds xs):av Γ (ι++[l]) H (S++[.lst ds]):=by
 have mv:∀ {d:D} {v:V},Rep Γ ι H d v->Rep Γ (ι++[l]) H d v:=fun r=>r.move (List.prefix_append _ _) (fun _ _ e=>e) fun _ _ _ e=>e
 refine ⟨by simp [hS.len],List.nodup_append.mpr ⟨hS.nd,by simp,?_⟩,fun m c hm=>?_⟩
 ·intro a ha b hb
  have:b=l:=by simpa using hb
  subst this
  exact fun z=>hn (z ▸ ha)
 ·by_cases hl:m < S.length
  ·rw [List.getElem?_append_left hl] at hm
   obtain ⟨a,ha,c1⟩:=hS.cell m c hm
   refine ⟨a,fH (List.prefix_append _ _) ha,?_⟩
   cases c with
   | lst zs=>obtain ⟨ws,hw,rw'⟩:=c1; exact ⟨ws,hw,Paired.imp (fun _ _ r=>mv r) rw'⟩
   | dct kvs=>exact c1
  ·rw [List.getElem?_append_right (by omega)] at hm
   have hl2:m - S.length=0:=by
    have:=(List.getElem?_eq_some_iff.mp hm).1
    simp at this; omega
   rw [hl2] at hm
   have h':(Cell.lst ds)=c:=by simpa using hm
   subst h'
   have e1:m=ι.length:=by rw [hS.len]; omega
   subst e1
   exact ⟨l,by simp,xs,h,Paired.imp (fun _ _ r=>mv r) r⟩
theorem Ext.past (e:Ext ι ι' H H') {l:Addr} {ys:List V} (hl:H l=none):Ext ι ι' H (upd H' l (.lst ys)) :=
 ⟨e.pre,fun a xs h=>by rw [aE (aV h hl)]; exact e.tup a xs h,fun a o u h=>by rw [aE (aV h hl)]; exact e.frz a o u h,fun a o h n=>by rw [aE (aV h hl)]; exact e.oth a o h n,e.fresh⟩
theorem Ext.b7 (e:Ext ι ι' H H') {l:Addr} {o:HO} (h:H l=some o) (hn:l ∉ ι):H' l=some o/\l ∉ ι':=⟨e.oth l o h hn,fun m=>by have:=e.fresh l m hn; rw [h] at this; cases this⟩
theorem Bx {src:Src} {f:D->M (Option D)} {post:List D} {S2:af} (h:bq src f [] S=.ok post S2):aC src S=.ok () S/\post=[]/\S2=S:=by
 have h:(aC src>>=fun _=>pure []) S=.ok post S2:=h
 rcases ia src S with e|e
 ·rw [ak e] at h; cases h; exact ⟨e,rfl,rfl⟩
 ·rw [aU e] at h; cases h
theorem BV {src:Src} {f:D->M (Option D)} {d:D} {rest post:List D} {S2:af} (h:bq src f (d::rest) S=.ok post S2) :
  aC src S=.ok () S/\∃ y S3 post',f d S=.ok y S3/\bq src f rest S3=.ok post' S2/\post=(match y with|some y=>y::post'|none=>post'):=by
 have h:(aC src>>=fun _=>f d>>=fun y=>bq src f rest>>=fun ys=>pure (match y with|some y=>y::ys|none=>ys)) S=.ok post S2:=h
 rcases ia src S with e|e
 ·rw [ak e] at h
  cases q:f d S with
  | bad=>rw [aU q] at h; cases h
  | exc c S3=>rw [cD q] at h; cases h
  | ok y S3 =>
   rw [ak q] at h
   cases q2:bq src f rest S3 with
   | bad=>rw [aU q2] at h; cases h
   | exc c S4=>rw [cD q2] at h; cases h
   | ok ys S4=>rw [ak q2] at h; cases h; exact ⟨e,y,S3,ys,rfl,q2,rfl⟩
 ·rw [aU e] at h; cases h
end
section
variable {X:Cx} {Γ:Gx} {xw:XW} {scope:Scope} {N':List Str} {k:Nat} {elt iter tg:Expr} {ifs:List Expr} {pos:Pos} {mi:Sg->M Src} {t:Tg} {nt:Sg->M Bool} {me:Sg->M D}
noncomputable def iD (k:Nat) (mi:Sg->M Src) (t:Tg) (nt:Sg->M Bool) (me:Sg->M D):Sg->M D:=fun σ=>mi σ>>=fun s =>
 quiet (bq s (fun d=>aM t d (σ++List.replicate k none)>>=fun σ'=>nt σ'>>=fun b=>if b=true then me σ'>>=fun y=>pure (some y) else pure none) s.its)>>=fun ys=>guard (fits ys.length) (alloc (.lst ys))
theorem sy (hslot:∀ j,j < X.N.length->t.has j=false) {σ:L2.St} (hσ:σ.length=X.N.length) {H:Hp} {Q:VK} (h:tM Γ xw (iD k mi t nt me) σ H Q):jx k (tMI Γ xw mi) (tMG Γ t) (tMT Γ XF nt) (tM Γ XF me) σ H Q:=by
 obtain ⟨σd,ι,S,hE,hS,ho⟩:=h
 refine ⟨σd,ι,S,hE,hS,ho.bind.mono fun src S1 ι1 H1 _ _ ⟨s1,e1,o1⟩ J hJ l hl=>?_⟩
 generalize hf:(fun d=>aM t d (σd++List.replicate k none)>>=fun σ'=>nt σ'>>=fun b=>if b=true then me σ'>>=fun y=>pure (some y) else pure none)=f at o1
 cases q:bq src f src.its S1 with
 | bad=>rw [aU (show quiet (bq src f src.its) S1=.bad by unfold quiet; rw [q])] at o1; exact o1.elim
 | exc c S2=>rw [aU (show quiet (bq src f src.its) S1=.bad by unfold quiet; rw [q])] at o1; exact o1.elim
 | ok ys S2 =>
  rw [ak (show quiet (bq src f src.its) S1=.ok ys S2 by unfold quiet; rw [q])] at o1
  obtain ⟨hz,o1⟩:=Out.guard o1
  have hz:=dh hz
  refine ⟨fun i m H=>∃ ι' S' pre post xs,i<=src.its.length/\m=src.its.length - i/\Ext ι1 ι' H1 H/\av Γ ι' H S'/\l ∉ ι'/\H l=some (.lst xs)/\ay Γ ι' H pre xs/\bq src f (src.its.drop i) S'=.ok post S2/\ys=pre++post/\aP Γ ι' H σ σd,
   ⟨src.its.length,ι1,S1,[],ys,[],Nat.zero_le _,rfl,Ext.laid hl,s1.laid hl _,s1.new hl,cB,.nil,q,rfl,(hE.ext e1).ext (Ext.laid hl)⟩,?_⟩
  rintro i m H ⟨ι',S',pre,post,xs,hi,rfl,eH,sH,ln,hH,rp,hc,hys,eE⟩
  by_cases hlt:i < src.its.length
  ·rw [List.drop_eq_getElem_cons hlt] at hc
   obtain ⟨st,y,S3,post',hfd,hc',hpost⟩:=BV hc
   obtain ⟨jgo,jyld⟩:=(hJ ι' H S' eH sH st).1 i src.its[i] (List.getElem?_eq_getElem hlt)
   refine .inr ⟨jgo,fun x H' yl=>?_⟩
   obtain ⟨eX,sX,rX⟩:=jyld x H' yl
   obtain ⟨hH',_⟩:=eX.b7 hH ln
   rw [<- hf] at hfd
   have hfd:(aM t src.its[i] (σd++List.replicate k none)>>=fun σ'=>nt σ'>>=fun b=>if b=true then me σ'>>=fun y=>pure (some y) else pure none) S'=.ok y S3:=hfd
   obtain ⟨σd',hb⟩:∃ σd',aM t src.its[i] (σd++List.replicate k none) S'=.ok σd' S':=by
    rcases k_ t src.its[i] (σd++List.replicate k none) S' with ⟨σd',hb,_⟩|hb
    ·exact ⟨σd',hb⟩
    ·rw [aU hb] at hfd; cases hfd
   rw [ak hb] at hfd
   refine ⟨σd++List.replicate k none,ι',S',src.its[i],σd',(eE.ext eX).more k,sX,rX,hb,fun σ' hE' hK=>⟨fun j v hj=>?_,?_⟩⟩
   ·rw [hK j (hslot j ?_)]; exact hj
    by_cases hjl:j < σ.length
    ·omega
    ·rw [List.getElem?_append_right (by omega),List.getElem?_replicate] at hj
     split at hj <;> cases hj
   ·cases qn:nt σd' S' with
    | bad=>rw [aU qn] at hfd; cases hfd
    | exc c S4=>rw [cD qn] at hfd; cases hfd
    | ok b S4 =>
     rw [ak qn] at hfd
     refine ⟨σd',ι',S',hE',sX,?_⟩
     rw [qn]
     intro ι3 H3 e3 s3
     obtain ⟨hH3,ln3⟩:=e3.b7 hH' ln
     have eA:Ext ι1 ι3 H1 H3:=(eH.trans eX).trans e3
     cases b with
     | false =>
      rw [if_neg Bool.false_ne_true] at hfd ⊢
      cases hfd
      exact ⟨src.its.length - (i+1),by omega,ι3,_,pre,post',xs,hlt,rfl,eA,s3,ln3,hH3,ay.ext e3 (ay.ext eX rp),hc',by rw [hys,hpost],(eE.ext eX).ext e3⟩
     | true =>
      rw [if_pos rfl] at hfd ⊢
      refine ⟨σd',ι3,S4,hE'.ext e3,s3,?_⟩
      cases qe:me σd' S4 with
      | bad=>rw [aU qe] at hfd; cases hfd
      | exc c S5=>rw [cD qe] at hfd; cases hfd
      | ok yd S5 =>
       rw [ak qe] at hfd
       cases hfd
       intro ι4 H4 e4 s4 v rv
       obtain ⟨hH4,ln4⟩:=e4.b7 hH3 ln3
       have rp4:ay Γ ι4 H4 pre xs:=ay.ext e4 (ay.ext e3 (ay.ext eX rp))
       refine ⟨xs,hH4,?_,src.its.length - (i+1),by omega,ι4,_,pre++[yd],post',xs++[v],hlt,rfl,(eA.trans e4).past hl,s4.other hH4 ln4,ln4,cB,ay.write hH4 (Paired.app rp4 (.cons rv .nil)),hc',by rw [hys,hpost]; simp,(((eE.ext eX).ext e3).ext e4).write hH4⟩
       have:=rp4.length
       rw [hys,hpost,List.length_append,List.length_cons] at hz
       omega
  ·have ei:i=src.its.length:=by omega
   subst ei
   rw [List.drop_length] at hc
   obtain ⟨st,rfl,rfl⟩:=Bx hc
   refine .inl ⟨(hJ ι' H S2 eH sH st).2,?_⟩
   rw [List.append_nil] at hys
   subst hys
   refine o1 (ι'++[l]) H ⟨eH.pre.trans (List.prefix_append _ _),eH.tup,eH.frz,eH.oth,fun a ha hn=>?_⟩ (sH.take ln hH rp) _ (.loc (by rw [<- sH.len]; simp))
   rcases List.mem_append.mp ha with z|z
   ·exact eH.fresh a z hn
   ·have:a=l:=by simpa using z
    rw [this]; exact hl
theorem Dh (C:dJ X scope N' k) (hc:X.calm=true) (hslot:∀ j,j < X.N.length->t.has j=false) (hi:PI X tg iter (tMI Γ xw mi)) (hg:∀ cl fp s3 H3,PG (aK X scope cl N' fp s3 H3) tg (tMG Γ t)) (htt:∀ cl fp s3 H3,PF (aK X scope cl N' fp s3 H3) ifs (tMT Γ XF nt)) (hte:∀ cl fp s3 H3,PE (aK X scope cl N' fp s3 H3) elt (tM Γ XF me))
  (hs:∀ x,foldedSetIterable iter X.env x=pure x):PE X (.ListComp elt [⟨tg,iter,ifs,0⟩] scope pos) (tM Γ xw (iD k mi t nt me)):=by
 intro pins s σ H Q I h
 exact D8 C hc hi hg htt hte hs pins s σ H Q I (sy hslot I.len h)
noncomputable def FlK (Γ:Gx) (D:Ends):Fl->af->List Addr->Hp->Prop
 | .nx σ',_,ι',H'=>∀ σv,aP Γ ι' H' σv σ'->D.nx σv H'
 | .rt d,_,ι',H'=>∀ v,Rep Γ ι' H' d v->D.rt v H'
 | .bk σ',_,ι',H'=>∀ σv,aP Γ ι' H' σv σ'->D.bk σv H'
 | .ct σ',_,ι',H'=>∀ σv,aP Γ ι' H' σv σ'->D.ct σv H'
noncomputable def tMS (Γ:Gx) (xw:XW) (m:Sg->M Fl):TS:=fun D σ H=>∃ σd ι S,aP Γ ι H σ σd/\av Γ ι H S/\Out Γ xw ι H (m σd S) (FlK Γ D)
variable {e:Expr} {ma:Sg->M D} {na:Sg->M Bool} {ms ms2:Sg->M Fl} {st:Stmt} {sts sts2:List Stmt}
theorem ue (he:PE X e (tM Γ xw ma)):PS X (.Return (some e) pos) (tMS Γ xw fun σ=>ma σ>>=fun d=>pure (.rt d)) :=
 PS.imp (A4 he) fun D σ H h=>by
  obtain ⟨σd,ι,S,hE,hs,ho⟩:=h
  exact ⟨σd,ι,S,hE,hs,ho.bind.mono fun d S' ι' H' _ _ ⟨s',e',o'⟩ v r=>o'.here s' v r⟩
theorem C1:PS X (.Return none pos) (tMS Γ xw fun _=>pure (.rt .non)) :=
 PS.imp AY fun D σ H h=>by
  obtain ⟨σd,ι,S,hE,hs,ho⟩:=h
  exact ho.here hs _ .non
theorem zB (he:PE X e (tM Γ xw ma)) (hs:swapsWith e none pos.line X.env=pure false):PS X (.Expr e pos) (tMS Γ xw fun σ=>ma σ>>=fun _=>pure (.nx σ)) :=
 PS.imp (zo he hs) fun D σ H h=>by
  obtain ⟨σd,ι,S,hE,hs,ho⟩:=h
  exact ⟨σd,ι,S,hE,hs,ho.bind.mono fun d S' ι' H' _ _ ⟨s',e',o'⟩ v r=>o'.here s' _ (hE.ext e')⟩
theorem uU:PS X (.Pass pos) (tMS Γ xw fun σ=>pure (.nx σ)) :=
 PS.imp zO fun D σ H h=>by
  obtain ⟨σd,ι,S,hE,hs,ho⟩:=h
  exact ho.here hs _ hE
theorem Ez {x j p2}:PS X (.Expr (.Constant (.str x) j p2) pos) (tMS Γ xw fun σ=>pure (.nx σ)) :=
 PS.imp uv fun D σ H h=>by
  obtain ⟨σd,ι,S,hE,hs,ho⟩:=h
  exact ho.here hs _ hE
theorem tP {D:Ends} {σ:L2.St} {H:Hp} (h:tMS Γ xw (fun σ=>ma σ>>=fun d=>aM t d σ>>=fun σ'=>pure (.nx σ')) D σ H):kW (tM Γ xw ma) (tMG Γ t) D σ H:=by
 obtain ⟨σd,ι,S,hE,hs,ho⟩:=h
 refine ⟨σd,ι,S,hE,hs,ho.bind.mono fun d S' ι' H' _ _ ⟨s',e',o'⟩ v r=>?_⟩
 obtain ⟨σd',hb,_,o'⟩:=Out.aM o'
 exact ⟨σd,ι',S',d,σd',hE.ext e',s',r,hb,fun σ' hE' _=>o'.here s' _ hE'⟩
theorem kF (he:PE X e (tM Γ xw ma)) (hg:PG X tg (tMG Γ t)) (hs:swapsWithSole [tg] e pos.line X.env=pure false) (hw:swappedStores [tg] e X.env=pure none) (h1:(assignEach [tg] X.env).map (·.2)=[assign tg X.env]) :
  PS X (.Assign [tg] e pos) (tMS Γ xw fun σ=>ma σ>>=fun d=>aM t d σ>>=fun σ'=>pure (.nx σ')):=PS.imp (oj he hg hs hw h1) fun D σ H h=>tP h
theorem vc {j:Nat} {y:Str} {py spos:Pos} (C:dJ X scope N' k) (hc:X.calm=true) (hslot:∀ j,j < X.N.length->t.has j=false) (hi:PI X tg iter (tMI Γ xw mi)) (hg:∀ cl fp s3 H3,PG (aK X scope cl N' fp s3 H3) tg (tMG Γ t)) (htt:∀ cl fp s3 H3,PF (aK X scope cl N' fp s3 H3) ifs (tMT Γ XF nt)) (hte:∀ cl fp s3 H3,PE (aK X scope cl N' fp s3 H3) elt (tM Γ XF me))
  (hN:X.N.Nodup) (hj:X.N[j]?=some y) (hy:X.env.scope.names.lookup y=some .local) (hsw:swapsWith (.ListComp elt [⟨tg,iter,ifs,0⟩] scope pos) (some (.Name y py)) spos.line X.env=pure true) (hs:∀ x,foldedSetIterable iter X.env x=pure x) :
  PS X (.Assign [.Name y py] (.ListComp elt [⟨tg,iter,ifs,0⟩] scope pos) spos) (tMS Γ xw fun σ=>iD k mi t nt me σ>>=fun d=>aM (.one j) d σ>>=fun σ'=>pure (.nx σ')):=by
 intro pins s σ H D I h
 refine vD C hc hi hg htt hte hN hj hy hsw hs pins s σ H D I ?_
 have h1:tM Γ xw (iD k mi t nt me) σ H (fun x H1=>gE j x σ H1 D.nx):=by
  obtain ⟨σd,ι,S,hE,hS,ho⟩:=h
  refine ⟨σd,ι,S,hE,hS,ho.bind.mono fun d S' ι' H' _ _ ⟨s',e',o'⟩ v r=>?_⟩
  exact o'.here s' _ ((hE.ext e').set j r)
 exact sy hslot I.len h1
theorem yi {c:Expr} (hc:PT X c (tMT Γ xw na)) (ha:PSs X sts (tMS Γ xw ms)) (hb:PSs X sts2 (tMS Γ xw ms2)):PS X (.If c sts sts2 pos) (tMS Γ xw fun σ=>na σ>>=fun k=>if k=true then ms σ else ms2 σ) :=
 PS.imp (CT hc ha hb) fun D σ H h=>by
  obtain ⟨σd,ι,S,hE,hs,ho⟩:=h
  refine ⟨σd,ι,S,hE,hs,ho.bind.mono fun k S' ι' H' _ _ ⟨s',e',o'⟩=>?_⟩
  cases k with
  | true=>rw [if_pos rfl]; exact ⟨σd,ι',S',hE.ext e',s',o'⟩
  | false=>rw [if_neg Bool.false_ne_true]; exact ⟨σd,ι',S',hE.ext e',s',o'⟩
theorem tL:PSs X [] (tMS Γ xw fun σ=>pure (.nx σ)) :=
 PSs.imp yH fun D σ H h=>by
  obtain ⟨σd,ι,S,hE,hs,ho⟩:=h
  exact ho.here hs _ hE
theorem Ar (h1:PS X st (tMS Γ xw ms)):PSs X [st] (tMS Γ xw ms):=uB h1
theorem xO (h1:PS X st (tMS Γ xw ms)) (h2:PSs X sts (tMS Γ xw ms2)):PSs X (st::sts) (tMS Γ xw fun σ=>ms σ>>=fun f=>match f with|.nx σ'=>ms2 σ'|f=>pure f) :=
 PSs.imp (zX h1 h2) fun D σ H h=>by
  obtain ⟨σd,ι,S,hE,hs,ho⟩:=h
  refine ⟨σd,ι,S,hE,hs,ho.bind.mono fun f S' ι' H' _ _ ⟨s',e',o'⟩=>?_⟩
  cases f with
  | nx σ'=>exact fun σv hv=>⟨σ',ι',S',hv,s',o'⟩
  | rt d=>exact fun v r=>o'.here s' v r
  | bk σ'=>exact fun σv hv=>o'.here s' σv hv
  | ct σ'=>exact fun σv hv=>o'.here s' σv hv
end
end EV

namespace EV
open PySem PySem.Spec PyProof.Rows L2
theorem Paired.put {α β:Type} {R:α->β->Prop} {a:α} {b:β} (r:R a b):∀ {as:List α} {bs:List β} (j:Nat),Paired R as bs->Paired R (as.set j a) (bs.set j b)
 | _,_,_,.nil=>.nil
 | _,_,0,.cons _ t=>.cons r t
 | _,_,j+1,.cons h t=>.cons h (Paired.put r j t)
section
variable {X:Cx} {Γ:Gx} {xw:XW}
noncomputable def mP (Γ:Gx) (xw:XW):V->V->V->Hp->(Hp->Prop)->Prop:=fun o i v H Q=>∃ ι S da di dv,av Γ ι H S/\Rep Γ ι H da o/\Rep Γ ι H di i/\Rep Γ ι H dv v/\Out Γ xw ι H (fk da di dv S) fun _ _ _ H'=>Q H'
theorem D9:j7 X (mP Γ xw):=by
 intro pins s σ H o i v ov iv u Q I ro ri rv h
 obtain ⟨ι,S,da,di,dv,hS,r1,r2,r3,ho⟩:=h
 cases da with
 | loc l =>
  cases di with
  | int k =>
   obtain ⟨es,e,ho⟩:=Out.aW ho
   obtain ⟨a,xs,ha,hx,p⟩:=hS.lst e
   cases r2
   cases r1 with
   | loc q =>
    rw [ha] at q; cases q
    cases q:EV.ixN es.length k with
    | none=>rw [q] at ho; exact ho.elim
    | some j =>
     rw [q] at ho
     refine set_list pins s σ H _ _ v _ _ u Q I ro ri rv ⟨a,xs,k,j,rfl,rfl,hx,by rw [<- p.length]; exact q,?_⟩
     exact ho ι _ (Ext.write hx (List.mem_of_getElem? ha)) (hS.write e ha hx (Paired.put r3 j p))
  | _=>exact ho.elim
 | _=>exact ho.elim
theorem AG {o i e:Expr} {mo mi me:Sg->M D} {pos p:Pos} (he:PE X e (tM Γ xw me)) (h1:PE X o (tM Γ xw mo)) (h2:PE X i (tM Γ xw mi)) (hi:∀ a b c q,i≠.Slice a b c q)
  (hs:swapsWithSole [.Subscript o i p] e pos.line X.env=pure false):PS X (.Assign [.Subscript o i p] e pos) (tMS Γ xw fun σ=>me σ>>=fun d=>mo σ>>=fun a=>mi σ>>=fun k=>fk a k d>>=fun _=>pure (.nx σ)):=by
 have pg:PG X (.Subscript o i p) (qL (tM Γ xw mo) (tM Γ xw mi) (mP Γ xw)):=Dn h1 h2 D9 (by
  intro v
  cases i <;> first|rfl|exact absurd rfl (hi _ _ _ _))
 refine PS.imp (oj he pg hs rfl rfl) fun D σ H h=>?_
 obtain ⟨σd,ι,S,hE,hs,ho⟩:=h
 refine ⟨σd,ι,S,hE,hs,ho.bind.mono fun d S1 ι1 H1 _ _ ⟨s1,e1,o1⟩ v rv=>?_⟩
 refine ⟨σd,ι1,S1,hE.ext e1,s1,o1.bind.mono fun a S2 ι2 H2 _ _ ⟨s2,e2,o2⟩ ov ro=>?_⟩
 refine ⟨σd,ι2,S2,(hE.ext e1).ext e2,s2,o2.bind.mono fun k S3 ι3 H3 _ _ ⟨s3,e3,o3⟩ iv ri=>?_⟩
 exact ⟨ι3,S3,a,k,d,s3,ro.ext e3,ri,(rv.ext e2).ext e3,o3.bind.mono fun _ S4 ι4 H4 _ _ ⟨s4,e4,o4⟩=>o4.here s4 _ ((((hE.ext e1).ext e2).ext e3).ext e4)⟩
end
end EV

namespace EV
open PySem PySem.Spec PyProof.Rows L2 TB
theorem rY:∀ {t u:List Int},t≠u->lexLe t u=true->aA t u=true
 | [],[],h,_=>absurd rfl h
 | [],_::_,_,_=>rfl
 | _::_,[],_,e=>by cases e
 | a::r,b::q,h,e=>by
  unfold lexLe at e
  unfold aA
  by_cases ab:a=b
  ·subst ab
   rw [if_neg (Int.lt_irrefl a),if_pos rfl] at e
   rw [if_pos rfl]
   exact rY (fun z=>h (by rw [z])) e
  ·rw [if_neg ab]
   by_cases lt:a < b
   ·exact decide_eq_true lt
   ·rw [if_neg lt,if_neg ab] at e; cases e
theorem m8:∀ {t u:List Int},lexLe t u=false->aA u t=true
 | [],_,e=>by cases e
 | _::_,[],_=>rfl
 | a::r,b::q,e=>by
  unfold lexLe at e
  unfold aA
  by_cases ab:a=b
  ·subst ab
   rw [if_neg (Int.lt_irrefl a),if_pos rfl] at e
   rw [if_pos rfl]
   exact m8 e
  ·rw [if_neg fun z=>ab z.symm]
   by_cases lt:a < b
   ·rw [if_pos lt] at e; cases e
   ·exact decide_eq_true (by omega)
theorem kQ (t x:List Int):∀ r,x∈bU t r ↔ x=t\/x∈r
 | []=>by unfold bU; simp
 | u::r=>by
  unfold bU
  by_cases e:t=u
  ·rw [if_pos e]; subst e; simp
  ·rw [if_neg e]
   by_cases l:lexLe t u=true
   ·rw [if_pos l]; simp
   ·rw [if_neg l,List.mem_cons,kQ t x r,List.mem_cons]; constructor
    ·rintro (h|h|h)
     ·exact .inr (.inl h)
     ·exact .inl h
     ·exact .inr (.inr h)
    ·rintro (h|h|h)
     ·exact .inr (.inl h)
     ·exact .inl h
     ·exact .inr (.inr h)
theorem o6 (t:List Int):∀ {r},r.Pairwise (fun a b=>aA a b=true)->(bU t r).Pairwise (fun a b=>aA a b=true)
 | [],_=>by unfold bU; exact List.pairwise_singleton _ _
 | u::r,h=>by
  unfold bU
  by_cases e:t=u
  ·rw [if_pos e]; exact h
  ·rw [if_neg e]
   obtain ⟨h1,h2⟩:=List.pairwise_cons.mp h
   by_cases l:lexLe t u=true
   ·rw [if_pos l]
    have tu:=rY e l
    refine List.pairwise_cons.mpr ⟨fun x hx=>?_,h⟩
    rcases List.mem_cons.mp hx with z|z
    ·rw [z]; exact tu
    ·exact lex_trans _ _ _ tu (h1 x z)
   ·rw [if_neg l]
    have ut:=m8 (Bool.eq_false_iff.mpr l)
    refine List.pairwise_cons.mpr ⟨fun x hx=>?_,o6 t h2⟩
    rcases (kQ t x r).mp hx with z|z
    ·rw [z]; exact ut
    ·exact h1 x z
theorem jk:∀ ts,(aD ts).Pairwise (fun a b=>aA a b=true)
 | []=>.nil
 | t::r=>o6 t (jk r)
theorem jB (x:List Int):∀ ts,x∈aD ts ↔ x∈ts
 | []=>Iff.rfl
 | t::r=>by
  show x∈bU t (aD r) ↔ _
  rw [kQ,jB x r,List.mem_cons]
theorem qi {l:List (List Int)} (h:l.Pairwise (fun a b=>aA a b=true)):l.Nodup:=h.imp fun {a b} e q=>by
 rw [q,lex_irrefl] at e; cases e
theorem jy {ts ks:List (List Int)} (h:ks.Pairwise (fun a b=>aA a b=true)) (m:∀ y,y∈ks ↔ y∈ts):ks=aD ts:=by
 have p:ks.Perm (aD ts):=(List.perm_ext_iff_of_nodup (qi h) (qi (jk ts))).mpr fun y=>by rw [m,jB]
 refine p.eq_of_pairwise (fun x y _ _ h1 h2=>?_) h (jk ts)
 have z:=lex_trans _ _ _ h1 h2
 rw [lex_irrefl] at z; cases z
theorem nP (t:List Int):∀ r,(bU t r).length<=r.length+1
 | []=>Nat.le_refl _
 | u::r=>by
  unfold bU
  by_cases e:t=u
  ·rw [if_pos e]; exact Nat.le_succ _
  ·rw [if_neg e]
   by_cases l:lexLe t u=true
   ·rw [if_pos l]; exact Nat.le_refl _
   ·rw [if_neg l]; exact Nat.succ_le_succ (nP t r)
theorem o5:∀ ts,(aD ts).length<=ts.length
 | []=>Nat.le_refl _
 | t::r=>Nat.le_trans (nP t (aD r)) (Nat.succ_le_succ (o5 r))
theorem lK:∀ {ds:List D} {ts:List (List Int)},tups ds=some ts->ds=ts.map fun t=>.tup (t.map .int)
 | [],_,h=>by cases h; rfl
 | d::r,ts,h=>by
  cases d with
  | tup es =>
   unfold tups at h
   cases q1:allInts es with
   | none=>rw [q1] at h; cases h
   | some t =>
    cases q2:tups r with
    | none=>rw [q1,q2] at h; cases h
    | some q =>
     rw [q1,q2] at h; cases h
     rw [List.map_cons,<- lK q2,<- ints_map q1]
  | _=>cases h
section
variable {X:Cx} {Γ:Gx} {xw:XW} {ι:List Addr} {H:Hp}
theorem l9 {P:Program} {w:World}:∀ {ks:List Int} {its:List Value},Vals (ks.map V.int) its->ItemsAre (intKind P w) ks its
 | [],_,.nil=>.nil
 | k::r,_,.cons h t=>by
  obtain ⟨u,rfl⟩:=h
  exact .cons (beq_self_eq_true k) (l9 t)
theorem eY {pins:List (Addr × Obj)} {σ:L2.St} {s:Shared} {c:Addr} {ks:List Int} (I:Inv X pins σ H s) (h:SqT X.K H c (ks.map V.int)):TK X.prog X.w s.heap ks c:=by
 obtain ⟨its,r,⟨o,e1,e2,n,e3⟩,_⟩:=I.tuple h
 exact ⟨o,its.toArray,n,e1,e2,e3,l9 r⟩
theorem jU:∀ {out:List Value} {ks:List (List Int)},out.length=ks.length->(∀ (i:Nat) v k,out[i]?=some v->ks[i]?=some k->∃ c,v=.ref c/\SqT Γ.K H c (k.map V.int))->∃ vs,Vals vs out/\ay Γ ι H (ks.map fun t=>.tup (t.map .int)) vs
 | [],[],_,_=>⟨[],.nil,.nil⟩
 | [],_::_,hl,_=>by cases hl
 | _::_,[],hl,_=>by cases hl
 | v::o,k::r,hl,h=>by
  obtain ⟨c,rfl,e⟩:=h 0 v k rfl rfl
  obtain ⟨vs,h1,h2⟩:=jU (out:=o) (ks:=r) (Nat.succ.inj hl) fun i v' k' e1 e2=>h (i+1) v' k' e1 e2
  exact ⟨.ref c::vs,.cons rfl h1,.cons (.ek e (gY k)) h2⟩
theorem item_at:∀ {ts:List (List Int)} {xs:List V} {its:List Value} {i:Nat} {v:Value},ay Γ ι H (ts.map fun t=>.tup (t.map .int)) xs->Vals xs its->its[i]?=some v->∃ c t,v=.ref c/\ts[i]?=some t/\SqT Γ.K H c (t.map V.int)
 | [],_,_,_,_,.nil,.nil,e=>by simp at e
 | t::r,_,_,0,_,.cons a p,.cons b q,e=>by
  cases e
  obtain ⟨c,ys,rfl,sq,rp⟩:=a.bh
  cases b
  rw [d7 rp] at sq
  exact ⟨c,t,rfl,rfl,sq⟩
 | t::r,_,_,i+1,_,.cons a p,.cons b q,e=>by
  obtain ⟨c,u,e1,e2,e3⟩:=item_at (ts:=r) (i:=i) p q e
  exact ⟨c,u,e1,e2,e3⟩
theorem uC {sub:Sub} {x y:Str} {p p' pos pos':Pos} {a:Expr} {ma:Sg->M D} (hK:Γ.K=X.K) (hc:X.calm=true) (hu:X.A.units+4 < cLine) (hg:Gl X x) (hm:X.mg x=none) (hv:bootBuiltins x=some (.builtin "sorted"))
  (hg':Gl X y) (hm':X.mg y=none) (hv':bootBuiltins y=some (.type "set")) (ha:PE X a (tM Γ xw ma)) (hn:x≠"__name__") (hdb:(x==("__debug__" : Str))=false) (hn':y≠"__name__") (hdb':(y==("__debug__" : Str))=false)
  (hs:starEach [a] X.env=(false,eval a X.env)::starEach [] X.env):PE X (.Call (.Name x p) [.Call (.Name y p') [a] [] pos'] [] pos) (tM Γ xw fun σ=>ma σ>>=fun d=>bi1 sub .sortedSet d):=by
 intro pins s σ H Q I h
 refine wpAny_Call_Name_kw (cu I hg hm hv ?_ hn hdb)
 refine PyProof.Rows.callWith_builtin1 (e:=.Call (.Name y p') [a] [] pos') (rest:=[]) ?_ rfl rfl
 refine Calls.spliced_cons ?_
 refine wpAny_Call_Name_kw (cu I hg' hm' hv' ?_ hn' hdb')
 refine PyProof.Rows.callWith_type1 (e:=a) (rest:=[]) ?_ hs rfl
 rw [hs]
 refine Calls.spliced_cons (thn (ha pins s σ H _ I (ED h)) fun u s1 ⟨v,H1,I1,r1,q1⟩=>Calls.spliced_nil ?_)
 obtain ⟨ι,S,d,hS,r,ho⟩:=q1
 obtain ⟨ds,q,ho⟩:=Out.cK ho
 obtain ⟨ts,q2,ho⟩:=Out.opt ho
 obtain ⟨hz,ho⟩:=Out.guard ho
 obtain ⟨hz1,hz2⟩:=Bool.and_eq_true_iff.mp hz
 have hz1:ts.length<=18:=of_decide_eq_true hz1
 obtain ⟨_,pa,xs,rfl,sq,rp⟩:=vV hS r q
 rw [lK q2] at rp
 cases r1
 rw [hK] at sq
 obtain ⟨its,rv,pl,_⟩:=I1.list sq
 have hl:its.length=ts.length:=by rw [<- rv.length,<- rp.length,List.length_map]
 refine zZ (val:=fun i=>ts.getD i []) hu (I1.ok.hd hc) pl.isList (fun i v e=>?_) (by rw [List.size_toArray]; omega) fun h' tk md=>?_
 ·obtain ⟨c,t,e1,e2,e3⟩:=item_at rp rv (by simpa using e)
  refine ⟨c,e1,?_⟩
  show TK X.prog X.w s1.heap (ts.getD i []) c
  rw [List.getD_eq_getElem?_getD,e2]
  rw [hK] at e3
  exact eY I1 e3
 ·obtain ⟨⟨L,tset,hL⟩,k1⟩:=md
  have hlt:s1.heap.objs.size < h'.objs.size:=by
   obtain ⟨o,_,_,_,e,_⟩:=tset
   exact Heap.lt_size e
  have hmem:∀ y,y∈L ↔ y∈ts:=fun y=>by
   rw [hL]
   constructor
   ·rintro ⟨j,h1,rfl⟩
    rw [List.size_toArray,hl] at h1
    show ts.getD j []∈ts
    rw [List.getD_eq_getElem?_getD,List.getElem?_eq_getElem h1]
    exact List.getElem_mem h1
   ·intro hy
    obtain ⟨j,hj⟩:=List.getElem?_of_mem hy
    exact ⟨j,by rw [List.size_toArray,hl]; exact (List.getElem?_eq_some_iff.mp hj).1,by show ts.getD j []=y; rw [List.getD_eq_getElem?_getD,hj]; rfl⟩
  refine Calls.spliced_nil (Em (s:={ s1 with heap:=h',toks:=tk }) (I1.ok.hd hc) tset (fun ks hk e=>?_) fun h2 tk2 R ks hR hol so hm2 old=>?_)
  ·have:=List.all_eq_true.mp hz2 ks ((hmem ks).mp hk)
   rw [e] at this; cases this
  ·obtain ⟨out,n,eo,el,ev⟩:=hol
   have kp:∀ b o,s1.heap.get? b=some o->h2.get? b=some o:=fun b o e=>old b o (Nat.lt_trans (Heap.lt_size e) hlt) (k1 b o (Heap.lt_size e) e)
   have e:ks=aD ts:=jy so fun y=>by rw [hm2,hmem]
   subst e
   obtain ⟨vs,w1,w2⟩:=jU (Γ:=Γ) (ι:=ι) (H:=H1) el fun i v k e1 e2=>by
    obtain ⟨c,rfl,_,⟨_,hc2⟩,tk2⟩:=ev i v k e1 e2
    obtain ⟨j,hj⟩:=List.getElem?_of_mem hc2
    obtain ⟨c',t,e3,_,e4⟩:=item_at rp rv (by simpa using hj)
    cases e3
    have e5:=e4
    rw [hK] at e5
    have:=IsTupleKey.inj tk2 (dO (eY I1 e5) fun o e=>kp c o e)
    subst this
    exact ⟨c,rfl,e4⟩
   have hR2:s1.heap.objs.size<=R:=Nat.le_trans (Nat.le_of_lt hlt) hR
   refine ⟨.ref R,_,I1.laid (h':=h2) (t':=tk2) (o:=.lst vs) kp hR2 ⟨?_,out,n,w1,eo⟩,rfl,Out.alloc ho hS (I1.hok.fresh hR2) w2⟩
   rw [w1.length,el,sizeLine_eq]
   have:(aD ts).length<=ts.length:=o5 ts
   omega
theorem rT {xs:List V} {its:List Value} {ts:List (List Int)} (rp:ay Γ ι H (ts.map fun t=>.tup (t.map .int)) xs) (rv:Vals xs its) {v:Value} (m:v∈its):∃ c t,v=.ref c/\t∈ts/\SqT Γ.K H c (t.map V.int):=by
 obtain ⟨i,e⟩:=List.getElem?_of_mem m
 obtain ⟨c,t,e1,e2,e3⟩:=item_at rp rv e
 exact ⟨c,t,e1,List.mem_of_getElem? e2,e3⟩
theorem zq (hK:Γ.K=X.K):bI X (.builtin "sorted") (cA Γ xw (biD sub .sorted)):=by
 intro pins s σ H xs us Q I rs h
 obtain ⟨ι,S,a,x,rfl,hS,r,ho⟩:=gW rfl (fun _ _ _=>rfl) h
 obtain ⟨ds,q,ho⟩:=Out.items ho
 obtain ⟨_,p,ys,rfl,sq,rp,_⟩:=bX hS r q
 obtain ⟨u,rfl,ru⟩:=rs.one
 cases ru
 rw [hK] at sq
 obtain ⟨its,rv,x2⟩:∃ its,Vals ys its/\Sq2 s.heap p its:=by
  rcases sq with sq|sq
  ·obtain ⟨its,rv,pl,_⟩:=I.list sq
   obtain ⟨o,e1,e2,n,e3⟩:=pl.isList
   exact ⟨its,rv,"list",o,n,.inl rfl,e1,e2,e3⟩
  ·obtain ⟨its,rv,⟨o,e1,e2,n,e3⟩,_⟩:=I.tuple sq
   exact ⟨its,rv,"tuple",o,n,.inr rfl,e1,e2,e3⟩
 have hp:H (s.heap.objs.size+1)=none:=I.hok.fresh (Nat.le_succ _)
 have ho:Out Γ xw ι H (gk ds S) fun d _ ι' H'=>∀ v,Rep Γ ι' H' d v->Q v H':=ho
 unfold gk at ho
 cases q2:allInts ds with
 | some is =>
  rw [q2] at ho
  obtain ⟨hz,ho⟩:=Out.guard ho
  have hz:is.length < 64:=of_decide_eq_true hz
  rw [ints_map q2] at rp
  have e:=d7 rp
  subst e
  have hl:its.length=is.length:=by rw [<- rv.length,List.length_map]
  refine zw (ns:=is) x2 (intsAre_of rv) (by omega) fun out ns' a1 a2 a3=>?_
  obtain ⟨ep,he⟩:=sortedAll_at s.heap its out.toArray
  have e:ns'=cV is:=(a2.trans (fL is).symm).eq_of_pairwise (fun x y _ _ h1 h2=>Int.le_antisymm h1 h2) a3 (sL is)
  subst e
  refine ⟨.ref (s.heap.objs.size+1),_,I.laid (t':=s.toks) (o:=.lst ((cV is).map V.int)) (fun b o q=>sortedAll_old q) (Nat.le_succ _) ⟨?_,out,ep,l8 a1,he⟩,rfl,Out.alloc ho hS hp (gY _)⟩
  rw [List.length_map,(fL is).length_eq,sizeLine_eq]; omega
 | none =>
  rw [q2] at ho
  have ho:Out Γ xw ι H (i7 (tups ds) S) fun d _ ι' H'=>∀ v,Rep Γ ι' H' d v->Q v H':=ho
  cases q2:tups ds with
  | some ts =>
   rw [q2] at ho
   obtain ⟨hz,ho⟩:=Out.guard ho
   obtain ⟨hz1,hz3⟩:=Bool.and_eq_true_iff.mp hz
   obtain ⟨hz1,hz2⟩:=Bool.and_eq_true_iff.mp hz1
   have hz1:ts.length < 64:=of_decide_eq_true hz1
   have hz2:ts.Nodup:=of_decide_eq_true hz2
   rw [lK q2] at rp
   have hl:its.length=ts.length:=by rw [<- rv.length,<- rp.length,List.length_map]
   have hk:its.map (b4 X.prog X.w s.heap)=ts:=by
    refine List.ext_getElem? fun i=>?_
    rw [List.getElem?_map]
    by_cases hi:i < its.length
    ·obtain ⟨c,t,e1,e2,e3⟩:=item_at rp rv (List.getElem?_eq_getElem hi)
     rw [hK] at e3
     rw [List.getElem?_eq_getElem hi,e2,Option.map_some,e1,fJ (eY I e3)]
    ·rw [List.getElem?_eq_none (by omega),List.getElem?_eq_none (by omega)]; rfl
   refine zc (key:=b4 X.prog X.w s.heap) x2 (fun v m=>?_) (by rw [hk]; exact hz2) (by omega) fun out a1 a2=>?_
   ·obtain ⟨c,t,e1,e2,e3⟩:=rT rp rv m
    rw [hK] at e3
    refine ⟨c,e1,?_⟩
    rw [e1,fJ (eY I e3)]
    refine ⟨eY I e3,fun e=>?_⟩
    have:=List.all_eq_true.mp hz3 t e2
    rw [e] at this; cases this
   ·obtain ⟨ep,he⟩:=sortedAll_at s.heap its out.toArray
    have e:out.map (b4 X.prog X.w s.heap)=aD ts:=jy a2 fun y=>by rw [(a1.map _).mem_iff,hk]
    obtain ⟨vs,w1,w2⟩:=jU (Γ:=Γ) (ι:=ι) (H:=H) (out:=out) (ks:=aD ts) (by rw [<- e,List.length_map]) fun i v k e1 e2=>by
     obtain ⟨c,t,e3,_,e4⟩:=rT rp rv (a1.mem_iff.mp (List.mem_of_getElem? e1))
     refine ⟨c,e3,?_⟩
     have e5:=e4
     rw [hK] at e5
     rw [<- e,List.getElem?_map,e1,Option.map_some,e3,fJ (eY I e5)] at e2
     cases e2
     exact e4
    refine ⟨.ref (s.heap.objs.size+1),_,I.laid (t':=s.toks) (o:=.lst vs) (fun b o q=>sortedAll_old q) (Nat.le_succ _) ⟨?_,out,ep,w1,he⟩,rfl,Out.alloc ho hS hp w2⟩
    rw [w1.length,a1.length_eq,hl,sizeLine_eq]; omega
  | none =>
   rw [q2] at ho
   exact ho.elim
end
end EV

namespace EV
open PySem PySem.Spec PyProof.Rows L2
section
variable {X:Cx} {Γ:Gx} {xw:XW} {iter tg c:Expr} {pos:Pos} {mi:Sg->M Src} {t:Tg} {mb:Sg->M Fl} {na:Sg->M Bool} {body:List Stmt}
theorem PS.nox {st:Stmt} {t:TS} (h:PS X.nox st t):PS X st t:=fun pins s σ H D I hw =>
 wpAny_mono (h pins s σ H D (I.cS _) hw) (fun f s' q=>q.dX) fun _ _ e=>e.elim
theorem yE {D:Ends} {σ:L2.St} {H:Hp} (h:tMS Γ XF (fun σ=>mi σ>>=fun s=>forL s (fun d σ=>aM t d σ>>=fun σ'=>mb σ') s.its σ) D σ H):mD (tMI Γ XF mi) (tMG Γ t) (tMS Γ XF mb) D σ H:=by
 obtain ⟨σd,ι,S,hE,hS,ho⟩:=h
 refine ⟨σd,ι,S,hE,hS,ho.bind.mono fun src S1 ι1 H1 _ _ ⟨s1,e1,o1⟩ J hJ=>?_⟩
 generalize hf:(fun d σ=>aM t d σ>>=fun σ'=>mb σ')=f at o1
 generalize hR:forL src f src.its σd S1=R0 at o1
 refine ⟨fun i m σ H=>∃ ι' S' σd',i<=src.its.length/\m=src.its.length - i/\Ext ι1 ι' H1 H/\av Γ ι' H S'/\aP Γ ι' H σ σd'/\forL src f (src.its.drop i) σd' S'=R0,
  ⟨src.its.length,ι1,S1,σd,Nat.zero_le _,rfl,.refl,s1,hE.ext e1,hR⟩,?_⟩
 rintro i m σ H ⟨ι',S',σd',hi,rfl,eH,sH,eE,hc⟩
 by_cases hlt:i < src.its.length
 ·rw [List.drop_eq_getElem_cons hlt] at hc
  have hc:(aC src>>=fun _=>f src.its[i] σd'>>=fun fl=>match fl with|.nx σ'=>forL src f (src.its.drop (i+1)) σ'|.ct σ'=>forL src f (src.its.drop (i+1)) σ'|.bk σ'=>pure (.nx σ')|.rt d=>pure (.rt d)) S'=R0:=hc
  rcases ia src S' with st|st
  ·rw [ak st] at hc
   obtain ⟨jgo,jyld⟩:=(hJ ι' H S' eH sH st).1 i src.its[i] (List.getElem?_eq_getElem hlt)
   refine .inr ⟨jgo,fun σ' H'=>∃ m',m' < src.its.length - i/\∃ ι' S' σd',i+1<=src.its.length/\m'=src.its.length - (i+1)/\Ext ι1 ι' H1 H'/\av Γ ι' H' S'/\aP Γ ι' H' σ' σd'/\forL src f (src.its.drop (i+1)) σd' S'=R0,fun σ' H' h=>h,fun x H' yl=>?_⟩
   obtain ⟨eX,sX,rX⟩:=jyld x H' yl
   have hfd:f src.its[i] σd' S'=(aM t src.its[i] σd'>>=fun σ'=>mb σ') S':=by rw [<- hf]
   rcases k_ t src.its[i] σd' S' with ⟨σd2,hb,_⟩|hb
   ·rw [ak hb] at hfd
    refine ⟨σd',ι',S',src.its[i],σd2,eE.ext eX,sX,rX,hb,fun σ2 hE2 _=>⟨σd2,ι',S',hE2,sX,?_⟩⟩
    have eA:=eH.trans eX
    cases qb:mb σd2 S' with
    | bad=>rw [qb] at hfd; rw [aU hfd] at hc; rw [<- hc] at o1; exact o1.elim
    | exc c S3=>rw [qb] at hfd; rw [cD hfd] at hc; rw [<- hc] at o1; exact fun ι3 H3 e3 s3=>o1 ι3 H3 (eA.trans e3) s3
    | ok fl S3 =>
     rw [qb] at hfd
     rw [ak hfd] at hc
     intro ι3 H3 e3 s3
     cases fl with
     | nx σ'=>exact fun σv hv=>⟨src.its.length - (i+1),by omega,ι3,S3,σ',hlt,rfl,eA.trans e3,s3,hv,hc⟩
     | ct σ'=>exact fun σv hv=>⟨src.its.length - (i+1),by omega,ι3,S3,σ',hlt,rfl,eA.trans e3,s3,hv,hc⟩
     | bk σ'=>rw [<- hc] at o1; exact fun σv hv=>o1 ι3 H3 (eA.trans e3) s3 σv hv
     | rt d=>rw [<- hc] at o1; exact fun v r=>o1 ι3 H3 (eA.trans e3) s3 v r
   ·rw [aU hb] at hfd; rw [aU hfd] at hc; rw [<- hc] at o1; exact o1.elim
  ·rw [aU st] at hc; rw [<- hc] at o1; exact o1.elim
 ·have ei:i=src.its.length:=by omega
  subst ei
  rw [List.drop_length] at hc
  have hc:(aC src>>=fun _=>pure (.nx σd')) S'=R0:=hc
  rcases ia src S' with st|st
  ·rw [ak st] at hc
   rw [<- hc] at o1
   exact .inl ⟨(hJ ι' H S' eH sH st).2,o1 ι' H eH sH σ eE⟩
  ·rw [aU st] at hc; rw [<- hc] at o1; exact o1.elim
theorem DG (hcalm:X.calm=true) (hi:PI X.nox tg iter (tMI Γ XF mi)) (hg:PG X.nox tg (tMG Γ t)) (hb:PSs X.nox body (tMS Γ XF mb)) (hs:∀ x,foldedSetIterable iter X.env x=pure x) :
  PS X (.For tg iter body [] pos) (tMS Γ xw fun σ=>quiet (mi σ>>=fun s=>forL s (fun d σ=>aM t d σ>>=fun σ'=>mb σ') s.its σ)) :=
 PS.nox (PS.imp (vf (X:=X.nox) PassesOwn.never hcalm hi hg hb hs) fun D σ H h=>by
  obtain ⟨σd,ι,S,hE,hS,ho⟩:=h
  exact yE ⟨σd,ι,S,hE,hS,Out.quiet ho XF⟩)
end
section
variable {Γ:Gx} {ι ι':List Addr} {H H':Hp} {S S':af}
theorem eS:∀ {ds:List D} {n:Nat},D.lows n ds=true ↔ ∀ (i:Nat) d,ds[i]?=some d->d.low n=true
 | [],n=>⟨fun _ i d h=>by simp at h,fun _=>rfl⟩
 | d::r,n=>by
  simp only [D.lows,Bool.and_eq_true]
  constructor
  ·rintro ⟨h1,h2⟩ i e h
   cases i with
   | zero=>simp at h; subst h; exact h1
   | succ i=>exact eS.mp h2 i e (by simpa using h)
  ·intro h
   exact ⟨h 0 d rfl,eS.mpr fun i e q=>h (i+1) e (by simpa using q)⟩
theorem Rep.low {d:D} {v:V} (r:Rep Γ ι H d v):d.low ι.length=true:=by
 induction r with
 | tup h1 h2 h3 ih =>
  show D.lows _ _=true
  refine eS.mpr fun i d e=>?_
  have hi:i < _:=(List.getElem?_eq_some_iff.mp e).1
  exact ih i d _ e (List.getElem?_eq_getElem (by omega))
 | fro h1 h2 h3 ih =>
  show D.lows _ _=true
  refine eS.mpr fun i d e=>?_
  have hi:i < _:=(List.getElem?_eq_some_iff.mp e).1
  exact ih i d _ e (List.getElem?_eq_getElem (by omega))
 | loc h=>exact decide_eq_true (List.getElem?_eq_some_iff.mp h).1
 | _=>rfl
theorem Rep.cut (hp:ι <+: ι') {d:D} {v:V} (r:Rep Γ ι' H d v) (hl:d.low ι.length=true):Rep Γ ι H d v:=by
 induction r with
 | non=>exact .non
 | bl b=>exact .bl b
 | int i=>exact .int i
 | str x=>exact .str x
 | tup h1 h2 h3 ih=>exact .tup h1 h2 fun i d v e1 e2=>ih i d v e1 e2 (eS.mp hl i d e1)
 | fro h1 h2 h3 ih=>exact .fro h1 h2 fun i d v e1 e2=>ih i d v e1 e2 (eS.mp hl i d e1)
 | @loc l a h =>
  have hlt:l < ι.length:=of_decide_eq_true hl
  obtain ⟨t,rfl⟩:=hp
  rw [List.getElem?_append_left hlt] at h
  exact .loc h
theorem ay.low {ds:List D} {vs:List V} (r:ay Γ ι H ds vs):D.lows ι.length ds=true:=eS.mpr fun i d e=>let ⟨_,_,r'⟩:=Paired.get r e; r'.low
theorem ay.cut (hp:ι <+: ι'):∀ {ds:List D} {vs:List V},ay Γ ι' H ds vs->D.lows ι.length ds=true->ay Γ ι H ds vs
 | _,_,.nil,_=>.nil
 | _,_,.cons r t,h=>by
  rw [D.lows,Bool.and_eq_true] at h
  exact .cons (r.cut hp h.1) (ay.cut hp t h.2)
theorem Ext.back (e:Ext ι ι' H H'):Ext ι ι H H':=⟨List.prefix_refl _,e.tup,e.frz,e.oth,fun _ h n=>absurd h n⟩
theorem av.back (e:Ext ι ι' H H') (h0:av Γ ι H S) (h1:av Γ ι' H' S') (ht:S'.take S.length=S):av Γ ι H' S:=by
 refine ⟨h0.len,h0.nd,fun l c hc=>?_⟩
 have hl:l < S.length:=(List.getElem?_eq_some_iff.mp hc).1
 have hc':S'[l]?=some c:=by rw [<- ht,List.getElem?_take_of_lt hl] at hc; exact hc
 obtain ⟨a,ha,c1⟩:=h1.cell l c hc'
 obtain ⟨b,hb,c0⟩:=h0.cell l c hc
 have:=fH e.pre hb
 rw [ha] at this; cases this
 refine ⟨a,hb,?_⟩
 cases c with
 | lst ds=>obtain ⟨xs,hx,r⟩:=c1; obtain ⟨ys,_,r0⟩:=c0; exact ⟨xs,hx,ay.cut e.pre r r0.low⟩
 | dct kvs=>exact c0
theorem p_ {xw:XW} {d:D} {v:V} {Q:VK} (h0:av Γ ι H S) (e:Ext ι ι' H H') (h1:av Γ ι' H' S') (r:Rep Γ ι' H' d v) (ho:Out Γ xw ι H (leave S d S') fun d _ ι' H'=>∀ v,Rep Γ ι' H' d v->Q v H'):Q v H':=by
 unfold leave at ho
 by_cases ht:S'.take S.length=S
 ·rw [if_pos ht] at ho
  by_cases hl:d.low S.length=true
  ·rw [if_pos hl] at ho
   exact ho ι H' e.back (av.back e h0 h1 ht) v (r.cut e.pre (by rw [h0.len]; exact hl))
  ·rw [if_neg hl] at ho
   have dflt:Out Γ xw ι H (.ok d S') (fun d _ ι' H'=>∀ v,Rep Γ ι' H' d v->Q v H')->Q v H':=fun ho=>ho ι' H' e h1 v r
   cases d with
   | loc l =>
    dsimp only at ho
    cases q:S'[l]? with
    | none=>rw [q] at ho; exact dflt ho
    | some c =>
     rw [q] at ho
     dsimp only at ho
     by_cases hc:c.low S.length=true
     ·rw [if_pos hc] at ho
      cases r with
      | @loc _ a hla =>
       have hge:¬ l < S.length:=fun z=>hl (decide_eq_true z)
       have hna:a ∉ ι:=fun z=>by
        obtain ⟨j,hj⟩:=List.getElem?_of_mem z
        have hj1:=(List.getElem?_eq_some_iff.mp hj).1
        have:=jc h1.nd hla (fH e.pre hj)
        rw [h0.len] at hj1
        omega
       have hHa:H a=none:=e.fresh a (List.mem_of_getElem? hla) hna
       have pre2:ι <+: ι++[a]:=List.prefix_append _ _
       refine ho (ι++[a]) H' ⟨pre2,e.tup,e.frz,e.oth,fun b hb hn=>?_⟩ ?_ _ (.loc (by rw [<- h0.len]; simp))
       ·rcases List.mem_append.mp hb with z|z
        ·exact absurd z hn
        ·have:b=a:=by simpa using z
         rw [this]; exact hHa
       ·have hb:=av.back e h0 h1 ht
        obtain ⟨b,hb2,c1⟩:=h1.cell l c q
        rw [hla] at hb2; cases hb2
        cases c with
        | lst ds =>
         obtain ⟨xs,hx,rr⟩:=c1
         exact hb.take hna hx (ay.cut e.pre rr (by rw [h0.len]; exact hc))
        | dct kvs=>exact c1.elim
     ·rw [if_neg hc] at ho; exact dflt ho
   | _=>exact dflt ho
 ·rw [if_neg ht] at ho
  exact ho ι' H' e h1 v r
end
end EV

namespace PySem
open Sem (wp)
open AutoSeq1 (wpAny_loadPart')
section
variable {prog:Program} {w:World} {A:Around} {E:Value->Shared->Prop} {s:Shared}
theorem wm {Q:List Value->Shared->Prop} {r:Addr} {a b c:Int} {t u v:Tok} {n:Nat} (hh:A.handled=none) (hr:IsRange s.heap r a b c t u v) (hsmall:Builtin.Range.small a b c=true)
  (hn:Builtin.Range.rangeSize a b c=n) (hlen:n<=2 ^ 24)
  (hQ:∀ (h':Heap) (tk:Nat) (acc:Array Value),(∀ b o',s.heap.get? b=some o'->h'.get? b=some o')->ItemsOf (fun i v=>∃ t,v=.int (a+i * c) t) acc n->Q acc.toList { s with heap:=h',toks:=tk }) :
  wpAny (model prog w) A (collect (.ref r)) Q E s:=by
 unfold collect
 refine wpAny_bind (wpAny_runValue (codeAny_builtin F.entry_proto_collect ?_))
 rw [Around.under_plainId F.plain_proto_collect _]
 show wpAny _ A.in1 (newList []>>=fun l=>again (.builtin "list.__iadd__" ⟨[l,.ref r],[]⟩)) _ _ s
 refine wpAny_bind (wpAny_newObj_type ?_)
 refine wpAny_pure ⟨plainId_quiet F.plain_list_iadd _,codeAny_builtin F.entry_list_iadd ?_⟩
 rw [Around.under_plainId F.plain_list_iadd _]
 show wpAny _ A.in1 (Builtin.List.listExtendWith (.ref s.heap.objs.size) (.ref r) (.ref s.heap.objs.size)) _ _ _
 have hS:(s.heap.push { cls:=.type "list",data:=.seq ([]:List Value).toArray }).get? s.heap.objs.size=some { cls:=.type "list",data:=.seq #[] 0 }:=Heap.get?_push_size _ rfl
 refine wpAny_mono (wpAny_extend_range (A:=A) (R:=fun r' s'=>r'=.ok (.ret (.ref s.heap.objs.size))/\∃ h' tk acc c',(∀ b o',s.heap.get? b=some o'->h'.get? b=some o')/\h'.get? s.heap.objs.size=some { cls:=.type "list",dict:=none,data:=.seq acc c',slots:=#[] }/\ItemsOf (fun i v=>∃ t,v=.int (a+i * c) t) acc n/\s'={ s with heap:=h',toks:=tk })
  (s:={ s with heap:=s.heap.push { cls:=.type "list",data:=.seq ([]:List Value).toArray } }) hh (Heap.get?_push_of_some _ hr) hsmall hn hlen _ _ 0 hS fun h' tk acc' c' hk hS' hacc=>⟨rfl,h',tk,acc',c',fun b o' hb=>hk b o' (Nat.ne_of_lt (Heap.lt_size hb)) (Heap.get?_push_of_some _ hb),hS',hacc,rfl⟩) (fun fin s' h=>?_) (fun e s' h=>?_)
 ·have fin':∀ s',(∃ h' tk acc c',(∀ b o',s.heap.get? b=some o'->h'.get? b=some o')/\h'.get? s.heap.objs.size=some { cls:=.type "list",dict:=none,data:=.seq acc c',slots:=#[] }/\ItemsOf (fun i v=>∃ t,v=.int (a+i * c) t) acc n/\s'={ s with heap:=h',toks:=tk }) ->
    wpAny (model prog w) A (match Value.ref s.heap.objs.size with
     | Value.ref a=>do
      match (<- load a).data with
       | Data.seq xs _=>pure xs.toList
       | _=>unsupported "internal:collect"
     | _=>unsupported "internal:collect") Q E s':=by
   rintro s' ⟨h',tk,acc,c',hk,hS',hacc,rfl⟩
   show wpAny _ A (load s.heap.objs.size>>=_) _ _ _
   exact wpAny_bind (wpAny_load hS' (wpAny_pure (hQ h' tk acc hk hacc)))
  cases fin with
  | done f =>
   obtain ⟨e,h⟩:=h
   cases e
   exact fin' s' h
  | again c'=>exact ⟨h.1,codeAny_mono h.2 fun r s'' hr=>by obtain ⟨rfl,h⟩:=hr; exact fin' s'' h⟩
 ·exact absurd h.1 (by simp)
end
theorem yP (r:Addr) (a b c:Int) (t u v:Tok) (n:Nat) (hsmall:Builtin.Range.small a b c=true) (hn:Builtin.Range.rangeSize a b c=n) (hlen:n<=2 ^ 24) :
  Meets (Builtin.«tuple.__new__» ⟨[.type "tuple",.ref r],[]⟩)
   (fun A R s=>A.handled=none/\IsRange s.heap r a b c t u v/\∀ (h':Heap) (tk:Nat) (acc:Array Value),(∀ b o',s.heap.get? b=some o'->h'.get? b=some o')->ItemsOf (fun i v=>∃ t,v=.int (a+i * c) t) acc n->R (.ok (.ret (.ref h'.objs.size))) { s with heap:=h'.push { cls:=.type "tuple",data:=.seq acc },toks:=tk }) :=
 .of_wp fun prog w A R s h=>by
  obtain ⟨hp,g,d,tk,os⟩:=s; obtain ⟨hh,ht,h⟩:=h
  have hsub:=sub_tuple_self
  have hinit:=init_tuple_lookup
  have hmh:=madeHere_tuple
  have hT:Shared.TypeIs ⟨hp,g,d,tk,os⟩ (.ref r) "range":=⟨_,ht,rfl⟩
  have hh1:A.in1.handled=none:=hh
  wp_walk using wpAny_loadPart' ht,wpAny_typeOf hT,wm hh1 ht hsmall hn hlen
  intro h' tk' acc hk hacc
  show wpAny _ _ (Builtin.Tuple.tupleExact acc.toList.toArray>>=fun v=>ret v) _ _ _
  unfold Builtin.Tuple.tupleExact
  refine wpAny_bind (wpAny_newObj_type ?_ (show acc.toList.toArray.size<=sizeLine by simp only [Array.toArray_toList]; rw [hacc.1,sizeLine_eq]; omega))
  refine wpAny_pure ⟨_,rfl,?_⟩
  have e:acc.toList.toArray=acc:=by simp
  rw [e]
  exact h h' tk' acc hk hacc
section
variable {prog:Program} {w:World} {A:Around} {E:Value->Shared->Prop} {s:Shared}
theorem uX {Q:Value->Shared->Prop} {r:Addr} {a b c:Int} {t u v:Tok} {n:Nat} (hh:A.handled=none) (hr:IsRange s.heap r a b c t u v) (hsmall:Builtin.Range.small a b c=true)
  (hn:Builtin.Range.rangeSize a b c=n) (hlen:n<=2 ^ 24)
  (h:∀ (h':Heap) (tk:Nat) (acc:Array Value),(∀ b o',s.heap.get? b=some o'->h'.get? b=some o')->ItemsOf (fun i v=>∃ t,v=.int (a+i * c) t) acc n->Q (.ref h'.objs.size) { s with heap:=h'.push { cls:=.type "tuple",data:=.seq acc },toks:=tk }) :
  wpAny (model prog w) A (call (.type "tuple") [.ref r]) Q E s :=
 callType_new F.called_tuple (by decide) (F.typeCall_tuple_1 _) (F.newCall_tuple_1 _) (fun obj=>F.args_object_init_2 obj _) F.entry_tuple_new
  (yP r a b c t u v n hsmall hn hlen) ⟨hh,hr,fun h' tk acc hk hacc=>⟨⟨_,Heap.get?_push_size _ rfl,rfl⟩,h h' tk acc hk hacc⟩⟩
end
end PySem
namespace EV
open PySem PySem.Spec PyProof.Rows L2
section
variable {X:Cx} {Γ:Gx} {xw:XW} {sub:Sub} {a b:PySem.Expr} {ta:TA} {p pos:Pos}
noncomputable def gz (ta:TA):TE:=fun σ H Q=>ta σ H fun vs H1=>∃ lo hi:Int,((vs=[.int hi]/\lo=0)\/vs=[.int lo,.int hi])/\∀ p,H1 p=none->Q (.ref p) (upd H1 p (.rng lo hi))
theorem zF (hg:Gl X "range") (hm:X.mg "range" = none) (ha:PA X [a] ta) (hs:starEach [a] X.env=[(false,eval a X.env)]) (hl:∀ σ H Q,ta σ H Q->ta σ H fun vs H1=>vs.length=1/\Q vs H1):PE X (.Call (.Name "range" p) [a] [] pos) (gz ta):=by
 intro pins s σ H Q I h
 refine Call_ (cu I hg hm boot_range (PyProof.Rows.callWith_type1 (thn (ha pos pins s σ H _ I (hl _ _ _ h)) fun us s1 ⟨vs,H1,I1,r1,hlen,q1⟩=>?_) hs rfl))
 obtain ⟨lo,hi,e,q⟩:=q1
 rcases e with ⟨e,rfl⟩|e
 ·subst e
  obtain ⟨u,rfl,t,rfl⟩:=vals1 r1
  exact call_range_1 ⟨.ref _,_,I1.laid (o:=.rng 0 hi) (fun b o e=>Heap.get?_push_of_some _ e) (Nat.le_refl _) (show ∃ t u v,_ from ⟨_,_,_,Heap.get?_push_size _ rfl⟩),rfl,q _ (I1.hok.fresh (Nat.le_refl _))⟩
 ·subst e; cases hlen
theorem yG (hg:Gl X "range") (hm:X.mg "range" = none) (ha:PA X [a,b] ta) (hs:starEach [a,b] X.env=[(false,eval a X.env),(false,eval b X.env)]) (hs2:starEach [b] X.env=[(false,eval b X.env)]) (hl:∀ σ H Q,ta σ H Q->ta σ H fun vs H1=>vs.length=2/\Q vs H1):PE X (.Call (.Name "range" p) [a,b] [] pos) (gz ta):=by
 intro pins s σ H Q I h
 refine Call_ (cu I hg hm boot_range (PyProof.Rows.callWith_type1 (thn (ha pos pins s σ H _ I (hl _ _ _ h)) fun us s1 ⟨vs,H1,I1,r1,hlen,q1⟩=>?_) (by rw [hs,hs2]) (by rw [hs2]; rfl)))
 obtain ⟨lo,hi,e,q⟩:=q1
 rcases e with ⟨e,rfl⟩|e
 ·subst e; cases hlen
 ·subst e
  obtain ⟨u,v,rfl,⟨t,rfl⟩,⟨t',rfl⟩⟩:=vals2 r1
  exact call_range_2 ⟨.ref _,_,I1.laid (o:=.rng lo hi) (fun b o e=>Heap.get?_push_of_some _ e) (Nat.le_refl _) (show ∃ t u v,_ from ⟨_,_,_,Heap.get?_push_size _ rfl⟩),rfl,q _ (I1.hok.fresh (Nat.le_refl _))⟩
theorem zT {lo:Int} {n:Nat} {acc:Array Value} (h:ItemsOf (fun i v=>∃ t,v=.int (lo+i * 1) t) acc n):Vals ((List.range n).map fun (k:Nat)=>V.int (lo+k)) acc.toList:=by
 obtain ⟨h1,h2⟩:=h
 refine Paired.of_get (by simp [h1]) fun i x y e1 e2=>?_
 rw [List.getElem?_map] at e1
 have hi:i < n:=by
  have:=(List.getElem?_eq_some_iff.mp e2).1
  simpa [h1] using this
 rw [List.getElem?_range hi] at e1
 cases e1
 have e3:acc[i]?=some y:=by rw [<- Array.getElem?_toList]; exact e2
 obtain ⟨t,rfl⟩:=h2 i y e3
 exact ⟨t,by simp⟩
theorem yN {lo hi:Int}:Builtin.Range.rangeSize lo hi 1=((hi - lo).toNat:Nat):=by rw [rangeSize_one]; split <;> omega
theorem AK (hc:X.calm=true):bI X (.type "tuple") (fun xs H Q=>∃ p lo hi,xs=[.ref p]/\H p=some (.rng lo hi)/\(near lo=true/\near hi=true)/\(hi - lo).toNat<=aR/\∀ l,H l=none->Q (.ref l) (upd H l (.tup ((List.range (hi - lo).toNat).map fun (k:Nat)=>V.int (lo+k))))):=by
 intro pins s σ H xs us Q I r h
 obtain ⟨p,lo,hi,rfl,hp,⟨n1,n2⟩,hz,q⟩:=h
 obtain ⟨u,rfl,rx⟩:=vals1 r
 cases rx
 obtain ⟨t,u,v,hr⟩:=I.hok p _ hp
 have n1:=d_ n1
 have n2:=d_ n2
 refine uX (I.ok.hd hc) hr (small_one n1.1 n1.2 n2.1 n2.2) yN hz fun h' tk acc hk hacc=>?_
 have hv:=zT hacc
 have I1:Inv X pins σ H { s with heap:=h',toks:=tk }:=I.kept hk
 have hl:((List.range (hi - lo).toNat).map fun (k:Nat)=>V.int (lo+k)).length<=sizeLine:=by rw [List.length_map,List.length_range]; exact hz
 have I2:Inv X pins σ (upd H h'.objs.size (.tup ((List.range (hi - lo).toNat).map fun (k:Nat)=>V.int (lo+k)))) { s with heap:=h'.push { cls:=.type "tuple",data:=.seq acc },toks:=tk } :=
  I1.laid (t':=tk) (fun b o e=>Heap.get?_push_of_some _ e) (Nat.le_refl _) (show bY X.prog X.w _ _ _ (.tup _) from ⟨hl,acc.toList,hv,by simpa using IsTup.new _ _⟩)
 exact ⟨.ref h'.objs.size,_,I2,rfl,q _ (I1.hok.fresh (Nat.le_refl _))⟩
theorem yh {ds:List D} {is:List Int} (h:bH ds=some is) (hl:ds.length=1\/ds.length=2):∃ lo hi:Int,((ds=[.int hi]/\lo=0)\/ds=[.int lo,.int hi])/\near lo=true/\near hi=true/\is=(List.range (hi - lo).toNat).map fun (k:Nat)=>lo+k:=by
 match ds,h,hl with
 | [d],h,_ =>
  cases d with
  | int j =>
   simp only [bH] at h
   split at h
   ·rename_i hn
    cases h
    exact ⟨0,j,.inl ⟨rfl,rfl⟩,by decide,hn,lB 0 j⟩
   ·cases h
  | _=>cases h
 | [d,e],h,_ =>
  cases d with
  | int i =>
   cases e with
   | int j =>
    simp only [bH] at h
    split at h
    ·rename_i hn
     cases h
     rw [Bool.and_eq_true] at hn
     exact ⟨i,j,.inr rfl,hn.1,hn.2,lB i j⟩
    ·cases h
   | _=>cases h
  | _=>cases h
 | [],_,hl=>rcases hl with hl|hl <;> cases hl
 | _::_::_::_,_,hl=>simp at hl
theorem CC {m:Sg->M (List D)} {mk:List Int->M D} {mkV:List V->HO} {k:Nat} (hk:k=1\/k=2) (hlen:∀ σ S ds S',m σ S=.ok ds S'->ds.length=k)
  (hmk:∀ {ι H S} {Q:VK} {is:List Int} {p:Addr},Out Γ xw ι H (mk is S) (fun d _ ι' H'=>∀ v,Rep Γ ι' H' d v->Q v H')->av Γ ι H S->H p=none->Q (.ref p) (upd H p (mkV (is.map .int))))
  {σ:L2.St} {H:Hp} {Q:VK} (h:tM Γ xw (fun σ=>m σ>>=fun ds=>opt (bH ds)>>=fun is=>guard (fits is.length) (mk is)) σ H Q) :
  gz (tMA Γ xw m) σ H fun x H1=>∃ p lo hi,[x]=[V.ref p]/\H1 p=some (.rng lo hi)/\(near lo=true/\near hi=true)/\(hi - lo).toNat<=aR/\∀ l,H1 l=none->Q (.ref l) (upd H1 l (mkV ((List.range (hi - lo).toNat).map fun (k:Nat)=>V.int (lo+k)))):=by
 obtain ⟨σd,ι,S,he,hs,ho⟩:=h
 refine ⟨σd,ι,S,he,hs,Out.monoE ho.bind fun ds S' ι' H' eq _ _ ⟨s',e',o'⟩ vs rs=>?_⟩
 have hl:=hlen _ _ _ _ eq
 obtain ⟨is,q,o'⟩:=Out.opt o'
 obtain ⟨hz,o'⟩:=Out.guard o'
 obtain ⟨lo,hi,e,n1,n2,rfl⟩:=yh q (by rw [hl]; exact hk)
 refine ⟨lo,hi,?_,fun p hp=>⟨p,lo,hi,rfl,cB,⟨n1,n2⟩,by simpa using of_decide_eq_true hz,fun l hl=>?_⟩⟩
 ·rcases e with ⟨rfl,rfl⟩|rfl
  ·exact .inl ⟨d7 (is:=[hi]) rs,rfl⟩
  ·exact .inr (d7 (is:=[lo,hi]) rs)
 ·have:=hmk (Out.step o' (Ext.laid hp (o:=.rng lo hi))) (s'.laid hp _) hl
  rw [List.map_map] at this
  exact this
theorem rB {m:Sg->M (List D)} {k:Nat} (hlen:∀ σ S ds S',m σ S=.ok ds S'->ds.length=k):∀ σ H Q,tMA Γ xw m σ H Q->tMA Γ xw m σ H fun vs H1=>vs.length=k/\Q vs H1:=fun σ H Q h=>by
 obtain ⟨σd,ι,S,he,hs,ho⟩:=h
 exact ⟨σd,ι,S,he,hs,Out.monoE ho fun ds S' ι' H' eq _ _ q vs rs=>⟨by rw [<- rs.length]; exact hlen _ _ _ _ eq,q vs rs⟩⟩
theorem DV {e:PySem.Expr} {m:Sg->M (List D)} {k:Nat} (hk:k=1\/k=2) (hc:X.calm=true) (hlen:∀ σ S ds S',m σ S=.ok ds S'->ds.length=k) (hr:PE X e (gz (tMA Γ xw m))) (hs:starEach [e] X.env=[(false,eval e X.env)]) (hg:Gl X "tuple") (hm:X.mg "tuple" = none) :
  PE X (.Call (.Name "tuple" p) [e] [] pos) (tM Γ xw fun σ=>m σ>>=biD sub .rangeT):=by
 refine PE.imp (qE (AK hc) hg hm PyProof.Rows.boot_tuple (gn hr jn (by rw [hs]; rfl)) (by decide +kernel) (by decide +kernel) (by rw [hs]; rfl) rfl) fun σ H Q h=>?_
 exact CC (mk:=fun is=>pure (.tup (is.map .int))) (mkV:=.tup) hk hlen (fun ho hS hp=>Out.tup ho hS hp (gY _)) h
end
end EV

namespace EV
open PySem
inductive GE where|fn|val (d:D)|cls
structure TC where
 sc:Scope
 N:List Str
 inF:Bool
 gt:List (Str × GE)
noncomputable def idx:List Str->Str->Option Nat
 | [],_=>none
 | y::r,x=>if y=x then some 0 else (idx r x).map (· + 1)
noncomputable def ee (sc:Scope) (x:Str):Bool:=match sc.names.lookup x with
 | some .local=>true
 | some .cell=>true
 | some .free=>true
 | _=>false
noncomputable def dm (c:TC) (x:Str):Bool:=match c.sc.names.lookup x with
 | some .local=>true
 | some .cell=>c.inF
 | _=>false
noncomputable def glB (c:TC) (x:Str):Bool:=decide (c.sc.names.lookup x=some .globalImplicit)
noncomputable def c9 (x:Str):Bool:=!(x==("__debug__" : Str))&&!(x==("__classdict__" : Str))
noncomputable def op2:Operator->Option Op2
 | .Add=>some .add
 | .Sub=>some .sub
 | .Mult=>some .mul
 | .FloorDiv=>some .fdiv
 | .Mod=>some .mod
 | .Pow=>some .pow
 | _=>none
noncomputable def cmO:CmpOp->Option Cm
 | .Lt=>some .lt
 | .LtE=>some .le
 | .Gt=>some .gt
 | .GtE=>some .ge
 | .Eq=>some .eq
 | .NotEq=>some .ne
 | .In=>some .isin
 | .NotIn=>some .b7
 | _=>none
noncomputable def nY:Const->Option E
 | .none=>some (.c .non)
 | .bool b=>some (.c (.bl b))
 | .int i=>some (.c (.int i))
 | .str s=>some (.c (.str s))
 | _=>none
noncomputable def kH (c:TC) (x:Str):Option E :=
 if c9 x then
  if ee c.sc x then (idx c.N x).map .v
  else if glB c x then match c.gt.lookup x with
   | some (.val d)=>some (.c d)
   | _=>none
  else none
 else none
noncomputable def dU (c:TC) (x:Str):Bool:=glB c x&&(c.gt.lookup x).isNone
noncomputable def j_ (x:Str):Option Bi :=
 if x = "len" then some .len else if x = "all" then some .all else if x = "sum" then some .sum else if x = "min" then some .min
 else if x = "max" then some .max else if x = "sorted" then some .sorted else if x = "tuple" then some .tuple else none
noncomputable def jF (x:Str):Option Ty :=
 if x = "int" then some .int else if x = "bool" then some .bool else if x = "str" then some .str else if x = "list" then some .list else if x = "tuple" then some .tuple else if x = "dict" then some .dict else none
noncomputable def jQ (x:Str):Option Me:=if x = "append" then some .append else if x = "extend" then some .extend else none
noncomputable def bB (f:PySem.Expr->Option E):List PySem.Expr->Option E
 | []=>some .nl
 | e::r=>match f e,bB f r with
  | some a,some b=>some (.cs a b)
  | _,_=>none
noncomputable def trO (f:PySem.Expr->Option E):Option PySem.Expr->Option E
 | none=>some .nl
 | some e=>match f e with
  | some .nl=>none
  | o=>o
noncomputable def eB (c:TC):List PySem.Expr->Option (List Nat)
 | []=>some []
 | .Name x _::r=>if dm c x then match idx c.N x,eB c r with
   | some i,some is=>some (i::is)
   | _,_=>none
  else none
 | _=>none
noncomputable def fZ (c:TC):PySem.Expr->Option Tg
 | .Name x _=>if dm c x then (idx c.N x).map .one else none
 | .Tuple es _ _=>(eB c es).map .many
 | _=>none
noncomputable def isTup:PySem.Expr->Bool
 | .Tuple _ _ _=>true
 | _=>false
noncomputable def gJ (c:TC) (x:Str):Bool:=dU c x&&decide (x = "range")
noncomputable def jS (c:TC) (x:Str):Bool:=dU c x&&decide (x = "enumerate")
noncomputable def lY (c:TC) (x:Str):Bool:=dU c x&&decide (x = "zip")
noncomputable def pair (es:List PySem.Expr):Bool:=decide (es.length=2)
noncomputable def few (es:List PySem.Expr):Bool:=decide (1<=es.length)&&decide (es.length<=3)
noncomputable def kM:PySem.Expr->Bool
 | .Set _ _ _=>false
 | _=>true
noncomputable def trI (f:PySem.Expr->Option E) (c:TC) (tg:PySem.Expr) (e:PySem.Expr):Option E :=
 if kM e then match e with
  | .Call (.Name x _) args [] _ =>
   if gJ c x then (if few args then (bB f args).map .iRng else none)
   else if jS c x then match isTup tg,args with
    | true,[a]=>(f a).map .iEnum
    | _,_=>none
   else if lY c x then (if isTup tg&&pair args then (bB f args).map .iZip else none)
   else (f e).map .iSeq
  | _=>(f e).map .iSeq
 else none
noncomputable def mangle (x:Str):Str:=⟨#[0]++x.cps⟩
noncomputable def gg (scope sc:Scope):Scope :=
 { scope with names:=scope.names.map fun (n,k)=>if (k==.free&&sc.kind==.function&&sc.names.lookup n==some .cell) then (n,.cell) else (n,k) }
noncomputable def isFree (scope:Scope) (x:Str):Bool:=scope.names.any fun y=>decide (y.1=x)&&decide (y.2=.free)
noncomputable def own (scope:Scope):List Str:=(scope.names.filter fun y=>decide (y.2=.local)).map (·.1)
noncomputable def eV (scope:Scope) (x:Str):Str:=if isFree scope x then x else mangle x
noncomputable def inComp (c:TC) (scope:Scope):TC:={ c with sc:=gg scope c.sc,N:=c.N.map (eV scope)++own scope,inF:=false }
noncomputable def gQ:List Str->Bool
 | []=>true
 | x::r=>!(r.any fun y=>decide (y=x))&&gQ r
noncomputable def jv (c:TC) (scope:Scope):Bool :=
 scope.names.all (fun y=>!decide (y.2=.free)||(match c.sc.names.lookup y.1 with|some .cell=>true|some .free=>true|_=>false)) &&
 scope.names.all (fun y=>!decide (y.2=.cell))&&decide (scope.kind=.function) &&
 scope.names.all (fun y=>!decide (y.2=.local)||decide (scope.names.lookup y.1=some .local)) &&
 gQ (c.N.map (eV scope)++own scope) &&
 c.N.all (fun x=>if isFree scope x then !decide ((gg scope c.sc).names.lookup x=some .local) else !ee (gg scope c.sc) (mangle x))
noncomputable def Tg.qD (n:Nat):Tg->Bool
 | .one i=>decide (n<=i)
 | .many is=>is.all fun i=>decide (n<=i)
noncomputable def sA:PySem.Expr->Bool
 | .Call _ [] [] _=>false
 | _=>true
noncomputable def two (es:List PySem.Expr):Bool:=decide (es.length=1)||decide (es.length=2)
noncomputable def pL (c:TC) (x:Str):Bool:=dU c x&&decide (x = "set")
noncomputable def wo:List PySem.Expr->Bool
 | [_]=>true
 | _=>false
noncomputable def jO (c:TC) (x:Str):List PySem.Expr->Option (Bi × List PySem.Expr)
 | [.Call (.Name r _) ra [] _]=>if gJ c r&&two ra then (if x = "tuple" then some (.rangeT,ra) else none) else if decide (x = "sorted")&&pL c r&&wo ra then some (.sortedSet,ra) else none
 | _=>none
noncomputable def lI:CmpOp->Option Bool
 | .Is=>some true
 | .IsNot=>some false
 | _=>none
noncomputable def mO:PySem.Expr->Bool
 | .Constant k _ _=>(match k with
  | .none=>true
  | _=>false)
 | _=>false
noncomputable def jC:PySem.Expr->Bool
 | .Constant k _ _=>(match k with
  | .str _=>true
  | _=>false)
 | _=>false
noncomputable def BJ:List PySem.Expr->Bool
 | [e]=>jC e
 | _=>false
noncomputable def trE:Nat->TC->PySem.Expr->Option E
 | 0,_,_=>none
 | n+1,c,e=>match e with
  | .Name x _=>kH c x
  | .Constant k _ _=>nY k
  | .BinOp a op b _=>match op2 op,trE n c a,trE n c b with
   | some o,some a',some b'=>some (.bin o a' b')
   | _,_,_=>none
  | .UnaryOp op a _=>match op,trE n c a with
   | .Not,some a'=>some (.not a')
   | .USub,some a'=>some (.neg a')
   | _,_=>none
  | .BoolOp op vs p=>match vs with
   | []=>none
   | [a]=>trE n c a
   | a::b::r=>match op,trE n c a,trE n c (.BoolOp op (b::r) p) with
    | .And,some a',some b'=>some (.and a' b')
    | .Or,some a',some b'=>some (.or a' b')
    | _,_,_=>none
  | .IfExp t a b _=>match trE n c t,trE n c a,trE n c b with
   | some t',some a',some b'=>some (.ite t' a' b')
   | _,_,_=>none
  | .Compare a ops cs _=>match ops,cs with
   | [op],[b]=>match lI op with
    | some k=>if mO b then (trE n c a).map (fun x=>bif k then .isN x else .notN x) else none
    | none=>match cmO op,trE n c a,trE n c b,behindInMarks op b with
     | some o,some a',some b',false=>some (.cmp o a' b')
     | _,_,_,_=>none
   | [op,op'],[b,d]=>match cmO op,cmO op',trE n c a,trE n c b,trE n c d,lastMarks [op,op'] [b,d] with
    | some o,some o',some a',some b',some d',false=>some (.chn o o' a' b' d')
    | _,_,_,_,_,_=>none
   | _,_=>none
  | .Tuple es _ _=>(bB (trE n c) es).map .tup
  | .List es _=>(bB (trE n c) es).map .lst
  | .Subscript a i _=>match i with
   | .Slice lo hi none _=>match trE n c a,trO (trE n c) lo,trO (trE n c) hi with
    | some a',some l,some h=>some (.sl a' l h)
    | _,_,_=>none
   | .Slice _ _ (some _) _=>none
   | i=>match trE n c a,trE n c i with
    | some a',some i'=>some (.ix a' i')
    | _,_=>none
  | .Call f args kws cpos=>match f,kws with
   | .Name x _,[] =>
    if c9 x&&glB c x then match c.gt.lookup x with
     | some .fn=>(bB (trE n c) args).map (.call x)
     | some _=>none
     | none =>
      if x = "isinstance" then match args with
       | [a,.Name y _]=>if c9 y&&dU c y then match jF y,trE n c a with
         | some t,some a'=>some (.bi (.inst t) (.cs a' .nl))
         | _,_=>none
        else none
       | _=>none
      else match jO c x args with
       | some (b,ra)=>(bB (trE n c) ra).map (.bi b)
       | none=>match args with
        | []=>none
        | a::r=>match j_ x,bB (trE n c) (a::r) with
         | some b,some es=>some (.bi b es)
         | _,_=>none
    else none
   | .Attribute o name apos,[]=>match args with
    | []=>none
    | a::r=>if sA o&&(apos.endLine==cpos.line)&&decide (args.length < 20) then match jQ name,trE n c o,bB (trE n c) (a::r) with
      | some m,some o',some es=>some (.me m o' es)
      | _,_,_=>none
     else none
   | _,_=>none
  | .ListComp elt gens scope _=>match gens with
   | [⟨tg,iter,ifs,asy⟩]=>if asy=0&&jv c scope then
     match trI (trE n c) c tg iter,fZ (inComp c scope) tg,trE n (inComp c scope) elt,(match ifs with|[]=>some .nl|[t]=>trO (trE n (inComp c scope)) (some t)|_=>none) with
     | some it,some t,some el,some tt=>if t.qD c.N.length then some (.comp (own scope).length el t it tt) else none
     | _,_,_,_=>none
    else none
   | _=>none
  | _=>none
noncomputable def fC:PySem.Expr->Bool
 | .ListComp _ _ _ _=>false
 | .SetComp _ _ _ _=>false
 | .DictComp _ _ _ _ _=>false
 | _=>true
noncomputable def nC:PySem.Expr->PySem.Expr->Bool
 | .Name _ _,_=>true
 | .Tuple _ _ _,v=>!isTup v&&fC v
 | _,_=>false
noncomputable def cH (f:Stmt->Option S):List Stmt->Option S
 | []=>some .skip
 | [s]=>f s
 | s::r=>match f s,cH f r with
  | some a,some b=>some (.seq a b)
  | _,_=>none
noncomputable def jL (c:TC):PySem.Expr->Option S
 | .Call f args kws _=>match f,kws with
  | .Name x _,[]=>if BJ args&&(c9 x&&glB c x) then match c.gt.lookup x with
    | some .cls=>some (.rais x)
    | _=>none
   else none
  | _,_=>none
 | _=>none
noncomputable def oq:PySem.Expr->Bool
 | .Slice _ _ _ _=>false
 | _=>true
noncomputable def kZ (f:PySem.Expr->Option E) (e:PySem.Expr):PySem.Expr->Option S
 | .Subscript o i _=>if fC e&&oq i then match f o,f i,f e with
   | some a,some b,some d=>some (.setIx a b d)
   | _,_,_=>none
  else none
 | _=>none
noncomputable def trS (m:Nat):Nat->TC->Stmt->Option S
 | 0,_,_=>none
 | n+1,c,s=>match s with
  | .Return none _=>some .retN
  | .Return (some e) _=>(trE m c e).map .ret
  | .Expr e _=>if jC e then some .skip else if fC e then (trE m c e).map .ex else none
  | .Pass _=>some .skip
  | .Assign ts e _=>match ts with
   | [tg]=>if nC tg e then match fZ c tg,trE m c e with
     | some t,some e'=>some (.set t e')
     | _,_=>none
    else kZ (trE m c) e tg
   | _=>none
  | .If t a b _=>match trE m c t,cH (trS m n c) a,cH (trS m n c) b with
   | some t',some a',some b'=>some (.ite t' a' b')
   | _,_,_=>none
  | .For tg it body els _=>match els,fZ c tg,trI (trE m c) c tg it,cH (trS m n c) body with
   | [],some t,some i,some b=>some (.forS t i b)
   | _,_,_,_=>none
  | .Raise (some e) none _=>jL c e
  | _=>none
noncomputable def depth:Nat:=60
noncomputable def argNames (a:Arguments):List Str:=a.args.map (·.arg)
noncomputable def jh (a:Arguments):Bool:=a.posonlyargs.isEmpty&&a.vararg.isNone&&a.kwonlyargs.isEmpty&&a.kw_defaults.isEmpty&&a.kwarg.isNone&&a.defaults.isEmpty
noncomputable def namesOf (a:Arguments) (sc:Scope):List Str:=argNames a++(sc.names.filter fun y=>(decide (y.2=.local)||decide (y.2=.cell))&&!((argNames a).any fun x=>decide (x=y.1))).map (·.1)
noncomputable def eN (gt:List (Str × GE)) (a:Arguments) (sc:Scope):TC:=⟨sc,namesOf a sc,true,gt⟩
noncomputable def cC (a:Arguments) (sc:Scope):Bool :=
 jh a&&decide (sc.kind=.function)&&!sc.isCoroutine&&!sc.isGenerator&&gQ (namesOf a sc)&&(argNames a).all (fun x=>match sc.names.lookup x with|some .local=>true|some .cell=>true|_=>false)&&sc.names.all fun y=>!decide (y.2=.free)
noncomputable def trF (gt:List (Str × GE)):Stmt->Option Fn
 | .FunctionDef _ a body _ _ _ sc _ _ _=>if cC a sc then (cH (trS depth depth (eN gt a sc)) body).map fun b=>⟨(argNames a).length,(namesOf a sc).length,b⟩ else none
 | _=>none
end EV

namespace EV
open PySem PySem.Spec PyProof.Rows L2
theorem gX:∀ {l:List Str} {x:Str} {i:Nat},idx l x=some i->l[i]?=some x
 | [],_,_,h=>by cases h
 | y::r,x,i,h=>by
  unfold idx at h
  by_cases e:y=x
  ·rw [if_pos e] at h; cases h; subst e; rfl
  ·rw [if_neg e] at h
   cases q:idx r x with
   | none=>rw [q] at h; cases h
   | some j=>rw [q] at h; cases h; show r[j]?=some x; exact gX q
theorem lJ:∀ {l:List Str},gQ l=true->l.Nodup
 | [],_=>List.nodup_nil
 | x::r,h=>by
  rw [gQ,Bool.and_eq_true] at h
  refine List.nodup_cons.mpr ⟨fun m=>?_,lJ h.2⟩
  have:(r.any fun y=>decide (y=x))=true:=List.any_eq_true.mpr ⟨x,m,decide_eq_true rfl⟩
  rw [this] at h; exact absurd h.1 (by simp)
theorem Bf {sc:Scope} {x:Str} (h:ee sc x=true):Vis sc x:=by
 unfold ee at h
 unfold Vis
 cases q:sc.names.lookup x with
 | none=>rw [q] at h; cases h
 | some k=>rw [q] at h; cases k <;> first|exact .inl rfl|exact .inr (.inl rfl)|exact .inr (.inr rfl)|cases h
theorem yg {sc:Scope} {x:Str} (h:Vis sc x):ee sc x=true:=by
 unfold ee
 rcases h with h|h|h <;> rw [h]
theorem om {x:Str} (h:c9 x=true):(x==("__debug__" : Str))=false/\(x==("__classdict__" : Str))=false:=by
 unfold c9 at h
 rw [Bool.and_eq_true] at h
 exact ⟨by simpa using h.1,by simpa using h.2⟩
structure Cok (c:TC) (X:Cx):Prop where
 sc:X.env.scope=c.sc
 N:X.N=c.N
 nd:X.N.Nodup
 kind:c.sc.kind=.function
 fn:c.inF=true->∀ x,X.fn x=true
theorem Cok.gl {c:TC} {X:Cx} (C:Cok c X) {x:Str} (h:glB c x=true):Gl X x:=by
 show X.env.scope.names.lookup x=_
 rw [C.sc]; exact of_decide_eq_true h
theorem Cok.loc {c:TC} {X:Cx} (C:Cok c X) {x:Str} (h:dm c x=true):L2.Loc X.env.scope x/\(X.fn x=true\/X.env.scope.names.lookup x=some .local):=by
 unfold dm at h
 unfold L2.Loc
 rw [C.sc]
 cases q:c.sc.names.lookup x with
 | none=>rw [q] at h; cases h
 | some k =>
  rw [q] at h
  cases k with
  | «local»=>exact ⟨.inl rfl,.inr rfl⟩
  | cell=>exact ⟨.inr rfl,.inl (C.fn h x)⟩
  | _=>cases h
theorem wY {scope:Scope} {env:Env}:relabel scope env=gg scope env.scope:=rfl
noncomputable def dz:List Str:=["len","all","any","sum","min","max","sorted","abs","list","tuple","int","bool","str","dict","range","enumerate","isinstance","set","zip"]
section
variable (Γ:Gx) (W:XW->Prop) (CX:CXT) (EW:XW->XK)
noncomputable def spF (g:List D->M D) (n:Nat):Sp:=fun vs H Q E=>vs.length=n/\∃ xw,W xw/\E=EW xw/\∃ ι S ds,av Γ ι H S/\ay Γ ι H ds vs/\Out Γ xw ι H (g ds S) fun d _ ι' H'=>∀ v,Rep Γ ι' H' d v->Q v H'
structure Fam (gt:List (Str × GE)) (cf:Str->List D->M D) (X:Cx) (xw:XW):Prop where
 hK:Γ.K=X.K
 calm:X.calm=true
 un:X.A.units+64 < cLine
 blt:∀ x∈dz,gt.lookup x=none->X.mg x=none
 val:∀ x d,gt.lookup x=some (.val d)->∃ u v,X.mg x=some u/\RelV v u/\∀ ι H,Rep Γ ι H d v
 fn:∀ x,gt.lookup x=some .fn->∃ k f fd ps,c_ X.prog X.w X.K X.mg X.base CX k f fd ps (spF Γ W EW (cf x) ps.length)/\bF k X.A/\X.mg x=some (.ref f)/\PySem.W.keepIn X.K (.ref f)=true/\Binds X.K fd ps []/\∀ ds S,ds.length≠ps.length->cf x ds S=.bad
 pass:Passes CX X (EW xw)
 noF:∀ outer H s e s',¬ CX outer H s (EW XF) e s'
 ok:W xw
 okF:W XF
end
section
variable {Γ:Gx} {W:XW->Prop} {CX:CXT} {EW:XW->XK} {gt:List (Str × GE)} {cf:Str->List D->M D} {X:Cx} {xw:XW}
theorem Fam.nox (F:Fam Γ W CX EW gt cf X xw):Fam Γ W CX EW gt cf X.nox XF :=
 ⟨F.hK,F.calm,F.un,F.blt,F.val,F.fn,fun _ _ _ _ _ _ _ h=>(F.noF _ _ _ _ _ h).elim,F.noF,F.okF,F.okF⟩
theorem Fam.comp (F:Fam Γ W CX EW gt cf X xw) (scope:Scope) (cl:List (Str × Addr)) (N':List Str) (fp:List Addr) (s3:Shared) (H3:Hp):Fam Γ W CX EW gt cf (aK X scope cl N' fp s3 H3) XF :=
 ⟨F.hK,F.calm,F.un,F.blt,F.val,F.fn,fun _ _ _ _ _ _ _ h=>(F.noF _ _ _ _ _ h).elim,F.noF,F.okF,F.okF⟩
theorem Cok.nox {c:TC} (C:Cok c X):Cok c X.nox:=⟨C.sc,C.N,C.nd,C.kind,C.fn⟩
end
theorem uE {scope:Scope} {x:Str} (h:isFree scope x=true):(x,NameKind.free)∈scope.names:=by
 obtain ⟨⟨n,k⟩,m,e⟩:=List.any_eq_true.mp h
 rw [Bool.and_eq_true] at e
 obtain ⟨e1,e2⟩:=e
 have e1:n=x:=of_decide_eq_true e1
 have e2:k=.free:=of_decide_eq_true e2
 subst e1; subst e2; exact m
theorem l_ {c:TC} {X:Cx} {scope:Scope} (C:Cok c X) (h:jv c scope=true):dJ X scope (inComp c scope).N (own scope).length /\
  ∀ cl fp s3 H3,Cok (inComp c scope) (aK X scope cl (inComp c scope).N fp s3 H3):=by
 unfold jv at h
 simp only [Bool.and_eq_true] at h
 obtain ⟨⟨⟨⟨⟨h1,h2⟩,h3⟩,h4⟩,h5⟩,h6⟩:=h
 rw [List.all_eq_true] at h1 h2 h4 h6
 have hrel:relabel scope X.env=gg scope c.sc:=by rw [wY,C.sc]
 refine ⟨⟨fun y hy hf=>?_,fun y hy hc=>?_,of_decide_eq_true h3,fun y hy hl=>?_,?_,fun i x hi hx hv=>?_⟩,fun cl fp s3 H3=>⟨hrel,rfl,lJ h5,?_,fun h=>by cases h⟩⟩
 ·have:=h1 y hy
  rw [Bool.or_eq_true] at this
  rcases this with z|z
  ·rw [hf] at z; simp at z
  ·show X.env.scope.names.lookup y.1=_\/X.env.scope.names.lookup y.1=_
   rw [C.sc]
   cases q:c.sc.names.lookup y.1 with
   | none=>rw [q] at z; cases z
   | some k=>rw [q] at z; cases k <;> first|exact .inl rfl|exact .inr rfl|cases z
 ·have:=h2 y hy
  rw [hc] at this; simp at this
 ·have:=h4 y hy
  rw [Bool.or_eq_true] at this
  rcases this with z|z
  ·rw [hl] at z; simp at z
  ·exact of_decide_eq_true z
 ·show (c.N.map (eV scope)++own scope).length=_
  rw [List.length_append,List.length_map,C.N]
 ·have hx:(c.N.map (eV scope)++own scope)[i]?=some x:=hx
  have hi':i < c.N.length:=by rw [<- C.N]; exact hi
  rw [List.getElem?_append_left (by rw [List.length_map]; exact hi'),List.getElem?_map,List.getElem?_eq_getElem hi'] at hx
  have hx:eV scope c.N[i]=x:=Option.some.inj hx
  have hm:=h6 c.N[i] (List.getElem_mem hi')
  rw [hrel] at hv ⊢
  unfold eV at hx
  by_cases hf:isFree scope c.N[i]=true
  ·rw [if_pos hf] at hx hm
   subst hx
   refine ⟨by rw [C.N]; exact List.getElem?_eq_getElem hi',uE hf,fun z=>?_⟩
   rw [z] at hm; simp at hm
  ·rw [if_neg hf] at hx hm
   subst hx
   rw [yg hv] at hm; simp at hm
 ·exact of_decide_eq_true h3
end EV

namespace EV
open PySem PySem.Spec PyProof.Rows L2
theorem bf {n:Nat} {c:TC} {a:PySem.Expr} {a':E} (h:trE n c a=some a'):∀ es env,starEach (a::es) env=(false,eval a env)::starEach es env:=by
 cases n with
 | zero=>cases h
 | succ n=>cases a <;> first|(intro _ _; rfl)|cases h
theorem bG {f:PySem.Expr->Option E} {e:PySem.Expr} {r:List PySem.Expr} {es:E} (h:bB f (e::r)=some es):∃ a b,f e=some a/\bB f r=some b/\es=.cs a b:=by
 unfold bB at h
 cases q:f e with
 | none=>rw [q] at h; cases h
 | some a =>
  rw [q] at h
  cases q2:bB f r with
  | none=>rw [q2] at h; cases h
  | some b=>rw [q2] at h; cases h; exact ⟨a,b,rfl,rfl,rfl⟩
theorem ff {n:Nat} {c:TC}:∀ {es:List PySem.Expr} {es':E},bB (trE n c) es=some es'->∀ env pos,(backTo pos (starEach es env)).any (·.1)=false/\(backTo pos (starEach es env)).all (fun x=>!x.1)=true
 | [],_,_,_,_=>⟨rfl,rfl⟩
 | e::r,_,h,env,pos=>by
  obtain ⟨a,b,h1,h2,_⟩:=bG h
  rw [bf h1]
  obtain ⟨z1,z2⟩:=ff h2 env pos
  constructor
  ·show (List.map _ ((false,eval e env)::starEach r env)).any _=false
   rw [List.map_cons,List.any_cons]
   have:(List.map (fun x:Bool × Sem Value=>(x.1,if x.1=true then do let v <- x.2; standAt pos; pure v else x.2)) (starEach r env)).any (·.1)=false:=z1
   simpa using this
  ·show (List.map _ ((false,eval e env)::starEach r env)).all _=true
   rw [List.map_cons,List.all_cons]
   have:(List.map (fun x:Bool × Sem Value=>(x.1,if x.1=true then do let v <- x.2; standAt pos; pure v else x.2)) (starEach r env)).all (fun x=>!x.1)=true:=z2
   simpa using this
section
variable {Γ:Gx} {W:XW->Prop} {CX:CXT} {EW:XW->XK} {gt:List (Str × GE)} {cf:Str->List D->M D} {sub:Sub} {X:Cx} {xw:XW}
theorem za (hw:W xw) {ps:List Str} {m:Sg->M (List D)} {i:Str} (hb:∀ ds S,ds.length≠ps.length->cf i ds S=.bad) {σ:L2.St} {H:Hp} {Q:VK} (h:tM Γ xw (fun σ=>m σ>>=cf i) σ H Q) :
  jz (spF Γ W EW (cf i) ps.length) [] (EW xw) (tMA Γ xw m) σ H Q:=by
 obtain ⟨σd,ι,S,he,hs,ho⟩:=h
 refine ⟨σd,ι,S,he,hs,ho.bind.mono fun ds S' ι' H' _ _ ⟨s',e',o'⟩ vs rs=>?_⟩
 show spF Γ W EW (cf i) ps.length (vs++[]) H' Q (EW xw)
 rw [List.append_nil]
 refine ⟨?_,xw,hw,rfl,ι',S',ds,s',rs,o'⟩
 by_cases hl:ds.length=ps.length
 ·rw [<- rs.length]; exact hl
 ·rw [hb ds S' hl] at o'; exact o'.elim
theorem Cz (F:Fam Γ W CX EW gt cf X xw) {x:Str} (hx:gt.lookup x=some .fn) (hg:Gl X x) (hdb:(x==("__debug__" : Str))=false) {a:PySem.Expr} {es:List PySem.Expr} {m:Sg->M (List D)} {p pos:Pos}
  (ha:PA X (a::es) (tMA Γ xw m)) (he:starEach (a::es) X.env=(false,eval a X.env)::starEach es X.env) (hpl:(backTo pos (starEach es X.env)).any (·.1)=false) :
  PE X (.Call (.Name x p) (a::es) [] pos) (tM Γ xw fun σ=>m σ>>=cf x):=by
 obtain ⟨k,f,fd,ps,hf,hr,hm,hk,hb,hl⟩:=F.fn x hx
 exact PE.imp (xj hf hr hg hm hk hb .nil F.pass ha hdb he hpl) fun σ H Q h=>za F.ok hl h
theorem we (F:Fam Γ W CX EW gt cf X xw) {x:Str} (hx:gt.lookup x=some .fn) (hg:Gl X x) (hdb:(x==("__debug__" : Str))=false) {p pos:Pos} :
  PE X (.Call (.Name x p) [] [] pos) (tM Γ xw fun _=>cf x []):=by
 obtain ⟨k,f,fd,ps,hf,hr,hm,hk,hb,hl⟩:=F.fn x hx
 refine PE.imp (vF hf hr hg hm hk hb .nil F.pass hdb) fun σ H Q h=>?_
 obtain ⟨σd,ι,S,he,hs,ho⟩:=h
 have ho:Out Γ xw ι H (cf x [] S) fun d x ι' H'=>∀ (v:V),Rep Γ ι' H' d v->Q v H':=ho
 refine ⟨?_,xw,F.ok,rfl,ι,S,[],hs,.nil,ho⟩
 by_cases hz:([]:List D).length=ps.length
 ·exact hz
 ·rw [hl [] S hz] at ho; exact ho.elim
theorem o_ (F:Fam Γ W CX EW gt cf X xw) {x:Str} (h:gt.lookup x=none) (hm:x∈dz):X.mg x=none:=F.blt x hm h
theorem xU (F:Fam Γ W CX EW gt cf X xw) {x:Str} {b:Bi} (hb:j_ x=some b) (hn:gt.lookup x=none) (hg:Gl X x) {a:PySem.Expr} {es:List PySem.Expr} {m:Sg->M (List D)} {p pos:Pos}
  (ha:PA X (a::es) (tMA Γ xw m)) (he:starEach (a::es) X.env=(false,eval a X.env)::starEach es X.env) (hpl:(backTo pos (starEach es X.env)).any (·.1)=false) :
  PE X (.Call (.Name x p) (a::es) [] pos) (tM Γ xw fun σ=>m σ>>=biD sub b):=by
 have hm:x∈dz->X.mg x=none:=o_ F hn
 unfold j_ at hb
 by_cases e:x = "len"
 ·subst e; rw [if_pos rfl] at hb; cases hb
  exact e9 (uK F.hK) hg (hm (by decide +kernel)) PySem.boot_len ha (by decide +kernel) (by decide +kernel) he hpl
 rw [if_neg e] at hb; clear e
 by_cases e:x = "all"
 ·subst e; rw [if_pos rfl] at hb; cases hb
  exact e9 (Dz F.hK F.calm) hg (hm (by decide +kernel)) boot_all ha (by decide +kernel) (by decide +kernel) he hpl
 rw [if_neg e] at hb; clear e
 by_cases e:x = "sum"
 ·subst e; rw [if_pos rfl] at hb; cases hb
  exact e9 (yC F.hK F.calm) hg (hm (by decide +kernel)) boot_sum ha (by decide +kernel) (by decide +kernel) he hpl
 rw [if_neg e] at hb; clear e
 by_cases e:x = "min"
 ·subst e; rw [if_pos rfl] at hb; cases hb
  exact e9 (Ah F.hK F.calm) hg (hm (by decide +kernel)) boot_min ha (by decide +kernel) (by decide +kernel) he hpl
 rw [if_neg e] at hb; clear e
 by_cases e:x = "max"
 ·subst e; rw [if_pos rfl] at hb; cases hb
  exact e9 (vP F.hK F.calm) hg (hm (by decide +kernel)) boot_max ha (by decide +kernel) (by decide +kernel) he hpl
 rw [if_neg e] at hb; clear e
 by_cases e:x = "sorted"
 ·subst e; rw [if_pos rfl] at hb; cases hb
  exact e9 (zq F.hK) hg (hm (by decide +kernel)) boot_sorted ha (by decide +kernel) (by decide +kernel) he hpl
 rw [if_neg e] at hb; clear e
 by_cases e:x = "tuple"
 ·subst e; rw [if_pos rfl] at hb; cases hb
  exact A1 (zp F.hK) hg (hm (by decide +kernel)) PyProof.Rows.boot_tuple ha (by decide +kernel) (by decide +kernel) he hpl
 rw [if_neg e] at hb; clear e
 cases hb
theorem zY (F:Fam Γ W CX EW gt cf X xw) {y:Str} {t:Ty} (hb:jF y=some t) (hn:gt.lookup y=none):∃ T,t.name=some T/\bootBuiltins y=some (.type T)/\X.mg y=none/\y≠"__name__"/\(y==("__debug__" : Str))=false:=by
 have hm:y∈dz->X.mg y=none:=o_ F hn
 unfold jF at hb
 by_cases e:y = "int"
 ·subst e; rw [if_pos rfl] at hb; cases hb
  exact ⟨_,rfl,PyProof.Rows.boot_int,hm (by decide +kernel),by decide +kernel,by decide +kernel⟩
 rw [if_neg e] at hb; clear e
 by_cases e:y = "bool"
 ·subst e; rw [if_pos rfl] at hb; cases hb
  exact ⟨_,rfl,PyProof.Rows.boot_bool,hm (by decide +kernel),by decide +kernel,by decide +kernel⟩
 rw [if_neg e] at hb; clear e
 by_cases e:y = "str"
 ·subst e; rw [if_pos rfl] at hb; cases hb
  exact ⟨_,rfl,PyProof.Rows.boot_str,hm (by decide +kernel),by decide +kernel,by decide +kernel⟩
 rw [if_neg e] at hb; clear e
 by_cases e:y = "list"
 ·subst e; rw [if_pos rfl] at hb; cases hb
  exact ⟨_,rfl,PyProof.Rows.boot_list,hm (by decide +kernel),by decide +kernel,by decide +kernel⟩
 rw [if_neg e] at hb; clear e
 by_cases e:y = "tuple"
 ·subst e; rw [if_pos rfl] at hb; cases hb
  exact ⟨_,rfl,PyProof.Rows.boot_tuple,hm (by decide +kernel),by decide +kernel,by decide +kernel⟩
 rw [if_neg e] at hb; clear e
 by_cases e:y = "dict"
 ·subst e; rw [if_pos rfl] at hb; cases hb
  exact ⟨_,rfl,PyProof.Rows.boot_dict,hm (by decide +kernel),by decide +kernel,by decide +kernel⟩
 rw [if_neg e] at hb; cases hb
theorem uf (F:Fam Γ W CX EW gt cf X xw) {name:Str} {me:Me} (hb:jQ name=some me) {o a:PySem.Expr} {es:List PySem.Expr} {apos cpos:Pos} {mo:Sg->M D} {m:Sg->M (List D)}
  (ho:PE X o (tM Γ xw mo)) (ha:PA X (a::es) (tMA Γ xw m)) (hc0:sA o=true) (hlen:(a::es).length < 20) (hall:(backTo cpos (starEach (a::es) X.env)).all (fun x=>!x.1)=true)
  (hline:(apos.endLine==cpos.line)=true) (hs:starEach (a::es) X.env=(false,eval a X.env)::starEach es X.env) (hplain:(backTo cpos (starEach es X.env)).any (·.1)=false) :
  PE X (.Call (.Attribute o name apos) (a::es) [] cpos) (tM Γ xw fun σ=>mo σ>>=fun x=>guard x.eG (m σ>>=fun ds=>meD me x ds)):=by
 have hbase:attributeBase o name X.env (eval o X.env)=eval o X.env:=by
  unfold attributeBase
  cases o with
  | Call f as ks p =>
   cases as with
   | cons _ _=>cases f <;> rfl
   | nil =>
    cases ks with
    | nil=>cases hc0
    | cons _ _=>cases f <;> rfl
  | _=>rfl
 have hfew:((backTo cpos (starEach (a::es) X.env)).all (fun x=>!x.1)&&(backToKw cpos (keywordEach [] X.env)).all (fun x=>x.1.isSome)&&decide ((a::es).length+([]:List Keyword).length+(if ([]:List Keyword).isEmpty then 0 else 1) < 30))=true:=by
  rw [hall]
  show (true&&true&&decide ((a::es).length+0+0 < 30))=true
  rw [decide_eq_true (show (a::es).length+0+0 < 30 by omega)]
  rfl
 unfold jQ at hb
 by_cases e:name = "append"
 ·subst e; rw [if_pos rfl] at hb; cases hb
  exact su F.hK PySem.F.plainAttrs_list PySem.F.slot_list_append PySem.F.type_list_append yT ho ha hbase hfew hline hs hplain
 rw [if_neg e] at hb; clear e
 by_cases e:name = "extend"
 ·subst e; rw [if_pos rfl] at hb; cases hb
  exact su F.hK PySem.F.plainAttrs_list PySem.F.slot_list_extend PySem.F.type_list_extend uw ho ha hbase hfew hline hs hplain
 rw [if_neg e] at hb; cases hb
end
end EV

namespace EV
open PySem PySem.Spec PyProof.Rows L2
section
variable (Γ:Gx) (sub:Sub) (cf:Str->List D->M D)
structure ClE (X:Cx) (xw:XW) (e:PySem.Expr) (e':E):Prop where
 pe:PE X e (tM Γ xw (ev sub cf e'))
 pt:PT X e (tMT Γ xw (evT sub cf e'))
 pw:(∃ op vs p,e=.BoolOp op vs p)->PW X e (tMT Γ xw (evT sub cf e'))
end
section
variable {Γ:Gx} {W:XW->Prop} {CX:CXT} {EW:XW->XK} {gt:List (Str × GE)} {cf:Str->List D->M D} {sub:Sub} {X:Cx} {xw:XW}
theorem o7 {e:PySem.Expr}:PT X e (tMT Γ xw fun _=>bad):=fun _ _ _ _ _ _ h=>by
 obtain ⟨_,_,_,_,_,ho⟩:=h
 exact ho.elim
theorem noBool {e:PySem.Expr} (h:∀ op vs p,e≠.BoolOp op vs p) {P:Prop}:(∃ op vs p,e=.BoolOp op vs p)->P:=fun ⟨op,vs,p,q⟩=>(h op vs p q).elim
theorem bA {e:PySem.Expr} {e':E} (hK:Γ.K=X.K) (h:PE X e (tM Γ xw (ev sub cf e'))) (he:∀ whole,isTrue e X.env whole=(do let v <- whole; standAt e.pos; holding [v] (truthy v)))
  (hb:(evT sub cf e'=fun σ=>ev sub cf e' σ>>=truth)\/evT sub cf e'=fun _=>bad) (hn:∀ op vs p,e≠.BoolOp op vs p):ClE Γ sub cf X xw e e':=by
 refine ⟨h,?_,noBool hn⟩
 rcases hb with q|q
 ·rw [q]; exact Be hK h he
 ·rw [q]; exact o7
theorem Am {c:TC} {x:Str} {p:Pos} {e':E} (F:Fam Γ W CX EW c.gt cf X xw) (C:Cok c X) (h:kH c x=some e'):ClE Γ sub cf X xw (.Name x p) e':=by
 unfold kH at h
 by_cases h1:c9 x=true
 ·rw [if_pos h1] at h
  obtain ⟨d1,d2⟩:=om h1
  by_cases h2:ee c.sc x=true
  ·rw [if_pos h2] at h
   cases q:idx c.N x with
   | none=>rw [q] at h; cases h
   | some i =>
    rw [q] at h; cases h
    exact bA F.hK (yF (by rw [C.N]; exact gX q) (by rw [C.sc]; exact Bf h2) d1 d2) (fun _=>rfl) (.inl rfl) (fun _ _ _ z=>nomatch z)
  ·rw [if_neg h2] at h
   by_cases h3:glB c x=true
   ·rw [if_pos h3] at h
    cases q:c.gt.lookup x with
    | none=>rw [q] at h; cases h
    | some g =>
     rw [q] at h
     cases g with
     | val d =>
      cases h
      obtain ⟨u,v,hm,r,hv⟩:=F.val x d q
      exact bA F.hK (fS (zj (C.gl h3) hm r d1) hv) (fun _=>rfl) (.inl rfl) (fun _ _ _ z=>nomatch z)
     | _=>cases h
   ·rw [if_neg h3] at h; cases h
 ·rw [if_neg h1] at h; cases h
theorem ve {k:Const} {j:Nat} {p:Pos} {e':E} (hK:Γ.K=X.K) (h:nY k=some e'):ClE Γ sub cf X xw (.Constant k j p) e':=by
 cases k <;> first|(cases h; done)|skip
 ·cases h; exact bA hK (fS wL fun _ _=>.non) (fun _=>rfl) (.inl rfl) (fun _ _ _ z=>nomatch z)
 ·cases h; exact bA hK (fS Ck fun _ _=>.bl _) (fun _=>rfl) (.inl rfl) (fun _ _ _ z=>nomatch z)
 ·cases h; exact bA hK (fS Co fun _ _=>.int _) (fun _=>rfl) (.inl rfl) (fun _ _ _ z=>nomatch z)
 ·cases h; exact bA hK (fS B6 fun _ _=>.str _) (fun _=>rfl) (.inl rfl) (fun _ _ _ z=>nomatch z)
theorem y_ (hK:Γ.K=X.K) {op:Operator} {o:Op2} (h:op2 op=some o):OpR X (binaryOp op) (aX Γ xw (opD o)):=by
 cases op <;> cases h
 ·exact z0 hK
 ·exact Cp
 ·exact Cq hK
 ·exact Ae
 ·exact v8
 ·exact AS
theorem fD (F:Fam Γ W CX EW gt cf X xw) {op:CmpOp} {o:Cm} (h:cmO op=some o):OpR X (compareOp op) (aX Γ xw (cmD o)):=by
 cases op <;> cases h
 ·exact s_eq F.hK F.un
 ·exact zz F.hK F.un
 ·exact EC
 ·exact EG
 ·exact Cc
 ·exact DL
 ·exact BY F.hK F.un
 ·exact Eh F.hK F.un
theorem jw {o:Cm}:∀ (x y:D) (S:af) (d:D) (S':af),cmD o x y S=.ok d S'->∃ k,d=.bl k:=by
 intro x y S d S' h
 have intc:∀ p:Int->Int->Bool,fh p x y S=.ok d S'->∃ k,d=.bl k:=fun p h=>by
  cases x <;> first|(cases h; done)|skip
  cases y <;> first|(cases h; done)|skip
  cases h; exact ⟨_,rfl⟩
 have inc:∀ neg,inM neg x y S=.ok d S'->∃ k,d=.bl k:=fun neg h=>by
  unfold inM at h
  rcases gr y S with ⟨ds,e⟩|e
  ·rw [ak e] at h
   unfold inA at h
   cases q:inL S x ds with
   | none=>rw [q] at h; cases h
   | some k=>rw [q] at h; cases h; exact ⟨_,rfl⟩
  ·rw [aU e] at h; cases h
 cases o with
 | lt=>exact intc _ h
 | le=>exact intc _ h
 | gt=>exact intc _ h
 | ge=>exact intc _ h
 | eq =>
  have h:(eqM x y>>=fun b=>pure (.bl b)) S=.ok d S':=h
  rw [b_] at h
  unfold eqM at h
  cases q:eqD deep S x y with
  | none=>rw [q] at h; cases h
  | some k=>rw [q] at h; cases h; exact ⟨_,rfl⟩
 | ne =>
  have h:guard (dR x y) (eqM x y>>=fun b=>pure (.bl (!b))) S=.ok d S':=h
  cases q:dR x y with
  | false=>rw [q] at h; cases h
  | true =>
   rw [q] at h
   have h:(eqM x y>>=fun b=>pure (.bl (!b))) S=.ok d S':=h
   rw [b_] at h
   unfold eqM at h
   cases q:eqD deep S x y with
   | none=>rw [q] at h; cases h
   | some k=>rw [q] at h; cases h; exact ⟨_,rfl⟩
 | isin=>exact inc _ h
 | b7=>exact inc _ h
theorem dB {c:TC} {n:Nat} (F:Fam Γ W CX EW c.gt cf X xw) (C:Cok c X) (ih:∀ e e',trE n c e=some e'->ClE Γ sub cf X xw e e'):∀ {es:List PySem.Expr} {es':E},bB (trE n c) es=some es'->PA X es (tMA Γ xw (evs sub cf es'))
 | [],_,h=>by cases h; exact xQ
 | e::r,_,h=>by
  obtain ⟨a,b,h1,h2,rfl⟩:=bG h
  exact DQ (ih e a h1).pe (dB F C ih h2) (bf h1 r X.env)
theorem pQ {c:TC} {n:Nat} (ih:∀ e e',trE n c e=some e'->ClE Γ sub cf X xw e e') {o:Option PySem.Expr} {e':E} (h:trO (trE n c) o=some e'):PO X o (tMO Γ xw fun σ=>if e'.bC=true then pure none else ev sub cf e' σ>>=fR):=by
 cases o with
 | none=>cases h; exact Cw
 | some e =>
  have h:(match trE n c e with|some .nl=>none|o=>o)=some e':=h
  cases q:trE n c e with
  | none=>rw [q] at h; cases h
  | some f =>
   rw [q] at h
   have hf:f=e'/\f.bC=false:=by
    cases f <;> first|(cases h; done)|(cases h; exact ⟨rfl,rfl⟩)
   obtain ⟨rfl,hn⟩:=hf
   rw [hn]
   simp only [Bool.false_eq_true,if_false]
   exact Et (ih e f q).pe
theorem iT {c:TC} (hK:Γ.K=X.K) (hc:X.calm=true) (C:Cok c X) {tg:PySem.Expr} {t:Tg} (h:fZ c tg=some t):PG X tg (tMG Γ t):=by
 have names:∀ (es:List PySem.Expr) (is:List Nat),eB c es=some is->iY X es is:=by
  intro es
  induction es with
  | nil=>intro is h; cases h; exact .nil
  | cons e r ih =>
   intro is h
   cases e with
   | Name x p =>
    unfold eB at h
    by_cases hl:dm c x=true
    ·rw [if_pos hl] at h
     cases q:idx c.N x with
     | none=>rw [q] at h; cases h
     | some i =>
      rw [q] at h
      cases q2:eB c r with
      | none=>rw [q2] at h; cases h
      | some js =>
       rw [q2] at h; cases h
       exact .cons ⟨x,p,rfl,by rw [C.N]; exact gX q,(C.loc hl).1,(C.loc hl).2⟩ (ih js q2)
    ·rw [if_neg hl] at h; cases h
   | _=>cases h
 cases tg with
 | Name x p =>
  have h:(if dm c x=true then (idx c.N x).map Tg.one else none)=some t:=h
  by_cases hl:dm c x=true
  ·rw [if_pos hl] at h
   cases q:idx c.N x with
   | none=>rw [q] at h; cases h
   | some i =>
    rw [q] at h; cases h
    exact u0 C.nd (by rw [C.N]; exact gX q) (C.loc hl).1 (C.loc hl).2
  ·rw [if_neg hl] at h; cases h
 | Tuple es k p =>
  have h:(eB c es).map Tg.many=some t:=h
  cases q:eB c es with
  | none=>rw [q] at h; cases h
  | some is =>
   rw [q] at h; cases h
   exact D5 hK hc C.nd (names es is q)
 | _=>cases h
theorem CD {e:PySem.Expr} (h:kM e=true) (env:Env):∀ x,foldedSetIterable e env x=pure x:=by
 intro x
 cases e <;> first|rfl|cases h
theorem fB {c:TC} (C:Cok c X) {x:Str} (h:dU c x=true):Gl X x/\c.gt.lookup x=none:=by
 unfold dU at h
 rw [Bool.and_eq_true] at h
 exact ⟨C.gl h.1,by simpa using h.2⟩
theorem kK {f:PySem.Expr->Option E}:∀ {es:List PySem.Expr} {es':E},bB f es=some es'->∀ (σ:Sg) (S:af) (ds:List D) (S':af),evs sub cf es' σ S=.ok ds S'->ds.length=es.length
 | [],_,h,σ,S,ds,S',q=>by
  cases h
  have q:(Res.ok [] S:Res (List D))=.ok ds S':=q
  cases q; rfl
 | e::r,_,h,σ,S,ds,S',q=>by
  obtain ⟨a,b,h1,h2,rfl⟩:=bG h
  have q:(ev sub cf a σ>>=fun x=>evs sub cf b σ>>=fun xs=>pure (x::xs)) S=.ok ds S':=q
  cases q1:ev sub cf a σ S with
  | ok d S1 =>
   rw [ak q1] at q
   cases q2:evs sub cf b σ S1 with
   | ok xs S2 =>
    rw [ak q2] at q
    cases q
    show xs.length+1=r.length+1
    rw [kK h2 σ S1 xs _ q2]
   | exc k S2=>rw [cD q2] at q; cases q
   | bad=>rw [aU q2] at q; cases q
  | exc k S2=>rw [cD q1] at q; cases q
  | bad=>rw [aU q1] at q; cases q
theorem lE {c:TC} {n:Nat} (F:Fam Γ W CX EW c.gt cf X xw) (C:Cok c X) (ih:∀ e e',trE n c e=some e'->ClE Γ sub cf X xw e e') {tg e:PySem.Expr} {e':E} (h:trI (trE n c) c tg e=some e') :
  PI X tg e (tMI Γ xw (evI sub cf e'))/\∀ x,foldedSetIterable e X.env x=pure x:=by
 unfold trI at h
 by_cases hs:kM e=true
 ·rw [if_pos hs] at h
  refine ⟨?_,CD hs X.env⟩
  have seq:(trE n c e).map E.iSeq=some e'->PI X tg e (tMI Γ xw (evI sub cf e')):=fun h=>by
   cases q:trE n c e with
   | none=>rw [q] at h; cases h
   | some a=>rw [q] at h; cases h; exact yV F.hK (ih e a q).pe
  split at h
  ·rename_i x p args pos
   by_cases hr:gJ c x=true
   ·rw [if_pos hr] at h
    unfold gJ at hr
    rw [Bool.and_eq_true] at hr
    have hx:x = "range":=of_decide_eq_true hr.2
    subst hx
    obtain ⟨hg,hn⟩:=fB C hr.1
    have hm:X.mg "range" = none:=F.blt _ (by decide +kernel) hn
    by_cases hf:few args=true
    ·rw [if_pos hf] at h
     cases q:bB (trE n c) args with
     | none=>rw [q] at h; cases h
     | some es =>
      rw [q] at h; cases h
      have ha:=dB F C ih q
      have hl:=kK (sub:=sub) (cf:=cf) q
      match args,q,ha,hl,hf with
      | [],_,_,_,hf=>exact absurd hf (by decide)
      | [a],q,ha,hl,_ =>
       obtain ⟨a',b',q1,q2,_⟩:=bG q
       exact ud hg hm ha (bf q1 [] X.env) hl
      | [a,b],q,ha,hl,_ =>
       obtain ⟨a',r',q1,q2,_⟩:=bG q
       obtain ⟨b',r2,q3,q4,_⟩:=bG q2
       exact uQ hg hm ha (by rw [bf q1,bf q3]; rfl) (bf q3 [] X.env) hl
      | [a,b,d],q,ha,hl,_ =>
       obtain ⟨a',r',q1,q2,_⟩:=bG q
       obtain ⟨b',r2,q3,q4,_⟩:=bG q2
       obtain ⟨d',r3,q5,q6,_⟩:=bG q4
       exact xG hg hm ha (by rw [bf q1,bf q3,bf q5]; rfl) (by rw [bf q3,bf q5]; rfl) hl
      | _::_::_::_::r,_,_,_,hf =>
       unfold few at hf
       rw [Bool.and_eq_true] at hf
       have:=of_decide_eq_true hf.2
       simp at this
    ·rw [if_neg hf] at h; cases h
   ·rw [if_neg hr] at h
    by_cases he:jS c x=true
    ·rw [if_pos he] at h
     unfold jS at he
     rw [Bool.and_eq_true] at he
     have hx:x = "enumerate":=of_decide_eq_true he.2
     subst hx
     obtain ⟨hg,hn⟩:=fB C he.1
     have hm:X.mg "enumerate" = none:=F.blt _ (by decide +kernel) hn
     cases tg with
     | Tuple es k tp =>
      match args,h with
      | [a],h =>
       have h:(trE n c a).map E.iEnum=some e':=h
       cases q:trE n c a with
       | none=>rw [q] at h; cases h
       | some a'=>rw [q] at h; cases h; exact Ep F.hK hg hm boot_enumerate (ih a a' q).pe (bf q [] X.env)
      | [],h=>cases h
      | _::_::_,h=>cases h
     | _=>cases h
    ·rw [if_neg he] at h
     by_cases hz:lY c x=true
     ·rw [if_pos hz] at h
      unfold lY at hz
      rw [Bool.and_eq_true] at hz
      have hx:x = "zip":=of_decide_eq_true hz.2
      subst hx
      obtain ⟨hg,hn⟩:=fB C hz.1
      have hm:X.mg "zip" = none:=F.blt _ (by decide +kernel) hn
      by_cases hq:(isTup tg&&pair args)=true
      ·rw [if_pos hq] at h
       rw [Bool.and_eq_true] at hq
       cases q:bB (trE n c) args with
       | none=>rw [q] at h; cases h
       | some es =>
        rw [q] at h; cases h
        have ha:=dB F C ih q
        have hl:args.length=2:=of_decide_eq_true hq.2
        match args,q,ha,hl with
        | [a,b],q,ha,_ =>
         obtain ⟨a',r',q1,q2,_⟩:=bG q
         cases tg with
         | Tuple es k tp=>exact A8 F.hK hg hm ha (bf q1 [b] X.env) (ff q2 X.env pos).1
         | _=>cases hq.1
      ·rw [if_neg hq] at h; cases h
     ·rw [if_neg hz] at h; exact seq h
  ·exact seq h
 ·rw [if_neg hs] at h; cases h
end
end EV

namespace EV
open PySem PySem.Spec PyProof.Rows L2
section
variable {Γ:Gx} {W:XW->Prop} {CX:CXT} {EW:XW->XK} {cf:Str->List D->M D} {sub:Sub}
theorem C6 {α:Type} {m m':M α} (h:∀ S,m S=m' S):m=m':=funext h
theorem mq (m:M D) (f:List D->M D):((m>>=fun x=>(pure []:M (List D))>>=fun xs=>pure (x::xs))>>=f)=(m>>=fun x=>f [x]):=by
 refine C6 fun S=>?_
 rw [b_,b_,b_]
 cases m S <;> rfl
theorem cL {α β:Type} {o:Option α} {f:α->β} {d:β} (h:o.map f=some d):∃ a,o=some a/\d=f a:=by
 cases o with
 | none=>cases h
 | some a=>cases h; exact ⟨a,rfl,rfl⟩
theorem oJ {t:Tg} {n:Nat} (h:t.qD n=true):∀ j,j < n->t.has j=false:=by
 intro j hj
 cases t with
 | one i =>
  have:n<=i:=of_decide_eq_true h
  show (i==j)=false
  simp; omega
 | many is =>
  show is.contains j=false
  have h:(is.all fun i=>decide (n<=i))=true:=h
  rw [List.all_eq_true] at h
  cases q:is.contains j with
  | false=>rfl
  | true =>
   have hm:j∈is:=List.contains_iff_mem.mp q
   have:=of_decide_eq_true (h j hm)
   omega
theorem tZ {c:TC} {n:Nat} {X:Cx} {xw:XW} (F:Fam Γ W CX EW c.gt cf X xw) (C:Cok c X) (ih:∀ e e',trE n c e=some e'->ClE Γ sub cf X xw e e') {x:Str} {args ra:List PySem.Expr} {b:Bi} {es:E} {p pos:Pos} (hn:c.gt.lookup x=none) (hg:Gl X x)
  (h:jO c x args=some (b,ra)) (h1:bB (trE n c) ra=some es):PE X (.Call (.Name x p) args [] pos) (tM Γ xw (ev sub cf (.bi b es))):=by
 unfold jO at h
 split at h
 ·rename_i r p1 ra' p2
  split at h
  ·rename_i hr
   rw [Bool.and_eq_true] at hr
   obtain ⟨hr1,hr2⟩:=hr
   unfold gJ at hr1
   rw [Bool.and_eq_true] at hr1
   have hx:r = "range":=of_decide_eq_true hr1.2
   subst hx
   obtain ⟨hgr,hnr⟩:=fB C hr1.1
   have hmr:X.mg "range" = none:=F.blt _ (by decide +kernel) hnr
   have hra:ra'=ra:=by
    split at h
    ·cases h; rfl
    ·cases h
   subst hra
   have ha:=dB F C ih h1
   have hl:=kK (sub:=sub) (cf:=cf) h1
   have hk:ra'.length=1\/ra'.length=2:=by
    unfold two at hr2
    rcases Bool.or_eq_true_iff.mp hr2 with z|z
    ·exact .inl (of_decide_eq_true z)
    ·exact .inr (of_decide_eq_true z)
   have hr:PE X (.Call (.Name "range" p1) ra' [] p2) (gz (tMA Γ xw (evs sub cf es))):=by
    match ra',h1,ha,hl,hk with
    | [a],h1,ha,hl,_ =>
     obtain ⟨a',b',q1,q2,_⟩:=bG h1
     exact zF hgr hmr ha (bf q1 [] X.env) (rB hl)
    | [a,b],h1,ha,hl,_ =>
     obtain ⟨a',r',q1,q2,_⟩:=bG h1
     obtain ⟨b',r2,q3,q4,_⟩:=bG q2
     exact yG hgr hmr ha (by rw [bf q1,bf q3]; rfl) (bf q3 [] X.env) (rB hl)
    | [],_,_,_,hk=>rcases hk with hk|hk <;> cases hk
    | _::_::_::_,_,_,_,hk=>simp at hk
   by_cases e:x = "tuple"
   ·subst e; rw [if_pos rfl] at h; cases h
    exact DV hk F.calm hl hr rfl hg (F.blt _ (by decide +kernel) hn)
   rw [if_neg e] at h; cases h
  ·split at h
   ·rename_i hx
    simp only [Bool.and_eq_true] at hx
    obtain ⟨⟨hx1,hx2⟩,hx3⟩:=hx
    have hx:x = "sorted":=of_decide_eq_true hx1
    subst hx
    unfold pL at hx2
    rw [Bool.and_eq_true] at hx2
    have hr:r = "set":=of_decide_eq_true hx2.2
    subst hr
    obtain ⟨hgr,hnr⟩:=fB C hx2.1
    cases h
    match ra,h1,hx3 with
    | [a],h1,_ =>
     obtain ⟨a',b',q1,q2,q3⟩:=bG h1
     cases q2
     cases q3
     have key:(fun σ=>ev sub cf (.bi .sortedSet (.cs a' .nl)) σ)=fun σ=>ev sub cf a' σ>>=fun d=>bi1 sub .sortedSet d:=by
      funext σ
      exact mq (ev sub cf a' σ) (biD sub .sortedSet)
     show PE X _ (tM Γ xw (fun σ=>ev sub cf (.bi .sortedSet (.cs a' .nl)) σ))
     rw [key]
     have hu:=F.un
     exact uC F.hK F.calm (by omega) hg (F.blt _ (by decide +kernel) hn) boot_sorted hgr (F.blt _ (by decide +kernel) hnr) boot_set (ih a a' q1).pe (by decide +kernel) (by decide +kernel) (by decide +kernel) (by decide +kernel) (bf q1 [] X.env)
   ·cases h
 ·cases h
theorem zG {b:PySem.Expr} (h:mO b=true):∃ j p,b=.Constant .none j p:=by
 cases b with
 | Constant k j p=>cases k <;> first|exact ⟨_,_,rfl⟩|cases h
 | _=>cases h
theorem xP {b:PySem.Expr} (h:jC b=true):∃ x j p,b=.Constant (.str x) j p:=by
 cases b with
 | Constant k j p=>cases k <;> first|exact ⟨_,_,_,rfl⟩|cases h
 | _=>cases h
theorem uW {op:CmpOp} (h:lI op=some true):op=.Is:=by cases op <;> first|rfl|cases h
theorem wg {op:CmpOp} (h:lI op=some false):op=.IsNot:=by cases op <;> first|rfl|cases h
theorem fz:∀ (n:Nat) (c:TC) (e:PySem.Expr) (e':E),trE n c e=some e'->∀ (X:Cx) (xw:XW),Fam Γ W CX EW c.gt cf X xw->Cok c X->ClE Γ sub cf X xw e e':=by
 intro n
 induction n with
 | zero=>intro c e e' h; cases h
 | succ n ihn =>
  intro c e e' h X xw F C
  have ih:∀ e e',trE n c e=some e'->ClE Γ sub cf X xw e e':=fun e e' h=>ihn c e e' h X xw F C
  cases e with
  | Name x p=>exact Am F C h
  | Constant k j p=>exact ve F.hK h
  | BinOp a op b p =>
   simp only [trE] at h
   split at h
   rotate_left
   ·cases h
   rename_i o a' b' h1 h2 h3
   cases h
   exact bA F.hK (Df (y_ F.hK h1) (ih a a' h2).pe (ih b b' h3).pe) (fun _=>rfl) (.inr rfl) (fun _ _ _ z=>nomatch z)
  | UnaryOp op a p =>
   cases op with
   | Not =>
    obtain ⟨a',h1,rfl⟩:∃ a',trE n c a=some a'/\e'=.not a':=by
     cases q:trE n c a with
     | none=>simp only [trE,q] at h; cases h
     | some a'=>simp only [trE,q] at h; cases h; exact ⟨a',rfl,rfl⟩
    exact ⟨B5 (ih a a' h1).pe,xF (ih a a' h1).pt,fun ⟨_,_,_,z⟩=>by cases z⟩
   | USub =>
    obtain ⟨a',h1,rfl⟩:∃ a',trE n c a=some a'/\e'=.neg a':=by
     cases q:trE n c a with
     | none=>simp only [trE,q] at h; cases h
     | some a'=>simp only [trE,q] at h; cases h; exact ⟨a',rfl,rfl⟩
    exact bA F.hK (AX (ih a a' h1).pe) (fun _=>rfl) (.inr rfl) (fun _ _ _ z=>nomatch z)
   | _ =>
    exfalso
    cases q:trE n c a with
    | none=>simp only [trE,q] at h; cases h
    | some a'=>simp only [trE,q] at h; cases h
  | BoolOp op vs p =>
   match vs,h with
   | [],h=>cases h
   | [a],h =>
    have h:trE n c a=some e':=h
    have ca:=ih a e' h
    cases op with
    | And=>exact ⟨fun pins s σ H Q I hw=>rL ca.pe pins s σ H Q I hw,(rf ca.pt).pt,fun _=>rf ca.pt⟩
    | Or=>exact ⟨fun pins s σ H Q I hw=>rL ca.pe pins s σ H Q I hw,(qP ca.pt).pt,fun _=>qP ca.pt⟩
   | a::b::r,h =>
    cases op with
    | And =>
     obtain ⟨a',b',h1,h2,rfl⟩:∃ a' b',trE n c a=some a'/\trE n c (.BoolOp .And (b::r) p)=some b'/\e'=.and a' b':=by
      cases q:trE n c a with
      | none=>simp only [trE,q] at h; cases h
      | some a' =>
       cases q2:trE n c (.BoolOp .And (b::r) p) with
       | none=>simp only [trE,q,q2] at h; cases h
       | some b'=>simp only [trE,q,q2] at h; cases h; exact ⟨a',b',rfl,rfl,rfl⟩
     have ca:=ih _ _ h1
     have cb:=ih _ _ h2
     exact ⟨vY ca.pe cb.pe,(n5 ca.pt (cb.pw ⟨_,_,_,rfl⟩)).pt,fun _=>n5 ca.pt (cb.pw ⟨_,_,_,rfl⟩)⟩
    | Or =>
     obtain ⟨a',b',h1,h2,rfl⟩:∃ a' b',trE n c a=some a'/\trE n c (.BoolOp .Or (b::r) p)=some b'/\e'=.or a' b':=by
      cases q:trE n c a with
      | none=>simp only [trE,q] at h; cases h
      | some a' =>
       cases q2:trE n c (.BoolOp .Or (b::r) p) with
       | none=>simp only [trE,q,q2] at h; cases h
       | some b'=>simp only [trE,q,q2] at h; cases h; exact ⟨a',b',rfl,rfl,rfl⟩
     have ca:=ih _ _ h1
     have cb:=ih _ _ h2
     exact ⟨AL ca.pe cb.pe,(oh ca.pt (cb.pw ⟨_,_,_,rfl⟩)).pt,fun _=>oh ca.pt (cb.pw ⟨_,_,_,rfl⟩)⟩
  | IfExp t a b p =>
   simp only [trE] at h
   split at h
   rotate_left
   ·cases h
   rename_i t' a' b' h1 h2 h3
   cases h
   refine ⟨xZ (ih t t' h1).pt (ih a a' h2).pe (ih b b' h3).pe,o7,fun ⟨_,_,_,z⟩=>by cases z⟩
  | Tuple es k p =>
   obtain ⟨es',h1,rfl⟩:=cL (f:=E.tup) h
   exact bA F.hK (xm (dB F C ih h1)) (fun _=>rfl) (.inr rfl) (fun _ _ _ z=>nomatch z)
  | List es p =>
   obtain ⟨es',h1,rfl⟩:=cL (f:=E.lst) h
   exact bA F.hK (vU (dB F C ih h1)) (fun _=>rfl) (.inr rfl) (fun _ _ _ z=>nomatch z)
  | Compare a ops cs p =>
   simp only [trE] at h
   split at h
   ·rename_i op b
    split at h
    ·rename_i k hk
     split at h
     ·rename_i hb
      obtain ⟨j,p',rfl⟩:=zG hb
      obtain ⟨a',h1,rfl⟩:=cL (f:=fun x=>bif k then E.isN x else E.notN x) h
      cases k with
      | true =>
       cases uW hk
       exact ⟨BH (ih a a' h1).pe,tS (ih a a' h1).pe,fun ⟨_,_,_,z⟩=>by cases z⟩
      | false =>
       cases wg hk
       exact ⟨yk (ih a a' h1).pe,iy (ih a a' h1).pe,fun ⟨_,_,_,z⟩=>by cases z⟩
     ·cases h
    ·split at h
     ·rename_i o a' b' h1 h2 h3 h4
      cases h
      exact ⟨wN (fD F h1) (ih a a' h2).pe (ih b b' h3).pe h4,vL jw (fD F h1) (ih a a' h2).pe (ih b b' h3).pe h4,fun ⟨_,_,_,z⟩=>by cases z⟩
     ·cases h
   ·rename_i op op' b d
    split at h
    ·rename_i o o' a' b' d' h1 h2 h3 h4 h5 h6
     cases h
     exact ⟨tF (fD F h1) (fD F h2) (ih a a' h3).pe (ih b b' h4).pe (ih d d' h5).pe h6,yy jw jw (fD F h1) (fD F h2) (ih a a' h3).pe (ih b b' h4).pe (ih d d' h5).pe h6,fun ⟨_,_,_,z⟩=>by cases z⟩
    ·cases h
   ·cases h
  | Subscript a i p =>
   simp only [trE] at h
   split at h
   ·rename_i lo hi p2
    split at h
    ·rename_i a' l u h1 h2 h3
     cases h
     exact bA F.hK (yt F.hK (ih a a' h1).pe (pQ ih h2) (pQ ih h3)) (fun _=>rfl) (.inr rfl) (fun _ _ _ z=>nomatch z)
    ·cases h
   ·cases h
   ·rename_i hs1 hs2
    split at h
    ·rename_i a' i' h1 h2
     cases h
     have hp:j8 i:=by
      intro o j
      cases i with
      | Slice lo hi st p2 =>
       cases st with
       | none=>exact (hs1 lo hi p2 rfl).elim
       | some x=>exact (hs2 lo hi x p2 rfl).elim
      | _=>rfl
     exact bA F.hK (ug F.hK (ih a a' h1).pe (ih i i' h2).pe hp) (fun _=>rfl) (.inl rfl) (fun _ _ _ z=>nomatch z)
    ·cases h
  | Call f args kws cpos =>
   simp only [trE] at h
   split at h
   ·rename_i x p
    by_cases hx:(c9 x&&glB c x)=true
    ·rw [if_pos hx] at h
     rw [Bool.and_eq_true] at hx
     have hd:=(om hx.1).1
     have hg:=C.gl hx.2
     split at h
     ·rename_i hi
      obtain ⟨es',h1,rfl⟩:=cL (f:=E.call x) h
      cases args with
      | nil =>
       cases h1
       refine bA F.hK ?_ (fun _=>rfl) (.inl rfl) (fun _ _ _ z=>nomatch z)
       exact we F hi hg hd
      | cons a r =>
       obtain ⟨a',b',q1,q2,_⟩:=bG h1
       exact bA F.hK (Cz F hi hg hd (dB F C ih h1) (bf q1 r X.env) (ff q2 X.env cpos).1) (fun _=>rfl) (.inl rfl) (fun _ _ _ z=>nomatch z)
     ·cases h
     ·rename_i hn
      by_cases hi:x = "isinstance"
      ·rw [if_pos hi] at h
       subst hi
       split at h
       ·rename_i a y p2
        by_cases hy:(c9 y&&dU c y)=true
        ·rw [if_pos hy] at h
         rw [Bool.and_eq_true] at hy
         split at h
         ·rename_i t a' h1 h2
          cases h
          obtain ⟨hg2,hn2⟩:=fB C hy.2
          obtain ⟨T,t1,t2,t3,t4,t5⟩:=zY F h1 hn2
          have hm:X.mg "isinstance" = none:=F.blt _ (by decide +kernel) hn
          have key:(fun σ=>ev sub cf (.bi (.inst t) (.cs a' .nl)) σ)=fun σ=>ev sub cf a' σ>>=fun d=>fU sub t d:=by
           funext σ
           exact mq (ev sub cf a' σ) (biD sub (.inst t))
          refine bA F.hK ?_ (fun _=>rfl) (.inl rfl) (fun _ _ _ z=>nomatch z)
          show PE X _ (tM Γ xw (fun σ=>ev sub cf (.bi (.inst t) (.cs a' .nl)) σ))
          rw [key]
          exact BF F.hK t1 hg hm boot_isinstance hg2 t3 t2 (ih a a' h2).pe (by decide +kernel) (by decide +kernel) t4 t5 (bf h2 _ X.env)
         ·cases h
        ·rw [if_neg hy] at h; cases h
       ·cases h
      ·rw [if_neg hi] at h
       split at h
       ·rename_i b ra hr
        obtain ⟨es,h1,rfl⟩:=cL (f:=E.bi b) h
        exact bA F.hK (tZ F C ih hn hg hr h1) (fun _=>rfl) (.inl rfl) (fun _ _ _ z=>nomatch z)
       ·split at h
        ·cases h
        ·rename_i a r hrn
         split at h
         ·rename_i b es h1 h2
          cases h
          obtain ⟨a',b',q1,q2,_⟩:=bG h2
          exact bA F.hK (xU F h1 hn hg (dB F C ih h2) (bf q1 r X.env) (ff q2 X.env cpos).1) (fun _=>rfl) (.inl rfl) (fun _ _ _ z=>nomatch z)
         ·cases h
    ·rw [if_neg hx] at h; cases h
   ·rename_i o name apos
    split at h
    ·cases h
    ·rename_i a r
     split at h
     ·rename_i hx
      simp only [Bool.and_eq_true] at hx
      obtain ⟨⟨x1,x2⟩,x3⟩:=hx
      split at h
      ·rename_i m o' es h1 h2 h3
       cases h
       obtain ⟨a',b',q1,q2,_⟩:=bG h3
       exact bA F.hK (uf F h1 (ih o o' h2).pe (dB F C ih h3) x1 (of_decide_eq_true x3) (ff h3 X.env cpos).2 x2 (bf q1 r X.env) (ff q2 X.env cpos).1) (fun _=>rfl) (.inr rfl) (fun _ _ _ z=>nomatch z)
      ·cases h
     ·cases h
   ·cases h
  | ListComp elt gens scope p =>
   simp only [trE] at h
   split at h
   ·rename_i tg iter ifs asy
    split at h
    ·rename_i hx
     rw [Bool.and_eq_true] at hx
     have ha:asy=0:=of_decide_eq_true hx.1
     subst ha
     obtain ⟨CO,CK⟩:=l_ C hx.2
     split at h
     ·rename_i it t el tt h1 h2 h3 h4
      split at h
      ·rename_i hge
       cases h
       obtain ⟨PI1,hs⟩:=lE F C ih h1
       have ihc:∀ cl fp s3 H3 e e',trE n (inComp c scope) e=some e'->ClE Γ sub cf (aK X scope cl (inComp c scope).N fp s3 H3) XF e e' :=
        fun cl fp s3 H3 e e' h=>ihn (inComp c scope) e e' h _ XF (F.comp scope cl _ fp s3 H3) (CK cl fp s3 H3)
       have htt:∀ cl fp s3 H3,PF (aK X scope cl (inComp c scope).N fp s3 H3) ifs (tMT Γ XF fun σ=>if tt.bC=true then pure true else evT sub cf tt σ):=fun cl fp s3 H3=>by
        match ifs,h4 with
        | [],h4 =>
         cases h4
         exact fun pins s σ H Q I h=>mK pins s σ H Q I (by
          obtain ⟨σd,ι,S,he,hs,ho⟩:=h
          exact ho.here hs)
        | [t0],h4 =>
         have h4:(match trE n (inComp c scope) t0 with|some .nl=>none|o=>o)=some tt:=h4
         cases q:trE n (inComp c scope) t0 with
         | none=>rw [q] at h4; cases h4
         | some f =>
          rw [q] at h4
          have hf:f=tt/\f.bC=false:=by
           cases f <;> first|(cases h4; done)|(cases h4; exact ⟨rfl,rfl⟩)
          obtain ⟨rfl,hn⟩:=hf
          rw [hn]
          simp only [Bool.false_eq_true,if_false]
          exact oG (ihc cl fp s3 H3 t0 f q).pt
        | _::_::_,h4=>cases h4
       refine bA F.hK ?_ (fun _=>rfl) (.inr rfl) (fun _ _ _ z=>nomatch z)
       exact Dh CO F.calm (by rw [C.N]; exact oJ hge) PI1 (fun cl fp s3 H3=>iT (X:=aK X scope cl (inComp c scope).N fp s3 H3) F.hK F.calm (CK cl fp s3 H3) h2) htt (fun cl fp s3 H3=>(ihc cl fp s3 H3 elt el h3).pe) hs
      ·cases h
     ·cases h
    ·cases h
   ·cases h
  | _=>cases h
end
end EV

namespace EV
open PySem PySem.Spec PyProof.Rows L2
section
variable {Γ:Gx} {W:XW->Prop} {CX:CXT} {EW:XW->XK} {cf:Str->List D->M D} {sub:Sub}
theorem xJ {n:Nat} {c:TC} {elt:PySem.Expr} {gens:List Comprehension} {scope:Scope} {p:Pos} {e':E} (h:trE n c (.ListComp elt gens scope p)=some e') {X:Cx} {xw:XW} (F:Fam Γ W CX EW c.gt cf X xw) (C:Cok c X) :
  ∃ tg iter ifs it t el tt,gens=[⟨tg,iter,ifs,0⟩]/\e'=.comp (own scope).length el t it tt/\dJ X scope (inComp c scope).N (own scope).length/\(∀ j,j < X.N.length->t.has j=false)/\PI X tg iter (tMI Γ xw (evI sub cf it)) /\
   (∀ cl fp s3 H3,PG (aK X scope cl (inComp c scope).N fp s3 H3) tg (tMG Γ t))/\(∀ cl fp s3 H3,PF (aK X scope cl (inComp c scope).N fp s3 H3) ifs (tMT Γ XF fun σ=>if tt.bC=true then pure true else evT sub cf tt σ)) /\
   (∀ cl fp s3 H3,PE (aK X scope cl (inComp c scope).N fp s3 H3) elt (tM Γ XF (ev sub cf el)))/\∀ x,foldedSetIterable iter X.env x=pure x:=by
 cases n with
 | zero=>cases h
 | succ n =>
  have ih:∀ e e',trE n c e=some e'->ClE Γ sub cf X xw e e':=fun e e' h=>fz n c e e' h X xw F C
  simp only [trE] at h
  split at h
  ·rename_i tg iter ifs asy
   split at h
   ·rename_i hx
    rw [Bool.and_eq_true] at hx
    have ha:asy=0:=of_decide_eq_true hx.1
    subst ha
    obtain ⟨CO,CK⟩:=l_ C hx.2
    split at h
    ·rename_i it t el tt h1 h2 h3 h4
     split at h
     ·rename_i hge
      cases h
      obtain ⟨PI1,hs⟩:=lE F C ih h1
      have ihc:∀ cl fp s3 H3 e e',trE n (inComp c scope) e=some e'->ClE Γ sub cf (aK X scope cl (inComp c scope).N fp s3 H3) XF e e' :=
       fun cl fp s3 H3 e e' h=>fz n (inComp c scope) e e' h _ XF (F.comp scope cl _ fp s3 H3) (CK cl fp s3 H3)
      have htt:∀ cl fp s3 H3,PF (aK X scope cl (inComp c scope).N fp s3 H3) ifs (tMT Γ XF fun σ=>if tt.bC=true then pure true else evT sub cf tt σ):=fun cl fp s3 H3=>by
       match ifs,h4 with
       | [],h4 =>
        cases h4
        exact fun pins s σ H Q I h=>mK pins s σ H Q I (by
         obtain ⟨σd,ι,S,he,hs,ho⟩:=h
         exact ho.here hs)
       | [t0],h4 =>
        have h4:(match trE n (inComp c scope) t0 with|some .nl=>none|o=>o)=some tt:=h4
        cases q:trE n (inComp c scope) t0 with
        | none=>rw [q] at h4; cases h4
        | some f =>
         rw [q] at h4
         have hf:f=tt/\f.bC=false:=by
          cases f <;> first|(cases h4; done)|(cases h4; exact ⟨rfl,rfl⟩)
         obtain ⟨rfl,hn⟩:=hf
         rw [hn]
         simp only [Bool.false_eq_true,if_false]
         exact oG (ihc cl fp s3 H3 t0 f q).pt
       | _::_::_,h4=>cases h4
      exact ⟨tg,iter,ifs,it,t,el,tt,rfl,rfl,CO,by rw [C.N]; exact oJ hge,PI1,fun cl fp s3 H3=>iT (X:=aK X scope cl (inComp c scope).N fp s3 H3) F.hK F.calm (CK cl fp s3 H3) h2,htt,fun cl fp s3 H3=>(ihc cl fp s3 H3 elt el h3).pe,hs⟩
     ·cases h
    ·cases h
   ·cases h
  ·cases h
theorem iX {e:PySem.Expr} (h:fC e=true) (t:Option PySem.Expr) (l:Nat) (env:Env):swapsWith e t l env=pure false:=by
 cases e <;> first|rfl|cases h
theorem BX {m:Nat} {c:TC} {X:Cx} {xw:XW} (F:Fam Γ W CX EW c.gt cf X xw) (C:Cok c X) {tg e:PySem.Expr} {t:Tg} {e':E} {pos:Pos} (ha:nC tg e=true) (h1:fZ c tg=some t) (h2:trE m c e=some e') :
  PS X (.Assign [tg] e pos) (tMS Γ xw (exec sub cf (.set t e'))):=by
 have hg:PG X tg (tMG Γ t):=iT F.hK F.calm C h1
 have he:=(fz (sub:=sub) m c e e' h2 X xw F C).pe
 cases tg with
 | Name y py =>
  by_cases hc:fC e=true
  ·exact kF he hg (show swapsWithSole [.Name y py] e pos.line X.env=pure false from iX hc (some (.Name y py)) pos.line X.env) rfl rfl
  ·cases e with
   | ListComp elt gens scope p =>
    obtain ⟨tg,iter,ifs,it,t2,el,tt,rfl,rfl,CO,hslot,PI1,PG1,PF1,PE1,hs⟩:=xJ (sub:=sub) h2 F C
    have h1':(if dm c y=true then (idx c.N y).map Tg.one else none)=some t:=h1
    by_cases hl:dm c y=true
    ·rw [if_pos hl] at h1'
     obtain ⟨j,hj,rfl⟩:=cL h1'
     have sw:swapsWith (.ListComp elt [⟨tg,iter,ifs,0⟩] scope p) (some (.Name y py)) pos.line X.env=pure (X.env.blockKind==.function&&X.env.kindOf y==some .local&&py.line==p.line
      &&!(scope.names.any fun (n,k)=>n==y&&(k==.local||k==.cell))):=rfl
     cases q:(X.env.blockKind==.function&&X.env.kindOf y==some .local&&py.line==p.line&&!(scope.names.any fun (n,k)=>n==y&&(k==.local||k==.cell))) with
     | true =>
      rw [q] at sw
      simp only [Bool.and_eq_true] at q
      have hy:X.env.scope.names.lookup y=some .local:=eq_of_beq q.1.1.2
      exact vc CO F.calm hslot PI1 PG1 PF1 PE1 C.nd (by rw [C.N]; exact gX hj) hy sw hs
     | false =>
      rw [q] at sw
      exact kF he hg sw rfl rfl
    ·rw [if_neg hl] at h1'; cases h1'
   | SetComp _ _ _ _=>cases m <;> cases h2
   | DictComp _ _ _ _ _=>cases m <;> cases h2
   | _=>exact absurd rfl hc
 | Tuple es k p =>
  have ha:(!isTup e&&fC e)=true:=ha
  rw [Bool.and_eq_true] at ha
  refine kF he hg (show swapsWithSole [.Tuple es k p] e pos.line X.env=pure false from iX ha.2 (some (.Tuple es k p)) pos.line X.env) ?_ rfl
  cases e <;> first|rfl|exact absurd ha.1 (by simp [isTup])
 | _=>cases ha
theorem Ci {m:Nat} {c:TC} {X:Cx} {xw:XW} (F:Fam Γ W CX EW c.gt cf X xw) (C:Cok c X) {tg e:PySem.Expr} {s':S} {pos:Pos} (h:kZ (trE m c) e tg=some s'):PS X (.Assign [tg] e pos) (tMS Γ xw (exec sub cf s')):=by
 have ce:∀ {e e'},trE m c e=some e'->PE X e (tM Γ xw (ev sub cf e')):=fun {e e'} h=>(fz m c e e' h X xw F C).pe
 unfold kZ at h
 split at h
 ·rename_i o i p
  split at h
  ·rename_i ha
   rw [Bool.and_eq_true] at ha
   split at h
   ·rename_i a b d h1 h2 h3
    cases h
    refine AG (ce h3) (ce h1) (ce h2) (fun _ _ _ _ z=>?_) (show swapsWithSole [.Subscript o i p] e pos.line X.env=pure false from iX ha.1 (some (.Subscript o i p)) pos.line X.env)
    rw [z] at ha; exact absurd ha.2 (by simp [oq])
   ·cases h
  ·cases h
 ·cases h
theorem f_ {f:Stmt->Option S} {X:Cx} {xw:XW} (ih:∀ s s',f s=some s'->PS X s (tMS Γ xw (exec sub cf s'))):∀ {ss:List Stmt} {s':S},cH f ss=some s'->PSs X ss (tMS Γ xw (exec sub cf s'))
 | [],_,h=>by cases h; exact tL
 | [s],_,h=>Ar (ih _ _ h)
 | s::s2::r,s',h=>by
  have h:(match f s,cH f (s2::r) with|some a,some b=>some (.seq a b)|_,_=>none)=some s':=h
  split at h
  ·rename_i a b h1 h2
   cases h
   exact xO (ih s a h1) (f_ ih h2)
  ·cases h
noncomputable def qk (Γ:Gx) (W:XW->Prop) (CX:CXT) (EW:XW->XK) (cf:Str->List D->M D) (sub:Sub):Prop :=
 ∀ (c:TC) (X:Cx) (xw:XW) (e:PySem.Expr) (s':S) (pos:Pos),Fam Γ W CX EW c.gt cf X xw->Cok c X->jL c e=some s'->PS X (.Raise (some e) none pos) (tMS Γ xw (exec sub cf s'))
theorem A_ (m:Nat) (hR:qk Γ W CX EW cf sub):∀ (n:Nat) (c:TC) (s:Stmt) (s':S),trS m n c s=some s'->∀ (X:Cx) (xw:XW),Fam Γ W CX EW c.gt cf X xw->Cok c X->PS X s (tMS Γ xw (exec sub cf s')):=by
 intro n
 induction n with
 | zero=>intro c s s' h; cases h
 | succ n ihn =>
  intro c s s' h X xw F C
  have ih:∀ s s',trS m n c s=some s'->PS X s (tMS Γ xw (exec sub cf s')):=fun s s' h=>ihn c s s' h X xw F C
  have ihx:∀ s s',trS m n c s=some s'->PS X.nox s (tMS Γ XF (exec sub cf s')):=fun s s' h=>ihn c s s' h X.nox XF F.nox C.nox
  have ce:∀ {e e'},trE m c e=some e'->ClE Γ sub cf X xw e e':=fun {e e'} h=>fz m c e e' h X xw F C
  have cx:∀ {e e'},trE m c e=some e'->ClE Γ sub cf X.nox XF e e':=fun {e e'} h=>fz m c e e' h X.nox XF F.nox C.nox
  cases s with
  | Return v p =>
   cases v with
   | none=>cases h; exact C1
   | some e =>
    obtain ⟨e',h1,rfl⟩:=cL (f:=S.ret) h
    exact ue (ce h1).pe
  | Expr e p =>
   simp only [trS] at h
   split at h
   ·rename_i hd
    obtain ⟨x,j,q,rfl⟩:=xP hd
    cases h; exact Ez
   ·split at h
    ·rename_i hn
     obtain ⟨e',h1,rfl⟩:=cL (f:=S.ex) h
     exact zB (ce h1).pe (iX hn _ _ _)
    ·cases h
  | Pass p=>cases h; exact uU
  | Assign ts e p =>
   simp only [trS] at h
   split at h
   ·rename_i tg
    split at h
    ·rename_i ha
     split at h
     ·rename_i t e' h1 h2
      cases h
      exact BX F C ha h1 h2
     ·cases h
    ·exact Ci F C h
   ·cases h
  | If t a b p =>
   simp only [trS] at h
   split at h
   ·rename_i t' a' b' h1 h2 h3
    cases h
    exact yi (ce h1).pt (f_ ih h2) (f_ ih h3)
   ·cases h
  | For tg it body els p =>
   simp only [trS] at h
   split at h
   ·rename_i t i b h1 h2 h3
    cases h
    obtain ⟨PI1,hs⟩:=lE (X:=X.nox) (xw:=XF) F.nox C.nox (fun e e' h=>cx h) h2
    exact DG F.calm PI1 (iT (X:=X.nox) F.hK F.calm C.nox h1) (f_ ihx h3) hs
   ·cases h
  | Raise e cause p =>
   cases e with
   | none=>cases cause <;> cases h
   | some e =>
    cases cause with
    | none=>exact hR c X xw e s' p F C h
    | some _=>cases h
  | _=>cases h
end
end EV

namespace EV
open PySem PySem.Spec PyProof.Rows L2
theorem jM:∀ {ns:List Str} {us:List Value} {i:Nat} {x:Str} {u:Value},ns.Nodup->ns[i]?=some x->us[i]?=some u->(ns.zip us).lookup x=some u
 | [],_,_,_,_,_,h,_=>by simp at h
 | _::_,[],_,_,_,_,_,h=>by simp at h
 | y::ns,v::us,0,x,u,_,h1,h2=>by
  simp at h1 h2; subst h1; subst h2
  simp [List.lookup]
 | y::ns,v::us,i+1,x,u,nd,h1,h2=>by
  have h1':ns[i]?=some x:=by simpa using h1
  have hne:¬ x=y:=fun e=>by
   subst e; exact (List.nodup_cons.mp nd).1 (List.mem_of_getElem? h1')
  have hb:(x==y)=false:=by simpa using hne
  show List.lookup x ((y,v)::ns.zip us)=some u
  rw [List.lookup_cons,hb]
  exact jM (List.nodup_cons.mp nd).2 h1' (by simpa using h2)
theorem uI {ns:List Str} {us:List Value} (nd:ns.Nodup) (hl:us.length=ns.length):ns.filterMap (fun n=>((ns.zip us).lookup n).map (n,·))=ns.zip us:=by
 have all:∀ (ms:List Str) (vs:List Value),vs.length=ms.length->(∀ (i:Nat) x u,ms[i]?=some x->vs[i]?=some u->(ns.zip us).lookup x=some u)->ms.filterMap (fun n=>((ns.zip us).lookup n).map (n,·))=ms.zip vs:=by
  intro ms
  induction ms with
  | nil=>intro vs _ _; rfl
  | cons m ms ih =>
   intro vs hl h
   cases vs with
   | nil=>simp at hl
   | cons v vs =>
    rw [List.filterMap_cons,h 0 m v rfl rfl]
    show (m,v)::_=(m,v)::ms.zip vs
    rw [ih vs (by simpa using hl) fun i x u h1 h2=>h (i+1) x u (by simpa using h1) (by simpa using h2)]
 exact all ns us hl fun i x u h1 h2=>jM nd h1 h2
theorem sR {x qual:Str} {a:Arguments} {body:List Stmt} {sc:Scope} {kV doc pm cdv ct:Value} {an:Option Addr} (hp:jh a=true) (nd:(argNames a).Nodup) {us:List Value} (hl:us.length=(argNames a).length) :
  bindArgs (PySem.W.fnOf x qual a body sc .none kV doc pm an cdv ct) ⟨us,[]⟩=pure ((argNames a).zip us):=by
 obtain ⟨po,as,va,ko,kd,kw,df⟩:=a
 unfold jh at hp
 simp only [Bool.and_eq_true,List.isEmpty_iff,Option.isNone_iff_eq_none] at hp
 obtain ⟨⟨⟨⟨⟨rfl,rfl⟩,rfl⟩,rfl⟩,rfl⟩,rfl⟩:=hp
 have nd:(as.map (·.arg)).Nodup:=nd
 have hl:us.length=(as.map (·.arg)).length:=hl
 show bindArgs _ _=pure ((as.map (·.arg)).zip us)
 unfold bindArgs
 simp only [PySem.W.fnOf,List.map_nil,List.nil_append,List.append_nil]
 generalize as.map (·.arg)=ns at nd hl
 have hnot:¬ us.length > ns.length:=by rw [hl]; exact Nat.lt_irrefl _
 have hmiss:(List.take ns.length ns).filter (fun n=>((ns.zip us).lookup n).isNone)=[]:=by
  rw [List.filter_eq_nil_iff]
  intro n hn
  obtain ⟨i,hi⟩:=List.getElem?_of_mem (List.mem_of_mem_take hn)
  have hi':i < us.length:=by rw [hl]; exact (List.getElem?_eq_some_iff.mp hi).1
  rw [jM nd hi (List.getElem?_eq_getElem hi')]
  simp
 have hb:=uI nd hl
 have hd:seqItems? .none=pure none:=rfl
 rw [hd]
 have hz:(#[]:Array Value).toList=[]:=rfl
 have hdec:decide (us.length > ns.length)=false:=decide_eq_false hnot
 simp only [List.forIn_nil,pure_bind,Option.getD_none,hz,List.length_nil,Nat.zero_sub,List.drop_nil,Nat.sub_zero,hmiss,hdec,Bool.false_and,Bool.false_eq_true,if_false,List.isEmpty_nil,Bool.not_true,List.zip_nil_right,hb]
noncomputable def gU (xw:XW):XW:=fun c _ _ H=>∃ S ι,xw c S ι H
structure Txt (K:PySem.W.Frag) (mg:Str->Option Value) (gt:List (Str × GE)) (defs:List (Str × Stmt)):Prop where
 fn:∀ x,gt.lookup x=some .fn->∃ st f fd,defs.lookup x=some st/\mg x=some (.ref f)/\Fun K x x st f fd
 blt:∀ x∈dz,gt.lookup x=none->mg x=none
 val:∀ x d,gt.lookup x=some (.val d)->∃ u v,mg x=some u/\RelV v u/\∀ ι H,Rep ⟨K⟩ ι H d v
structure Xok (P:Program) (w:World) (K:PySem.W.Frag) (mg:Str->Option Value) (base:Heap) (W:XW->Prop) (CX:CXT) (EW:XW->XK) (sub:Sub):Prop where
 noF:∀ outer H s e s',¬ CX outer H s (EW XF) e s'
 okF:W XF
 any:∀ xw,W xw->W (gU xw)
 pass:∀ xw N qual scope f cd A outer s H,W xw->Passes CX (dQ CX P w K mg base N qual scope f cd A outer s H (EW xw)) (EW (gU xw))
 rais:∀ cf,qk ⟨K⟩ W CX EW cf sub
theorem Ds {Γ:Gx} {ι:List Addr} {H:Hp} {ds:List D} {vs:List V} (rs:ay Γ ι H ds vs) (N:List Str) {k:Nat} (hk:k=N.length):aP Γ ι H (L2.start N vs) (ds.map some++List.replicate (k - ds.length) none):=by
 have hl:=rs.length
 refine ⟨by unfold L2.start; simp [hl,hk],fun i d h=>?_⟩
 by_cases hi:i < ds.length
 ·rw [List.getElem?_append_left (by simpa using hi),List.getElem?_map] at h
  have h:ds[i]?=some d:=by
   rw [List.getElem?_eq_getElem hi] at h ⊢
   simpa using h
  obtain ⟨v,hv,r⟩:=Paired.get rs h
  refine ⟨v,?_,r⟩
  unfold L2.start
  rw [List.getElem?_append_left (by rw [List.length_map,<- hl]; exact hi),List.getElem?_map,hv]
  rfl
 ·rw [List.getElem?_append_right (by simpa using hi),List.getElem?_replicate] at h
  split at h <;> cases h
theorem jP {a:Arguments} {sc:Scope} (h:cC a sc=true):jG (namesOf a sc) (argNames a) sc/\jh a=true:=by
 unfold cC at h
 simp only [Bool.and_eq_true] at h
 obtain ⟨⟨⟨⟨⟨⟨h1,h2⟩,h3⟩,h4⟩,h5⟩,h6⟩,h7⟩:=h
 rw [List.all_eq_true] at h6 h7
 refine ⟨⟨of_decide_eq_true h2,by simpa using h3,by simpa using h4,lJ h5,?_,fun x hx=>?_,fun y hy hf=>?_⟩,h1⟩
 ·unfold namesOf; rw [List.take_append_of_le_length (Nat.le_refl _),List.take_length]
 ·have:=h6 x hx
  cases q:sc.names.lookup x with
  | none=>rw [q] at this; cases this
  | some k=>rw [q] at this; cases k <;> first|exact .inl rfl|exact .inr rfl|cases this
 ·have:=h7 y hy
  rw [hf] at this; simp at this
section
variable {P:Program} {w:World} {K:PySem.W.Frag} {mg:Str->Option Value} {base:Heap} {W:XW->Prop} {CX:CXT} {EW:XW->XK} {sub:Sub} {gt:List (Str × GE)} {defs:List (Str × Stmt)} {Pd:Prg}
theorem Au (T:Txt K mg gt defs) (O:Xok P w K mg base W CX EW sub) (hP:∀ x st,defs.lookup x=some st->∃ F,trF gt st=some F/\Pd.lookup x=some F) :
  ∀ (n:Nat) (x:Str) (st:Stmt) (f:Addr) (fd:FuncData),defs.lookup x=some st->Fun K x x st f fd->c_ P w K mg base CX n f fd (argNames (cG st)) (spF ⟨K⟩ W EW (aj sub Pd n x) (argNames (cG st)).length):=by
 intro n
 induction n with
 | zero =>
  intro x st f fd _ _
  refine ⟨fun vs H Q E h=>h.1,fun A outer s H args us vs Q E _ _ _ _ h=>?_⟩
  obtain ⟨_,_,_,_,_,_,_,_,_,ho⟩:=h
  exact ho.elim
 | succ n ih =>
  intro x st f fd hst Fu
  obtain ⟨F,hF,hPi⟩:=hP x st hst
  cases st with
  | FunctionDef x0 a body d1 d2 d3 sc d4 d5 d6 =>
   have hF:(if cC a sc=true then (cH (trS depth depth (eN gt a sc)) body).map fun b=>(⟨(argNames a).length,(namesOf a sc).length,b⟩:Fn) else none)=some F:=hF
   by_cases hs:cC a sc=true
   ·rw [if_pos hs] at hF
    obtain ⟨b,hb,rfl⟩:=cL hF
    obtain ⟨SC,hpl⟩:=jP hs
    obtain ⟨oc,od,kV,doc,pm,an,cdv,ct,osl,rfl,lk,hcd⟩:=Fu.ex
    refine t_ (N:=namesOf a sc) lk hcd SC (fun vs H Q E h=>h.1) fun A outer s H vs Q E hr hsp=>?_
    obtain ⟨hl,xw,hw,rfl,ι,S,ds,hS,rs,ho⟩:=hsp
    have FM:Fam ⟨K⟩ W CX EW gt (aj sub Pd n) (dQ CX P w K mg base (namesOf a sc) x sc f cdv A outer s H (EW xw)) (gU xw):=by
     refine ⟨rfl,rfl,hr.units,T.blt,T.val,fun y hy=>?_,O.pass xw _ _ _ _ _ _ _ _ _ hw,O.noF,O.any xw hw,O.okF⟩
     obtain ⟨st2,f2,fd2,h1,h2,h3⟩:=T.fn y hy
     obtain ⟨F2,hF2,hPj⟩:=hP y st2 h1
     have hb2:Binds K fd2 (argNames (cG st2)) []:=by
      cases st2 with
      | FunctionDef x1 a1 body1 e1 e2 e3 sc1 e4 e5 e6 =>
       have hF2:(if cC a1 sc1=true then (cH (trS depth depth (eN gt a1 sc1)) body1).map fun b=>(⟨(argNames a1).length,(namesOf a1 sc1).length,b⟩:Fn) else none)=some F2:=hF2
       by_cases hs1:cC a1 sc1=true
       ·obtain ⟨SC1,hpl1⟩:=jP hs1
        refine h3.binds fun _ _ _ _ _ _ us hl=>?_
        have nd1:(argNames a1).Nodup:=by rw [<- SC1.pre]; exact SC1.nd.sublist (List.take_sublist _ _)
        exact sR hpl1 nd1 hl
       ·rw [if_neg hs1] at hF2; cases hF2
      | _=>cases hF2
     refine ⟨n,f2,fd2,argNames (cG st2),ih y st2 f2 fd2 h1 h3,hr,h2,h3.kp,hb2,fun ds S hne=>?_⟩
     cases n with
     | zero=>rfl
     | succ n =>
      have hpar:F2.par=(argNames (cG st2)).length:=by
       cases st2 with
       | FunctionDef x1 a1 body1 e1 e2 e3 sc1 e4 e5 e6 =>
        have hF2:(if cC a1 sc1=true then (cH (trS depth depth (eN gt a1 sc1)) body1).map fun b=>(⟨(argNames a1).length,(namesOf a1 sc1).length,b⟩:Fn) else none)=some F2:=hF2
        by_cases hs1:cC a1 sc1=true
        ·rw [if_pos hs1] at hF2
         obtain ⟨b1,_,rfl⟩:=cL hF2
         rfl
        ·rw [if_neg hs1] at hF2; cases hF2
       | _=>cases hF2
      exact zU hPj (by rw [hpar]; exact hne)
    have CK:Cok (eN gt a sc) (dQ CX P w K mg base (namesOf a sc) x sc f cdv A outer s H (EW xw)):=⟨rfl,rfl,SC.nd,SC.kind,fun _ _=>rfl⟩
    refine ⟨tMS ⟨K⟩ (gU xw) (exec sub (aj sub Pd n) b),f_ (fun s s' h=>A_ depth (O.rais _) depth (eN gt a sc) s s' h _ _ FM CK) hb,?_⟩
    have hdl:ds.length=(argNames a).length:=rs.length.trans hl
    refine ⟨ds.map some++List.replicate ((namesOf a sc).length - ds.length) none,ι,S,Ds rs _ rfl,hS,?_⟩
    have ho:Out ⟨K⟩ xw ι H (aj sub Pd (n+1) x ds S) _:=ho
    rw [nj hPi hdl] at ho
    unfold frame at ho
    cases q:exec sub (aj sub Pd n) b (ds.map some++List.replicate ((namesOf a sc).length - ds.length) none) S with
    | bad=>rw [q] at ho; exact ho.elim
    | exc k S' =>
     rw [q] at ho
     intro ι' H' e' s'
     have ho:Out ⟨K⟩ xw ι H (if S'.take S.length=S then .exc k S else .exc k S') _:=ho
     by_cases ht:S'.take S.length=S
     ·rw [if_pos ht] at ho
      exact ⟨S,ι,ho ι H' e'.back (av.back e' hS s' ht)⟩
     ·rw [if_neg ht] at ho
      exact ⟨S',ι',ho ι' H' e' s'⟩
    | ok fl S' =>
     rw [q] at ho
     intro ι' H' e' s'
     cases fl with
     | nx σ'=>exact fun σv hv=>p_ hS e' s' .non ho
     | rt d=>exact fun v r=>p_ hS e' s' r ho
     | bk σ'=>exact ho.elim
     | ct σ'=>exact ho.elim
   ·rw [if_neg hs] at hF; cases hF
  | _=>cases hF
end
end EV

namespace EV
open PySem PySem.Spec PyProof.Rows L2
inductive cU (K:PySem.W.Frag):List (Str × Stmt)->Prop
 | nil:cU K []
 | cons {x:Str} {st:Stmt} {r:List (Str × Stmt)} {f:Addr} {oc:Value} {od an:Option Addr} {osl:Array (Option Value)} {kV doc pm cdv ct:Value} :
   PySem.W.nsIn K mainGlobals x=some (some (.ref f)) ->
   K.lookup f=some ⟨oc,od,.func (PySem.W.fnOf x x (cG st) (gD st) (gf st) .none kV doc pm an cdv ct),osl⟩ ->
   PySem.W.codeIn K cdv x=true->PySem.W.keepIn K (.ref f)=true->cU K r->cU K ((x,st)::r)
inductive dM:D->Value->Prop
 | non:dM .non .none
 | bl (b:Bool):dM (.bl b) (.bool b)
 | int (i:Int) (t:Tok):dM (.int i) (.int i t)
 | str (x:Str) (t:Tok):dM (.str x) (.str x t)
inductive dY:List D->List Value->Prop
 | nil:dY [] []
 | cons {d:D} {u:Value} {ds:List D} {us:List Value}:dM d u->dY ds us->dY (d::ds) (u::us)
inductive bZ (K:PySem.W.Frag):List (Str × D)->Prop
 | nil:bZ K []
 | flat {x:Str} {d:D} {u:Value} {r:List (Str × D)}:PySem.W.nsIn K mainGlobals x=some (some u)->dM d u->bZ K r->bZ K ((x,d)::r)
 | tup {x:Str} {ds:List D} {a:Addr} {od:Option Addr} {us:List Value} {n:Nat} {sl:Array (Option Value)} {r:List (Str × D)}:PySem.W.nsIn K mainGlobals x=some (some (.ref a)) ->
   K.lookup a=some ⟨.type "tuple",od,.seq us.toArray n,sl⟩->us.length<=1000->dY ds us->bZ K r->bZ K ((x,.tup ds)::r)
inductive dD (K:PySem.W.Frag):List Str->Prop
 | nil:dD K []
 | cons {x:Str} {r:List Str}:PySem.W.nsIn K mainGlobals x=some none->dD K r->dD K (x::r)
noncomputable def iW:D->V
 | .bl b=>.bl b
 | .int i=>.int i
 | .str x=>.str x
 | _=>.non
theorem dM.rel {d:D} {u:Value} (h:dM d u):RelV (iW d) u/\∀ Γ ι H,Rep Γ ι H d (iW d):=by
 cases h with
 | non=>exact ⟨rfl,fun _ _ _=>.non⟩
 | bl b=>exact ⟨rfl,fun _ _ _=>.bl b⟩
 | int i t=>exact ⟨⟨t,rfl⟩,fun _ _ _=>.int i⟩
 | str x t=>exact ⟨⟨t,rfl⟩,fun _ _ _=>.str x⟩
theorem dY.rel:∀ {ds:List D} {us:List Value},dY ds us->Vals (ds.map iW) us/\∀ Γ ι H,ay Γ ι H ds (ds.map iW)
 | _,_,.nil=>⟨.nil,fun _ _ _=>.nil⟩
 | _,_,.cons h r=>⟨.cons h.rel.1 (dY.rel r).1,fun Γ ι H=>.cons (h.rel.2 Γ ι H) ((dY.rel r).2 Γ ι H)⟩
theorem cU.get {K:PySem.W.Frag}:∀ {fns:List (Str × Stmt)} {x:Str} {st:Stmt},cU K fns->(x,st)∈fns->∃ f fd,PySem.W.nsIn K mainGlobals x=some (some (.ref f))/\Fun K x x st f fd
 | _,_,_,.nil,h=>by simp at h
 | _,_,_,.cons a l c k r,h=>by
  rcases List.mem_cons.mp h with e|h
  ·cases e; exact ⟨_,_,a,vN l c k⟩
  ·exact cU.get r h
theorem bZ.get {K:PySem.W.Frag}:∀ {vals:List (Str × D)} {x:Str} {d:D},bZ K vals->(x,d)∈vals->∃ u v,PySem.W.nsIn K mainGlobals x=some (some u)/\RelV v u/\∀ ι H,Rep ⟨K⟩ ι H d v
 | _,_,_,.nil,h=>by simp at h
 | _,x,d,.flat a f r,h=>by
  rcases List.mem_cons.mp h with e|h
  ·cases e; exact ⟨_,_,a,f.rel.1,fun ι H=>f.rel.2 _ ι H⟩
  ·exact bZ.get r h
 | _,x,d,.tup a l z f r,h=>by
  rcases List.mem_cons.mp h with e|h
  ·cases e
   refine ⟨_,.ref _,a,rfl,fun ι H=>?_⟩
   have hz:∀ {us:List Value},us.length<=1000->us.toArray.size<=sizeLine:=fun {us} h=>by rw [List.size_toArray,sizeLine_eq]; omega
   exact .ek (.inr ⟨_,_,_,l,rfl,rfl,hz z,by simpa using f.rel.1⟩) (f.rel.2 _ ι H)
  ·exact bZ.get r h
theorem dD.get {K:PySem.W.Frag}:∀ {l:List Str} {x:Str},dD K l->x∈l->PySem.W.nsIn K mainGlobals x=some none
 | _,_,.nil,h=>by simp at h
 | _,_,.cons a r,h=>by
  rcases List.mem_cons.mp h with rfl|h
  ·exact a
  ·exact dD.get r h
noncomputable def d8 (fns:List (Str × Stmt)) (vals:List (Str × D)) (cls:List Str):List (Str × GE):=(fns.map fun p=>(p.1,.fn))++(vals.map fun p=>(p.1,.val p.2))++cls.map fun x=>(x,.cls)
theorem jZ {α β γ:Type} {f:Str × α->Str × β} (hf:∀ p,(f p).1=p.1) {g:Str × α->γ}:∀ {l:List (Str × α)} {x:Str} {b:β},(l.map f).lookup x=some b->∃ p∈l,p.1=x/\(f p).2=b/\l.lookup x=some p.2
 | [],_,_,h=>by simp at h
 | p::r,x,b,h=>by
  have e:f p=(p.1,(f p).2):=by rw [<- hf p]
  rw [List.map_cons,e,List.lookup_cons] at h
  obtain ⟨y,a⟩:=p
  cases q:x==y with
  | true =>
   simp only [q] at h
   have e:x=y:=by simpa using q
   subst e
   exact ⟨(x,a),List.mem_cons_self,rfl,by simpa using h,by rw [List.lookup_cons,q]⟩
  | false =>
   simp only [q] at h
   obtain ⟨p,h1,h2,h3,h4⟩:=jZ hf (g:=g) h
   exact ⟨p,List.mem_cons_of_mem _ h1,h2,h3,by rw [List.lookup_cons,q]; exact h4⟩
theorem jI {β:Type}:∀ {l m:List (Str × β)} {x:Str},(l++m).lookup x=(match l.lookup x with|some b=>some b|none=>m.lookup x)
 | [],m,x=>by simp
 | (y,a)::r,m,x=>by
  rw [List.cons_append,List.lookup_cons,List.lookup_cons]
  cases x==y with
  | true=>rfl
  | false=>exact jI
theorem iZ {α:Type}:∀ {l:List (Str × α)} {x:Str} {a:α},l.lookup x=some a->(x,a)∈l
 | [],_,_,h=>by simp at h
 | (y,b)::r,x,a,h=>by
  rw [List.lookup_cons] at h
  cases q:x==y with
  | true =>
   rw [q] at h
   have e:x=y:=by simpa using q
   subst e
   have e:b=a:=by simpa using h
   subst e
   exact List.mem_cons_self
  | false=>rw [q] at h; exact List.mem_cons_of_mem _ (iZ h)
theorem mU {K:PySem.W.Frag} {h:Heap} {mg:Str->Option Value} {fns:List (Str × Stmt)} {vals:List (Str × D)} {cls:List Str} (X:K.In h) (G:h.Ns mainGlobals mg) (hd:cU K fns) (hv:bZ K vals)
  (hb:∀ x∈dz,(d8 fns vals cls).lookup x=none->PySem.W.nsIn K mainGlobals x=some none):Txt K mg (d8 fns vals cls) fns where
 fn:=fun x hx=>by
  unfold d8 at hx
  rw [jI,jI] at hx
  cases q:(fns.map fun p=>(p.1,GE.fn)).lookup x with
  | some b =>
   obtain ⟨p,h1,h2,_,h4⟩:=jZ (g:=fun _=>()) (f:=fun p=>(p.1,GE.fn)) (fun _=>rfl) q
   obtain ⟨y,st⟩:=p
   have h2:y=x:=h2
   subst h2
   obtain ⟨f,fd,a,F⟩:=hd.get h1
   exact ⟨st,f,fd,h4,PySem.W.mg_of X G a,F⟩
  | none =>
   rw [q] at hx
   cases q2:(vals.map fun p=>(p.1,GE.val p.2)).lookup x with
   | some b =>
    rw [q2] at hx
    obtain ⟨p,h1,h2,h3,_⟩:=jZ (g:=fun _=>()) (f:=fun p=>(p.1,GE.val p.2)) (fun _=>rfl) q2
    have hx:b=.fn:=by simpa using hx
    rw [hx] at h3; cases h3
   | none =>
    rw [q2] at hx
    have hm:=iZ hx
    obtain ⟨p,_,e⟩:=List.mem_map.mp hm; cases e
 blt:=fun x hx hn=>PySem.W.mg_none_of X G (hb x hx hn)
 val:=fun x d hx=>by
  have hm:=iZ hx
  unfold d8 at hm
  rcases List.mem_append.mp hm with hm|hm
  ·rcases List.mem_append.mp hm with hm|hm
   ·obtain ⟨p,hp,e⟩:=List.mem_map.mp hm; cases e
   ·obtain ⟨p,hp,e⟩:=List.mem_map.mp hm
    cases e
    obtain ⟨u,v,a,r,q⟩:=hv.get hp
    exact ⟨u,v,PySem.W.mg_of X G a,r,q⟩
  ·obtain ⟨p,_,e⟩:=List.mem_map.mp hm; cases e
noncomputable def W0:XW->Prop:=fun xw=>xw=XF
noncomputable def EW0:XW->XK:=fun _=>E0
theorem A5:gU XF=XF:=by
 funext c S ι H
 exact propext ⟨fun ⟨_,_,h⟩=>h,fun h=>h.elim⟩
theorem CI {P:Program} {w:World} {K:PySem.W.Frag} {mg:Str->Option Value} {base:Heap} {sub:Sub}:Xok P w K mg base W0 CX0 EW0 sub where
 noF:=fun _ _ _ _ _ h=>h
 okF:=rfl
 any:=fun xw h=>by rw [show xw=XF from h]; exact A5
 pass:=fun _ _ _ _ _ _ _ _ _ _ _ _ _ _ _ _ _ _ h=>h.elim
 rais:=fun cf c X xw e s' pos F C h=>by
  have hw:xw=XF:=F.ok
  subst hw
  have hs:∃ k,s'=.rais k:=by
   unfold jL at h
   repeat' split at h
   all_goals first|(cases h; done)|(cases h; exact ⟨_,rfl⟩)
  obtain ⟨k,rfl⟩:=hs
  refine PS.imp xV fun D σ H h=>?_
  obtain ⟨σd,ι,S,_,hS,ho⟩:=h
  exact ho ι H .refl hS
theorem Ca {K:PySem.W.Frag} {H:Hp} {a:Addr} {ns:List Int} (hO:gb H) (hS:SqL K H a (ns.map V.int)):av ⟨K⟩ [] H []/\ay ⟨K⟩ [] H [.fro (ns.map .int)] [.ref a]:=by
 refine ⟨⟨rfl,List.nodup_nil,fun l c h=>by simp at h⟩,.cons ?_ .nil⟩
 have hp:ay ⟨K⟩ [] H (ns.map D.int) (ns.map V.int):=gY ns
 have hf:Fro K H a (ns.map V.int):=by
  rcases hS with (h|⟨o,h⟩)|h
  ·rcases hO a with z|⟨o,xs,z⟩
   ·rw [h] at z; cases z
   ·rw [h] at z; cases z
  ·exact .inl ⟨o,h⟩
  ·exact .inr fun H=>.inr h
 exact .fro hf (by simp) fun i d v e1 e2=>by
  obtain ⟨y,e,f⟩:=Paired.get hp e1
  rw [e2] at e; cases e; exact f
theorem B7 {fns:List (Str × Stmt)} {gt:List (Str × GE)} {Pd:Prg} (hP:fns.map (fun p=>(p.1,trF gt p.2))=Pd.map fun p=>(p.1,some p.2)):∀ x st,fns.lookup x=some st->∃ F,trF gt st=some F/\Pd.lookup x=some F:=by
 have all:∀ (fns:List (Str × Stmt)) (Pd:Prg),(fns.map (fun p=>(p.1,trF gt p.2))=Pd.map fun p=>(p.1,some p.2))->∀ x st,fns.lookup x=some st->∃ F,trF gt st=some F/\Pd.lookup x=some F:=by
  intro fns
  induction fns with
  | nil=>intro Pd _ x st h; simp at h
  | cons p r ih =>
   intro Pd hP x st h
   cases Pd with
   | nil=>simp at hP
   | cons F Pd =>
    obtain ⟨y,st0⟩:=p
    obtain ⟨y2,F⟩:=F
    rw [List.map_cons,List.map_cons] at hP
    injection hP with e1 e2
    have e1a:y=y2:=congrArg Prod.fst e1
    have e1b:trF gt st0=some F:=congrArg Prod.snd e1
    subst e1a
    rw [List.lookup_cons] at h
    rw [List.lookup_cons]
    cases q:x==y with
    | true =>
     rw [q] at h
     have h:st0=st:=by simpa using h
     subst h
     exact ⟨F,e1b,rfl⟩
    | false=>rw [q] at h; exact ih Pd e2 x st h
 exact all fns Pd hP
theorem zQ {l:PySem.W.OpenLaw} {q:Program} {loose:List Str} {XP:(Str->Option Value)->Heap->Prop} {YP:World->Heap->Prop} {d:DefRec} {K:Params->PySem.W.Frag} {fns:List (Str × Stmt)} {vals:List (Str × D)} {cls:List Str} {Pd:Prg} {sub:Sub} {n:Nat} {st:Stmt} {x:Str}
  (hn:l.most=some 63) (hdf:d.params.defaults=[]) (hr:bF n callerA) (hY:∀ (w:World) (h:Heap),YP w h->(K w.params).In h)
  (hP:fns.map (fun p=>(p.1,trF (d8 fns vals cls) p.2))=Pd.map fun p=>(p.1,some p.2)) (hL:fns.lookup d.name=some st) (hx:argNames (cG st)=[x])
  (hT:∀ w:World,∀ h:Heap,(K w.params).In h->cU (K w.params) fns/\bZ (K w.params) vals/\∀ x∈dz,(d8 fns vals cls).lookup x=none->PySem.W.nsIn (K w.params) mainGlobals x=some none)
  (hmain:∀ ns:List Int,ns.length<=63->∃ S',aj sub Pd n d.name [.fro (ns.map .int)] []=.ok (.bl true) S') :
  PySem.W.WalkO q loose XP YP l.row.toRowW d [] (fun f vs=>PySem.call f vs):=by
 have hP':=B7 hP
 refine L2.p8 (n:=63) (k:=n) (x:=x) (CX:=fun _=>CX0) (sp:=fun w=>spF ⟨K w.params⟩ W0 EW0 (aj sub Pd n d.name) 1) hn (by decide) hdf hr hY (fun w mg fa h KX G hmg=>?_) (fun w H a ns hl hO hS=>?_) fun _ _ _ _ _ z=>z
 ·obtain ⟨h1,h2,h3⟩:=hT w h KX
  have T:=mU KX G h1 h2 h3
  obtain ⟨f,fd,a,F⟩:=h1.get (iZ hL)
  have e:=hmg.symm.trans (PySem.W.mg_of KX G a)
  cases e
  refine ⟨fd,fun s u=>?_,fun base kb nb=>?_⟩
  ·obtain ⟨F2,hF2,_⟩:=hP' d.name st hL
   obtain ⟨oc,od,kV,doc,pm,an,cdv,ct,osl,rfl,lk,hcd⟩:=F.ex
   cases st with
   | FunctionDef x1 a1 body1 e1 e2 e3 sc1 e4 e5 e6 =>
    have hF2:(if cC a1 sc1=true then (cH (trS depth depth (eN (d8 fns vals cls) a1 sc1)) body1).map fun b=>(⟨(argNames a1).length,(namesOf a1 sc1).length,b⟩:Fn) else none)=some F2:=hF2
    by_cases hs1:cC a1 sc1=true
    ·obtain ⟨SC1,hpl1⟩:=jP hs1
     have nd1:(argNames a1).Nodup:=by rw [<- SC1.pre]; exact SC1.nd.sublist (List.take_sublist _ _)
     have hx:argNames a1=[x]:=hx
     have:=sR (x:=d.name) (qual:=d.name) (body:=body1) (sc:=sc1) (kV:=kV) (doc:=doc) (pm:=pm) (cdv:=cdv) (ct:=ct) (an:=an) hpl1 nd1 (us:=[u]) (by rw [hx]; rfl)
     rw [hx] at this
     exact .of_eq this
    ·rw [if_neg hs1] at hF2; cases hF2
   | _=>cases hF2
  ·have T':=mU kb nb h1 h2 h3
   have:=Au (sub:=sub) (P:=l.prog) (w:=w) (base:=base) T' CI hP' n d.name st fa fd hL F
   rw [hx] at this
   exact this
 ·obtain ⟨hs,rs⟩:=Ca hO hS
  obtain ⟨S',hm⟩:=hmain ns hl
  refine ⟨rfl,XF,rfl,rfl,[],[],[.fro (ns.map .int)],hs,rs,?_⟩
  rw [hm]
  intro ι' H' _ _ v r
  cases r
  rfl
end EV

namespace EV
open PySem
variable {α β:Type}
noncomputable def Res.bind (r:Res α) (f:α->af->Res β):Res β:=match r with
 | .ok a S=>f a S
 | .exc c S=>.exc c S
 | .bad=>.bad
@[simp] theorem Res.ak (a:α) (S:af) (f:α->af->Res β):(Res.ok a S).bind f=f a S:=id rfl
@[simp] theorem Res.cD (c:Str) (S:af) (f:α->af->Res β):(Res.exc c S:Res α).bind f=.exc c S:=id rfl
@[simp] theorem Res.aU (f:α->af->Res β):(Res.bad:Res α).bind f=.bad:=id rfl
theorem az (m:M α) (f:α->M β) (S:af):(m>>=f) S=(m S).bind fun a S'=>f a S':=by
 rw [b_]; cases m S <;> rfl
@[simp] theorem w_ (a:α) (S:af):(pure a:M α) S=.ok a S:=id rfl
@[simp] theorem gx (b:Bool) (m:M α) (S:af):guard b m S=if b=true then m S else .bad:=by cases b <;> rfl
@[simp] theorem gT (a:α) (S:af):opt (some a) S=.ok a S:=id rfl
@[simp] theorem rE (c:Cell) (S:af):alloc c S=.ok (.loc S.length) (S++[c]):=id rfl
theorem tV (m:M α) (S:af):quiet m S=match m S with|.ok a S'=>.ok a S'|_=>.bad:=rfl
theorem gy {m:M α} {S S':af} {a:α} (h:m S=.ok a S'):quiet m S=.ok a S':=by rw [tV,h]
section
variable (sub:Sub) (cf:Str->List D->M D) (σ:Sg) (S:af)
@[simp] theorem Bw (i:Nat):ev sub cf (.v i) σ S=bg σ i S:=id rfl
@[simp] theorem BE (o:Op2) (a b:E):ev sub cf (.bin o a b) σ S=(ev sub cf a σ S).bind fun x S1=>(ev sub cf b σ S1).bind fun y S2=>opD o x y S2:=by
 show (ev sub cf a σ>>=fun x=>ev sub cf b σ>>=fun y=>opD o x y) S=_
 simp only [az]
@[simp] theorem se (o:Cm) (a b:E):ev sub cf (.cmp o a b) σ S=(ev sub cf a σ S).bind fun x S1=>(ev sub cf b σ S1).bind fun y S2=>cmD o x y S2:=by
 show (ev sub cf a σ>>=fun x=>ev sub cf b σ>>=fun y=>cmD o x y) S=_
 simp only [az]
@[simp] theorem tW (o o':Cm) (a b c:E):ev sub cf (.chn o o' a b c) σ S=(ev sub cf a σ S).bind fun x S1=>(ev sub cf b σ S1).bind fun y S2=>(cmD o x y S2).bind fun r S3=>match r with
  | .bl true=>(ev sub cf c σ S3).bind fun z S4=>cmD o' y z S4
  | .bl false=>.ok (.bl false) S3
  | _=>.bad:=by
 show (ev sub cf a σ>>=fun x=>ev sub cf b σ>>=fun y=>cmD o x y>>=fun r=>match r with|.bl true=>ev sub cf c σ>>=fun z=>cmD o' y z|.bl false=>pure (D.bl false)|_=>bad) S=_
 simp only [az]
 congr 1; funext x S1; congr 1; funext y S2; congr 1; funext r S3
 cases r <;> first|rfl|(rename_i b; cases b <;> simp [az])
@[simp] theorem DJ (a b:E):ev sub cf (.and a b) σ S=(ev sub cf a σ S).bind fun r S1=>match r with|.bl true=>ev sub cf b σ S1|.bl false=>.ok (.bl false) S1|_=>.bad:=by
 show (ev sub cf a σ>>=fun r=>match r with|.bl true=>ev sub cf b σ|.bl false=>pure (D.bl false)|_=>bad) S=_
 rw [az]; congr 1; funext r S1
 cases r <;> first|rfl|(rename_i b; cases b <;> rfl)
@[simp] theorem Ai (a:E):ev sub cf (.neg a) σ S=(ev sub cf a σ S).bind fun r S1=>match r with|.int i=>.ok (.int (-i)) S1|_=>.bad:=by
 show (ev sub cf a σ>>=fun r=>match r with|.int i=>pure (D.int (-i))|_=>bad) S=_
 rw [az]; congr 1; funext r S1; cases r <;> rfl
@[simp] theorem oX (c a b:E):ev sub cf (.ite c a b) σ S=(evT sub cf c σ S).bind fun k S1=>if k=true then ev sub cf a σ S1 else ev sub cf b σ S1:=by
 show (evT sub cf c σ>>=fun k=>if k=true then ev sub cf a σ else ev sub cf b σ) S=_
 rw [az]; congr 1; funext k S1; cases k <;> rfl
@[simp] theorem C5:evs sub cf .nl σ S=.ok [] S:=id rfl
@[simp] theorem l7 (a r:E):evs sub cf (.cs a r) σ S=(ev sub cf a σ S).bind fun x S1=>(evs sub cf r σ S1).bind fun xs S2=>.ok (x::xs) S2:=by
 show (ev sub cf a σ>>=fun x=>evs sub cf r σ>>=fun xs=>pure (x::xs)) S=_
 simp only [az]; rfl
@[simp] theorem Av (es:E):ev sub cf (.tup es) σ S=(evs sub cf es σ S).bind fun ds S1=>if fits ds.length=true then .ok (.tup ds) S1 else .bad:=by
 show (evs sub cf es σ>>=fun ds=>guard (fits ds.length) (pure (D.tup ds))) S=_
 rw [az]; simp only [gx,w_]
@[simp] theorem xN (es:E):ev sub cf (.lst es) σ S=(evs sub cf es σ S).bind fun ds S1=>if fits ds.length=true then .ok (.loc S1.length) (S1++[.lst ds]) else .bad:=by
 show (evs sub cf es σ>>=fun ds=>guard (fits ds.length) (alloc (.lst ds))) S=_
 rw [az]; simp only [gx,rE]
@[simp] theorem wH (a i:E):ev sub cf (.ix a i) σ S=(ev sub cf a σ S).bind fun x S1=>(ev sub cf i σ S1).bind fun y S2=>ixD x y S2:=by
 show (ev sub cf a σ>>=fun x=>ev sub cf i σ>>=fun y=>ixD x y) S=_
 simp only [az]
noncomputable def E1 (e:E) (S:af):Res (Option Int):=if e.bC=true then .ok none S else (ev sub cf e σ S).bind fun d S1=>fR d S1
@[simp] theorem xr (f:Str) (es:E):ev sub cf (.call f es) σ S=(evs sub cf es σ S).bind fun ds S1=>cf f ds S1:=by
 show (evs sub cf es σ>>=fun ds=>cf f ds) S=_
 rw [az]
@[simp] theorem EE (b:Bi) (es:E):ev sub cf (.bi b es) σ S=(evs sub cf es σ S).bind fun ds S1=>biD sub b ds S1:=by
 show (evs sub cf es σ>>=fun ds=>biD sub b ds) S=_
 rw [az]
@[simp] theorem mQ (m:Me) (o es:E):ev sub cf (.me m o es) σ S=(ev sub cf o σ S).bind fun x S1=>if x.eG=true then (evs sub cf es σ S1).bind fun ds S2=>meD m x ds S2 else .bad:=by
 show (ev sub cf o σ>>=fun x=>guard x.eG (evs sub cf es σ>>=fun ds=>meD m x ds)) S=_
 simp only [az,gx]
theorem i_ (k:Nat) (el:E) (t:Tg) (it tt:E):ev sub cf (.comp k el t it tt) σ S=(evI sub cf it σ S).bind fun s S1=>(quiet (bq s (fun d=>aM t d (σ++List.replicate k none)>>=fun σ'=>(if tt.bC=true then pure true else evT sub cf tt σ')>>=fun b=>if b=true then ev sub cf el σ'>>=fun y=>pure (some y) else pure none) s.its) S1).bind fun ys S2=>if fits ys.length=true then .ok (.loc S2.length) (S2++[.lst ys]) else .bad:=by
 show (evI sub cf it σ>>=fun s=>quiet (bq s (fun d=>aM t d (σ++List.replicate k none)>>=fun σ'=>(if tt.bC=true then pure true else evT sub cf tt σ')>>=fun b=>if b=true then ev sub cf el σ'>>=fun y=>pure (some y) else pure none) s.its)>>=fun ys=>guard (fits ys.length) (alloc (.lst ys))) S=_
 simp only [az,gx,rE]
@[simp] theorem rm (a b:E):evT sub cf (.and a b) σ S=(evT sub cf a σ S).bind fun k S1=>if k=true then evT sub cf b σ S1 else .ok false S1:=by
 show (evT sub cf a σ>>=fun k=>if k=true then evT sub cf b σ else pure false) S=_
 rw [az]; congr 1; funext k S1; cases k <;> rfl
@[simp] theorem qF (a b:E):evT sub cf (.or a b) σ S=(evT sub cf a σ S).bind fun k S1=>if k=true then .ok true S1 else evT sub cf b σ S1:=by
 show (evT sub cf a σ>>=fun k=>if k=true then pure true else evT sub cf b σ) S=_
 rw [az]; congr 1; funext k S1; cases k <;> rfl
@[simp] theorem xM (a:E):evT sub cf (.not a) σ S=(evT sub cf a σ S).bind fun k S1=>.ok (!k) S1:=by
 show (evT sub cf a σ>>=fun k=>pure (!k)) S=_
 rw [az]; rfl
@[simp] theorem Dw (o:Cm) (a b:E):evT sub cf (.cmp o a b) σ S=(ev sub cf a σ S).bind fun x S1=>(ev sub cf b σ S1).bind fun y S2=>(cmD o x y S2).bind fun r S3=>truth r S3:=by
 show (ev sub cf a σ>>=fun x=>ev sub cf b σ>>=fun y=>cmD o x y>>=fun r=>truth r) S=_
 simp only [az]
@[simp] theorem vO (a:E):evT sub cf (.notN a) σ S=(ev sub cf a σ S).bind fun r S1=>.ok (!decide (r=.non)) S1:=by
 show (ev sub cf a σ>>=fun r=>pure (!decide (r=.non))) S=_
 rw [az]; rfl
@[simp] theorem wA (f:Str) (es:E):evT sub cf (.call f es) σ S=(ev sub cf (.call f es) σ S).bind fun d S1=>truth d S1:=by
 show (ev sub cf (.call f es) σ>>=truth) S=_
 rw [az]
@[simp] theorem Ct (b:Bi) (es:E):evT sub cf (.bi b es) σ S=(ev sub cf (.bi b es) σ S).bind fun d S1=>truth d S1:=by
 show (ev sub cf (.bi b es) σ>>=truth) S=_
 rw [az]
@[simp] theorem BD (a:E):evI sub cf (.iSeq a) σ S=(ev sub cf a σ S).bind fun d S1=>srcOf d S1:=by
 show (ev sub cf a σ>>=srcOf) S=_
 rw [az]
@[simp] theorem B0 (a:E):evI sub cf (.iZip a) σ S=(evs sub cf a σ S).bind fun ds S1=>fj ds S1:=by
 show (evs sub cf a σ>>=fun ds=>fj ds) S=_
 rw [b_]
 cases evs sub cf a σ S <;> rfl
@[simp] theorem lT (a:E):evI sub cf (.iEnum a) σ S=(ev sub cf a σ S).bind fun d S1=>(srcOf d S1).bind fun s S2=>.ok { s with its:=num 0 s.its } S2:=by
 show (ev sub cf a σ>>=fun d=>srcOf d>>=fun s=>pure { s with its:=num 0 s.its }) S=_
 simp only [az]; rfl
@[simp] theorem yJ (es:E):evI sub cf (.iRng es) σ S=(evs sub cf es σ S).bind fun ds S1=>(opt (bH ds) S1).bind fun is S2=>.ok ⟨is.map .int,none,[]⟩ S2:=by
 show (evs sub cf es σ>>=fun ds=>opt (bH ds)>>=fun is=>pure (⟨is.map .int,none,[]⟩:Src)) S=_
 simp only [az]; rfl
@[simp] theorem zJ (e:E):exec sub cf (.ret e) σ S=(ev sub cf e σ S).bind fun d S1=>.ok (.rt d) S1:=by
 show (ev sub cf e σ>>=fun d=>pure (Fl.rt d)) S=_
 rw [az]; rfl
@[simp] theorem qM (t:Tg) (e:E):exec sub cf (.set t e) σ S=(ev sub cf e σ S).bind fun d S1=>(aM t d σ S1).bind fun σ' S2=>.ok (.nx σ') S2:=by
 show (ev sub cf e σ>>=fun d=>aM t d σ>>=fun σ'=>pure (Fl.nx σ')) S=_
 simp only [az]; rfl
@[simp] theorem qz (e:E):exec sub cf (.ex e) σ S=(ev sub cf e σ S).bind fun _ S1=>.ok (.nx σ) S1:=by
 show (ev sub cf e σ>>=fun _=>pure (Fl.nx σ)) S=_
 rw [az]; rfl
@[simp] theorem qt (c:E) (a b:EV.S):exec sub cf (.ite c a b) σ S=(evT sub cf c σ S).bind fun k S1=>if k=true then exec sub cf a σ S1 else exec sub cf b σ S1:=by
 show (evT sub cf c σ>>=fun k=>if k=true then exec sub cf a σ else exec sub cf b σ) S=_
 rw [az]; congr 1; funext k S1; cases k <;> rfl
theorem yr (t:Tg) (it:E) (b:EV.S):exec sub cf (.forS t it b) σ S=quiet (evI sub cf it σ>>=fun s=>forL s (fun d σ=>aM t d σ>>=fun σ'=>exec sub cf b σ') s.its σ) S:=rfl
noncomputable def ir (b:EV.S) (r:Res Fl):Res Fl:=r.bind fun f S1=>match f with|.nx σ'=>exec sub cf b σ' S1|f=>.ok f S1
@[simp] theorem DS (b:EV.S) (σ':Sg) (S1:af):ir sub cf b (.ok (.nx σ') S1)=exec sub cf b σ' S1:=id rfl
@[simp] theorem sS (b:EV.S) (d:D) (S1:af):ir sub cf b (.ok (.rt d) S1)=.ok (.rt d) S1:=id rfl
@[simp] theorem ni (a b:EV.S):exec sub cf (.seq a b) σ S=ir sub cf b (exec sub cf a σ S):=by
 show (exec sub cf a σ>>=fun f=>match f with|.nx σ'=>exec sub cf b σ'|f=>pure f) S=_
 rw [az]; unfold ir; congr 1; funext f S1; cases f <;> rfl
end
theorem Dd {sub:Sub} {cf:Str->List D->M D} {σ σ':Sg} {S S':af} {a r:EV.S} (h:exec sub cf a σ S=.ok (.nx σ') S'):exec sub cf (.seq a r) σ S=exec sub cf r σ' S':=by
 rw [ni,h,DS]
theorem wD (σ:Sg) (i:Nat) (S:af):bg σ i S=match σ[i]? with|some (some d)=>.ok d S|_=>.bad:=by
 unfold bg
 cases σ[i]? with
 | none=>rfl
 | some x=>cases x <;> rfl
@[simp] theorem ES (d:D) (σ:Sg) (S:af):bg (some d::σ) 0 S=.ok d S:=id rfl
@[simp] theorem E3 (x:Option D) (σ:Sg) (i:Nat) (S:af):bg (x::σ) (i+1) S=bg σ i S:=id rfl
@[simp] theorem iS (i:Nat) (d:D) (σ:Sg) (S:af):aM (.one i) d σ S=.ok (σ.set i (some d)) S:=id rfl
@[simp] theorem lS (is:List Nat) (ds:List D) (σ:Sg) (S:af):aM (.many is) (.tup ds) σ S=if ds.length=is.length then .ok (bQ is ds σ) S else .bad:=by
 show guard (decide (ds.length=is.length)) (pure (bQ is ds σ)) S=_
 simp
@[simp] theorem b8 (i j:Int) (S:af):opD .add (.int i) (.int j) S=.ok (.int (i+j)) S:=id rfl
@[simp] theorem eF (i j:Int) (S:af):opD .sub (.int i) (.int j) S=.ok (.int (i - j)) S:=id rfl
@[simp] theorem Cu (i j:Int) (S:af):opD .mul (.int i) (.int j) S=if (small i||small j)=true then .ok (.int (i * j)) S else .bad:=by
 show guard _ _ S=_
 simp
@[simp] theorem CM (i j:Int) (S:af):opD .fdiv (.int i) (.int j) S=if (decide (0 < j)&&decide (j < 1073741824))=true then .ok (.int (i / j)) S else .bad:=by
 show guard _ _ S=_
 simp
theorem EY (i j:Int) (S:af):opD .pow (.int i) (.int j) S=if (decide (0<=j)&&decide (j<=1000)&&decide (i.natAbs < 2 ^ 64))=true then .ok (.int (i ^ j.toNat)) S else .bad:=by
 show guard _ _ S=_
 simp
@[simp] theorem t9 (i j:Int) (S:af):opD .mod (.int i) (.int j) S=if 0 < j then .ok (.int (i % j)) S else .bad:=by
 show guard _ _ S=_
 simp
@[simp] theorem qN {n:Nat} (h:n<=1000):fits n=true:=decide_eq_true (by unfold aR; omega)
@[simp] theorem lz (i j:Int) (S:af):cmD .lt (.int i) (.int j) S=.ok (.bl (decide (i < j))) S:=id rfl
@[simp] theorem kU (i j:Int) (S:af):cmD .le (.int i) (.int j) S=.ok (.bl (decide (i<=j))) S:=id rfl
@[simp] theorem iE (i j:Int) (S:af):cmD .gt (.int i) (.int j) S=.ok (.bl (decide (j < i))) S:=id rfl
@[simp] theorem EK (i j:Int) (S:af):cmD .ge (.int i) (.int j) S=.ok (.bl (decide (j<=i))) S:=id rfl
theorem ju (x y:D) (S:af):cmD .eq x y S=match eqD deep S x y with|some k=>.ok (.bl k) S|none=>.bad:=by
 show (eqM x y>>=fun b=>pure (D.bl b)) S=_
 rw [az]
 unfold eqM
 cases eqD deep S x y <;> rfl
theorem An (x y:D) (S:af):cmD .ne x y S=if dR x y=true then (match eqD deep S x y with|some k=>.ok (.bl (!k)) S|none=>.bad) else .bad:=by
 show guard (dR x y) (eqM x y>>=fun b=>pure (D.bl (!b))) S=_
 rw [gx,az]
 unfold eqM
 cases eqD deep S x y <;> rfl
@[simp] theorem gA (i j:Int) (S:af):cmD .eq (.int i) (.int j) S=.ok (.bl (i==j)) S:=id rfl
@[simp] theorem jY (i j:Str) (S:af):cmD .eq (.str i) (.str j) S=.ok (.bl (i==j)) S:=id rfl
@[simp] theorem xy (i j:Int) (S:af):cmD .ne (.int i) (.int j) S=.ok (.bl (!(i==j))) S:=id rfl
theorem dW {l:Nat} {ds:List D} {S:af} (h:S[l]?=some (.lst ds)):items (.loc l) S=.ok ds S:=by
 show (match listAt S l with|some ds=>Res.ok ds S|none=>.bad)=_
 unfold listAt; rw [h]
theorem kY (a:D) (j:Int) (S:af):ixD a (.int j) S=(items a S).bind fun xs S1=>opt (atI xs j) S1:=by
 show (items a>>=fun xs=>opt (atI xs j)) S=_
 rw [az]
@[simp] theorem Bd (xs:List D) (j:Int) (S:af):ixD (.tup xs) (.int j) S=opt (atI xs j) S:=by rw [kY]; rfl
@[simp] theorem Ek (xs:List D) (j:Int) (S:af):ixD (.fro xs) (.int j) S=opt (atI xs j) S:=by rw [kY]; rfl
theorem vQ {l:Nat} {xs:List D} {j:Int} {S:af} (h:S[l]?=some (.lst xs)):ixD (.loc l) (.int j) S=opt (atI xs j) S:=by rw [kY,dW h]; rfl
theorem lR {xs:List D} {j:Nat}:atI xs (j:Int)=xs[j]?:=by
 unfold atI ixN
 rw [if_pos (by omega)]
 by_cases h:j < xs.length
 ·rw [if_pos (by omega)]; simp
 ·rw [if_neg (by omega)]; rw [List.getElem?_eq_none (by omega)]; rfl
@[simp] theorem rV (xs:List D):atI xs 0=xs[0]?:=lR (j:=0)
@[simp] theorem kJ (sub:Sub) (d:D) (S:af):biD sub .len [d] S=(items d S).bind fun ds S1=>.ok (.int ds.length) S1:=by
 show (items d>>=fun ds=>pure (D.int ds.length)) S=_
 rw [az]; rfl
@[simp] theorem AO (sub:Sub) (t:Ty) (d:D) (S:af):biD sub (.inst t) [d] S=match eZ sub S d t with|some k=>.ok (.bl k) S|none=>.bad:=id rfl
@[simp] theorem Cy (sub:Sub) (d:D) (S:af):biD sub .tuple [d] S=(items d S).bind fun ds S1=>.ok (.tup ds) S1:=by
 show (items d>>=fun ds=>pure (D.tup ds)) S=_
 rw [az]; rfl
theorem zM (sub:Sub) (d:D) (S:af):biD sub .all [d] S=(items d S).bind fun ds S1=>(opt (cM ds) S1).bind fun bs S2=>.ok (.bl (bs.all id)) S2:=by
 show (items d>>=fun ds=>opt (cM ds)>>=fun bs=>pure (D.bl (bs.all id))) S=_
 simp only [az]; rfl
theorem l6 {l:Nat} {ds:List D} {d:D} {S:af} (h:S[l]?=some (.lst ds)) (hz:ds.length < aR):meD .append (.loc l) [d] S=.ok .non (S.set l (.lst (ds++[d]))):=by
 show aW l (fun ds=>guard (iw ds.length) (put l (.lst (ds++[d])))) S=_
 unfold aW
 rw [h]
 simp [iw,hz,put]
theorem wU {l k:Nat} {ds es:List D} {S:af} (h:S[l]?=some (.lst ds)) (h2:S[k]?=some (.lst es)) (hz:ds.length+es.length<=aR):meD .extend (.loc l) [.loc k] S=.ok .non (S.set l (.lst (ds++es))):=by
 show aW l (fun ds=>aW k fun es=>guard (fits (ds.length+es.length)) (put l (.lst (ds++es)))) S=_
 unfold aW
 rw [h]
 simp only
 rw [h2]
 simp [fits,hz,put]
@[simp] theorem dG (S T:af) (c:Cell):(S++c::T)[S.length]?=some c:=by simp
@[simp] theorem Dr (S T:af) (k:Nat):(S++T)[S.length+k]?=T[k]?:=by
 rw [List.getElem?_append_right (by omega)]; congr 1; omega
@[simp] theorem gM (S T:af) (c d:Cell):(S++c::T).set S.length d=S++d::T:=by simp
@[simp] theorem bL (S T:af):(S++T).take S.length=S:=by simp
theorem vG {S T:af} {xs:List D} {d:D} (h:xs.length<=1000000):meD .append (.loc S.length) [d] (S++.lst xs::T)=.ok .non (S++.lst (xs++[d])::T):=by
 rw [l6 (ds:=xs) (dG S T _) (by unfold aR; omega),gM]
theorem g9 (s:Src) (f:D->Sg->M Fl) (σ:Sg) (S:af):forL s f [] σ S=(aC s S).bind fun _ S1=>.ok (.nx σ) S1:=by
 show (aC s>>=fun _=>pure (Fl.nx σ)) S=_
 rw [az]; rfl
theorem fO (s:Src) (f:D->Sg->M Fl) (d:D) (ds:List D) (σ:Sg) (S:af):forL s f (d::ds) σ S=(aC s S).bind fun _ S1=>(f d σ S1).bind fun fl S2=>match fl with
  | .nx σ'=>forL s f ds σ' S2|.ct σ'=>forL s f ds σ' S2|.bk σ'=>.ok (.nx σ') S2|.rt d=>.ok (.rt d) S2:=by
 show (aC s>>=fun _=>f d σ>>=fun fl=>match fl with|.nx σ'=>forL s f ds σ'|.ct σ'=>forL s f ds σ'|.bk σ'=>pure (Fl.nx σ')|.rt d=>pure (Fl.rt d)) S=_
 simp only [az]
 congr 1; funext _ S1; congr 1; funext fl S2; cases fl <;> rfl
theorem nF (s:Src) (f:D->M (Option D)) (S:af):bq s f [] S=(aC s S).bind fun _ S1=>.ok [] S1:=by
 show (aC s>>=fun _=>pure []) S=_
 rw [az]; rfl
theorem sF (s:Src) (f:D->M (Option D)) (d:D) (ds:List D) (S:af):bq s f (d::ds) S=(aC s S).bind fun _ S1=>(f d S1).bind fun y S2=>(bq s f ds S2).bind fun ys S3=>.ok (match y with|some y=>y::ys|none=>ys) S3:=by
 show (aC s>>=fun _=>f d>>=fun y=>bq s f ds>>=fun ys=>pure (match y with|some y=>y::ys|none=>ys)) S=_
 simp only [az]; rfl
theorem kP {s:Src} {f:D->M (Option D)} {g:D->Option D} {S:af} (hs:aC s S=.ok () S):∀ {its:List D},(∀ d∈its,f d S=.ok (g d) S)->bq s f its S=.ok (its.filterMap g) S
 | [],_=>by rw [nF,hs]; rfl
 | d::ds,h=>by
  rw [sF,hs]
  simp only [Res.ak]
  rw [h d List.mem_cons_self]
  simp only [Res.ak]
  rw [kP hs fun e he=>h e (List.mem_cons_of_mem _ he)]
  simp only [Res.ak,List.filterMap_cons]
  cases g d <;> rfl
theorem zC (S S':af) (d:D):gq S (.ok (.rt d) S')=leave S d S':=rfl
mutual
theorem qQ:∀ {d:D} {n m:Nat},n<=m->d.low n=true->d.low m=true
 | .tup ds,n,m,h,q=>gp h q
 | .fro ds,n,m,h,q=>gp h q
 | .loc l,n,m,h,q=>decide_eq_true (Nat.lt_of_lt_of_le (of_decide_eq_true q) h)
 | .non,_,_,_,_=>rfl
 | .bl _,_,_,_,_=>rfl
 | .int _,_,_,_,_=>rfl
 | .str _,_,_,_,_=>rfl
 | .exn _,_,_,_,_=>rfl
theorem gp:∀ {ds:List D} {n m:Nat},n<=m->D.lows n ds=true->D.lows m ds=true
 | [],_,_,_,_=>rfl
 | d::r,n,m,h,q=>by
  rw [D.lows,Bool.and_eq_true] at q ⊢
  exact ⟨qQ h q.1,gp h q.2⟩
end
abbrev D.cl (d:D):Prop:=d.low 0=true
theorem bw {S S':af} {d:D} (h:d.cl) (ht:S'.take S.length=S):leave S d S'=.ok d S:=by
 unfold leave
 rw [if_pos ht,if_pos (qQ (Nat.zero_le _) h)]
theorem leave_new {S T:af} {ds:List D} {k:Nat} (h:T[k]?=some (.lst ds)) (hc:D.lows 0 ds=true):leave S (.loc (S.length+k)) (S++T)=.ok (.loc S.length) (S++[.lst ds]):=by
 unfold leave
 rw [if_pos (by simp)]
 rw [if_neg (by show ¬ decide (S.length+k < S.length)=true; simp)]
 simp only
 rw [Dr,h]
 simp only
 rw [if_pos (show Cell.low S.length (.lst ds)=true from gp (Nat.zero_le _) hc)]
theorem lQ {n:Nat}:∀ {ds:List D},D.lows n ds=true ↔ ∀ d∈ds,d.low n=true
 | []=>by simp [D.lows]
 | d::r=>by rw [D.lows,Bool.and_eq_true,lQ]; simp
theorem A2 {n:Nat} (is:List Int):D.lows n (is.map .int)=true:=lQ.mpr fun d h=>by
 obtain ⟨i,_,rfl⟩:=List.mem_map.mp h; rfl
theorem i6 {α:Type} {n:Nat} {f:α->D} (hf:∀ a,(f a).low n=true) (l:List α):D.lows n (l.map f)=true:=lQ.mpr fun d h=>by
 obtain ⟨i,_,rfl⟩:=List.mem_map.mp h; exact hf i
theorem vB (is:List Bool):cM (is.map .bl)=some is:=by
 induction is with
 | nil=>rfl
 | cons i r ih=>simp [cM,ih]
section
variable {sub:Sub} {cf:Str->List D->M D} {σ:Sg} {S S1:af} {k i:Nat} {el it tt:E} {s:Src}
theorem BI {g:D->D} {p:D->Bool} (hn:tt.bC=false) (hi:evI sub cf it σ S=.ok s S1) (hs:aC s S1=.ok () S1) (hp:∀ d∈s.its,evT sub cf tt ((σ++List.replicate k none).set i (some d)) S1=.ok (p d) S1)
  (hg:∀ d∈s.its,p d=true->ev sub cf el ((σ++List.replicate k none).set i (some d)) S1=.ok (g d) S1) (hz:s.its.length<=aR) :
  ev sub cf (.comp k el (.one i) it tt) σ S=.ok (.loc S1.length) (S1++[.lst ((s.its.filter p).map g)]):=by
 rw [i_,hi]
 simp only [Res.ak]
 have:=kP (s:=s) (f:=fun d=>aM (.one i) d (σ++List.replicate k none)>>=fun σ'=>(if tt.bC=true then pure true else evT sub cf tt σ')>>=fun b=>if b=true then ev sub cf el σ'>>=fun y=>pure (some y) else pure none) (g:=fun d=>if p d=true then some (g d) else none) (S:=S1) hs (its:=s.its) (fun d hd=>by
  simp only [az,iS,Res.ak,hn,Bool.false_eq_true,if_false]
  rw [hp d hd]
  cases q:p d with
  | false=>simp
  | true=>simp [az,hg d hd q])
 rw [gy this]
 have e:s.its.filterMap (fun d=>if p d=true then some (g d) else none)=(s.its.filter p).map g:=by
  induction s.its with
  | nil=>rfl
  | cons a r ih=>cases q:p a <;> simp [q,ih]
 rw [e]
 have hz':((s.its.filter p).map g).length<=aR:=by
  rw [List.length_map]; exact Nat.le_trans (List.length_filter_le _ _) hz
 simp only [Res.ak]
 rw [if_pos (show fits ((s.its.filter p).map g).length=true from decide_eq_true hz')]
theorem t6 {is:List Nat} {g:D->D} (hi:evI sub cf it σ S=.ok s S1) (hs:aC s S1=.ok () S1) (hg:∀ d∈s.its,∃ ds,d=.tup ds/\ds.length=is.length/\ev sub cf el (bQ is ds (σ++List.replicate k none)) S1=.ok (g d) S1) (hz:s.its.length<=aR) :
  ev sub cf (.comp k el (.many is) it .nl) σ S=.ok (.loc S1.length) (S1++[.lst (s.its.map g)]):=by
 rw [i_,hi]
 simp only [Res.ak]
 have:=kP (s:=s) (f:=fun d=>aM (.many is) d (σ++List.replicate k none)>>=fun σ'=>(if E.bC .nl=true then pure true else evT sub cf .nl σ')>>=fun b=>if b=true then ev sub cf el σ'>>=fun y=>pure (some y) else pure none) (g:=fun d=>some (g d)) (S:=S1) hs (its:=s.its) (fun d hd=>by
  obtain ⟨ds,rfl,hl,hd⟩:=hg d hd
  simp only [az,lS,hl,if_true,Res.ak]
  show (ev sub cf el (bQ is ds (σ++List.replicate k none))>>=fun y=>pure (some y)) S1=_
  rw [az,hd]; rfl)
 rw [gy this]
 have e:s.its.filterMap (fun d=>some (g d))=s.its.map g:=by rw [<- List.filterMap_eq_map]; rfl
 rw [e]
 simp [fits,hz]
end
@[simp] theorem EX (ds:List D) (S:af):srcOf (.tup ds) S=.ok ⟨ds,none,ds⟩ S:=id rfl
theorem jT {l:Nat} {ds:List D} {S:af} (h:S[l]?=some (.lst ds)):srcOf (.loc l) S=.ok ⟨ds,some l,ds⟩ S:=by
 show (items (.loc l)>>=fun ds=>pure (⟨ds,some l,ds⟩:Src)) S=_
 rw [az,dW h]; rfl
theorem qU {sub:Sub} {S:af} {α:Type} (l:List α) (g:α->Bool):biD sub .all [.loc S.length] (S++[.lst (l.map fun a=>.bl (g a))])=.ok (.bl (l.all g)) (S++[.lst (l.map fun a=>.bl (g a))]):=by
 rw [zM,dW (ds:=l.map fun a=>D.bl (g a)) (dG S [] _)]
 simp only [Res.ak]
 rw [show cM (l.map fun a=>D.bl (g a))=some (l.map g) from by rw [<- vB,List.map_map]; rfl]
 simp [List.all_map]
section
variable {sub:Sub} {cf:Str->List D->M D} {σ:Sg} {S S1 S2:af} {t:Tg} {it:E} {b:EV.S} {s:Src} {fl:Fl}
noncomputable def aJ (sub:Sub) (cf:Str->List D->M D) (t:Tg) (b:EV.S):D->Sg->M Fl:=fun d σ=>aM t d σ>>=fun σ'=>exec sub cf b σ'
theorem jX (i:Nat) (b:EV.S) (d:D) (σ:Sg) (S:af):aJ sub cf (.one i) b d σ S=exec sub cf b (σ.set i (some d)) S:=by
 unfold aJ; rw [az]; rfl
theorem BA (is:List Nat) (b:EV.S) (ds:List D) (σ:Sg) (S:af) (h:ds.length=is.length):aJ sub cf (.many is) b (.tup ds) σ S=exec sub cf b (bQ is ds σ) S:=by
 unfold aJ; rw [az,lS,if_pos h]; rfl
theorem bO (hi:evI sub cf it σ S=.ok s S1) (hf:forL s (aJ sub cf t b) s.its σ S1=.ok fl S2):exec sub cf (.forS t it b) σ S=.ok fl S2:=by
 rw [yr]
 apply gy
 rw [az,hi]
 exact hf
end
section
variable {sub:Sub} {cf:Str->List D->M D} {s:Src} {i j l:Nat} {e:E} {g:D->D}
noncomputable def eK (i:Nat) (its:List D) (σ:Sg):Sg:=match its.getLast? with
 | some d=>σ.set i (some d)
 | none=>σ
@[simp] theorem EU (i:Nat) (σ:Sg):eK i [] σ=σ:=id rfl
theorem Bc (i:Nat) (d:D) (its:List D) (σ:Sg):eK i (d::its) σ=eK i its (σ.set i (some d)):=by
 unfold eK
 rw [List.getLast?_cons]
 cases q:its.getLast? with
 | none=>rfl
 | some e=>simp [List.set_set]
theorem gh {α:Type} {S:List α} {l:Nat} {c:α} (h:S[l]?=some c):S.set l c=S:=by
 apply List.ext_getElem?
 intro k
 rw [List.getElem?_set]
 split
 ·rename_i e; subst e
  split
  ·exact h.symm
  ·rename_i h2; exact absurd (List.getElem?_eq_some_iff.mp h).1 h2
 ·rfl
theorem get_set {α:Type} {S:List α} {l:Nat} {c d:α} (h:S[l]?=some c):(S.set l d)[l]?=some d:=by
 rw [List.getElem?_set_self (List.getElem?_eq_some_iff.mp h).1]
theorem Cj {σ:Sg} {S:af} {xs:List D} {d:D} (hj:σ[j]?=some (some (.loc l))) (hS:S[l]?=some (.lst xs)) (he:ev sub cf e σ S=.ok d S) (hz:xs.length < aR) :
  exec sub cf (.ex (.me .append (.v j) (.cs e .nl))) σ S=.ok (.nx σ) (S.set l (.lst (xs++[d]))):=by
 have hv:bg σ j S=.ok (.loc l) S:=by rw [wD,hj]
 simp only [qz,mQ,Bw,hv,Res.ak,D.eG,if_true,l7,he,C5,l6 hS hz]
theorem pS {α:Type} {f g:α->D} (hij:i≠j):∀ {ks:List α} {σ:Sg} {S:af} {xs:List D},σ[j]?=some (some (.loc l))->S[l]?=some (.lst xs)->(∀ ys,aC s (S.set l (.lst ys))=.ok () (S.set l (.lst ys))) ->
  (∀ a∈ks,∀ ys,ev sub cf e (σ.set i (some (f a))) (S.set l (.lst ys))=.ok (g a) (S.set l (.lst ys)))->xs.length+ks.length<=aR ->
  forL s (aJ sub cf (.one i) (.ex (.me .append (.v j) (.cs e .nl)))) (ks.map f) σ S=.ok (.nx (eK i (ks.map f) σ)) (S.set l (.lst (xs++ks.map g)))
 | [],σ,S,xs,h1,h2,h3,h4,h5=>by
  have:=h3 xs
  rw [gh h2] at this
  rw [List.map_nil,g9,this]
  simp [gh h2]
 | d::ks,σ,S,xs,h1,h2,h3,h4,h5=>by
  have hst:=h3 xs
  rw [gh h2] at hst
  rw [List.map_cons,fO,hst]
  simp only [Res.ak,jX]
  have h1':(σ.set i (some (f d)))[j]?=some (some (.loc l)):=by rw [List.getElem?_set_ne hij]; exact h1
  have hd:=h4 d List.mem_cons_self xs
  rw [gh h2] at hd
  rw [Cj h1' h2 hd (by simp at h5; omega)]
  simp only [Res.ak]
  rw [pS hij (xs:=xs++[g d]) h1' (get_set h2) (fun ys=>by rw [List.set_set]; exact h3 ys)
   (fun a ha ys=>by rw [List.set_set,List.set_set]; exact h4 a (List.mem_cons_of_mem _ ha) ys) (by simp at h5 ⊢; omega)]
  rw [Bc,List.set_set,List.map_cons,List.append_assoc]
  rfl
end
theorem BG {i:Nat} {its:List D} {σ:Sg} (h:i < σ.length):∃ x,eK i its σ=σ.set i x:=by
 unfold eK
 cases its.getLast? with
 | some d=>exact ⟨_,rfl⟩
 | none=>exact ⟨σ[i],(gh (List.getElem?_eq_getElem h)).symm⟩
theorem D_ {i:Int} (h1:-1000000000<=i) (h2:i<=1000000000):near i=true:=decide_eq_true ⟨by omega,by omega⟩
theorem EF (j:Int):rng 0 j 1=(List.range j.toNat).map fun (k:Nat)=>(k:Int):=by
 unfold rng
 rw [if_pos (by decide)]
 have:(j - 0+1 - 1) / 1=j:=by rw [Int.ediv_one]; omega
 rw [this]
 simp
theorem C3 {j:Int} (h1:-1000000000<=j) (h2:j<=1000000000):bH [.int j]=some ((List.range j.toNat).map fun (k:Nat)=>(k:Int)):=by
 show (if near j=true then some (rng 0 j 1) else none)=_
 rw [if_pos (D_ h1 h2),EF]
theorem jV {sub:Sub} {cf:Str->List D->M D} {i j l:Nat} {it e:E} {σ:Sg} {S S1:af} {xs:List D} {α:Type} {ks:List α} {f g:α->D} {o:Option Nat} {raw:List D}
  (hit:evI sub cf it σ S=.ok ⟨ks.map f,o,raw⟩ S1) (hj:σ[j]?=some (some (.loc l))) (hS:S1[l]?=some (.lst xs)) (hij:i≠j) (hi:i < σ.length) (hst:∀ ys,aC ⟨ks.map f,o,raw⟩ (S1.set l (.lst ys))=.ok () (S1.set l (.lst ys)))
  (he:∀ a∈ks,∀ ys,ev sub cf e (σ.set i (some (f a))) (S1.set l (.lst ys))=.ok (g a) (S1.set l (.lst ys))) (hz:xs.length+ks.length<=aR) :
  ∃ x,exec sub cf (.forS (.one i) it (.ex (.me .append (.v j) (.cs e .nl)))) σ S=.ok (.nx (σ.set i x)) (S1.set l (.lst (xs++ks.map g))):=by
 obtain ⟨x,hx⟩:=BG (i:=i) (its:=ks.map f) (σ:=σ) hi
 refine ⟨x,?_⟩
 rw [<- hx]
 exact bO hit (pS hij hj hS hst he hz)
theorem mE {S:af} {a b:Nat} {xs ys:List D} (ha:S[a]?=some (.lst xs)) (hb:S[b]?=some (.lst ys)):eqD deep S (.loc a) (.loc b)=if xs.length=ys.length then aY (eqD 11 S) xs ys else some false:=by
 have e1:listAt S a=some xs:=by unfold listAt; rw [ha]
 have e2:listAt S b=some ys:=by unfold listAt; rw [hb]
 show (match listAt S a,listAt S b with|some xs,some ys=>if xs.length=ys.length then aY (eqD 11 S) xs ys else some false|_,_=>none)=_
 rw [e1,e2]
theorem rq {S:af} {a b:Nat} {xs:List D} (ha:S[a]?=some (.lst xs)) (hb:S[b]?=some (.lst [])):cmD .eq (.loc a) (.loc b) S=.ok (.bl xs.isEmpty) S:=by
 rw [ju,mE ha hb]
 cases xs <;> simp [aY]
theorem sO {s:Src} {f:D->Sg->M Fl}:∀ {its:List D} (I:Nat->Sg->af->Prop) {σ:Sg} {S:af},I 0 σ S->(∀ i σ T,I i σ T->aC s T=.ok () T) ->
  (∀ i (h:i < its.length) σ T,I i σ T->∃ σ' T',f its[i] σ T=.ok (.nx σ') T'/\I (i+1) σ' T')->∃ σ' T',forL s f its σ S=.ok (.nx σ') T'/\I its.length σ' T'
 | [],I,σ,S,h0,h1,_=>⟨σ,S,by rw [g9,h1 0 σ S h0]; rfl,h0⟩
 | d::ds,I,σ,S,h0,h1,h2=>by
  obtain ⟨σ1,T1,e1,i1⟩:=h2 0 (by simp) σ S h0
  obtain ⟨σ2,T2,e2,i2⟩:=sO (its:=ds) (fun i=>I (i+1)) i1 (fun i=>h1 (i+1)) fun i hi=>h2 (i+1) (by simpa using hi)
  refine ⟨σ2,T2,?_,i2⟩
  rw [fO,h1 0 σ S h0]
  simp only [Res.ak]
  rw [show f d σ S=.ok (.nx σ1) T1 from e1]
  exact e2
theorem eL {sub:Sub} {cf:Str->List D->M D} {t:Tg} {it:E} {b:EV.S} {σ:Sg} {S S1:af} {s:Src} (I:Nat->Sg->af->Prop) (hi:evI sub cf it σ S=.ok s S1) (h0:I 0 σ S1) (h1:∀ i σ T,I i σ T->aC s T=.ok () T)
  (h2:∀ i (h:i < s.its.length) σ T,I i σ T->∃ σ' T',aJ sub cf t b s.its[i] σ T=.ok (.nx σ') T'/\I (i+1) σ' T'):∃ σ' T',exec sub cf (.forS t it b) σ S=.ok (.nx σ') T'/\I s.its.length σ' T':=by
 obtain ⟨σ',T',e,i⟩:=sO I h0 h1 h2
 exact ⟨σ',T',bO hi e,i⟩
theorem jr {α:Type} {s:Src} {fn:D->M (Option D)} {f:α->D} {g:α->Option D} {S:af} (hs:aC s S=.ok () S):∀ {ks:List α},(∀ a∈ks,fn (f a) S=.ok (g a) S)->bq s fn (ks.map f) S=.ok (ks.filterMap g) S
 | [],_=>by rw [List.map_nil,nF,hs]; rfl
 | d::ds,h=>by
  rw [List.map_cons,sF,hs]
  simp only [Res.ak]
  rw [h d List.mem_cons_self]
  simp only [Res.ak]
  rw [jr hs fun e he=>h e (List.mem_cons_of_mem _ he)]
  simp only [Res.ak,List.filterMap_cons]
  cases g d <;> rfl
theorem kO {sub:Sub} {cf:Str->List D->M D} {σ:Sg} {S S1:af} {k i:Nat} {el it:E} {α:Type} {ks:List α} {f g:α->D} {o:Option Nat} {raw:List D} (hi:evI sub cf it σ S=.ok ⟨ks.map f,o,raw⟩ S1) (hs:aC ⟨ks.map f,o,raw⟩ S1=.ok () S1)
  (hg:∀ a∈ks,ev sub cf el ((σ++List.replicate k none).set i (some (f a))) S1=.ok (g a) S1) (hz:ks.length<=aR) :
  ev sub cf (.comp k el (.one i) it .nl) σ S=.ok (.loc S1.length) (S1++[.lst (ks.map g)]):=by
 rw [i_,hi]
 simp only [Res.ak]
 have:=jr (s:=⟨ks.map f,o,raw⟩) (f:=f) (fn:=fun d=>aM (.one i) d (σ++List.replicate k none)>>=fun σ'=>(if E.bC .nl=true then pure true else evT sub cf .nl σ')>>=fun b=>if b=true then ev sub cf el σ'>>=fun y=>pure (some y) else pure none) (g:=fun a=>some (g a)) (S:=S1) hs (ks:=ks) (fun d hd=>by
  simp only [az,iS,Res.ak]
  show (ev sub cf el ((σ++List.replicate k none).set i (some (f d)))>>=fun y=>pure (some y)) S1=_
  rw [az,hg d hd]; rfl)
 rw [gy this]
 have e:ks.filterMap (fun d=>some (g d))=ks.map g:=by rw [<- List.filterMap_eq_map]; rfl
 rw [e]
 simp only [Res.ak]
 rw [if_pos (show fits (ks.map g).length=true from decide_eq_true (by rw [List.length_map]; exact hz))]
section
variable {sub:Sub} {cf:Str->List D->M D} {σ:Sg} {S:af}
theorem iA {f:D->D->Option Bool}:∀ {xs:List D},(∀ x∈xs,f x x=some true)->aY f xs xs=some true
 | [],_=>rfl
 | x::r,h=>by
  show (match f x x,aY f r r with|some a,some b=>some (a&&b)|_,_=>none)=_
  rw [h x List.mem_cons_self,iA fun y hy=>h y (List.mem_cons_of_mem _ hy)]
  rfl
theorem jH (n:Nat) (i:Int):eqD (n+1) S (.int i) (.int i)=some true:=by
 show some (i==i)=_
 simp
theorem Br (n:Nat) (is:List Int):eqD (n+2) S (.tup (is.map .int)) (.tup (is.map .int))=some true:=by
 show (aY (eqD (n+1) S) (is.map .int) (is.map .int)).map (fun r=>r&&((is.map D.int).length==(is.map D.int).length))=_
 rw [iA fun x hx=>by obtain ⟨i,_,rfl⟩:=List.mem_map.mp hx; exact jH n i]
 simp
end
theorem jl (ds:List D):∀ (k i:Nat) (h:i < (num k ds).length),(num k ds)[i]=.tup [.int ((k+i:Nat):Int),ds[i]'(by have:(num k ds).length=ds.length:=(by clear h; induction ds generalizing k with|nil=>rfl|cons _ _ ih=>simp [num,ih]); omega)]:=by
 induction ds with
 | nil=>intro k i h; simp [num] at h
 | cons d r ih =>
  intro k i h
  cases i with
  | zero=>simp [num]
  | succ i =>
   simp only [num,List.getElem_cons_succ]
   rw [ih (k+1) i (by simpa [num] using h)]
   congr 3
   omega
theorem fF:∀ (ds:List D) (k:Nat),(num k ds).length=ds.length
 | [],_=>rfl
 | _::r,k=>by simp [num,fF r]
end EV

namespace GO
open PySem EV
section
variable {sub:Sub} {cf:Str->List D->M D} {σ σ1:Sg} {S S1 S2 S3:af} {R:Res D} {RF:Res Fl} {x y z d:D} {ds:List D} {a b c r es:E} {u v w:EV.S}
theorem r_v {i:Nat} (h:bg σ i S=.ok d S):ev sub cf (.v i) σ S=.ok d S:=h
theorem r_c:ev sub cf (.c d) σ S=.ok d S:=id rfl
theorem aT {o:Op2} (ha:ev sub cf a σ S=.ok x S1) (hb:ev sub cf b σ S1=.ok y S2) (h:opD o x y S2=R):ev sub cf (.bin o a b) σ S=R:=by rw [BE,ha,Res.ak,hb,Res.ak,h]
theorem aQ {o:Cm} (ha:ev sub cf a σ S=.ok x S1) (hb:ev sub cf b σ S1=.ok y S2) (h:cmD o x y S2=R):ev sub cf (.cmp o a b) σ S=R:=by rw [se,ha,Res.ak,hb,Res.ak,h]
theorem dN (ha:ev sub cf a σ S=.ok (.bl true) S1) (hb:ev sub cf b σ S1=R):ev sub cf (.and a b) σ S=R:=by rw [DJ,ha]; exact hb
theorem zE {i:Int} (ha:ev sub cf a σ S=.ok (.int i) S1):ev sub cf (.neg a) σ S=.ok (.int (-i)) S1:=by rw [Ai,ha]; rfl
theorem EA (hc:evT sub cf c σ S=.ok true S1) (ha:ev sub cf a σ S1=R):ev sub cf (.ite c a b) σ S=R:=by rw [oX,hc,Res.ak,if_pos rfl,ha]
theorem AM (hc:evT sub cf c σ S=.ok false S1) (hb:ev sub cf b σ S1=R):ev sub cf (.ite c a b) σ S=R:=by rw [oX,hc,Res.ak,if_neg (by decide),hb]
theorem ai:evs sub cf .nl σ S=.ok [] S:=id rfl
theorem aa (ha:ev sub cf a σ S=.ok x S1) (hr:evs sub cf r σ S1=.ok ds S2):evs sub cf (.cs a r) σ S=.ok (x::ds) S2:=by rw [l7,ha,Res.ak,hr,Res.ak]
theorem cI (hs:evs sub cf es σ S=.ok ds S1) (hz:fits ds.length=true):ev sub cf (.tup es) σ S=.ok (.tup ds) S1:=by rw [Av,hs,Res.ak,if_pos hz]
theorem cz (hs:evs sub cf es σ S=.ok ds S1) (hz:fits ds.length=true):ev sub cf (.lst es) σ S=.ok (.loc S1.length) (S1++[.lst ds]):=by rw [xN,hs,Res.ak,if_pos hz]
theorem ao (ha:ev sub cf a σ S=.ok x S1) (hb:ev sub cf b σ S1=.ok y S2) (h:ixD x y S2=R):ev sub cf (.ix a b) σ S=R:=by rw [wH,ha,Res.ak,hb,Res.ak,h]
theorem aB {f:Str} (hs:evs sub cf es σ S=.ok ds S1) (h:cf f ds S1=R):ev sub cf (.call f es) σ S=R:=by rw [xr,hs,Res.ak,h]
theorem aN {o:Bi} (hs:evs sub cf es σ S=.ok ds S1) (h:biD sub o ds S1=R):ev sub cf (.bi o es) σ S=R:=by rw [EE,hs,Res.ak,h]
theorem j5 {m:Me} {l:Nat} (ha:ev sub cf a σ S=.ok (.loc l) S1) (hs:evs sub cf es σ S1=.ok ds S2) (h:meD m (.loc l) ds S2=R):ev sub cf (.me m a es) σ S=R:=by
 rw [mQ,ha,Res.ak,if_pos (show (D.loc l).eG=true from rfl),hs,Res.ak,h]
theorem kh {k:Bool} (h:ev sub cf a σ S=.ok (.bl k) S1) (ht:evT sub cf a σ S=(ev sub cf a σ S).bind fun d S1=>truth d S1):evT sub cf a σ S=.ok k S1:=by rw [ht,h]; rfl
theorem bD {f:Str} {k:Bool} (h:ev sub cf (.call f es) σ S=.ok (.bl k) S1):evT sub cf (.call f es) σ S=.ok k S1:=kh h (wA _ _ _ _ _ _)
theorem gP {o:Bi} {k:Bool} (h:ev sub cf (.bi o es) σ S=.ok (.bl k) S1):evT sub cf (.bi o es) σ S=.ok k S1:=kh h (Ct _ _ _ _ _ _)
theorem aO {o:Cm} {k:Bool} (h:ev sub cf (.cmp o a b) σ S=.ok (.bl k) S1):evT sub cf (.cmp o a b) σ S=.ok k S1:=kh h (by
 rw [Dw,se]; cases ev sub cf a σ S <;> simp [Res.bind]; rename_i q Q; cases ev sub cf b σ Q <;> simp [Res.bind])
theorem fP {k:Bool} (ha:evT sub cf a σ S=.ok true S1) (hb:evT sub cf b σ S1=.ok k S2):evT sub cf (.and a b) σ S=.ok k S2:=by rw [rm,ha,Res.ak,if_pos rfl,hb]
theorem iz (ha:evT sub cf a σ S=.ok false S1):evT sub cf (.and a b) σ S=.ok false S1:=by rw [rm,ha,Res.ak,if_neg (by decide)]
theorem DA (ha:evT sub cf a σ S=.ok true S1):evT sub cf (.or a b) σ S=.ok true S1:=by rw [qF,ha,Res.ak,if_pos rfl]
theorem cQ {k:Bool} (ha:evT sub cf a σ S=.ok false S1) (hb:evT sub cf b σ S1=.ok k S2):evT sub cf (.or a b) σ S=.ok k S2:=by rw [qF,ha,Res.ak,if_neg (by decide),hb]
theorem bx {k:Bool} (ha:evT sub cf a σ S=.ok k S1):evT sub cf (.not a) σ S=.ok (!k) S1:=by rw [xM,ha,Res.ak]
theorem t_k {k k':Bool} (h:evT sub cf a σ S=.ok k' S1) (e:k'=k):evT sub cf a σ S=.ok k S1:=by rw [h,e]
theorem Es (h:Nat.ble ds.length 1000=true):fits ds.length=true:=qN (Nat.le_of_ble_eq_true h)
theorem gG {i j:Int} (h:0 < j):opD .mod (.int i) (.int j) S=.ok (.int (i % j)) S:=by rw [t9,if_pos h]
theorem oR {i j:Int} (h:(small i||small j)=true):opD .mul (.int i) (.int j) S=.ok (.int (i * j)) S:=by rw [Cu,if_pos h]
theorem qj {i:Int} (h:-1000000000000 < i/\i < 1000000000000):small i=true:=decide_eq_true ⟨by omega,by omega⟩
theorem j6 {i j:Int} (h:-1000000000000 < i/\i < 1000000000000):opD .mul (.int i) (.int j) S=.ok (.int (i * j)) S:=oR (by rw [qj h,Bool.true_or])
theorem sI {i j:Int} (h:-1000000000000 < j/\j < 1000000000000):opD .mul (.int i) (.int j) S=.ok (.int (i * j)) S:=oR (by rw [qj h,Bool.or_true])
theorem DM {i j:Int} (h:0 < j/\j < 1073741824):opD .fdiv (.int i) (.int j) S=.ok (.int (i / j)) S:=by rw [CM,if_pos (by rw [decide_eq_true h.1,decide_eq_true h.2]; rfl)]
theorem au {xs:List D} {j:Int} (h:atI xs j=some d):ixD (.tup xs) (.int j) S=.ok d S:=by rw [Bd,h,gT]
theorem nE {xs:List D} {j:Int} (h:atI xs j=some d):ixD (.fro xs) (.int j) S=.ok d S:=by rw [Ek,h,gT]
theorem pK {xs:List D} {j:Int} {l:Nat} (hl:S[l]?=some (.lst xs)) (h:atI xs j=some d):ixD (.loc l) (.int j) S=.ok d S:=by rw [vQ hl,h,gT]
theorem cW {xs:List D}:biD sub .len [.tup xs] S=.ok (.int xs.length) S:=by rw [kJ]; rfl
theorem qK {xs:List D}:biD sub .len [.fro xs] S=.ok (.int xs.length) S:=by rw [kJ]; rfl
theorem oU {xs:List D} {l:Nat} (hl:S[l]?=some (.lst xs)):biD sub .len [.loc l] S=.ok (.int xs.length) S:=by rw [kJ,dW hl]; rfl
theorem dH {xs:List D} {l:Nat} (hl:S[l]?=some (.lst xs)):biD sub .tuple [.loc l] S=.ok (.tup xs) S:=by rw [Cy,dW hl]; rfl
theorem gC {t:Ty} {k:Bool} (h:eZ sub S x t=some k):biD sub (.inst t) [x] S=.ok (.bl k) S:=by rw [AO,h]
theorem aS {α:Type} (T:List α) (c:α):(T++[c])[T.length]?=some c:=by simp
theorem iu {T:af} {xs:List D} {j:Int} (h:atI xs j=some d):ixD (.loc T.length) (.int j) (T++[.lst xs])=.ok d (T++[.lst xs]):=pK (aS T _) h
theorem j4 {T:af} {xs:List D}:biD sub .tuple [.loc T.length] (T++[.lst xs])=.ok (.tup xs) (T++[.lst xs]):=dH (aS T _)
theorem CZ {T:af} {xs:List D}:biD sub .len [.loc T.length] (T++[.lst xs])=.ok (.int xs.length) (T++[.lst xs]):=oU (aS T _)
theorem eu {s:Src} (ha:ev sub cf a σ S=.ok x S1) (h:srcOf x S1=.ok s S2):evI sub cf (.iSeq a) σ S=.ok s S2:=by rw [BD,ha,Res.ak,h]
theorem Af {is:List Int} (hs:evs sub cf es σ S=.ok ds S1) (h:bH ds=some is):evI sub cf (.iRng es) σ S=.ok ⟨is.map .int,none,[]⟩ S1:=by rw [yJ,hs,Res.ak,h,gT,Res.ak]
theorem cX {j:Int} {k:Nat} {f:Nat->D} (hs:evs sub cf es σ S=.ok [.int j] S1) (hj:j=(k:Int)) (hk:k<=1000000) (hf:∀ i:Nat,f i=.int (i:Int)):evI sub cf (.iRng es) σ S=.ok ⟨(List.range k).map f,none,[]⟩ S1:=by
 subst hj
 rw [Af hs (C3 (by omega) (by omega)),Int.toNat_natCast,List.map_map,show (D.int ∘ fun k:Nat=>(k:Int))=f from funext fun i=>(hf i).symm]
theorem aL {i:Nat} (h:ev sub cf a σ S=.ok d S1):exec sub cf (.set (.one i) a) σ S=.ok (.nx (σ.set i (some d))) S1:=by rw [qM,h,Res.ak,iS,Res.ak]
theorem xE {is:List Nat} (h:ev sub cf a σ S=.ok (.tup ds) S1) (hl:ds.length=is.length):exec sub cf (.set (.many is) a) σ S=.ok (.nx (bQ is ds σ)) S1:=by rw [qM,h,Res.ak,lS,if_pos hl,Res.ak]
theorem iF (h:ev sub cf a σ S=.ok d S1):exec sub cf (.ex a) σ S=.ok (.nx σ) S1:=by rw [qz,h,Res.ak]
theorem aG (h:ev sub cf a σ S=.ok d S1):exec sub cf (.ret a) σ S=.ok (.rt d) S1:=by rw [zJ,h,Res.ak]
theorem bK (hc:evT sub cf c σ S=.ok true S1) (h:exec sub cf u σ S1=RF):exec sub cf (.ite c u v) σ S=RF:=by rw [qt,hc,Res.ak,if_pos rfl,h]
theorem aI (hc:evT sub cf c σ S=.ok false S1) (h:exec sub cf v σ S1=RF):exec sub cf (.ite c u v) σ S=RF:=by rw [qt,hc,Res.ak,if_neg (by decide),h]
theorem aq (hu:exec sub cf u σ S=.ok (.nx σ1) S1) (h:exec sub cf v σ1 S1=RF):exec sub cf (.seq u v) σ S=RF:=(Dd hu).trans h
theorem cj (hu:exec sub cf u σ S=.ok (.rt d) S1):exec sub cf (.seq u v) σ S=.ok (.rt d) S1:=by rw [ni,hu,sS]
theorem aH:exec sub cf .skip σ S=.ok (.nx σ) S:=id rfl
theorem x_call {P:Prg} {n:Nat} {f:Str} {F:Fn} (hP:P.lookup f=some F) (hl:ds.length=F.par) (hb:exec sub (aj sub P n) F.body (frame F ds) S=.ok (.rt d) S1) (h:leave S d S1=R):aj sub P (n+1) f ds S=R:=by
 rw [nj hP hl,hb,zC,h]
theorem fY {s:Src} {f:D->Sg->M Fl} {ds:List D} (hs:aC s S=.ok () S) (hb:f d σ S=.ok (.nx σ1) S1) (h:forL s f ds σ1 S1=RF):forL s f (d::ds) σ S=RF:=by
 rw [fO,hs,Res.ak,hb]; exact h
theorem cO {i:Nat} (h:exec sub cf u (σ.set i (some d)) S=RF):aJ sub cf (.one i) u d σ S=RF:=(jX i u d σ S).trans h
theorem dS {is:List Nat} (hl:ds.length=is.length) (h:exec sub cf u (bQ is ds σ) S=RF):aJ sub cf (.many is) u (.tup ds) σ S=RF:=(BA is u ds σ S hl).trans h
theorem zW {P:Prg} {n:Nat} {f:Str} {F:Fn} (hP:P.lookup f=some F) (hl:ds.length=F.par) (hb:exec sub (aj sub P n) F.body (frame F ds) S=RF) (h:∃ S',RF=.ok (.rt d) S'/\S'.take S.length=S) (hc:d.cl):aj sub P (n+1) f ds S=.ok d S:=by
 obtain ⟨S',e,ht⟩:=h
 exact x_call hP hl (hb.trans e) (bw hc ht)
end
end GO

namespace RL
open PySem EV GO
noncomputable def jJ:Fn:=⟨3,3,(.seq (.ite (.or (.not (.bi (.inst .int) (.cs (.v 0) .nl))) (.bi (.inst .bool) (.cs (.v 0) .nl)))
  (.ret (.c (.bl false)))
  .skip)
 (.ret (.chn .le .le (.v 1) (.v 0) (.v 2))))⟩
noncomputable def qC:Fn:=⟨1,1,(.ret (.call "is_whole" (.cs (.v 0) (.cs (.c (.int 0)) (.cs (.bin .sub (.c (.int 9973)) (.c (.int 1))) .nl)))))⟩
noncomputable def iH:Fn:=⟨3,3,(.ret (.and (.bi (.inst .tuple) (.cs (.v 0) .nl)) (.chn .le .le (.v 1) (.bi .len (.cs (.v 0) .nl)) (.v 2))))⟩
noncomputable def sJ:Fn:=⟨1,1,(.ret (.and (.call "is_row" (.cs (.v 0) (.cs (.c (.int 2)) (.cs (.c (.int 2)) .nl)))) (.and (.call "is_whole" (.cs (.ix (.v 0) (.c (.int 0))) (.cs (.c (.int 1)) (.cs (.c (.int 3)) .nl)))) (.call "is_whole" (.cs (.ix (.v 0) (.c (.int 1))) (.cs (.c (.int 1)) (.cs (.c (.int 4)) .nl)))))))⟩
noncomputable def rO:Fn:=⟨1,1,(.ret (.and (.call "is_row" (.cs (.v 0) (.cs (.c (.int 1)) (.cs (.c (.int 3)) .nl)))) (.bi .all (.cs (.comp 2 (.call "is_crew" (.cs (.v 2) .nl)) (.one 2) (.iSeq (.v 0)) .nl) .nl))))⟩
noncomputable def n6:Fn:=⟨3,4,(.seq (.ite (.or (.not (.call "is_row" (.cs (.v 0) (.cs (.c (.int 3)) (.cs (.c (.int 3)) .nl))))) (.not (.call "is_whole" (.cs (.ix (.v 0) (.c (.int 2))) (.cs (.c (.int 0)) (.cs (.c (.int 3)) .nl))))))
  (.ret (.c (.bl false)))
  .skip)
 (.seq (.set (.one 3) (.ite (.cmp .eq (.ix (.v 0) (.c (.int 2))) (.c (.int 0))) (.v 1) (.v 2)))
 (.ret (.call "is_whole" (.cs (.ix (.v 0) (.c (.int 1))) (.cs (.c (.int 0)) (.cs (.bin .sub (.v 3) (.c (.int 1))) .nl)))))))⟩
noncomputable def nh:Fn:=⟨4,4,(.seq (.ite (.or (.not (.call "is_row" (.cs (.v 0) (.cs (.c (.int 2)) (.cs (.c (.int 3)) .nl))))) (.not (.bi (.inst .str) (.cs (.ix (.v 0) (.c (.int 0))) .nl))))
  (.ret (.c (.bl false)))
  .skip)
 (.seq (.ite (.cmp .eq (.ix (.v 0) (.c (.int 0))) (.c (.str "work")))
  (.ret (.call "is_work_source" (.cs (.v 0) (.cs (.v 1) (.cs (.v 2) .nl)))))
  .skip)
 (.seq (.ite (.cmp .ne (.bi .len (.cs (.v 0) .nl)) (.c (.int 2)))
  (.ret (.c (.bl false)))
  .skip)
 (.seq (.ite (.cmp .eq (.ix (.v 0) (.c (.int 0))) (.c (.str "input")))
  (.ret (.call "is_whole" (.cs (.ix (.v 0) (.c (.int 1))) (.cs (.c (.int 0)) (.cs (.bin .sub (.v 3) (.c (.int 1))) .nl)))))
  .skip)
 (.ret (.and (.cmp .eq (.ix (.v 0) (.c (.int 0))) (.c (.str "value"))) (.call "is_value" (.cs (.ix (.v 0) (.c (.int 1))) .nl))))))))⟩
noncomputable def sC:Fn:=⟨1,1,(.ret (.and (.call "is_row" (.cs (.v 0) (.cs (.c (.int 3)) (.cs (.c (.int 3)) .nl)))) (.bi .all (.cs (.comp 2 (.call "is_value" (.cs (.v 2) .nl)) (.one 2) (.iSeq (.v 0)) .nl) .nl))))⟩
noncomputable def rW:Fn:=⟨5,6,(.seq (.ite (.not (.call "is_row" (.cs (.v 0) (.cs (.c (.int 5)) (.cs (.c (.int 5)) .nl)))))
  (.ret (.c (.bl false)))
  .skip)
 (.seq (.ite (.or (.not (.call "is_whole" (.cs (.ix (.v 0) (.c (.int 0))) (.cs (.c (.int 0)) (.cs (.bin .sub (.v 4) (.c (.int 1))) .nl))))) (.not (.call "is_whole" (.cs (.ix (.v 0) (.c (.int 1))) (.cs (.c (.int 1)) (.cs (.c (.int 8)) .nl))))))
  (.ret (.c (.bl false)))
  .skip)
 (.seq (.ite (.or (.not (.bi (.inst .str) (.cs (.ix (.v 0) (.c (.int 2))) .nl))) (.cmp .b7 (.ix (.v 0) (.c (.int 2))) (.c (.tup [(.str "plus"),(.str "less"),(.str "times"),(.str "least"),(.str "greatest")]))))
  (.ret (.c (.bl false)))
  .skip)
 (.seq (.set (.one 5) (.ix (.v 0) (.c (.int 3))))
 (.seq (.ite (.or (.not (.call "is_row" (.cs (.v 5) (.cs (.c (.int 1)) (.cs (.c (.int 3)) .nl))))) (.not (.call "are_starts" (.cs (.ix (.v 0) (.c (.int 4))) .nl))))
  (.ret (.c (.bl false)))
  .skip)
 (.ret (.bi .all (.cs (.comp 2 (.call "is_source" (.cs (.v 7) (.cs (.v 1) (.cs (.v 2) (.cs (.v 3) .nl))))) (.one 7) (.iSeq (.v 5)) .nl) .nl))))))))⟩
noncomputable def p6:Fn:=⟨3,4,(.seq (.ite (.not (.call "is_row" (.cs (.v 0) (.cs (.c (.int 1)) (.cs (.c (.int 8)) .nl)))))
  (.ret (.c (.bl false)))
  .skip)
 (.seq (.set (.one 3) (.bi .len (.cs (.v 0) .nl)))
 (.ret (.bi .all (.cs (.comp 3 (.call "is_work" (.cs (.v 6) (.cs (.v 5) (.cs (.v 3) (.cs (.v 1) (.cs (.v 2) .nl)))))) (.many [5,6]) (.iEnum (.v 0)) .nl) .nl)))))⟩
noncomputable def oW:Fn:=⟨2,4,(.seq (.ite (.not (.call "is_row" (.cs (.v 0) (.cs (.c (.int 1)) (.cs (.v 1) .nl)))))
  (.ret (.c (.bl false)))
  .skip)
 (.seq (.set (.one 2) (.c (.int 0)))
 (.seq (.forS (.one 3) (.iSeq (.v 0))
  (.seq (.ite (.not (.call "is_whole" (.cs (.v 3) (.cs (.v 2) (.cs (.bin .sub (.v 1) (.c (.int 1))) .nl)))))
  (.ret (.c (.bl false)))
  .skip)
 (.set (.one 2) (.bin .add (.v 3) (.c (.int 1))))))
 (.ret (.c (.bl true))))))⟩
noncomputable def nq:Fn:=⟨1,1,(.seq (.ite (.not (.call "is_row" (.cs (.v 0) (.cs (.c (.int 4)) (.cs (.c (.int 4)) .nl)))))
  (.ret (.c (.bl false)))
  .skip)
 (.seq (.ite (.or (.not (.call "is_whole" (.cs (.ix (.v 0) (.c (.int 0))) (.cs (.c (.int 0)) (.cs (.c (.int 6)) .nl))))) (.not (.call "are_crews" (.cs (.ix (.v 0) (.c (.int 1))) .nl))))
  (.ret (.c (.bl false)))
  .skip)
 (.ret (.and (.call "are_works" (.cs (.ix (.v 0) (.c (.int 2))) (.cs (.ix (.v 0) (.c (.int 0))) (.cs (.bi .len (.cs (.ix (.v 0) (.c (.int 1))) .nl)) .nl)))) (.call "are_outs" (.cs (.ix (.v 0) (.c (.int 3))) (.cs (.bi .len (.cs (.ix (.v 0) (.c (.int 2))) .nl)) .nl)))))))⟩
noncomputable def mF:Fn:=⟨1,1,(.seq (.ite (.not (.call "is_loop" (.cs (.v 0) .nl)))
  (.rais "NoLoop")
  .skip)
 (.ret (.v 0)))⟩
noncomputable def cP:List Str:=["plus","less","times","least","greatest"]
noncomputable def EZ (S:af):Prop:=∀ (l:Nat) c,S[l]?=some c->∃ ds,c=.lst ds
noncomputable def Has (P:Prg) (x:String) (F:Fn):Prop:=P.lookup (Str.ofString x)=some F
inductive Srs where|val (v:Int)|inp (k:Nat)|wrk (w b:Nat)
noncomputable def Srs.toD:Srs->D
 | .val v=>.tup [.str "value",.int v]
 | .inp k=>.tup [.str "input",.int k]
 | .wrk w b=>.tup [.str "work",.int w,.int b]
structure Wk where
 crew:Nat
 long:Nat
 doing:Str
 srcs:List Srs
 starts:List Int
noncomputable def Wk.toD (w:Wk):D:=.tup [.int w.crew,.int w.long,.str w.doing,.tup (w.srcs.map Srs.toD),.tup (w.starts.map .int)]
structure Lp where
 streams:Nat
 crews:List (Nat × Nat)
 works:List Wk
 outs:List Nat
noncomputable def bW (c:Nat × Nat):D:=.tup [.int c.1,.int c.2]
noncomputable def ah (k:Nat):D:=.int k
noncomputable def Lp.toD (l:Lp):D:=.tup [.int l.streams,.tup (l.crews.map bW),.tup (l.works.map Wk.toD),.tup (l.outs.map ah)]
noncomputable def Srs.WF (own many streams:Nat):Srs->Prop
 | .val v=>0<=v/\v<=9972
 | .inp k=>k < streams
 | .wrk w b=>b<=3/\w < (if b=0 then own else many)
structure Wk.WF (own many streams ncrews:Nat) (w:Wk):Prop where
 crew:w.crew < ncrews
 long:1<=w.long/\w.long<=8
 doing:w.doing∈cP
 some:1<=w.srcs.length/\w.srcs.length<=3
 srcs:∀ s∈w.srcs,s.WF own many streams
 three:w.starts.length=3
 starts:∀ v∈w.starts,0<=v/\v<=9972
noncomputable def dg:Nat->Nat->List Nat->Prop
 | _,_,[]=>True
 | many,least,k::r=>least<=k/\k < many/\dg many (k+1) r
structure Lp.WF (l:Lp):Prop where
 streams:l.streams<=6
 ncrews:1<=l.crews.length/\l.crews.length<=3
 crews:∀ c∈l.crews,(1<=c.1/\c.1<=3)/\(1<=c.2/\c.2<=4)
 nworks:1<=l.works.length/\l.works.length<=8
 works:∀ (i:Nat) w,l.works[i]?=some w->w.WF i l.works.length l.streams l.crews.length
 nouts:1<=l.outs.length
 outs:dg l.works.length 0 l.outs
structure HB (P:Prg):Prop where
 whole:Has P "is_whole" jJ
 value:Has P "is_value" qC
 row:Has P "is_row" iH
 crew:Has P "is_crew" sJ
 crews:Has P "are_crews" rO
 worksource:Has P "is_work_source" n6
 source:Has P "is_source" nh
 starts:Has P "are_starts" sC
 work:Has P "is_work" rW
 works:Has P "are_works" p6
 outs:Has P "are_outs" oW
 loop:Has P "is_loop" nq
 checked:Has P "checked" mF
variable {sub:Sub} {P:Prg} {n:Nat} {S:af}
@[simp] theorem f9 (S T:af) (b:Bool):leave S (.bl b) (S++T)=.ok (.bl b) S:=bw rfl (bL _ _)
@[simp] theorem cR (S:af) (b:Bool):leave S (.bl b) S=.ok (.bl b) S:=bw rfl (List.take_length)
@[simp] theorem lO (S T:af) (b:Int):leave S (.int b) (S++T)=.ok (.int b) S:=bw rfl (bL _ _)
@[simp] theorem k6 (S:af) (b:Int):leave S (.int b) S=.ok (.int b) S:=bw rfl (List.take_length)
theorem short {ds:List D} {k:Int} (h:(ds.length:Int)<=k) (hk:k<=1000):ds.length<=aR:=by unfold aR; omega
theorem qu {σ:Sg} {cf:Str->List D->M D} {a b c:E} {i j k:Int} (ha:ev sub cf a σ S=.ok (.int i) S) (hb:ev sub cf b σ S=.ok (.int j) S) (hc:ev sub cf c σ S=.ok (.int k) S) (h1:i<=j) (h2:j<=k) :
  ev sub cf (.chn .le .le a b c) σ S=.ok (.bl true) S:=by
 rw [tW,ha,Res.ak,hb,Res.ak,kU,Res.ak,decide_eq_true h1]
 show (ev sub cf c σ S).bind _=_
 rw [hc,Res.ak,kU,decide_eq_true h2]
theorem cg (h:Has P "is_whole" jJ) {i lo hi:Int} (h1:lo<=i) (h2:i<=hi):aj sub P (n+1) "is_whole" [.int i,.int lo,.int hi] S=.ok (.bl true) S :=
 x_call h rfl (aq (aI (cQ (bx (k:=true) (gP (aN (aa (r_v rfl) ai) (gC rfl)))) (k:=false) (gP (aN (aa (r_v rfl) ai) (gC rfl)))) aH) (aG (qu (r_v rfl) (r_v rfl) (r_v rfl) h1 h2))) (cR _ _)
theorem qJ (h:HB P) {v:Int} (h1:0<=v) (h2:v<=9972):aj sub P (n+2) "is_value" [.int v] S=.ok (.bl true) S :=
 x_call h.value rfl (aG (aB (aa (r_v rfl) (aa r_c (aa (aT r_c r_c (eF _ _ _)) ai))) (cg h.whole h1 h2))) (cR _ _)
theorem fK (h:Has P "is_row" iH) {ds:List D} {lo hi:Int} (h1:lo<=(ds.length:Int)) (h2:(ds.length:Int)<=hi):aj sub P (n+1) "is_row" [.tup ds,.int lo,.int hi] S=.ok (.bl true) S :=
 x_call h rfl (aG (dN (aN (aa (r_v rfl) ai) (gC rfl)) (qu (r_v rfl) (aN (aa (r_v rfl) ai) cW) (r_v rfl) h1 h2))) (cR _ _)
theorem fu (h:Has P "is_row" iH) {ds:List D} {lo hi:Int} (m:Nat) (hm:ds.length=m) (h1:lo<=(m:Int)) (h2:(m:Int)<=hi):aj sub P (n+1) "is_row" [.tup ds,.int lo,.int hi] S=.ok (.bl true) S :=
 fK h (by rw [hm]; exact h1) (by rw [hm]; exact h2)
theorem Eb (h:HB P) {c:Nat × Nat} (hc:(1<=c.1/\c.1<=3)/\(1<=c.2/\c.2<=4)):aj sub P (n+2) "is_crew" [bW c] S=.ok (.bl true) S :=
 x_call h.crew rfl (aG (dN (aB (aa (r_v rfl) (aa r_c (aa r_c ai))) (fu h.row 2 rfl (by decide) (by decide)))
  (dN (aB (aa (ao (r_v rfl) r_c (au rfl)) (aa r_c (aa r_c ai))) (cg h.whole (Int.ofNat_le.mpr hc.1.1) (Int.ofNat_le.mpr hc.1.2)))
   (aB (aa (ao (r_v rfl) r_c (au rfl)) (aa r_c (aa r_c ai))) (cg h.whole (Int.ofNat_le.mpr hc.2.1) (Int.ofNat_le.mpr hc.2.2)))))) (cR _ _)
theorem jo {cf:Str->List D->M D} {σ:Sg} {i k:Nat} {el a:E} {α:Type} {l:List α} {f:α->D} (ha:ev sub cf a σ S=.ok (.tup (l.map f)) S) (hn:l.length<=1000) (h:∀ x∈l,ev sub cf el ((σ++List.replicate k none).set i (some (f x))) S=.ok (.bl true) S) :
  ∃ T,ev sub cf (.bi .all (.cs (.comp k el (.one i) (.iSeq a) .nl) .nl)) σ S=.ok (.bl true) (S++T):=by
 have hc:=kO (sub:=sub) (cf:=cf) (k:=k) (i:=i) (el:=el) (it:=.iSeq a) (σ:=σ) (S:=S) (S1:=S) (ks:=l) (f:=f) (g:=fun _=>.bl true) (o:=none) (raw:=l.map f) (eu ha rfl) rfl h (by unfold aR; omega)
 refine ⟨[.lst (l.map fun _=>.bl true)],aN (R:=.ok (.bl true) _) (aa hc ai) ((qU l fun _=>true).trans ?_)⟩
 rw [List.all_eq_true.mpr fun _ _=>rfl]
theorem vg (h:HB P) {cs:List (Nat × Nat)} (h1:1<=cs.length) (h2:cs.length<=3) (hc:∀ c∈cs,(1<=c.1/\c.1<=3)/\(1<=c.2/\c.2<=4)):aj sub P (n+3) "are_crews" [.tup (cs.map bW)] S=.ok (.bl true) S:=by
 obtain ⟨T,e⟩:=jo (sub:=sub) (cf:=aj sub P (n+2)) (σ:=[some (.tup (cs.map bW))]) (S:=S) (i:=2) (k:=2) (el:=.call "is_crew" (.cs (.v 2) .nl)) (a:=.v 0) (l:=cs) (f:=bW) (r_v rfl) (by omega) (fun c hm=>aB (aa (r_v rfl) ai) (Eb h (hc c hm)))
 exact x_call h.crews rfl (aG (dN (aB (aa (r_v rfl) (aa r_c (aa r_c ai))) (fK h.row (by rw [List.length_map]; omega) (by rw [List.length_map]; omega))) e)) (f9 _ _ _)
theorem wV (h:HB P) {vs:List Int} (h1:vs.length=3) (hv:∀ v∈vs,0<=v/\v<=9972):aj sub P (n+3) "are_starts" [.tup (vs.map .int)] S=.ok (.bl true) S:=by
 obtain ⟨T,e⟩:=jo (sub:=sub) (cf:=aj sub P (n+2)) (σ:=[some (.tup (vs.map .int))]) (S:=S) (i:=2) (k:=2) (el:=.call "is_value" (.cs (.v 2) .nl)) (a:=.v 0) (l:=vs) (f:=.int) (r_v rfl) (by omega) (fun c hm=>aB (aa (r_v rfl) ai) (qJ h (hv c hm).1 (hv c hm).2))
 exact x_call h.starts rfl (aG (dN (aB (aa (r_v rfl) (aa r_c (aa r_c ai))) (fK h.row (by rw [List.length_map,h1]; decide) (by rw [List.length_map,h1]; decide))) e)) (f9 _ _ _)
theorem DN (h:HB P) {x:D} {w b own many:Nat} (hb:b<=3) (hw:w < (if b=0 then own else many)):aj sub P (n+2) "is_work_source" [.tup [x,.int w,.int b],.int own,.int many] S=.ok (.bl true) S:=by
 have h0:∀ k:Nat,(0:Int)<=(k:Int):=fun k=>Int.natCast_nonneg k
 refine x_call h.worksource rfl (aq (aI (cQ (bx (k:=true) (bD (aB (aa (r_v rfl) (aa r_c (aa r_c ai))) (fu h.row 3 rfl (by decide) (by decide)))))
  (k:=false) (bx (k:=true) (bD (aB (aa (ao (r_v rfl) r_c (au rfl)) (aa r_c (aa r_c ai))) (cg h.whole (h0 b) (Int.ofNat_le.mpr hb)))))) aH)
  (aq (aL (d:=.int ((if b=0 then own else many:Nat):Int)) (S1:=S) ?_) (aG (aB (aa (ao (r_v rfl) r_c (au rfl)) (aa r_c (aa (aT (r_v rfl) r_c (eF _ _ _)) ai))) (cg h.whole (h0 w) (by omega)))))) (cR _ _)
 by_cases z:b=0
 ·rw [if_pos z]; subst z
  exact EA (S1:=S) (aO (aQ (ao (r_v rfl) r_c (au rfl)) r_c (gA _ _ _))) (r_v rfl)
 ·rw [if_neg z]
  exact AM (S1:=S) (t_k (aO (aQ (ao (r_v rfl) r_c (au rfl)) r_c (gA _ _ _))) (beq_false_of_ne (by omega))) (r_v rfl)
theorem v_ (h:HB P) {s:Srs} {own many streams:Nat} (hs:s.WF own many streams):aj sub P (n+3) "is_source" [s.toD,.int own,.int many,.int streams] S=.ok (.bl true) S:=by
 have first:∀ {x:Str} {r:List D} {σ:Sg} (e:bg σ 0 S=.ok (.tup (.str x::r)) S) (m:Nat) (hm:(D.str x::r).length=m) (h1:2<=(m:Int)) (h2:(m:Int)<=3),evT sub (aj sub P (n+2)) (.or (.not (.call "is_row" (.cs (.v 0) (.cs (.c (.int 2)) (.cs (.c (.int 3)) .nl))))) (.not (.bi (.inst .str) (.cs (.ix (.v 0) (.c (.int 0))) .nl)))) σ S=.ok false S:=fun {x r σ} e m hm h1 h2 =>
  cQ (bx (k:=true) (bD (aB (aa (r_v e) (aa r_c (aa r_c ai))) (fu h.row m hm h1 h2)))) (k:=false) (bx (k:=true) (gP (aN (aa (ao (r_v e) r_c (au (d:=.str x) (rV _))) ai) (gC rfl))))
 have word:∀ {x:Str} {r:List D} {σ:Sg} (y:Str) {k:Bool} (e:bg σ 0 S=.ok (.tup (.str x::r)) S) (hk:(x==y)=k),ev sub (aj sub P (n+2)) (.cmp .eq (.ix (.v 0) (.c (.int 0))) (.c (.str y))) σ S=.ok (.bl k) S:=fun y k e hk=>by
  rw [<- hk]; exact aQ (ao (r_v e) r_c (au (rV _))) r_c (jY _ _ _)
 have two:∀ {x y:D} {σ:Sg} (e:bg σ 0 S=.ok (.tup [x,y]) S),evT sub (aj sub P (n+2)) (.cmp .ne (.bi .len (.cs (.v 0) .nl)) (.c (.int 2))) σ S=.ok false S:=fun e =>
  aO (aQ (aN (aa (r_v e) ai) cW) r_c (xy _ _ _))
 cases s with
 | val v =>
  exact x_call h.source rfl (aq (aI (first (x:="value") rfl 2 rfl (by decide) (by decide)) aH) (aq (aI (aO (word "work" (x:="value") rfl (by decide +kernel))) aH) (aq (aI (two rfl) aH) (aq (aI (aO (word "input" (x:="value") rfl (by decide +kernel))) aH)
   (aG (dN (word "value" (x:="value") rfl (by decide +kernel)) (aB (aa (ao (r_v rfl) r_c (au rfl)) ai) (qJ h hs.1 hs.2)))))))) (cR _ _)
 | inp k =>
  have hk:k < streams:=hs
  exact x_call h.source rfl (aq (aI (first (x:="input") rfl 2 rfl (by decide) (by decide)) aH) (aq (aI (aO (word "work" (x:="input") rfl (by decide +kernel))) aH) (aq (aI (two rfl) aH) (cj (bK (aO (word "input" (x:="input") rfl (by decide +kernel)))
   (aG (aB (aa (ao (r_v rfl) r_c (au rfl)) (aa r_c (aa (aT (r_v rfl) r_c (eF _ _ _)) ai))) (cg h.whole (Int.natCast_nonneg k) (by omega))))))))) (cR _ _)
 | wrk w b =>
  exact x_call h.source rfl (aq (aI (first (x:="work") rfl 3 rfl (by decide) (by decide)) aH) (cj (bK (aO (word "work" (x:="work") rfl (by decide +kernel))) (aG (aB (aa (r_v rfl) (aa (r_v rfl) (aa (r_v rfl) ai))) (DN h hs.1 hs.2)))))) (cR _ _)
theorem Eo {x:Str} (h:x∈cP):cmD .b7 (.str x) (.tup [(.str "plus"),(.str "less"),(.str "times"),(.str "least"),(.str "greatest")]) S=.ok (.bl false) S:=by
 have h:x = "plus"\/x = "less"\/x = "times"\/x = "least"\/x = "greatest":=by simpa [cP] using h
 rcases h with rfl|rfl|rfl|rfl|rfl <;> rfl
theorem ze (h:HB P) {w:Wk} {own many streams ncrews:Nat} (hw:w.WF own many streams ncrews):aj sub P (n+4) "is_work" [w.toD,.int own,.int many,.int streams,.int ncrews] S=.ok (.bl true) S:=by
 have hc:=hw.crew
 obtain ⟨T,e⟩:=jo (sub:=sub) (cf:=aj sub P (n+3)) (σ:=[some w.toD,some (.int own),some (.int many),some (.int streams),some (.int ncrews),some (.tup (w.srcs.map Srs.toD))]) (S:=S) (i:=7) (k:=2) (el:=.call "is_source" (.cs (.v 7) (.cs (.v 1) (.cs (.v 2) (.cs (.v 3) .nl))))) (a:=.v 5) (l:=w.srcs) (f:=Srs.toD) (r_v rfl) (by have:=hw.some; omega) (fun s hm=>aB (aa (r_v rfl) (aa (r_v rfl) (aa (r_v rfl) (aa (r_v rfl) ai)))) (v_ h (hw.srcs s hm)))
 refine x_call h.work rfl (aq (aI (bx (k:=true) (bD (aB (aa (r_v rfl) (aa r_c (aa r_c ai))) (fu h.row 5 rfl (by decide) (by decide))))) aH)
  (aq (aI (cQ (bx (k:=true) (bD (aB (aa (ao (r_v rfl) r_c (au rfl)) (aa r_c (aa (aT (r_v rfl) r_c (eF _ _ _)) ai))) (cg h.whole (Int.natCast_nonneg _) (by omega))))) (k:=false)
   (bx (k:=true) (bD (aB (aa (ao (r_v rfl) r_c (au rfl)) (aa r_c (aa r_c ai))) (cg h.whole (Int.ofNat_le.mpr hw.long.1) (Int.ofNat_le.mpr hw.long.2)))))) aH)
  (aq (aI (cQ (bx (k:=true) (gP (aN (aa (ao (r_v rfl) r_c (au rfl)) ai) (gC rfl)))) (aO (aQ (ao (r_v rfl) r_c (au rfl)) r_c (Eo hw.doing)))) aH)
  (aq (aL (ao (r_v rfl) r_c (au rfl)))
  (aq (aI (cQ (bx (k:=true) (bD (aB (aa (r_v rfl) (aa r_c (aa r_c ai))) (fK h.row (ds:=w.srcs.map Srs.toD) ?_ ?_)))) (k:=false) (bx (k:=true) (bD (aB (aa (ao (r_v rfl) r_c (au rfl)) ai) (wV h hw.three hw.starts))))) aH)
  (aG e)))))) (f9 _ _ _)
 ·rw [List.length_map]; have:=hw.some; omega
 ·rw [List.length_map]; have:=hw.some; omega
theorem Du (h:HB P) {ws:List Wk} {streams ncrews:Nat} (h1:1<=ws.length) (h2:ws.length<=8) (hw:∀ (i:Nat) w,ws[i]?=some w->w.WF i ws.length streams ncrews):aj sub P (n+5) "are_works" [.tup (ws.map Wk.toD),.int streams,.int ncrews] S=.ok (.bl true) S:=by
 have hc:=t6 (sub:=sub) (cf:=aj sub P (n+4)) (k:=3) (is:=[5,6]) (el:=.call "is_work" (.cs (.v 6) (.cs (.v 5) (.cs (.v 3) (.cs (.v 1) (.cs (.v 2) .nl)))))) (it:=.iEnum (.v 0))
  (σ:=[some (.tup (ws.map Wk.toD)),some (.int streams),some (.int ncrews),some (.int ws.length)]) (S:=S) (S1:=S) (s:=⟨num 0 (ws.map Wk.toD),none,ws.map Wk.toD⟩) (g:=fun _=>.bl true) rfl rfl (fun d hd=>by
   obtain ⟨i,hi,rfl⟩:=List.mem_iff_getElem.mp hd
   have hi':i < ws.length:=by rw [fF,List.length_map] at hi; exact hi
   refine ⟨_,jl _ 0 i hi,rfl,?_⟩
   rw [List.getElem_map,Nat.zero_add]
   exact aB (aa (r_v rfl) (aa (r_v rfl) (aa (r_v rfl) (aa (r_v rfl) (aa (r_v rfl) ai))))) (ze h (hw i _ (List.getElem?_eq_getElem hi')))) (by unfold aR; rw [fF,List.length_map]; omega)
 have ha:ev sub (aj sub P (n+4)) (.bi .all (.cs (.comp 3 (.call "is_work" (.cs (.v 6) (.cs (.v 5) (.cs (.v 3) (.cs (.v 1) (.cs (.v 2) .nl)))))) (.many [5,6]) (.iEnum (.v 0)) .nl) .nl)) [some (.tup (ws.map Wk.toD)),some (.int streams),some (.int ncrews),some (.int ws.length)] S=.ok (.bl true) (S++[.lst ((num 0 (ws.map Wk.toD)).map fun _=>.bl true)]) :=
  aN (aa hc ai) ((qU _ fun _=>true).trans (by rw [List.all_eq_true.mpr fun _ _=>rfl]))
 refine x_call h.works rfl (aq (aI (bx (k:=true) (bD (aB (aa (r_v rfl) (aa r_c (aa r_c ai))) (fK h.row (ds:=ws.map Wk.toD) ?_ ?_)))) aH)
  (aq (aL (d:=.int ws.length) (S1:=S) ?_) (aG ha))) (f9 _ _ _)
 ·rw [List.length_map]; omega
 ·rw [List.length_map]; omega
 ·have:=cW (sub:=sub) (S:=S) (xs:=ws.map Wk.toD)
  rw [List.length_map] at this
  exact aN (aa (r_v rfl) ai) this
theorem pM (h:HB P) {d0:D} {many:Nat} {s:Src} (hs:∀ T,aC s T=.ok () T):∀ (l:List Nat) (least:Nat) (x:Option D),dg many least l->∃ σ',forL s (aJ sub (aj sub P (n+1)) (.one 3) (.seq (.ite (.not (.call "is_whole" (.cs (.v 3) (.cs (.v 2) (.cs (.bin .sub (.v 1) (.c (.int 1))) .nl))))) (.ret (.c (.bl false))) .skip) (.set (.one 2) (.bin .add (.v 3) (.c (.int 1))))))
   (l.map ah) [some d0,some (.int many),some (.int least),x] S=.ok (.nx σ') S
 | [],least,x,_=>⟨_,by rw [List.map_nil,g9,hs,Res.ak]⟩
 | k::r,least,x,⟨h1,h2,h3⟩=>by
  obtain ⟨σ',e⟩:=pM h hs r (k+1) (some (ah k)) h3
  refine ⟨σ',?_⟩
  rw [List.map_cons,fO,hs,Res.ak,jX,aq (aI (bx (k:=true) (bD (aB (aa (r_v rfl) (aa (r_v rfl) (aa (aT (r_v rfl) r_c (eF _ _ _)) ai))) (cg h.whole (Int.ofNat_le.mpr h1) (by omega))))) aH) (aL (aT (r_v rfl) r_c (b8 _ _ _)))]
  exact e
theorem qA {many:Nat}:∀ {l:List Nat} {least:Nat},dg many least l->least<=many->l.length+least<=many
 | [],_,_,h=>by simpa using h
 | k::r,least,⟨h1,h2,h3⟩,_=>by
  have:=qA h3 (by omega)
  simp only [List.length_cons]; omega
theorem wI (h:HB P) {os:List Nat} {many:Nat} (h1:1<=os.length) (hr:dg many 0 os):aj sub P (n+2) "are_outs" [.tup (os.map ah),.int many] S=.ok (.bl true) S:=by
 have hl:=qA hr (Nat.zero_le _)
 obtain ⟨σ',e⟩:=pM (sub:=sub) (n:=n) (S:=S) (d0:=.tup (os.map ah)) (s:=⟨os.map ah,none,os.map ah⟩) h (fun _=>rfl) os 0 none hr
 exact x_call h.outs rfl (aq (aI (bx (k:=true) (bD (aB (aa (r_v rfl) (aa r_c (aa (r_v rfl) ai))) (fK h.row (ds:=os.map ah) (by rw [List.length_map]; omega) (by rw [List.length_map]; omega))))) aH)
  (aq (aL r_c) (aq (bO (eu (r_v rfl) rfl) e) (aG r_c)))) (cR _ _)
theorem wc (h:HB P) {l:Lp} (hl:l.WF):aj sub P (n+6) "is_loop" [l.toD] S=.ok (.bl true) S:=by
 have e1:=cW (sub:=sub) (S:=S) (xs:=l.crews.map bW)
 have e2:=cW (sub:=sub) (S:=S) (xs:=l.works.map Wk.toD)
 rw [List.length_map] at e1 e2
 exact x_call h.loop rfl (aq (aI (bx (k:=true) (bD (aB (aa (r_v rfl) (aa r_c (aa r_c ai))) (fu h.row 4 rfl (by decide) (by decide))))) aH)
  (aq (aI (cQ (bx (k:=true) (bD (aB (aa (ao (r_v rfl) r_c (au rfl)) (aa r_c (aa r_c ai))) (cg h.whole (Int.natCast_nonneg _) (Int.ofNat_le.mpr hl.streams))))) (k:=false)
   (bx (k:=true) (bD (aB (aa (ao (r_v rfl) r_c (au rfl)) ai) (vg h hl.ncrews.1 hl.ncrews.2 hl.crews))))) aH)
  (aG (dN (aB (aa (ao (r_v rfl) r_c (au rfl)) (aa (ao (r_v rfl) r_c (au rfl)) (aa (aN (aa (ao (r_v rfl) r_c (au rfl)) ai) e1) ai))) (Du h hl.nworks.1 hl.nworks.2 hl.works))
   (aB (aa (ao (r_v rfl) r_c (au rfl)) (aa (aN (aa (ao (r_v rfl) r_c (au rfl)) ai) e2) ai)) (wI h hl.nouts hl.outs)))))) (cR _ _)
end RL

namespace RL
open PySem EV GO
section
local macro_rules|`(tactic| done)=>`(tactic| (first|with_reducible exact r_c|((with_reducible apply r_v); exact rfl)|with_reducible apply aT|with_reducible apply aQ|with_reducible apply ao|with_reducible apply aB|with_reducible exact ai|with_reducible apply aa|with_reducible apply aN|with_reducible apply j5|with_reducible apply cI|with_reducible apply cz|((with_reducible apply Es); exact rfl)|with_reducible apply zE|with_reducible apply bD|with_reducible apply gP|with_reducible apply aO|with_reducible exact b8 _ _ _|with_reducible exact eF _ _ _|((with_reducible apply gG); first|decide|assumption|omega)|((with_reducible apply j6); first|decide|omega)|((with_reducible apply sI); first|decide|omega)|((with_reducible apply DM); decide)|with_reducible exact lz _ _ _|with_reducible exact kU _ _ _|with_reducible exact iE _ _ _|with_reducible exact EK _ _ _|with_reducible exact gA _ _ _|with_reducible exact jY _ _ _|((with_reducible apply iu); assumption)|with_reducible exact j4|with_reducible exact CZ|with_reducible exact cW|with_reducible exact qK|((with_reducible apply au); exact rfl)|with_reducible assumption|((apply gG); first|decide|assumption)|apply gA|apply jY))
noncomputable def qY:Fn:=⟨2,2,(.seq (.ite (.cmp .lt (.v 1) (.bi .len (.cs (.v 0) .nl)))
  (.ret (.ix (.v 0) (.v 1)))
  .skip)
 (.seq (.ite (.cmp .eq (.v 0) (.lst .nl))
  (.ret (.c (.int 0)))
  .skip)
 (.ret (.bin .add (.bin .mul (.ix (.v 0) (.bin .mod (.v 1) (.bi .len (.cs (.v 0) .nl)))) (.c (.int 31))) (.v 1)))))⟩
noncomputable def mz:Fn:=⟨3,4,(.seq (.set (.one 3) (.bin .mod (.bin .mul (.bin .add (.bin .add (.call "_law_cell_at" (.cs (.v 0) (.cs (.v 1) .nl))) (.bin .mul (.c (.int 7919)) (.v 1))) (.c (.int 1))) (.c (.int 48271))) (.c (.int 2147483647))))
 (.ret (.bin .mod (.bin .mod (.bin .add (.bin .add (.bin .mul (.v 3) (.v 3)) (.bin .mul (.c (.int 7)) (.v 3))) (.v 1)) (.c (.int 2147483629))) (.v 2))))⟩
noncomputable def nV:Fn:=⟨5,7,(.seq (.set (.one 5) (.call "_law_mixed" (.cs (.v 0) (.cs (.v 1) (.cs (.c (.int 7)) .nl)))))
 (.seq (.ite (.or (.cmp .eq (.v 5) (.c (.int 0))) (.and (.cmp .eq (.v 5) (.c (.int 1))) (.cmp .eq (.v 2) (.c (.int 0)))))
  (.ret (.tup (.cs (.c (.str "value")) (.cs (.call "_law_mixed" (.cs (.v 0) (.cs (.bin .add (.v 1) (.c (.int 1))) (.cs (.c (.int 9973)) .nl)))) .nl))))
  .skip)
 (.seq (.ite (.cmp .eq (.v 5) (.c (.int 1)))
  (.ret (.tup (.cs (.c (.str "input")) (.cs (.call "_law_mixed" (.cs (.v 0) (.cs (.bin .add (.v 1) (.c (.int 1))) (.cs (.v 2) .nl)))) .nl))))
  .skip)
 (.seq (.set (.one 6) (.call "_law_mixed" (.cs (.v 0) (.cs (.bin .add (.v 1) (.c (.int 1))) (.cs (.v 3) .nl)))))
 (.seq (.ite (.and (.cmp .lt (.v 6) (.v 4)) (.cmp .lt (.v 5) (.c (.int 5))))
  (.ret (.tup (.cs (.c (.str "work")) (.cs (.v 6) (.cs (.c (.int 0)) .nl)))))
  .skip)
 (.ret (.tup (.cs (.c (.str "work")) (.cs (.v 6) (.cs (.bin .add (.c (.int 1)) (.call "_law_mixed" (.cs (.v 0) (.cs (.bin .add (.v 1) (.c (.int 2))) (.cs (.c (.int 3)) .nl))))) .nl))))))))))⟩
noncomputable def nu:Fn:=⟨4,12,(.seq (.set (.many [4,5,6]) (.v 2))
 (.seq (.set (.one 7) (.lst .nl))
 (.seq (.forS (.one 8) (.iRng (.cs (.bin .add (.c (.int 1)) (.call "_law_mixed" (.cs (.v 0) (.cs (.bin .add (.v 1) (.c (.int 2))) (.cs (.c (.int 2)) .nl))))) .nl))
  (.ex (.me .append (.v 7) (.cs (.call "_law_source" (.cs (.v 0) (.cs (.bin .add (.bin .add (.v 1) (.c (.int 3))) (.bin .mul (.c (.int 3)) (.v 8))) (.cs (.v 4) (.cs (.v 6) (.cs (.v 3) .nl)))))) .nl))))
 (.seq (.set (.one 9) (.ix (.lst (.cs (.c (.str "plus")) (.cs (.c (.str "less")) (.cs (.c (.str "times")) (.cs (.c (.str "least")) (.cs (.c (.str "greatest")) .nl)))))) (.call "_law_mixed" (.cs (.v 0) (.cs (.v 1) (.cs (.c (.int 5)) .nl))))))
 (.seq (.set (.one 10) (.bin .add (.c (.int 1)) (.call "_law_mixed" (.cs (.v 0) (.cs (.bin .add (.v 1) (.c (.int 1))) (.cs (.ix (.lst (.cs (.c (.int 2)) (.cs (.c (.int 5)) .nl))) (.call "_law_mixed" (.cs (.v 0) (.cs (.bin .add (.v 1) (.c (.int 2))) (.cs (.c (.int 2)) .nl))))) .nl))))))
 (.seq (.set (.one 11) (.bi .tuple (.cs (.comp 2 (.call "_law_mixed" (.cs (.v 0) (.cs (.bin .add (.v 1) (.v 13)) (.cs (.c (.int 9973)) .nl)))) (.one 13) (.iSeq (.tup (.cs (.c (.int 0)) (.cs (.c (.int 5)) (.cs (.c (.int 6)) .nl))))) .nl) .nl)))
 (.ret (.tup (.cs (.call "_law_mixed" (.cs (.v 0) (.cs (.bin .add (.v 1) (.c (.int 7))) (.cs (.v 5) .nl)))) (.cs (.v 10) (.cs (.v 9) (.cs (.bi .tuple (.cs (.v 7) .nl)) (.cs (.v 11) .nl)))))))))))))⟩
noncomputable def qa:Fn:=⟨3,9,(.seq (.set (.one 3) (.call "_law_mixed" (.cs (.v 0) (.cs (.v 1) (.cs (.c (.int 3)) .nl)))))
 (.seq (.set (.one 4) (.bin .add (.c (.int 1)) (.call "_law_mixed" (.cs (.v 0) (.cs (.bin .add (.v 1) (.c (.int 1))) (.cs (.v 2) .nl))))))
 (.seq (.set (.one 5) (.lst .nl))
 (.seq (.forS (.one 6) (.iRng (.cs (.bin .add (.c (.int 1)) (.call "_law_mixed" (.cs (.v 0) (.cs (.bin .add (.v 1) (.c (.int 2))) (.cs (.c (.int 2)) .nl))))) .nl))
  (.ex (.me .append (.v 5) (.cs (.tup (.cs (.bin .add (.c (.int 1)) (.call "_law_mixed" (.cs (.v 0) (.cs (.bin .add (.bin .add (.v 1) (.c (.int 3))) (.v 6)) (.cs (.c (.int 2)) .nl))))) (.cs (.bin .add (.c (.int 1)) (.bin .fdiv (.call "_law_mixed" (.cs (.v 0) (.cs (.bin .add (.bin .add (.v 1) (.c (.int 5))) (.v 6)) (.cs (.c (.int 5)) .nl)))) (.c (.int 2)))) .nl))) .nl))))
 (.seq (.set (.one 7) (.lst .nl))
 (.seq (.forS (.one 6) (.iRng (.cs (.v 4) .nl))
  (.ex (.me .append (.v 7) (.cs (.call "_law_work" (.cs (.v 0) (.cs (.bin .add (.bin .add (.v 1) (.c (.int 7))) (.bin .mul (.c (.int 9)) (.v 6))) (.cs (.tup (.cs (.v 3) (.cs (.bi .len (.cs (.v 5) .nl)) (.cs (.v 4) .nl)))) (.cs (.v 6) .nl))))) .nl))))
 (.seq (.set (.one 8) (.comp 2 (.v 10) (.one 10) (.iRng (.cs (.v 4) .nl)) (.cmp .gt (.call "_law_mixed" (.cs (.v 0) (.cs (.bin .add (.bin .add (.v 1) (.c (.int 7))) (.v 10)) (.cs (.c (.int 3)) .nl)))) (.c (.int 0)))))
 (.seq (.ite (.cmp .eq (.v 8) (.lst .nl))
  (.set (.one 8) (.lst (.cs (.bin .sub (.v 4) (.c (.int 1))) .nl)))
  .skip)
 (.ret (.tup (.cs (.v 3) (.cs (.bi .tuple (.cs (.v 5) .nl)) (.cs (.bi .tuple (.cs (.v 7) .nl)) (.cs (.bi .tuple (.cs (.v 8) .nl)) .nl))))))))))))))⟩
theorem Srs.cl (s:Srs):s.toD.cl:=by cases s <;> rfl
theorem Wk.cl (w:Wk):w.toD.cl:=by
 show (true&&(true&&(true&&(D.lows 0 (w.srcs.map Srs.toD)&&(D.lows 0 (w.starts.map .int)&&true)))))=true
 rw [i6 Srs.cl,A2]; rfl
theorem Lp.cl (l:Lp):l.toD.cl:=by
 show (true&&(D.lows 0 (l.crews.map bW)&&(D.lows 0 (l.works.map Wk.toD)&&(D.lows 0 (l.outs.map ah)&&true))))=true
 rw [i6 (f:=bW) fun _=>rfl,i6 Wk.cl,i6 (f:=ah) fun _=>rfl]; rfl
theorem sr {sub:Sub} {P:Prg} {n:Nat} {S:af} (h:HB P) {l:Lp} (hw:l.WF):aj sub P (n+7) "checked" [l.toD] S=.ok l.toD S :=
 x_call h.checked rfl (aq (aI (bx (k:=true) (bD (aB (aa (r_v rfl) ai) (wc h hw)))) aH) (aG (r_v rfl))) (bw l.cl List.take_length)
noncomputable def cellAt (ns:List Int) (k:Int):Int:=if k < ns.length then ns.getD k.toNat 0 else if ns.length=0 then 0 else ns.getD (k % (ns.length:Int)).toNat 0 * 31+k
noncomputable def drawn (ns:List Int) (k:Int):Int:=(cellAt ns k+7919 * k+1) * 48271 % 2147483647
noncomputable def mixed (ns:List Int) (k m:Int):Int:=(drawn ns k * drawn ns k+7 * drawn ns k+k) % 2147483629 % m
theorem A9 (ns:List Int) (k:Int) {m:Int} (h:0 < m):0<=mixed ns k m/\mixed ns k m < m:=⟨Int.emod_nonneg _ (by omega),Int.emod_lt_of_pos _ h⟩
structure HG (P:Prg):Prop where
 cell:Has P "_law_cell_at" qY
 mix:Has P "_law_mixed" mz
 source:Has P "_law_source" nV
 work:Has P "_law_work" nu
 loop:Has P "_law_loop" qa
variable {sub:Sub} {P:Prg} {n:Nat} {S:af}
theorem rJ {ns:List Int} {k:Int} (h0:0<=k) (h:k < ns.length):atI (ns.map D.int) k=some (.int (ns.getD k.toNat 0)):=by
 obtain ⟨j,rfl⟩:=Int.eq_ofNat_of_zero_le h0
 rw [lR]
 have hj:j < ns.length:=by omega
 simp [hj]
theorem eq_empty (ns:List Int) (S:af):cmD .eq (.fro (ns.map .int)) (.loc S.length) (S++[.lst []])=.ok (.bl (decide (ns.length=0))) (S++[.lst []]):=by
 rw [ju]
 have:eqD deep (S++[.lst []]) (.fro (ns.map .int)) (.loc S.length)=some (decide (ns.length=0)):=by
  show (match some (ns.map D.int),listAt (S++[.lst []]) S.length with|some xs,some ys=>if xs.length=ys.length then aY _ xs ys else some false|_,_=>none)=_
  have e:listAt (S++[.lst []]) S.length=some []:=by unfold listAt; simp
  rw [e]
  cases ns <;> simp [aY]
 rw [this]
theorem Eg (h:HG P) (ns:List Int) {k:Int} (hk:0<=k):aj sub P (n+1) "_law_cell_at" [.fro (ns.map .int),.int k] S=.ok (.int (cellAt ns k)) S:=by
 have hl:∀ S:af,biD sub .len [.fro (ns.map .int)] S=.ok (.int ns.length) S:=fun S=>by
  have:=qK (sub:=sub) (S:=S) (xs:=ns.map .int)
  rw [List.length_map] at this
  exact this
 have e1:∀ {b:Bool},decide (k < (ns.length:Int))=b->evT sub (aj sub P n) (.cmp .lt (.v 1) (.bi .len (.cs (.v 0) .nl))) [some (.fro (ns.map .int)),some (.int k)] S=.ok b S:=fun e=>t_k (aO (aQ (r_v rfl) (aN (aa (r_v rfl) ai) (hl _)) (lz _ _ _))) e
 have e2:∀ {b:Bool},decide (ns.length=0)=b->evT sub (aj sub P n) (.cmp .eq (.v 0) (.lst .nl)) [some (.fro (ns.map .int)),some (.int k)] S=.ok b (S++[.lst []]):=fun e=>t_k (aO (aQ (r_v rfl) (cz ai rfl) (eq_empty ns S))) e
 unfold cellAt
 by_cases h1:k < ns.length
 ·rw [if_pos h1]
  exact x_call h.cell rfl (cj (bK (e1 (decide_eq_true h1)) (aG (ao (r_v rfl) (r_v rfl) (nE (rJ hk h1)))))) (k6 _ _)
 rw [if_neg h1]
 by_cases h2:ns.length=0
 ·rw [if_pos h2]
  exact x_call h.cell rfl (aq (aI (e1 (decide_eq_false h1)) aH) (cj (bK (e2 (decide_eq_true h2)) (aG r_c)))) (lO _ _ _)
 ·rw [if_neg h2]
  have h3:0 < (ns.length:Int):=by omega
  exact x_call h.cell rfl (aq (aI (e1 (decide_eq_false h1)) aH) (aq (aI (e2 (decide_eq_false h2)) aH) (aG (aT (aT (ao (r_v rfl) (aT (r_v rfl) (aN (aa (r_v rfl) ai) (hl _)) (gG h3)) (nE (rJ (Int.emod_nonneg k (by omega)) (Int.emod_lt_of_pos k h3)))) r_c (sI (by decide))) (r_v rfl) (b8 _ _ _))))) (lO _ _ _)
theorem yY (h:HG P) (ns:List Int) {k m:Int} (hk:0<=k) (hm:0 < m):aj sub P (n+2) "_law_mixed" [.fro (ns.map .int),.int k,.int m] S=.ok (.int (mixed ns k m)) S:=by
 have hc:=Eg (sub:=sub) (n:=n) (S:=S) h ns hk
 have h1:0<=drawn ns k:=Int.emod_nonneg _ (by decide)
 have h2:drawn ns k < 2147483647:=Int.emod_lt_of_pos _ (by decide)
 refine x_call h.mix rfl (aq (aL (d:=.int (drawn ns k)) (S1:=S) ?_) (aG (d:=.int (mixed ns k m)) (S1:=S) ?_)) (bw rfl (by simp)) <;> (repeat' done)
structure Mix (P:Prg) (mx:List Int->Int->Int->Int):Prop where
 ok:∀ {sub:Sub} {n:Nat} {S:af} (ns:List Int) {k m:Int},0<=k->0 < m->aj sub P (n+2) "_law_mixed" [.fro (ns.map .int),.int k,.int m] S=.ok (.int (mx ns k m)) S
 rng:∀ (ns:List Int) (k:Int) {m:Int},0 < m->0<=mx ns k m/\mx ns k m < m
theorem vZ (h:HG P):∃ mx,Mix P mx:=⟨mixed,fun ns _ _ hk hm=>yY h ns hk hm,fun ns k _ h=>A9 ns k h⟩
variable {mx:List Int->Int->Int->Int}
noncomputable def dj (mx:List Int->Int->Int->Int) (ns:List Int) (at':Int) (streams many own:Nat):Srs :=
 if mx ns at' 7=0\/(mx ns at' 7=1/\streams=0) then .val (mx ns (at' + 1) 9973)
 else if mx ns at' 7=1 then .inp (mx ns (at' + 1) streams).toNat
 else if (mx ns (at' + 1) many).toNat < own/\mx ns at' 7 < 5 then .wrk (mx ns (at' + 1) many).toNat 0
 else .wrk (mx ns (at' + 1) many).toNat (1+mx ns (at' + 2) 3).toNat
theorem CA (S:af) (s:Srs):leave S s.toD S=.ok s.toD S:=bw s.cl (by simp)
theorem toNat_cast {i:Int} (h:0<=i):((i.toNat:Nat):Int)=i:=Int.toNat_of_nonneg h
theorem wQ (h:HG P) (M:Mix P mx) (ns:List Int) {at':Int} {streams many own:Nat} (hat:0<=at') (hm:0 < many):aj sub P (n+3) "_law_source" [.fro (ns.map .int),.int at',.int streams,.int many,.int own] S=.ok (dj mx ns at' streams many own).toD S:=by
 have hm':(0:Int) < many:=by omega
 have a1:0<=at' + 1:=by omega
 have a2:0<=at' + 2:=by omega
 have m0:=M.ok (sub:=sub) (n:=n) (S:=S) ns (k:=at') (m:=7) hat (by decide)
 have r3:=M.rng ns (at' + 1) hm'
 have m1:=M.ok (sub:=sub) (n:=n) (S:=S) ns (k:=at' + 1) (m:=9973) a1 (by decide)
 have m3:=M.ok (sub:=sub) (n:=n) (S:=S) ns (k:=at' + 1) (m:=many) a1 hm'
 have m4:=M.ok (sub:=sub) (n:=n) (S:=S) ns (k:=at' + 2) (m:=3) a2 (by decide)
 have r4:=M.rng ns (at' + 2) (show (0:Int) < 3 by decide)
 unfold dj
 generalize hw:mx ns at' 7=w at m0
 refine x_call (S1:=S) h.source rfl (aq (aL (d:=.int w) (S1:=S) (by (repeat' done))) ?_) (CA S _)
 by_cases w0:w=0\/(w=1/\streams=0)
 ·rw [if_pos w0]
  refine cj (bK (S1:=S) ?_ (show _=Res.ok (Fl.rt (.tup [.str "value",.int _])) S from aG (by (repeat' done))))
  rcases w0 with rfl|⟨rfl,rfl⟩
  ·exact DA (t_k (by (repeat' done)) rfl)
  ·exact cQ (t_k (S1:=S) (by (repeat' done)) rfl) (fP (t_k (S1:=S) (by (repeat' done)) rfl) (t_k (by (repeat' done)) rfl))
 ·rw [if_neg w0]
  refine aq (aI (S1:=S) ?_ aH) ?_
  ·by_cases z:w=0
   ·exact (w0 (.inl z)).elim
   ·by_cases z1:w=1
    ·have hs2:¬ (streams=0):=fun q=>w0 (.inr ⟨z1,q⟩)
     exact cQ (t_k (S1:=S) (by (repeat' done)) (beq_false_of_ne z)) (fP (t_k (S1:=S) (by (repeat' done)) (beq_iff_eq.mpr z1)) (t_k (by (repeat' done)) (by simp [hs2])))
    ·exact cQ (t_k (S1:=S) (by (repeat' done)) (beq_false_of_ne z)) (iz (t_k (by (repeat' done)) (beq_false_of_ne z1)))
  ·by_cases w1:w=1
   ·have hs':(0:Int) < streams:=by have:¬ streams=0:=fun q=>w0 (.inr ⟨w1,q⟩); omega
    have m2:=M.ok (sub:=sub) (n:=n) (S:=S) ns (k:=at' + 1) (m:=streams) a1 hs'
    have r2:=toNat_cast (M.rng ns (at' + 1) hs').1
    rw [if_pos w1]
    refine cj (bK (S1:=S) (t_k (by (repeat' done)) (beq_iff_eq.mpr w1)) ?_)
    show _=Res.ok (Fl.rt (.tup [.str "input",.int _])) S
    rw [r2]
    exact aG (by (repeat' done))
   ·rw [if_neg w1]
    have t3:=toNat_cast r3.1
    generalize hv:mx ns (at' + 1) many=v at m3 r3 t3
    refine aq (aI (S1:=S) (t_k (by (repeat' done)) (beq_false_of_ne w1)) aH) (aq (aL (d:=.int v) (S1:=S) (by (repeat' done))) ?_)
    by_cases w2:v.toNat < own/\w < 5
    ·rw [if_pos w2]
     refine cj (bK (S1:=S) (fP (t_k (S1:=S) (by (repeat' done)) (decide_eq_true (by omega))) (t_k (by (repeat' done)) (decide_eq_true w2.2))) ?_)
     show _=Res.ok (Fl.rt (.tup [.str "work",.int _,.int 0])) S
     rw [t3]
     exact aG (by (repeat' done))
    ·rw [if_neg w2]
     refine aq (aI (S1:=S) ?_ aH) ?_
     ·by_cases w3:v < own
      ·exact fP (t_k (S1:=S) (by (repeat' done)) (decide_eq_true w3)) (t_k (by (repeat' done)) (decide_eq_false fun z=>w2 ⟨by omega,z⟩))
      ·exact iz (t_k (by (repeat' done)) (decide_eq_false w3))
     ·show _=Res.ok (Fl.rt (.tup [.str "work",.int _,.int _])) S
      rw [t3,toNat_cast (show 0<=1+mx ns (at' + 2) 3 by omega)]
      exact aG (by (repeat' done))
theorem xR (M:Mix P mx) (ns:List Int) (at':Int) {streams many own:Nat} (hm:0 < many):(dj mx ns at' streams many own).WF own many streams:=by
 have r1:=M.rng ns (at' + 1) (show (0:Int) < 9973 by decide)
 have r3:=M.rng ns (at' + 1) (show (0:Int) < many by omega)
 have r4:=M.rng ns (at' + 2) (show (0:Int) < 3 by decide)
 unfold dj
 by_cases w0:mx ns at' 7=0\/(mx ns at' 7=1/\streams=0)
 ·rw [if_pos w0]; exact ⟨r1.1,by omega⟩
 ·rw [if_neg w0]
  by_cases w1:mx ns at' 7=1
  ·rw [if_pos w1]
   have hs:streams≠0:=fun z=>w0 (.inr ⟨w1,z⟩)
   have r2:=M.rng ns (at' + 1) (show (0:Int) < streams by omega)
   show _ < streams
   omega
  ·rw [if_neg w1]
   split
   ·rename_i h; exact ⟨by omega,by simpa using h.1⟩
   ·refine ⟨by omega,?_⟩
    rw [if_neg (by omega)]
    omega
noncomputable def b9 (i:Int):Int:=if i=0 then 2 else 5
noncomputable def cJ (mx:List Int->Int->Int->Int) (ns:List Int) (at':Int) (streams ncrews many own:Nat):Wk where
 crew:=(mx ns (at' + 7) ncrews).toNat
 long:=(1+mx ns (at' + 1) (b9 (mx ns (at' + 2) 2))).toNat
 doing:=cP.getD (mx ns at' 5).toNat "plus"
 srcs:=(List.range (1+mx ns (at' + 2) 2).toNat).map fun (k:Nat)=>dj mx ns (at' + 3+3 * (k:Int)) streams many own
 starts:=[mx ns (at' + 0) 9973,mx ns (at' + 5) 9973,mx ns (at' + 6) 9973]
theorem dF (k:Nat):ah k=.int (k:Int):=rfl
theorem DE {i:Int} (h:0<=i/\i < 2):atI [D.int 2,D.int 5] i=some (.int (b9 i)):=by
 rcases (show i=0\/i=1 by omega) with rfl|rfl <;> rfl
theorem DH {i:Int} (h:0<=i/\i < 5):atI [D.str "plus",D.str "less",D.str "times",D.str "least",D.str "greatest"] i=some (.str (cP.getD i.toNat "plus")):=by
 obtain ⟨k,rfl⟩:=Int.eq_ofNat_of_zero_le h.1
 rw [lR]
 have hk:k < 5:=by omega
 exact (by decide:∀ k:Fin 5,[D.str "plus",D.str "less",D.str "times",D.str "least",D.str "greatest"][k.1]?=some (.str (cP.getD ((k.1:Nat):Int).toNat "plus"))) ⟨k,hk⟩
theorem w6 (h:HG P) (M:Mix P mx) (ns:List Int) {at':Int} {streams ncrews many own:Nat} (hat:0<=at') (hm:0 < many) (hc:0 < ncrews) :
  aj sub P (n+4) "_law_work" [.fro (ns.map .int),.int at',.tup [.int streams,.int ncrews,.int many],.int own] S=.ok (cJ mx ns at' streams ncrews many own).toD S:=by
 have r2:=M.rng ns (at' + 2) (show (0:Int) < 2 by decide)
 have rl:0 < b9 (mx ns (at' + 2) 2):=by unfold b9; split <;> decide
 have hn:(0:Int) < ncrews:=by omega
 have m (k m:Int) (hk:0<=k) (hm:0 < m) (S:af):aj sub P (n+3) "_law_mixed" [.fro (ns.map .int),.int k,.int m] S=.ok (.int (mx ns k m)) S:=M.ok ns hk hm
 have m2:=m (at' + 2) 2 (by omega) (by decide)
 have m0:=m at' 5 hat (by decide)
 have m7:=m (at' + 7) ncrews (by omega) hn
 have m1:=m (at' + 1) (b9 (mx ns (at' + 2) 2)) (by omega) rl
 have hw:=DH (M.rng ns at' (show (0:Int) < 5 by decide))
 have h25:=DE r2
 have val:(cJ mx ns at' streams ncrews many own).toD=.tup [.int (mx ns (at' + 7) ncrews),.int (1+mx ns (at' + 1) (b9 (mx ns (at' + 2) 2))),.str (cP.getD (mx ns at' 5).toNat "plus"),
   .tup ((List.range (1+mx ns (at' + 2) 2).toNat).map fun (k:Nat)=>(dj mx ns (at' + 3+3 * (k:Int)) streams many own).toD),.tup [.int (mx ns (at' + 0) 9973),.int (mx ns (at' + 5) 9973),.int (mx ns (at' + 6) 9973)]]:=by
  have e1:=toNat_cast (M.rng ns (at' + 7) hn).1
  have e2:=toNat_cast (i:=1+mx ns (at' + 1) (b9 (mx ns (at' + 2) 2))) (by have:=M.rng ns (at' + 1) rl; omega)
  unfold cJ Wk.toD
  rw [e1,e2,List.map_map]; rfl
 have hcl:=(cJ mx ns at' streams ncrews many own).cl
 rw [val] at hcl ⊢
 generalize hq:(1+mx ns (at' + 2) 2).toNat=q at hcl
 have hq':(1+mx ns (at' + 2) 2)=(q:Int):=by omega
 obtain ⟨x,loop⟩:=jV (sub:=sub) (cf:=aj sub P (n+3)) (i:=8) (j:=7) (l:=S.length)
   (it:=.iRng (.cs (.bin .add (.c (.int 1)) (.call "_law_mixed" (.cs (.v 0) (.cs (.bin .add (.v 1) (.c (.int 2))) (.cs (.c (.int 2)) .nl))))) .nl))
   (e:=.call "_law_source" (.cs (.v 0) (.cs (.bin .add (.bin .add (.v 1) (.c (.int 3))) (.bin .mul (.c (.int 3)) (.v 8))) (.cs (.v 4) (.cs (.v 6) (.cs (.v 3) .nl))))))
   (σ:=[some (.fro (ns.map .int)),some (.int at'),some (.tup [.int streams,.int ncrews,.int many]),some (.int own),some (.int streams),some (.int ncrews),some (.int many),some (.loc S.length),none,none,none,none])
   (S:=S++[.lst []]) (S1:=S++[.lst []]) (xs:=[]) (ks:=List.range q) (f:=ah) (g:=fun (k:Nat)=>(dj mx ns (at' + 3+3 * (k:Int)) streams many own).toD) (o:=none) (raw:=[])
   (cX (by (repeat' (first|done|with_reducible exact m2 _))) hq' (by omega) dF) rfl (aS _ _) (by decide) (Nat.lt_of_sub_pos (by exact Nat.succ_pos 3)) (fun _=>rfl)
   (fun k _ ys=>by
    have:=wQ (sub:=sub) (n:=n) (S:=List.set (S++[.lst []]) S.length (.lst ys)) h M ns (at':=at' + 3+3 * (k:Int)) (streams:=streams) (many:=many) (own:=own) (by omega) hm
    rw [dF]
    (repeat' done)) (by unfold aR; rw [List.length_range,List.length_nil]; omega)
 rw [gM,List.nil_append] at loop
 have comp:∀ (y:Option D) (d1 d2:D) (T:af),ev sub (aj sub P (n+3)) (.comp 2 (.call "_law_mixed" (.cs (.v 0) (.cs (.bin .add (.v 1) (.v 13)) (.cs (.c (.int 9973)) .nl)))) (.one 13) (.iSeq (.tup (.cs (.c (.int 0)) (.cs (.c (.int 5)) (.cs (.c (.int 6)) .nl))))) .nl)
   [some (.fro (ns.map .int)),some (.int at'),some (.tup [.int streams,.int ncrews,.int many]),some (.int own),some (.int streams),some (.int ncrews),some (.int many),some (.loc S.length),y,some d1,some d2,none] T =
   .ok (.loc T.length) (T++[.lst [.int (mx ns (at' + 0) 9973),.int (mx ns (at' + 5) 9973),.int (mx ns (at' + 6) 9973)]]):=fun y d1 d2 T =>
  kO (ks:=[0,5,6]) (f:=D.int) (g:=fun k=>.int (mx ns (at' + k) 9973)) (eu (x:=.tup [.int 0,.int 5,.int 6]) (by (repeat' done)) rfl) rfl (fun k hk=>by
   have hk:0<=k:=by
    have:k=0\/k=5\/k=6:=by simpa using hk
    omega
   have:=m (at' + k) 9973 (by omega) (by decide) T
   (repeat' done)) (by decide)
 have go:∀ (T:af),(S++.lst ((List.range q).map fun (k:Nat)=>(dj mx ns (at' + 3+3 * (k:Int)) streams many own).toD)::T)[S.length]?=some (.lst ((List.range q).map fun (k:Nat)=>(dj mx ns (at' + 3+3 * (k:Int)) streams many own).toD)):=fun T=>dG S T _
 refine x_call h.work rfl (aq (xE (ds:=[.int streams,.int ncrews,.int many]) (r_v rfl) rfl) (aq (aL (cz ai rfl)) (aq loop (aq (aL (by (repeat' (first|done|with_reducible exact m0 _))))
  (aq (aL (by (repeat' (first|done|with_reducible exact m2 _|with_reducible exact m1 _)))) (aq (aL (aN (aa (comp _ _ _ _) ai) j4)) (aG (cI (aa (by (repeat' (first|done|with_reducible exact m7 _))) (aa (r_v rfl) (aa (r_v rfl) (aa (aN (aa (r_v rfl) ai) (dH (by rw [List.append_assoc,List.append_assoc,List.append_assoc]; exact go _))) (aa (r_v rfl) ai))))) rfl)))))))) (bw hcl (by rw [List.append_assoc,List.append_assoc,List.append_assoc]; exact bL _ _))
theorem Bp (M:Mix P mx) (ns:List Int) (at':Int) {streams ncrews many own:Nat} (hm:0 < many) (hc:0 < ncrews):(cJ mx ns at' streams ncrews many own).WF own many streams ncrews:=by
 have r2:=M.rng ns (at' + 2) (show (0:Int) < 2 by decide)
 have r5:=M.rng ns at' (show (0:Int) < 5 by decide)
 have rl:0 < b9 (mx ns (at' + 2) 2)/\b9 (mx ns (at' + 2) 2)<=5:=by unfold b9; split <;> decide
 have r1:=M.rng ns (at' + 1) rl.1
 have r7:=M.rng ns (at' + 7) (show (0:Int) < ncrews by omega)
 refine ⟨?_,⟨?_,?_⟩,?_,⟨?_,?_⟩,fun s hs=>?_,rfl,fun v hv=>?_⟩
 ·show (mx ns (at' + 7) ncrews).toNat < ncrews; omega
 ·show 1<=(1+mx ns (at' + 1) (b9 (mx ns (at' + 2) 2))).toNat; omega
 ·show (1+mx ns (at' + 1) (b9 (mx ns (at' + 2) 2))).toNat<=8; omega
 ·show cP.getD (mx ns at' 5).toNat "plus"∈cP
  rw [List.getD_eq_getElem?_getD,List.getElem?_eq_getElem (show (mx ns at' 5).toNat < cP.length by show _ < 5; omega)]
  exact List.getElem_mem _
 ·show 1<=((List.range (1+mx ns (at' + 2) 2).toNat).map _).length
  rw [List.length_map,List.length_range]; omega
 ·show ((List.range (1+mx ns (at' + 2) 2).toNat).map _).length<=3
  rw [List.length_map,List.length_range]; omega
 ·obtain ⟨k,_,rfl⟩:=List.mem_map.mp hs
  exact xR M ns _ hm
 ·have:∀ k,0<=mx ns k 9973/\mx ns k 9973<=9972:=fun k=>by have:=M.rng ns k (show (0:Int) < 9973 by decide); omega
  have hv:v∈[mx ns (at' + 0) 9973,mx ns (at' + 5) 9973,mx ns (at' + 6) 9973]:=hv
  simp at hv
  rcases hv with rfl|rfl|rfl <;> exact this _
noncomputable def fm (mx:List Int->Int->Int->Int) (ns:List Int) (at':Int) (k:Nat):Nat × Nat:=((1+mx ns (at' + 3+(k:Int)) 2).toNat,(1+mx ns (at' + 5+(k:Int)) 5 / 2).toNat)
noncomputable def b5 (mx:List Int->Int->Int->Int) (ns:List Int) (at':Int) (many:Nat):List Nat:=(List.range many).filter fun k=>decide (0 < mx ns (at' + 7+(k:Int)) 3)
noncomputable def cy (mx:List Int->Int->Int->Int) (ns:List Int) (at' most:Int):Lp where
 streams:=(mx ns at' 3).toNat
 crews:=(List.range (1+mx ns (at' + 2) 2).toNat).map (fm mx ns at')
 works:=(List.range (1+mx ns (at' + 1) most).toNat).map fun (k:Nat)=>cJ mx ns (at' + 7+9 * (k:Int)) (mx ns at' 3).toNat (1+mx ns (at' + 2) 2).toNat (1+mx ns (at' + 1) most).toNat k
 outs:=if b5 mx ns at' (1+mx ns (at' + 1) most).toNat=[] then [(1+mx ns (at' + 1) most).toNat - 1] else b5 mx ns at' (1+mx ns (at' + 1) most).toNat
theorem wJ (M:Mix P mx) (ns:List Int) {at' most:Int} {nc many:Nat} {os:List Nat} (hq:(1+mx ns (at' + 2) 2).toNat=nc) (hw:(1+mx ns (at' + 1) most).toNat=many) (ho:(if b5 mx ns at' many=[] then [many - 1] else b5 mx ns at' many)=os):(cy mx ns at' most).toD =
  .tup [.int (mx ns at' 3),.tup ((List.range nc).map fun (k:Nat)=>bW (fm mx ns at' k)),.tup ((List.range many).map fun (k:Nat)=>(cJ mx ns (at' + 7+9 * (k:Int)) (mx ns at' 3).toNat nc many k).toD),.tup (os.map ah)]:=by
 have e0:=toNat_cast (M.rng ns at' (show (0:Int) < 3 by decide)).1
 unfold cy Lp.toD
 simp only [hq,hw,ho,e0,List.map_map]
 rfl
theorem A7 (h:HG P) (M:Mix P mx) (ns:List Int) {at' most:Int} (hat:0<=at') (hmo:0 < most) (hmo2:most<=8) :
  aj sub P (n+5) "_law_loop" [.fro (ns.map .int),.int at',.int most] S=.ok (cy mx ns at' most).toD S:=by
 have r1:=M.rng ns (at' + 1) hmo
 have r2:=M.rng ns (at' + 2) (show (0:Int) < 2 by decide)
 have m (k m:Int) (hk:0<=k) (hm:0 < m) (S:af):aj sub P (n+4) "_law_mixed" [.fro (ns.map .int),.int k,.int m] S=.ok (.int (mx ns k m)) S:=M.ok ns hk hm
 have m0:=m at' 3 hat (by decide)
 have m1:=m (at' + 1) most (by omega) hmo
 have m2:=m (at' + 2) 2 (by omega) (by decide)
 have e0:=toNat_cast (M.rng ns at' (show (0:Int) < 3 by decide)).1
 generalize hq:(1+mx ns (at' + 2) 2).toNat=nc
 generalize hw:(1+mx ns (at' + 1) most).toNat=many
 have hq':(1+mx ns (at' + 2) 2)=(nc:Int):=by omega
 have hw':(1+mx ns (at' + 1) most)=(many:Int):=by omega
 have hcl:=(cy mx ns at' most).cl
 generalize ho:(if b5 mx ns at' many=[] then [many - 1] else b5 mx ns at' many)=os
 rw [wJ M ns hq hw ho] at hcl ⊢
 generalize hs:(mx ns at' 3).toNat=streams at e0 hcl ⊢
 obtain ⟨x,loop1⟩:=jV (sub:=sub) (cf:=aj sub P (n+4)) (i:=6) (j:=5) (l:=S.length) (it:=.iRng (.cs (.bin .add (.c (.int 1)) (.call "_law_mixed" (.cs (.v 0) (.cs (.bin .add (.v 1) (.c (.int 2))) (.cs (.c (.int 2)) .nl))))) .nl))
   (e:=.tup (.cs (.bin .add (.c (.int 1)) (.call "_law_mixed" (.cs (.v 0) (.cs (.bin .add (.bin .add (.v 1) (.c (.int 3))) (.v 6)) (.cs (.c (.int 2)) .nl))))) (.cs (.bin .add (.c (.int 1)) (.bin .fdiv (.call "_law_mixed" (.cs (.v 0) (.cs (.bin .add (.bin .add (.v 1) (.c (.int 5))) (.v 6)) (.cs (.c (.int 5)) .nl)))) (.c (.int 2)))) .nl)))
   (σ:=[some (.fro (ns.map .int)),some (.int at'),some (.int most),some (.int (mx ns at' 3)),some (.int (1+mx ns (at' + 1) most)),some (.loc S.length),none,none,none])
   (S:=S++[.lst []]) (S1:=S++[.lst []]) (xs:=[]) (ks:=List.range nc) (f:=ah) (g:=fun (k:Nat)=>bW (fm mx ns at' k)) (o:=none) (raw:=[])
   (cX (by (repeat' (first|done|with_reducible exact m2 _))) hq' (by omega) dF) rfl (aS _ _) (by decide) (Nat.lt_of_sub_pos (by exact Nat.succ_pos 2)) (fun _=>rfl)
   (fun k _ ys=>by
    have q1:=m (at' + 3+(k:Int)) 2 (by omega) (by decide)
    have q2:=m (at' + 5+(k:Int)) 5 (by omega) (by decide)
    have g1:=M.rng ns (at' + 3+(k:Int)) (show (0:Int) < 2 by decide)
    have g2:=M.rng ns (at' + 5+(k:Int)) (show (0:Int) < 5 by decide)
    have t1:=toNat_cast (i:=1+mx ns (at' + 3+(k:Int)) 2) (by omega)
    have t2:=toNat_cast (i:=1+mx ns (at' + 5+(k:Int)) 5 / 2) (by omega)
    rw [dF]
    unfold bW fm
    rw [t1,t2]
    (repeat' (first|done|with_reducible exact q1 _|with_reducible exact q2 _))) (by unfold aR; rw [List.length_range,List.length_nil]; omega)
 rw [gM,List.nil_append] at loop1
 generalize hcr:((List.range nc).map fun (k:Nat)=>bW (fm mx ns at' k))=cr at loop1 hcl ⊢
 have hcrl:cr.length=nc:=by rw [<- hcr,List.length_map,List.length_range]
 obtain ⟨y,loop2⟩:=jV (sub:=sub) (cf:=aj sub P (n+4)) (i:=6) (j:=7) (l:=(S++[Cell.lst cr]).length) (it:=.iRng (.cs (.v 4) .nl))
   (e:=.call "_law_work" (.cs (.v 0) (.cs (.bin .add (.bin .add (.v 1) (.c (.int 7))) (.bin .mul (.c (.int 9)) (.v 6))) (.cs (.tup (.cs (.v 3) (.cs (.bi .len (.cs (.v 5) .nl)) (.cs (.v 4) .nl)))) (.cs (.v 6) .nl)))))
   (σ:=[some (.fro (ns.map .int)),some (.int at'),some (.int most),some (.int (mx ns at' 3)),some (.int (1+mx ns (at' + 1) most)),some (.loc S.length),x,some (.loc (S++[Cell.lst cr]).length),none])
   (S:=(S++[.lst cr])++[.lst []]) (S1:=(S++[.lst cr])++[.lst []]) (xs:=[]) (ks:=List.range many) (f:=ah)
   (g:=fun (k:Nat)=>(cJ mx ns (at' + 7+9 * (k:Int)) streams nc many k).toD) (o:=none) (raw:=[])
   (cX (by (repeat' done)) hw' (by omega) dF) rfl (aS _ _) (by decide) (Nat.lt_of_sub_pos (by exact Nat.succ_pos 2)) (fun _=>rfl)
   (fun k _ ys=>by
    rw [gM,dF]
    have hd:=w6 (sub:=sub) (n:=n) (S:=(S++[.lst cr])++[.lst ys]) h M ns (at':=at' + 7+9 * (k:Int)) (streams:=streams) (ncrews:=nc) (many:=many) (own:=k) (by omega) (by omega) (by omega)
    rw [e0,<- hw'] at hd
    have hl:biD sub .len [.loc S.length] ((S++[.lst cr])++[.lst ys])=.ok (.int (nc:Int)) ((S++[.lst cr])++[.lst ys]):=by
     rw [<- hcrl]; exact oU (by rw [List.append_assoc]; exact dG _ _ _)
    (repeat' done)) (by unfold aR; rw [List.length_range,List.length_nil]; omega)
 rw [gM,List.nil_append] at loop2
 generalize hwk:((List.range many).map fun (k:Nat)=>(cJ mx ns (at' + 7+9 * (k:Int)) streams nc many k).toD)=wk at loop2 hcl ⊢
 generalize hT:(S++[Cell.lst cr])++[Cell.lst wk]=T at loop2
 have gc:∀ U:af,(T++U)[S.length]?=some (.lst cr):=fun U=>by rw [<- hT,List.append_assoc,List.append_assoc]; exact dG _ _ _
 have gw:∀ U:af,(T++U)[(S++[Cell.lst cr]).length]?=some (.lst wk):=fun U=>by rw [<- hT,List.append_assoc]; exact dG _ _ _
 have tk:∀ U:af,(T++U).take S.length=S:=fun U=>by rw [<- hT,List.append_assoc,List.append_assoc]; exact bL _ _
 have comp:=BI (sub:=sub) (cf:=aj sub P (n+4)) (k:=2) (i:=10) (el:=.v 10) (it:=.iRng (.cs (.v 4) .nl)) (tt:=.cmp .gt (.call "_law_mixed" (.cs (.v 0) (.cs (.bin .add (.bin .add (.v 1) (.c (.int 7))) (.v 10)) (.cs (.c (.int 3)) .nl)))) (.c (.int 0)))
   (σ:=[some (.fro (ns.map .int)),some (.int at'),some (.int most),some (.int (mx ns at' 3)),some (.int (1+mx ns (at' + 1) most)),some (.loc S.length),y,some (.loc (S++[Cell.lst cr]).length),none]) (S:=T) (S1:=T) (s:=⟨(List.range many).map ah,none,[]⟩) (g:=id) (p:=fun d=>match d with|.int k=>decide (0 < mx ns (at' + 7+k) 3)|_=>false) rfl
   (cX (by (repeat' done)) hw' (by omega) dF) rfl
   (fun d hd=>by
    obtain ⟨k,_,rfl⟩:=List.mem_map.mp hd
    have:=m (at' + 7+(k:Int)) 3 (by omega) (by decide) T
    rw [dF]
    (repeat' done))
   (fun d hd _=>r_v rfl) (by unfold aR; rw [List.length_map,List.length_range]; omega)
 rw [List.map_id,List.filter_map,show List.filter ((fun d=>match d with|.int k=>decide (0 < mx ns (at' + 7+k) 3)|_=>false) ∘ ah) (List.range many)=b5 mx ns at' many from rfl] at comp
 refine zW h.loop rfl (aq (aL (by (repeat' (first|done|with_reducible exact m0 _)))) (aq (aL (by (repeat' (first|done|with_reducible exact m1 _)))) (aq (aL (cz ai rfl)) (aq loop1 (aq (aL (cz ai rfl)) (aq loop2 (aq (aL comp) rfl))))))) ?_ hcl
 cases hu:b5 mx ns at' many with
 | nil =>
  rw [hu,if_pos rfl] at ho
  subst ho
  have t3:((many - 1:Nat):Int)=1+mx ns (at' + 1) most - 1:=by omega
  have hE:cmD .eq (.loc T.length) (.loc (T++[Cell.lst []]).length) ((T++[.lst []])++[.lst []])=.ok (.bl true) ((T++[.lst []])++[.lst []]):=rq (xs:=[]) (by rw [List.append_assoc]; exact dG _ _ _) (aS _ _)
  refine ⟨_,aq (bK (aO (aQ (r_v rfl) (cz ai rfl) hE)) (aL (by (repeat' done)))) (aG (cI (aa (r_v rfl) (aa (aN (aa (r_v rfl) ai) (dH ?_)) (aa (aN (aa (r_v rfl) ai) (dH ?_)) (aa (aN (aa (r_v rfl) ai) (dH ?_)) ai)))) rfl)),?_⟩
  ·rw [List.append_assoc,List.append_assoc]; exact gc _
  ·rw [List.append_assoc,List.append_assoc]; exact gw _
  ·rw [List.map_cons,dF,t3]; exact aS _ _
  ·rw [List.append_assoc,List.append_assoc]; exact tk _
 | cons a r =>
  rw [hu,if_neg (by intro z; cases z)] at ho
  subst ho
  have hE:cmD .eq (.loc T.length) (.loc (T++[Cell.lst ((a::r).map ah)]).length) ((T++[.lst ((a::r).map ah)])++[.lst []])=.ok (.bl false) ((T++[.lst ((a::r).map ah)])++[.lst []]):=rq (xs:=(a::r).map ah) (by rw [List.append_assoc]; exact dG _ _ _) (aS _ _)
  refine ⟨_,aq (aI (aO (aQ (r_v rfl) (cz ai rfl) hE)) aH) (aG (cI (aa (r_v rfl) (aa (aN (aa (r_v rfl) ai) (dH ?_)) (aa (aN (aa (r_v rfl) ai) (dH ?_)) (aa (aN (aa (r_v rfl) ai) (dH ?_)) ai)))) rfl)),?_⟩
  ·rw [List.append_assoc]; exact gc _
  ·rw [List.append_assoc]; exact gw _
  ·rw [List.append_assoc]; exact dG _ _ _
  ·rw [List.append_assoc]; exact tk _
theorem pq (p:Nat->Bool) (many:Nat):∀ (k c:Nat),k+c<=many->dg many k ((List.range' k c).filter p)
 | k,0,_=>trivial
 | k,c+1,h=>by
  rw [List.range'_succ,List.filter_cons]
  have:=pq p many (k+1) c (by omega)
  split
  ·exact ⟨Nat.le_refl _,by omega,this⟩
  ·have low:∀ (l:List Nat) (a b:Nat),a<=b->dg many b l->dg many a l:=by
    intro l
    cases l with
    | nil=>intros; trivial
    | cons x r=>intro a b hab ⟨h1,h2,h3⟩; exact ⟨by omega,h2,h3⟩
   exact low _ _ _ (Nat.le_succ _) this
theorem zx (M:Mix P mx) (ns:List Int) {at' most:Int} (hmo:0 < most) (hmo2:most<=8):(cy mx ns at' most).WF:=by
 have r0:=M.rng ns at' (show (0:Int) < 3 by decide)
 have r1:=M.rng ns (at' + 1) hmo
 have r2:=M.rng ns (at' + 2) (show (0:Int) < 2 by decide)
 have hw:(cy mx ns at' most).works.length=(1+mx ns (at' + 1) most).toNat:=by simp [cy]
 have hc:(cy mx ns at' most).crews.length=(1+mx ns (at' + 2) 2).toNat:=by simp [cy]
 refine ⟨?_,?_,fun c hcm=>?_,?_,fun i w hi=>?_,?_,?_⟩
 ·show (mx ns at' 3).toNat<=6; omega
 ·rw [hc]; omega
 ·obtain ⟨k,_,rfl⟩:=List.mem_map.mp hcm
  have q1:=M.rng ns (at' + 3+(k:Int)) (show (0:Int) < 2 by decide)
  have q2:=M.rng ns (at' + 5+(k:Int)) (show (0:Int) < 5 by decide)
  simp only [fm]
  omega
 ·rw [hw]; omega
 ·rw [hw,hc]
  have hi':i < (1+mx ns (at' + 1) most).toNat:=by rw [<- hw]; exact (List.getElem?_eq_some_iff.mp hi).1
  have hi:((List.range (1+mx ns (at' + 1) most).toNat).map fun (k:Nat)=>cJ mx ns (at' + 7+9 * (k:Int)) (mx ns at' 3).toNat (1+mx ns (at' + 2) 2).toNat (1+mx ns (at' + 1) most).toNat k)[i]?=some w:=hi
  rw [List.getElem?_map,List.getElem?_range hi'] at hi
  cases hi
  exact Bp M ns _ (by omega) (by omega)
 ·show 1<=(if b5 mx ns at' (1+mx ns (at' + 1) most).toNat=[] then [(1+mx ns (at' + 1) most).toNat - 1] else b5 mx ns at' (1+mx ns (at' + 1) most).toNat).length
  split
  ·simp
  ·rename_i h; exact List.length_pos_iff.mpr h
 ·rw [hw]
  show dg _ 0 (if b5 mx ns at' (1+mx ns (at' + 1) most).toNat=[] then [(1+mx ns (at' + 1) most).toNat - 1] else b5 mx ns at' (1+mx ns (at' + 1) most).toNat)
  split
  ·exact ⟨Nat.zero_le _,by omega,trivial⟩
  ·unfold b5
   rw [List.range_eq_range']
   exact pq _ _ 0 _ (by omega)
end
end RL

namespace RL
open PySem EV GO
noncomputable def iP:Fn:=⟨1,5,(.seq (.set (.one 1) (.ix (.call "checked" (.cs (.v 0) .nl)) (.c (.int 2))))
 (.seq (.set (.one 2) (.lst .nl))
 (.seq (.forS (.many [3,4]) (.iEnum (.v 1))
  (.ex (.me .extend (.v 2) (.cs (.comp 2 (.tup (.cs (.ix (.v 6) (.c (.int 1))) (.cs (.v 3) (.cs (.ix (.v 6) (.c (.int 2))) .nl)))) (.one 6) (.iSeq (.ix (.v 4) (.c (.int 3)))) (.cmp .eq (.ix (.v 6) (.c (.int 0))) (.c (.str "work")))) .nl))))
 (.ret (.bi .sortedSet (.cs (.v 2) .nl))))))⟩
noncomputable def tupI (t:List Int):D:=.tup (t.map .int)
noncomputable def bN (behind:Nat):Srs->Option (List Int)
 | .wrk w b=>some [(w:Int),(behind:Int),(b:Int)]
 | _=>none
noncomputable def aF:Nat->List Wk->List (List Int)
 | _,[]=>[]
 | k,w::r=>w.srcs.filterMap (bN k)++aF (k+1) r
theorem nG {sub:Sub} {cf:Str->List D->M D} {σ:Sg} {S S1:af} {k i:Nat} {el it tt:E} {α:Type} {ks:List α} {f:α->D} {g:α->Option D} {o:Option Nat} {raw:List D} (hn:tt.bC=false) (hi:evI sub cf it σ S=.ok ⟨ks.map f,o,raw⟩ S1) (hs:aC ⟨ks.map f,o,raw⟩ S1=.ok () S1)
  (hp:∀ a∈ks,evT sub cf tt ((σ++List.replicate k none).set i (some (f a))) S1=.ok (g a).isSome S1) (hg:∀ a∈ks,∀ d,g a=some d->ev sub cf el ((σ++List.replicate k none).set i (some (f a))) S1=.ok d S1) (hz:ks.length<=aR) :
  ev sub cf (.comp k el (.one i) it tt) σ S=.ok (.loc S1.length) (S1++[.lst (ks.filterMap g)]):=by
 rw [i_,hi]
 simp only [Res.ak]
 have:=jr (s:=⟨ks.map f,o,raw⟩) (f:=f) (fn:=fun d=>aM (.one i) d (σ++List.replicate k none)>>=fun σ'=>(if tt.bC=true then pure true else evT sub cf tt σ')>>=fun b=>if b=true then ev sub cf el σ'>>=fun y=>pure (some y) else pure none) (g:=g) (S:=S1) hs (ks:=ks) (fun d hd=>by
  simp only [az,iS,Res.ak,hn,Bool.false_eq_true,if_false]
  rw [hp d hd]
  cases q:g d with
  | none=>rfl
  | some y=>simp [az,hg d hd y q])
 rw [gy this]
 simp only [Res.ak]
 rw [if_pos (show fits (ks.filterMap g).length=true from decide_eq_true (Nat.le_trans (List.length_filterMap_le _ _) hz))]
theorem jd:∀ (ws:List Wk) (k i:Nat) (h:i < ws.length),aF k (ws.take (i+1))=aF k (ws.take i)++(ws[i]).srcs.filterMap (bN (k+i))
 | w::r,k,0,_=>by simp [aF]
 | w::r,k,i+1,h=>by
  have:=jd r (k+1) i (by simpa using h)
  simp only [List.take_succ_cons,aF,List.getElem_cons_succ]
  rw [this,List.append_assoc,show k+1+i=k+(i+1) by omega]
theorem kB:∀ (ws:List Wk) (k:Nat),(∀ w∈ws,w.srcs.length<=3)->(aF k ws).length<=3 * ws.length
 | [],_,_=>Nat.le_refl _
 | w::r,k,h=>by
  have h1:=kB r (k+1) fun v hv=>h v (List.mem_cons_of_mem _ hv)
  have h2:=h w List.mem_cons_self
  have h3:(w.srcs.filterMap (bN k)).length<=w.srcs.length:=List.length_filterMap_le _ _
  simp only [aF,List.length_append,List.length_cons]
  omega
theorem ji:∀ {ws:List Wk} {k:Nat} {t:List Int},t∈aF k ws->∃ i w b x,ws[i]?=some w/\Srs.wrk x b∈w.srcs/\t=[(x:Int),((k+i:Nat):Int),(b:Int)]
 | w::r,k,t,h=>by
  rcases List.mem_append.mp h with h|h
  ·obtain ⟨s,hs,e⟩:=List.mem_filterMap.mp h
   cases s with
   | wrk x b=>cases e; exact ⟨0,w,b,x,rfl,hs,rfl⟩
   | _=>cases e
  ·obtain ⟨i,v,b,x,h1,h2,h3⟩:=ji h
   exact ⟨i+1,v,b,x,h1,h2,by rw [h3,show k+1+i=k+(i+1) by omega]⟩
theorem allI (t:List Int):allInts (t.map .int)=some t:=by
 induction t with
 | nil=>rfl
 | cons a r ih=>show (allInts (r.map .int)).map (a :: ·)=_; rw [ih]; rfl
theorem lW:∀ ts:List (List Int),tups (ts.map tupI)=some ts
 | []=>rfl
 | t::r=>by
  show (match allInts (t.map .int),tups (r.map tupI) with|some t,some q=>some (t::q)|_,_=>none)=_
  rw [allI,lW r]
theorem fG (t:List Int):D.lows 0 (t.map .int)=true:=by
 induction t with
 | nil=>rfl
 | cons a r ih=>show (D.low 0 (.int a)&&D.lows 0 (r.map .int))=true; rw [ih]; rfl
theorem oM (ts:List (List Int)):D.lows 0 (ts.map tupI)=true:=by
 induction ts with
 | nil=>rfl
 | cons t r ih=>show (D.lows 0 (t.map .int)&&D.lows 0 (r.map tupI))=true; rw [fG,ih]; rfl
section
variable {sub:Sub} {P:Prg} {n:Nat} {S:af}
theorem BR {cf:Str->List D->M D} {x0 x1 x2:Option D} {i:Nat} {w:Wk} {T:af} (hw:w.srcs.length<=3) :
  ev sub cf (.comp 2 (.tup (.cs (.ix (.v 6) (.c (.int 1))) (.cs (.v 3) (.cs (.ix (.v 6) (.c (.int 2))) .nl)))) (.one 6) (.iSeq (.ix (.v 4) (.c (.int 3)))) (.cmp .eq (.ix (.v 6) (.c (.int 0))) (.c (.str "work"))))
   [x0,x1,x2,some (.int (i:Int)),some w.toD] T=.ok (.loc T.length) (T++[.lst ((w.srcs.filterMap (bN i)).map tupI)]):=by
 have h:=nG (sub:=sub) (cf:=cf) (k:=2) (i:=6) (el:=.tup (.cs (.ix (.v 6) (.c (.int 1))) (.cs (.v 3) (.cs (.ix (.v 6) (.c (.int 2))) .nl)))) (it:=.iSeq (.ix (.v 4) (.c (.int 3)))) (tt:=.cmp .eq (.ix (.v 6) (.c (.int 0))) (.c (.str "work")))
  (σ:=[x0,x1,x2,some (.int (i:Int)),some w.toD]) (S:=T) (S1:=T) (ks:=w.srcs) (f:=Srs.toD) (g:=fun s=>(bN i s).map tupI) (o:=none) (raw:=w.srcs.map Srs.toD) rfl (eu (ao (r_v rfl) r_c (au rfl)) rfl) rfl
  (fun s _=>by
   cases s with
   | val v=>exact aO (aQ (ao (r_v rfl) r_c (au rfl)) r_c rfl)
   | inp k=>exact aO (aQ (ao (r_v rfl) r_c (au rfl)) r_c rfl)
   | wrk x b=>exact aO (aQ (ao (r_v rfl) r_c (au rfl)) r_c rfl))
  (fun s _ d hd=>by
   cases s with
   | val v=>cases hd
   | inp k=>cases hd
   | wrk x b =>
    cases hd
    exact cI (aa (ao (r_v rfl) r_c (au rfl)) (aa (r_v rfl) (aa (ao (r_v rfl) r_c (au rfl)) ai))) rfl)
  (by unfold aR; omega)
 rw [h,List.map_filterMap]
theorem qg {T:af} {a b:Cell} {G:af}:(T++a::G).set T.length b=T++b::G:=by
 rw [List.set_append_right _ _ (Nat.le_refl _),Nat.sub_self]; rfl
theorem m_ {T:af} {a:Cell} {G:af}:(T++a::G)[T.length]?=some a:=by
 rw [List.getElem?_append_right (Nat.le_refl _),Nat.sub_self]; rfl
theorem DI {T:af} {k:Nat} {ts:List (List Int)} (hk:T[k]?=some (.lst (ts.map tupI))) (h1:ts.length<=18) (h2:(ts.all fun t=>!t.isEmpty)=true):biD sub .sortedSet [.loc k] T=.ok (.loc T.length) (T++[.lst ((aD ts).map tupI)]):=by
 show (cK (.loc k)>>=fun ds=>opt (tups ds)>>=fun ts=>guard (decide (ts.length<=18)&&ts.all fun t=>!t.isEmpty) (alloc (.lst ((aD ts).map fun t=>.tup (t.map .int))))) T=_
 have e:cK (.loc k) T=.ok (ts.map tupI) T:=dW hk
 rw [az,e]
 simp only [Res.ak]
 rw [az,lW]
 simp only [gT,Res.ak]
 rw [h2,decide_eq_true h1]
 rfl
theorem ja {T:af} {ds:List D} {m:Nat} (hm:S.length<=m) (ht:T.take S.length=S) (h:T[m]?=some (.lst ds)) (hc:D.lows 0 ds=true):leave S (.loc m) T=.ok (.loc S.length) (S++[.lst ds]):=by
 unfold leave
 rw [if_pos ht,if_neg (by show ¬ decide (m < S.length)=true; simp; omega)]
 simp only [h]
 rw [if_pos (show Cell.low S.length (.lst ds)=true from gp (Nat.zero_le _) hc)]
theorem vS (h:HB P) (hn:Has P "needs" iP) {l:Lp} (hl:l.WF) (h6:l.works.length<=6):aj sub P (n+8) "needs" [l.toD] S=.ok (.loc S.length) (S++[.lst ((aD (aF 0 l.works)).map tupI)]):=by
 have h3:∀ w∈l.works,w.srcs.length<=3:=fun w hw=>by
  obtain ⟨i,hi⟩:=List.getElem?_of_mem hw
  exact (hl.works i w hi).some.2
 have hnl:∀ i,(aF 0 (l.works.take i)).length<=18:=fun i=>by
  have:=kB (l.works.take i) 0 fun w hw=>h3 w (List.mem_of_mem_take hw)
  rw [List.length_take] at this
  omega
 have hnum:(num 0 (l.works.map Wk.toD)).length=l.works.length:=by rw [fF,List.length_map]
 obtain ⟨σ',T',e,x3,x4,G,rfl,rfl⟩:=eL (sub:=sub) (cf:=aj sub P (n+7)) (t:=.many [3,4]) (it:=.iEnum (.v 1)) (b:=.ex (.me .extend (.v 2) (.cs (.comp 2 (.tup (.cs (.ix (.v 6) (.c (.int 1))) (.cs (.v 3) (.cs (.ix (.v 6) (.c (.int 2))) .nl)))) (.one 6) (.iSeq (.ix (.v 4) (.c (.int 3)))) (.cmp .eq (.ix (.v 6) (.c (.int 0))) (.c (.str "work")))) .nl)))
  (σ:=[some l.toD,some (.tup (l.works.map Wk.toD)),some (.loc S.length),none,none]) (S:=S++[.lst []]) (S1:=S++[.lst []]) (s:=⟨num 0 (l.works.map Wk.toD),none,l.works.map Wk.toD⟩)
  (fun i σ T=>∃ x3 x4 G,σ=[some l.toD,some (.tup (l.works.map Wk.toD)),some (.loc S.length),x3,x4]/\T=S++.lst ((aF 0 (l.works.take i)).map tupI)::G)
  (by simp) ⟨none,none,[],rfl,rfl⟩ (fun _ _ _ _=>rfl) (fun i hi σ T ⟨x3,x4,G,hσ,hT⟩=>by
   subst hσ; subst hT
   have hi':i < l.works.length:=by rw [<- hnum]; exact hi
   have hit:(num 0 (l.works.map Wk.toD))[i]=.tup [.int (i:Int),(l.works[i]).toD]:=by
    rw [jl]; simp
   show ∃ σ' T',aJ sub (aj sub P (n+7)) _ _ (num 0 (l.works.map Wk.toD))[i] _ _=_/\_
   rw [hit]
   refine ⟨_,_,dS rfl (iF (j5 (r_v rfl) (aa (BR (h3 _ (List.getElem_mem hi'))) ai) (wU (l:=S.length) (ds:=(aF 0 (l.works.take i)).map tupI) (k:=(S++.lst ((aF 0 (l.works.take i)).map tupI)::G).length) ?_ (aS _ _) ?_))),some (.int (i:Int)),some (l.works[i]).toD,G++[.lst (((l.works[i]).srcs.filterMap (bN i)).map tupI)],rfl,?_⟩
   ·exact (List.getElem?_append_left (by simp)).trans m_
   ·have h1:=hnl (i+1)
    rw [jd _ _ _ hi',List.length_append,Nat.zero_add] at h1
    rw [List.length_map,List.length_map]
    unfold aR; omega
   ·rw [List.append_assoc,List.cons_append,qg,<- List.map_append,jd _ _ _ hi',Nat.zero_add])
 rw [hnum,List.take_length] at e
 have ne:((aF 0 l.works).all fun t=>!t.isEmpty)=true:=List.all_eq_true.mpr fun t ht=>by
  obtain ⟨i,w,b,x,_,_,rfl⟩:=ji ht
  rfl
 have hl18:=hnl l.works.length
 rw [List.take_length] at hl18
 refine x_call (ds:=[l.toD]) hn rfl (aq (aL (ao (aB (aa (r_v rfl) ai) (sr h hl)) r_c (au rfl))) (aq (aL (cz ai rfl)) (aq e (aG (aN (aa (r_v rfl) ai) (DI m_ hl18 ne)))))) (ja (by simp) ?_ (aS _ _) (oM _))
 rw [List.append_assoc,bL]
end
end RL

namespace RL
open PySem EV GO
noncomputable def mC:Fn:=⟨1,1,(.seq (.ite (.not (.call "is_whole" (.cs (.v 0) (.cs (.c (.int 1)) (.cs (.c (.int 200)) .nl)))))
  (.rais "NoGap")
  .skip)
 (.ret (.v 0)))⟩
noncomputable def rZ:Fn:=⟨2,2,(.ret (.and (.call "is_row" (.cs (.v 0) (.cs (.v 1) (.cs (.v 1) .nl)))) (.bi .all (.cs (.comp 2 (.call "is_whole" (.cs (.v 3) (.cs (.c (.int 0)) (.cs (.c (.int 999)) .nl)))) (.one 3) (.iSeq (.v 0)) .nl) .nl))))⟩
noncomputable def oN:Fn:=⟨2,2,(.seq (.ite (.not (.call "is_plan" (.cs (.v 1) (.cs (.bi .len (.cs (.ix (.v 0) (.c (.int 2))) .nl)) .nl))))
  (.rais "NoPlan")
  .skip)
 (.ret (.v 1)))⟩
noncomputable def gB:Fn:=⟨4,5,(.seq (.set (.one 4) (.bin .add (.ix (.v 2) (.ix (.v 3) (.c (.int 0)))) (.ix (.ix (.ix (.v 0) (.c (.int 2))) (.ix (.v 3) (.c (.int 0)))) (.c (.int 1)))))
 (.ret (.bin .sub (.bin .add (.ix (.v 2) (.ix (.v 3) (.c (.int 1)))) (.bin .mul (.ix (.v 3) (.c (.int 2))) (.v 1))) (.v 4))))⟩
noncomputable def fq:Fn:=⟨4,9,(.seq (.set (.one 4) (.bin .mul (.lst (.cs (.c (.int 0)) .nl)) (.v 1)))
 (.seq (.forS (.many [5,6]) (.iZip (.cs (.v 2) (.cs (.ix (.v 0) (.c (.int 2))) .nl)))
  (.ite (.cmp .eq (.ix (.v 6) (.c (.int 0))) (.v 3))
  (.forS (.one 7) (.iRng (.cs (.ix (.ix (.ix (.v 0) (.c (.int 1))) (.v 3)) (.c (.int 1))) .nl))
  (.seq (.set (.one 8) (.bin .mod (.bin .add (.v 5) (.v 7)) (.v 1)))
 (.setIx (.v 4) (.v 8) (.bin .add (.ix (.v 4) (.v 8)) (.c (.int 1))))))
  .skip))
 (.ret (.v 4))))⟩
noncomputable def bump (xs:List Int) (r:Nat):List Int:=xs.set r (xs.getD r 0+1)
noncomputable def aZ (g b m:Nat) (xs:List Int):List Int:=(List.range m).foldl (fun xs j=>bump xs ((b+j) % g)) xs
noncomputable def bE (g crew bz:Nat):List (Nat × Wk)->List Int->List Int
 | [],xs=>xs
 | (b,w)::r,xs=>bE g crew bz r (if w.crew=crew then aZ g b bz xs else xs)
theorem yf (xs:List Int) (r:Nat):(bump xs r).length=xs.length:=List.length_set
theorem kE (g b m:Nat) (xs:List Int):aZ g b (m+1) xs=bump (aZ g b m xs) ((b+m) % g):=by
 unfold aZ
 rw [List.range_succ,List.foldl_append]; rfl
theorem jj (g b:Nat) (xs:List Int):∀ m,(aZ g b m xs).length=xs.length
 | 0=>rfl
 | m+1=>by rw [kE,yf,jj g b xs m]
theorem f6 (g crew bz:Nat) (b:Nat) (w:Wk):∀ (ps:List (Nat × Wk)) (xs:List Int),bE g crew bz (ps++[(b,w)]) xs=if w.crew=crew then aZ g b bz (bE g crew bz ps xs) else bE g crew bz ps xs
 | [],xs=>rfl
 | (b',w')::r,xs=>f6 g crew bz b w r _
theorem iI (g crew bz:Nat):∀ (ps:List (Nat × Wk)) (xs:List Int),(bE g crew bz ps xs).length=xs.length
 | [],xs=>rfl
 | (b,w)::r,xs=>by
  show (bE g crew bz r (if w.crew=crew then aZ g b bz xs else xs)).length=_
  rw [iI g crew bz r]
  split
  ·exact jj ..
  ·rfl
section
variable {sub:Sub} {cf:Str->List D->M D} {σ:Sg} {S S1 S2 S3 S4:af} {x y z d:D}
theorem nB {o i e:E} (he:ev sub cf e σ S=.ok d S1) (ho:ev sub cf o σ S1=.ok x S2) (hi:ev sub cf i σ S2=.ok y S3) (h:fk x y d S3=.ok z S4):exec sub cf (.setIx o i e) σ S=.ok (.nx σ) S4:=by
 show (ev sub cf e σ>>=fun d=>ev sub cf o σ>>=fun a=>ev sub cf i σ>>=fun k=>fk a k d>>=fun _=>(pure (Fl.nx σ):M Fl)) S=_
 rw [az,he]
 simp only [Res.ak]
 rw [az,ho]
 simp only [Res.ak]
 rw [az,hi]
 simp only [Res.ak]
 rw [az,h]; rfl
theorem pX {T:af} {ys:List D} {r:Nat} (h:r < ys.length):fk (.loc T.length) (.int (r:Int)) d (T++[.lst ys])=.ok .non (T++[.lst (ys.set r d)]):=by
 show aW T.length (fun xs=>match ixN xs.length (r:Int) with|some j=>put T.length (.lst (xs.set j d))|none=>bad) (T++[.lst ys])=_
 unfold aW
 rw [aS]
 have e:ixN ys.length (r:Int)=some r:=by
  unfold ixN
  rw [if_pos (Int.natCast_nonneg r),if_pos (Int.ofNat_lt.mpr h),Int.toNat_natCast]
 simp only [e]
 show Res.ok D.non ((T++[Cell.lst ys]).set T.length (Cell.lst (ys.set r d)))=_
 rw [qg]
end
section
variable {sub:Sub} {P:Prg} {n:Nat} {S:af}
theorem eg {xs:List D} {k:Nat} {d:D} (h:xs[k]?=some d):atI xs (k:Int)=some d:=by
 unfold atI ixN
 have hk:=(List.getElem?_eq_some_iff.mp h).1
 rw [if_pos (Int.natCast_nonneg k),if_pos (Int.ofNat_lt.mpr hk),Int.toNat_natCast]
 exact h
noncomputable def dI (l:Lp) (g:Nat) (pl:List Nat) (x i b:Nat):Int:=((pl.getD i 0:Nat):Int)+(b:Int) * (g:Int) - (((pl.getD x 0:Nat):Int)+(((l.works.getD x ⟨0,0,"",[],[]⟩).long:Nat):Int))
theorem fT {pl:List Nat} {i:Nat} (h:i < pl.length):atI (pl.map ah) (i:Int)=some (.int ((pl.getD i 0:Nat):Int)):=eg (by rw [List.getElem?_map,List.getD_eq_getElem?_getD,List.getElem?_eq_getElem h]; rfl)
theorem sP {l:Lp} {i:Nat} (h:i < l.works.length):atI (l.works.map Wk.toD) (i:Int)=some (l.works.getD i ⟨0,0,"",[],[]⟩).toD:=eg (by rw [List.getElem?_map,List.getD_eq_getElem?_getD,List.getElem?_eq_getElem h]; rfl)
theorem Bk (hw:Has P "waiting" gB) {l:Lp} {g:Nat} {pl:List Nat} (hp:pl.length=l.works.length) {x i b:Nat} (hx:x < l.works.length) (hi:i < l.works.length) (hb:b<=3) :
  aj sub P (n+1) "waiting" [l.toD,.int (g:Int),.tup (pl.map ah),tupI [(x:Int),(i:Int),(b:Int)]] S=.ok (.int (dI l g pl x i b)) S :=
 x_call (ds:=[l.toD,.int (g:Int),.tup (pl.map ah),tupI [(x:Int),(i:Int),(b:Int)]]) hw rfl (aq (aL (aT (ao (r_v rfl) (ao (r_v rfl) r_c (au rfl)) (au (fT (by rw [hp]; exact hx)))) (ao (ao (ao (r_v rfl) r_c (au rfl)) (ao (r_v rfl) r_c (au rfl)) (au (sP hx))) r_c (au rfl)) (b8 _ _ _)))
  (aG (aT (aT (ao (r_v rfl) (ao (r_v rfl) r_c (au rfl)) (au (fT (by rw [hp]; exact hi)))) (aT (ao (r_v rfl) r_c (au rfl)) (r_v rfl) (j6 ⟨by omega,by omega⟩)) (b8 _ _ _)) (r_v rfl) (eF _ _ _)))) (k6 _ _)
noncomputable def ig:EV.S:=(.seq (.set (.one 8) (.bin .mod (.bin .add (.v 5) (.v 7)) (.v 1)))
 (.setIx (.v 4) (.v 8) (.bin .add (.ix (.v 4) (.v 8)) (.c (.int 1)))))
theorem iC {l:Lp} {k:Nat} {c:Nat × Nat} (h:l.crews[k]?=some c):atI (l.crews.map bW) (k:Int)=some (bW c):=eg (by rw [List.getElem?_map,h]; rfl)
theorem B4 {cf:Str->List D->M D} {l:Lp} {g b crew:Nat} {c:Nat × Nat} {D2 D6:D} {A:af} {xs:List Int} {x7 x8:Option D} (hc:l.crews[crew]?=some c) (hb:c.2<=4) (hg:0 < g) (hx:xs.length=g) :
  ∃ x7' x8',exec sub cf (.forS (.one 7) (.iRng (.cs (.ix (.ix (.ix (.v 0) (.c (.int 1))) (.v 3)) (.c (.int 1))) .nl)) ig) [some l.toD,some (.int (g:Int)),some D2,some (.int (crew:Int)),some (.loc A.length),some (.int (b:Int)),some D6,x7,x8] (A++[.lst (xs.map .int)]) =
   .ok (.nx [some l.toD,some (.int (g:Int)),some D2,some (.int (crew:Int)),some (.loc A.length),some (.int (b:Int)),some D6,x7',x8']) (A++[.lst ((aZ g b c.2 xs).map .int)]):=by
 obtain ⟨σ',T',e,x7',x8',rfl,rfl⟩:=eL (sub:=sub) (cf:=cf) (t:=.one 7) (it:=.iRng (.cs (.ix (.ix (.ix (.v 0) (.c (.int 1))) (.v 3)) (.c (.int 1))) .nl)) (b:=ig)
  (σ:=[some l.toD,some (.int (g:Int)),some D2,some (.int (crew:Int)),some (.loc A.length),some (.int (b:Int)),some D6,x7,x8]) (S:=A++[.lst (xs.map .int)]) (S1:=A++[.lst (xs.map .int)]) (s:=⟨(List.range c.2).map fun (i:Nat)=>.int (i:Int),none,[]⟩)
  (fun j σ T=>∃ x7 x8,σ=[some l.toD,some (.int (g:Int)),some D2,some (.int (crew:Int)),some (.loc A.length),some (.int (b:Int)),some D6,x7,x8]/\T=A++[.lst ((aZ g b j xs).map .int)])
  (cX (aa (ao (ao (ao (r_v rfl) r_c (au rfl)) (r_v rfl) (au (iC hc))) r_c (au rfl)) ai) rfl (by omega) fun _=>rfl) ⟨x7,x8,rfl,rfl⟩ (fun _ _ _ _=>rfl) (fun j hj σ T ⟨x7,x8,hσ,hT⟩=>by
   subst hσ; subst hT
   have hlt:(b+j) % g < ((aZ g b j xs).map D.int).length:=by rw [List.length_map,jj,hx]; exact Nat.mod_lt _ hg
   have hlt':(b+j) % g < (aZ g b j xs).length:=by rw [List.length_map] at hlt; exact hlt
   have hit:((List.range c.2).map fun (i:Nat)=>D.int (i:Int))[j]'hj=.int (j:Int):=by simp
   show ∃ σ' T',aJ sub cf (.one 7) ig (((List.range c.2).map fun (i:Nat)=>D.int (i:Int))[j]'hj) _ _=_/\_
   rw [hit]
   have em:((b:Int)+(j:Int)) % (g:Int)=(((b+j) % g:Nat):Int):=by rw [Int.natCast_emod,Int.natCast_add]
   have hm:opD .mod (.int ((b:Int)+(j:Int))) (.int (g:Int)) (A++[.lst ((aZ g b j xs).map .int)])=.ok (.int (((b+j) % g:Nat):Int)) (A++[.lst ((aZ g b j xs).map .int)]):=by rw [<- em]; exact gG (by omega)
   have ha:atI ((aZ g b j xs).map D.int) (((b+j) % g:Nat):Int)=some (.int ((aZ g b j xs).getD ((b+j) % g) 0)):=eg (by rw [List.getElem?_map,List.getD_eq_getElem?_getD,List.getElem?_eq_getElem hlt']; rfl)
   refine ⟨_,_,cO (aq (aL (aT (aT (r_v rfl) (r_v rfl) (b8 _ _ _)) (r_v rfl) hm)) (nB (aT (ao (r_v rfl) (r_v rfl) (iu ha)) r_c (b8 _ _ _)) (r_v rfl) (r_v rfl) (pX hlt))),some (.int (j:Int)),some (.int (((b+j) % g:Nat):Int)),rfl,?_⟩
   rw [kE]
   unfold bump
   rw [List.map_set])
 refine ⟨x7',x8',?_⟩
 rw [e]
 simp
theorem Bs {cf:Str->List D->M D} {σ:Sg} {S1:af} {es:E} {xs ys:List D} (hs:evs sub cf es σ S=.ok [.tup xs,.tup ys] S1):evI sub cf (.iZip es) σ S=.ok ⟨bR xs ys,none,[]⟩ S1:=by
 rw [B0,hs]; rfl
theorem zip_map {α β:Type} {f:α->D} {h:β->D}:∀ (xs:List α) (ys:List β),bR (xs.map f) (ys.map h)=(xs.zip ys).map fun p=>.tup [f p.1,h p.2]
 | [],_=>rfl
 | _::_,[]=>rfl
 | x::r,y::q=>by
  show D.tup [f x,h y]::bR (r.map f) (q.map h)=_
  rw [zip_map r q]; rfl
theorem rR {A:af} {g:Nat} (hg:g<=1000):opD .mul (.loc A.length) (.int (g:Int)) (A++[.lst [.int 0]])=.ok (.loc (A++[Cell.lst [D.int 0]]).length) ((A++[.lst [.int 0]])++[.lst ((List.replicate g (0:Int)).map .int)]):=by
 show aW A.length (fun xs=>guard (decide (-(2 ^ 63)<=(g:Int))&&decide ((g:Int) < 2 ^ 63)&&fits (xs.length * (g:Int).toNat)) (alloc (.lst (List.replicate (g:Int).toNat xs).flatten))) (A++[.lst [.int 0]])=_
 unfold aW
 rw [aS]
 have e1:decide (-(2 ^ 63)<=(g:Int))=true:=decide_eq_true (by omega)
 have e2:decide ((g:Int) < 2 ^ 63)=true:=decide_eq_true (by omega)
 have e3:fits ([D.int 0].length * (g:Int).toNat)=true:=qN (by rw [Int.toNat_natCast]; show 1 * g<=1000; omega)
 simp only [e1,e2,e3,Bool.and_self]
 have e4:(List.replicate (g:Int).toNat [D.int 0]).flatten=(List.replicate g (0:Int)).map .int:=by
  rw [Int.toNat_natCast,List.map_replicate]
  clear e3 e2 e1 hg
  induction g with
  | zero=>rfl
  | succ k ih=>rw [List.replicate_succ,List.flatten_cons,ih,List.replicate_succ]; rfl
 show alloc (.lst (List.replicate (g:Int).toNat [D.int 0]).flatten) (A++[.lst [.int 0]])=_
 rw [e4]; rfl
theorem g6 {a b:Nat} {T:af}:cmD .eq (.int (a:Int)) (.int (b:Int)) T=.ok (.bl (decide (a=b))) T:=by
 have e:eqD 12 T (.int (a:Int)) (.int (b:Int))=some (decide ((a:Int)=(b:Int))):=rfl
 have e2:decide ((a:Int)=(b:Int))=decide (a=b):=by
  by_cases h:a=b
  ·rw [decide_eq_true h,decide_eq_true (by omega)]
  ·rw [decide_eq_false h,decide_eq_false (by omega)]
 rw [<- e2]; rfl
theorem CU (hB:Has P "busy_machines" fq) {l:Lp} {g:Nat} (hg:0 < g) (hg2:g<=1000) {pl:List Nat} {crew:Nat} {c:Nat × Nat} (hc:l.crews[crew]?=some c) (hb:c.2<=4) :
  aj sub P (n+1) "busy_machines" [l.toD,.int (g:Int),.tup (pl.map ah),.int (crew:Int)] S=.ok (.loc S.length) (S++[.lst ((bE g crew c.2 (pl.zip l.works) (List.replicate g 0)).map .int)]):=by
 generalize hA:S++[Cell.lst [D.int 0]]=A
 obtain ⟨σ',T',e,x5,x6,x7,x8,rfl,rfl⟩:=eL (sub:=sub) (cf:=aj sub P n) (t:=.many [5,6]) (it:=.iZip (.cs (.v 2) (.cs (.ix (.v 0) (.c (.int 2))) .nl)))
  (b:=.ite (.cmp .eq (.ix (.v 6) (.c (.int 0))) (.v 3)) (.forS (.one 7) (.iRng (.cs (.ix (.ix (.ix (.v 0) (.c (.int 1))) (.v 3)) (.c (.int 1))) .nl)) ig) .skip)
  (σ:=[some l.toD,some (.int (g:Int)),some (.tup (pl.map ah)),some (.int (crew:Int)),some (.loc A.length),none,none,none,none]) (S:=A++[.lst ((List.replicate g (0:Int)).map .int)]) (S1:=A++[.lst ((List.replicate g (0:Int)).map .int)])
  (s:=⟨(pl.zip l.works).map fun p=>.tup [ah p.1,p.2.toD],none,[]⟩)
  (fun i σ T=>∃ x5 x6 x7 x8,σ=[some l.toD,some (.int (g:Int)),some (.tup (pl.map ah)),some (.int (crew:Int)),some (.loc A.length),x5,x6,x7,x8]/\T=A++[.lst ((bE g crew c.2 ((pl.zip l.works).take i) (List.replicate g 0)).map .int)])
  (by rw [<- zip_map]; exact Bs (aa (r_v rfl) (aa (ao (r_v rfl) r_c (au rfl)) ai))) ⟨none,none,none,none,rfl,rfl⟩ (fun _ _ _ _=>rfl) (fun i hi σ T ⟨x5,x6,x7,x8,hσ,hT⟩=>by
   subst hσ; subst hT
   have hi':i < (pl.zip l.works).length:=by simpa using hi
   show ∃ σ' T',aJ sub (aj sub P n) _ _ (((pl.zip l.works).map fun p=>D.tup [ah p.1,p.2.toD])[i]'hi) _ _=_/\_
   rw [List.getElem_map]
   have hs:=List.take_succ_eq_append_getElem hi'
   generalize (pl.zip l.works)[i]=p at hs
   obtain ⟨b,w⟩:=p
   by_cases hw:w.crew=crew
   ·obtain ⟨x7',x8',e⟩:=B4 (sub:=sub) (cf:=aj sub P n) (l:=l) (g:=g) (b:=b) (crew:=crew) (c:=c) (D2:=.tup (pl.map ah)) (D6:=w.toD) (A:=A) (xs:=bE g crew c.2 ((pl.zip l.works).take i) (List.replicate g 0)) (x7:=x7) (x8:=x8) hc hb hg (by rw [iI,List.length_replicate])
    refine ⟨_,_,dS rfl (bK (aO (aQ (ao (r_v rfl) r_c (au rfl)) (r_v rfl) (by rw [g6,decide_eq_true hw]))) e),_,_,_,_,rfl,?_⟩
    rw [hs,f6,if_pos hw]
   ·refine ⟨_,_,dS rfl (aI (aO (aQ (ao (r_v rfl) r_c (au rfl)) (r_v rfl) (by rw [g6,decide_eq_false hw]))) aH),_,_,x7,x8,rfl,?_⟩
    rw [hs,f6,if_neg hw])
 rw [List.length_map,List.take_length] at e
 have hlen:S.length<=A.length:=by rw [<- hA]; simp
 refine x_call (ds:=[l.toD,.int (g:Int),.tup (pl.map ah),.int (crew:Int)]) hB rfl (aq (aL (aT (cz (aa r_c ai) rfl) (r_v rfl) (rR hg2))) (aq (by rw [hA]; exact e) (aG (r_v rfl)))) (ja hlen ?_ (aS _ _) ?_)
 ·rw [<- hA,List.append_assoc,bL]
 ·exact fG _
end
end RL

namespace RL
open PySem EV GO
noncomputable def fV:Fn:=⟨4,6,(.seq (.forS (.many [4,5]) (.iEnum (.call "busy_machines" (.cs (.v 0) (.cs (.v 1) (.cs (.v 2) (.cs (.v 3) .nl))))))
  (.ite (.cmp .gt (.v 5) (.ix (.ix (.ix (.v 0) (.c (.int 1))) (.v 3)) (.c (.int 0))))
  (.ret (.v 4))
  .skip))
 (.ret (.c .non)))⟩
noncomputable def bS (m:Int):Nat->List Int->Option Nat
 | _,[]=>none
 | k,x::r=>if x > m then some k else bS m (k+1) r
noncomputable def jm:EV.S:=.ite (.cmp .gt (.v 5) (.ix (.ix (.ix (.v 0) (.c (.int 1))) (.v 3)) (.c (.int 0)))) (.ret (.v 4)) .skip
theorem qv (t x:List Int):∀ r,x∈bU t r ↔ x=t\/x∈r
 | []=>by unfold bU; simp
 | u::r=>by
  unfold bU
  by_cases e:t=u
  ·rw [if_pos e]; subst e; simp
  ·rw [if_neg e]
   by_cases q:lexLe t u=true
   ·rw [if_pos q]; simp
   ·rw [if_neg q,List.mem_cons,qv t x r,List.mem_cons]; constructor
    ·rintro (h|h|h)
     ·exact .inr (.inl h)
     ·exact .inl h
     ·exact .inr (.inr h)
    ·rintro (h|h|h)
     ·exact .inr (.inl h)
     ·exact .inl h
     ·exact .inr (.inr h)
theorem pN (x:List Int):∀ ts,x∈aD ts ↔ x∈ts
 | []=>Iff.rfl
 | t::r=>by
  show x∈bU t (aD r) ↔ _
  rw [qv,pN x r,List.mem_cons]
section
variable {sub:Sub} {P:Prg} {n:Nat} {S:af}
theorem gu {s:Src} {f:D->Sg->M Fl} {d y:D} {ds:List D} {σ:Sg} {S1:af} (hs:aC s S=.ok () S) (hb:f d σ S=.ok (.rt y) S1):forL s f (d::ds) σ S=.ok (.rt y) S1:=by
 rw [fO,hs,Res.ak,hb]; rfl
theorem gH {s:Src} {f:D->Sg->M Fl} {σ:Sg} (hs:aC s S=.ok () S):forL s f [] σ S=.ok (.nx σ) S:=by
 rw [g9,hs]; rfl
theorem pB {cf:Str->List D->M D} {s:Src} {T:af} {l:Lp} {crew:Nat} {c:Nat × Nat} {D1 D2:D} (hs:aC s T=.ok () T) (hc:l.crews[crew]?=some c):∀ (xs:List Int) (k:Nat) (x4 x5:Option D),
  (∃ r,bS (c.1:Int) k xs=some r/\forL s (aJ sub cf (.many [4,5]) jm) (num k (xs.map .int)) [some l.toD,some D1,some D2,some (.int (crew:Int)),x4,x5] T=.ok (.rt (.int (r:Int))) T) \/
  (bS (c.1:Int) k xs=none/\∃ σ',forL s (aJ sub cf (.many [4,5]) jm) (num k (xs.map .int)) [some l.toD,some D1,some D2,some (.int (crew:Int)),x4,x5] T=.ok (.nx σ') T)
 | [],k,x4,x5=>.inr ⟨rfl,_,gH hs⟩
 | x::r,k,x4,x5=>by
  have ht:evT sub cf (.cmp .gt (.v 5) (.ix (.ix (.ix (.v 0) (.c (.int 1))) (.v 3)) (.c (.int 0)))) [some l.toD,some D1,some D2,some (.int (crew:Int)),some (.int (k:Int)),some (.int x)] T=.ok (decide (x > (c.1:Int))) T :=
   aO (aQ (r_v rfl) (ao (ao (ao (r_v rfl) r_c (au rfl)) (r_v rfl) (au (iC hc))) r_c (au rfl)) (iE _ _ _))
  by_cases h:x > (c.1:Int)
  ·refine .inl ⟨k,by unfold bS; rw [if_pos h],?_⟩
   rw [decide_eq_true h] at ht
   exact gu hs (dS rfl (bK ht (aG (r_v rfl))))
  ·rw [decide_eq_false h] at ht
   have e:bS (c.1:Int) k (x::r)=bS (c.1:Int) (k+1) r:=by
    show (if x > (c.1:Int) then some k else bS (c.1:Int) (k+1) r)=_
    rw [if_neg h]
   rw [e]
   have st:∀ {RF},forL s (aJ sub cf (.many [4,5]) jm) (num (k+1) (r.map .int)) [some l.toD,some D1,some D2,some (.int (crew:Int)),some (.int (k:Int)),some (.int x)] T=RF ->
     forL s (aJ sub cf (.many [4,5]) jm) (num k ((x::r).map .int)) [some l.toD,some D1,some D2,some (.int (crew:Int)),x4,x5] T=RF:=fun q=>fY hs (dS rfl (aI ht aH)) q
   rcases pB hs hc r (k+1) (some (.int (k:Int))) (some (.int x)) with ⟨q,h1,h2⟩|⟨h1,σ',h2⟩
   ·exact .inl ⟨q,h1,st h2⟩
   ·exact .inr ⟨h1,σ',st h2⟩
noncomputable def xC:Option Nat->D
 | some r=>.int (r:Int)
 | none=>.non
theorem AI (hB:Has P "busy_machines" fq) (hC:Has P "crowded_rest" fV) {l:Lp} {g:Nat} (hg:0 < g) (hg2:g<=1000) {pl:List Nat} {crew:Nat} {c:Nat × Nat} (hc:l.crews[crew]?=some c) (hb:c.2<=4) :
  aj sub P (n+2) "crowded_rest" [l.toD,.int (g:Int),.tup (pl.map ah),.int (crew:Int)] S=.ok (xC (bS (c.1:Int) 0 (bE g crew c.2 (pl.zip l.works) (List.replicate g 0)))) S:=by
 generalize hxs:bE g crew c.2 (pl.zip l.works) (List.replicate g 0)=xs
 have hbz:=CU (sub:=sub) (n:=n) (S:=S) hB (l:=l) hg hg2 (pl:=pl) hc hb
 rw [hxs] at hbz
 have hi:evI sub (aj sub P (n+1)) (.iEnum (.call "busy_machines" (.cs (.v 0) (.cs (.v 1) (.cs (.v 2) (.cs (.v 3) .nl)))))) [some l.toD,some (.int (g:Int)),some (.tup (pl.map ah)),some (.int (crew:Int)),none,none] S=.ok ⟨num 0 (xs.map .int),some S.length,xs.map .int⟩ (S++[.lst (xs.map .int)]):=by
  rw [lT,aB (aa (r_v rfl) (aa (r_v rfl) (aa (r_v rfl) (aa (r_v rfl) ai)))) hbz,Res.ak,jT (aS _ _)]; rfl
 have hs:aC ⟨num 0 (xs.map .int),some S.length,xs.map .int⟩ (S++[.lst (xs.map .int)])=.ok () (S++[.lst (xs.map .int)]):=by
  unfold aC
  have e:listAt (S++[.lst (xs.map D.int)]) S.length=some (xs.map .int):=by unfold listAt; rw [aS]
  simp only [e,decide_true]; rfl
 rcases pB (sub:=sub) (cf:=aj sub P (n+1)) (D1:=.int (g:Int)) (D2:=.tup (pl.map ah)) hs hc xs 0 none none with ⟨r,h1,h2⟩|⟨h1,σ',h2⟩
 ·rw [h1]
  exact x_call (ds:=[l.toD,.int (g:Int),.tup (pl.map ah),.int (crew:Int)]) hC rfl (cj (bO hi h2)) (lO _ _ _)
 ·rw [h1]
  exact x_call (ds:=[l.toD,.int (g:Int),.tup (pl.map ah),.int (crew:Int)]) hC rfl (aq (bO hi h2) (aG r_c)) (bw rfl (bL _ _))
theorem iy {cf:Str->List D->M D} {σ:Sg} {a:E} {x:D} {S1:af} (h:ev sub cf a σ S=.ok x S1):evT sub cf (.notN a) σ S=.ok (!decide (x=.non)) S1:=by
 rw [vO,h]; rfl
noncomputable def ku:Fn:=⟨3,6,(.seq (.forS (.one 3) (.iSeq (.call "needs" (.cs (.v 0) .nl)))
  (.ite (.cmp .lt (.call "waiting" (.cs (.v 0) (.cs (.v 1) (.cs (.v 2) (.cs (.v 3) .nl))))) (.c (.int 0)))
  (.ret (.tup (.cs (.c (.str "need")) (.cs (.v 3) .nl))))
  .skip))
 (.seq (.forS (.one 4) (.iRng (.cs (.bi .len (.cs (.ix (.v 0) (.c (.int 1))) .nl)) .nl))
  (.seq (.set (.one 5) (.call "crowded_rest" (.cs (.v 0) (.cs (.v 1) (.cs (.v 2) (.cs (.v 4) .nl))))))
 (.ite (.notN (.v 5))
  (.ret (.tup (.cs (.c (.str "crew")) (.cs (.v 4) (.cs (.v 5) .nl)))))
  .skip)))
 (.ret (.c .non))))⟩
noncomputable def iK:EV.S:=.ite (.cmp .lt (.call "waiting" (.cs (.v 0) (.cs (.v 1) (.cs (.v 2) (.cs (.v 3) .nl))))) (.c (.int 0))) (.ret (.tup (.cs (.c (.str "need")) (.cs (.v 3) .nl)))) .skip
noncomputable def iN:EV.S:=.seq (.set (.one 5) (.call "crowded_rest" (.cs (.v 0) (.cs (.v 1) (.cs (.v 2) (.cs (.v 4) .nl)))))) (.ite (.notN (.v 5)) (.ret (.tup (.cs (.c (.str "crew")) (.cs (.v 4) (.cs (.v 5) .nl))))) .skip)
noncomputable def d9 (l:Lp) (g:Nat) (pl:List Nat):List Int->Int
 | [x,i,b]=>dI l g pl x.toNat i.toNat b.toNat
 | _=>0
noncomputable def Tri (n:Nat) (t:List Int):Prop:=∃ x i b:Nat,t=[(x:Int),(i:Int),(b:Int)]/\x < n/\i < n/\b<=3
theorem oV (hw:Has P "waiting" gB) {s:Src} {T:af} {l:Lp} {g:Nat} {pl:List Nat} (hp:pl.length=l.works.length) (hs:aC s T=.ok () T):∀ (ts:List (List Int)) (x3:Option D),(∀ t∈ts,Tri l.works.length t) ->
  (∃ t,ts.find? (fun t=>decide (d9 l g pl t < 0))=some t/\forL s (aJ sub (aj sub P (n+1)) (.one 3) iK) (ts.map tupI) [some l.toD,some (.int (g:Int)),some (.tup (pl.map ah)),x3,none,none] T=.ok (.rt (.tup [.str "need",tupI t])) T) \/
  (ts.find? (fun t=>decide (d9 l g pl t < 0))=none/\∃ x3',forL s (aJ sub (aj sub P (n+1)) (.one 3) iK) (ts.map tupI) [some l.toD,some (.int (g:Int)),some (.tup (pl.map ah)),x3,none,none] T=.ok (.nx [some l.toD,some (.int (g:Int)),some (.tup (pl.map ah)),x3',none,none]) T)
 | [],x3,_=>.inr ⟨rfl,_,gH hs⟩
 | t::r,x3,h=>by
  obtain ⟨x,i,b,rfl,h1,h2,h3⟩:=h t List.mem_cons_self
  have ew:d9 l g pl [(x:Int),(i:Int),(b:Int)]=dI l g pl x i b:=rfl
  have hv:=Bk (sub:=sub) (n:=n) (S:=T) hw (g:=g) hp h1 h2 h3
  have ht:evT sub (aj sub P (n+1)) (.cmp .lt (.call "waiting" (.cs (.v 0) (.cs (.v 1) (.cs (.v 2) (.cs (.v 3) .nl))))) (.c (.int 0))) [some l.toD,some (.int (g:Int)),some (.tup (pl.map ah)),some (tupI [(x:Int),(i:Int),(b:Int)]),none,none] T=.ok (decide (dI l g pl x i b < 0)) T :=
   aO (aQ (aB (aa (r_v rfl) (aa (r_v rfl) (aa (r_v rfl) (aa (r_v rfl) ai)))) hv) r_c (lz _ _ _))
  by_cases q:dI l g pl x i b < 0
  ·rw [decide_eq_true q] at ht
   exact .inl ⟨_,by rw [List.find?_cons,ew,decide_eq_true q],gu hs (cO (bK ht (aG (cI (aa r_c (aa (r_v rfl) ai)) rfl))))⟩
  ·rw [decide_eq_false q] at ht
   rw [List.find?_cons,ew,decide_eq_false q]
   have st:∀ {RF},forL s (aJ sub (aj sub P (n+1)) (.one 3) iK) (r.map tupI) [some l.toD,some (.int (g:Int)),some (.tup (pl.map ah)),some (tupI [(x:Int),(i:Int),(b:Int)]),none,none] T=RF ->
     forL s (aJ sub (aj sub P (n+1)) (.one 3) iK) (([(x:Int),(i:Int),(b:Int)]::r).map tupI) [some l.toD,some (.int (g:Int)),some (.tup (pl.map ah)),x3,none,none] T=RF:=fun q=>fY hs (cO (aI ht aH)) q
   rcases oV hw hp hs r (some (tupI [(x:Int),(i:Int),(b:Int)])) (fun u hu=>h u (List.mem_cons_of_mem _ hu)) with ⟨u,h1,h2⟩|⟨h1,x3',h2⟩
   ·exact .inl ⟨u,h1,st h2⟩
   ·exact .inr ⟨h1,x3',st h2⟩
noncomputable def br (l:Lp) (g:Nat) (pl:List Nat) (k:Nat):Option Nat:=bS (((l.crews.getD k (0,0)).1:Nat):Int) 0 (bE g k (l.crews.getD k (0,0)).2 (pl.zip l.works) (List.replicate g 0))
noncomputable def b3 (f:Nat->Option Nat):List Nat->Option (Nat × Nat)
 | []=>none
 | k::r=>match f k with
  | some x=>some (k,x)
  | none=>b3 f r
theorem nO (hB:Has P "busy_machines" fq) (hC:Has P "crowded_rest" fV) {s:Src} {T:af} {l:Lp} (hl:l.WF) {g:Nat} (hg:0 < g) (hg2:g<=1000) {pl:List Nat} {D3:Option D} (hs:aC s T=.ok () T):∀ (ks:List Nat) (x4 x5:Option D),(∀ k∈ks,k < l.crews.length) ->
  (∃ k r,b3 (br l g pl) ks=some (k,r)/\forL s (aJ sub (aj sub P (n+2)) (.one 4) iN) (ks.map ah) [some l.toD,some (.int (g:Int)),some (.tup (pl.map ah)),D3,x4,x5] T=.ok (.rt (.tup [.str "crew",.int (k:Int),.int (r:Int)])) T) \/
  (b3 (br l g pl) ks=none/\∃ σ',forL s (aJ sub (aj sub P (n+2)) (.one 4) iN) (ks.map ah) [some l.toD,some (.int (g:Int)),some (.tup (pl.map ah)),D3,x4,x5] T=.ok (.nx σ') T)
 | [],x4,x5,_=>.inr ⟨rfl,_,gH hs⟩
 | k::r,x4,x5,h=>by
  have hk:=h k List.mem_cons_self
  have hc:l.crews[k]?=some (l.crews.getD k (0,0)):=by rw [List.getD_eq_getElem?_getD,List.getElem?_eq_getElem hk]; rfl
  have hv:=AI (sub:=sub) (n:=n) (S:=T) hB hC hg hg2 (pl:=pl) hc (hl.crews _ (List.mem_of_getElem? hc)).2.2
  have hset:=fun {x5:Option D}=>aL (sub:=sub) (cf:=aj sub P (n+2)) (σ:=[some l.toD,some (.int (g:Int)),some (.tup (pl.map ah)),D3,some (.int (k:Int)),x5]) (i:=5) (aB (f:="crowded_rest") (aa (r_v (i:=0) rfl) (aa (r_v (i:=1) rfl) (aa (r_v (i:=2) rfl) (aa (r_v (i:=4) rfl) ai)))) hv)
  cases q:br l g pl k with
  | some x =>
   refine .inl ⟨k,x,by show (match br l g pl k with|some x=>some (k,x)|none=>b3 (br l g pl) r)=_; rw [q],?_⟩
   rw [show bS _ _ _=some x from q] at hset
   exact gu hs (cO (aq hset (bK (t_k (iy (x:=.int (x:Int)) (r_v rfl)) rfl) (aG (cI (aa r_c (aa (r_v rfl) (aa (r_v rfl) ai))) rfl)))))
  | none =>
   rw [show bS _ _ _=none from q] at hset
   have e:b3 (br l g pl) (k::r)=b3 (br l g pl) r:=by
    show (match br l g pl k with|some x=>some (k,x)|none=>b3 (br l g pl) r)=_
    rw [q]
   rw [e]
   have st:∀ {RF},forL s (aJ sub (aj sub P (n+2)) (.one 4) iN) (r.map ah) [some l.toD,some (.int (g:Int)),some (.tup (pl.map ah)),D3,some (.int (k:Int)),some .non] T=RF ->
     forL s (aJ sub (aj sub P (n+2)) (.one 4) iN) ((k::r).map ah) [some l.toD,some (.int (g:Int)),some (.tup (pl.map ah)),D3,x4,x5] T=RF:=fun q=>fY hs (cO (aq hset (aI (t_k (iy (x:=.non) (r_v rfl)) rfl) aH))) q
   rcases nO hB hC hl hg hg2 hs r (some (.int (k:Int))) (some .non) (fun u hu=>h u (List.mem_cons_of_mem _ hu)) with ⟨k',r',h1,h2⟩|⟨h1,σ',h2⟩
   ·exact .inl ⟨k',r',h1,st h2⟩
   ·exact .inr ⟨h1,σ',st h2⟩
noncomputable def ck (l:Lp) (g:Nat) (pl:List Nat):D:=match (aD (aF 0 l.works)).find? (fun t=>decide (d9 l g pl t < 0)) with
 | some t=>.tup [.str "need",tupI t]
 | none=>match b3 (br l g pl) (List.range l.crews.length) with
  | some (k,r)=>.tup [.str "crew",.int (k:Int),.int (r:Int)]
  | none=>.non
theorem nv {l:Lp} (hl:l.WF):∀ t∈aD (aF 0 l.works),Tri l.works.length t:=fun t ht=>by
 obtain ⟨i,w,b,x,h1,h2,rfl⟩:=ji ((pN t _).mp ht)
 have hw:=hl.works i w h1
 have hi:=(List.getElem?_eq_some_iff.mp h1).1
 have:=hw.srcs _ h2
 obtain ⟨hb,hx⟩:=(show b<=3/\x < (if b=0 then i else l.works.length) from this)
 refine ⟨x,i,b,by rw [Nat.zero_add],?_,hi,hb⟩
 split at hx <;> omega
theorem yW (h:HB P) (hn:Has P "needs" iP) (hw:Has P "waiting" gB) (hB:Has P "busy_machines" fq) (hC:Has P "crowded_rest" fV) (hF:Has P "fault" ku)
  {l:Lp} (hl:l.WF) (h6:l.works.length<=6) {g:Nat} (hg:0 < g) (hg2:g<=1000) {pl:List Nat} (hp:pl.length=l.works.length) :
  aj sub P (n+9) "fault" [l.toD,.int (g:Int),.tup (pl.map ah)] S=.ok (ck l g pl) S:=by
 have hnd:=vS (sub:=sub) (n:=n) (S:=S) h hn hl h6
 have hi:evI sub (aj sub P (n+8)) (.iSeq (.call "needs" (.cs (.v 0) .nl))) [some l.toD,some (.int (g:Int)),some (.tup (pl.map ah)),none,none,none] S=.ok ⟨(aD (aF 0 l.works)).map tupI,some S.length,(aD (aF 0 l.works)).map tupI⟩ (S++[.lst ((aD (aF 0 l.works)).map tupI)]) :=
  eu (aB (aa (r_v rfl) ai) hnd) (jT (aS _ _))
 have hs:aC ⟨(aD (aF 0 l.works)).map tupI,some S.length,(aD (aF 0 l.works)).map tupI⟩ (S++[.lst ((aD (aF 0 l.works)).map tupI)])=.ok () (S++[.lst ((aD (aF 0 l.works)).map tupI)]):=by
  unfold aC
  have e:listAt (S++[.lst ((aD (aF 0 l.works)).map tupI)]) S.length=some ((aD (aF 0 l.works)).map tupI):=by unfold listAt; rw [aS]
  simp only [e,decide_true]; rfl
 unfold ck
 rcases oV (sub:=sub) (n:=n+7) hw (g:=g) hp hs (aD (aF 0 l.works)) none (nv hl) with ⟨t,h1,h2⟩|⟨h1,x3,h2⟩
 ·rw [h1]
  exact x_call (ds:=[l.toD,.int (g:Int),.tup (pl.map ah)]) hF rfl (cj (bO hi h2)) (bw (show (true&&(D.lows 0 (t.map .int)&&true))=true by rw [fG]; rfl) (bL _ _))
 ·rw [h1]
  have hr:evI sub (aj sub P (n+8)) (.iRng (.cs (.bi .len (.cs (.ix (.v 0) (.c (.int 1))) .nl)) .nl)) [some l.toD,some (.int (g:Int)),some (.tup (pl.map ah)),x3,none,none] (S++[.lst ((aD (aF 0 l.works)).map tupI)])=.ok ⟨(List.range l.crews.length).map ah,none,[]⟩ (S++[.lst ((aD (aF 0 l.works)).map tupI)]) :=
   cX (aa (aN (aa (ao (r_v rfl) r_c (au rfl)) ai) cW) ai) (by rw [List.length_map]) (by have:=hl.ncrews; omega) fun _=>rfl
  rcases nO (sub:=sub) (n:=n+6) hB hC hl hg hg2 (pl:=pl) (D3:=x3) (T:=S++[.lst ((aD (aF 0 l.works)).map tupI)]) (s:=⟨(List.range l.crews.length).map ah,none,[]⟩) rfl (List.range l.crews.length) none none (fun k hk=>List.mem_range.mp hk) with ⟨k,r,h3,h4⟩|⟨h3,σ',h4⟩
  ·rw [h3]
   exact x_call (ds:=[l.toD,.int (g:Int),.tup (pl.map ah)]) hF rfl (aq (bO hi h2) (cj (bO hr h4))) (bw rfl (bL _ _))
  ·rw [h3]
   exact x_call (ds:=[l.toD,.int (g:Int),.tup (pl.map ah)]) hF rfl (aq (bO hi h2) (aq (bO hr h4) (aG r_c))) (bw rfl (bL _ _))
end
end RL

namespace RL
open PySem EV GO
noncomputable def qc (l:Lp) (w:Wk):Nat:=max w.long (l.crews.getD w.crew (0,0)).2
noncomputable def wj (l:Lp):Nat->List Wk->List Nat
 | _,[]=>[]
 | t,w::r=>t::wj l (t+qc l w) r
noncomputable def AB (l:Lp):Nat->List Wk->Nat
 | t,[]=>t
 | t,w::r=>AB l (t+qc l w) r
noncomputable def Low (t:Nat) (xs:List Int):Prop:=∀ r,xs.getD r 0<=1/\(t<=r->xs.getD r 0=0)
theorem Low.mono {t t':Nat} {xs:List Int} (h:Low t xs) (e:t<=t'):Low t' xs:=fun r=>⟨(h r).1,fun q=>(h r).2 (by omega)⟩
end RL

namespace RL
open PySem EV GO
noncomputable def mT:Fn:=⟨3,3,(.seq (.ex (.call "checked" (.cs (.v 0) .nl)))
 (.seq (.ex (.call "checked_gap" (.cs (.v 1) .nl)))
 (.ret (.call "fault" (.cs (.v 0) (.cs (.v 1) (.cs (.call "checked_plan" (.cs (.v 0) (.cs (.v 2) .nl))) .nl)))))))⟩
noncomputable def ER:Fn:=⟨1,5,(.seq (.set (.one 1) (.ix (.call "checked" (.cs (.v 0) .nl)) (.c (.int 1))))
 (.seq (.set (.one 2) (.lst .nl))
 (.seq (.set (.one 3) (.c (.int 0)))
 (.seq (.forS (.one 4) (.iSeq (.ix (.v 0) (.c (.int 2))))
  (.seq (.ex (.me .append (.v 2) (.cs (.v 3) .nl)))
 (.set (.one 3) (.bin .add (.v 3) (.bi .max (.cs (.ix (.v 4) (.c (.int 1))) (.cs (.ix (.ix (.v 1) (.ix (.v 4) (.c (.int 0)))) (.c (.int 1))) .nl)))))))
 (.ret (.tup (.cs (.v 3) (.cs (.bi .tuple (.cs (.v 2) .nl)) .nl))))))))⟩
structure HP (P:Prg):Prop where
 needs:Has P "needs" iP
 gap:Has P "checked_gap" mC
 isplan:Has P "is_plan" rZ
 plan:Has P "checked_plan" oN
 waiting:Has P "waiting" gB
 busy:Has P "busy_machines" fq
 crowded:Has P "crowded_rest" fV
 fault:Has P "fault" ku
 wrong:Has P "wrong" mT
section
variable {sub:Sub} {P:Prg} {n:Nat} {S:af}
theorem qo (pl:List Nat):D.lows 0 (pl.map ah)=true:=by
 induction pl with
 | nil=>rfl
 | cons a r ih=>show (D.low 0 (ah a)&&D.lows 0 (r.map ah))=true; rw [ih]; rfl
theorem tN (h:HB P) (hp:HP P) {g:Nat} (h1:1<=g) (h2:g<=200):aj sub P (n+2) "checked_gap" [.int (g:Int)] S=.ok (.int (g:Int)) S :=
 x_call (ds:=[.int (g:Int)]) hp.gap rfl (aq (aI (bx (k:=true) (bD (aB (aa (r_v rfl) (aa r_c (aa r_c ai))) (cg h.whole (Int.ofNat_le.mpr h1) (Int.ofNat_le.mpr h2))))) aH) (aG (r_v rfl))) (k6 _ _)
theorem vE (h:HB P) (hp:HP P) {pl:List Nat} {m:Nat} (hl:pl.length=m) (hm:m<=1000) (ht:∀ t∈pl,t<=999):aj sub P (n+2) "is_plan" [.tup (pl.map ah),.int (m:Int)] S=.ok (.bl true) S:=by
 obtain ⟨T,e⟩:=jo (sub:=sub) (cf:=aj sub P (n+1)) (σ:=[some (.tup (pl.map ah)),some (.int (m:Int))]) (S:=S) (i:=3) (k:=2) (el:=.call "is_whole" (.cs (.v 3) (.cs (.c (.int 0)) (.cs (.c (.int 999)) .nl)))) (a:=.v 0) (l:=pl) (f:=ah) (r_v rfl) (by omega)
  (fun t hm=>aB (aa (r_v rfl) (aa r_c (aa r_c ai))) (cg h.whole (Int.natCast_nonneg t) (Int.ofNat_le.mpr (ht t hm))))
 exact x_call (ds:=[.tup (pl.map ah),.int (m:Int)]) hp.isplan rfl (aG (dN (aB (aa (r_v rfl) (aa (r_v rfl) (aa (r_v rfl) ai))) (fu h.row m (by rw [List.length_map,hl]) (Int.le_refl _) (Int.le_refl _))) e)) (f9 _ _ _)
theorem Dl (h:HB P) (hp:HP P) {l:Lp} (hl8:l.works.length<=8) {pl:List Nat} (hl:pl.length=l.works.length) (ht:∀ t∈pl,t<=999):aj sub P (n+3) "checked_plan" [l.toD,.tup (pl.map ah)] S=.ok (.tup (pl.map ah)) S:=by
 have e:biD sub .len [.tup (l.works.map Wk.toD)] S=.ok (.int ((l.works.length:Nat):Int)) S:=by rw [cW,List.length_map]
 exact x_call (ds:=[l.toD,.tup (pl.map ah)]) hp.plan rfl (aq (aI (bx (k:=true) (bD (aB (aa (r_v rfl) (aa (aN (aa (ao (r_v rfl) r_c (au rfl)) ai) e) ai)) (vE h hp hl (by omega) ht)))) aH) (aG (r_v rfl))) (bw (qo pl) List.take_length)
theorem vh (l:Lp) (g:Nat) (pl:List Nat):(ck l g pl).cl:=by
 unfold ck
 split
 ·rename_i t _
  show (true&&(D.lows 0 (t.map .int)&&true))=true
  rw [fG]; rfl
 ·split <;> rfl
theorem tX (h:HB P) (hp:HP P) {l:Lp} (hl:l.WF) (h6:l.works.length<=6) {g:Nat} (h1:1<=g) (h2:g<=200) {pl:List Nat} (hpl:pl.length=l.works.length) (ht:∀ t∈pl,t<=999) :
  aj sub P (n+10) "wrong" [l.toD,.int (g:Int),.tup (pl.map ah)] S=.ok (ck l g pl) S :=
 x_call (ds:=[l.toD,.int (g:Int),.tup (pl.map ah)]) hp.wrong rfl (aq (iF (aB (aa (r_v rfl) ai) (sr h hl))) (aq (iF (aB (aa (r_v rfl) ai) (tN h hp h1 h2)))
  (aG (aB (aa (r_v rfl) (aa (r_v rfl) (aa (aB (aa (r_v rfl) (aa (r_v rfl) ai)) (Dl h hp (by omega) hpl ht)) ai))) (yW h hp.needs hp.waiting hp.busy hp.crowded hp.fault hl h6 h1 (by omega) hpl))))) (bw (vh l g pl) List.take_length)
end
end RL

namespace RL
open PySem EV GO
noncomputable def jA:Fn:=⟨1,5,(.seq (.set (.one 1) (.lst .nl))
 (.seq (.forS (.many [2,3]) (.iEnum (.ix (.v 0) (.c (.int 2))))
  (.forS (.one 4) (.iSeq (.ix (.v 3) (.c (.int 3))))
  (.ite (.and (.cmp .eq (.ix (.v 4) (.c (.int 0))) (.c (.str "work"))) (.cmp .b7 (.tup (.cs (.ix (.v 4) (.c (.int 1))) (.cs (.v 2) (.cs (.ix (.v 4) (.c (.int 2))) .nl)))) (.v 1)))
  (.ex (.me .append (.v 1) (.cs (.tup (.cs (.ix (.v 4) (.c (.int 1))) (.cs (.v 2) (.cs (.ix (.v 4) (.c (.int 2))) .nl)))) .nl)))
  .skip)))
 (.ret (.bi .sorted (.cs (.v 1) .nl)))))⟩
noncomputable def bV (acc:List (List Int)) (t:List Int):List (List Int):=if t∈acc then acc else acc++[t]
noncomputable def uniq (acc ts:List (List Int)):List (List Int):=ts.foldl bV acc
theorem zN (acc:List (List Int)) (t x:List Int):x∈bV acc t ↔ x∈acc\/x=t:=by
 unfold bV
 split
 ·rename_i h
  exact ⟨.inl,fun q=>q.elim id fun e=>e ▸ h⟩
 ·simp
theorem vM {acc:List (List Int)} (t:List Int) (h:acc.Nodup):(bV acc t).Nodup:=by
 unfold bV
 split
 ·exact h
 ·rename_i q
  refine List.nodup_append.mpr ⟨h,by simp,fun a ha b hb e=>?_⟩
  rw [List.mem_singleton.mp hb] at e
  exact q (e ▸ ha)
theorem zL (acc:List (List Int)) (t:List Int):(bV acc t).length<=acc.length+1:=by
 unfold bV
 split
 ·omega
 ·simp
theorem lA (x:List Int):∀ (ts acc:List (List Int)),x∈uniq acc ts ↔ x∈acc\/x∈ts
 | [],acc=>by unfold uniq; simp
 | t::r,acc=>by
  show x∈uniq (bV acc t) r ↔ _
  rw [lA x r,zN,List.mem_cons,or_assoc]
theorem qy:∀ (ts acc:List (List Int)),acc.Nodup->(uniq acc ts).Nodup
 | [],_,h=>h
 | t::r,_,h=>qy r _ (vM t h)
theorem kX:∀ (ts acc:List (List Int)),(uniq acc ts).length<=acc.length+ts.length
 | [],acc=>by unfold uniq; simp
 | t::r,acc=>by
  have h1:=kX r (bV acc t)
  have h2:=zL acc t
  show (uniq (bV acc t) r).length<=_
  rw [List.length_cons]
  omega
theorem rD (acc xs ys:List (List Int)):uniq acc (xs++ys)=uniq (uniq acc xs) ys:=List.foldl_append
theorem As (ts:List (List Int)):aD (uniq [] ts)=aD ts:=jy (jk _) fun y=>by
 rw [jB,lA]; simp
noncomputable def g_:List Int->List Int->Bool
 | a::r,b::q=>(a==b)&&g_ r q
 | _,_=>true
theorem oY:∀ u t:List Int,(g_ u t&&(u.length==t.length))=decide (u=t)
 | [],[]=>rfl
 | [],_::_=>rfl
 | _::_,[]=>rfl
 | a::r,b::q=>by
  have ih:=oY r q
  have e1:((a::r).length==(b::q).length)=(r.length==q.length):=by
   rw [List.length_cons,List.length_cons]
   by_cases h:r.length=q.length
   ·rw [h,beq_self_eq_true,beq_self_eq_true]
   ·rw [beq_eq_false_iff_ne.mpr h,beq_eq_false_iff_ne.mpr (by omega)]
  show ((a==b)&&g_ r q&&((a::r).length==(b::q).length))=_
  rw [e1,Bool.and_assoc,ih]
  by_cases h:a=b
  ·subst h
   rw [beq_self_eq_true,Bool.true_and]
   by_cases h:r=q
   ·subst h; rw [decide_eq_true rfl,decide_eq_true rfl]
   ·rw [decide_eq_false h,decide_eq_false fun e=>h (List.cons.inj e).2]
  ·rw [beq_eq_false_iff_ne.mpr h,Bool.false_and,decide_eq_false fun e=>h (List.cons.inj e).1]
theorem mW {S:af} (n:Nat):∀ u t:List Int,aY (eqD (n+1) S) (u.map .int) (t.map .int)=some (g_ u t)
 | [],[]=>rfl
 | [],_::_=>rfl
 | _::_,[]=>rfl
 | a::r,b::q=>by
  show (match eqD (n+1) S (.int a) (.int b),aY (eqD (n+1) S) (r.map .int) (q.map .int) with|some a,some b=>some (a&&b)|_,_=>none)=_
  rw [mW n r q]; rfl
theorem yX {S:af} (u t:List Int):eqD deep S (tupI u) (tupI t)=some (decide (u=t)):=by
 show (aY (eqD 11 S) (u.map .int) (t.map .int)).map (fun r=>r&&((u.map D.int).length==(t.map D.int).length))=_
 rw [mW 10,List.length_map,List.length_map,<- oY]; rfl
theorem oF {S:af} (t:List Int):∀ ts:List (List Int),inL S (tupI t) (ts.map tupI)=some (decide (t∈ts))
 | []=>by simp [inL]
 | u::r=>by
  show (match eqD deep S (tupI u) (tupI t),inL S (tupI t) (r.map tupI) with|some a,some b=>some (a||b)|_,_=>none)=_
  rw [yX,oF t r]
  show some (decide (u=t)||decide (t∈r))=_
  congr 1
  by_cases h:u=t
  ·subst h; simp
  ·rw [decide_eq_false h,Bool.false_or]
   by_cases q:t∈r
   ·rw [decide_eq_true q,decide_eq_true (List.mem_cons_of_mem _ q)]
   ·rw [decide_eq_false q,decide_eq_false]
    intro z
    rcases List.mem_cons.mp z with z|z
    ·exact h z.symm
    ·exact q z
section
variable {sub:Sub} {P:Prg} {n:Nat} {S:af}
theorem Bl {T:af} {k:Nat} {ts:List (List Int)} {t:List Int} (hk:T[k]?=some (.lst (ts.map tupI))):cmD .b7 (tupI t) (.loc k) T=.ok (.bl (!decide (t∈ts))) T:=by
 show (items (.loc k)>>=fun ys=>inA true (tupI t) ys) T=_
 rw [az,dW hk]
 simp only [Res.ak]
 unfold inA
 rw [oF]
 show Res.ok (D.bl (decide (t∈ts) != true)) T=_
 cases decide (t∈ts) <;> rfl
theorem DP {T:af} {k:Nat} {ts:List (List Int)} (hk:T[k]?=some (.lst (ts.map tupI))) (h1:ts.length < 64) (h2:ts.Nodup) (h3:(ts.all fun t=>!t.isEmpty)=true):biD sub .sorted [.loc k] T=.ok (.loc T.length) (T++[.lst ((aD ts).map tupI)]):=by
 show (items (.loc k)>>=fun ds=>gk ds) T=_
 rw [az,dW hk]
 simp only [Res.ak]
 cases ts with
 | nil=>rfl
 | cons t r =>
  show i7 (tups ((t::r).map tupI)) T=_
  rw [lW]
  show guard (decide ((t::r).length < 64)&&decide (t::r).Nodup&&(t::r).all fun t=>!t.isEmpty) (alloc (.lst ((aD (t::r)).map tupI))) T=_
  rw [h3,decide_eq_true h1,decide_eq_true h2]; rfl
theorem vR {T:af} {is:List Int} (h1:is.length < 64):biD sub .sorted [.tup (is.map .int)] T=.ok (.loc T.length) (T++[.lst ((cV is).map .int)]):=by
 show (items (.tup (is.map .int))>>=fun ds=>gk ds) T=_
 rw [az]
 show qI (i7 (tups (is.map .int))) (allInts (is.map .int)) T=_
 rw [allI]
 show guard (decide (is.length < 64)) (alloc (.lst ((cV is).map .int))) T=_
 rw [decide_eq_true h1]; rfl
noncomputable def gF:EV.S:=.ite (.and (.cmp .eq (.ix (.v 4) (.c (.int 0))) (.c (.str "work"))) (.cmp .b7 (.tup (.cs (.ix (.v 4) (.c (.int 1))) (.cs (.v 2) (.cs (.ix (.v 4) (.c (.int 2))) .nl)))) (.v 1)))
  (.ex (.me .append (.v 1) (.cs (.tup (.cs (.ix (.v 4) (.c (.int 1))) (.cs (.v 2) (.cs (.ix (.v 4) (.c (.int 2))) .nl)))) .nl)))
  .skip
theorem need_one {cf:Str->List D->M D} {l0:D} {i:Nat} {w:D} {s:Srs} {acc:List (List Int)} (hz:acc.length<=1000) :
  exec sub cf gF [some l0,some (.loc S.length),some (.int (i:Int)),some w,some s.toD] (S++[.lst (acc.map tupI)])=.ok (.nx [some l0,some (.loc S.length),some (.int (i:Int)),some w,some s.toD]) (S++[.lst ((match bN i s with|some t=>bV acc t|none=>acc).map tupI)]):=by
 cases s with
 | val v=>exact aI (iz (aO (aQ (ao (r_v rfl) r_c (au rfl)) r_c rfl))) aH
 | inp k=>exact aI (iz (aO (aQ (ao (r_v rfl) r_c (au rfl)) r_c rfl))) aH
 | wrk x b =>
  have hn:=Bl (t:=[(x:Int),(i:Int),(b:Int)]) (aS S (.lst (acc.map tupI)))
  have ht:evT sub cf (.and (.cmp .eq (.ix (.v 4) (.c (.int 0))) (.c (.str "work"))) (.cmp .b7 (.tup (.cs (.ix (.v 4) (.c (.int 1))) (.cs (.v 2) (.cs (.ix (.v 4) (.c (.int 2))) .nl)))) (.v 1)))
    [some l0,some (.loc S.length),some (.int (i:Int)),some w,some (Srs.wrk x b).toD] (S++[.lst (acc.map tupI)])=.ok (!decide ([(x:Int),(i:Int),(b:Int)]∈acc)) (S++[.lst (acc.map tupI)]) :=
   fP (aO (aQ (ao (r_v rfl) r_c (au rfl)) r_c rfl)) (aO (aQ (cI (aa (ao (r_v rfl) r_c (au rfl)) (aa (r_v rfl) (aa (ao (r_v rfl) r_c (au rfl)) ai))) rfl) (r_v rfl) hn))
  show _=Res.ok (Fl.nx _) (S++[.lst ((bV acc [(x:Int),(i:Int),(b:Int)]).map tupI)])
  unfold bV
  by_cases h:[(x:Int),(i:Int),(b:Int)]∈acc
  ·rw [if_pos h]
   rw [decide_eq_true h] at ht
   exact aI ht aH
  ·rw [if_neg h]
   rw [decide_eq_false h] at ht
   rw [List.map_append]
   exact bK ht (iF (j5 (r_v rfl) (aa (cI (aa (ao (r_v rfl) r_c (au rfl)) (aa (r_v rfl) (aa (ao (r_v rfl) r_c (au rfl)) ai))) rfl) ai) (vG (by rw [List.length_map]; omega))))
theorem Ef (i:Nat) (s:Srs) (acc:List (List Int)) (ss:List Srs):uniq acc ((ss++[s]).filterMap (bN i))=match bN i s with|some t=>bV (uniq acc (ss.filterMap (bN i))) t|none=>uniq acc (ss.filterMap (bN i)):=by
 rw [List.filterMap_append,rD]
 cases h:bN i s with
 | none=>rw [List.filterMap_cons_none h]; rfl
 | some t=>rw [List.filterMap_cons_some h]; rfl
theorem DF {cf:Str->List D->M D} {l0:D} {i:Nat} {w:Wk} {acc:List (List Int)} {x4:Option D} (hz:acc.length<=100) (hw:w.srcs.length<=3) :
  ∃ x4',exec sub cf (.forS (.one 4) (.iSeq (.ix (.v 3) (.c (.int 3)))) gF) [some l0,some (.loc S.length),some (.int (i:Int)),some w.toD,x4] (S++[.lst (acc.map tupI)]) =
   .ok (.nx [some l0,some (.loc S.length),some (.int (i:Int)),some w.toD,x4']) (S++[.lst ((uniq acc (w.srcs.filterMap (bN i))).map tupI)]):=by
 obtain ⟨σ',T',e,x4',rfl,rfl⟩:=eL (sub:=sub) (cf:=cf) (t:=.one 4) (it:=.iSeq (.ix (.v 3) (.c (.int 3)))) (b:=gF) (σ:=[some l0,some (.loc S.length),some (.int (i:Int)),some w.toD,x4]) (S:=S++[.lst (acc.map tupI)]) (S1:=S++[.lst (acc.map tupI)]) (s:=⟨w.srcs.map Srs.toD,none,w.srcs.map Srs.toD⟩)
  (fun j σ T=>∃ x4,σ=[some l0,some (.loc S.length),some (.int (i:Int)),some w.toD,x4]/\T=S++[.lst ((uniq acc ((w.srcs.take j).filterMap (bN i))).map tupI)])
  (eu (ao (r_v rfl) r_c (au rfl)) rfl) ⟨x4,rfl,rfl⟩ (fun _ _ _ _=>rfl) (fun j hj σ T ⟨x4,hσ,hT⟩=>by
   subst hσ; subst hT
   have hj':j < w.srcs.length:=by simpa using hj
   have hit:(w.srcs.map Srs.toD)[j]'hj=(w.srcs[j]).toD:=List.getElem_map _
   show ∃ σ' T',aJ sub cf (.one 4) gF ((w.srcs.map Srs.toD)[j]'hj) _ _=_/\_
   rw [hit]
   have h1:=kX ((w.srcs.take j).filterMap (bN i)) acc
   have h2:((w.srcs.take j).filterMap (bN i)).length<=(w.srcs.take j).length:=List.length_filterMap_le _ _
   rw [List.length_take] at h2
   refine ⟨_,_,cO (need_one (by omega)),some (w.srcs[j]).toD,rfl,?_⟩
   rw [List.take_succ_eq_append_getElem hj',Ef])
 rw [List.length_map,List.take_length] at e
 exact ⟨x4',e⟩
theorem BO (hn:Has P "_law_needs" jA) {l:Lp} (hl:l.WF) (h6:l.works.length<=6):aj sub P (n+1) "_law_needs" [l.toD] S=.ok (.loc S.length) (S++[.lst ((aD (aF 0 l.works)).map tupI)]):=by
 have h3:∀ w∈l.works,w.srcs.length<=3:=fun w hw=>by
  obtain ⟨i,hi⟩:=List.getElem?_of_mem hw
  exact (hl.works i w hi).some.2
 have hnl:∀ i,(uniq [] (aF 0 (l.works.take i))).length<=18:=fun i=>by
  have h1:=kB (l.works.take i) 0 fun w hw=>h3 w (List.mem_of_mem_take hw)
  have h2:=kX (aF 0 (l.works.take i)) []
  rw [List.length_take] at h1
  rw [List.length_nil] at h2
  omega
 have hnum:(num 0 (l.works.map Wk.toD)).length=l.works.length:=by rw [fF,List.length_map]
 obtain ⟨σ',T',e,x2,x3,x4,rfl,rfl⟩:=eL (sub:=sub) (cf:=aj sub P n) (t:=.many [2,3]) (it:=.iEnum (.ix (.v 0) (.c (.int 2)))) (b:=.forS (.one 4) (.iSeq (.ix (.v 3) (.c (.int 3)))) gF)
  (σ:=[some l.toD,some (.loc S.length),none,none,none]) (S:=S++[.lst []]) (S1:=S++[.lst []]) (s:=⟨num 0 (l.works.map Wk.toD),none,l.works.map Wk.toD⟩)
  (fun i σ T=>∃ x2 x3 x4,σ=[some l.toD,some (.loc S.length),x2,x3,x4]/\T=S++[.lst ((uniq [] (aF 0 (l.works.take i))).map tupI)])
  (by rw [lT,ao (r_v rfl) r_c (au rfl),Res.ak]; rfl) ⟨none,none,none,rfl,rfl⟩ (fun _ _ _ _=>rfl) (fun i hi σ T ⟨x2,x3,x4,hσ,hT⟩=>by
   subst hσ; subst hT
   have hi':i < l.works.length:=by rw [<- hnum]; exact hi
   have hit:(num 0 (l.works.map Wk.toD))[i]=.tup [.int (i:Int),(l.works[i]).toD]:=by
    rw [jl]; simp
   show ∃ σ' T',aJ sub (aj sub P n) _ _ (num 0 (l.works.map Wk.toD))[i] _ _=_/\_
   rw [hit]
   have h1:=hnl i
   obtain ⟨x4',e⟩:=DF (sub:=sub) (cf:=aj sub P n) (S:=S) (l0:=l.toD) (i:=i) (w:=l.works[i]) (acc:=uniq [] (aF 0 (l.works.take i))) (x4:=x4) (by omega) (h3 _ (List.getElem_mem hi'))
   refine ⟨_,_,dS rfl e,some (.int (i:Int)),some (l.works[i]).toD,x4',rfl,?_⟩
   rw [jd _ _ _ hi',Nat.zero_add,rD])
 rw [hnum,List.take_length] at e
 have ne:((uniq [] (aF 0 l.works)).all fun t=>!t.isEmpty)=true:=List.all_eq_true.mpr fun t ht=>by
  obtain ⟨i,w,b,x,_,_,rfl⟩:=ji (((lA t _ _).mp ht).elim (fun z=>by cases z) id)
  rfl
 have hl18:=hnl l.works.length
 rw [List.take_length] at hl18
 rw [<- As]
 refine x_call (ds:=[l.toD]) hn rfl (aq (aL (cz ai rfl)) (aq e (aG (aN (aa (r_v rfl) ai) (DP (aS _ _) (by omega) (qy _ _ List.nodup_nil) ne))))) (ja (by simp) ?_ (aS _ _) (oM _))
 rw [List.append_assoc,bL]
end
end RL

namespace RL
open PySem EV GO
noncomputable def iU:Fn:=⟨4,9,(.seq (.set (.one 4) (.bin .mul (.lst (.cs (.c (.int 0)) .nl)) (.v 1)))
 (.seq (.forS (.many [5,6]) (.iEnum (.ix (.v 0) (.c (.int 2))))
  (.ite (.cmp .eq (.ix (.v 6) (.c (.int 0))) (.v 3))
  (.forS (.one 7) (.iRng (.cs (.ix (.ix (.ix (.v 0) (.c (.int 1))) (.v 3)) (.c (.int 1))) .nl))
  (.seq (.set (.one 8) (.bin .mod (.bin .add (.ix (.v 2) (.v 5)) (.v 7)) (.v 1)))
 (.setIx (.v 4) (.v 8) (.bin .add (.ix (.v 4) (.v 8)) (.c (.int 1))))))
  .skip))
 (.ret (.v 4))))⟩
noncomputable def qT:Fn:=⟨3,8,(.seq (.forS (.one 3) (.iSeq (.call "_law_needs" (.cs (.v 0) .nl)))
  (.seq (.set (.one 4) (.bin .add (.ix (.v 2) (.ix (.v 3) (.c (.int 0)))) (.ix (.ix (.ix (.v 0) (.c (.int 2))) (.ix (.v 3) (.c (.int 0)))) (.c (.int 1)))))
 (.ite (.cmp .gt (.v 4) (.bin .add (.ix (.v 2) (.ix (.v 3) (.c (.int 1)))) (.bin .mul (.ix (.v 3) (.c (.int 2))) (.v 1))))
  (.ret (.tup (.cs (.c (.str "need")) (.cs (.v 3) .nl))))
  .skip)))
 (.seq (.forS (.one 5) (.iRng (.cs (.bi .len (.cs (.ix (.v 0) (.c (.int 1))) .nl)) .nl))
  (.seq (.set (.one 6) (.call "_law_busy" (.cs (.v 0) (.cs (.v 1) (.cs (.v 2) (.cs (.v 5) .nl))))))
 (.seq (.set (.one 7) (.comp 2 (.v 9) (.one 9) (.iRng (.cs (.v 1) .nl)) (.cmp .gt (.ix (.v 6) (.v 9)) (.ix (.ix (.ix (.v 0) (.c (.int 1))) (.v 5)) (.c (.int 0))))))
 (.ite (.cmp .ne (.v 7) (.lst .nl))
  (.ret (.tup (.cs (.c (.str "crew")) (.cs (.v 5) (.cs (.ix (.v 7) (.c (.int 0))) .nl)))))
  .skip))))
 (.ret (.c .non))))⟩
noncomputable def jf:EV.S:=(.seq (.set (.one 8) (.bin .mod (.bin .add (.ix (.v 2) (.v 5)) (.v 7)) (.v 1)))
 (.setIx (.v 4) (.v 8) (.bin .add (.ix (.v 4) (.v 8)) (.c (.int 1)))))
section
variable {sub:Sub} {P:Prg} {n:Nat} {S:af}
theorem sV {cf:Str->List D->M D} {l:Lp} {g i crew:Nat} {c:Nat × Nat} {pl:List Nat} {D6:D} {A:af} {xs:List Int} {x7 x8:Option D} (hi:i < pl.length) (hc:l.crews[crew]?=some c) (hb:c.2<=4) (hg:0 < g) (hx:xs.length=g) :
  ∃ x7' x8',exec sub cf (.forS (.one 7) (.iRng (.cs (.ix (.ix (.ix (.v 0) (.c (.int 1))) (.v 3)) (.c (.int 1))) .nl)) jf) [some l.toD,some (.int (g:Int)),some (.tup (pl.map ah)),some (.int (crew:Int)),some (.loc A.length),some (.int (i:Int)),some D6,x7,x8] (A++[.lst (xs.map .int)]) =
   .ok (.nx [some l.toD,some (.int (g:Int)),some (.tup (pl.map ah)),some (.int (crew:Int)),some (.loc A.length),some (.int (i:Int)),some D6,x7',x8']) (A++[.lst ((aZ g (pl.getD i 0) c.2 xs).map .int)]):=by
 generalize hbe:pl.getD i 0=b
 have hat:atI (pl.map ah) (i:Int)=some (.int (b:Int)):=by rw [<- hbe]; exact fT hi
 obtain ⟨σ',T',e,x7',x8',rfl,rfl⟩:=eL (sub:=sub) (cf:=cf) (t:=.one 7) (it:=.iRng (.cs (.ix (.ix (.ix (.v 0) (.c (.int 1))) (.v 3)) (.c (.int 1))) .nl)) (b:=jf)
  (σ:=[some l.toD,some (.int (g:Int)),some (.tup (pl.map ah)),some (.int (crew:Int)),some (.loc A.length),some (.int (i:Int)),some D6,x7,x8]) (S:=A++[.lst (xs.map .int)]) (S1:=A++[.lst (xs.map .int)]) (s:=⟨(List.range c.2).map fun (i:Nat)=>.int (i:Int),none,[]⟩)
  (fun j σ T=>∃ x7 x8,σ=[some l.toD,some (.int (g:Int)),some (.tup (pl.map ah)),some (.int (crew:Int)),some (.loc A.length),some (.int (i:Int)),some D6,x7,x8]/\T=A++[.lst ((aZ g b j xs).map .int)])
  (cX (aa (ao (ao (ao (r_v rfl) r_c (au rfl)) (r_v rfl) (au (iC hc))) r_c (au rfl)) ai) rfl (by omega) fun _=>rfl) ⟨x7,x8,rfl,rfl⟩ (fun _ _ _ _=>rfl) (fun j hj σ T ⟨x7,x8,hσ,hT⟩=>by
   subst hσ; subst hT
   have hlt:(b+j) % g < ((aZ g b j xs).map D.int).length:=by rw [List.length_map,jj,hx]; exact Nat.mod_lt _ hg
   have hlt':(b+j) % g < (aZ g b j xs).length:=by rw [List.length_map] at hlt; exact hlt
   have hit:((List.range c.2).map fun (i:Nat)=>D.int (i:Int))[j]'hj=.int (j:Int):=by simp
   show ∃ σ' T',aJ sub cf (.one 7) jf (((List.range c.2).map fun (i:Nat)=>D.int (i:Int))[j]'hj) _ _=_/\_
   rw [hit]
   have em:((b:Int)+(j:Int)) % (g:Int)=(((b+j) % g:Nat):Int):=by rw [Int.natCast_emod,Int.natCast_add]
   have hm:opD .mod (.int ((b:Int)+(j:Int))) (.int (g:Int)) (A++[.lst ((aZ g b j xs).map .int)])=.ok (.int (((b+j) % g:Nat):Int)) (A++[.lst ((aZ g b j xs).map .int)]):=by rw [<- em]; exact gG (by omega)
   have ha:atI ((aZ g b j xs).map D.int) (((b+j) % g:Nat):Int)=some (.int ((aZ g b j xs).getD ((b+j) % g) 0)):=eg (by rw [List.getElem?_map,List.getD_eq_getElem?_getD,List.getElem?_eq_getElem hlt']; rfl)
   refine ⟨_,_,cO (aq (aL (aT (aT (ao (r_v rfl) (r_v rfl) (au hat)) (r_v rfl) (b8 _ _ _)) (r_v rfl) hm)) (nB (aT (ao (r_v rfl) (r_v rfl) (iu ha)) r_c (b8 _ _ _)) (r_v rfl) (r_v rfl) (pX hlt))),some (.int (j:Int)),some (.int (((b+j) % g:Nat):Int)),rfl,?_⟩
   rw [kE]
   unfold bump
   rw [List.map_set])
 refine ⟨x7',x8',?_⟩
 rw [e]
 simp
theorem zip_get {l:Lp} {pl:List Nat} (hp:pl.length=l.works.length) {i:Nat} (hi:i < l.works.length):(pl.zip l.works).take (i+1)=(pl.zip l.works).take i++[(pl.getD i 0,l.works[i])]:=by
 have hz:i < (pl.zip l.works).length:=by rw [List.length_zip]; omega
 rw [List.take_succ_eq_append_getElem hz,List.getElem_zip,List.getD_eq_getElem?_getD,List.getElem?_eq_getElem (by omega)]; rfl
theorem Ao (hB:Has P "_law_busy" iU) {l:Lp} {g:Nat} (hg:0 < g) (hg2:g<=1000) {pl:List Nat} (hp:pl.length=l.works.length) {crew:Nat} {c:Nat × Nat} (hc:l.crews[crew]?=some c) (hb:c.2<=4) :
  aj sub P (n+1) "_law_busy" [l.toD,.int (g:Int),.tup (pl.map ah),.int (crew:Int)] S=.ok (.loc S.length) (S++[.lst ((bE g crew c.2 (pl.zip l.works) (List.replicate g 0)).map .int)]):=by
 generalize hA:S++[Cell.lst [D.int 0]]=A
 have hnum:(num 0 (l.works.map Wk.toD)).length=l.works.length:=by rw [fF,List.length_map]
 obtain ⟨σ',T',e,x5,x6,x7,x8,rfl,rfl⟩:=eL (sub:=sub) (cf:=aj sub P n) (t:=.many [5,6]) (it:=.iEnum (.ix (.v 0) (.c (.int 2))))
  (b:=.ite (.cmp .eq (.ix (.v 6) (.c (.int 0))) (.v 3)) (.forS (.one 7) (.iRng (.cs (.ix (.ix (.ix (.v 0) (.c (.int 1))) (.v 3)) (.c (.int 1))) .nl)) jf) .skip)
  (σ:=[some l.toD,some (.int (g:Int)),some (.tup (pl.map ah)),some (.int (crew:Int)),some (.loc A.length),none,none,none,none]) (S:=A++[.lst ((List.replicate g (0:Int)).map .int)]) (S1:=A++[.lst ((List.replicate g (0:Int)).map .int)])
  (s:=⟨num 0 (l.works.map Wk.toD),none,l.works.map Wk.toD⟩)
  (fun i σ T=>∃ x5 x6 x7 x8,σ=[some l.toD,some (.int (g:Int)),some (.tup (pl.map ah)),some (.int (crew:Int)),some (.loc A.length),x5,x6,x7,x8]/\T=A++[.lst ((bE g crew c.2 ((pl.zip l.works).take i) (List.replicate g 0)).map .int)])
  (by rw [lT,ao (r_v rfl) r_c (au rfl),Res.ak]; rfl) ⟨none,none,none,none,rfl,rfl⟩ (fun _ _ _ _=>rfl) (fun i hi σ T ⟨x5,x6,x7,x8,hσ,hT⟩=>by
   subst hσ; subst hT
   have hi':i < l.works.length:=by rw [<- hnum]; exact hi
   have hit:(num 0 (l.works.map Wk.toD))[i]=.tup [.int (i:Int),(l.works[i]).toD]:=by
    rw [jl]; simp
   show ∃ σ' T',aJ sub (aj sub P n) _ _ (num 0 (l.works.map Wk.toD))[i] _ _=_/\_
   rw [hit]
   have hs:=zip_get hp hi'
   generalize l.works[i]=w at hs
   by_cases hw:w.crew=crew
   ·obtain ⟨x7',x8',e⟩:=sV (sub:=sub) (cf:=aj sub P n) (l:=l) (g:=g) (i:=i) (crew:=crew) (c:=c) (pl:=pl) (D6:=w.toD) (A:=A) (xs:=bE g crew c.2 ((pl.zip l.works).take i) (List.replicate g 0)) (x7:=x7) (x8:=x8) (by omega) hc hb hg (by rw [iI,List.length_replicate])
    refine ⟨_,_,dS rfl (bK (aO (aQ (ao (r_v rfl) r_c (au rfl)) (r_v rfl) (by rw [g6,decide_eq_true hw]))) e),_,_,_,_,rfl,?_⟩
    rw [hs,f6,if_pos hw]
   ·refine ⟨_,_,dS rfl (aI (aO (aQ (ao (r_v rfl) r_c (au rfl)) (r_v rfl) (by rw [g6,decide_eq_false hw]))) aH),_,_,x7,x8,rfl,?_⟩
    rw [hs,f6,if_neg hw])
 rw [hnum,show (pl.zip l.works).take l.works.length=pl.zip l.works from List.take_of_length_le (by rw [List.length_zip]; omega)] at e
 have hlen:S.length<=A.length:=by rw [<- hA]; simp
 refine x_call (ds:=[l.toD,.int (g:Int),.tup (pl.map ah),.int (crew:Int)]) hB rfl (aq (aL (aT (cz (aa r_c ai) rfl) (r_v rfl) (rR hg2))) (aq (by rw [hA]; exact e) (aG (r_v rfl)))) (ja hlen ?_ (aS _ _) (fG _))
 rw [<- hA,List.append_assoc,bL]
theorem mS (m:Int) (p:Nat->Bool):∀ (xs:List Int) (k:Nat),(∀ j,j < xs.length->p (k+j)=decide (xs.getD j 0 > m))->bS m k xs=(List.range' k xs.length).find? p
 | [],k,_=>rfl
 | x::r,k,h=>by
  have h0:=h 0 (by simp)
  have ih:=mS m p r (k+1) fun j hj=>by
   have:=h (j+1) (by simpa using hj)
   rw [show k+1+j=k+(j+1) by omega,this]; rfl
  rw [List.length_cons,List.range'_succ,List.find?_cons]
  show (if x > m then some k else bS m (k+1) r)=_
  have h0:p k=decide (x > m):=h0
  rw [h0]
  by_cases q:x > m
  ·rw [if_pos q,decide_eq_true q]
  ·rw [if_neg q,decide_eq_false q,ih]
theorem rK (p:Nat->Bool):∀ ks:List Nat,ks.filterMap (fun k=>if p k=true then some (ah k) else none)=(ks.filter p).map ah
 | []=>rfl
 | k::r=>by
  rw [List.filterMap_cons,List.filter_cons,rK p r]
  by_cases h:p k=true
  ·rw [if_pos h,if_pos h]; rfl
  ·rw [if_neg h,if_neg h]
noncomputable def iL:EV.S:=.seq (.set (.one 4) (.bin .add (.ix (.v 2) (.ix (.v 3) (.c (.int 0)))) (.ix (.ix (.ix (.v 0) (.c (.int 2))) (.ix (.v 3) (.c (.int 0)))) (.c (.int 1)))))
 (.ite (.cmp .gt (.v 4) (.bin .add (.ix (.v 2) (.ix (.v 3) (.c (.int 1)))) (.bin .mul (.ix (.v 3) (.c (.int 2))) (.v 1))))
  (.ret (.tup (.cs (.c (.str "need")) (.cs (.v 3) .nl))))
  .skip)
theorem mL {cf:Str->List D->M D} {s:Src} {T:af} {l:Lp} {g:Nat} {pl:List Nat} (hp:pl.length=l.works.length) (hs:aC s T=.ok () T):∀ (ts:List (List Int)) (x3 x4:Option D),(∀ t∈ts,Tri l.works.length t) ->
  (∃ t,ts.find? (fun t=>decide (d9 l g pl t < 0))=some t/\forL s (aJ sub cf (.one 3) iL) (ts.map tupI) [some l.toD,some (.int (g:Int)),some (.tup (pl.map ah)),x3,x4,none,none,none] T=.ok (.rt (.tup [.str "need",tupI t])) T) \/
  (ts.find? (fun t=>decide (d9 l g pl t < 0))=none/\∃ x3' x4',forL s (aJ sub cf (.one 3) iL) (ts.map tupI) [some l.toD,some (.int (g:Int)),some (.tup (pl.map ah)),x3,x4,none,none,none] T=.ok (.nx [some l.toD,some (.int (g:Int)),some (.tup (pl.map ah)),x3',x4',none,none,none]) T)
 | [],x3,x4,_=>.inr ⟨rfl,_,_,gH hs⟩
 | t::r,x3,x4,h=>by
  obtain ⟨x,i,b,rfl,h1,h2,h3⟩:=h t List.mem_cons_self
  have ew:d9 l g pl [(x:Int),(i:Int),(b:Int)]=dI l g pl x i b:=rfl
  generalize hla:((pl.getD x 0:Nat):Int)+(((l.works.getD x ⟨0,0,"",[],[]⟩).long:Nat):Int)=late
  have hset:∀ {x4:Option D},exec sub cf (.set (.one 4) (.bin .add (.ix (.v 2) (.ix (.v 3) (.c (.int 0)))) (.ix (.ix (.ix (.v 0) (.c (.int 2))) (.ix (.v 3) (.c (.int 0)))) (.c (.int 1))))) [some l.toD,some (.int (g:Int)),some (.tup (pl.map ah)),some (tupI [(x:Int),(i:Int),(b:Int)]),x4,none,none,none] T
    = .ok (.nx [some l.toD,some (.int (g:Int)),some (.tup (pl.map ah)),some (tupI [(x:Int),(i:Int),(b:Int)]),some (.int late),none,none,none]) T:=fun {x4}=>by
   rw [<- hla]
   exact aL (aT (ao (r_v rfl) (ao (r_v rfl) r_c (au rfl)) (au (fT (by rw [hp]; exact h1)))) (ao (ao (ao (r_v rfl) r_c (au rfl)) (ao (r_v rfl) r_c (au rfl)) (au (sP h1))) r_c (au rfl)) (b8 _ _ _))
  have ht:evT sub cf (.cmp .gt (.v 4) (.bin .add (.ix (.v 2) (.ix (.v 3) (.c (.int 1)))) (.bin .mul (.ix (.v 3) (.c (.int 2))) (.v 1)))) [some l.toD,some (.int (g:Int)),some (.tup (pl.map ah)),some (tupI [(x:Int),(i:Int),(b:Int)]),some (.int late),none,none,none] T=.ok (decide (dI l g pl x i b < 0)) T:=by
   refine t_k (aO (aQ (r_v rfl) (aT (ao (r_v rfl) (ao (r_v rfl) r_c (au rfl)) (au (fT (by rw [hp]; exact h2)))) (aT (ao (r_v rfl) r_c (au rfl)) (r_v rfl) (j6 ⟨by omega,by omega⟩)) (b8 _ _ _)) (iE _ _ _))) ?_
   unfold dI
   rw [hla]
   by_cases q:((pl.getD i 0:Nat):Int)+(b:Int) * (g:Int) < late
   ·rw [decide_eq_true q,decide_eq_true (by omega)]
   ·rw [decide_eq_false q,decide_eq_false (by omega)]
  by_cases q:dI l g pl x i b < 0
  ·rw [decide_eq_true q] at ht
   exact .inl ⟨_,by rw [List.find?_cons,ew,decide_eq_true q],gu hs (cO (aq hset (bK ht (aG (cI (aa r_c (aa (r_v rfl) ai)) rfl)))))⟩
  ·rw [decide_eq_false q] at ht
   rw [List.find?_cons,ew,decide_eq_false q]
   have st:∀ {RF},forL s (aJ sub cf (.one 3) iL) (r.map tupI) [some l.toD,some (.int (g:Int)),some (.tup (pl.map ah)),some (tupI [(x:Int),(i:Int),(b:Int)]),some (.int late),none,none,none] T=RF ->
     forL s (aJ sub cf (.one 3) iL) (([(x:Int),(i:Int),(b:Int)]::r).map tupI) [some l.toD,some (.int (g:Int)),some (.tup (pl.map ah)),x3,x4,none,none,none] T=RF:=fun q=>fY hs (cO (aq hset (aI ht aH))) q
   rcases mL hp hs r (some (tupI [(x:Int),(i:Int),(b:Int)])) (some (.int late)) (fun u hu=>h u (List.mem_cons_of_mem _ hu)) with ⟨u,h1,h2⟩|⟨h1,x3',x4',h2⟩
   ·exact .inl ⟨u,h1,st h2⟩
   ·exact .inr ⟨h1,x3',x4',st h2⟩
theorem Ej {T:af} {a b:Nat} {xs:List D} (ha:T[a]?=some (.lst xs)) (hb:T[b]?=some (.lst [])):cmD .ne (.loc a) (.loc b) T=.ok (.bl (!xs.isEmpty)) T:=by
 rw [An,if_pos (show dR (.loc a) (.loc b)=true from rfl),mE ha hb]
 cases xs <;> simp [aY]
noncomputable def gO:EV.S:=.seq (.set (.one 6) (.call "_law_busy" (.cs (.v 0) (.cs (.v 1) (.cs (.v 2) (.cs (.v 5) .nl))))))
 (.seq (.set (.one 7) (.comp 2 (.v 9) (.one 9) (.iRng (.cs (.v 1) .nl)) (.cmp .gt (.ix (.v 6) (.v 9)) (.ix (.ix (.ix (.v 0) (.c (.int 1))) (.v 5)) (.c (.int 0))))))
 (.ite (.cmp .ne (.v 7) (.lst .nl))
  (.ret (.tup (.cs (.c (.str "crew")) (.cs (.v 5) (.cs (.ix (.v 7) (.c (.int 0))) .nl)))))
  .skip))
theorem nk (hB:Has P "_law_busy" iU) {s:Src} {l:Lp} (hl:l.WF) {g:Nat} (hg:0 < g) (hg2:g<=1000) {pl:List Nat} (hp:pl.length=l.works.length) {D3 D4:Option D} (hs:∀ T,aC s T=.ok () T):∀ (ks:List Nat) (x5 x6 x7:Option D) (T:af),(∀ k∈ks,k < l.crews.length) ->
  (∃ k r G,b3 (br l g pl) ks=some (k,r)/\forL s (aJ sub (aj sub P (n+1)) (.one 5) gO) (ks.map ah) [some l.toD,some (.int (g:Int)),some (.tup (pl.map ah)),D3,D4,x5,x6,x7] T=.ok (.rt (.tup [.str "crew",.int (k:Int),.int (r:Int)])) (T++G)) \/
  (b3 (br l g pl) ks=none/\∃ σ' G,forL s (aJ sub (aj sub P (n+1)) (.one 5) gO) (ks.map ah) [some l.toD,some (.int (g:Int)),some (.tup (pl.map ah)),D3,D4,x5,x6,x7] T=.ok (.nx σ') (T++G))
 | [],x5,x6,x7,T,_=>.inr ⟨rfl,_,[],by rw [List.append_nil]; exact gH (hs T)⟩
 | k::r,x5,x6,x7,T,h=>by
  have hk:=h k List.mem_cons_self
  have hc:l.crews[k]?=some (l.crews.getD k (0,0)):=by rw [List.getD_eq_getElem?_getD,List.getElem?_eq_getElem hk]; rfl
  have hv:=Ao (sub:=sub) (n:=n) (S:=T) hB hg hg2 hp hc (hl.crews _ (List.mem_of_getElem? hc)).2.2
  have ec:br l g pl k=bS (((l.crews.getD k (0,0)).1:Nat):Int) 0 (bE g k (l.crews.getD k (0,0)).2 (pl.zip l.works) (List.replicate g 0)):=rfl
  have hlen:(bE g k (l.crews.getD k (0,0)).2 (pl.zip l.works) (List.replicate g 0)).length=g:=by rw [iI,List.length_replicate]
  generalize bE g k (l.crews.getD k (0,0)).2 (pl.zip l.works) (List.replicate g 0)=xs at hv ec hlen
  generalize l.crews.getD k (0,0)=c at hc ec
  have hset:=fun {x6:Option D}=>aL (sub:=sub) (cf:=aj sub P (n+1)) (σ:=[some l.toD,some (.int (g:Int)),some (.tup (pl.map ah)),D3,D4,some (.int (k:Int)),x6,x7]) (i:=6) (aB (f:="_law_busy") (aa (r_v (i:=0) rfl) (aa (r_v (i:=1) rfl) (aa (r_v (i:=2) rfl) (aa (r_v (i:=5) rfl) ai)))) hv)
  have hcomp:=nG (sub:=sub) (cf:=aj sub P (n+1)) (k:=2) (i:=9) (el:=.v 9) (it:=.iRng (.cs (.v 1) .nl)) (tt:=.cmp .gt (.ix (.v 6) (.v 9)) (.ix (.ix (.ix (.v 0) (.c (.int 1))) (.v 5)) (.c (.int 0))))
   (σ:=[some l.toD,some (.int (g:Int)),some (.tup (pl.map ah)),D3,D4,some (.int (k:Int)),some (.loc T.length),x7]) (S:=T++[.lst (xs.map .int)]) (S1:=T++[.lst (xs.map .int)]) (ks:=List.range g) (f:=ah) (g:=fun j=>if decide (xs.getD j 0 > (c.1:Int))=true then some (ah j) else none) (o:=none) (raw:=[]) rfl
   (cX (aa (r_v rfl) ai) rfl (by omega) fun _=>rfl) rfl
   (fun j hj=>by
    have hj':j < xs.length:=by rw [hlen]; exact List.mem_range.mp hj
    have ha:atI (xs.map D.int) (j:Int)=some (.int (xs.getD j 0)):=eg (by rw [List.getElem?_map,List.getD_eq_getElem?_getD,List.getElem?_eq_getElem hj']; rfl)
    refine t_k (aO (aQ (ao (r_v rfl) (r_v rfl) (iu ha)) (ao (ao (ao (r_v rfl) r_c (au rfl)) (r_v rfl) (au (iC hc))) r_c (au rfl)) (iE _ _ _))) ?_
    by_cases q:xs.getD j 0 > (c.1:Int)
    ·rw [if_pos (decide_eq_true q)]; exact decide_eq_true q
    ·rw [if_neg (by rw [decide_eq_false q]; exact Bool.false_ne_true)]; exact decide_eq_false q)
   (fun j _ d hd=>by
    have e:d=ah j:=by
     by_cases q:decide (xs.getD j 0 > (c.1:Int))=true
     ·rw [if_pos q] at hd; exact (Option.some.inj hd).symm
     ·rw [if_neg q] at hd; cases hd
    rw [e]
    exact r_v rfl) (by rw [List.length_range]; unfold aR; omega)
  rw [rK] at hcomp
  have ef:bS (c.1:Int) 0 xs=((List.range g).filter fun j=>decide (xs.getD j 0 > (c.1:Int))).head?:=by
   rw [List.head?_filter,List.range_eq_range',<- hlen]
   exact mS _ _ xs 0 fun j _=>by rw [Nat.zero_add]
  rw [<- ec] at ef
  generalize ((List.range g).filter fun j=>decide (xs.getD j 0 > (c.1:Int)))=fs at hcomp ef
  have hset7:=aL (i:=7) hcomp
  have hst:∀ {RF} (x6:Option D),exec sub (aj sub P (n+1)) (.ite (.cmp .ne (.v 7) (.lst .nl)) (.ret (.tup (.cs (.c (.str "crew")) (.cs (.v 5) (.cs (.ix (.v 7) (.c (.int 0))) .nl))))) .skip) [some l.toD,some (.int (g:Int)),some (.tup (pl.map ah)),D3,D4,some (.int (k:Int)),some (.loc T.length),some (.loc (T++[Cell.lst (xs.map D.int)]).length)] ((T++[.lst (xs.map .int)])++[.lst (fs.map ah)])=RF ->
    aJ sub (aj sub P (n+1)) (.one 5) gO (ah k) [some l.toD,some (.int (g:Int)),some (.tup (pl.map ah)),D3,D4,x5,x6,x7] T=RF:=fun x6 q=>cO (aq hset (aq hset7 q))
  have hne:evT sub (aj sub P (n+1)) (.cmp .ne (.v 7) (.lst .nl)) [some l.toD,some (.int (g:Int)),some (.tup (pl.map ah)),D3,D4,some (.int (k:Int)),some (.loc T.length),some (.loc (T++[Cell.lst (xs.map D.int)]).length)] ((T++[.lst (xs.map .int)])++[.lst (fs.map ah)])=.ok (!(fs.map ah).isEmpty) (((T++[.lst (xs.map .int)])++[.lst (fs.map ah)])++[.lst []]) :=
   aO (aQ (r_v rfl) (cz ai rfl) (Ej ((List.getElem?_append_left (by simp)).trans (aS _ _)) (aS _ _)))
  cases fs with
  | cons f0 fr =>
   have q:br l g pl k=some f0:=ef
   refine .inl ⟨k,f0,[.lst (xs.map .int),.lst ((f0::fr).map ah),.lst []],by show (match br l g pl k with|some x=>some (k,x)|none=>b3 (br l g pl) r)=_; rw [q],?_⟩
   refine gu (hs T) (hst x6 ?_)
   rw [show T++[Cell.lst (xs.map .int),.lst ((f0::fr).map ah),.lst []]=((T++[.lst (xs.map .int)])++[.lst ((f0::fr).map ah)])++[.lst []] by simp]
   exact bK (t_k hne rfl) (aG (cI (aa r_c (aa (r_v rfl) (aa (ao (r_v rfl) r_c (pK (xs:=(f0::fr).map ah) ((List.getElem?_append_left (by simp)).trans (aS _ _)) (eg (xs:=(f0::fr).map ah) (k:=0) (d:=.int (f0:Int)) rfl))) ai))) rfl))
  | nil =>
   have q:br l g pl k=none:=ef
   have e:b3 (br l g pl) (k::r)=b3 (br l g pl) r:=by
    show (match br l g pl k with|some x=>some (k,x)|none=>b3 (br l g pl) r)=_
    rw [q]
   rw [e]
   have st:∀ {RF},forL s (aJ sub (aj sub P (n+1)) (.one 5) gO) (r.map ah) [some l.toD,some (.int (g:Int)),some (.tup (pl.map ah)),D3,D4,some (.int (k:Int)),some (.loc T.length),some (.loc (T++[Cell.lst (xs.map D.int)]).length)] (((T++[.lst (xs.map .int)])++[.lst []])++[.lst []])=RF ->
     forL s (aJ sub (aj sub P (n+1)) (.one 5) gO) ((k::r).map ah) [some l.toD,some (.int (g:Int)),some (.tup (pl.map ah)),D3,D4,x5,x6,x7] T=RF:=fun q=>fY (hs T) (hst x6 (aI (t_k hne rfl) aH)) q
   rcases nk hB hl hg hg2 hp hs r (some (.int (k:Int))) (some (.loc T.length)) (some (.loc (T++[Cell.lst (xs.map D.int)]).length)) (((T++[.lst (xs.map .int)])++[.lst []])++[.lst []]) (fun u hu=>h u (List.mem_cons_of_mem _ hu)) with ⟨k',r',G,h1,h2⟩|⟨h1,σ',G,h2⟩
   ·exact .inl ⟨k',r',_,h1,(st h2).trans (by rw [List.append_assoc,List.append_assoc,List.append_assoc])⟩
   ·exact .inr ⟨h1,σ',_,(st h2).trans (by rw [List.append_assoc,List.append_assoc,List.append_assoc])⟩
theorem yK (hn:Has P "_law_needs" jA) (hB:Has P "_law_busy" iU) (hW:Has P "_law_wrong" qT) {l:Lp} (hl:l.WF) (h6:l.works.length<=6) {g:Nat} (hg:0 < g) (hg2:g<=1000) {pl:List Nat} (hp:pl.length=l.works.length) :
  aj sub P (n+3) "_law_wrong" [l.toD,.int (g:Int),.tup (pl.map ah)] S=.ok (ck l g pl) S:=by
 have hnd:=BO (sub:=sub) (n:=n+1) (S:=S) hn hl h6
 have hi:evI sub (aj sub P (n+2)) (.iSeq (.call "_law_needs" (.cs (.v 0) .nl))) [some l.toD,some (.int (g:Int)),some (.tup (pl.map ah)),none,none,none,none,none] S=.ok ⟨(aD (aF 0 l.works)).map tupI,some S.length,(aD (aF 0 l.works)).map tupI⟩ (S++[.lst ((aD (aF 0 l.works)).map tupI)]) :=
  eu (aB (aa (r_v rfl) ai) hnd) (jT (aS _ _))
 have hs:aC ⟨(aD (aF 0 l.works)).map tupI,some S.length,(aD (aF 0 l.works)).map tupI⟩ (S++[.lst ((aD (aF 0 l.works)).map tupI)])=.ok () (S++[.lst ((aD (aF 0 l.works)).map tupI)]):=by
  unfold aC
  have e:listAt (S++[.lst ((aD (aF 0 l.works)).map tupI)]) S.length=some ((aD (aF 0 l.works)).map tupI):=by unfold listAt; rw [aS]
  simp only [e,decide_true]; rfl
 unfold ck
 rcases mL (sub:=sub) (cf:=aj sub P (n+2)) (g:=g) hp hs (aD (aF 0 l.works)) none none (nv hl) with ⟨t,h1,h2⟩|⟨h1,x3,x4,h2⟩
 ·rw [h1]
  exact x_call (ds:=[l.toD,.int (g:Int),.tup (pl.map ah)]) hW rfl (cj (bO hi h2)) (bw (show (true&&(D.lows 0 (t.map .int)&&true))=true by rw [fG]; rfl) (bL _ _))
 ·rw [h1]
  have hr:evI sub (aj sub P (n+2)) (.iRng (.cs (.bi .len (.cs (.ix (.v 0) (.c (.int 1))) .nl)) .nl)) [some l.toD,some (.int (g:Int)),some (.tup (pl.map ah)),x3,x4,none,none,none] (S++[.lst ((aD (aF 0 l.works)).map tupI)])=.ok ⟨(List.range l.crews.length).map ah,none,[]⟩ (S++[.lst ((aD (aF 0 l.works)).map tupI)]) :=
   cX (aa (aN (aa (ao (r_v rfl) r_c (au rfl)) ai) cW) ai) (by rw [List.length_map]) (by have:=hl.ncrews; omega) fun _=>rfl
  rcases nk (sub:=sub) (n:=n+1) hB hl hg hg2 hp (D3:=x3) (D4:=x4) (s:=⟨(List.range l.crews.length).map ah,none,[]⟩) (fun _=>rfl) (List.range l.crews.length) none none none (S++[.lst ((aD (aF 0 l.works)).map tupI)]) (fun k hk=>List.mem_range.mp hk) with ⟨k,r,G,h3,h4⟩|⟨h3,σ',G,h4⟩
  ·rw [h3]
   exact x_call (ds:=[l.toD,.int (g:Int),.tup (pl.map ah)]) hW rfl (aq (bO hi h2) (cj (bO hr h4))) (bw rfl (by rw [List.append_assoc,bL]))
  ·rw [h3]
   exact x_call (ds:=[l.toD,.int (g:Int),.tup (pl.map ah)]) hW rfl (aq (bO hi h2) (aq (bO hr h4) (aG r_c))) (bw rfl (by rw [List.append_assoc,bL]))
end
end RL

namespace K04
open PySem EV RL GO
noncomputable def kq:Fn:=⟨4,4,(.ret (.bi .tuple (.cs (.comp 2 (.call "_law_mixed" (.cs (.v 0) (.cs (.bin .add (.v 1) (.v 5)) (.cs (.v 3) .nl)))) (.one 5) (.iRng (.cs (.v 2) .nl)) .nl) .nl)))⟩
noncomputable def pT:Fn:=⟨1,4,(.seq (.set (.one 1) (.call "_law_loop" (.cs (.v 0) (.cs (.c (.int 8)) (.cs (.c (.int 4)) .nl)))))
 (.seq (.set (.one 2) (.bin .add (.c (.int 1)) (.call "_law_mixed" (.cs (.v 0) (.cs (.c (.int 0)) (.cs (.c (.int 9)) .nl))))))
 (.seq (.set (.one 3) (.call "_law_plan" (.cs (.v 0) (.cs (.c (.int 1)) (.cs (.bi .len (.cs (.ix (.v 1) (.c (.int 2))) .nl)) (.cs (.c (.int 20)) .nl))))))
 (.seq (.ite (.cmp .eq (.call "_law_mixed" (.cs (.v 0) (.cs (.c (.int 6)) (.cs (.c (.int 2)) .nl)))) (.c (.int 1)))
  (.set (.one 3) (.bi .tuple (.cs (.bi .sorted (.cs (.v 3) .nl)) .nl)))
  .skip)
 (.ret (.cmp .eq (.call "wrong" (.cs (.v 1) (.cs (.v 2) (.cs (.v 3) .nl)))) (.call "_law_wrong" (.cs (.v 1) (.cs (.v 2) (.cs (.v 3) .nl))))))))))⟩
noncomputable def Pd:Prg:=[("is_whole",jJ),("is_value",qC),("is_row",iH),("is_crew",sJ),("are_crews",rO),("is_work_source",n6),("is_source",nh),("are_starts",sC),("is_work",rW),("are_works",p6),("are_outs",oW),("is_loop",nq),("checked",mF),("needs",iP),("checked_gap",mC),("is_plan",rZ),("checked_plan",oN),("waiting",gB),("busy_machines",fq),("crowded_rest",fV),("fault",ku),("wrong",mT),("_law_cell_at",qY),("_law_mixed",mz),("_law_source",nV),("_law_work",nu),("_law_loop",qa),("_law_plan",kq),("_law_needs",jA),("_law_busy",iU),("_law_wrong",qT),("law",pT)]
theorem hB:HB Pd:=⟨rfl,rfl,rfl,rfl,rfl,rfl,rfl,rfl,rfl,rfl,rfl,rfl,rfl⟩
theorem hG:HG Pd:=⟨rfl,rfl,rfl,rfl,rfl⟩
theorem hH:HP Pd:=⟨rfl,rfl,rfl,rfl,rfl,rfl,rfl,rfl,rfl⟩
theorem Ea {T:af} (l:Lp) (g:Nat) (pl:List Nat):cmD .eq (ck l g pl) (ck l g pl) T=.ok (.bl true) T:=by
 have e:eqD deep T (ck l g pl) (ck l g pl)=some true:=by
  unfold ck
  split
  ·rename_i t _
   show (aY (eqD 11 T) [.str "need",tupI t] [.str "need",tupI t]).map (fun r=>r&&(2==2))=_
   rw [iA fun x hx=>by
    rcases List.mem_cons.mp hx with rfl|hx
    ·rfl
    ·rw [List.mem_singleton.mp hx]
     exact Br 9 t]
   rfl
  ·split
   ·rename_i k r _
    show (aY (eqD 11 T) [.str "crew",.int (k:Int),.int (r:Int)] [.str "crew",.int (k:Int),.int (r:Int)]).map (fun r=>r&&(3==3))=_
    rw [iA fun x hx=>by
     rcases List.mem_cons.mp hx with rfl|hx
     ·rfl
     ·rcases List.mem_cons.mp hx with rfl|hx
      ·exact jH 10 _
      ·rw [List.mem_singleton.mp hx]
       exact jH 10 _]
    rfl
   ·rfl
 rw [ju,e]
noncomputable def ez (mx:List Int->Int->Int->Int) (ns:List Int) (at':Int) (many:Nat) (top:Int):List Nat:=(List.range many).map fun (k:Nat)=>(mx ns (at' + (k:Int)) top).toNat
noncomputable def dZ (pl:List Nat):List Nat:=(cV (pl.map fun (k:Nat)=>(k:Int))).map Int.toNat
theorem w9 {pl:List Nat} {x:Nat} (h:x∈dZ pl):x∈pl:=by
 obtain ⟨i,hi,rfl⟩:=List.mem_map.mp h
 obtain ⟨k,hk,rfl⟩:=List.mem_map.mp ((fL _).mem_iff.mp hi)
 exact hk
theorem zy (pl:List Nat):(dZ pl).length=pl.length:=by
 unfold dZ
 rw [List.length_map,(fL _).length_eq,List.length_map]
theorem BS (pl:List Nat):(cV (pl.map fun (k:Nat)=>(k:Int))).map D.int=(dZ pl).map ah:=by
 unfold dZ
 rw [List.map_map]
 refine List.map_congr_left fun i hi=>?_
 obtain ⟨k,hk,rfl⟩:=List.mem_map.mp ((fL _).mem_iff.mp hi)
 rfl
section
variable {sub:Sub} {P:Prg} {n:Nat} {S:af} {mx:List Int->Int->Int->Int}
theorem vA (M:Mix P mx) (hp:Has P "_law_plan" kq) (ns:List Int) {at' top:Int} {many:Nat} (hat:0<=at') (ht:0 < top) (hm:many<=1000) :
  aj sub P (n+3) "_law_plan" [.fro (ns.map .int),.int at',.int (many:Int),.int top] S=.ok (.tup ((ez mx ns at' many top).map ah)) S:=by
 have hc:=kO (sub:=sub) (cf:=aj sub P (n+2)) (σ:=[some (.fro (ns.map .int)),some (.int at'),some (.int (many:Int)),some (.int top)]) (S:=S) (S1:=S) (k:=2) (i:=5) (el:=.call "_law_mixed" (.cs (.v 0) (.cs (.bin .add (.v 1) (.v 5)) (.cs (.v 3) .nl)))) (it:=.iRng (.cs (.v 2) .nl))
  (ks:=List.range many) (f:=ah) (g:=fun k=>.int (mx ns (at' + (k:Int)) top)) (o:=none) (raw:=[]) (cX (aa (r_v rfl) ai) rfl (by omega) fun _=>rfl) rfl
  (fun k _=>aB (aa (r_v rfl) (aa (aT (r_v rfl) (r_v rfl) (b8 _ _ _)) (aa (r_v rfl) ai))) (M.ok ns (by omega) ht)) (by rw [List.length_range]; unfold aR; omega)
 have e:((List.range many).map fun (k:Nat)=>D.int (mx ns (at' + (k:Int)) top))=(ez mx ns at' many top).map ah:=by
  unfold ez
  rw [List.map_map]
  refine List.map_congr_left fun k _=>?_
  show _=D.int (((mx ns (at' + (k:Int)) top).toNat:Nat):Int)
  rw [toNat_cast (M.rng ns _ ht).1]
 rw [e] at hc
 exact x_call (ds:=[.fro (ns.map .int),.int at',.int (many:Int),.int top]) hp rfl (aG (aN (aa hc ai) j4)) (bw (qo _) (bL _ _))
end
theorem main (ns:List Int) (h:ns.length<=63):∃ S',aj (fun _ _=>false) Pd 30 "law" [.fro (ns.map .int)] []=.ok (.bl true) S':=by
 obtain ⟨mx,M⟩:=vZ hG
 have hl:=zx M ns (at':=8) (most:=4) (by decide) (by decide)
 have ed:=A7 (sub:=fun _ _=>false) (n:=24) (S:=[]) hG M ns (at':=8) (most:=4) (by decide) (by decide) (by decide)
 have h6:(cy mx ns 8 4).works.length<=6:=by
  have:=M.rng ns (8+1) (show (0:Int) < 4 by decide)
  simp only [cy,List.length_map,List.length_range]
  omega
 generalize cy mx ns 8 4=l at hl ed h6
 have rg:=M.rng ns 0 (show (0:Int) < 9 by decide)
 obtain ⟨g,hg⟩:∃ g:Nat,1+mx ns 0 9=(g:Int):=⟨(1+mx ns 0 9).toNat,by omega⟩
 have mg:∀ (S:af),aj (fun _ _=>false) Pd 29 "_law_mixed" [.fro (ns.map .int),.int 0,.int 9] S=.ok (.int (mx ns 0 9)) S:=fun S=>M.ok (n:=27) ns (by decide) (by decide)
 have m6:∀ (S:af),aj (fun _ _=>false) Pd 29 "_law_mixed" [.fro (ns.map .int),.int 6,.int 2] S=.ok (.int (mx ns 6 2)) S:=fun S=>M.ok (n:=27) ns (by decide) (by decide)
 have hpd:=vA (sub:=fun _ _=>false) (n:=26) (S:=[]) M (show Has Pd "_law_plan" kq from rfl) ns (at':=1) (top:=20) (many:=l.works.length) (by decide) (by decide) (by omega)
 have hpl:(ez mx ns 1 l.works.length 20).length=l.works.length:=by unfold ez; rw [List.length_map,List.length_range]
 have hpt:∀ t∈ez mx ns 1 l.works.length 20,t<=999:=fun t ht=>by
  obtain ⟨k,_,rfl⟩:=List.mem_map.mp ht
  have:=M.rng ns (1+(k:Int)) (show (0:Int) < 20 by decide)
  omega
 generalize ez mx ns 1 l.works.length 20=pl at hpd hpl hpt
 have fin:∀ (pl:List Nat) (S:af),pl.length=l.works.length->(∀ t∈pl,t<=999)->exec (fun _ _=>false) (aj (fun _ _=>false) Pd 29) (.ret (.cmp .eq (.call "wrong" (.cs (.v 1) (.cs (.v 2) (.cs (.v 3) .nl)))) (.call "_law_wrong" (.cs (.v 1) (.cs (.v 2) (.cs (.v 3) .nl))))))
   [some (.fro (ns.map .int)),some l.toD,some (.int (g:Int)),some (.tup (pl.map ah))] S=.ok (.rt (.bl true)) S:=fun pl S hpl hpt=>by
  have h1:=tX (sub:=fun _ _=>false) (n:=19) (S:=S) hB hH hl h6 (g:=g) (by omega) (by omega) hpl hpt
  have h2:=yK (sub:=fun _ _=>false) (P:=Pd) (n:=26) (S:=S) rfl rfl rfl hl h6 (g:=g) (by omega) (by omega) hpl
  exact aG (aQ (aB (aa (r_v rfl) (aa (r_v rfl) (aa (r_v rfl) ai))) h1) (aB (aa (r_v rfl) (aa (r_v rfl) (aa (r_v rfl) ai))) h2) (Ea l g pl))
 have s1:=fun {σ:Sg}=>aL (sub:=fun _ _=>false) (cf:=aj (fun _ _=>false) Pd 29) (S:=[]) (σ:=[some (.fro (ns.map .int)),none,none,none]) (i:=1) (aB (f:="_law_loop") (aa (r_v (i:=0) rfl) (aa r_c (aa r_c ai))) ed)
 have e2:opD .add (.int 1) (.int (mx ns 0 9)) []=.ok (.int (g:Int)) []:=by rw [<- hg]; exact b8 _ _ _
 have elen:biD (fun _ _=>false) .len [.tup (l.works.map Wk.toD)] []=.ok (.int ((l.works.length:Nat):Int)) []:=by rw [cW,List.length_map]
 have test:evT (fun _ _=>false) (aj (fun _ _=>false) Pd 29) (.cmp .eq (.call "_law_mixed" (.cs (.v 0) (.cs (.c (.int 6)) (.cs (.c (.int 2)) .nl)))) (.c (.int 1))) [some (.fro (ns.map .int)),some l.toD,some (.int (g:Int)),some (.tup (pl.map ah))] []=.ok (mx ns 6 2==1) [] :=
  aO (aQ (aB (aa (r_v rfl) (aa r_c (aa r_c ai))) (m6 _)) r_c (gA _ _ _))
 have go:∃ S',exec (fun _ _=>false) (aj (fun _ _=>false) Pd 29) (.seq (.ite (.cmp .eq (.call "_law_mixed" (.cs (.v 0) (.cs (.c (.int 6)) (.cs (.c (.int 2)) .nl)))) (.c (.int 1)))
    (.set (.one 3) (.bi .tuple (.cs (.bi .sorted (.cs (.v 3) .nl)) .nl))) .skip)
   (.ret (.cmp .eq (.call "wrong" (.cs (.v 1) (.cs (.v 2) (.cs (.v 3) .nl)))) (.call "_law_wrong" (.cs (.v 1) (.cs (.v 2) (.cs (.v 3) .nl)))))))
   [some (.fro (ns.map .int)),some l.toD,some (.int (g:Int)),some (.tup (pl.map ah))] []=.ok (.rt (.bl true)) S':=by
  by_cases q:mx ns 6 2=1
  ·rw [q] at test
   have es:biD (fun _ _=>false) .sorted [.tup (pl.map ah)] []=.ok (.loc 0) [.lst ((dZ pl).map ah)]:=by
    have:=vR (sub:=fun _ _=>false) (T:=[]) (is:=pl.map fun (k:Nat)=>(k:Int)) (by rw [List.length_map]; omega)
    rw [BS,List.map_map] at this
    exact this
   exact ⟨_,aq (bK (t_k test rfl) (aL (aN (aa (aN (aa (r_v rfl) ai) es) ai) (dH (xs:=(dZ pl).map ah) rfl)))) (fin (dZ pl) _ ((zy pl).trans hpl) fun t ht=>hpt t (w9 ht))⟩
  ·have q':(mx ns 6 2==1)=false:=beq_eq_false_iff_ne.mpr q
   rw [q'] at test
   exact ⟨_,aq (aI test aH) (fin pl _ hpl hpt)⟩
 obtain ⟨S',go⟩:=go
 refine ⟨[],x_call (ds:=[.fro (ns.map .int)]) (show Has Pd "law" pT from rfl) rfl (aq (aL (aB (aa (r_v rfl) (aa r_c (aa r_c ai))) ed)) (aq (aL (aT r_c (aB (aa (r_v rfl) (aa r_c (aa r_c ai))) (mg _)) e2))
  (aq (aL (aB (aa (r_v rfl) (aa r_c (aa (aN (aa (ao (r_v rfl) r_c (au rfl)) ai) elen) (aa r_c ai)))) hpd)) go))) (bw rfl rfl)⟩
end K04

namespace K04
open PySem EV RL
noncomputable def top (i:Nat):Stmt:=PySem.Challenge.pw_roundlap_k04_wrong.main.body.getD i (.Pass ⟨0,0,0,0⟩)
noncomputable def fns:List (Str × Stmt):=[("is_whole",top 16),("is_value",top 17),("is_row",top 18),("is_crew",top 19),("are_crews",top 20),("is_work_source",top 21),("is_source",top 22),("are_starts",top 23),("is_work",top 24),("are_works",top 25),("are_outs",top 26),("is_loop",top 27),("checked",top 28),("needs",top 29),("checked_gap",top 33),("is_plan",top 34),("checked_plan",top 35),("waiting",top 36),("busy_machines",top 37),("crowded_rest",top 38),("fault",top 39),("wrong",top 40),("_law_cell_at",top 42),("_law_mixed",top 43),("_law_source",top 44),("_law_work",top 45),("_law_loop",top 46),("_law_plan",top 47),("_law_needs",top 48),("_law_busy",top 49),("_law_wrong",top 50),("law",top 51)]
noncomputable def vals:List (Str × D):=[("REST",(.int 9973)),("MOST_STREAMS",(.int 6)),("MOST_CREWS",(.int 3)),("MOST_MACHINES",(.int 3)),("MOST_BUSY",(.int 4)),("MOST_WORKS",(.int 8)),("MOST_LONG",(.int 8)),("MOST_SOURCES",(.int 3)),("MOST_BACK",(.int 3)),("WORDS",(.tup [(.str "plus"),(.str "less"),(.str "times"),(.str "least"),(.str "greatest")])),("MOST_GAP",(.int 200)),("MOST_TIME",(.int 999))]
noncomputable def cls:List Str:=["LapError","NoLoop","NoGap","NoPlan"]
set_option maxRecDepth 100000 in
set_option maxHeartbeats 0 in
theorem hP:fns.map (fun p=>(p.1,trF (d8 fns vals cls) p.2))=Pd.map fun p=>(p.1,some p.2):=by kernel_rfl
end K04
noncomputable def PySem.W.Fast.tw13859133020184875040:Nat:=0
noncomputable def PySem.W.Fast.tw17069085495801092833:Nat:=0
noncomputable def PySem.W.Fast.tw12133143416587172404:Nat:=0
noncomputable def PySem.W.Fast.tw16817362455023285446:Nat:=0
noncomputable def PySem.W.Fast.tw8256991955119122123:Nat:=0
noncomputable def PySem.W.Fast.tw6889450402281350364:Nat:=0
noncomputable def PySem.W.Fast.tw10019933760677462794:Nat:=0
noncomputable def PySem.W.Fast.tw14684869936135475629:Nat:=0
noncomputable def PySem.W.Fast.tw12348868160008928417:Nat:=0
noncomputable def PySem.W.Fast.tw5137535949778559143:Nat:=0
noncomputable def PySem.W.Fast.tw14355746800390852078:Nat:=0
noncomputable def PySem.W.Fast.tw9991171364508768611:Nat:=0
noncomputable def PySem.W.Fast.tw14266770467057447435:Nat:=0
noncomputable def PySem.W.Fast.tw1977622991693663219:Nat:=0
noncomputable def PySem.W.Fast.tw1358891888544544491:Nat:=0
noncomputable def PySem.W.Fast.tw1347628807388632826:Nat:=0
noncomputable def PySem.W.Fast.tw15816490969177541269:Nat:=0
noncomputable def PySem.W.Fast.tw4858369575287167575:Nat:=0
noncomputable def PySem.W.Fast.tw12877879292965293093:Nat:=0
noncomputable def PySem.W.Fast.tw4264938333453300891:Nat:=0
noncomputable def PySem.W.Fast.tw2806897802988792641:Nat:=0
noncomputable def PySem.W.Fast.tw17817225281597400812:Nat:=0
noncomputable def PySem.W.Fast.tw2908130464305667823:Nat:=0
noncomputable def PySem.W.Fast.tw2888402864641897490:Nat:=0
noncomputable def PySem.W.Fast.tw13290784967491748067:Nat:=0
noncomputable def PySem.W.Fast.tw30526296968127476:Nat:=0
noncomputable def PySem.W.Fast.tw12242703818262584281:Nat:=0
noncomputable def PySem.W.Fast.tw7629308980947869215:Nat:=0
noncomputable def PySem.W.Fast.tw1298827653599321658:Nat:=0
noncomputable def PySem.W.Fast.tw14147487273975551423:Nat:=0
noncomputable def PySem.W.Fast.tw7985534907008875208:Nat:=0
noncomputable def PySem.W.Fast.tw970695674142235940:Nat:=0
noncomputable def PySem.W.Fast.tw8150319482355250603:Nat:=0
noncomputable def PySem.W.Fast.tw16587720157575262244:Nat:=0
noncomputable def PySem.W.Fast.tw14728485934500827480:Nat:=0
noncomputable def PySem.W.Fast.tw4064291715238165320:Nat:=0
noncomputable def PySem.W.Fast.tw16579884601615791849:Nat:=0
noncomputable def PySem.W.Fast.tw3178896509799756360:Nat:=0
noncomputable def PySem.W.Fast.tw2164831059070827144:Nat:=0
noncomputable def PySem.W.Fast.tw9871732960000092142:Nat:=0
noncomputable def PySem.W.Fast.tw12944704676513668230:Nat:=0
noncomputable def PySem.W.Fast.tw16201103038945405944:Nat:=0
noncomputable def PySem.W.Fast.tw11866910013444022265:Nat:=0
noncomputable def PySem.W.Fast.tw3669018864627841789:Nat:=0
noncomputable def PySem.W.Fast.tw15246204022385047642:Nat:=0
noncomputable def PySem.W.Fast.tw6415826843328107108:Nat:=0
noncomputable def PySem.W.Fast.tw15756154343731580147:Nat:=0
noncomputable def PySem.W.Fast.tw14762214969749430011:Nat:=0
noncomputable def PySem.W.Fast.tw7626406105707821638:Nat:=0
noncomputable def PySem.W.Fast.tw3437996734711649210:Nat:=0
noncomputable def PySem.W.Fast.tw2715017486125295452:Nat:=0
noncomputable def PySem.W.Fast.tw13986746901692435519:Nat:=0
noncomputable def PySem.W.Fast.tw11307176458220886447:Nat:=0
noncomputable def PySem.W.Fast.tw10409602827023309401:Nat:=0
noncomputable def PySem.W.Fast.tw13638390235623580121:Nat:=0
noncomputable def PySem.W.Fast.tw1109388376396387743:Nat:=0
noncomputable def PySem.W.Fast.tw6059959813939270208:Nat:=0
noncomputable def PySem.W.Fast.tw14872999917727790964:Nat:=0
noncomputable def PySem.W.Fast.tw15764740888744472524:Nat:=0
noncomputable def PySem.W.Fast.tw16804865015907731406:Nat:=0
noncomputable def PySem.W.Fast.tw16631776052461848196:Nat:=0
noncomputable def PySem.W.Fast.tw1947934522121362352:Nat:=0
noncomputable def PySem.W.Fast.tw707752907339503318:Nat:=0
noncomputable def PySem.W.Fast.tw17971669216822546851:Nat:=0
noncomputable def PySem.W.Fast.tw781013044902157706:Nat:=0
noncomputable def PySem.W.Fast.tw846433728981010243:Nat:=0
noncomputable def PySem.W.Fast.tw4434791541770063736:Nat:=0
noncomputable def PySem.W.Fast.tw4894091531855372473:Nat:=0
noncomputable def PySem.W.Fast.tw14880840480686231039:Nat:=0
noncomputable def PySem.W.Fast.tw6302470423209275211:Nat:=0
noncomputable def PySem.W.Fast.tw9057061276985934306:Nat:=0
noncomputable def PySem.W.Fast.tw8462989492226020225:Nat:=0
noncomputable def PySem.W.Fast.tw17300007561316008454:Nat:=0
noncomputable def PySem.W.Fast.tw11881241095433888629:Nat:=0
noncomputable def PySem.W.Fast.tw4532645784674214366:Nat:=0
noncomputable def PySem.W.Fast.tw13670933311685596334:Nat:=0
noncomputable def PySem.W.Fast.tw6581228830303578322:Nat:=0
noncomputable def PySem.W.Fast.tw16095828589701554625:Nat:=0
noncomputable def PySem.W.Fast.tw1444657255829983443:Nat:=0
noncomputable def PySem.W.Fast.tw1233509966963868090:Nat:=0
noncomputable def PySem.W.Fast.tw11349161960796056555:Nat:=0
noncomputable def PySem.W.Fast.tw8630543807008372249:Nat:=0
noncomputable def PySem.W.Fast.tw14433927955648060415:Nat:=0
noncomputable def PySem.W.Fast.tw7320629691415967278:Nat:=0
noncomputable def PySem.W.Fast.tw15977520559116310334:Nat:=0
noncomputable def PySem.W.Fast.tw5585729565890925276:Nat:=0
noncomputable def PySem.W.Fast.tw16564419314330206719:Nat:=0
noncomputable def PySem.W.Fast.tw10829554888298377585:Nat:=0
noncomputable def PySem.W.Fast.tw9996786880675416753:Nat:=0
noncomputable def PySem.W.Fast.tw14662486531635322569:Nat:=0
noncomputable def PySem.W.Fast.tw5484153815137735157:Nat:=0
noncomputable def PySem.W.Fast.tw18266874520396185583:Nat:=0
noncomputable def PySem.W.Fast.tw4200682684739915214:Nat:=0
noncomputable def PySem.W.Fast.tw6025849855040918699:Nat:=0
noncomputable def PySem.W.Fast.tw13751172818689321070:Nat:=0
noncomputable def PySem.W.Fast.tw11564686565974628558:Nat:=0
noncomputable def PySem.W.Fast.tw11695032506758098770:Nat:=0
noncomputable def PySem.W.Fast.tw3636444084788081659:Nat:=0
noncomputable def PySem.W.Fast.tw6189600622757648369:Nat:=0
noncomputable def PySem.W.Fast.tw8987990339033590625:Nat:=0
noncomputable def PySem.W.Fast.tw13609332116892868325:Nat:=0
noncomputable def PySem.W.Fast.tw15212345753242992662:Nat:=0
noncomputable def PySem.W.Fast.tw6076920695063162051:Nat:=0
noncomputable def PySem.W.Fast.tw13850892306631425607:Nat:=0
noncomputable def PySem.W.Fast.tw15984411085180676595:Nat:=0
noncomputable def PySem.W.Fast.tw16790080754309120296:Nat:=0
noncomputable def PySem.W.Fast.tw693893924604515816:Nat:=0
noncomputable def PySem.W.Fast.tw9565051536803759223:Nat:=0
noncomputable def PySem.W.Fast.tw6977926048250696839:Nat:=0
noncomputable def PySem.W.Fast.tw4722612499024840827:Nat:=0
noncomputable def PySem.W.Fast.tw16207937376998221739:Nat:=0
noncomputable def PySem.W.Fast.tw3651632368786457059:Nat:=0
noncomputable def PySem.W.Fast.tw7228359050466601786:Nat:=0
noncomputable def PySem.W.Fast.tw1205891791002502128:Nat:=0
noncomputable def PySem.W.Fast.tw3784018652363761403:Nat:=0
noncomputable def PySem.W.Fast.tw7105794075331734491:Nat:=0
noncomputable def PySem.W.Fast.tw12001332063904859708:Nat:=0
noncomputable def PySem.W.Fast.tw2097828780380762167:Nat:=0
noncomputable def PySem.W.Fast.tw8169580211886282714:Nat:=0
noncomputable def PySem.W.Fast.tw9397729374981138910:Nat:=0
noncomputable def PySem.W.Fast.tw2375713487654316520:Nat:=0
noncomputable def PySem.W.Fast.tw3507878780936928132:Nat:=0
noncomputable def PySem.W.Fast.tw13396873041197608892:Nat:=0
noncomputable def PySem.W.Fast.tw17830636561347325428:Nat:=0
noncomputable def PySem.W.Fast.tw8055247049174615291:Nat:=0
noncomputable def PySem.W.Fast.tw15087310462737713642:Nat:=0
noncomputable def PySem.W.Fast.tw15246731928776371906:Nat:=0
noncomputable def PySem.W.Fast.tw18288703803147260058:Nat:=0
noncomputable def PySem.W.Fast.tw14123955915518882932:Nat:=0
noncomputable def PySem.W.Fast.tw6011379328226349581:Nat:=0
noncomputable def PySem.W.Fast.tw17633014526620755034:Nat:=0
noncomputable def PySem.W.Fast.tw7210870076647672322:Nat:=0
noncomputable def PySem.W.Fast.tw17478016371871538926:Nat:=0
noncomputable def PySem.W.Fast.tw6013962587529678436:Nat:=0
noncomputable def PySem.W.Fast.tw2497367269223354761:Nat:=0
noncomputable def PySem.W.Fast.tw3794746176738980925:Nat:=0
noncomputable def PySem.W.Fast.tw14750156042421230964:Nat:=0
noncomputable def PySem.W.Fast.tw4928695701880660613:Nat:=0
noncomputable def PySem.W.Fast.tw9901440542557142586:Nat:=0
noncomputable def PySem.W.Fast.tw10603233082575289855:Nat:=0
noncomputable def PySem.W.Fast.tw2998146777408166816:Nat:=0
noncomputable def PySem.W.Fast.tw15689949432490246303:Nat:=0
noncomputable def PySem.W.Fast.tw14438826184226369658:Nat:=0
noncomputable def PySem.W.Fast.tw17929268160143659758:Nat:=0
noncomputable def PySem.W.Fast.tw9872506155844755185:Nat:=0
noncomputable def PySem.W.Fast.tw1859646335824682026:Nat:=0
noncomputable def PySem.W.Fast.tw414149582114606996:Nat:=0
noncomputable def PySem.W.Fast.tw9883936640748063630:Nat:=0
noncomputable def PySem.W.Fast.tw1533174765560566386:Nat:=0
noncomputable def PySem.W.Fast.tw17721890685946687488:Nat:=0
noncomputable def PySem.W.Fast.tw16231250087880478336:Nat:=0
noncomputable def PySem.W.Fast.tw12429635598256338426:Nat:=0
noncomputable def PySem.W.Fast.tw1137179566001541536:Nat:=0
noncomputable def PySem.W.Fast.tw16044900184570781189:Nat:=0
noncomputable def PySem.W.Fast.tw11767404889044461778:Nat:=0
noncomputable def PySem.W.Fast.tw8242810389467568491:Nat:=0
noncomputable def PySem.W.Fast.tw13313067401416394715:Nat:=0
noncomputable def PySem.W.Fast.tw7963316409927755166:Nat:=0
noncomputable def PySem.W.Fast.tw16412971822582335795:Nat:=0
noncomputable def PySem.W.Fast.tw12212610613555980539:Nat:=0
noncomputable def PySem.W.Fast.tw4809602242914966285:Nat:=0
noncomputable def PySem.W.Fast.tw8500835503385689921:Nat:=0
noncomputable def PySem.W.Fast.tw17974197556283886163:Nat:=0
noncomputable def PySem.W.Fast.tw16414590958787705211:Nat:=0
noncomputable def PySem.W.Fast.tw4318981662897218679:Nat:=0
noncomputable def PySem.W.Fast.tw17078507761764262377:Nat:=0
noncomputable def PySem.W.Fast.tw15695891703965370716:Nat:=0
noncomputable def PySem.W.Fast.tw18144427903343785044:Nat:=0
noncomputable def PySem.W.Fast.tw11765950798222635810:Nat:=0
noncomputable def PySem.W.Fast.tw5776341654306931228:Nat:=0
noncomputable def PySem.W.Fast.tw6739887966814533750:Nat:=0
noncomputable def PySem.W.Fast.tw9354067638116285053:Nat:=0
noncomputable def PySem.W.Fast.tw4963740038228561593:Nat:=0
noncomputable def PySem.W.Fast.tw4023411866945728623:Nat:=0
noncomputable def PySem.W.Fast.tw5348761022206175113:Nat:=0
noncomputable def PySem.W.Fast.tw16143118857426970223:Nat:=0
noncomputable def PySem.W.Fast.tw2319648290034681607:Nat:=0
noncomputable def PySem.W.Fast.tw13501119994526825302:Nat:=0
noncomputable def PySem.W.Fast.tw15830667372936536331:Nat:=0
noncomputable def PySem.W.Fast.tw17977864747223056492:Nat:=0
noncomputable def PySem.W.Fast.tw14840592601904055238:Nat:=0
noncomputable def PySem.W.Fast.tw139372058142419471:Nat:=0
noncomputable def PySem.W.Fast.tw8890067729816770561:Nat:=0
noncomputable def PySem.W.Fast.tw15873343343703030691:Nat:=0
noncomputable def PySem.W.Fast.tw2590860579465686508:Nat:=0
noncomputable def PySem.W.Fast.tw15829699160061232378:Nat:=0
noncomputable def PySem.W.Fast.tw6440061104053054368:Nat:=0
noncomputable def PySem.W.Fast.tw7329148385291691949:Nat:=0
noncomputable def PySem.W.Fast.tw1196649289333270115:Nat:=0
noncomputable def PySem.W.Fast.tw1382950057889108493:Nat:=0
noncomputable def PySem.W.Fast.tw2378002978729690428:Nat:=0
noncomputable def PySem.W.Fast.tw845166576856562938:Nat:=0
noncomputable def PySem.W.Fast.tw15850140603067756328:Nat:=0
noncomputable def PySem.W.Fast.tw14307033588256976006:Nat:=0
noncomputable def PySem.W.Fast.tw9395071963690859025:Nat:=0
noncomputable def PySem.W.Fast.tw4164422909082540505:Nat:=0
noncomputable def PySem.W.Fast.tw14496659494861233017:Nat:=0
noncomputable def PySem.W.Fast.tw4363144592854836811:Nat:=0
noncomputable def PySem.W.Fast.tw3616403317562817559:Nat:=0
noncomputable def PySem.W.Fast.tw6647157978829639410:Nat:=0
noncomputable def PySem.W.Fast.tw15682727712835737419:Nat:=0
noncomputable def PySem.W.Fast.tw1404537086548527487:Nat:=0
noncomputable def PySem.W.Fast.tw11839787678785976492:Nat:=0
noncomputable def PySem.W.Fast.tw13006121061118268372:Nat:=0
noncomputable def PySem.W.Fast.tw231401814239997785:Nat:=0
noncomputable def PySem.W.Fast.tw2522495426580312385:Nat:=0
noncomputable def PySem.W.Fast.tw813191482086580001:Nat:=0
noncomputable def PySem.W.Fast.tw10907655146958261456:Nat:=0
noncomputable def PySem.W.Fast.tw2235683223089070137:Nat:=0
noncomputable def PySem.W.Fast.tw17825621436313345900:Nat:=0
noncomputable def PySem.W.Fast.tw16771985391947229511:Nat:=0
noncomputable def PySem.W.Fast.tw12508232154280900318:Nat:=0
noncomputable def PySem.W.Fast.tw3620347209096484162:Nat:=0
noncomputable def PySem.W.Fast.tw10451143641043472692:Nat:=0
noncomputable def PySem.W.Fast.tw16471515989400907310:Nat:=0
noncomputable def PySem.W.Fast.tw12224088985649114971:Nat:=0
noncomputable def PySem.W.Fast.tw14896466440144988344:Nat:=0
noncomputable def PySem.W.Fast.tw5580440936858866040:Nat:=0
noncomputable def PySem.W.Fast.tw14593595285749711749:Nat:=0
noncomputable def PySem.W.Fast.tw12840651028286586074:Nat:=0
noncomputable def PySem.W.Fast.tw563281701045749700:Nat:=0
noncomputable def PySem.W.Fast.tw18417310970745880751:Nat:=0
noncomputable def PySem.W.Fast.tw16304099129944591653:Nat:=0
noncomputable def PySem.W.Fast.tw4398859688395381256:Nat:=0
noncomputable def PySem.W.Fast.tw5653574536879772879:Nat:=0
noncomputable def PySem.W.Fast.tw2820927262949262036:Nat:=0
noncomputable def PySem.W.Fast.tw1431821139806917938:Nat:=0
noncomputable def PySem.W.Fast.tw14739273147960938053:Nat:=0
noncomputable def PySem.W.Fast.tw1908174104149365787:Nat:=0
noncomputable def PySem.W.Fast.tw18245435835148905962:Nat:=0
noncomputable def PySem.W.Fast.tw4327787624146906406:Nat:=0
noncomputable def PySem.W.Fast.tw1505706048290963919:Nat:=0
noncomputable def PySem.W.Fast.tw15594533108658942205:Nat:=0
noncomputable def PySem.W.Fast.tw1959454826967181400:Nat:=0
noncomputable def PySem.W.Fast.tw17875721591746349472:Nat:=0
noncomputable def PySem.W.Fast.tw10750537460490835712:Nat:=0
noncomputable def PySem.W.Fast.tw16293704933781026053:Nat:=0
noncomputable def PySem.W.Fast.tw2743933759746473874:Nat:=0
noncomputable def PySem.W.Fast.tw13042721063186461482:Nat:=0
noncomputable def PySem.W.Fast.tw18241134117388515676:Nat:=0
noncomputable def PySem.W.Fast.tw15612461669448188469:Nat:=0
noncomputable def PySem.W.Fast.tw3163613043140399165:Nat:=0
noncomputable def PySem.W.Fast.tw13665127184569579069:Nat:=0
noncomputable def PySem.W.Fast.tw7643866965958395905:Nat:=0
noncomputable def PySem.W.Fast.tw7042117495501443477:Nat:=0
noncomputable def PySem.W.Fast.tw14144039630204076173:Nat:=0
noncomputable def PySem.W.Fast.tw9313059804870510810:Nat:=0
noncomputable def PySem.W.Fast.tw2799626565193125800:Nat:=0
noncomputable def PySem.W.Fast.tw16251785007340640725:Nat:=0
noncomputable def PySem.W.Fast.tw18034635516855331528:Nat:=0
noncomputable def PySem.W.Fast.tw12779122844188457223:Nat:=0
noncomputable def PySem.W.Fast.tw4287412838195894361:Nat:=0
open PySem PySem.W PyProof.Rows
set_option maxRecDepth 100000 in
set_option maxHeartbeats 0 in
theorem PySem.Challenge.cw_roundlap_k04_wrong_holds : PySem.Challenge.rw_roundlap_k04_wrong.Holds := by
 w_on; o_law; k_head; (case hw=>w_witness2)
 k_fill
 refine EV.zQ (l:=PySem.Challenge.rw_roundlap_k04_wrong) (fns:=K04.fns) (vals:=K04.vals) (cls:=K04.cls) (Pd:=K04.Pd) (sub:=fun _ _=>false) (n:=30) (st:=K04.top 51) (x:="_law_script") rfl rfl ⟨rfl,by decide,by decide⟩ (fun w h Y=>PySem.W.kIn_of Y) K04.hP rfl rfl ?T K04.main
 case T =>
  intro w h KX
  refine ⟨?_,?_,?_⟩
  ·unfold K04.fns
   repeat (apply EV.cU.cons; k_is; k_is; k_is; k_is)
   exact EV.cU.nil
  ·unfold K04.vals
   repeat first
    | (apply EV.bZ.flat; k_is; constructor)
    | (apply EV.bZ.tup; k_is; k_is; decide; (focus (repeat' constructor)))
   exact EV.bZ.nil
  ·refine fun x hx _=>EV.dD.get (l:=EV.dz) ?hNone0 hx
   unfold EV.dz
   repeat (apply EV.dD.cons; k_is)
   exact EV.dD.nil
end
