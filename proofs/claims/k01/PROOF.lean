import PyProof.Rows.All
import Wide.All
import OpenK.AllK
import Wide.FinOn
import Lean
import PyProof.EqAt
import PyProof.EqKinds
import PyProof.TupleCall
import PyProof.ListRange
import PyProof.TupleOfSeq
import OpenK.KRaise
import OpenK.KOwn
import PyProof.NsDelKeeps
import PyProof.StrOps2
import PyProof.ExcAttrAll.ValueError
import PySem.SetTable
import PyProof.SetScanFacts
import PyProof.TupleKey
import PyProof.SetKind
import PyProof.IsRules
import PyProof.DictKinds
import PyProof.InstSpecial
import PyProof.Rows.SetFrom
import PyProof.WalksS
import PyProof.Walks
import PyProof.Seq
import PyProof.FactsAll.set_1
import PyProof.Comp
import PyProof.CollectWalk
import PyProof.SetNew
import PyProof.FactsAll.set_2
import PyProof.Rows.SortShellK
import PyProof.Rows.SortWalk
import PySem.Str
import PyProof.NeKinds
import PySem.Eval
import PyProof.ExcBaseAll.ValueError
import PySem.Challenge.RW_roundlap_k01_loops
set_option genSizeOfSpec false
set_option bootstrap.genMatcherCode false
noncomputable section
set_option Elab.async false
set_option linter.all false
set_option maxRecDepth 100000
namespace L2
open PySem PySem.Spec PyProof.Rows
abbrev Key:=Sum Int Str
noncomputable def qf:Key->Value->Bool
 | .inl k,v=>Value.isInt k v
 | .inr x,v=>Value.isStrOf x v
noncomputable def Au (w:World):Key->Int
 | .inl k=>hashInt k
 | .inr x=>hashStr w x
theorem dO:∀ {k:Key} {v:Value},qf k v=true->(∃ i t,k=Sum.inl i/\v=Value.int i t)\/(∃ x t,k=Sum.inr x/\v=Value.str x t)
 | .inl i,v,h=>by
  obtain ⟨t,e⟩:=Value.isInt_shape (k:=i) (v:=v) h
  exact .inl ⟨i,t,rfl,e⟩
 | .inr x,v,h=>by
  obtain ⟨t,e⟩:=Value.isStrOf_shape (x:=x) (v:=v) h
  exact .inr ⟨x,t,rfl,e⟩
theorem Ez (a b:Int):decide ((Sum.inl a:Key)=Sum.inl b)=(a==b):=by
 by_cases e:a=b
 ·subst e; simp
 ·have h:¬ (Sum.inl a:Key)=Sum.inl b:=fun q=>e (Sum.inl.inj q)
  rw [decide_eq_false h]
  exact (beq_eq_false_iff_ne.mpr e).symm
theorem A8 (a b:Str):decide ((Sum.inr a:Key)=Sum.inr b)=decide (a=b):=by
 by_cases e:a=b
 ·subst e; simp
 ·have h:¬ (Sum.inr a:Key)=Sum.inr b:=fun q=>e (Sum.inr.inj q)
  rw [decide_eq_false h,decide_eq_false e]
theorem Bo (a:Int) (b:Str):decide ((Sum.inl a:Key)=Sum.inr b)=false:=decide_eq_false (fun q=>nomatch q)
theorem CU (a:Str) (b:Int):decide ((Sum.inr a:Key)=Sum.inl b)=false:=decide_eq_false (fun q=>nomatch q)
noncomputable def kN (prog:Program) (w:World):PySem.KeyKind prog w Key where
 is:=qf
 hash:=Au w
 inj:=fun v a b ha hb=>by
  rcases dO ha with ⟨i,t,rfl,rfl⟩|⟨x,t,rfl,rfl⟩
  ·rcases dO hb with ⟨j,u,rfl,e⟩|⟨y,u,rfl,e⟩
   ·injection e with e1 _; rw [e1]
   ·exact nomatch e
  ·rcases dO hb with ⟨j,u,rfl,e⟩|⟨y,u,rfl,e⟩
   ·exact nomatch e
   ·injection e with e1 _; rw [e1]
 byValue:=fun k v h=>by
  rcases dO h with ⟨i,t,rfl,rfl⟩|⟨x,t,rfl,rfl⟩ <;> rfl
 pyHash:=fun hv h=>by
  rcases dO hv with ⟨i,t,rfl,rfl⟩|⟨x,t,rfl,rfl⟩
  ·exact wpAny_pyHash_int h
  ·exact wpAny_pyHash_str h
 eqBool:=fun hu hv h=>by
  rcases dO hu with ⟨i,t,rfl,rfl⟩|⟨x,t,rfl,rfl⟩
  ·rcases dO hv with ⟨j,u,rfl,rfl⟩|⟨y,u,rfl,rfl⟩
   ·rw [Ez] at h; exact wpAny_eqBool_int h
   ·rw [Bo] at h; exact SeqAt.EqAt.int_str i t y u _ _ _ _ h
  ·rcases dO hv with ⟨j,u,rfl,rfl⟩|⟨y,u,rfl,rfl⟩
   ·rw [CU] at h; exact SeqAt.EqAt.str_int x t j u _ _ _ _ h
   ·rw [A8] at h; exact wpAny_eqBool_str h
 «strs»:=fun k x t v h=>by
  rcases dO h with ⟨i,u,rfl,e⟩|⟨y,u,rfl,e⟩
  ·exact nomatch e
  ·injection e with e1 _
   subst e1
   cases v <;> rfl
end L2
namespace L2
open PySem PySem.Spec PyProof.Rows
inductive V where
 | non|bl (b:Bool)|int (i:Int)|str (x:Str)|byt (b:Array UInt8)|flt (b:UInt64)|ref (a:Addr)|ty (n:String)
 deriving DecidableEq
noncomputable def RelV:V->Value->Prop
 | .non,u=>u=Value.none
 | .bl b,u=>u=Value.bool b
 | .int i,u=>∃ t,u=Value.int i t
 | .str x,u=>∃ t,u=Value.str x t
 | .byt b,u=>∃ t,u=Value.bytes b t
 | .flt b,u=>∃ t,u=Value.float b t
 | .ref a,u=>u=Value.ref a
 | .ty n,u=>u=Value.type n
abbrev Vals:List V->List Value->Prop:=Paired RelV
theorem Vals.length {xs:List V} {us:List Value} (r:Vals xs us):xs.length=us.length:=Paired.length r
theorem Vals.get:∀ {xs:List V} {us:List Value} {i:Nat} {x:V},Vals xs us->xs[i]?=some x->∃ u,us[i]?=some u/\RelV x u
 | _,_,_,_,.nil,e=>by simp at e
 | _,_,0,_,.cons r _,e=>by simp at e; subst e; exact ⟨_,rfl,r⟩
 | _,_,i+1,x,.cons _ t,e=>by
  obtain ⟨u,h1,h2⟩:=Vals.get (i:=i) (x:=x) t (by simpa using e)
  exact ⟨u,by simpa using h1,h2⟩
theorem Vals.set {x:V} {u:Value} (r:RelV x u):∀ {xs:List V} {us:List Value} (i:Nat),Vals xs us->Vals (xs.set i x) (us.set i u)
 | _,_,_,.nil=>.nil
 | _,_,0,.cons _ t=>.cons r t
 | _,_,i+1,.cons q t=>.cons q (Vals.set r i t)
theorem Vals.append:∀ {xs ys:List V} {us ws:List Value},Vals xs us->Vals ys ws->Vals (xs++ys) (us++ws)
 | _,_,_,_,.nil,s=>s
 | _,_,_,_,.cons r t,s=>.cons r (Vals.append t s)
theorem Vals.take:∀ {xs:List V} {us:List Value} (n:Nat),Vals xs us->Vals (xs.take n) (us.take n)
 | _,_,0,_=>.nil
 | _,_,_+1,.nil=>.nil
 | _,_,n+1,.cons r t=>.cons r (Vals.take n t)
theorem Vals.drop:∀ {xs:List V} {us:List Value} (n:Nat),Vals xs us->Vals (xs.drop n) (us.drop n)
 | _,_,0,r=>r
 | _,_,_+1,.nil=>.nil
 | _,_,n+1,.cons _ t=>Vals.drop n t
noncomputable def n9:Option V->Option Value->Prop
 | some v,some u=>RelV v u
 | none,none=>True
 | _,_=>False
noncomputable def KV {κ:Type}:List (κ × V)->List (κ × Value)->Prop:=Paired fun (p:κ × V) (q:κ × Value)=>p.1=q.1/\RelV p.2 q.2
noncomputable def kV:Key->V
 | .inl i=>.int i
 | .inr x=>.str x
inductive HO where
 /-- a list -/
 | lst (xs:List V)
 /-- a tuple (never changes) -/
 | tup (xs:List V)
 /-- a dict whose keys are ints and texts; one whose keys are tuples of ints and texts (the empty one is both) -/
 | dK (kvs:List (Key × V))|dT (kvs:List (List Key × V))
 /-- a set of ints: its members,its size -/
 | set (S:Int->Bool) (n:Nat)
 /-- an instance of the class at C,its dict at dx,its attributes -/
 | ins (C dx:Addr) (fs:List (Str × V))
 /-- the dict of the instance at x -/
 | own (x:Addr)
 /-- the dict of an exception -/
 | xd (fs:List (Str × V))
 /-- a bound method,f of x -/
 | met (f x:Addr)
 /-- a range object lo,lo+1,.. below hi -/
 | rng (lo hi:Int)
 /-- a thing that is known to the object (the script; a dict while a loop walks it): read,never written while it is so -/
 | frz (o:Obj) (u:HO)
 /-- a code object's table -/
 | tbl (ps:Array Value)
 /-- any other thing,by what is true of its one object (a def of one's own: SetO a S n:=HO.ext fun h=>..) -/
 | ext (φ:Heap->Prop)
abbrev Hp:=Addr->Option HO
noncomputable def upd (H:Hp) (a:Addr) (o:HO):Hp:=fun b=>if b=a then some o else H b
theorem c_ {H:Hp} {a:Addr} {o:HO}:upd H a o a=some o:=by unfold upd; rw [if_pos rfl]
theorem aB {H:Hp} {a b:Addr} {o:HO} (h:b≠a):upd H a o b=H b:=by unfold upd; rw [if_neg h]
theorem qt {H:Hp} {a b:Addr} {o u:HO} (h:H a=some o) (h':H b=some u) (d:o≠u):a≠b:=by
 intro e; subst e; rw [h] at h'; exact d (Option.some.inj h')
theorem bz {H:Hp} {a b:Addr} {o:HO} (h:H a=some o) (h':H b=none):a≠b:=by
 intro e; subst e; rw [h] at h'; cases h'
section
variable (P:Program) (w:World)
noncomputable def bR (H:Hp) (h:Heap) (a:Addr):HO->Prop
 | .lst xs=>xs.length<=sizeLine/\∃ (its:List Value) (n:Nat),Vals xs its/\h.get? a=some { cls:=.type "list",data:=.seq its.toArray n }
 | .tup xs=>xs.length<=sizeLine/\∃ its:List Value,Vals xs its/\IsTup h a its.toArray
 | .dK kvs=>kvs.length<=sizeLine/\(a==sysModules)=false/\∃ vs,KV kvs vs/\h.DictOf (kN P w) a vs
 | .dT kvs=>kvs.length<=sizeLine/\(a==sysModules)=false/\∃ xs:List (List Key × Addr × Value),
   Paired (fun (p:List Key × V) (q:List Key × Addr × Value)=>p.1=q.1/\H q.2.1=some (.tup (p.1.map kV))/\RelV p.2 q.2.2) kvs xs /\
   ∃ o es ep,h.get? a=some o/\o.ExactDict/\o.data=.dict es ep/\es.toList=xs.map (entryOfKey (tupleKind (kN P w)))/\(xs.map (·.1)).Nodup
 | .set S n=>h.SetOf (intKind P w) a S n
 | .ins C dx fs=>H dx=some (.own a)/\fs.length<=1000/\dx≠a/\h.get? a=some (PySem.W.instObj C dx) /\
   ∃ mA,h.Ns1 dx mA/\(∀ f,n9 (fs.lookup f) (mA f))/\PySem.Within mA (fs.map (·.1))
 | .own _=>∃ o,h.get? a=some o
 | .xd fs=>∃ mA,h.Ns1 a mA/\∀ f,n9 (fs.lookup f) (mA f)
 | .rng lo hi=>∃ t u v,h.get? a=some { cls:=.type "range",data:=.fields #[.int lo t,.int hi u,.int 1 v] }
 | .frz o u=>h.get? a=some o/\bR H h a u
 | .tbl ps=>h.get? a=some { cls:=.none,data:=.fields ps }
 | .met f x=>h.get? a=some (PySem.W.methodObj (.ref f) (.ref x))
 | .ext φ=>φ h/\(∃ o,h.get? a=some o)/\∀ h1 h2:Heap,φ h1->(∀ o,h1.get? a=some o->h2.get? a=some o)->φ h2
noncomputable def HOk (H:Hp) (h:Heap):Prop:=∀ a o,H a=some o->bR P w H h a o
end
section
variable {P:Program} {w:World} {H H':Hp} {h h':Heap} {a:Addr} {o:HO}
theorem bR.lt (x:bR P w H h a o):a < h.objs.size:=by
 cases o with
 | lst xs=>obtain ⟨_,_,_,_,e⟩:=x; exact Heap.lt_size e
 | tup xs=>obtain ⟨_,_,_,p⟩:=x; exact p.lt
 | dK kvs=>obtain ⟨_,_,_,_,o,_,_,e,_⟩:=x; exact Heap.lt_size e
 | dT kvs=>obtain ⟨_,_,_,_,o,_,_,e,_⟩:=x; exact Heap.lt_size e
 | set S n=>obtain ⟨o,_,_,_,e,_⟩:=x; exact Heap.lt_size e
 | ins C dx fs=>obtain ⟨_,_,_,e,_⟩:=x; exact Heap.lt_size e
 | own y=>obtain ⟨_,e⟩:=x; exact Heap.lt_size e
 | xd fs=>obtain ⟨_,⟨_,_,_,e,_⟩,_⟩:=x; exact Heap.lt_size e
 | rng lo hi=>obtain ⟨_,_,_,e⟩:=x; exact Heap.lt_size e
 | frz ob u=>obtain ⟨e,_⟩:=x; exact Heap.lt_size e
 | tbl ps=>exact Heap.lt_size (show h.get? a=some _ from x)
 | met f y=>exact Heap.lt_size (show h.get? a=some _ from x)
 | ext φ=>obtain ⟨_,⟨_,e⟩,_⟩:=x; exact Heap.lt_size e
theorem Paired.nk {α β:Type} {F G:α->β->Prop}:∀ {l₁:List α} {l₂:List β},Paired F l₁ l₂->(∀ a b,F a b->G a b)->Paired G l₁ l₂
 | _,_,.nil,_=>.nil
 | _,_,.cons r t,f=>.cons (f _ _ r) (Paired.nk t f)
theorem bR.stay (x:bR P w H h a o) (k:∀ b u,(b=a\/H b=some (.own a))->h.get? b=some u->h'.get? b=some u)
  (ho:∀ b,H b=some (.own a)->H' b=some (.own a)) (ht:∀ b xs,H b=some (.tup xs)->H' b=some (.tup xs)):bR P w H' h' a o:=by
 induction o with
 | lst xs=>obtain ⟨z,its,n,r,e⟩:=x; exact ⟨z,its,n,r,k _ _ (.inl rfl) e⟩
 | tup xs=>obtain ⟨z,its,r,ob,e,c⟩:=x; exact ⟨z,its,r,ob,k _ _ (.inl rfl) e,c⟩
 | dK kvs=>obtain ⟨z,y,vs,r,ob,es,ep,e,c⟩:=x; exact ⟨z,y,vs,r,ob,es,ep,k _ _ (.inl rfl) e,c⟩
 | dT kvs =>
  obtain ⟨z,y,xs,r,ob,es,ep,e,c⟩:=x
  exact ⟨z,y,xs,Paired.nk r fun p q z=>⟨z.1,ht _ _ z.2.1,z.2.2⟩,ob,es,ep,k _ _ (.inl rfl) e,c⟩
 | set S n=>obtain ⟨ob,es,ep,t,e,c⟩:=x; exact ⟨ob,es,ep,t,k _ _ (.inl rfl) e,c⟩
 | ins C dx fs =>
  obtain ⟨d,z,ne,e,mA,⟨od,es,ep,e2,c⟩,r⟩:=x
  exact ⟨ho _ d,z,ne,k _ _ (.inl rfl) e,mA,⟨od,es,ep,k _ _ (.inr d) e2,c⟩,r⟩
 | own y=>obtain ⟨ob,e⟩:=x; exact ⟨ob,k _ _ (.inl rfl) e⟩
 | xd fs=>obtain ⟨mA,⟨od,es,ep,e,c⟩,r⟩:=x; exact ⟨mA,⟨od,es,ep,k _ _ (.inl rfl) e,c⟩,r⟩
 | rng lo hi=>obtain ⟨t,u,v,e⟩:=x; exact ⟨t,u,v,k _ _ (.inl rfl) e⟩
 | frz ob u ih=>obtain ⟨e,q⟩:=x; exact ⟨k _ _ (.inl rfl) e,ih q⟩
 | tbl ps =>
  have e:h.get? a=some { cls:=.none,data:=.fields ps }:=x
  show h'.get? a=some { cls:=.none,data:=.fields ps }
  exact k a _ (.inl rfl) e
 | met f y =>
  have e:h.get? a=some (PySem.W.methodObj (.ref f) (.ref y)):=x
  show h'.get? a=some (PySem.W.methodObj (.ref f) (.ref y))
  exact k a _ (.inl rfl) e
 | ext φ=>obtain ⟨p,⟨o,e⟩,st⟩:=x; exact ⟨st _ _ p fun o q=>k _ _ (.inl rfl) q,⟨o,k _ _ (.inl rfl) e⟩,st⟩
theorem HOk.lt (x:HOk P w H h) (e:H a=some o):a < h.objs.size:=(x a o e).lt
theorem HOk.fresh (x:HOk P w H h) (e:h.objs.size<=a):H a=none:=by
 cases q:H a with
 | none=>rfl
 | some u=>exact absurd (Nat.lt_of_lt_of_le (x.lt q) e) (Nat.lt_irrefl _)
theorem HOk.kept (x:HOk P w H h) (k:∀ b u,h.get? b=some u->h'.get? b=some u):HOk P w H h':=fun a o e =>
 (x a o e).stay (fun b u _ q=>k b u q) (fun _ q=>q) fun _ _ q=>q
theorem HOk.laid (x:HOk P w H h) (k:∀ b u,h.get? b=some u->h'.get? b=some u) (hp:h.objs.size<=a) (new:bR P w (upd H a o) h' a o):HOk P w (upd H a o) h':=fun b u e=>by
 have hn:=x.fresh hp
 by_cases hb:b=a
 ·subst hb; rw [c_] at e; cases e; exact new
 ·rw [aB hb] at e
  exact (x b u e).stay (fun c v _ q=>k c v q) (fun c q=>by rw [aB (bz q hn)]; exact q) fun c xs q=>by rw [aB (bz q hn)]; exact q
end
noncomputable def Rd (H:Hp) (a:Addr) (u:HO):Prop:=H a=some u\/∃ o,H a=some (.frz o u)
theorem Rd.ok {P:Program} {w:World} {H:Hp} {h:Heap} {a:Addr} {u:HO} (r:Rd H a u) (x:HOk P w H h):bR P w H h a u:=by
 rcases r with r|⟨o,r⟩
 ·exact x a u r
 ·obtain ⟨_,q⟩:=x a _ r
  exact q
noncomputable def Mut:Option HO->Prop
 | some (.lst _)=>True
 | some (.dK _)=>True
 | some (.dT _)=>True
 | some (.set _ _)=>True
 | some (.ins _ _ _)=>True
 | some (.ext _)=>True
 | _=>False
section
variable {P:Program} {w:World} {H:Hp} {h h':Heap} {x e:Addr} {o':HO}
theorem HOk.write (ok:HOk P w H h) (mu:Mut (H x)) (he:e=x\/H e=some (.own x)) (k:∀ b u,b≠e->h.get? b=some u->h'.get? b=some u) (heo:∃ u,h'.get? e=some u)
  (new:bR P w (upd H x o') h' x o'):HOk P w (upd H x o') h':=fun b u q=>by
 have nown:∀ c y,H c=some (.own y)->c≠x:=fun c y r z=>by subst z; rw [r] at mu; exact mu
 have ntup:∀ c xs,H c=some (.tup xs)->c≠x:=fun c xs r z=>by subst z; rw [r] at mu; exact mu
 by_cases hb:b=x
 ·subst hb; rw [c_] at q; cases q; exact new
 ·rw [aB hb] at q
  by_cases hbe:b=e
  ·have q':H b=some (.own x):=by
    rcases he with z|z
    ·exact absurd (hbe.trans z) hb
    ·rw [hbe]; exact z
   rw [q] at q'; cases q'
   obtain ⟨v,hv⟩:=heo
   exact ⟨v,by rw [hbe]; exact hv⟩
  ·refine (ok b u q).stay (fun c v hc r=>k c v ?_ r) (fun c r=>by rw [aB (nown c b r)]; exact r) fun c xs r=>by rw [aB (ntup c xs r)]; exact r
   rcases hc with rfl|hc
   ·exact hbe
   ·rintro rfl
    rcases he with z|z
    ·exact nown c b hc z
    ·rw [hc] at z; cases z; exact hb rfl
end
structure Un (fs ex:List Addr) (H H':Hp) (h h':Heap):Prop where
 keep:∀ b o,h.get? b=some o->H b=none->b ∉ fs->b ∉ ex->h'.get? b=some o
 slot:∀ b o,h.get? b=some o->H b=none->b∈fs->b ∉ ex->∃ sl,h'.get? b=some { o with slots:=sl }
 free:∀ b o,h.get? b=some o->H b=none->b ∉ ex->H' b=none
 there:∀ b o,h.get? b=some o->b ∉ ex->∃ o',h'.get? b=some o'
 tups:∀ b xs,H b=some (.tup xs)->H' b=some (.tup xs)
 frzs:∀ b o u,H b=some (.frz o u)->H' b=some (.frz o u)
 tbls:∀ b ps,H b=some (.tbl ps)->∃ more,H' b=some (.tbl (ps++more))
section
variable {fs fs' ex ex':List Addr} {H H1 H2:Hp} {h h1 h2 h':Heap} {a x e:Addr} {o:HO}
theorem Un.any (u:Un fs ex H H1 h h1) {b:Addr} {ob:Obj} (q:h.get? b=some ob) (n:H b=none) (hx:b ∉ ex):∃ sl,h1.get? b=some { ob with slots:=sl }:=by
 by_cases hb:b∈fs
 ·exact u.slot b ob q n hb hx
 ·exact ⟨ob.slots,u.keep b ob q n hb hx⟩
theorem Un.kept (k:∀ b u,h.get? b=some u->h'.get? b=some u):Un fs ex H H h h' :=
 ⟨fun b ob q _ _ _=>k b ob q,fun b ob q _ _ _=>⟨ob.slots,k b ob q⟩,fun _ _ _ n _=>n,fun b ob q _=>⟨ob,k b ob q⟩,fun _ _ q=>q,fun _ _ _ q=>q,fun _ ps q=>⟨#[],by rw [q]; simp⟩⟩
theorem Un.refl:Un fs ex H H h h:=Un.kept fun _ _ q=>q
theorem Un.laid (k:∀ b u,h.get? b=some u->h'.get? b=some u) (hp:h.objs.size<=a) (hn:H a=none):Un fs ex H (upd H a o) h h' where
 keep:=fun b u q _ _ _=>k b u q
 slot:=fun b u q _ _ _=>⟨u.slots,k b u q⟩
 free:=fun b u q n _=>by rw [aB (Nat.ne_of_lt (Nat.lt_of_lt_of_le (Heap.lt_size q) hp))]; exact n
 there:=fun b u q _=>⟨u,k b u q⟩
 tups:=fun b xs q=>by rw [aB (bz q hn)]; exact q
 frzs:=fun b u xs q=>by rw [aB (bz q hn)]; exact q
 tbls:=fun b ps q=>⟨#[],by rw [aB (bz q hn),q]; simp⟩
theorem Un.write (mu:Mut (H x)) (he:e=x\/H e=some (.own x)) (k:∀ b u,b≠e->h.get? b=some u->h'.get? b=some u) (heo:∃ u,h'.get? e=some u):Un fs ex H (upd H x o) h h':=by
 have hx:∀ b,H b=none->b≠x:=fun b n z=>by subst z; rw [n] at mu; exact mu
 have hb:∀ b,H b=none->b≠e:=fun b n z=>by
  subst z
  rcases he with r|r
  ·exact hx b n r
  ·rw [n] at r; cases r
 have hm:∀ b u,H b=some u->¬ Mut (some u)->b≠x:=fun b u q nm z=>by subst z; rw [q] at mu; exact nm mu
 refine ⟨fun b u q n _ _=>k b u (hb b n) q,fun b u q n _ _=>⟨u.slots,k b u (hb b n) q⟩,fun b u q n _=>by rw [aB (hx b n)]; exact n,fun b u q _=>?_,
  fun b xs q=>by rw [aB (hm b _ q fun z=>z)]; exact q,fun b u xs q=>by rw [aB (hm b _ q fun z=>z)]; exact q,fun b ps q=>⟨#[],by rw [aB (hm b _ q fun z=>z),q]; simp⟩⟩
 by_cases hbe:b=e
 ·subst hbe; exact heo
 ·exact ⟨u,k b u hbe q⟩
end
noncomputable def trk (h:Heap) (H:Hp):List Addr:=(List.range h.objs.size).filter fun a=>(H a).isSome
noncomputable def dS (h:Heap) (H:Hp):Heap:=PySem.W.hideAll h (trk h H)
theorem uV (h:Heap) (H:Hp):(dS h H).objs.size=h.objs.size:=PySem.W.hideAll_size _ _
theorem u6 {h:Heap} {H:Hp} {b:Addr} {o:Obj} (e:h.get? b=some o) (n:H b=none):(dS h H).get? b=some o :=
 PySem.W.hideAll_get _ e fun hm=>by
  have q:(H b).isSome=true:=(List.mem_filter.mp hm).2
  rw [n] at q; simp at q
theorem yF {h:Heap} {H:Hp} {b:Addr} {o:Obj} (e:(dS h H).get? b=some o):h.get? b=some o/\H b=none:=by
 have e':h.get? b=some o:=PySem.W.of_hideAll (trk h H) e
 refine ⟨e',?_⟩
 cases q:H b with
 | none=>rfl
 | some x =>
  have hm:b∈trk h H:=List.mem_filter.mpr ⟨List.mem_range.mpr (Heap.lt_size e'),by simp [q]⟩
  have z:(dS h H).get? b=none:=PySem.W.hideAll_none (trk h H) hm
  rw [z] at e; cases e
end L2
namespace L2
open PySem PySem.Spec PyProof.Rows
structure Mod (K:PySem.W.Frag) (mg:Str->Option Value) (base:Heap):Prop where
 kin:K.In base
 glob:base.Ns mainGlobals mg
 blt:∃ mb,base.Ns builtinsNs mb/\∀ x:Str,x≠"__name__"->mb x=bootBuiltins x
 nolimit:base.NoLimit
structure Cx where
 prog:Program
 w:World
 K:PySem.W.Frag
 mg:Str->Option Value
 base:Heap
 A:Around
 N:List Str
 s₀:Shared
 H₀:Hp
 env:Env
 outer:List Env
 stack:List Env
 ex:List Addr
 fn:Str->Bool
 calm:Bool
 pn:List (Addr × Obj)
 xe:Value->Shared->Prop
noncomputable def frs (l:List Env):List Addr:=l.filterMap (·.frame)
abbrev Cx.fs (X:Cx):List Addr:=frs X.outer
noncomputable def Vis (sc:Scope) (x:Str):Prop:=sc.names.lookup x=some .local\/sc.names.lookup x=some .cell\/sc.names.lookup x=some .free
noncomputable def Loc (sc:Scope) (x:Str):Prop:=sc.names.lookup x=some .local\/sc.names.lookup x=some .cell
noncomputable def Look (env:Env) (h:Heap) (m:Str->Option Value) (x:Str) (u:Value):Prop :=
 (env.kindOf x=some .local/\m x=some u)\/((env.kindOf x=some .cell\/env.kindOf x=some .free)/\∃ c,env.cells.lookup x=some c/\h.IsCell c (some u))
structure Cx.Ok (X:Cx):Prop where
 mod:Mod X.K X.mg X.base
 kind:X.env.scope.kind=.function
 glob:X.env.globals=mainGlobals
 blt:X.env.builtins=builtinsNs
 above:X.s₀.heap.objs.size<=X.env.locals
 inj:∀ x y c,X.env.cells.lookup x=some c->X.env.cells.lookup y=some c->x=y
 has:∀ x,(X.env.kindOf x=some .cell\/X.env.kindOf x=some .free)->∃ c,X.env.cells.lookup x=some c
 cab:∀ x c,X.fn x=true->X.env.cells.lookup x=some c->X.s₀.heap.objs.size<=c
 hd:X.calm=true->X.A.handled=none
 frames:X.A.frames=some X.stack
 stk:X.stack=X.outer\/(X.stack=X.env::X.outer/\X.env.frame=some X.env.locals)
 exf:∀ b∈X.ex,b≠X.env.locals/\∀ x c,X.env.cells.lookup x=some c->c≠b
 bs:∀ b o,X.base.get? b=some o->X.s₀.heap.get? b=some o/\X.H₀ b=none
 bsz:X.base.objs.size<=X.s₀.heap.objs.size
 noex:∀ b o,X.base.get? b=some o->b ∉ X.ex
 exfs:∀ b∈X.ex,b ∉ X.fs
 cR:X.s₀.heap.FunFrames X.base X.outer
 frf:∀ b∈X.fs,X.H₀ b=none
structure Inv (X:Cx) (pins:List (Addr × Obj)) (σ:List (Option V)) (H:Hp) (s:Shared):Prop where
 ok:X.Ok
 os:s.os=X.s₀.os
 bare:AllBare s.gens
 base:Un X.fs X.ex X.H₀ H X.s₀.heap s.heap
 loc:∃ m,s.heap.Ns X.env.locals m/\∀ (i:Nat) (x:Str) (v:V),X.N[i]?=some x->σ[i]?=some (some v)->Vis X.env.scope x->∃ u,RelV v u/\Look X.env s.heap m x u
 cell:∀ x c,X.env.cells.lookup x=some c->∃ v,s.heap.IsCell c v
 free:H X.env.locals=none
 freeC:∀ x c,X.env.cells.lookup x=some c->H c=none
 pin:∀ p∈X.pn++pins,s.heap.get? p.1=some p.2/\H p.1=none/\p.1≠X.env.locals/\p.1 ∉ X.fs/\∀ v,p.2.data≠.cell v
 hok:HOk X.prog X.w H s.heap
 len:σ.length=X.N.length
section
variable {X:Cx} {pins:List (Addr × Obj)} {σ:List (Option V)} {H H':Hp} {s:Shared} {h':Heap}
theorem Cx.Ok.Dk (ok:X.Ok) {b:Addr} {o:Obj} (e:X.base.get? b=some o):b ∉ X.fs:=fun hb=>by
 have:=(ok.cR.mem hb).1
 rw [e] at this; cases this
theorem Inv.bs (I:Inv X pins σ H s):∀ b o,X.base.get? b=some o->s.heap.get? b=some o/\H b=none:=fun b o e =>
 ⟨I.base.keep b o (I.ok.bs b o e).1 (I.ok.bs b o e).2 (I.ok.Dk e) (I.ok.noex b o e),I.base.free b o (I.ok.bs b o e).1 (I.ok.bs b o e).2 (I.ok.noex b o e)⟩
theorem Inv.bk (I:Inv X pins σ H s):∀ b o,X.base.get? b=some o->s.heap.get? b=some o:=fun b o e=>(I.bs b o e).1
theorem Inv.mod (I:Inv X pins σ H s):Mod X.K X.mg X.base:=I.ok.mod
theorem Inv.kIn (I:Inv X pins σ H s):X.K.In s.heap:=I.ok.mod.kin.keeps I.bk
theorem Inv.lt (I:Inv X pins σ H s):X.env.locals < s.heap.objs.size:=let ⟨_,hn,_⟩:=I.loc; hn.lt
theorem Inv.sz (I:Inv X pins σ H s):X.s₀.heap.objs.size<=s.heap.objs.size:=Nat.le_trans I.ok.above (Nat.le_of_lt I.lt)
theorem Inv.DC (I:Inv X pins σ H s) {a:Addr} (h:s.heap.objs.size<=a):a ∉ X.fs:=fun hb=>by
 obtain ⟨_,o,ho,_⟩:=I.ok.cR.mem hb
 exact absurd (Nat.lt_of_lt_of_le (Heap.lt_size ho) (Nat.le_trans I.sz h)) (Nat.lt_irrefl _)
theorem Inv.cne (I:Inv X pins σ H s):∀ x c,X.env.cells.lookup x=some c->c≠X.env.locals:=fun x c e z=>by
 obtain ⟨v,o,ho,hd⟩:=I.cell x c e
 obtain ⟨m,⟨o',es,ep,ho',hd',_⟩,_⟩:=I.loc
 rw [z,ho'] at ho; cases ho; rw [hd'] at hd; cases hd
theorem Inv.cR (I:Inv X pins σ H s):s.heap.FunFrames X.base X.outer:=by
 have all:∀ (l:List Env),(∀ b∈frs l,b∈X.fs)->X.s₀.heap.FunFrames X.base l->s.heap.FunFrames X.base l:=by
  intro l
  induction l with
  | nil=>intro _ _; trivial
  | cons env r ih =>
   intro hs hl
   obtain ⟨hk,⟨L,o,hf,hn,ho,hd⟩,hr⟩:=hl
   have hL:L∈X.fs:=hs L (by unfold frs; rw [List.filterMap_cons,hf]; exact List.mem_cons_self)
   obtain ⟨sl,e⟩:=I.base.slot L o ho (I.ok.frf L hL) hL fun z=>I.ok.exfs L z hL
   exact ⟨hk,⟨L,_,hf,hn,e,hd⟩,ih (fun b hb=>hs b (by unfold frs; rw [List.filterMap_cons,hf]; exact List.mem_cons_of_mem _ hb)) hr⟩
 exact all X.outer (fun _ hb=>hb) I.ok.cR
theorem Inv.stack (I:Inv X pins σ H s):s.heap.FunFrames X.base X.stack:=by
 rcases I.ok.stk with e|⟨e,hf⟩
 ·rw [e]; exact I.cR
 ·rw [e]
  obtain ⟨m,hn,_⟩:=I.loc
  refine .cons (by rw [I.ok.kind]; decide) hf hn ?_ I.cR
  exact Heap.get?_none_of_le (Nat.le_trans I.ok.bsz I.ok.above)
theorem Inv.lO (I:Inv X pins σ H s):∀ b∈frs X.stack,b∈X.env.locals::X.fs:=fun b hb=>by
 rcases I.ok.stk with e|⟨e,hf⟩
 ·rw [e] at hb; exact List.mem_cons_of_mem _ hb
 ·rw [e] at hb
  unfold frs at hb
  rw [List.filterMap_cons,hf] at hb
  exact hb
theorem Inv.k6 (I:Inv X pins σ H s):∀ b∈frs X.stack,H b=none:=fun b hb=>by
 rcases List.mem_cons.mp (I.lO b hb) with e|hb
 ·rw [e]; exact I.free
 ·obtain ⟨_,o,ho,_⟩:=I.ok.cR.mem hb
  exact I.base.free b o ho (I.ok.frf b hb) fun z=>I.ok.exfs b z hb
theorem Inv.step {g':Array GenState} {t':Nat} {d':Drawn} {ch:List Addr} (I:Inv X pins σ H s)
  (hch:∀ b∈ch,(b∈X.ex\/X.s₀.heap.objs.size<=b)/\b≠X.env.locals/\(∀ x c,X.env.cells.lookup x=some c->c≠b)/\∀ p∈X.pn++pins,p.1≠b)
  (keep:∀ b o,b≠X.env.locals->b ∉ X.fs->b ∉ ch->s.heap.get? b=some o->H b=none->h'.get? b=some o)
  (slot:∀ b o,b≠X.env.locals->b∈X.fs->b ∉ ch->s.heap.get? b=some o->H b=none->∃ sl,h'.get? b=some { o with slots:=sl }) (free:∀ b o,b ∉ ch->s.heap.get? b=some o->H b=none->H' b=none)
  (there:∀ b o,b ∉ ch->s.heap.get? b=some o->∃ o',h'.get? b=some o')
  (tups:∀ b xs,H b=some (.tup xs)->H' b=some (.tup xs)) (frzs:∀ b o u,H b=some (.frz o u)->H' b=some (.frz o u)) (tbls:∀ b ps,H b=some (.tbl ps)->∃ more,H' b=some (.tbl (ps++more)))
  (ns:∀ m,s.heap.Ns X.env.locals m->h'.Ns X.env.locals m) (hok:HOk X.prog X.w H' h') (hg:AllBare g') :
  Inv X pins σ H' { s with heap:=h',gens:=g',drawn:=d',toks:=t' }:=by
 have neL:∀ b o,X.s₀.heap.get? b=some o->b≠X.env.locals:=fun b o e=>Nat.ne_of_lt (Nat.lt_of_lt_of_le (Heap.lt_size e) I.ok.above)
 have neC:∀ b o,X.s₀.heap.get? b=some o->b ∉ X.ex->b ∉ ch:=fun b o e hx hb=>by
  rcases (hch b hb).1 with z|z
  ·exact hx z
  ·exact absurd (Nat.lt_of_lt_of_le (Heap.lt_size e) z) (Nat.lt_irrefl _)
 have cellK:∀ x c,X.env.cells.lookup x=some c->∀ v,s.heap.IsCell c v->h'.IsCell c v:=fun x c e v ⟨o,ho,hd⟩=>by
  have nch:c ∉ ch:=fun z=>(hch c z).2.2.1 x c e rfl
  by_cases hc:c∈X.fs
  ·obtain ⟨sl,q⟩:=slot c o (I.cne x c e) hc nch ho (I.freeC x c e)
   exact ⟨_,q,hd⟩
  ·exact ⟨o,keep c o (I.cne x c e) hc nch ho (I.freeC x c e),hd⟩
 refine ⟨I.ok,I.os,hg,⟨fun b o e n hb hx=>?_,fun b o e n hb hx=>?_,fun b o e n hx=>?_,fun b o e hx=>?_,fun b xs e=>tups b xs (I.base.tups b xs e),fun b o xs e=>frzs b o xs (I.base.frzs b o xs e),fun b ps e=>?_⟩,?_,fun x c e=>?_,?_,fun x c e=>?_,fun p hp=>?_,hok,I.len⟩
 ·exact keep b o (neL b o e) hb (neC b o e hx) (I.base.keep b o e n hb hx) (I.base.free b o e n hx)
 ·obtain ⟨sl,e1⟩:=I.base.slot b o e n hb hx
  obtain ⟨sl',e2⟩:=slot b _ (neL b o e) hb (neC b o e hx) e1 (I.base.free b o e n hx)
  exact ⟨sl',e2⟩
 ·obtain ⟨o',e1⟩:=I.base.there b o e hx
  exact free b o' (neC b o e hx) e1 (I.base.free b o e n hx)
 ·obtain ⟨o',e1⟩:=I.base.there b o e hx
  exact there b o' (neC b o e hx) e1
 ·obtain ⟨m1,e1⟩:=I.base.tbls b ps e
  obtain ⟨m2,e2⟩:=tbls b _ e1
  exact ⟨m1++m2,by rw [e2,Array.append_assoc]⟩
 ·obtain ⟨m,hn,hl⟩:=I.loc
  refine ⟨m,ns m hn,fun i x v e1 e2 e3=>?_⟩
  obtain ⟨u,r,l⟩:=hl i x v e1 e2 e3
  refine ⟨u,r,?_⟩
  rcases l with l|⟨k,c,e,z⟩
  ·exact .inl l
  ·exact .inr ⟨k,c,e,cellK x c e _ z⟩
 ·obtain ⟨v,z⟩:=I.cell x c e
  exact ⟨v,cellK x c e v z⟩
 ·obtain ⟨m,⟨o,_,_,ho,_⟩,_⟩:=I.loc
  exact free _ o (fun z=>(hch _ z).2.1 rfl) ho I.free
 ·obtain ⟨v,o,ho,hd⟩:=I.cell x c e
  exact free c o (fun z=>(hch c z).2.2.1 x c e rfl) ho (I.freeC x c e)
 ·obtain ⟨e,n,ne,nf,d⟩:=I.pin p hp
  have nch:p.1 ∉ ch:=fun z=>(hch p.1 z).2.2.2 p hp rfl
  exact ⟨keep p.1 p.2 ne nf nch e n,free p.1 p.2 nch e n,ne,nf,d⟩
theorem Inv.un {t':Nat} (I:Inv X pins σ H s) (u:Un X.fs [] H H' s.heap h') (hok:HOk X.prog X.w H' h'):Inv X pins σ H' { s with heap:=h',toks:=t' }:=by
 obtain ⟨m,⟨o,es,ep,ho,r⟩,_⟩:=id I.loc
 obtain ⟨sl,hL⟩:=u.any ho I.free (by simp)
 exact I.step (g':=s.gens) (d':=s.drawn) (ch:=[]) (fun _ z=>nomatch z) (fun b o _ hb _ e n=>u.keep b o e n hb (by simp)) (fun b o _ hb _ e n=>u.slot b o e n hb (by simp)) (fun b o _ e n=>u.free b o e n (by simp)) (fun b o _ e=>u.there b o e (by simp)) u.tups u.frzs u.tbls (fun m' hm=>by
  obtain ⟨o',es',ep',ho',r'⟩:=hm
  rw [ho] at ho'; cases ho'
  exact ⟨_,es',ep',hL,r'⟩) hok I.bare
theorem Inv.call {g':Array GenState} {t':Nat} {d':Drawn} {ch:List Addr} (I:Inv X pins σ H s) (u:Un (frs X.stack) ch H H' s.heap h') (hok:HOk X.prog X.w H' h') (hg:AllBare g')
  (hch:∀ b∈ch,(b∈X.ex\/X.s₀.heap.objs.size<=b)/\b≠X.env.locals/\(∀ x c,X.env.cells.lookup x=some c->c≠b)/\∀ p∈X.pn++pins,p.1≠b) :
  Inv X pins σ H' { s with heap:=h',gens:=g',drawn:=d',toks:=t' }:=by
 obtain ⟨m,⟨o,es,ep,ho,r⟩,_⟩:=id I.loc
 obtain ⟨sl,hL⟩:=u.any ho I.free fun z=>(hch _ z).2.1 rfl
 exact I.step (ch:=ch) hch (fun b o hL hb hc e n=>u.keep b o e n (fun z=>(List.mem_cons.mp (I.lO b z)).elim hL hb) hc) (fun b o _ _ hc e n=>u.any e n hc) (fun b o hc e n=>u.free b o e n hc) (fun b o hc e=>u.there b o e hc) u.tups u.frzs u.tbls (fun m' hm=>by
  obtain ⟨o',es',ep',ho',r'⟩:=hm
  rw [ho] at ho'; cases ho'
  exact ⟨_,es',ep',hL,r'⟩) hok hg
theorem Inv.turned {t':Nat} {it:Addr} (I:Inv X pins σ H s) (k:∀ b o,b≠it->s.heap.get? b=some o->h'.get? b=some o) (hn:H it=none) (hL:it≠X.env.locals)
  (h1:it∈X.ex\/X.s₀.heap.objs.size<=it) (h2:∀ x c,X.env.cells.lookup x=some c->c≠it) (h3:∀ p∈X.pn++pins,p.1≠it):Inv X pins σ H { s with heap:=h',toks:=t' }:=by
 have nit:∀ b u,H b=some u->b≠it:=fun b u e z=>by rw [z,hn] at e; cases e
 refine I.step (g':=s.gens) (d':=s.drawn) (ch:=[it]) (fun b hb=>?_) (fun b o _ _ hc e _=>k b o (fun z=>hc (by simp [z])) e) (fun b o _ _ hc e _=>⟨o.slots,k b o (fun z=>hc (by simp [z])) e⟩) (fun _ _ _ _ n=>n)
  (fun b o hc e=>⟨o,k b o (fun z=>hc (by simp [z])) e⟩) (fun _ _ e=>e) (fun _ _ _ e=>e) (fun b ps e=>⟨#[],by rw [e]; simp⟩) (fun m hm=>?_) (fun b u e=>?_) I.bare
 ·have e:b=it:=by simpa using hb
  subst e
  exact ⟨h1,hL,h2,h3⟩
 ·obtain ⟨o,es,ep,ho,r⟩:=hm
  exact ⟨o,es,ep,k _ o (Ne.symm hL) ho,r⟩
 ·refine (I.hok b u e).stay (fun c v hc q=>k c v ?_ q) (fun _ q=>q) fun _ _ q=>q
  rcases hc with z|z
  ·rw [z]; exact nit b u e
  ·exact nit c _ z
theorem Inv.tok (I:Inv X pins σ H s) (t:Nat):Inv X pins σ H { s with toks:=t }:=I.un (h':=s.heap) (t':=t) Un.refl I.hok
theorem Inv.kept {t':Nat} (I:Inv X pins σ H s) (k:∀ b u,s.heap.get? b=some u->h'.get? b=some u):Inv X pins σ H { s with heap:=h',toks:=t' }:=I.un (Un.kept k) (I.hok.kept k)
theorem Inv.laid {a:Addr} {o:HO} {t':Nat} (I:Inv X pins σ H s) (k:∀ b u,s.heap.get? b=some u->h'.get? b=some u) (hp:s.heap.objs.size<=a) (new:bR X.prog X.w (upd H a o) h' a o) :
  Inv X pins σ (upd H a o) { s with heap:=h',toks:=t' }:=I.un (Un.laid k hp (I.hok.fresh hp)) (I.hok.laid k hp new)
theorem Inv.write {x e:Addr} {o:HO} {t':Nat} (I:Inv X pins σ H s) (mu:Mut (H x)) (he:e=x\/H e=some (.own x)) (k:∀ b u,b≠e->s.heap.get? b=some u->h'.get? b=some u) (heo:∃ u,h'.get? e=some u)
  (new:bR X.prog X.w (upd H x o) h' x o):Inv X pins σ (upd H x o) { s with heap:=h',toks:=t' }:=I.un (Un.write mu he k heo) (I.hok.write mu he k heo new)
theorem Inv.weak {σ':List (Option V)} (I:Inv X pins σ H s) (hl:σ'.length=σ.length) (w:∀ (i:Nat) v,σ'[i]?=some (some v)->σ[i]?=some (some v)):Inv X pins σ' H s :=
 ⟨I.ok,I.os,I.bare,I.base,let ⟨m,hn,hl'⟩:=I.loc; ⟨m,hn,fun i x v e1 e2 e3=>hl' i x v e1 (w i v e2) e3⟩,I.cell,I.free,I.freeC,I.pin,I.hok,hl.trans I.len⟩
theorem Inv.sW {pins':List (Addr × Obj)} (I:Inv X pins σ H s) (h:∀ p∈pins',s.heap.get? p.1=some p.2/\H p.1=none/\p.1≠X.env.locals/\p.1 ∉ X.fs/\∀ v,p.2.data≠.cell v):Inv X pins' σ H s :=
 ⟨I.ok,I.os,I.bare,I.base,I.loc,I.cell,I.free,I.freeC,fun p hp=>(List.mem_append.mp hp).elim (fun z=>I.pin p (List.mem_append_left _ z)) (h p),I.hok,I.len⟩
theorem kD {N:List Str} (hN:N.Nodup) {i j:Nat} {x:Str} (a:N[i]?=some x) (b:N[j]?=some x):i=j:=by
 obtain ⟨h1,e1⟩:=List.getElem?_eq_some_iff.mp a
 obtain ⟨h2,e2⟩:=List.getElem?_eq_some_iff.mp b
 exact (List.getElem_inj hN).mp (e1.trans e2.symm)
theorem kJ {M:Model} {A:Around} {E:Value->Shared->Prop} {i:Nat} {x:Str} {v:V} {u:Value} {Q:Unit->Shared->Prop} (I:Inv X pins σ H s) (hN:X.N.Nodup) (hi:X.N[i]?=some x) (hx:Loc X.env.scope x) (r:RelV v u)
  (h:∀ s',Inv X pins (σ.set i (some v)) H s'->(∃ a,Heap.SameBut a s.heap s'.heap/\(a=X.env.locals\/X.env.cells.lookup x=some a))->Q () s') (hf:X.fn x=true\/X.env.scope.names.lookup x=some .local:=by first|exact .inl rfl|exact .inr rfl|assumption):wpAny M A (storeName X.env x u) Q E s:=by
 obtain ⟨m,hn,hl⟩:=id I.loc
 have hcls:(X.env.scope.kind==.class||(X.env.scope.kind==.module&&X.env.locals != X.env.globals))=false:=by rw [I.ok.kind]; rfl
 have hiσ:i < σ.length:=by rw [I.len]; exact (List.getElem?_eq_some_iff.mp hi).1
 have cne:=I.cne
 have tracked:∀ {a:Addr} {h':Heap},(∃ o,s.heap.get? a=some o/\H a=none)->Heap.SameBut a s.heap h'->HOk X.prog X.w H h':=fun {a h'} ha hs b ob e=>by
  obtain ⟨_,_,hfree⟩:=ha
  refine (I.hok b ob e).stay (fun c w' hc q=>(hs.2 c ?_).trans q) (fun _ q=>q) fun _ _ q=>q
  rintro rfl
  rcases hc with rfl|hc
  ·rw [hfree] at e; cases e
  ·rw [hfree] at hc; cases hc
 rcases hx with hk|hk
 ·refine wpAny_storeName_local hk hn (fun h' hn' hs=>?_) hcls
  obtain ⟨oL,_,_,hoL,_⟩:=id hn
  refine h _ ⟨I.ok,I.os,I.bare,⟨fun b o e n hb hx=>?_,fun b o e n hb hx=>?_,I.base.free,fun b o e hx=>?_,I.base.tups,I.base.frzs,I.base.tbls⟩,⟨_,hn',fun j y v' e1 e2 e3=>?_⟩,fun y c e=>?_,I.free,I.freeC,fun p hp=>?_,tracked ⟨oL,hoL,I.free⟩ hs,by simpa using I.len⟩ ⟨_,hs,.inl rfl⟩
  ·exact (hs.2 b (Nat.ne_of_lt (Nat.lt_of_lt_of_le (Heap.lt_size e) I.ok.above))).trans (I.base.keep b o e n hb hx)
  ·obtain ⟨sl,e1⟩:=I.base.slot b o e n hb hx
   exact ⟨sl,(hs.2 b (Nat.ne_of_lt (Nat.lt_of_lt_of_le (Heap.lt_size e) I.ok.above))).trans e1⟩
  ·obtain ⟨o',e1⟩:=I.base.there b o e hx
   exact ⟨o',(hs.2 b (Nat.ne_of_lt (Nat.lt_of_lt_of_le (Heap.lt_size e) I.ok.above))).trans e1⟩
  ·by_cases hj:j=i
   ·subst hj
    rw [hi] at e1; cases e1
    rw [List.getElem?_set_self hiσ] at e2
    cases e2
    exact ⟨u,r,.inl ⟨hk,by simp⟩⟩
   ·rw [List.getElem?_set_ne (Ne.symm hj)] at e2
    obtain ⟨u',r',q⟩:=hl j y v' e1 e2 e3
    refine ⟨u',r',?_⟩
    rcases q with ⟨k,e⟩|⟨k,c,e,z⟩
    ·refine .inl ⟨k,?_⟩
     have:y≠x:=fun e=>hj (kD hN e1 (e ▸ hi))
     simp [this,e]
    ·exact .inr ⟨k,c,e,z.sameBut hs (cne y c e)⟩
  ·obtain ⟨w',z⟩:=I.cell y c e
   exact ⟨w',z.sameBut hs (cne y c e)⟩
  ·obtain ⟨e,n,ne,nf,d⟩:=I.pin p hp
   exact ⟨(hs.2 p.1 ne).trans e,n,ne,nf,d⟩
 ·have hfn:X.fn x=true:=by
   rcases hf with z|z
   ·exact z
   ·rw [z] at hk; cases hk
  obtain ⟨c,hc⟩:=I.ok.has x (.inl hk)
  obtain ⟨w',z⟩:=I.cell x c hc
  refine wpAny_storeName_cell I.ok.kind hk hc z (fun h' hc' hs=>?_)
  obtain ⟨oc,hoc,hocd⟩:=id z
  refine h { s with heap:=h' } ⟨I.ok,I.os,I.bare,⟨fun b o e n hb hx=>?_,fun b o e n hb hx=>?_,I.base.free,fun b o e hx=>?_,I.base.tups,I.base.frzs,I.base.tbls⟩,⟨m,hn.sameBut hs (Ne.symm (cne x c hc)),fun j y v' e1 e2 e3=>?_⟩,fun y c' e=>?_,I.free,I.freeC,fun p hp=>?_,tracked ⟨oc,hoc,I.freeC x c hc⟩ hs,by simpa using I.len⟩ ⟨c,hs,.inr hc⟩
  ·exact (hs.2 b (Nat.ne_of_lt (Nat.lt_of_lt_of_le (Heap.lt_size e) (I.ok.cab x c hfn hc)))).trans (I.base.keep b o e n hb hx)
  ·obtain ⟨sl,e1⟩:=I.base.slot b o e n hb hx
   exact ⟨sl,(hs.2 b (Nat.ne_of_lt (Nat.lt_of_lt_of_le (Heap.lt_size e) (I.ok.cab x c hfn hc)))).trans e1⟩
  ·obtain ⟨o',e1⟩:=I.base.there b o e hx
   exact ⟨o',(hs.2 b (Nat.ne_of_lt (Nat.lt_of_lt_of_le (Heap.lt_size e) (I.ok.cab x c hfn hc)))).trans e1⟩
  ·by_cases hj:j=i
   ·subst hj
    rw [hi] at e1; cases e1
    rw [List.getElem?_set_self hiσ] at e2
    cases e2
    exact ⟨u,r,.inr ⟨.inl hk,c,hc,hc'⟩⟩
   ·rw [List.getElem?_set_ne (Ne.symm hj)] at e2
    obtain ⟨u',r',q⟩:=hl j y v' e1 e2 e3
    refine ⟨u',r',?_⟩
    rcases q with q|⟨k,c',e,z'⟩
    ·exact .inl q
    ·refine .inr ⟨k,c',e,z'.sameBut hs ?_⟩
     rintro rfl
     exact hj (kD hN e1 (I.ok.inj _ _ _ e hc ▸ hi))
  ·by_cases hcc:c'=c
   ·subst hcc; exact ⟨_,hc'⟩
   ·obtain ⟨w2,z2⟩:=I.cell y c' e
    exact ⟨w2,z2.sameBut hs hcc⟩
  ·obtain ⟨e,n,ne,nf,d⟩:=I.pin p hp
   refine ⟨(hs.2 p.1 ?_).trans e,n,ne,nf,d⟩
   intro q
   rw [q,hoc] at e
   have q':oc=p.2:=Option.some.inj e
   exact d w' (by rw [<- q']; exact hocd)
theorem EI {M:Model} {A:Around} {E:Value->Shared->Prop} {i:Nat} {x:Str} {v:V} {u:Value} {Q:Unit->Shared->Prop} (I:Inv X pins σ H s) (hN:X.N.Nodup) (hi:X.N[i]?=some x) (hx:Loc X.env.scope x) (r:RelV v u)
  (h:∀ s',Inv X pins (σ.set i (some v)) H s'->Q () s') (hf:X.fn x=true\/X.env.scope.names.lookup x=some .local:=by first|exact .inl rfl|exact .inr rfl|assumption):wpAny M A (storeName X.env x u) Q E s :=
 kJ I hN hi hx r (fun s' I' _=>h s' I') hf
theorem Inv.mK {s':Shared} {ch:List Addr} (I:Inv X pins σ H s) (ho:s'.os=s.os) (u:Un (frs X.stack) ch H H' s.heap s'.heap) (hok:HOk X.prog X.w H' s'.heap) (hg:AllBare s'.gens)
  (hch:∀ b∈ch,(b∈X.ex\/X.s₀.heap.objs.size<=b)/\b≠X.env.locals/\(∀ x c,X.env.cells.lookup x=some c->c≠b)/\∀ p∈X.pn++pins,p.1≠b):Inv X pins σ H' s':=by
 obtain ⟨h',g',d',t',o'⟩:=s'
 have e:o'=s.os:=ho
 subst e
 exact I.call (g':=g') (t':=t') (d':=d') u hok hg hch
end
abbrev XK:=Value->Option Addr->Hp->Prop
abbrev St:=List (Option V)
abbrev VK:=V->Hp->Prop
abbrev TE:=St->Hp->VK->Prop
abbrev TT:=St->Hp->(Bool->Hp->Prop)->Prop
abbrev TA:=St->Hp->(List V->Hp->Prop)->Prop
structure Ends where
 nx:St->Hp->Prop
 rt:VK
 bk:St->Hp->Prop:=fun _ _=>False
 ct:St->Hp->Prop:=fun _ _=>False
abbrev TS:=Ends->St->Hp->Prop
noncomputable def EP (X:Cx) (pins:List (Addr × Obj)) (σ:St) (Q:VK) (u:Value) (s':Shared):Prop:=∃ v H',Inv X pins σ H' s'/\RelV v u/\Q v H'
noncomputable def TP (X:Cx) (pins:List (Addr × Obj)) (σ:St) (Q:Bool->Hp->Prop) (b:Bool) (s':Shared):Prop:=∃ H',Inv X pins σ H' s'/\Q b H'
noncomputable def AP (X:Cx) (pins:List (Addr × Obj)) (σ:St) (Q:List V->Hp->Prop) (us:List Value) (s':Shared):Prop:=∃ vs H',Inv X pins σ H' s'/\Vals vs us/\Q vs H'
noncomputable def SP (X:Cx) (pins:List (Addr × Obj)) (D:Ends) (f:Flow) (s':Shared):Prop :=
 match f with
 | .next=>∃ σ' H',Inv X pins σ' H' s'/\D.nx σ' H'
 | .brk=>∃ σ' H',Inv X pins σ' H' s'/\D.bk σ' H'
 | .cont=>∃ σ' H',Inv X pins σ' H' s'/\D.ct σ' H'
 | .ret u=>∃ v σ' H',Inv X pins σ' H' s'/\RelV v u/\D.rt v H'
noncomputable def PE (X:Cx) (e:Expr) (t:TE):Prop :=
 ∀ (pins:List (Addr × Obj)) (s:Shared) (σ:St) (H:Hp) (Q:VK),Inv X pins σ H s->t σ H Q->wpAny (model X.prog X.w) X.A (eval e X.env) (EP X pins σ Q) X.xe s
noncomputable def PT (X:Cx) (e:Expr) (t:TT):Prop :=
 ∀ (pins:List (Addr × Obj)) (s:Shared) (σ:St) (H:Hp) (Q:Bool->Hp->Prop),Inv X pins σ H s->t σ H Q->wpAny (model X.prog X.w) X.A (isTrue e X.env (eval e X.env)) (TP X pins σ Q) X.xe s
noncomputable def PW (X:Cx) (e:Expr) (t:TT):Prop :=
 ∀ (whole:Sem Value) (pins:List (Addr × Obj)) (s:Shared) (σ:St) (H:Hp) (Q:Bool->Hp->Prop),Inv X pins σ H s->t σ H Q->wpAny (model X.prog X.w) X.A (isTrue e X.env whole) (TP X pins σ Q) X.xe s
theorem PW.pt {X:Cx} {e:Expr} {t:TT} (h:PW X e t):PT X e t:=h _
noncomputable def PA (X:Cx) (es:List Expr) (t:TA):Prop :=
 ∀ (pos:Pos) (pins:List (Addr × Obj)) (s:Shared) (σ:St) (H:Hp) (Q:List V->Hp->Prop),Inv X pins σ H s->t σ H Q->wpAny (model X.prog X.w) X.A (spliced (backTo pos (starEach es X.env))) (AP X pins σ Q) X.xe s
noncomputable def PS (X:Cx) (st:Stmt) (t:TS):Prop :=
 ∀ (pins:List (Addr × Obj)) (s:Shared) (σ:St) (H:Hp) (D:Ends),Inv X pins σ H s->t D σ H->wpAny (model X.prog X.w) X.A (exec st X.env) (SP X pins D) X.xe s
noncomputable def PSs (X:Cx) (st:List Stmt) (t:TS):Prop :=
 ∀ (pins:List (Addr × Obj)) (s:Shared) (σ:St) (H:Hp) (D:Ends),Inv X pins σ H s->t D σ H->wpAny (model X.prog X.w) X.A (execs st X.env) (SP X pins D) X.xe s
theorem thn {α:Type} {t:Sem α} {Q Q':α->Shared->Prop} {M:Model} {A:Around} {E:Value->Shared->Prop} {s:Shared} (h:wpAny M A t Q E s) (hQ:∀ a s,Q a s->Q' a s):wpAny M A t Q' E s:=wpAny_mono h hQ fun _ _ x=>x
end L2
namespace L2
open PySem PySem.Spec PyProof.Rows
section
variable {X:Cx}
noncomputable def yy (i:Nat):TE:=fun σ H Q=>∃ v,σ[i]?=some (some v)/\Q v H
noncomputable def tC (v:V):TE:=fun _ H Q=>Q v H
theorem Ey {i:Nat} {x:Str} {pos:Pos} (hN:X.N[i]?=some x) (hv:Vis X.env.scope x) (hd:(x==("__debug__" : Str))=false:=by decide) (hcd:(x==("__classdict__" : Str))=false:=by decide):PE X (.Name x pos) (yy i):=by
 intro pins s σ H Q I h
 obtain ⟨v,e,h⟩:=h
 obtain ⟨m,hn,hl⟩:=I.loc
 obtain ⟨u,r,l⟩:=hl i x v hN e hv
 have fin:EP X pins σ Q u s:=⟨v,H,I,r,h⟩
 rcases l with ⟨hk,hm⟩|⟨hk,c,hc,hcell⟩
 ·exact wpAny_Name (wpAny_loadName_local I.ok.kind hk hn hm fin) hd
 ·rcases hk with hk|hk
  ·exact wpAny_Name (wpAny_loadName_cell I.ok.kind hk hc hcell fin) hd
  ·exact wpAny_Name (wpAny_loadName_free I.ok.kind hk hc hcell fin hcd) hd
theorem tY {i j pos}:PE X (.Constant (.int i) j pos) (tC (.int i)):=fun _ _ _ H _ I h=>wpAny_Constant_int ⟨.int i,H,I.tok _,⟨_,rfl⟩,h⟩
theorem EJ {b j pos}:PE X (.Constant (.bool b) j pos) (tC (.bl b)):=fun _ _ _ H _ I h=>Constant_bool ⟨.bl b,H,I,rfl,h⟩
theorem Df {j pos}:PE X (.Constant .none j pos) (tC .non):=fun _ _ _ H _ I h=>Constant_none ⟨.non,H,I,rfl,h⟩
theorem n6 {x j pos}:PE X (.Constant (.str x) j pos) (tC (.str x)):=fun _ _ _ H _ I h=>Calls.Constant_str ⟨.str x,H,I.tok _,⟨_,rfl⟩,h⟩
noncomputable def Gl (X:Cx) (x:Str):Prop:=X.env.kindOf x=some .globalImplicit
theorem fG {E:Value->Shared->Prop} {pins:List (Addr × Obj)} {s:Shared} {σ:St} {H:Hp} {x:Str} {u:Value} {pos:Pos} {Q:Value->Shared->Prop} (I:Inv X pins σ H s) (hg:Gl X x) (hm:X.mg x=some u) (h:Q u s)
  (hd:(x==("__debug__" : Str))=false:=by decide):wpAny (model X.prog X.w) X.A (eval (.Name x pos) X.env) Q E s :=
 Calls.Name_function_global I.ok.kind hg (Calls.loadGlobal_global (by rw [I.ok.glob]; exact I.mod.glob.keeps I.bk) hm h) hd
theorem c5 {E:Value->Shared->Prop} {pins:List (Addr × Obj)} {s:Shared} {σ:St} {H:Hp} {x:Str} {u:Value} {pos:Pos} {Q:Value->Shared->Prop} (I:Inv X pins σ H s) (hg:Gl X x) (hm:X.mg x=none) (hv:bootBuiltins x=some u) (h:Q u s)
  (hn:x≠"__name__":=by decide) (hd:(x==("__debug__" : Str))=false:=by decide):wpAny (model X.prog X.w) X.A (eval (.Name x pos) X.env) Q E s:=by
 obtain ⟨mb,h1,h2⟩:=I.mod.blt
 exact Calls.Name_function_global I.ok.kind hg (Calls.loadGlobal_builtin (by rw [I.ok.glob]; exact I.mod.glob.keeps I.bk) hm (by rw [I.ok.blt]; exact h1.keeps I.bk) ((h2 x hn).trans hv) h) hd
theorem CD {x:Str} {v:V} {u:Value} {pos:Pos} (hg:Gl X x) (hm:X.mg x=some u) (r:RelV v u) (hd:(x==("__debug__" : Str))=false:=by decide):PE X (.Name x pos) (tC v) :=
 fun _ _ _ H _ I h=>fG I hg hm ⟨v,H,I,r,h⟩ hd
theorem uY {x:Str} {v:V} {u:Value} {pos:Pos} (hg:Gl X x) (hm:X.mg x=none) (hv:bootBuiltins x=some u) (r:RelV v u) (hn:x≠"__name__":=by decide) (hd:(x==("__debug__" : Str))=false:=by decide):PE X (.Name x pos) (tC v) :=
 fun _ _ _ H _ I h=>c5 I hg hm hv ⟨v,H,I,r,h⟩ hn hd
variable {a b:Expr} {ta tb:TE} {pos:Pos}
variable {tA tB':TT} {rest:List Expr}
noncomputable def Dh (t u:TT):TT:=fun σ H Q=>t σ H fun c H1=>if c=true then u σ H1 Q else Q false H1
noncomputable def tOr (t u:TT):TT:=fun σ H Q=>t σ H fun c H1=>if c=true then Q true H1 else u σ H1 Q
noncomputable def wH (t:TT):TT:=fun σ H Q=>t σ H fun c H1=>Q (!c) H1
theorem sG (ha:PT X a tA):PW X (.BoolOp .And [a] pos) tA:=by
 intro wh pins s σ H Q I h
 refine isTrue_and (thn (ha pins s σ H Q I h) fun c s1 e=>?_)
 cases c with
 | true=>exact isTrue_and_nil e
 | false=>exact e
theorem pI (ha:PT X a tA):PW X (.BoolOp .Or [a] pos) tA:=by
 intro wh pins s σ H Q I h
 refine isTrue_or (thn (ha pins s σ H Q I h) fun c s1 e=>?_)
 cases c with
 | false=>exact isTrue_or_nil e
 | true=>exact e
theorem wY (ha:PT X a tA) (hb:PW X (.BoolOp .And (b::rest) pos) tB'):PW X (.BoolOp .And (a::b::rest) pos) (Dh tA tB'):=by
 intro wh pins s σ H Q I h
 refine isTrue_and (thn (ha pins s σ H _ I h) fun c s1 ⟨H1,I1,q1⟩=>?_)
 cases c with
 | true=>exact hb wh pins s1 σ H1 Q I1 q1
 | false=>exact ⟨H1,I1,q1⟩
theorem uE (ha:PT X a tA) (hb:PW X (.BoolOp .Or (b::rest) pos) tB'):PW X (.BoolOp .Or (a::b::rest) pos) (tOr tA tB'):=by
 intro wh pins s σ H Q I h
 refine isTrue_or (thn (ha pins s σ H _ I h) fun c s1 ⟨H1,I1,q1⟩=>?_)
 cases c with
 | true=>exact ⟨H1,I1,q1⟩
 | false=>exact hb wh pins s1 σ H1 Q I1 q1
theorem zA (ha:PT X a tA):PT X (.UnaryOp .Not a pos) (wH tA):=by
 intro pins s σ H Q I h
 exact isTrue_not (ha pins s σ H (fun c H1=>Q (!c) H1) I h)
noncomputable def DQ (ta tb:TE):TE:=fun σ H Q=>ta σ H fun x H1=>∃ c,x=.bl c/\if c=true then tb σ H1 Q else Q (.bl false) H1
noncomputable def AD (ta tb:TE):TE:=fun σ H Q=>ta σ H fun x H1=>∃ c,x=.bl c/\if c=true then Q (.bl true) H1 else tb σ H1 Q
noncomputable def vP (ta:TE):TE:=fun σ H Q=>ta σ H fun x H1=>∃ c,x=.bl c/\Q (.bl (!c)) H1
theorem nK {op} {t:TE} (h:PE X a t):PE X (.BoolOp op [a] pos) t:=fun pins s σ H Q I hw=>BoolOp_one (h pins s σ H Q I hw)
theorem DA (ha:PE X a ta) (hb:PE X (.BoolOp .And (b::rest) pos) tb):PE X (.BoolOp .And (a::b::rest) pos) (DQ ta tb):=by
 intro pins s σ H Q I h
 refine BoolOp_and (thn (ha pins s σ H _ I h) fun v s1 ⟨x,H1,I1,r1,q1⟩=>?_)
 obtain ⟨c,rfl,q1⟩:=q1
 cases r1
 refine wpAny_truthy_bool ?_
 cases c with
 | true=>exact hb pins s1 σ H1 Q I1 q1
 | false=>exact ⟨.bl false,H1,I1,rfl,q1⟩
theorem uZ (ha:PE X a ta) (hb:PE X (.BoolOp .Or (b::rest) pos) tb):PE X (.BoolOp .Or (a::b::rest) pos) (AD ta tb):=by
 intro pins s σ H Q I h
 refine BoolOp_or (thn (ha pins s σ H _ I h) fun v s1 ⟨x,H1,I1,r1,q1⟩=>?_)
 obtain ⟨c,rfl,q1⟩:=q1
 cases r1
 refine wpAny_truthy_bool ?_
 cases c with
 | false=>exact hb pins s1 σ H1 Q I1 q1
 | true=>exact ⟨.bl true,H1,I1,rfl,q1⟩
theorem yi (ha:PE X a ta):PE X (.UnaryOp .Not a pos) (vP ta):=by
 intro pins s σ H Q I h
 refine UnaryOp_ (thn (ha pins s σ H _ I h) fun v s1 ⟨x,H1,I1,r1,q1⟩=>?_)
 obtain ⟨c,rfl,q1⟩:=q1
 cases r1
 exact not_of (wpAny_truthy_bool ⟨.bl (!c),H1,I1,rfl,q1⟩)
noncomputable def tIf (t:TT) (ta tb:TE):TE:=fun σ H Q=>t σ H fun c H1=>if c=true then ta σ H1 Q else tb σ H1 Q
theorem ue {c:Expr} (hc:PT X c tA) (ha:PE X a ta) (hb:PE X b tb):PE X (.IfExp c a b pos) (tIf tA ta tb):=by
 intro pins s σ H Q I h
 refine wpAny_IfExp (thn (hc pins s σ H _ I h) fun d s1 ⟨H1,I1,q1⟩=>?_)
 cases d with
 | true=>exact ha pins s1 σ H1 Q I1 q1
 | false=>exact hb pins s1 σ H1 Q I1 q1
end
end L2
namespace L2
open PySem PySem.Spec PyProof.Rows
noncomputable def SqL (K:PySem.W.Frag) (H:Hp) (a:Addr) (xs:List V):Prop :=
 Rd H a (.lst xs) \/
  ∃ (o:Obj) (its:Array Value) (n:Nat),K.lookup a=some o/\o.cls=.type "list"/\o.dict=none/\o.data=.seq its n/\its.size<=sizeLine/\Vals xs its.toList
noncomputable def SqT (K:PySem.W.Frag) (H:Hp) (a:Addr) (xs:List V):Prop :=
 Rd H a (.tup xs) \/
  ∃ (o:Obj) (its:Array Value) (n:Nat),K.lookup a=some o/\o.cls=.type "tuple"/\o.data=.seq its n/\its.size<=sizeLine/\Vals xs its.toList
noncomputable def wX:Value->Option V
 | .none=>some .non
 | .bool b=>some (.bl b)
 | .int i _=>some (.int i)
 | .str x _=>some (.str x)
 | .bytes b _=>some (.byt b)
 | .float b _=>some (.flt b)
 | .ref a=>some (.ref a)
 | .type n=>some (.ty n)
 | _=>none
theorem RelV.abs {x:V} {u:Value} (r:RelV x u):wX u=some x:=by
 cases x with
 | non=>cases r; rfl
 | bl _=>cases r; rfl
 | int _=>obtain ⟨t,rfl⟩:=r; rfl
 | str _=>obtain ⟨t,rfl⟩:=r; rfl
 | byt _=>obtain ⟨t,rfl⟩:=r; rfl
 | flt _=>obtain ⟨t,rfl⟩:=r; rfl
 | ref _=>cases r; rfl
 | ty _=>cases r; rfl
theorem RelV.inj {x y:V} {u:Value} (r:RelV x u) (q:RelV y u):x=y:=Option.some.inj (r.abs.symm.trans q.abs)
theorem Vals.inj:∀ {xs ys:List V} {us:List Value},Vals xs us->Vals ys us->xs=ys
 | _,_,_,.nil,.nil=>rfl
 | _,_,_,.cons r t,.cons r' t'=>by rw [r.inj r',Vals.inj t t']
section
variable {X:Cx} {pins:List (Addr × Obj)} {σ:St} {H:Hp} {s:Shared} {a:Addr} {xs ys:List V}
theorem SqL.of {K:PySem.W.Frag} (h:H a=some (.lst xs)):SqL K H a xs:=.inl (.inl h)
theorem SqT.of {K:PySem.W.Frag} (h:H a=some (.tup xs)):SqT K H a xs:=.inl (.inl h)
theorem Inv.list (I:Inv X pins σ H s) (h:SqL X.K H a xs):∃ its:List Value,Vals xs its/\PlainL s.heap a its.toArray/\xs.length<=sizeLine:=by
 rcases h with h|⟨o,its,n,hk,hc,hd,hs,hz,r⟩
 ·obtain ⟨z,its,n,r,e⟩:=h.ok I.hok
  exact ⟨its,r,⟨_,n,e,rfl,rfl,rfl⟩,z⟩
 ·refine ⟨its.toList,r,⟨o,n,I.kIn a o hk,hc,hd,by simpa using hs⟩,?_⟩
  have e:=r.length
  simp only [Array.length_toList] at e
  omega
theorem Inv.tuple (I:Inv X pins σ H s) (h:SqT X.K H a xs):∃ its:List Value,Vals xs its/\IsTup s.heap a its.toArray/\xs.length<=sizeLine:=by
 rcases h with h|⟨o,its,n,hk,hc,hs,hz,r⟩
 ·obtain ⟨z,its,r,p⟩:=h.ok I.hok
  exact ⟨its,r,p,z⟩
 ·refine ⟨its.toList,r,⟨o,I.kIn a o hk,hc,n,by simpa using hs⟩,?_⟩
  have e:=r.length
  simp only [Array.length_toList] at e
  omega
theorem Inv.jf (I:Inv X pins σ H s) (h:SqL X.K H a xs) (h':SqL X.K H a ys):xs=ys:=by
 obtain ⟨its,r,⟨o,n,e,_,_,d⟩,_⟩:=I.list h
 obtain ⟨its',r',⟨o',n',e',_,_,d'⟩,_⟩:=I.list h'
 rw [e] at e'; cases e'
 rw [d] at d'
 injection d' with d1 _
 have:its=its':=by simpa using congrArg Array.toList d1
 subst this
 exact r.inj r'
theorem Inv.iR (I:Inv X pins σ H s) (h:SqT X.K H a xs) (h':SqT X.K H a ys):xs=ys:=by
 obtain ⟨its,r,⟨o,e,_,n,d⟩,_⟩:=I.tuple h
 obtain ⟨its',r',⟨o',e',_,n',d'⟩,_⟩:=I.tuple h'
 rw [e] at e'; cases e'
 rw [d] at d'
 injection d' with d1 _
 have:its=its':=by simpa using congrArg Array.toList d1
 subst this
 exact r.inj r'
end
abbrev Cx.cF (X:Cx) (E:Value->Shared->Prop):Cx:={ X with xe:=E }
abbrev Cx.nox (X:Cx):Cx:=X.cF fun _ _=>False
theorem Cx.Ok.cF {X:Cx} (ok:X.Ok) (E:Value->Shared->Prop):(X.cF E).Ok :=
 ⟨ok.mod,ok.kind,ok.glob,ok.blt,ok.above,ok.inj,ok.has,ok.cab,ok.hd,ok.frames,ok.stk,ok.exf,ok.bs,ok.bsz,ok.noex,ok.exfs,ok.cR,ok.frf⟩
theorem Cx.Ok.b9 {X:Cx} {E:Value->Shared->Prop} (ok:(X.cF E).Ok):X.Ok :=
 ⟨ok.mod,ok.kind,ok.glob,ok.blt,ok.above,ok.inj,ok.has,ok.cab,ok.hd,ok.frames,ok.stk,ok.exf,ok.bs,ok.bsz,ok.noex,ok.exfs,ok.cR,ok.frf⟩
section
variable {X:Cx} {pins:List (Addr × Obj)} {σ:St} {H:Hp} {s:Shared} {E:Value->Shared->Prop}
theorem Inv.cF (I:Inv X pins σ H s) (E:Value->Shared->Prop):Inv (X.cF E) pins σ H s:=⟨I.ok.cF E,I.os,I.bare,I.base,I.loc,I.cell,I.free,I.freeC,I.pin,I.hok,I.len⟩
theorem Inv.b9 (I:Inv (X.cF E) pins σ H s):Inv X pins σ H s:=⟨I.ok.b9,I.os,I.bare,I.base,I.loc,I.cell,I.free,I.freeC,I.pin,I.hok,I.len⟩
theorem SP.b9 {D:Ends} {f:Flow} {s':Shared} (h:SP (X.cF E) pins D f s'):SP X pins D f s':=by
 cases f with
 | next=>obtain ⟨σ',H',I,q⟩:=h; exact ⟨σ',H',I.b9,q⟩
 | brk=>obtain ⟨σ',H',I,q⟩:=h; exact ⟨σ',H',I.b9,q⟩
 | cont=>obtain ⟨σ',H',I,q⟩:=h; exact ⟨σ',H',I.b9,q⟩
 | ret u=>obtain ⟨v,σ',H',I,r,q⟩:=h; exact ⟨v,σ',H',I.b9,r,q⟩
end
section
variable {X:Cx} {st:Stmt} {rest:List Stmt} {t u:TS} {e:Expr} {te:TE} {pos:Pos}
noncomputable def l8:TS:=fun D σ H=>D.nx σ H
noncomputable def zB (t u:TS):TS:=fun D σ H=>t { D with nx:=u D } σ H
theorem C9:PSs X [] l8:=fun _ _ σ H _ I h=>wpAny_execs_nil ⟨σ,H,I,h⟩
theorem AI (h1:PS X st t) (h2:PSs X rest u):PSs X (st::rest) (zB t u):=by
 intro pins s σ H D I h
 refine wpAny_execs_cons (thn (h1 pins s σ H { D with nx:=u D } I h) fun f s1 q=>?_)
 cases f with
 | next =>
  obtain ⟨σ',H',I',q⟩:=q
  exact h2 pins s1 σ' H' D I' q
 | ret v=>exact q
 | brk=>exact q
 | cont=>exact q
theorem vA (h1:PS X st t):PSs X [st] t:=by
 intro pins s σ H D I h
 refine wpAny_execs_cons (thn (h1 pins s σ H D I h) fun f s1 q=>?_)
 cases f with
 | next=>exact wpAny_execs_nil q
 | ret v=>exact q
 | brk=>exact q
 | cont=>exact q
theorem BZ:PS X (.Pass pos) l8:=fun _ _ σ H _ I h=>wpAny_Pass ⟨σ,H,I,h⟩
theorem Inv.quiet {pins:List (Addr × Obj)} {σ:St} {H:Hp} {s:Shared} (I:Inv X pins σ H s):interactive X.env=false:=by simp [interactive,I.ok.kind]
theorem A9 {x j pos pos'}:PS X (.Expr (.Constant (.str x) j pos) pos') l8:=fun _ s σ H _ I h=>wpAny_Expr (Calls.Constant_str (show SP X _ _ .next { s with toks:=s.toks+1 } from ⟨σ,H,I.tok _,h⟩)) I.quiet
noncomputable def BB (te:TE):TS:=fun D σ H=>te σ H fun _ H1=>D.nx σ H1
theorem Ab (he:PE X e te) (hs:swapsWith e none pos.line X.env=pure false:=by rfl):PS X (.Expr e pos) (BB te):=by
 intro pins s σ H D I h
 exact wpAny_Expr_any (thn (he pins s σ H _ I h) fun v s1 ⟨x,H1,I1,r1,q1⟩=>⟨σ,H1,I1,q1⟩) I.quiet hs
noncomputable def Em (te:TE):TS:=fun D σ H=>te σ H D.rt
theorem ur (he:PE X e te):PS X (.Return (some e) pos) (Em te):=by
 intro pins s σ H D I h
 exact wpAny_Return_some (thn (he pins s σ H _ I h) fun v s1 ⟨x,H1,I1,r1,q1⟩=>⟨x,σ,H1,I1,r1,q1⟩)
noncomputable def BW:TS:=fun D _ H=>D.rt .non H
theorem yr:PS X (.Return none pos) BW:=fun _ _ σ H _ I h=>wpAny_Return_none ⟨.non,σ,H,I,rfl,h⟩
noncomputable def ud (c:TT) (t u:TS):TS:=fun D σ H=>c σ H fun b H1=>if b=true then t D σ H1 else u D σ H1
theorem vg {c:Expr} {a b:List Stmt} {tc:TT} (hc:PT X c tc) (ha:PSs X a t) (hb:PSs X b u):PS X (.If c a b pos) (ud tc t u):=by
 intro pins s σ H D I h
 refine wpAny_If (thn (hc pins s σ H _ I h) fun d s1 ⟨H1,I1,q1⟩=>?_)
 cases d with
 | true=>exact ha pins s1 σ H1 D I1 q1
 | false=>exact hb pins s1 σ H1 D I1 q1
end
abbrev TG:=V->St->Hp->(St->Hp->Prop)->Prop
abbrev TGs:=List V->St->Hp->(St->Hp->Prop)->Prop
noncomputable def PG (X:Cx) (target:Expr) (t:TG):Prop :=
 ∀ (pins:List (Addr × Obj)) (s:Shared) (σ:St) (H:Hp) (v:V) (u:Value) (Q:St->Hp->Prop),Inv X pins σ H s->RelV v u->t v σ H Q ->
  wpAny (model X.prog X.w) X.A (assign target X.env u) (fun _ s'=>∃ σ' H',Inv X pins σ' H' s'/\Q σ' H') X.xe s
noncomputable def PGs (X:Cx) (ts:List Expr) (t:TGs):Prop :=
 ∀ (pins:List (Addr × Obj)) (s:Shared) (σ:St) (H:Hp) (vs:List V) (us:List Value) (Q:St->Hp->Prop),Inv X pins σ H s->Vals vs us->t vs σ H Q ->
  wpAny (model X.prog X.w) X.A (assignInOrder ((assignEach ts X.env).map (·.2)) us) (fun _ s'=>∃ σ' H',Inv X pins σ' H' s'/\Q σ' H') X.xe s
abbrev bN:=V->V->V->Hp->(Hp->Prop)->Prop
noncomputable def lG (X:Cx) (t:bN):Prop :=
 ∀ (pins:List (Addr × Obj)) (s:Shared) (σ:St) (H:Hp) (o i v:V) (ov iv u:Value) (Q:Hp->Prop),Inv X pins σ H s->RelV o ov->RelV i iv->RelV v u->t o i v H Q ->
  wpAny (model X.prog X.w) X.A (setItem ov iv u) (fun _ s'=>∃ H',Inv X pins σ H' s'/\Q H') X.xe s
section
variable {X:Cx} {pos:Pos}
noncomputable def gQ (i:Nat):TG:=fun v σ H Q=>Q (σ.set i (some v)) H
theorem s_ {i:Nat} {x:Str} (hN:X.N.Nodup) (hi:X.N[i]?=some x) (hx:Loc X.env.scope x) (hf:X.fn x=true\/X.env.scope.names.lookup x=some .local:=by first|exact .inl rfl|exact .inr rfl|assumption):PG X (.Name x pos) (gQ i):=by
 intro pins s σ H v u Q I r h
 exact wpAny_assign_Name (EI I hN hi hx r (fun s' I'=>⟨_,H,I',h⟩) hf)
noncomputable def tL:TGs:=fun vs σ H Q=>vs=[]/\Q σ H
noncomputable def rW (t:TG) (u:TGs):TGs:=fun vs σ H Q=>∃ v r,vs=v::r/\t v σ H fun σ' H'=>u r σ' H' Q
theorem BO:PGs X [] tL:=by
 intro pins s σ H vs us Q I r h
 obtain ⟨e,h⟩:=h
 subst e
 cases r
 exact assignInOrder_nil ⟨σ,H,I,h⟩
theorem Aw {e:Expr} {es:List Expr} {t:TG} {u:TGs} (h1:PG X e t) (h2:PGs X es u)
  (hs:(assignEach (e::es) X.env).map (·.2)=assign e X.env::(assignEach es X.env).map (·.2):=by rfl):PGs X (e::es) (rW t u):=by
 intro pins s σ H vs us Q I r h
 obtain ⟨v,vr,e1,h⟩:=h
 subst e1
 cases r with
 | cons r rr =>
  rw [hs]
  refine assignInOrder_cons (thn (h1 pins s σ H _ _ _ I r h) fun _ s1 ⟨σ1,H1,I1,q1⟩=>?_)
  exact h2 pins s1 σ1 H1 _ _ Q I1 rr q1
noncomputable def zh (K:PySem.W.Frag) (n:Nat) (t:TGs):TG:=fun v σ H Q=>∃ a xs,v=.ref a/\SqT K H a xs/\xs.length=n/\t xs σ H Q
theorem Eu {es:List Expr} {k:Nat} {t:TGs} {n:Nat} (hc:X.calm=true) (h:PGs X es t)
  (hn:(assignEach es X.env).length=n:=by rfl) (hst:(assignEach es X.env).findIdx? (·.1)=none:=by rfl):PG X (.Tuple es k pos) (zh X.K n t):=by
 intro pins s σ H v u Q I r hw
 obtain ⟨a,xs,e1,hq,hl,hw⟩:=hw
 subst e1
 cases r
 obtain ⟨its,rv,ht,hz⟩:=I.tuple hq
 refine assign_Tuple_tuple (I.ok.hd hc) ht (by simp [hn,<- hl,rv.length]) hst fun h' hx=>?_
 have I1:Inv X pins σ H { s with heap:=h' }:=I.kept (t':=s.toks) fun b o e=>hx b o (Nat.ne_of_lt (Heap.lt_size e)) e
 exact h pins _ σ H xs _ Q I1 (by simpa using rv) hw
noncomputable def nT (to ti:TE) (t:bN):TG:=fun v σ H Q=>to σ H fun o H1=>ti σ H1 fun i H2=>t o i v H2 fun H3=>Q σ H3
theorem tT {o i:Expr} {to ti:TE} {t:bN} (ho:PE X o to) (hi:PE X i ti) (hs:lG X t)
  (ha:∀ v,assign (.Subscript o i pos) X.env v=(do
   let ov <- holding [v] (eval o X.env)
   let iv <- holding [v,ov] (eval i X.env)
   standAt pos
   holding [v,ov,iv] (setItem ov iv v)
   release [v,ov,iv] []):=by intro _; rfl):PG X (.Subscript o i pos) (nT to ti t):=by
 intro pins s σ H v u Q I r h
 rw [ha]
 refine wpAny_bind (wpAny_holding (thn (ho pins s σ H _ I h) fun ov s1 ⟨x,H1,I1,r1,q1⟩=>?_))
 refine wpAny_bind (wpAny_holding (thn (hi pins s1 σ H1 _ I1 q1) fun iv s2 ⟨y,H2,I2,r2,q2⟩=>?_))
 refine wpAny_bind (wpAny_standAt (wpAny_bind (wpAny_holding (thn (hs pins s2 σ H2 x y v ov iv u _ I2 r1 r2 r q2) fun _ s3 ⟨H3,I3,q3⟩=>?_))))
 exact wpAny_release ⟨σ,H3,I3,q3⟩
noncomputable def kh (te:TE) (g:TG):TS:=fun D σ H=>te σ H fun x H1=>g x σ H1 D.nx
theorem pM {tg e:Expr} {te:TE} {g:TG} (he:PE X e te) (hg:PG X tg g) (hs:swapsWithSole [tg] e pos.line X.env=pure false:=by rfl) (hw:swappedStores [tg] e X.env=pure none:=by rfl)
  (h1:(assignEach [tg] X.env).map (·.2)=[assign tg X.env]:=by rfl):PS X (.Assign [tg] e pos) (kh te g):=by
 intro pins s σ H D I h
 refine wpAny_Assign_stores (thn (he pins s σ H _ I h) fun v s1 ⟨x,H1,I1,r1,q1⟩=>?_) hs hw
 rw [h1]
 exact thn (hg pins s1 σ H1 x v _ I1 r1 q1) fun _ s2 q=>q
end
section
variable {X:Cx} {pos:Pos}
end
structure It where
 go:Nat->Hp->Prop
 yld:Nat->Hp->V->Hp->Prop
 stop:Nat->Hp->Prop
noncomputable def cG (X:Cx) (pins:List (Addr × Obj)) (H:Hp) (b:Addr):Prop :=
 H b=none/\b≠X.env.locals/\b ∉ X.fs/\(b∈X.ex\/X.s₀.heap.objs.size<=b)/\(∀ x c,X.env.cells.lookup x=some c->c≠b)/\∀ p∈X.pn++pins,p.1≠b
theorem Inv.fN {X:Cx} {pins:List (Addr × Obj)} {σ:St} {H H':Hp} {s:Shared} {b:Addr} (I:Inv X pins σ H s) (hb:s.heap.objs.size<=b) (hn:H' b=none):cG X pins H' b:=by
 refine ⟨hn,Nat.ne_of_gt (Nat.lt_of_lt_of_le I.lt hb),I.DC hb,.inr (Nat.le_trans I.sz hb),fun x c e z=>?_,fun p hp z=>?_⟩
 ·obtain ⟨v,q⟩:=I.cell x c e
  exact absurd (Nat.lt_of_lt_of_le q.lt (by rw [z]; exact hb)) (Nat.lt_irrefl _)
 ·exact absurd (Nat.lt_of_lt_of_le (Heap.lt_size (I.pin p hp).1) (by rw [z]; exact hb)) (Nat.lt_irrefl _)
structure Turn (P:Program) (w:World) (K:PySem.W.Frag) (tg:Expr) (J:It) (fp:List Addr) (it:Addr) (tn:Nat->Heap->Prop):Prop where
 mem:it∈fp
 obj:∀ i h,tn i h->∀ b∈fp,∃ o,h.get? b=some o/\∀ v,o.data≠.cell v
 keep:∀ i h h',tn i h->(∀ b∈fp,∀ o,h.get? b=some o->h'.get? b=some o)->tn i h'
 item:∀ (X:Cx),X.prog=P->X.w=w->X.K=K->X.calm=true->∀ (i:Nat) (pins:List (Addr × Obj)) (s:Shared) (σ:St) (H:Hp) (E:Value->Shared->Prop),Inv X pins σ H s->(∀ b∈fp,cG X pins H b)->tn i s.heap->J.go i H ->
  wpAny (model P w) X.A (pyNext (.ref it)) (fun r s1=>∃ u,r=some u /\
   wpAny (model P w) X.A (letOwnedTupleGo tg (.ref it) u) (fun _ s2=>∃ x H',Inv X pins σ H' s2/\RelV x u/\J.yld i H x H'/\tn (i+1) s2.heap/\∀ b∈fp,H' b=none) E s1) E s
 done:∀ (X:Cx),X.prog=P->X.w=w->X.K=K->X.calm=true->∀ (i:Nat) (pins:List (Addr × Obj)) (s:Shared) (σ:St) (H:Hp) (E:Value->Shared->Prop),Inv X pins σ H s->(∀ b∈fp,cG X pins H b)->tn i s.heap->J.stop i H ->
  wpAny (model P w) X.A (pyNext (.ref it)) (fun r s1=>r=none/\Inv X pins σ H s1) E s
 self:∀ (A:Around) (i:Nat) (s:Shared) (Q:Value->Shared->Prop) (E:Value->Shared->Prop),tn i s.heap->Q (.ref it) s->wpAny (model P w) A (pyIter (.ref it)) Q E s
abbrev TI:=St->Hp->(It->Hp->Prop)->Prop
noncomputable def PIE (X:Cx) (pins:List (Addr × Obj)) (σ:St) (tg:Expr) (R:It->Hp->Prop) (itv:Value) (s2:Shared):Prop :=
 ∃ (it:Addr) (fp:List Addr) (tn:Nat->Heap->Prop) (J:It) (H':Hp),itv=.ref it/\Inv X pins σ H' s2/\Turn X.prog X.w X.K tg J fp it tn/\tn 0 s2.heap/\(∀ b∈fp,cG X pins H' b)/\R J H'
noncomputable def PI (X:Cx) (tg iter:Expr) (wi:TI):Prop :=
 ∀ (pins:List (Addr × Obj)) (s:Shared) (σ:St) (H:Hp) (R:It->Hp->Prop),Inv X pins σ H s->wi σ H R ->
  wpAny (model X.prog X.w) X.A (eval iter X.env) (fun v s1=>wpAny (model X.prog X.w) X.A (pyIter v) (PIE X pins σ tg R) X.xe s1) X.xe s
theorem jB {M:Model} {A:Around} {E:Value->Shared->Prop} {s:Shared} {tg:Expr} {it:Addr} {u:Value} {o:Obj} {n:String} {vs:Array Value} {Q:Unit->Shared->Prop} (ho:s.heap.get? it=some o) (hc:o.cls=.type n) (hd:o.data=.fields vs)
  (hn:["enumerate","zip","dict_itemiterator","dict_reverseitemiterator","odict_iterator","itertools.zip_longest","itertools.pairwise"].contains n=false) (hQ:Q () s):wpAny M A (letOwnedTupleGo tg (.ref it) u) Q E s:=by
 unfold letOwnedTupleGo
 cases tg <;> first
  | exact wpAny_pure hQ
  | (cases u <;> first
    | exact wpAny_pure hQ
    | (
      refine wpAny_bind (wpAny_load ho ?_)
      rw [hc,hd]
      show wpAny M A (if (["enumerate","zip","dict_itemiterator","dict_reverseitemiterator","odict_iterator","itertools.zip_longest","itertools.pairwise"].contains n&&vs[0]?==some (rawInt _))=true then _ else _) Q E s
      rw [if_neg (by intro h; rw [hn,Bool.false_and] at h; cases h)]
      exact wpAny_pure hQ))
noncomputable def Itl (K:PySem.W.Frag) (a:Addr):It :=
 ⟨fun i H=>∃ xs x,SqL K H a xs/\xs[i]?=some x,fun i H x H'=>H'=H/\∀ xs,SqL K H a xs->xs[i]?=some x,fun i H=>∃ xs,SqL K H a xs/\xs.length<=i⟩
noncomputable def Itt (K:PySem.W.Frag) (a:Addr):It :=
 ⟨fun i H=>∃ xs x,SqT K H a xs/\xs[i]?=some x,fun i H x H'=>H'=H/\∀ xs,SqT K H a xs->xs[i]?=some x,fun i H=>∃ xs,SqT K H a xs/\xs.length<=i⟩
noncomputable def Itr (lo:Int) (n:Nat):It:=⟨fun i _=>i < n,fun i H x H'=>H'=H/\x=.int (lo+i),fun i _=>n<=i⟩
theorem AR {P:Program} {w:World} {K:PySem.W.Frag} {tg:Expr} (a it:Addr):Turn P w K tg (Itl K a) [it] it (fun i h=>h.IsListIter it a i) where
 mem:=by simp
 obj:=fun i h st b hb=>by
  have e:b=it:=by simpa using hb
  subst e
  obtain ⟨o,e,c,d⟩:=st
  exact ⟨o,e,fun v z=>by rw [d] at z; cases z⟩
 keep:=fun i h h' st k=>st.at fun o e=>k it (by simp) o e
 item:=by
  intro X hP hw hK hc i pins s σ H E I hf st hg
  subst hP hw hK
  obtain ⟨xs,x,hq,hx⟩:=hg
  obtain ⟨its,rv,p,hz⟩:=I.list hq
  obtain ⟨u,hu,ru⟩:=rv.get hx
  obtain ⟨f0,f1,f2,f3,f4,f5⟩:=hf it (by simp)
  refine wpAny_pyNext_list_item st p.isList (x:=u) (by simpa using hu) fun h' st' sb=>?_
  have I1:Inv X pins σ H { s with heap:=h' }:=I.turned (t':=s.toks) (fun b o hb e=>(sb.2 b hb).trans e) f0 f1 f3 f4 f5
  obtain ⟨o,e,c,d⟩:=id st'
  exact ⟨u,rfl,jB (s:={ s with heap:=h' }) e c d (by decide) ⟨x,H,I1,ru,⟨rfl,fun ys hy=>by rw [I.jf hy hq]; exact hx⟩,st',fun b hb=>(hf b hb).1⟩⟩
 done:=by
  intro X hP hw hK hc i pins s σ H E I hf st hg
  subst hP hw hK
  obtain ⟨xs,hq,hx⟩:=hg
  obtain ⟨its,rv,p,hz⟩:=I.list hq
  obtain ⟨f0,f1,f2,f3,f4,f5⟩:=hf it (by simp)
  have hl:=rv.length
  exact wpAny_pyNext_list_end (I.ok.hd hc) st p.isList (by simp; omega) fun h' eb=>⟨rfl,I.turned (t':=s.toks) (fun b o hb e=>eb b o hb e) f0 f1 f3 f4 f5⟩
 self:=fun _ _ _ _ _ st h=>wpAny_pyIter_listiter st h
theorem AQ {P:Program} {w:World} {K:PySem.W.Frag} {tg:Expr} (a it:Addr):Turn P w K tg (Itt K a) [it] it (fun i h=>h.IsTupleIter it a i) where
 mem:=by simp
 obj:=fun i h st b hb=>by
  have e:b=it:=by simpa using hb
  subst e
  obtain ⟨o,e,c,d⟩:=st
  exact ⟨o,e,fun v z=>by rw [d] at z; cases z⟩
 keep:=fun i h h' st k=>st.at fun o e=>k it (by simp) o e
 item:=by
  intro X hP hw hK hc i pins s σ H E I hf st hg
  subst hP hw hK
  obtain ⟨xs,x,hq,hx⟩:=hg
  obtain ⟨its,rv,p,hz⟩:=I.tuple hq
  obtain ⟨u,hu,ru⟩:=rv.get hx
  obtain ⟨f0,f1,f2,f3,f4,f5⟩:=hf it (by simp)
  refine wpAny_pyNext_tuple_item st (show s.heap.IsTuple a its.toArray from p) (x:=u) (by simpa using hu) fun h' st' sb=>?_
  have I1:Inv X pins σ H { s with heap:=h' }:=I.turned (t':=s.toks) (fun b o hb e=>(sb.2 b hb).trans e) f0 f1 f3 f4 f5
  obtain ⟨o,e,c,d⟩:=id st'
  exact ⟨u,rfl,jB (s:={ s with heap:=h' }) e c d (by decide) ⟨x,H,I1,ru,⟨rfl,fun ys hy=>by rw [I.iR hy hq]; exact hx⟩,st',fun b hb=>(hf b hb).1⟩⟩
 done:=by
  intro X hP hw hK hc i pins s σ H E I hf st hg
  subst hP hw hK
  obtain ⟨xs,hq,hx⟩:=hg
  obtain ⟨its,rv,p,hz⟩:=I.tuple hq
  obtain ⟨f0,f1,f2,f3,f4,f5⟩:=hf it (by simp)
  have hl:=rv.length
  exact wpAny_pyNext_tuple_end (I.ok.hd hc) st (show s.heap.IsTuple a its.toArray from p) (by simp; omega) fun h' eb=>⟨rfl,I.turned (t':=s.toks) (fun b o hb e=>eb b o hb e) f0 f1 f3 f4 f5⟩
 self:=fun _ _ _ _ _ st h=>wpAny_pyIter_tupleiter st h
theorem wz {P:Program} {w:World} {K:PySem.W.Frag} {tg:Expr} (it:Addr) (lo:Int) (n:Nat):Turn P w K tg (Itr lo n) [it] it (fun i h=>IsRangeIter h it (lo+(i:Nat) * 1) ((n:Int) - (i:Nat)) 1) where
 mem:=by simp
 obj:=fun i h st b hb=>by
  have e:b=it:=by simpa using hb
  subst e
  exact ⟨_,st,fun v z=>by
   have z':Data.fields _=Data.cell v:=z
   cases z'⟩
 keep:=fun i h h' st k=>k it (by simp) _ st
 item:=by
  intro X hP hw hK hc i pins s σ H E I hf st hg
  subst hP hw hK
  obtain ⟨f0,f1,f2,f3,f4,f5⟩:=hf it (by simp)
  have W:=Walks.range (prog:=X.prog) (w:=X.w) (I.ok.hd hc) it lo 1 n
  refine W.item i s _ _ hg st fun v h' tk hv st' kk=>?_
  obtain ⟨t,rfl⟩:=hv
  have I1:Inv X pins σ H { s with heap:=h',toks:=tk }:=I.turned (fun b o hb e=>kk b o (by simpa using hb) e) f0 f1 f3 f4 f5
  refine ⟨_,rfl,jB (s:={ s with heap:=h',toks:=tk }) (n:="range_iterator") st' rfl rfl (by decide) ⟨.int (lo+i),H,I1,⟨t,?_⟩,⟨rfl,rfl⟩,st',fun b hb=>(hf b hb).1⟩⟩
  rw [Int.mul_one]
 done:=by
  intro X hP hw hK hc i pins s σ H E I hf st hg
  subst hP hw hK
  obtain ⟨f0,f1,f2,f3,f4,f5⟩:=hf it (by simp)
  exact wpAny_pyNext_range_end (I.ok.hd hc) st (by have:n<=i:=hg; omega) fun h' eb=>⟨rfl,I.turned (t':=s.toks) (fun b o hb e=>eb b o hb e) f0 f1 f3 f4 f5⟩
 self:=fun _ _ _ _ _ st h=>wpAny_pyIter_rangeiter st h
end L2
namespace L2
open PySem PySem.Spec PyProof.Rows
section
variable {X:Cx} {tg:Expr}
theorem oE {pins:List (Addr × Obj)} {σ:St} {H:Hp} {s:Shared} {R:It->Hp->Prop} {E:Value->Shared->Prop} {lo hi:Int} {t u v:Tok} {tk:Nat} (I:Inv X pins σ H s) (h1:-(2 ^ 62)<=lo) (h2:lo < 2 ^ 62) (h3:-(2 ^ 62)<=hi) (h4:hi < 2 ^ 62)
  (q:R (Itr lo (hi - lo).toNat) H):wpAny (model X.prog X.w) X.A (pyIter (.ref s.heap.objs.size)) (PIE X pins σ tg R) E { s with heap:=s.heap.push { cls:=.type "range",data:=.fields #[.int lo t,.int hi u,.int 1 v] },toks:=tk }:=by
 refine wpAny_pyIter_range (IsRange.new ..) (small_one h1 h2 h3 h4) ?_
 have I1:Inv X pins σ H { s with heap:=s.heap.push { cls:=.type "range",data:=.fields #[.int lo t,.int hi u,.int 1 v] },toks:=tk }:=I.kept fun b o e=>Heap.get?_push_of_some _ e
 refine ⟨(s.heap.push { cls:=.type "range",data:=.fields #[.int lo t,.int hi u,.int 1 v] }).objs.size,[(s.heap.push { cls:=.type "range",data:=.fields #[.int lo t,.int hi u,.int 1 v] }).objs.size],_,_,H,rfl,
  I1.kept (t':=tk) fun b o e=>Heap.get?_push_of_some _ e,wz _ lo (hi - lo).toNat,?_,fun b hb=>?_,q⟩
 ·have e1:lo+((0:Nat):Int) * 1=lo:=by simp
  have e2:(((hi - lo).toNat:Nat):Int) - ((0:Nat):Int)=Builtin.Range.rangeSize lo hi 1:=by rw [rangeSize_one]; split <;> omega
  show IsRangeIter _ _ (lo+((0:Nat):Int) * 1) ((((hi - lo).toNat:Nat):Int) - ((0:Nat):Int)) 1
  rw [e1,e2]
  exact Heap.get?_push_size _ rfl
 ·have e:b=(s.heap.push { cls:=.type "range",data:=.fields #[.int lo t,.int hi u,.int 1 v] }).objs.size:=by simpa using hb
  subst e
  exact I1.fN (Nat.le_refl _) (I1.hok.fresh (Nat.le_refl _))
noncomputable def Cf (ta:TA):TI:=fun σ H R=>ta σ H fun vs H1=>∃ j:Int,vs=[.int j]/\-(2 ^ 62)<=j/\j < 2 ^ 62/\R (Itr 0 j.toNat) H1
noncomputable def BI (ta:TA):TI:=fun σ H R=>ta σ H fun vs H1=>∃ i j:Int,vs=[.int i,.int j]/\(-(2 ^ 62)<=i/\i < 2 ^ 62/\-(2 ^ 62)<=j/\j < 2 ^ 62)/\R (Itr i (j - i).toNat) H1
theorem wG {a:Expr} {ta:TA} {p pos:Pos} (hg:Gl X "range") (hm:X.mg "range" = none) (ha:PA X [a] ta) (hs:starEach [a] X.env=[(false,eval a X.env)]:=by rfl):PI X tg (.Call (.Name "range" p) [a] [] pos) (Cf ta):=by
 intro pins s σ H R I h
 refine Call_ (c5 I hg hm boot_range (PyProof.Rows.callWith_type1 (thn (ha pos pins s σ H _ I h) fun us s1 ⟨vs,H1,I1,r1,q1⟩=>?_) hs rfl))
 obtain ⟨j,e,q1,q2,q⟩:=q1
 subst e
 cases r1 with
 | cons r rr =>
  cases rr
  obtain ⟨t,rfl⟩:=r
  exact call_range_1 (oE I1 (by omega) (by omega) q1 q2 (by simpa using q))
theorem ym {a b:Expr} {ta:TA} {p pos:Pos} (hg:Gl X "range") (hm:X.mg "range" = none) (ha:PA X [a,b] ta) (hs:starEach [a,b] X.env=[(false,eval a X.env),(false,eval b X.env)]:=by rfl) (hs2:starEach [b] X.env=[(false,eval b X.env)]:=by rfl) :
  PI X tg (.Call (.Name "range" p) [a,b] [] pos) (BI ta):=by
 intro pins s σ H R I h
 refine Call_ (c5 I hg hm boot_range (PyProof.Rows.callWith_type1 (thn (ha pos pins s σ H _ I h) fun us s1 ⟨vs,H1,I1,r1,q1⟩=>?_) (by rw [hs,hs2]) (by rw [hs2]; rfl)))
 obtain ⟨i,j,e,⟨q1,q2,q3,q4⟩,q⟩:=q1
 subst e
 cases r1 with
 | cons r rr =>
  cases rr with
  | cons r' rr =>
   cases rr
   obtain ⟨t,rfl⟩:=r
   obtain ⟨t',rfl⟩:=r'
   exact call_range_2 (oE I1 q1 q2 q3 q4 q)
noncomputable def qG (wi:TI) (g:TG) (tb:TS):TS:=fun D σ H=>wi σ H fun J H1=>∃ W:Nat->Nat->St->Hp->Prop,(∃ m,W 0 m σ H1)/\∀ i m σ H,W i m σ H ->
 (J.stop i H/\D.nx σ H)\/(J.go i H/\∃ N:St->Hp->Prop,(∀ σ' H',N σ' H'->∃ m',m' < m/\W (i+1) m' σ' H')/\∀ x H',J.yld i H x H'->g x σ H' fun σ2 H2=>tb { D with nx:=N,ct:=N,bk:=D.nx } σ2 H2)
noncomputable def g_ (fp:List Addr) (h:Heap):List (Addr × Obj):=fp.filterMap fun b=>(h.get? b).map fun o=>(b,o)
theorem jL {fp:List Addr} {h:Heap} {b:Addr} {o:Obj} (hb:b∈fp) (e:h.get? b=some o):(b,o)∈g_ fp h:=List.mem_filterMap.mpr ⟨b,hb,by rw [e]; rfl⟩
theorem yH {fp:List Addr} {h:Heap} {p:Addr × Obj} (hp:p∈g_ fp h):p.1∈fp/\h.get? p.1=some p.2:=by
 obtain ⟨b,hb,e⟩:=List.mem_filterMap.mp hp
 cases q:h.get? b with
 | none=>rw [q] at e; cases e
 | some o =>
  rw [q] at e
  have e':(b,o)=p:=Option.some.inj e
  subst e'
  exact ⟨hb,q⟩
theorem Inv.pinned {pins:List (Addr × Obj)} {σ:St} {H:Hp} {s:Shared} {fp:List Addr} (I:Inv X pins σ H s) (hf:∀ b∈fp,cG X pins H b) (ho:∀ b∈fp,∃ o,s.heap.get? b=some o/\∀ v,o.data≠.cell v):Inv X (pins++g_ fp s.heap) σ H s :=
 I.sW fun p hp=>(List.mem_append.mp hp).elim (fun z=>I.pin p (List.mem_append_right _ z)) fun z=>by
  obtain ⟨hb,e⟩:=yH z
  obtain ⟨f0,f1,f2,_⟩:=hf p.1 hb
  obtain ⟨o,e',d⟩:=ho p.1 hb
  rw [e] at e'; cases e'
  exact ⟨e,f0,f1,f2,d⟩
theorem Inv.iT {pins pl:List (Addr × Obj)} {σ:St} {H:Hp} {s:Shared} (I:Inv X (pins++pl) σ H s):Inv X pins σ H s:=I.sW fun p hp=>I.pin p (List.mem_append_right _ (List.mem_append_left _ hp))
theorem CB {iter:Expr} {body:List Stmt} {wi:TI} {g:TG} {tb:TS} {pos:Pos} (hp:PassesOwn (model X.prog X.w) X.A X.env X.xe) (hc:X.calm=true) (hi:PI X tg iter wi) (hg:PG X tg g) (hb:PSs X body tb)
  (hs:∀ x,foldedSetIterable iter X.env x=pure x:=by intro _; rfl):PS X (.For tg iter body [] pos) (qG wi g tb):=by
 intro pins s σ H D I h
 refine wpAny_For (thn (hi pins s σ H _ I h) fun v s1 h1=>thn h1 fun itv s2 h2=>?_) hs
 obtain ⟨it,fp,tn,J,H2,e,I2,T,st2,f2,W,⟨m0,w0⟩,turn⟩:=h2
 subst e
 have stat:∀ {H':Hp},(∀ b∈fp,H' b=none)->∀ b∈fp,cG X pins H' b:=fun hn b hb=>⟨hn b hb,(f2 b hb).2⟩
 refine codeAny_forLoop_any (fun n s'=>∃ i σ' H',Inv X pins σ' H' s'/\tn i s'.heap/\(∀ b∈fp,H' b=none)/\W i n σ' H') ?_ m0 ⟨0,σ,H2,I2,st2,fun b hb=>(f2 b hb).1,w0⟩
 rintro n s3 ⟨i,σ3,H3,I3,st3,fr3,w3⟩
 rcases turn i n σ3 H3 w3 with ⟨stop,qn⟩|⟨go,N,hN,step⟩
 ·refine wpAny_passesOwn hp (thn (T.done X rfl rfl rfl hc i pins s3 σ3 H3 X.xe I3 (stat fr3) st3 stop) fun r s4 ⟨hr,I4⟩=>?_)
  subst hr
  exact wpAny_execs_nil ⟨σ3,H3,I4,qn⟩
 ·refine wpAny_passesOwn hp (thn (T.item X rfl rfl rfl hc i pins s3 σ3 H3 X.xe I3 (stat fr3) st3 go) fun r s4 ⟨u,hr,h4⟩=>?_)
  subst hr
  refine wpAny_passesOwn hp (thn h4 fun _ s5 ⟨x,H5,I5,r5,y5,st5,fr5⟩=>?_)
  have I5':=I5.pinned (stat fr5) (T.obj _ _ st5)
  refine wpAny_passesOwn hp (thn (hg _ s5 σ3 H5 x u _ I5' r5 (step x H5 y5)) fun _ s6 ⟨σ6,H6,I6,q6⟩=>?_)
  refine wpAny_passesOwn hp (thn (hb _ s6 σ6 H6 _ I6 q6) fun f s7 q7=>?_)
  have again:∀ {σ7:St} {H7:Hp},Inv X (pins++g_ fp s5.heap) σ7 H7 s7->N σ7 H7->∃ m,m < n/\∃ i σ' H',Inv X pins σ' H' s7/\tn i s7.heap/\(∀ b∈fp,H' b=none)/\W i m σ' H':=fun {σ7 H7} I7 n7=>by
   obtain ⟨m',hm,w7⟩:=hN σ7 H7 n7
   refine ⟨m',hm,i+1,σ7,H7,I7.iT,T.keep _ _ _ st5 fun b hb o e=>(I7.pin (b,o) (List.mem_append_right _ (List.mem_append_right _ (jL hb e)))).1,fun b hb=>?_,w7⟩
   obtain ⟨o,e,d⟩:=T.obj _ _ st5 b hb
   exact (I7.pin (b,o) (List.mem_append_right _ (List.mem_append_right _ (jL hb e)))).2.1
  cases f with
  | next=>obtain ⟨σ7,H7,I7,n7⟩:=q7; exact again I7 n7
  | cont=>obtain ⟨σ7,H7,I7,n7⟩:=q7; exact again I7 n7
  | brk=>obtain ⟨σ7,H7,I7,q7⟩:=q7; exact ⟨σ7,H7,I7.iT,q7⟩
  | ret v=>obtain ⟨x7,σ7,H7,I7,r7,q7⟩:=q7; exact ⟨x7,σ7,H7,I7.iT,r7,q7⟩
end
end L2
namespace L2
open PySem PySem.Spec PyProof.Rows
abbrev R2:=V->V->Hp->VK->Prop
noncomputable def OpR (X:Cx) (f:Value->Value->Sem Value) (r:R2):Prop :=
 ∀ (pins:List (Addr × Obj)) (s:Shared) (σ:St) (H:Hp) (x y:V) (v u:Value) (Q:VK),Inv X pins σ H s->RelV x v->RelV y u->r x y H Q ->
  wpAny (model X.prog X.w) X.A (f v u) (EP X pins σ Q) X.xe s
noncomputable def UnR (X:Cx) (f:Value->Sem Value) (r:V->Hp->VK->Prop):Prop :=
 ∀ (pins:List (Addr × Obj)) (s:Shared) (σ:St) (H:Hp) (x:V) (v:Value) (Q:VK),Inv X pins σ H s->RelV x v->r x H Q ->
  wpAny (model X.prog X.w) X.A (f v) (EP X pins σ Q) X.xe s
noncomputable def bI (X:Cx) (f:Value) (r:List V->Hp->VK->Prop):Prop :=
 ∀ (pins:List (Addr × Obj)) (s:Shared) (σ:St) (H:Hp) (xs:List V) (us:List Value) (Q:VK),Inv X pins σ H s->Vals xs us->r xs H Q ->
  wpAny (model X.prog X.w) X.A (call f us) (EP X pins σ Q) X.xe s
noncomputable def nQ (X:Cx) (r:V->Hp->(Bool->Hp->Prop)->Prop):Prop :=
 ∀ (pins:List (Addr × Obj)) (s:Shared) (σ:St) (H:Hp) (x:V) (v:Value) (Q:Bool->Hp->Prop),Inv X pins σ H s->RelV x v->r x H Q ->
  wpAny (model X.prog X.w) X.A (truthy v) (TP X pins σ Q) X.xe s
noncomputable def tOp (r:R2) (ta tb:TE):TE:=fun σ H Q=>ta σ H fun x H1=>tb σ H1 fun y H2=>r x y H2 Q
noncomputable def tUn (r:V->Hp->VK->Prop) (ta:TE):TE:=fun σ H Q=>ta σ H fun x H1=>r x H1 Q
noncomputable def rI (C:Int->Int->Prop) (g:Int->Int->V):R2:=fun x y H Q=>∃ i j,x=.int i/\y=.int j/\C i j/\Q (g i j) H
noncomputable def rI0 (g:Int->Int->V):R2:=fun x y H Q=>∃ i j,x=.int i/\y=.int j/\Q (g i j) H
noncomputable def rU (g:Int->V):V->Hp->VK->Prop:=fun x H Q=>∃ i,x=.int i/\Q (g i) H
section
variable {X:Cx} {a b c:Expr} {ta tb tc:TE} {pos:Pos}
theorem k7 (ha:PE X a ta) (hb:PE X b tb) {pins:List (Addr × Obj)} {s:Shared} {σ:St} {H:Hp} {R:V->V->Hp->Prop} (I:Inv X pins σ H s)
  (h:ta σ H fun x H1=>tb σ H1 fun y H2=>R x y H2) {Q:Value->Shared->Prop} {f:Value->Value->Sem Value}
  (hf:∀ v u s2 x y H2,Inv X pins σ H2 s2->RelV x v->RelV y u->R x y H2->wpAny (model X.prog X.w) X.A (f v u) Q X.xe s2) :
  wpAny (model X.prog X.w) X.A (eval a X.env) (fun v s₁=>wpAny (model X.prog X.w) X.A (eval b X.env) (fun u s₂=>wpAny (model X.prog X.w) X.A (f v u) Q X.xe s₂) X.xe s₁) X.xe s:=by
 refine thn (ha pins s σ H _ I h) fun v s1 ⟨x,H1,I1,r1,q1⟩=>?_
 refine thn (hb pins s1 σ H1 _ I1 q1) fun u s2 ⟨y,H2,I2,r2,q2⟩=>?_
 exact hf v u s2 x y H2 I2 r1 r2 q2
theorem uT {op:Operator} {r:R2} (ho:OpR X (binaryOp op) r) (ha:PE X a ta) (hb:PE X b tb):PE X (.BinOp a op b pos) (tOp r ta tb):=by
 intro pins s σ H Q I h
 exact wpAny_BinOp (k7 ha hb I h fun v u s2 x y H2 I2 rx ry q=>ho pins s2 σ H2 x y v u Q I2 rx ry q)
theorem zM {op:UnaryOp} {r:V->Hp->VK->Prop} (ho:UnR X (unaryOp op) r) (ha:PE X a ta):PE X (.UnaryOp op a pos) (tUn r ta):=by
 intro pins s σ H Q I h
 exact UnaryOp_ (thn (ha pins s σ H _ I h) fun v s1 ⟨x,H1,I1,r1,q1⟩=>ho pins s1 σ H1 x v Q I1 r1 q1)
theorem opI {f:Value->Value->Sem Value} {C:Int->Int->Prop} {g:Int->Int->Int}
  (rule:∀ (i j:Int) (t u:Tok) (s:Shared) (Q:Value->Shared->Prop) (E:Value->Shared->Prop),C i j->Q (.int (g i j) s.toks) { s with toks:=s.toks+1 }->wpAny (model X.prog X.w) X.A (f (.int i t) (.int j u)) Q E s) :
  OpR X f (rI C fun i j=>.int (g i j)):=by
 intro pins s σ H x y v u Q I rx ry h
 obtain ⟨i,j,rfl,rfl,hc,q⟩:=h
 obtain ⟨t,rfl⟩:=rx
 obtain ⟨t',rfl⟩:=ry
 exact rule i j t t' s _ _ hc ⟨.int (g i j),H,I.tok _,⟨_,rfl⟩,q⟩
theorem sJ {f:Value->Value->Sem Value} {g:Int->Int->Int}
  (rule:∀ (i j:Int) (t u:Tok) (s:Shared) (Q:Value->Shared->Prop) (E:Value->Shared->Prop),Q (.int (g i j) s.toks) { s with toks:=s.toks+1 }->wpAny (model X.prog X.w) X.A (f (.int i t) (.int j u)) Q E s) :
  OpR X f (rI0 fun i j=>.int (g i j)):=by
 intro pins s σ H x y v u Q I rx ry h
 obtain ⟨i,j,rfl,rfl,q⟩:=h
 obtain ⟨t,rfl⟩:=rx
 obtain ⟨t',rfl⟩:=ry
 exact rule i j t t' s _ _ ⟨.int (g i j),H,I.tok _,⟨_,rfl⟩,q⟩
theorem jb {f:Value->Value->Sem Value} {g:Int->Int->Bool}
  (rule:∀ (i j:Int) (t u:Tok) (s:Shared) (Q:Value->Shared->Prop) (E:Value->Shared->Prop),Q (.bool (g i j)) s->wpAny (model X.prog X.w) X.A (f (.int i t) (.int j u)) Q E s) :
  OpR X f (rI0 fun i j=>.bl (g i j)):=by
 intro pins s σ H x y v u Q I rx ry h
 obtain ⟨i,j,rfl,rfl,q⟩:=h
 obtain ⟨t,rfl⟩:=rx
 obtain ⟨t',rfl⟩:=ry
 exact rule i j t t' s _ _ ⟨.bl (g i j),H,I,rfl,q⟩
noncomputable def uo (i j:Int):Prop:=0 < j/\j < 1073741824
noncomputable def yg (i j:Int):Prop:=0<=j/\j<=1000000/\i.natAbs < 2 ^ 64
noncomputable def lg (i j:Int):Prop:=(-(2 ^ 64) < i/\i < 2 ^ 64)\/(-(2 ^ 64) < j/\j < 2 ^ 64)
theorem lg.ok {i j:Int} (h:lg i j):IntMulOk i j:=by
 rcases h with ⟨h1,h2⟩|⟨h1,h2⟩
 ·exact .of_left (intBits_le_64 h1 h2)
 ·exact .of_right (intBits_le_64 h1 h2)
theorem Cu:OpR X (binaryOp .Add) (rI0 fun i j=>.int (i+j)):=sJ fun _ _ _ _ _ _ _ q=>add_int q
theorem Aj:OpR X (binaryOp .Sub) (rI0 fun i j=>.int (i - j)):=sJ fun _ _ _ _ _ _ _ q=>sub_int q
theorem x_:OpR X (binaryOp .Mult) (rI lg fun i j=>.int (i * j)):=opI fun _ _ _ _ _ _ _ hc q=>mul_int q hc.ok
theorem u0:OpR X (binaryOp .FloorDiv) (rI uo fun i j=>.int (i / j)):=opI fun i j _ _ _ _ _ hc q=>by
 have h1:(0:Int) < j:=hc.1
 have h2:j < 1073741824:=hc.2
 exact floordiv_int (by omega) (by rw [Int.fdiv_eq_ediv_of_nonneg i (by omega)]; exact q) (.inl (PyProof.noPylong_small (by omega)))
theorem AE:OpR X (binaryOp .Mod) (rI (fun _ j=>0 < j) fun i j=>.int (i % j)):=opI fun i j _ _ _ _ _ hc q=>by
 have h1:(0:Int) < j:=hc
 exact mod_int' (by omega) (by rw [Int.fmod_eq_emod_of_nonneg i (by omega)]; exact q)
theorem EK:OpR X (binaryOp .Pow) (rI yg fun i j=>.int (i ^ j.toNat)):=opI fun _ _ _ _ _ _ _ hc q=>pow_int_small hc.1 hc.2.1 hc.2.2 q
theorem unI {f:Value->Sem Value} {g:Int->Int}
  (rule:∀ (i:Int) (t:Tok) (s:Shared) (Q:Value->Shared->Prop) (E:Value->Shared->Prop),Q (.int (g i) s.toks) { s with toks:=s.toks+1 }->wpAny (model X.prog X.w) X.A (f (.int i t)) Q E s) :
  UnR X f (rU fun i=>.int (g i)):=by
 intro pins s σ H x v Q I rx h
 obtain ⟨i,rfl,q⟩:=h
 obtain ⟨t,rfl⟩:=rx
 exact rule i t s _ _ ⟨.int (g i),H,I.tok _,⟨_,rfl⟩,q⟩
theorem FE:UnR X (unaryOp .USub) (rU fun i=>.int (-i)):=unI fun _ _ _ _ _ q=>neg_int q
end
noncomputable def tE:V->V->Bool
 | .non,.non=>true|.non,.int _=>true|.int _,.non=>true|.non,.bl _=>true|.bl _,.non=>true|.non,.str _=>true|.str _,.non=>true
 | .int _,.int _=>true|.bl _,.bl _=>true|.str _,.str _=>true|.byt _,.byt _=>true
 | .int _,.str _=>true|.str _,.int _=>true|.bl _,.str _=>true|.str _,.bl _=>true
 | _,_=>false
noncomputable def rNe:R2:=fun x y H Q=>tE x y=true/\Q (.bl (!decide (x=y))) H
theorem kB {i j:Int}:decide (V.int i=V.int j)=(i==j):=by
 rw [Bool.eq_iff_iff]
 simp
theorem tO {i j:Bool}:decide (V.bl i=V.bl j)=(i==j):=by
 rw [Bool.eq_iff_iff]
 simp
theorem p8 {i j:Str}:decide (V.str i=V.str j)=(i==j):=by
 rw [Bool.eq_iff_iff]
 simp
theorem Bx {i j:Array UInt8}:decide (V.byt i=V.byt j)=(i.toList==j.toList):=by
 rw [Bool.eq_iff_iff]
 cases i
 cases j
 simp
section
variable {X:Cx} {a b c:Expr} {ta tb tc:TE} {pos:Pos}
theorem b5 {pins:List (Addr × Obj)} {σ:St} {H:Hp} {s:Shared} {Q:VK} {k k':Bool} (I:Inv X pins σ H s) (q:Q (.bl k) H) (e:k=k'):EP X pins σ Q (.bool k') s:=by
 subst e
 exact ⟨.bl k,H,I,rfl,q⟩
theorem AH:OpR X (compareOp .NotEq) rNe:=by
 intro pins s σ H x y v u Q I rx ry h
 obtain ⟨hs,q⟩:=h
 cases x with
 | non =>
  cases rx
  cases y with
  | non=>cases ry; exact PySem.EqNone.ne_none_none (b5 I q (by simp))
  | bl j=>cases ry; exact PySem.EqNone.ne_none_bool (b5 I q (by simp))
  | int j=>obtain ⟨t',rfl⟩:=ry; exact PySem.EqNone.ne_none_int (b5 I q (by simp))
  | str j=>obtain ⟨t',rfl⟩:=ry; exact PySem.EqNone.ne_none_str (b5 I q (by simp))
  | _=>exact absurd (show false=true from hs) Bool.false_ne_true
 | bl i =>
  cases rx
  cases y with
  | non=>cases ry; exact PySem.EqNone.ne_bool_none (b5 I q (by simp))
  | bl j=>cases ry; exact ne_bool (b5 I q (congrArg not tO))
  | str j=>obtain ⟨t',rfl⟩:=ry; exact PySem.EqMixed.ne_bool_str (b5 I q (by simp))
  | _=>exact absurd (show false=true from hs) Bool.false_ne_true
 | int i =>
  obtain ⟨t,rfl⟩:=rx
  cases y with
  | non=>cases ry; exact PySem.EqNone.ne_int_none (b5 I q (by simp))
  | int j=>obtain ⟨t',rfl⟩:=ry; exact ne_int (b5 I q (congrArg not kB))
  | str j=>obtain ⟨t',rfl⟩:=ry; exact PySem.EqMixed.ne_int_str (b5 I q (by simp))
  | _=>exact absurd (show false=true from hs) Bool.false_ne_true
 | str i =>
  obtain ⟨t,rfl⟩:=rx
  cases y with
  | non=>cases ry; exact PySem.EqNone.ne_str_none (b5 I q (by simp))
  | bl j=>cases ry; exact PySem.EqMixed.ne_str_bool (b5 I q (by simp))
  | int j=>obtain ⟨t',rfl⟩:=ry; exact PySem.EqMixed.ne_str_int (b5 I q (by simp))
  | str j=>obtain ⟨t',rfl⟩:=ry; exact ne_str (b5 I q (congrArg not p8))
  | _=>exact absurd (show false=true from hs) Bool.false_ne_true
 | byt i =>
  obtain ⟨t,rfl⟩:=rx
  cases y with
  | byt j=>obtain ⟨t',rfl⟩:=ry; exact PySem.W.ne_bytes (b5 I q (congrArg not Bx))
  | _=>exact absurd (show false=true from hs) Bool.false_ne_true
 | _=>cases y <;> exact absurd (show false=true from hs) Bool.false_ne_true
theorem An:OpR X (compareOp .Lt) (rI0 fun i j=>.bl (decide (i < j))):=jb fun _ _ _ _ _ _ _ q=>lt_int q
theorem BY:OpR X (compareOp .LtE) (rI0 fun i j=>.bl (decide (i<=j))):=jb fun _ _ _ _ _ _ _ q=>le_int q
theorem yY:OpR X (compareOp .Gt) (rI0 fun i j=>.bl (decide (j < i))):=jb fun _ _ _ _ _ _ _ q=>gt_int q
theorem DP:OpR X (compareOp .GtE) (rI0 fun i j=>.bl (decide (j<=i))):=jb fun _ _ _ _ _ _ _ q=>ge_int q
theorem EL {op:CmpOp} {r:R2} (ho:OpR X (compareOp op) r) (ha:PE X a ta) (hb:PE X b tb) (hm:behindInMarks op b=false):PE X (.Compare a [op] [b] pos) (tOp r ta tb):=by
 intro pins s σ H Q I h
 exact wpAny_Compare1 (k7 ha hb I h fun v u s2 x y H2 I2 rx ry q=>ho pins s2 σ H2 x y v u Q I2 rx ry q) hm
noncomputable def p9 (t:TE):TT:=fun σ H Q=>t σ H fun x H'=>∃ k,x=.bl k/\Q k H'
theorem wC {op:CmpOp} {r:R2} (ho:OpR X (compareOp op) r) (ha:PE X a ta) (hb:PE X b tb) (hm:behindInMarks op b=false):PT X (.Compare a [op] [b] pos) (p9 (tOp r ta tb)):=by
 intro pins s σ H Q I h
 refine wpAny_isTrue_Compare1 (thn (ha pins s σ H _ I h) fun v s1 ⟨x,H1,I1,r1,q1⟩=>thn (hb pins s1 σ H1 _ I1 q1) fun u s2 ⟨y,H2,I2,r2,q2⟩ =>
  thn (ho pins s2 σ H2 x y v u _ I2 r1 r2 q2) fun c s3 ⟨z,H3,I3,r3,k,e,q3⟩=>?_) hm
 subst e
 cases r3
 exact wpAny_truthy_bool ⟨H3,I3,q3⟩
noncomputable def rZ (r r':R2) (ta tb tc:TE):TE:=fun σ H Q=>ta σ H fun x H1=>tb σ H1 fun y H2=>r x y H2 fun z H3=>∃ k,z=.bl k /\
 (if k=true then tc σ H3 fun w' H4=>r' y w' H4 Q else Q (.bl false) H3)
theorem AV {op op':CmpOp} {r r':R2} (ho:OpR X (compareOp op) r) (ho':OpR X (compareOp op') r') (ha:PE X a ta) (hb:PE X b tb) (hc:PE X c tc)
  (hm:lastMarks [op,op'] [b,c]=false:=by with_unfolding_all rfl):PE X (.Compare a [op,op'] [b,c] pos) (rZ r r' ta tb tc):=by
 intro pins s σ H Q I h
 refine Compare_chain (thn (ha pins s σ H _ I h) fun v s1 ⟨x,H1,I1,r1,q1⟩=>chain_link (thn (hb pins s1 σ H1 _ I1 q1) fun u s2 ⟨y,H2,I2,r2,q2⟩ =>
  thn (ho pins s2 σ H2 x y v u _ I2 r1 r2 q2) fun d s3 ⟨z,H3,I3,r3,k,e,q3⟩=>?_)) hm
 subst e
 cases r3
 refine wpAny_truthy_bool ?_
 cases k with
 | false=>exact ite_ff ⟨.bl false,H3,I3,rfl,q3⟩
 | true=>exact ite_tt (chain_last (thn (hc pins s3 σ H3 _ I3 q3) fun w' s4 ⟨z',H4,I4,r4,q4⟩=>ho' pins s4 σ H4 y z' u w' Q I4 r2 r4 q4))
theorem Ff {op op':CmpOp} {r r':R2} (ho:OpR X (compareOp op) r) (ho':OpR X (compareOp op') r') (ha:PE X a ta) (hb:PE X b tb) (hc:PE X c tc)
  (hm:lastMarks [op,op'] [b,c]=false:=by with_unfolding_all rfl):PT X (.Compare a [op,op'] [b,c] pos) (p9 (rZ r r' ta tb tc)):=by
 intro pins s σ H Q I h
 refine isTrue_chain (thn (ha pins s σ H _ I h) fun v s1 ⟨x,H1,I1,r1,q1⟩=>test_link (thn (hb pins s1 σ H1 _ I1 q1) fun u s2 ⟨y,H2,I2,r2,q2⟩ =>
  thn (ho pins s2 σ H2 x y v u _ I2 r1 r2 q2) fun d s3 ⟨z,H3,I3,r3,k,e,q3⟩=>?_)) hm
 subst e
 cases r3
 refine wpAny_truthy_bool ?_
 cases k with
 | false =>
  obtain ⟨k',e',q'⟩:=q3
  cases e'
  exact ite_ff ⟨H3,I3,q'⟩
 | true =>
  refine ite_tt (test_last (thn (hc pins s3 σ H3 _ I3 q3) fun w' s4 ⟨z',H4,I4,r4,q4⟩=>thn (ho' pins s4 σ H4 y z' u w' _ I4 r2 r4 q4) fun d' s5 ⟨z2,H5,I5,r5,k2,e2,q5⟩=>?_))
  subst e2
  cases r5
  exact wpAny_truthy_bool ⟨H5,I5,q5⟩
noncomputable def A4 (K:PySem.W.Frag) (x:V) (H:Hp) (k:Bool):Prop :=
 match x with
 | .non=>k=false
 | .bl b=>k=b
 | .int i=>k=(i != 0)
 | .str y=>y.length<=sizeLine/\k=((y.length:Int) != 0)
 | .byt y=>y.size<=sizeLine/\k=((y.size:Int) != 0)
 | .ref p=>(∃ xs,SqL K H p xs/\k=!xs.isEmpty)\/(∃ xs,SqT K H p xs/\k=!xs.isEmpty)\/∃ kvs,H p=some (.dK kvs)/\k=!kvs.isEmpty
 | _=>False
theorem Ba {κ:Type} {kvs:List (κ × V)} {vs:List (κ × Value)} (r:KV kvs vs):(!vs.isEmpty)=!kvs.isEmpty:=by
 cases r <;> rfl
theorem o5 {xs:List V} {its:List Value} (r:Vals xs its):(!its.toArray.isEmpty)=!xs.isEmpty:=by
 cases r <;> simp
theorem gK:(sizeLine:Nat) < 2 ^ 63:=by rw [sizeLine_eq]; decide
theorem wU:nQ X (fun x H Q=>∃ k,A4 X.K x H k/\Q k H):=by
 intro pins s σ H x v Q I rx h
 obtain ⟨k,e,q⟩:=h
 have hl:=gK
 have hs:sizeLine=16777216:=sizeLine_eq
 cases x with
 | non =>
  cases rx
  have e':k=false:=e
  subst e'
  exact truthy_none ⟨H,I,q⟩
 | bl b =>
  cases rx
  have e':k=b:=e
  subst e'
  exact wpAny_truthy_bool ⟨H,I,q⟩
 | int i =>
  obtain ⟨t,rfl⟩:=rx
  have e':k=(i != 0):=e
  subst e'
  exact PySem.P.truthy_int ⟨H,I,q⟩
 | str y =>
  obtain ⟨t,rfl⟩:=rx
  obtain ⟨hy,e'⟩:y.length<=sizeLine/\k=((y.length:Int) != 0):=e
  subst e'
  exact PySem.P.truthy_str (by omega) ⟨H,I.tok _,q⟩
 | byt y =>
  obtain ⟨t,rfl⟩:=rx
  obtain ⟨hy,e'⟩:y.size<=sizeLine/\k=((y.size:Int) != 0):=e
  subst e'
  exact PySem.W.truthy_bytes (by omega) ⟨H,I.tok _,q⟩
 | ref p =>
  cases rx
  have e':(∃ xs,SqL X.K H p xs/\k=!xs.isEmpty)\/(∃ xs,SqT X.K H p xs/\k=!xs.isEmpty)\/∃ kvs,H p=some (.dK kvs)/\k=!kvs.isEmpty:=e
  rcases e' with ⟨xs,hx,e'⟩|⟨xs,hx,e'⟩|⟨kvs,hx,e'⟩
  ·subst e'
   obtain ⟨its,r,pl,hz⟩:=I.list hx
   have hlen:=r.length
   exact wpAny_truthy_list pl.isList (by simp only [List.size_toArray]; omega) ⟨H,I.tok _,by rw [o5 r]; exact q⟩
  ·subst e'
   obtain ⟨its,r,pl,hz⟩:=I.tuple hx
   have hlen:=r.length
   exact truthy_tuple pl (by simp only [List.size_toArray]; omega) ⟨H,I.tok _,by rw [o5 r]; exact q⟩
  ·subst e'
   obtain ⟨hz,hS,vs,r,m⟩:kvs.length<=sizeLine/\(p==sysModules)=false/\∃ vs,KV kvs vs/\s.heap.DictOf (kN X.prog X.w) p vs:=I.hok p _ hx
   have hlen:kvs.length=vs.length:=Paired.length r
   exact wpAny_truthy_dict hS m (by omega) ⟨H,I.tok _,by rw [Ba r]; exact q⟩
 | _=>exact (show False from e).elim
theorem uS:OpR X (binaryOp .Add) (fun x y H Q=>∃ i j,x=.str i/\y=.str j/\i.length+j.length<=sizeLine/\Q (.str (i++j)) H):=by
 intro pins s σ H x y v u Q I rx ry h
 obtain ⟨i,j,rfl,rfl,hz,q⟩:=h
 obtain ⟨t,rfl⟩:=rx
 obtain ⟨t',rfl⟩:=ry
 exact add_str (fun t' tk=>⟨.str (i++j),H,I.tok _,⟨_,rfl⟩,q⟩) hz
theorem vals1 {x:V} {us:List Value} (r:Vals [x] us):∃ u,us=[u]/\RelV x u:=by
 cases r with
 | cons r1 r2=>cases r2; exact ⟨_,rfl,r1⟩
theorem vals2 {x y:V} {us:List Value} (r:Vals [x,y] us):∃ u w',us=[u,w']/\RelV x u/\RelV y w':=by
 cases r with
 | cons r1 r2 =>
  cases r2 with
  | cons r3 r4=>cases r4; exact ⟨_,_,rfl,r1,r3⟩
theorem wI (hc:X.calm=true):bI X (.builtin "max") (fun xs H Q=>∃ i j,xs=[.int i,.int j]/\Q (.int (if j > i then j else i)) H):=by
 intro pins s σ H xs us Q I r h
 obtain ⟨i,j,rfl,q⟩:=h
 obtain ⟨u,w',rfl,⟨t,rfl⟩,⟨t',rfl⟩⟩:=vals2 r
 refine max_two_ints (I.ok.hd hc) fun h' tk k=>⟨_,H,I.kept k,?_,q⟩
 by_cases hj:j > i
 ·rw [if_pos hj,if_pos hj]; exact ⟨_,rfl⟩
 ·rw [if_neg hj,if_neg hj]; exact ⟨_,rfl⟩
theorem AW (hc:X.calm=true):bI X (.builtin "min") (fun xs H Q=>∃ i j,xs=[.int i,.int j]/\Q (.int (if j < i then j else i)) H):=by
 intro pins s σ H xs us Q I r h
 obtain ⟨i,j,rfl,q⟩:=h
 obtain ⟨u,w',rfl,⟨t,rfl⟩,⟨t',rfl⟩⟩:=vals2 r
 refine min_two_ints (I.ok.hd hc) fun h' tk k=>⟨_,H,I.kept k,?_,q⟩
 by_cases hj:j < i
 ·rw [if_pos hj,if_pos hj]; exact ⟨_,rfl⟩
 ·rw [if_neg hj,if_neg hj]; exact ⟨_,rfl⟩
end
end L2
namespace L2
open PySem PySem.Spec PyProof.Rows
structure FY (h:Heap) (x dx C:Addr) (mA:Str->Option Value):Prop where
 obj:h.get? x=some (PySem.W.instObj C dx)
 ns:h.Ns1 dx mA
 ne:dx≠x
section
variable {prog:Program} {w:World} {A:Around} {E:Value->Shared->Prop} {s:Shared} {K:PySem.W.Frag} {x dx C f:Addr} {mA:Str->Option Value} {name:Str} {v:Value}
end
section
variable {P:Program} {w:World} {H H':Hp} {h h':Heap} {a C dx:Addr} {fs fs':List (Str × V)}
end
structure Cls (K:PySem.W.Frag) (C:Addr):Prop where
 pg:PySem.W.plainGet K C Str.empty=true
 hd:PySem.W.hasDictIn K C=true
 po:PySem.W.plainOver K C=true
 sa:PySem.W.findIn K (.ref C) "__setattr__" = some (some (.builtin "object.__setattr__"))
structure Con (K:PySem.W.Frag) (C:Addr) (f:Str) (v:V) (u:Value):Prop where
 at_:PySem.W.findIn K (.ref C) f=some (some u)
 rel:RelV v u
 get:PySem.W.specialIn K u "__get__" = some none
 cp:PySem.W.copiedNames.contains f=false
section
variable {X:Cx} {pins:List (Addr × Obj)} {σ:St} {H:Hp} {s:Shared} {a C dx:Addr} {fs:List (Str × V)} {f:Str} {v:V} {A:Around} {E:Value->Shared->Prop}
end
section
variable {X:Cx} {o e value:Expr} {f:Str} {pos pos' tpos:Pos} {ta tv:TE}
end
section
variable {X:Cx} {pins:List (Addr × Obj)} {σ:St} {H:Hp} {s:Shared} {A:Around} {E:Value->Shared->Prop} {Q:Value->Shared->Prop} {c:Value} {b:Bool}
inductive cX (K:PySem.W.Frag) (H:Hp):V->Value->Prop where
 | non:cX K H .non (.type "NoneType")
 | bl (x:Bool):cX K H (.bl x) (.type "bool")
 | int (i:Int):cX K H (.int i) (.type "int")
 | str (x:Str):cX K H (.str x) (.type "str")
 | flt (x:UInt64):cX K H (.flt x) (.type "float")
 | lst {a:Addr} {xs:List V} (e:H a=some (.lst xs)):cX K H (.ref a) (.type "list")
 | frz {a:Addr} {o:Obj} {xs:List V} (e:H a=some (.frz o (.lst xs))):cX K H (.ref a) (.type "list")
 | tup {a:Addr} {xs:List V} (e:H a=some (.tup xs)):cX K H (.ref a) (.type "tuple")
 | dK {a:Addr} {kvs:List (Key × V)} (e:H a=some (.dK kvs)):cX K H (.ref a) (.type "dict")
 | dT {a:Addr} {kvs:List (List Key × V)} (e:H a=some (.dT kvs)):cX K H (.ref a) (.type "dict")
 | ins {a C dx:Addr} {fs:List (Str × V)} (e:H a=some (.ins C dx fs)) (cl:Cls K C) (ha:PySem.W.findIn K (.ref C) "__class__" = some (some (.builtin "object.__class__")))
   (hn:PySem.W.specialIn K (.builtin "object.__class__") "__get__" = some (some (.builtin "getset_descriptor.__get__"))) (htk:PySem.W.takesIn K (.builtin "object.__class__")=some true)
   (hm:PySem.W.mroIn K C (.type "object")=some true):cX K H (.ref a) (.ref C)
end
end L2
namespace L2
open PySem PySem.Spec PyProof.Rows
structure bu (k:Nat) (A:Around):Prop where
 hd:A.handled=none
 dp:A.depth+3 * k+5 < recursionLimit
 un:A.units+16 * k+200 < cLine
theorem bu.deeper {k:Nat} {A:Around} (r:bu (k+1) A) (env:Env):bu k (A.deeper env) :=
 ⟨r.hd,by have:=r.dp; show A.depth+1+3 * k+5 < _; omega,by have:=r.un; show A.units+3+16 * k+200 < _; omega⟩
theorem bu.depth {k:Nat} {A:Around} (r:bu k A):A.depth < recursionLimit:=by have:=r.dp; omega
theorem bu.units {k:Nat} {A:Around} (r:bu k A):A.units+64 < cLine:=by have:=r.un; omega
noncomputable def nY:TA:=fun _ H Q=>Q [] H
noncomputable def zk (ta:TE) (tr:TA):TA:=fun σ H Q=>ta σ H fun x H1=>tr σ H1 fun xs H2=>Q (x::xs) H2
section
variable {X:Cx} {e:Expr} {es:List Expr} {te:TE} {t:TA} {pos:Pos}
theorem gY:PA X [] nY:=fun _ _ _ _ H Q I h=>Calls.spliced_nil ⟨[],H,I,.nil,h⟩
theorem fR (ha:PE X e te) (hr:PA X es t) (hs:starEach (e::es) X.env=(false,eval e X.env)::starEach es X.env:=by rfl):PA X (e::es) (zk te t):=by
 intro pos pins s σ H Q I h
 rw [hs]
 show wpAny _ _ (spliced ((false,eval e X.env)::backTo pos (starEach es X.env))) _ _ s
 refine Calls.spliced_cons (thn (ha pins s σ H _ I h) fun u s1 ⟨x,H1,I1,r1,q1⟩=>?_)
 exact thn (hr pos pins s1 σ H1 _ I1 q1) fun us s2 ⟨xs,H2,I2,r2,q2⟩=>⟨x::xs,H2,I2,.cons r1 r2,q2⟩
noncomputable def D_ (t:TA):TE:=fun σ H Q=>t σ H fun xs H1=>xs.length<=sizeLine/\∀ p,H1 p=none->Q (.ref p) (upd H1 p (.tup xs))
noncomputable def xr (t:TA):TE:=fun σ H Q=>t σ H fun xs H1=>xs.length<=sizeLine/\∀ p,H1 p=none->Q (.ref p) (upd H1 p (.lst xs))
theorem B6 {x1} (h:PA X es t):PE X (.Tuple es x1 pos) (D_ t):=by
 intro pins s σ H Q I hq
 refine wpAny_Tuple_spliced (thn (h pos pins s σ H _ I hq) fun us s1 ⟨xs,H1,I1,r,z,q⟩=>⟨by rw [<- r.length]; exact z,?_⟩)
 have hf:H1 s1.heap.objs.size=none:=I1.hok.fresh (Nat.le_refl _)
 refine ⟨.ref s1.heap.objs.size,upd H1 s1.heap.objs.size (.tup xs),I1.laid (t':=s1.toks) (fun b u e=>Heap.get?_push_of_some _ e) (Nat.le_refl _) ?_,rfl,q _ hf⟩
 exact ⟨z,us,r,⟨_,Heap.get?_push_size _ rfl,rfl,_,rfl⟩⟩
theorem u5 (h:PA X es t):PE X (.List es pos) (xr t):=by
 intro pins s σ H Q I hq
 refine wpAny_List_spliced (thn (h pos pins s σ H _ I hq) fun us s1 ⟨xs,H1,I1,r,z,q⟩=>⟨by rw [<- r.length]; exact z,?_⟩)
 have hf:H1 s1.heap.objs.size=none:=I1.hok.fresh (Nat.le_refl _)
 refine ⟨.ref s1.heap.objs.size,upd H1 s1.heap.objs.size (.lst xs),I1.laid (t':=s1.toks) (fun b u e=>Heap.get?_push_of_some _ e) (Nat.le_refl _) ?_,rfl,q _ hf⟩
 exact ⟨z,us,0,r,Heap.get?_push_size _ rfl⟩
end
abbrev Sp:=List V->Hp->VK->XK->Prop
abbrev CXT:=List Env->Hp->Shared->XK->Value->Shared->Prop
structure ja (P:Program) (w:World) (K:PySem.W.Frag) (mg:Str->Option Value) (base:Heap) (A:Around) (outer:List Env) (s:Shared) (H:Hp):Prop where
 frames:A.frames=some outer
 mod:Mod K mg base
 bs:∀ b o,base.get? b=some o->s.heap.get? b=some o/\H b=none
 bsz:base.objs.size<=s.heap.objs.size
 cR:s.heap.FunFrames base outer
 frf:∀ b∈frs outer,H b=none
 hok:HOk P w H s.heap
 bare:AllBare s.gens
noncomputable def CE (outer:List Env) (P:Program) (w:World) (H:Hp) (s:Shared) (Q:VK) (u:Value) (s':Shared):Prop :=
 ∃ v H',s'.os=s.os/\AllBare s'.gens/\Un (frs outer) [] H H' s.heap s'.heap/\HOk P w H' s'.heap/\RelV v u/\Q v H'
noncomputable def CR (CX:CXT) (outer:List Env) (P:Program) (w:World) (H:Hp) (s:Shared) (Q:VK) (E:XK) (r:Result) (s':Shared):Prop :=
 match r with
 | .ok (.ret u)=>CE outer P w H s Q u s'
 | .ok _=>False
 | .error e=>CX outer H s E e s'
structure cD (P:Program) (w:World) (K:PySem.W.Frag) (mg:Str->Option Value) (base:Heap) (CX:CXT) (k:Nat) (f:Addr) (fd:FuncData) (ps:List Str) (sp:Sp):Prop where
 len:∀ vs H Q E,sp vs H Q E->vs.length=ps.length
 run:∀ (A:Around) (outer:List Env) (s:Shared) (H:Hp) (args:Args) (us:List Value) (vs:List V) (Q:VK) (E:XK),bu k A->ja P w K mg base A outer s H->BindsTo s fd args (ps.zip us)->Vals vs us->sp vs H Q E ->
  codeAny (model P w) A (.call (.ref f) args) (CR CX outer P w H s Q E) s
section
variable {X:Cx} {pins:List (Addr × Obj)} {σ:St} {H:Hp} {s s':Shared}
theorem Inv.sQ (I:Inv X pins σ H s):ja X.prog X.w X.K X.mg X.base X.A X.stack s H :=
 ⟨I.ok.frames,I.ok.mod,I.bs,Nat.le_trans I.ok.bsz I.sz,I.stack,I.k6,I.hok,I.bare⟩
theorem Inv.after {Q:VK} {u:Value} (I:Inv X pins σ H s) (h:CE X.stack X.prog X.w H s Q u s'):EP X pins σ Q u s':=by
 obtain ⟨v,H',os,bare,un,hok,r,q⟩:=h
 obtain ⟨hh,g,d,t,os'⟩:=s'
 obtain rfl:os'=s.os:=os
 exact ⟨v,H',I.call (h':=hh) (g':=g) (d':=d) (t':=t) (ch:=[]) un hok bare (fun b z=>absurd z (by simp)),r,q⟩
end
noncomputable def mz (sp:Sp) (dvs:List V) (E:XK) (t:TA):TE:=fun σ H Q=>t σ H fun vs H1=>sp (vs++dvs) H1 Q E
noncomputable def Binds (K:PySem.W.Frag) (fd:FuncData) (ps:List Str) (ds:List Value):Prop :=
 ∀ (s:Shared) (us:List Value),K.In s.heap->(us++ds).length=ps.length->BindsTo s fd ⟨us,[]⟩ (ps.zip (us++ds))
theorem Binds.all {K:PySem.W.Frag} {fd:FuncData} {ps:List Str} (h:∀ us:List Value,us.length=ps.length->bindArgs fd ⟨us,[]⟩=pure (ps.zip us)):Binds K fd ps []:=fun s us _ hl=>by
 rw [List.append_nil] at hl ⊢
 exact .of_eq (h us hl)
noncomputable def Passes (CX:CXT) (X:Cx) (E:XK):Prop:=∀ (pins:List (Addr × Obj)) (σ:St) (H:Hp) (s:Shared) (e:Value) (s':Shared),Inv X pins σ H s->CX X.stack H s E e s'->X.xe e s'
section
variable {X:Cx} {CX:CXT} {k:Nat} {f C:Addr} {fd:FuncData} {ps:List Str} {sp:Sp} {dvs:List V} {ds:List Value} {E:XK} {x m:Str} {p pos apos:Pos} {e o:Expr} {es:List Expr} {ta:TE} {t:TA}
theorem pL {pins:List (Addr × Obj)} {σ:St} {H:Hp} {s:Shared} {Q:VK} {us:List Value} {vs:List V} (F:cD X.prog X.w X.K X.mg X.base CX k f fd ps sp) (hr:bu k X.A) (hb:Binds X.K fd ps ds) (hd:Vals dvs ds) (hx:Passes CX X E)
  (I:Inv X pins σ H s) (r:Vals vs us) (h:sp (vs++dvs) H Q E):wpAny (model X.prog X.w) X.A (call (.ref f) us) (EP X pins σ Q) X.xe s:=by
 have r2:Vals (vs++dvs) (us++ds):=r.append hd
 have hl:(us++ds).length=ps.length:=by rw [<- r2.length]; exact F.len _ _ _ _ h
 refine wpAny_call (codeAny_mono (F.run X.A X.stack s H ⟨us,[]⟩ (us++ds) (vs++dvs) Q E hr I.sQ (hb s us I.kIn hl) r2 h) fun r s' hq=>?_)
 cases r with
 | error e=>exact hx pins σ H s e s' I hq
 | ok fl =>
  cases fl with
  | ret u=>exact I.after hq
  | next=>exact False.elim hq
  | brk=>exact False.elim hq
  | cont=>exact False.elim hq
theorem EH (F:cD X.prog X.w X.K X.mg X.base CX k f fd ps sp) (hr:bu k X.A) (hg:Gl X x) (hm:X.mg x=some (.ref f)) (hk:PySem.W.keepIn X.K (.ref f)=true) (hb:Binds X.K fd ps ds) (hd:Vals dvs ds) (hx:Passes CX X E)
  (ha:PA X (e::es) t) (hdb:(x==("__debug__" : Str))=false:=by decide) (he:starEach (e::es) X.env=(false,eval e X.env)::starEach es X.env:=by rfl) (hpl:(backTo pos (starEach es X.env)).any (·.1)=false:=by rfl) :
  PE X (.Call (.Name x p) (e::es) [] pos) (mz sp dvs E t):=by
 intro pins s σ H Q I h
 refine wpAny_Call_Name_kw (fG I hg hm ?_ hdb)
 refine PySem.W.callWith_K (h₀:=X.base) I.ok.mod.kin hk (thn (ha pos pins s σ H _ I h) fun us s1 ⟨vs,H1,I1,r,q⟩=>⟨I1.kIn,?_⟩) he hpl
 exact pL F hr hb hd hx I1 r q
theorem CC (F:cD X.prog X.w X.K X.mg X.base CX k f fd ps sp) (hr:bu k X.A) (hg:Gl X x) (hm:X.mg x=some (.ref f)) (hk:PySem.W.keepIn X.K (.ref f)=true) (hb:Binds X.K fd ps ds) (hd:Vals dvs ds) (hx:Passes CX X E)
  (hdb:(x==("__debug__" : Str))=false:=by decide):PE X (.Call (.Name x p) [] [] pos) (mz sp dvs E nY):=by
 intro pins s σ H Q I h
 refine wpAny_Call_Name_kw (fG I hg hm ?_ hdb)
 exact PySem.W.callWith_K0 I.kIn hk (pL (us:=[]) F hr hb hd hx I .nil h)
structure Mk (K:PySem.W.Frag) (C f:Addr):Prop where
 makes:PySem.W.makesIn K C=true
 init:PySem.W.findIn K (.ref C) "__init__" = some (some (.ref f))
 fn:PySem.W.isFn K (.ref f)=true
 kp:PySem.W.keepIn K (.ref C)=true
end
section
variable {X:Cx} {CX:CXT} {k:Nat} {f C:Addr} {fd:FuncData} {ps ks:List Str} {sp:Sp} {E:XK} {x m:Str} {p pos apos kpos:Pos} {e o:Expr} {es:List Expr} {kws:List Keyword} {te ta:TE} {t tk:TA} {nm:Option Str}
structure FQ (K:PySem.W.Frag) (fd:FuncData) (ps ks:List Str) (g:List Value->List Value->List Value) (gV:List V->List V->List V):Prop where
 to:∀ (s:Shared) (us ws:List Value),K.In s.heap->(g us ws).length=ps.length->BindsTo s fd ⟨us,ks.zip ws⟩ (ps.zip (g us ws))
 rel:∀ {vs:List V} {us:List Value} {zs:List V} {ws:List Value},Vals vs us->Vals zs ws->Vals (gV vs zs) (g us ws)
variable {g:List Value->List Value->List Value} {gV:List V->List V->List V}
end
structure lU (N P:List Str) (sc:Scope):Prop where
 kind:sc.kind=.function
 co:sc.isCoroutine=false
 gen:sc.isGenerator=false
 nd:N.Nodup
 pre:N.take P.length=P
 par:∀ x∈P,sc.names.lookup x=some .local\/sc.names.lookup x=some .cell
 nofree:∀ y∈sc.names,y.2≠.free
theorem rT {kindOf:Str->Option NameKind} {x:Str}:∀ {binds:List (Str × Value)} {m:Str->Option Value},(∀ v,(x,v) ∉ binds)->bindL kindOf binds m x=m x
 | [],_,_=>rfl
 | (n,v)::r,m,h=>by
  unfold bindL
  rw [rT fun w hw=>h w (List.mem_cons_of_mem _ hw)]
  split
  ·have:x≠n:=by rintro rfl; exact h v List.mem_cons_self
   simp [this]
  ·rfl
theorem sU {kindOf:Str->Option NameKind} {x:Str}:∀ {binds:List (Str × Value)} {m:Str->Option Value},(∀ v,(x,v) ∉ binds)->bindC kindOf binds m x=m x
 | [],_,_=>rfl
 | (n,v)::r,m,h=>by
  unfold bindC
  rw [sU fun w hw=>h w (List.mem_cons_of_mem _ hw)]
  split
  ·rfl
  ·have:x≠n:=by rintro rfl; exact h v List.mem_cons_self
   simp [this]
theorem pB {kindOf:Str->Option NameKind} {x:Str} {v:Value}:∀ {P:List Str} {vs:List Value} {i:Nat} {m:Str->Option Value},P.Nodup->P[i]?=some x->vs[i]?=some v->kindOf x=some .local ->
  bindL kindOf (P.zip vs) m x=some v
 | [],_,_,_,_,h,_,_=>by simp at h
 | _::_,[],_,_,_,_,h,_=>by simp at h
 | p::P,w::vs,0,m,nd,h1,h2,hk=>by
  simp at h1 h2; subst h1; subst h2
  show bindL kindOf ((p,w)::P.zip vs) m p=_
  unfold bindL
  rw [rT fun v hv=>(List.nodup_cons.mp nd).1 (List.of_mem_zip hv).1,if_pos hk]
  simp
 | p::P,w::vs,i+1,m,nd,h1,h2,hk=>by
  show bindL kindOf ((p,w)::P.zip vs) m x=_
  unfold bindL
  exact pB (i:=i) (List.nodup_cons.mp nd).2 (by simpa using h1) (by simpa using h2) hk
theorem oR {kindOf:Str->Option NameKind} {x:Str} {v:Value}:∀ {P:List Str} {vs:List Value} {i:Nat} {m:Str->Option Value},P.Nodup->P[i]?=some x->vs[i]?=some v->kindOf x≠some .local ->
  bindC kindOf (P.zip vs) m x=some v
 | [],_,_,_,_,h,_,_=>by simp at h
 | _::_,[],_,_,_,_,h,_=>by simp at h
 | p::P,w::vs,0,m,nd,h1,h2,hk=>by
  simp at h1 h2; subst h1; subst h2
  show bindC kindOf ((p,w)::P.zip vs) m p=_
  unfold bindC
  rw [sU fun v hv=>(List.nodup_cons.mp nd).1 (List.of_mem_zip hv).1,if_neg hk]
  simp
 | p::P,w::vs,i+1,m,nd,h1,h2,hk=>by
  show bindC kindOf ((p,w)::P.zip vs) m x=_
  unfold bindC
  exact oR (i:=i) (List.nodup_cons.mp nd).2 (by simpa using h1) (by simpa using h2) hk
noncomputable def start (N:List Str) (vs:List V):St:=vs.map some++List.replicate (N.length - vs.length) none
noncomputable def cH (CX:CXT) (P:Program) (w:World) (K:PySem.W.Frag) (mg:Str->Option Value) (base:Heap) (N:List Str) (qual:Str) (scope:Scope) (f:Addr) (cd:Value) (A:Around) (outer:List Env) (s:Shared) (H:Hp) (E:XK):Cx where
 prog:=P
 w:=w
 K:=K
 mg:=mg
 base:=base
 A:=A.deeper (envOfC qual scope s.heap.objs.size f cd)
 N:=N
 s₀:=s
 H₀:=H
 env:=envOfC qual scope s.heap.objs.size f cd
 outer:=outer
 stack:=envOfC qual scope s.heap.objs.size f cd::outer
 ex:=[]
 calm:=true
 fn:=fun _=>true
 pn:=[]
 xe:=fun e s'=>wpAny (model P w) (A.deeper (envOfC qual scope s.heap.objs.size f cd)) (leaving (envOfC qual scope s.heap.objs.size f cd) e) (fun _ s''=>CX outer H s E e s'') (fun e' s''=>CX outer H s E e' s'') s'
theorem l7 {sc:Scope} {n:Nat} {x:Str} (h:sc.names.lookup x=some .cell):∃ c,(cellsFrom n sc.names []).lookup x=some c:=by
 have q:=PySem.W.cellsFrom_some sc.names n [] (.inl h)
 exact Option.isSome_iff_exists.mp q
theorem B8 {CX:CXT} {P:Program} {w:World} {K:PySem.W.Frag} {mg:Str->Option Value} {base:Heap} {N ps:List Str} {qual:Str} {scope:Scope} {f:Addr} {cd:Value} {A:Around} {outer:List Env} {s s1:Shared} {H:Hp} {E:XK} {us:List Value} {vs:List V}
  (S:lU N ps scope) (hd:A.handled=none) (e0:ja P w K mg base A outer s H) (hl:vs.length=ps.length) (r:Vals vs us)
  (x:InCallC s s.heap.objs.size (bindL (envOfC qual scope s.heap.objs.size f cd).kindOf (ps.zip us) fun _=>none) (cellsFrom (s.heap.objs.size+1) scope.names []) (bindC (envOfC qual scope s.heap.objs.size f cd).kindOf (ps.zip us) fun _=>none) s1) :
  Inv (cH CX P w K mg base N qual scope f cd A outer s H E) [] (start N vs) H s1:=by
 have hpl:ps.length<=N.length:=by have:=congrArg List.length S.pre; rw [List.length_take] at this; omega
 obtain ⟨h1,tk,rfl,hk⟩:=x.done
 have noA:∀ b:Addr,b ∉ (cH CX P w K mg base N qual scope f cd A outer s H E).ex:=fun b z=>absurd (show b∈([]:List Addr) from z) (by simp)
 refine ⟨⟨e0.mod,S.kind,rfl,rfl,Nat.le_refl _,fun y z c h1 h2=>?_,fun y hy=>?_,fun y c _ h=>?_,fun _=>hd,Around.frames_deeper e0.frames,.inr ⟨rfl,rfl⟩,fun b z=>absurd z (noA b),e0.bs,e0.bsz,fun b _ _=>noA b,fun b z=>absurd z (noA b),e0.cR,e0.frf⟩,
  rfl,e0.bare,Un.kept hk,⟨_,x.toInCall.ns,fun i y v h1 h2 h3=>?_⟩,fun y c h=>⟨_,x.cell y c h⟩,e0.hok.fresh (Nat.le_refl _),fun y c h=>?_,fun p hp=>absurd (show p∈([]:List (Addr × Obj)) from hp) (by simp),e0.hok.kept hk,?_⟩
 ·exact name_of_addr x.apart (PySem.mem_of_lookup h1) (PySem.mem_of_lookup h2)
 ·have hy:scope.names.lookup y=some .cell\/scope.names.lookup y=some .free:=hy
  rcases hy with hy|hy
  ·exact l7 hy
  ·exact absurd rfl (S.nofree _ (PySem.mem_of_lookup hy))
 ·exact Nat.le_of_lt (x.above y c (PySem.mem_of_lookup h))
 ·have hi:i < vs.length:=by
   unfold start at h2
   by_cases hi:i < vs.length
   ·exact hi
   ·rw [List.getElem?_append_right (by simpa using hi)] at h2
    rw [List.getElem?_replicate] at h2
    split at h2 <;> cases h2
  have ha:vs[i]?=some v:=by
   unfold start at h2
   rw [List.getElem?_append_left (by simpa using hi),List.getElem?_map] at h2
   cases e:vs[i]? with
   | none=>rw [e] at h2; cases h2
   | some a=>rw [e] at h2; cases h2; rfl
  obtain ⟨u,hu,rv⟩:=r.get ha
  have hp:ps[i]?=some y:=by
   rw [<- S.pre,List.getElem?_take_of_lt (by omega)]; exact h1
  have ndP:ps.Nodup:=by rw [<- S.pre]; exact S.nd.sublist (List.take_sublist _ _)
  refine ⟨u,rv,?_⟩
  rcases S.par y (List.mem_of_getElem? hp) with k|k
  ·exact .inl ⟨k,pB ndP hp hu k⟩
  ·obtain ⟨c,e⟩:=l7 (n:=s.heap.objs.size+1) k
   refine .inr ⟨.inl k,c,e,?_⟩
   have q:=x.cell y c e
   rw [oR ndP hp hu (by show scope.names.lookup y≠_; rw [k]; decide)] at q
   exact q
 ·exact e0.hok.fresh (Nat.le_of_lt (x.above y c (PySem.mem_of_lookup h)))
 ·unfold start
  show _=N.length
  rw [List.length_append,List.length_map,List.length_replicate]
  omega
theorem yh {CX:CXT} {P:Program} {w:World} {K:PySem.W.Frag} {mg:Str->Option Value} {base:Heap} {k:Nat} {f:Addr} {name qual:Str} {params:Arguments} {body:List Stmt} {scope:Scope} {dV kV doc pm cdv ct oc:Value} {an od:Option Addr}
  {osl:Array (Option Value)} {N ps:List Str} {sp:Sp} (lk:K.lookup f=some ⟨oc,od,.func (PySem.W.fnOf name qual params body scope dV kV doc pm an cdv ct),osl⟩) (hcd:PySem.W.codeIn K cdv qual=true) (S:lU N ps scope)
  (len:∀ vs H Q E,sp vs H Q E->vs.length=ps.length)
  (hbody:∀ (A:Around) (outer:List Env) (s:Shared) (H:Hp) (vs:List V) (Q:VK) (E:XK),bu k (A.deeper (envOfC qual scope s.heap.objs.size f cdv))->sp vs H Q E ->
   ∃ t,PSs (cH CX P w K mg base N qual scope f cdv A outer s H E) body t/\t { nx:=fun _ H'=>Q .non H',rt:=Q } (start N vs) H) :
  cD P w K mg base CX (k+1) f (PySem.W.fnOf name qual params body scope dV kV doc pm an cdv ct) ps sp:=by
 refine ⟨len,fun A outer s H args us vs Q E hr e0 hb r hsp=>?_⟩
 have hl:=len _ _ _ _ hsp
 have KX:K.In s.heap:=e0.mod.kin.keeps fun b o e=>(e0.bs b o e).1
 have lim:s.heap.NoLimit:=e0.mod.nolimit.keeps fun b o e=>(e0.bs b o e).1
 have hkind:∀ y∈ps.zip us,scope.names.lookup y.1=some .local\/(scope.names.lookup y.1=some .cell/\((cellsFrom (s.heap.objs.size+1) scope.names []).lookup y.1).isSome=true):=fun ⟨n,v⟩ hy=>by
  rcases S.par n (List.of_mem_zip hy).1 with q|q
  ·exact .inl q
  ·exact .inr ⟨q,PySem.W.cellsFrom_some _ _ _ (.inl q)⟩
 refine codeAny_call_function hr.depth (KX _ _ lk) rfl S.co S.gen rfl (PySem.W.codeRec_of KX hcd) (hb _ _ _ _ ?_)
 refine wpAny_newFunctionEnv_cells S.kind hkind fun env he s1 x=>?_
 subst he
 refine ⟨lim.keeps x.toInCall.keep,codeAny_func ?_⟩
 obtain ⟨t,ht,hq⟩:=hbody A outer s H vs Q E (hr.deeper _) hsp
 have I:Inv (cH CX P w K mg base N qual scope f cdv A outer s H E) [] (start N vs) H s1:=B8 S hr.hd e0 hl r x
 refine wpAny_mono (ht [] s1 (start N vs) H _ I hq) (fun fl s' hs=>?_) fun e s' hs=>hs
 have fin:∀ {σ':St} {H':Hp} {v:V} {u:Value},Inv (cH CX P w K mg base N qual scope f cdv A outer s H E) [] σ' H' s'->RelV v u->Q v H'->CE outer P w H s Q u s' :=
  fun {σ' H' v u} J rv q=>⟨v,H',J.os,J.bare,J.base,J.hok,rv,q⟩
 cases fl with
 | ret u =>
  obtain ⟨v,σ',H',J,rv,q⟩:=hs
  exact fin J rv q
 | next =>
  obtain ⟨σ',H',J,q⟩:=hs
  exact fin (v:=V.non) (u:=Value.none) J rfl q
 | brk =>
  obtain ⟨_,_,_,q⟩:=hs
  exact False.elim q
 | cont =>
  obtain ⟨_,_,_,q⟩:=hs
  exact False.elim q
end L2
namespace L2
open PySem PySem.Spec PyProof.Rows
section
variable {X:Cx} {x:Str} {p pos:Pos} {e:Expr} {es:List Expr} {t:TA} {id T:String} {r:List V->Hp->VK->Prop}
noncomputable def tCB (r:List V->Hp->VK->Prop) (t:TA):TE:=fun σ H Q=>t σ H fun vs H1=>r vs H1 Q
theorem rJ (hc:bI X (.builtin id) r) (hg:Gl X x) (hm:X.mg x=none) (hv:bootBuiltins x=some (.builtin id)) (ha:PA X (e::es) t) (hn:x≠"__name__":=by decide) (hdb:(x==("__debug__" : Str))=false:=by decide)
  (he:starEach (e::es) X.env=(false,eval e X.env)::starEach es X.env:=by rfl) (hpl:(backTo pos (starEach es X.env)).any (·.1)=false:=by rfl):PE X (.Call (.Name x p) (e::es) [] pos) (tCB r t):=by
 intro pins s σ H Q I h
 refine wpAny_Call_Name_kw (c5 I hg hm hv ?_ hn hdb)
 exact PyProof.Rows.callWith_builtin1 (thn (ha pos pins s σ H _ I h) fun us s1 ⟨vs,H1,I1,r1,q1⟩=>hc pins s1 σ H1 vs us Q I1 r1 q1) he hpl
theorem rR (hc:bI X (.type T) r) (hg:Gl X x) (hm:X.mg x=none) (hv:bootBuiltins x=some (.type T)) (ha:PA X (e::es) t) (hn:x≠"__name__":=by decide) (hdb:(x==("__debug__" : Str))=false:=by decide)
  (he:starEach (e::es) X.env=(false,eval e X.env)::starEach es X.env:=by rfl) (hpl:(backTo pos (starEach es X.env)).any (·.1)=false:=by rfl):PE X (.Call (.Name x p) (e::es) [] pos) (tCB r t):=by
 intro pins s σ H Q I h
 refine wpAny_Call_Name_kw (c5 I hg hm hv ?_ hn hdb)
 exact PyProof.Rows.callWith_type1 (thn (ha pos pins s σ H _ I h) fun us s1 ⟨vs,H1,I1,r1,q1⟩=>hc pins s1 σ H1 vs us Q I1 r1 q1) he hpl
end
end L2
namespace HT
open PySem PyProof.Rows
section
open PySem.SeqAt
open PySem.AutoSeq1 (wpAny_loadPart')
open PySem.MeetsSeq PySem.MeetsSeq2 PySem.MeetsSeq3
end
section
variable {prog:Program} {w:World} {A:Around} {E:Value->Shared->Prop} {s:Shared}
theorem uQ {t b:Addr} {vs ws:List Value} {Q:Value->Shared->Prop} (ht:IsTup s.heap t vs.toArray) (hb:IsTup s.heap b ws.toArray) (hv:vs≠[])
  (h1:ws=[]->Q (.ref t) s) (h2:ws≠[]->Q (.ref s.heap.objs.size) { s with heap:=s.heap.push { cls:=.type "tuple",data:=.seq (vs++ws).toArray } })
  (hsz:vs.length+ws.length<=sizeLine):wpAny (model prog w) A (binaryOp .Add (.ref t) (.ref b)) Q E s:=by
 obtain ⟨⟨cls,dd,data,sl⟩,ho,hc,n,hd⟩:=id ht
 obtain ⟨⟨cls2,dd2,data2,sl2⟩,ho2,hc2,n2,hd2⟩:=id hb
 simp only at hc hd hc2 hd2
 subst hc hd hc2 hd2
 have e:vs.toArray++ws.toArray=(vs++ws).toArray:=by simp
 by_cases hw:ws=[]
 ·exact concat_meets ⟨_,ho,rfl⟩ ⟨_,ho2,rfl⟩ noFill_tuple_add seq_tuple_add PySem.F.slot_tuple_add PySem.F.entry_tuple_add (PySem.F.args_tuple_add_2 _ _)
   (tuple_addW1 t b vs.toArray ws.toArray n n2 dd dd2 sl sl2 (by simpa using hv) (by simp [hw])) ⟨ho,ho2,h1 hw⟩
 ·refine concat_meets ⟨_,ho,rfl⟩ ⟨_,ho2,rfl⟩ noFill_tuple_add seq_tuple_add PySem.F.slot_tuple_add PySem.F.entry_tuple_add (PySem.F.args_tuple_add_2 _ _)
   (tuple_addW2 t b vs.toArray ws.toArray n n2 dd dd2 sl sl2 (by simpa using hv) (by simpa using hw) (by rw [List.size_toArray,List.size_toArray]; exact hsz)) ⟨ho,ho2,?_⟩
  rw [e]
  exact h2 hw
noncomputable def sIx (n d:Nat):Option Int->Nat
 | none=>d
 | some v=>if v < 0 then (v+(n:Int)).toNat else min v.toNat n
theorem v9 (n d:Nat) (hd:d<=n) (o:Option Int):sIx n d o<=n:=by
 cases o with
 | none=>exact hd
 | some v =>
  show (if v < 0 then (v+(n:Int)).toNat else min v.toNat n)<=n
  by_cases hv:v < 0
  ·rw [if_pos hv]; omega
  ·rw [if_neg hv]; exact Nat.min_le_right _ _
theorem oq (v:Int) (n d:Nat):(if v < 0 then max (v+(n:Int)) 0 else min v (n:Int))=((sIx n d (some v):Nat):Int):=by
 show (if v < 0 then max (v+(n:Int)) 0 else min v (n:Int))=(((if v < 0 then (v+(n:Int)).toNat else min v.toNat n):Nat):Int)
 by_cases hv:v < 0
 ·simp only [if_pos hv]; omega
 ·simp only [if_neg hv]; omega
theorem xO (lo hi:Option Int) (n:Nat):Builtin.Slice.sliceAdjust lo hi 1 (n:Int)=(((sIx n 0 lo:Nat):Int),((sIx n n hi:Nat):Int)):=by
 have h1:¬ ((1:Int) < 0):=by omega
 unfold Builtin.Slice.sliceAdjust
 simp only [h1,if_false]
 refine Prod.ext ?_ ?_
 ·cases lo with
  | none=>rfl
  | some v=>exact oq v n 0
 ·cases hi with
  | none=>rfl
  | some v=>exact oq v n n
theorem DK (i j:Nat):Builtin.Slice.slicePlaces (i:Int) (j:Int) 1=j - i:=by
 unfold Builtin.Slice.slicePlaces
 have h1:(1:Int) > 0:=by omega
 simp only [h1,if_true,Int.ediv_one]
 split <;> omega
theorem oA {v:Value} {o:Option Int} {Q:Option Int->Shared->Prop} (p:IsPart v o) (h:Q o s):wpAny (model prog w) A (Builtin.Slice.slicePartIndex v) Q E s:=by
 cases p with
 | none=>exact slicePart_none h
 | int i t=>exact slicePart_int h
theorem oB {sl:Addr} {vl vu:Value} {lo hi:Option Int} {n:Nat} {Q:Int × Int × Nat->Shared->Prop} (hs:s.heap.IsSliceOf sl vl vu .none) (pl:IsPart vl lo) (pu:IsPart vu hi)
  (h:Q (((sIx n 0 lo:Nat):Int),1,sIx n n hi - sIx n 0 lo) s):wpAny (model prog w) A (Builtin.Slice.sliceApplied (.ref sl) (pure (n:Int))) Q E s:=by
 obtain ⟨os,hos,hcs,hds⟩:=id hs
 unfold Builtin.Slice.sliceApplied Builtin.Slice.sliceFields
 refine wpAny_bind (wpAny_bind (wpAny_field hos hds (x:=vl) rfl (wpAny_bind (wpAny_field hos hds (x:=vu) rfl (wpAny_bind (wpAny_field hos hds (x:=.none) rfl (wpAny_pure ?_)))))))
 refine wpAny_bind (slicePart_none ?_)
 show wpAny _ _ (if ((1:Int)==0)=true then _ else _) _ _ s
 rw [if_neg (by decide)]
 refine wpAny_bind (oA pl (wpAny_bind (oA pu (wpAny_bind (wpAny_pure ?_)))))
 show wpAny _ _ (match Builtin.Slice.sliceAdjust lo hi 1 (n:Int) with|(lo,hi)=>pure (lo,(1:Int),Builtin.Slice.slicePlaces lo hi 1)) _ _ s
 rw [xO lo hi n]
 show wpAny _ _ (pure (((sIx n 0 lo:Nat):Int),(1:Int),Builtin.Slice.slicePlaces ((sIx n 0 lo:Nat):Int) ((sIx n n hi:Nat):Int) 1)) _ _ s
 rw [DK]
 exact wpAny_pure h
theorem xX (xs:Array Value) (i k:Nat):((List.range k).filterMap fun (m:Nat)=>xs[((i:Int)+(m:Int) * 1).toNat]?).toArray=((xs.toList.drop i).take k).toArray:=by
 have e:(fun (m:Nat)=>xs[((i:Int)+(m:Int) * 1).toNat]?)=fun m=>xs[i+m]?:=by
  funext m
  have:((i:Int)+(m:Int) * 1).toNat=i+m:=by omega
  rw [this]
 rw [e]
 have:=pick_run xs i k
 rw [List.filterMap_map] at this
 have e2:((fun x=>xs[x]?) ∘ fun x=>i+x)=fun m=>xs[i+m]?:=rfl
 rw [e2] at this
 rw [this]
theorem Dd {t sl:Addr} {items:Array Value} {vl vu:Value} {lo hi:Option Int} {Q:Value->Shared->Prop} (ht:IsTup s.heap t items) (hs:s.heap.IsSliceOf sl vl vu .none) (pl:IsPart vl lo) (pu:IsPart vu hi)
  (hw:¬ (sIx items.size 0 lo=0/\sIx items.size items.size hi=items.size))
  (h:Q (.ref s.heap.objs.size) { s with heap:=s.heap.push { cls:=.type "tuple",data:=.seq ((items.toList.drop (sIx items.size 0 lo)).take (sIx items.size items.size hi - sIx items.size 0 lo)).toArray } })
  (hsz:items.size<=sizeLine):wpAny (model prog w) A (getItem (.ref t) (.ref sl)) Q E s:=by
 have htake:sizeOk (.seq ((items.toList.drop (sIx items.size 0 lo)).take (sIx items.size items.size hi - sIx items.size 0 lo)).toArray):=by
  show ((items.toList.drop (sIx items.size 0 lo)).take (sIx items.size items.size hi - sIx items.size 0 lo)).toArray.size<=sizeLine
  rw [List.size_toArray,List.length_take,List.length_drop,Array.length_toList]
  omega
 have hj:sIx items.size items.size hi<=items.size:=v9 _ _ (Nat.le_refl _) hi
 obtain ⟨os,hos,hcs,hds⟩:=id hs
 have hTs:s.TypeIs (.ref sl) "slice":=⟨os,hos,hcs⟩
 unfold getItem
 try with_reducible refine wpAny_holding ?_
 first|refine wpAny_bind (wpAny_pure ?_)|skip
 refine wpAny_bind (wpAny_sequenceKey ht.typeIs (by decide) ?_)
 refine wpAny_bind (wpAny_callSpecial?_slot (name:=Str.ofString "__getitem__") ht.typeIs PyProof.Rows.slot_tuple_getitem
  (wpAny_call_entry PyProof.Rows.slot_tuple_getitem ht.typeIs entry_tuple_getitem ?_ (args_tuple_getitem _ _)))
 show wpAny _ _ (Builtin.Tuple.tupleItemsOf (.ref t)>>=_) _ _ s
 refine wpAny_bind (tupleItemsOf_ ht ?_)
 refine wpAny_bind (wpAny_typeOf hTs ?_)
 rw [if_pos (by decide)]
 refine wpAny_bind (oB hs pl pu ?_)
 have hno:¬ ((((sIx items.size 0 lo:Nat):Int)==0&&(1:Int)==1&&(sIx items.size items.size hi - sIx items.size 0 lo)==items.size)=true):=by
  intro q
  rw [Bool.and_eq_true,Bool.and_eq_true] at q
  have q1:((sIx items.size 0 lo:Nat):Int)=0:=eq_of_beq q.1.1
  have q2:sIx items.size items.size hi - sIx items.size 0 lo=items.size:=eq_of_beq q.2
  exact hw ⟨by omega,by omega⟩
 show wpAny _ _ (if (((sIx items.size 0 lo:Nat):Int)==0&&(1:Int)==1&&(sIx items.size items.size hi - sIx items.size 0 lo)==items.size)=true then _ else _) _ _ s
 rw [if_neg hno,xX]
 first
  | exact wpAny_bind (m:=Builtin.Tuple.tupleExact _) (wpAny_newObj_type (wpAny_pure ⟨_,rfl,wpAny_pure h⟩) htake)
  | exact wpAny_bind (m:=Builtin.Tuple.tupleExact _) (wpAny_newObj_type (wpAny_bind (wpAny_pure (wpAny_pure ⟨_,rfl,wpAny_pure h⟩))) htake)
  | exact wpAny_bind (wpAny_bind (m:=Builtin.Tuple.tupleExact _) (wpAny_newObj_type (wpAny_pure (wpAny_pure ⟨_,rfl,wpAny_pure h⟩)) htake))
  | exact wpAny_bind (wpAny_bind (m:=Builtin.Tuple.tupleExact _) (wpAny_newObj_type (wpAny_pure ⟨_,rfl,wpAny_pure h⟩) htake))
end
end HT
namespace L2
open PySem PySem.Spec PyProof.Rows
abbrev TO:=St->Hp->(Option Int->Hp->Prop)->Prop
noncomputable def PO (X:Cx) (e:Option Expr) (t:TO):Prop :=
 ∀ (pins:List (Addr × Obj)) (s:Shared) (σ:St) (H:Hp) (Q:Option Int->Hp->Prop),Inv X pins σ H s->t σ H Q ->
  wpAny (model X.prog X.w) X.A (evalPart e X.env) (fun u s'=>∃ o H',Inv X pins σ H' s'/\IsPart u o/\Q o H') X.xe s
noncomputable def Cg:TO:=fun _ H Q=>Q none H
noncomputable def Bl (t:TE):TO:=fun σ H Q=>t σ H fun x H1=>∃ i,x=.int i/\Q (some i) H1
theorem intsAre_of {ns:List Int}:∀ {us:List Value},Vals (ns.map V.int) us->IntsAre us ns:=by
 induction ns with
 | nil=>intro us r; rw [List.map_nil] at r; cases r; exact .nil
 | cons n ns ih =>
  intro us r
  rw [List.map_cons] at r
  cases r with
  | cons r1 r2 =>
   obtain ⟨t,e⟩:=r1
   subst e
   exact .cons n t (ih r2)
section
variable {X:Cx} {e:Expr} {te:TE} {lo hi:Option Expr} {tl th:TO} {pos p2:Pos}
theorem vY:PO X none Cg:=by
 intro pins s σ H Q I h
 rw [evalPart_none]
 exact wpAny_pure ⟨none,H,I,.none,h⟩
theorem Ek (h:PE X e te):PO X (some e) (Bl te):=by
 intro pins s σ H Q I hw
 rw [evalPart_some]
 refine thn (h pins s σ H _ I hw) fun u s1 ⟨x,H1,I1,r1,q1⟩=>?_
 obtain ⟨i,rfl,q⟩:=q1
 obtain ⟨t,rfl⟩:=r1
 exact ⟨some i,H1,I1,.int i t,q⟩
noncomputable def SlR (X:Cx) (r:V->Option Int->Option Int->Hp->VK->Prop):Prop :=
 ∀ (pins:List (Addr × Obj)) (s:Shared) (σ:St) (H:Hp) (x:V) (v vl vu:Value) (lo hi:Option Int) (sl:Addr) (Q:VK),Inv X pins σ H s->RelV x v->s.heap.IsSliceOf sl vl vu .none->IsPart vl lo->IsPart vu hi->r x lo hi H Q ->
  ∃ T id,typeLookup (.type T) "__getitem__" = pure (some (.builtin id))/\s.TypeIs v T/\wpAny (model X.prog X.w) X.A (getItem v (.ref sl)) (EP X pins σ Q) X.xe s
noncomputable def tSl (r:V->Option Int->Option Int->Hp->VK->Prop) (te:TE) (tl th:TO):TE:=fun σ H Q=>te σ H fun x H1=>tl σ H1 fun l H2=>th σ H2 fun u H3=>r x l u H3 Q
theorem u7 {r:V->Option Int->Option Int->Hp->VK->Prop} (hr:SlR X r) (he:PE X e te) (hl:PO X lo tl) (hu:PO X hi th):PE X (.Subscript e (.Slice lo hi none p2) pos) (tSl r te tl th):=by
 intro pins s σ H Q I h
 refine Subscript_ (thn (he pins s σ H _ I h) fun v s1 ⟨x,H1,I1,r1,q1⟩=>?_)
 refine wpAny_Slice (thn (hl pins s1 σ H1 _ I1 q1) fun vl s2 ⟨l,H2,I2,pl,q2⟩=>thn (hu pins s2 σ H2 _ I2 q2) fun vu s3 ⟨u,H3,I3,pu,q3⟩=>?_)
 rw [evalPart_none]
 refine wpAny_pure ?_
 have I4:Inv X pins σ H3 { s3 with heap:=s3.heap.push { cls:=.type "slice",data:=.fields #[vl,vu,.none] } }:=I3.kept (t':=s3.toks) fun b ob q=>Heap.get?_push_of_some _ q
 obtain ⟨T,id,hT,ht,hg⟩:=hr pins { s3 with heap:=s3.heap.push { cls:=.type "slice",data:=.fields #[vl,vu,.none] } } σ H3 x v vl vu l u s3.heap.objs.size Q I4 r1 (Heap.IsSliceOf.new ..) pl pu q3
 show wpAny (model X.prog X.w) X.A (subscriptTail e (.Slice lo hi none p2) v (.ref s3.heap.objs.size)) (EP X pins σ Q) X.xe { s3 with heap:=s3.heap.push { cls:=.type "slice",data:=.fields #[vl,vu,.none] } }
 exact tail_any (ops:=[.ref s3.heap.objs.size,v]) ht hT hg (by with_unfolding_all rfl)
noncomputable def dh (xs:List V) (lo hi:Option Int):List V:=(xs.drop (HT.sIx xs.length 0 lo)).take (HT.sIx xs.length xs.length hi - HT.sIx xs.length 0 lo)
theorem oQ (xs:List V) (lo hi:Option Int):(dh xs lo hi).length<=xs.length:=by
 unfold dh
 rw [List.length_take,List.length_drop]
 omega
noncomputable def Bg (K:PySem.W.Frag):V->Option Int->Option Int->Hp->VK->Prop:=fun x lo hi H Q=>∃ a xs,x=.ref a/\SqT K H a xs /\
 ¬ (HT.sIx xs.length 0 lo=0/\HT.sIx xs.length xs.length hi=xs.length)/\∀ p,H p=none->Q (.ref p) (upd H p (.tup (dh xs lo hi)))
theorem uB:SlR X (Bg X.K):=by
 intro pins s σ H x v vl vu lo hi sl Q I rx hs pl pu h
 obtain ⟨a,xs,rfl,hx,hw,q⟩:=h
 cases rx
 obtain ⟨its,r,ht,hz⟩:=I.tuple hx
 have hlen:its.toArray.size=xs.length:=by rw [List.size_toArray]; exact r.length.symm
 refine ⟨"tuple",_,PyProof.Rows.slot_tuple_getitem.lookup,ht.typeIs,?_⟩
 refine HT.Dd ht hs pl pu (by rw [hlen]; exact hw) ?_ (by rw [hlen]; exact hz)
 rw [hlen]
 refine ⟨.ref s.heap.objs.size,_,I.laid (t':=s.toks) (o:=.tup (dh xs lo hi)) (fun b ob q=>Heap.get?_push_of_some _ q) (Nat.le_refl _) ?_,rfl,q _ (I.hok.fresh (Nat.le_refl _))⟩
 exact ⟨Nat.le_trans (oQ xs lo hi) hz,_,(r.drop (HT.sIx xs.length 0 lo)).take (HT.sIx xs.length xs.length hi - HT.sIx xs.length 0 lo),IsTup.new _ _⟩
noncomputable def w4 (K:PySem.W.Frag):R2:=fun x y H Q=>∃ a b xs ys,x=.ref a/\y=.ref b/\SqT K H a xs/\SqT K H b ys/\xs≠[]/\xs.length+ys.length<=sizeLine /\
 (ys=[]->Q (.ref a) H)/\(ys≠[]->∀ p,H p=none->Q (.ref p) (upd H p (.tup (xs++ys))))
theorem Vals.lK {xs:List V} {us:List Value} (r:Vals xs us):us=[] ↔ xs=[]:=by
 cases r with
 | nil=>simp
 | cons _ _=>simp
theorem E_:OpR X (binaryOp .Add) (w4 X.K):=by
 intro pins s σ H x y v u Q I rx ry h
 obtain ⟨a,b,xs,ys,rfl,rfl,ha,hb,hx,hz,q1,q2⟩:=h
 cases rx
 cases ry
 obtain ⟨its,r1,p1,_⟩:=I.tuple ha
 obtain ⟨its2,r2,p2,_⟩:=I.tuple hb
 refine HT.uQ p1 p2 (fun z=>hx (r1.lK.mp z)) (fun z=>⟨.ref a,H,I,rfl,q1 (r2.lK.mp z)⟩) (fun z=>?_) (by rw [<- r1.length,<- r2.length]; exact hz)
 refine ⟨.ref s.heap.objs.size,_,I.laid (t':=s.toks) (o:=.tup (xs++ys)) (fun b ob q=>Heap.get?_push_of_some _ q) (Nat.le_refl _) ?_,rfl,q2 (fun w=>z (r2.lK.mpr w)) _ (I.hok.fresh (Nat.le_refl _))⟩
 exact ⟨by rw [List.length_append]; exact hz,_,r1.append r2,IsTup.new _ _⟩
end
end L2
namespace L2
open PySem PySem.Spec PyProof.Rows
noncomputable def ixN (n:Nat) (i:Int):Option Nat:=if 0<=i then (if i < n then some i.toNat else none) else if -(n:Int)<=i then some (i+n).toNat else none
noncomputable def atI {α:Type} (xs:List α) (i:Int):Option α:=(ixN xs.length i).bind fun j=>xs[j]?
theorem oi {n:Nat} {i:Int} {j:Nat} (h:ixN n i=some j):seqIndex? i n=some j/\j < n/\-(n:Int)<=i/\i < n:=by
 unfold ixN at h
 by_cases h0:0<=i
 ·rw [if_pos h0] at h
  by_cases h1:i < n
  ·rw [if_pos h1] at h
   have e:i.toNat=j:=Option.some.inj h
   exact ⟨by rw [seqIndex_of h0 h1,e],by omega,by omega,h1⟩
  ·rw [if_neg h1] at h; cases h
 ·rw [if_neg h0] at h
  by_cases h1:-(n:Int)<=i
  ·rw [if_pos h1] at h
   have e:(i+n).toNat=j:=Option.some.inj h
   exact ⟨by rw [seqIndex_neg (by omega) h1,e],by omega,h1,by omega⟩
  ·rw [if_neg h1] at h; cases h
theorem rQ {α:Type} {xs:List α} {i:Int} {v:α} (h:atI xs i=some v):∃ j,seqIndex? i xs.length=some j/\xs[j]?=some v/\j < xs.length/\-(xs.length:Int)<=i/\i < xs.length:=by
 unfold atI at h
 cases e:ixN xs.length i with
 | none=>rw [e] at h; cases h
 | some j =>
  rw [e] at h
  obtain ⟨h1,h2,h3,h4⟩:=oi e
  exact ⟨j,h1,h,h2,h3,h4⟩
noncomputable def lI (b:Expr):Prop:=∀ o i,subscripted b false o i=operate [o,i] (getItem o i)
noncomputable def IxR (X:Cx) (r:R2):Prop :=
 ∀ (value slice:Expr) (pins:List (Addr × Obj)) (s:Shared) (σ:St) (H:Hp) (x y:V) (v u:Value) (Q:VK),Inv X pins σ H s->RelV x v->RelV y u->r x y H Q ->
  subscripted slice false v u=operate [v,u] (getItem v u)->wpAny (model X.prog X.w) X.A (subscriptTail value slice v u) (EP X pins σ Q) X.xe s
noncomputable def MtR (X:Cx) (id:String) (r:V->List V->Hp->VK->Prop):Prop :=
 ∀ (pins:List (Addr × Obj)) (s:Shared) (σ:St) (H:Hp) (x:V) (xs:List V) (v:Value) (us:List Value) (Q:VK),Inv X pins σ H s->RelV x v->Vals xs us->r x xs H Q ->
  wpAny (model X.prog X.w) X.A (call (.builtin id) (v::us)) (EP X pins σ Q) X.xe s
section
variable {X:Cx} {a b:Expr} {ta tb:TE} {pos:Pos}
theorem Cb {r:R2} (hr:IxR X r) (ha:PE X a ta) (hb:PE X b tb) (hs:lI b):PE X (.Subscript a b pos) (tOp r ta tb):=by
 intro pins s σ H Q I h
 exact Subscript_ (k7 ha hb I h fun v u s2 x y H2 I2 rx ry q=>hr a b pins s2 σ H2 x y v u Q I2 rx ry q (hs _ _))
noncomputable def EC (K:PySem.W.Frag):R2:=fun x y H Q=>∃ p xs i v,x=.ref p/\y=.int i/\SqL K H p xs/\atI xs i=some v/\Q v H
noncomputable def Cr (K:PySem.W.Frag):R2:=fun x y H Q=>∃ p xs i v,x=.ref p/\y=.int i/\SqT K H p xs/\atI xs i=some v/\Q v H
theorem Dq:IxR X (EC X.K):=by
 intro value slice pins s σ H x y v u Q I rx ry h hs
 obtain ⟨p,xs,i,z,rfl,rfl,hq,he,q⟩:=h
 cases rx
 obtain ⟨t,rfl⟩:=ry
 obtain ⟨its,r,pl,hz⟩:=I.list hq
 obtain ⟨j,h1,h2,h3,h4,h5⟩:=rQ he
 obtain ⟨w,ew,rw'⟩:=r.get h2
 have hl:=r.length
 have hn:=gK
 have fin:EP X pins σ Q w s:=⟨z,H,I,rw',q⟩
 by_cases h0:0<=i
 ·have hj:i.toNat=j:=by
   rw [seqIndex_of h0 h5] at h1
   exact Option.some.inj h1
  exact item_listR pl.isList h0 (by omega) (by rw [hj]; simpa using ew) fin hs
 ·have hj:(i+(its.toArray.size:Int)).toNat=j:=by
   rw [seqIndex_neg (by omega) h4] at h1
   rw [List.size_toArray,<- hl]
   exact Option.some.inj h1
  exact subscriptTail_builtinR (x:=w) pl.isList.typeIs slot_list_getitem.lookup
   (wpAny_getItem_list_neg (Q:=fun r s'=>r=w/\EP X pins σ Q r s') pl.isList (by omega) (by rw [List.size_toArray] <;> omega) (by omega) (by rw [hj]; simpa using ew) ⟨rfl,fin⟩) hs
theorem zK:IxR X (Cr X.K):=by
 intro value slice pins s σ H x y v u Q I rx ry h hs
 obtain ⟨p,xs,i,z,rfl,rfl,hq,he,q⟩:=h
 cases rx
 obtain ⟨t,rfl⟩:=ry
 obtain ⟨its,r,pl,hz⟩:=I.tuple hq
 obtain ⟨j,h1,h2,h3,h4,h5⟩:=rQ he
 obtain ⟨w,ew,rw'⟩:=r.get h2
 have hl:=r.length
 have hn:=gK
 have fin:EP X pins σ Q w s:=⟨z,H,I,rw',q⟩
 exact subscriptTail_builtinR (x:=w) pl.typeIs slot_tuple_getitem.lookup
  (getItem_tuple (j:=j) (Q:=fun r s'=>r=w/\EP X pins σ Q r s') pl (by omega) (by omega) (by rw [List.size_toArray,<- hl]; exact h1) (by simpa using ew) ⟨rfl,fin⟩) hs
theorem DG (its:List Value) (n j:Nat) (u:Value):Obj.mapSeq (·.setIfInBounds j u) { cls:=.type "list",data:=.seq its.toArray n }={ cls:=.type "list",data:=.seq (its.set j u).toArray n }:=by
 simp [Obj.mapSeq]
theorem Inv.lst {pins:List (Addr × Obj)} {σ:St} {H:Hp} {s:Shared} {p:Addr} {xs:List V} (I:Inv X pins σ H s) (h:H p=some (.lst xs)) :
  ∃ (its:List Value) (n:Nat),Vals xs its/\s.heap.get? p=some { cls:=.type "list",data:=.seq its.toArray n }/\xs.length<=sizeLine:=by
 obtain ⟨z,its,n,r,e⟩:=I.hok p _ h
 exact ⟨its,n,r,e,z⟩
theorem Inv.BS {pins:List (Addr × Obj)} {σ:St} {H:Hp} {s:Shared} {p:Addr} {xs ys:List V} {its its':List Value} {n n':Nat} {f:Obj->Obj} (I:Inv X pins σ H s) (h:H p=some (.lst xs))
  (ho:s.heap.get? p=some { cls:=.type "list",data:=.seq its.toArray n }) (hf:f { cls:=.type "list",data:=.seq its.toArray n }={ cls:=.type "list",data:=.seq its'.toArray n' }) (r:Vals ys its') (hz:ys.length<=sizeLine) (t:Nat) :
  Inv X pins σ (upd H p (.lst ys)) { s with heap:=s.heap.update p f,toks:=t }:=by
 have e:(s.heap.update p f).get? p=some { cls:=.type "list",data:=.seq its'.toArray n' }:=by
  rw [Heap.get?_update_self f ho (by rw [hf] <;> rfl),hf]
 refine I.write (x:=p) (e:=p) (by rw [h]; trivial) (.inl rfl) (fun b u hb q=>(Heap.get?_update_other _ _ (Ne.symm hb)).trans q) ⟨_,e⟩ ?_
 exact ⟨hz,its',n',r,e⟩
noncomputable def tW:V->V->V->Hp->(Hp->Prop)->Prop:=fun o i v H Q=>∃ p xs k j,o=.ref p/\i=.int k/\H p=some (.lst xs)/\ixN xs.length k=some j/\Q (upd H p (.lst (xs.set j v)))
theorem set_list:lG X tW:=by
 intro pins s σ H o i v ov iv u Q I ro ri rv h
 obtain ⟨p,xs,k,j,rfl,rfl,hp,hj,q⟩:=h
 cases ro
 obtain ⟨t,rfl⟩:=ri
 obtain ⟨its,n,r,ho,hz⟩:=I.lst hp
 obtain ⟨h1,h2,h3,h4⟩:=oi hj
 have hl:=r.length
 have hn:=gK
 have I':Inv X pins σ (upd H p (.lst (xs.set j v))) { s with heap:=s.heap.update p (Obj.mapSeq (·.setIfInBounds j u)) } :=
  I.BS hp ho (DG its n j u) (r.set rv j) (by rw [List.length_set]; exact hz) s.toks
 by_cases h0:0<=k
 ·have hk:k.toNat=j:=by
   rw [seqIndex_of h0 h4] at h1
   exact Option.some.inj h1
  exact PySem.W.ki_setAt ho h0 (by omega) (by rw [List.size_toArray,<- hl]; exact h4) (by rw [hk]; exact ⟨_,I',q⟩)
 ·have hk:(k+(its.toArray.size:Int)).toNat=j:=by
   rw [seqIndex_neg (by omega) h3] at h1
   rw [List.size_toArray,<- hl]
   exact Option.some.inj h1
  exact PySem.W.ki_setBack ho (by omega) (by rw [List.size_toArray,<- hl]; exact h3) (by omega) (by rw [hk]; exact ⟨_,I',q⟩)
theorem Ao (lo hi:Option Int) (n:Nat):(sliceBounds lo hi none n).1=((HT.sIx n 0 lo:Nat):Int)/\(sliceBounds lo hi none n).2.1=((HT.sIx n n hi:Nat):Int)/\(sliceBounds lo hi none n).2.2=1:=by
 refine ⟨?_,?_,rfl⟩
 ·cases lo with
  | none=>simp [sliceBounds,HT.sIx]
  | some i =>
   simp only [sliceBounds,HT.sIx,Option.getD_none,show (1:Int) > 0 by decide,if_true]
   by_cases h:i < 0
   ·simp only [h,if_true] <;> omega
   ·simp only [h,if_false] <;> omega
 ·cases hi with
  | none=>simp [sliceBounds,HT.sIx]
  | some i =>
   simp only [sliceBounds,HT.sIx,Option.getD_none,show (1:Int) > 0 by decide,if_true]
   by_cases h:i < 0
   ·simp only [h,if_true] <;> omega
   ·simp only [h,if_false] <;> omega
theorem xZ (its:List Value) (lo hi:Option Int):slicePick its.toArray lo hi none=((its.drop (HT.sIx its.length 0 lo)).take (HT.sIx its.length its.length hi - HT.sIx its.length 0 lo)).toArray:=by
 obtain ⟨h1,h2,h3⟩:=Ao lo hi its.toArray.size
 unfold slicePick
 rw [h1,h2,h3]
 simp only [sliceRange_one,pick_run,List.size_toArray] <;> rfl
noncomputable def wA (K:PySem.W.Frag):V->Option Int->Option Int->Hp->VK->Prop:=fun x lo hi H Q=>∃ a xs,x=.ref a/\SqL K H a xs/\∀ p,H p=none->Q (.ref p) (upd H p (.lst (dh xs lo hi)))
theorem rV:SlR X (wA X.K):=by
 intro pins s σ H x v vl vu lo hi sl Q I rx hs pl pu h
 obtain ⟨a,xs,rfl,hx,q⟩:=h
 cases rx
 obtain ⟨its,r,ht,hz⟩:=I.list hx
 have hlen:=r.length
 refine ⟨"list",_,slot_list_getitem.lookup,ht.isList.typeIs,?_⟩
 refine wpAny_getItem_list_slice ht.isList hs pl pu .none (by simp) ?_ (by rw [List.size_toArray] <;> omega)
 rw [xZ,<- hlen]
 refine ⟨.ref s.heap.objs.size,_,I.laid (t':=s.toks) (o:=.lst (dh xs lo hi)) (fun b ob q=>Heap.get?_push_of_some _ q) (Nat.le_refl _) ?_,rfl,q _ (I.hok.fresh (Nat.le_refl _))⟩
 exact ⟨Nat.le_trans (oQ xs lo hi) hz,_,0,(r.drop (HT.sIx xs.length 0 lo)).take (HT.sIx xs.length xs.length hi - HT.sIx xs.length 0 lo),Heap.get?_push_size _ rfl⟩
noncomputable def DI:V->Bool
 | .non=>true
 | .bl _=>true
 | .int _=>true
 | .str _=>true
 | _=>false
theorem xu:bI X (.builtin "len") (fun xs H Q=>∃ p ys,xs=[.ref p]/\(SqL X.K H p ys\/SqT X.K H p ys)/\Q (.int ys.length) H):=by
 intro pins s σ H xs us Q I r h
 obtain ⟨p,ys,rfl,hq,q⟩:=h
 obtain ⟨u,rfl,rx⟩:=vals1 r
 cases rx
 have hn:=gK
 rcases hq with hq|hq
 ·obtain ⟨its,r',pl,hz⟩:=I.list hq
  have hlen:=r'.length
  exact Calls.call_len_list pl.isList (by simp only [List.size_toArray] <;> omega) ⟨.int ys.length,H,I.tok _,⟨s.toks+1,by rw [List.size_toArray,hlen]⟩,q⟩
 ·obtain ⟨its,r',pl,hz⟩:=I.tuple hq
  have hlen:=r'.length
  exact len_tuple pl (by simp only [List.size_toArray] <;> omega) ⟨.int ys.length,H,I.tok _,⟨s.toks+1,by rw [List.size_toArray,hlen]⟩,q⟩
theorem yx:bI X (.type "list") (fun xs H Q=>∃ p ys,xs=[.ref p]/\(SqL X.K H p ys\/SqT X.K H p ys)/\∀ l,H l=none->Q (.ref l) (upd H l (.lst ys))):=by
 intro pins s σ H xs us Q I r h
 obtain ⟨p,ys,rfl,hq,q⟩:=h
 obtain ⟨u,rfl,rx⟩:=vals1 r
 cases rx
 have fin:∀ (its:List Value),Vals ys its->ys.length<=sizeLine->∀ (h':Heap) (c':Nat),(∀ b o',s.heap.get? b=some o'->h'.get? b=some o') ->
   h'.get? s.heap.objs.size=some { cls:=.type "list",dict:=none,data:=.seq its.toArray c',slots:=#[] }->EP X pins σ Q (.ref s.heap.objs.size) { s with heap:=h' }:=fun its r' hz h' c' kp e =>
  ⟨.ref s.heap.objs.size,_,I.laid (t':=s.toks) kp (Nat.le_refl _) (show bR X.prog X.w _ h' _ (.lst ys) from ⟨hz,its,c',r',e⟩),rfl,q _ (I.hok.fresh (Nat.le_refl _))⟩
 rcases hq with hq|hq
 ·obtain ⟨its,r',pl,hz⟩:=I.list hq
  have hlen:=r'.length
  obtain ⟨o,ho,hc,n,hd⟩:=pl.isList
  exact call_list_seq p (.inl rfl) ho hc hd (fun h' c' kp e=>fin its r' hz h' c' kp e) (by simp only [List.size_toArray] <;> omega)
 ·obtain ⟨its,r',pl,hz⟩:=I.tuple hq
  have hlen:=r'.length
  obtain ⟨o,ho,hc,n,hd⟩:=pl
  exact call_list_seq p (.inr rfl) ho hc hd (fun h' c' kp e=>fin its r' hz h' c' kp e) (by simp only [List.size_toArray] <;> omega)
theorem qF:bI X (.type "tuple") (fun xs H Q=>∃ p ys,xs=[.ref p]/\((SqL X.K H p ys/\∀ l,H l=none->Q (.ref l) (upd H l (.tup ys)))\/(SqT X.K H p ys/\Q (.ref p) H))):=by
 intro pins s σ H xs us Q I r h
 obtain ⟨p,ys,rfl,h⟩:=h
 obtain ⟨u,rfl,rx⟩:=vals1 r
 cases rx
 rcases h with ⟨hq,q⟩|⟨hq,q⟩
 ·obtain ⟨its,r',pl,hz⟩:=I.list hq
  have hlen:=r'.length
  refine call_tuple_list pl.isList (fun h' kp=>?_) (by simp only [List.size_toArray] <;> omega)
  have I1:Inv X pins σ H { s with heap:=h' }:=I.kept (t':=s.toks) kp
  have I2:Inv X pins σ (upd H h'.objs.size (.tup ys)) { s with heap:=h'.push { cls:=.type "tuple",data:=.seq its.toArray } } :=
   I1.laid (t':=s.toks) (fun b o e=>Heap.get?_push_of_some _ e) (Nat.le_refl _) (show bR X.prog X.w _ _ _ (.tup ys) from ⟨hz,its,r',IsTup.new _ _⟩)
  exact ⟨.ref h'.objs.size,_,I2,rfl,q _ (I1.hok.fresh (Nat.le_refl _))⟩
 ·obtain ⟨its,r',pl,hz⟩:=I.tuple hq
  exact call_tuple_same pl ⟨.ref p,H,I,rfl,q⟩
noncomputable def tyV (K:PySem.W.Frag) (T:String) (x:V) (H:Hp):Prop:=match x with
 | .str _=>T = "str"
 | .int _=>T = "int"
 | .ref p=>(T = "list"/\∃ xs,SqL K H p xs)\/(T = "tuple"/\∃ o,K.lookup p=some o/\o.cls=.type "tuple"/\o.dict=none) \/
   (T = "dict"/\((∃ kvs,H p=some (.dK kvs))\/∃ kvs,H p=some (.dT kvs)))\/(T = "set"/\∃ S n,H p=some (.set S n))
 | _=>False
theorem vE {pins:List (Addr × Obj)} {σ:St} {H:Hp} {s:Shared} {T:String} {x:V} {v:Value} (I:Inv X pins σ H s) (r:RelV x v) (ty:tyV X.K T x H) :
  s.TypeIs v T/\∀ a,v=.ref a->∃ ob,s.heap.get? a=some ob/\ob.dict=none:=by
 cases x with
 | str z =>
  obtain ⟨t,rfl⟩:=r
  cases (show T = "str" from ty)
  exact ⟨typeIs_str s z t,fun _ e=>nomatch e⟩
 | int i =>
  obtain ⟨t,rfl⟩:=r
  cases (show T = "int" from ty)
  exact ⟨typeIs_int s i t,fun _ e=>nomatch e⟩
 | ref p =>
  cases r
  rcases ty with ⟨rfl,xs,hq⟩|⟨rfl,o,hk,hc,hd⟩|⟨rfl,hk⟩|⟨rfl,S,n,hk⟩
  ·obtain ⟨its,_,pl,_⟩:=I.list hq
   refine ⟨pl.isList.typeIs,fun a e=>?_⟩
   cases e
   obtain ⟨o,n,e,c,hd,_⟩:=pl
   exact ⟨o,e,hd⟩
  ·refine ⟨⟨o,I.kIn p o hk,hc⟩,fun a e=>?_⟩
   cases e
   exact ⟨o,I.kIn _ o hk,hd⟩
  ·have z:∃ o,s.heap.get? p=some o/\o.ExactDict:=by
    rcases hk with ⟨kvs,hk⟩|⟨kvs,hk⟩
    ·obtain ⟨_,_,_,_,o,_,_,e,ex,_⟩:=I.hok p _ hk
     exact ⟨o,e,ex⟩
    ·obtain ⟨_,_,_,_,o,_,_,e,ex,_⟩:=I.hok p _ hk
     exact ⟨o,e,ex⟩
   obtain ⟨o,e,ex⟩:=z
   refine ⟨⟨o,e,ex.1⟩,fun a e2=>?_⟩
   cases e2
   exact ⟨o,e,ex.2.1⟩
  ·obtain ⟨o,_,_,_,e,ex,_⟩:=I.hok p _ hk
   refine ⟨⟨o,e,ex.1⟩,fun a e2=>?_⟩
   cases e2
   exact ⟨o,e,ex.2.1⟩
 | _=>exact False.elim ty
noncomputable def tBM (K:PySem.W.Frag) (T:String) (r:V->List V->Hp->VK->Prop) (to:TE) (t:TA):TE:=fun σ H Q=>to σ H fun x H1=>tyV K T x H1/\t σ H1 fun xs H2=>r x xs H2 Q
variable {o e:Expr} {es:List Expr} {to:TE} {t:TA} {name:Str} {apos cpos:Pos} {T id:String} {r:V->List V->Hp->VK->Prop}
theorem yk (pa:PlainAttrs T) (slot:Slot T name id) (hty:typeOf (.builtin id)=pure (.type "method_descriptor")) (hm:MtR X id r) (ho:PE X o to) (ha:PA X (e::es) t)
  (hbase:attributeBase o name X.env (eval o X.env)=eval o X.env:=by rfl)
  (hfew:((backTo cpos (starEach (e::es) X.env)).all (fun x=>!x.1)&&(backToKw cpos (keywordEach [] X.env)).all (fun x=>x.1.isSome)
  &&decide ((e::es).length+([]:List Keyword).length+(if ([]:List Keyword).isEmpty then 0 else 1) < 30))=true:=by rfl)
  (hline:(apos.endLine==cpos.line)=true:=by rfl) (hs:starEach (e::es) X.env=(false,eval e X.env)::starEach es X.env:=by rfl) (hplain:(backTo cpos (starEach es X.env)).any (·.1)=false:=by rfl) :
  PE X (.Call (.Attribute o name apos) (e::es) [] cpos) (tBM X.K T r to t):=by
 intro pins s σ H Q I h
 refine wpAny_Call_method_late hbase hfew hline rfl (thn (ho pins s σ H _ I h) fun v s1 ⟨x,H1,I1,r1,ty,q1⟩=>?_)
 obtain ⟨h1,h2⟩:=vE I1 r1 ty
 refine ⟨T,id,pa,slot,hty,h1,h2,?_⟩
 have hA:=ha cpos pins s1 σ H1 _ I1 q1
 rw [hs] at hA ⊢
 refine Calls.callWith_builtin (by show (false||(backTo cpos (starEach es X.env)).any (·.1))=false; rw [hplain] <;> rfl) (Calls.evalArgs_plain ?_)
 exact thn hA fun us s2 ⟨vs,H2,I2,r2,q2⟩=>hm pins s2 σ H2 x vs v us Q I2 r1 r2 q2
/- xs.append(e),list.index on a module's tuple .. are MtR facts of 06m -/
end
end L2
namespace L2
open PySem PySem.Spec PyProof.Rows
noncomputable def MtM (X:Cx) (id:String) (r:V->List V->Hp->VK->Prop):Prop :=
 ∀ (pins:List (Addr × Obj)) (s:Shared) (σ:St) (H:Hp) (x:V) (xs:List V) (v:Value) (us:List Value) (Q:VK),Inv X pins σ H s->RelV x v->Vals xs us->r x xs H Q ->
  wpAny (model X.prog X.w) X.A (call (.builtin id) (v::us)) (EP X pins σ Q) X.xe s
theorem Vals.one:∀ {x:V} {us:List Value},Vals [x] us->∃ u,us=[u]/\RelV x u
 | _,_,.cons r .nil=>⟨_,rfl,r⟩
theorem Vals.two:∀ {x y:V} {us:List Value},Vals [x,y] us->∃ u v,us=[u,v]/\RelV x u/\RelV y v
 | _,_,_,.cons r (.cons q .nil)=>⟨_,_,rfl,r,q⟩
theorem Vals.rep {xs:List V} {us:List Value} (h:Vals xs us):∀ k:Nat,Vals (List.replicate k xs).flatten (List.replicate k us).flatten
 | 0=>.nil
 | k+1=>by
  rw [List.replicate_succ,List.replicate_succ,List.flatten_cons,List.flatten_cons]
  exact Vals.append h (Vals.rep h k)
theorem foldl_rep (its:List Value):∀ (k:Nat) (acc:List Value),
  List.foldl (fun x1 x2=>x1++x2) acc.toArray (List.replicate k its.toArray)=(acc++(List.replicate k its).flatten).toArray
 | 0,acc=>by simp
 | k+1,acc=>by
  have e:acc.toArray++its.toArray=(acc++its).toArray:=by simp
  have e2:(acc++its)++(List.replicate k its).flatten=acc++(List.replicate (k+1) its).flatten:=by
   rw [List.replicate_succ,List.flatten_cons,List.append_assoc]
  rw [<- e2,<- foldl_rep its k (acc++its),<- e,List.replicate_succ,List.foldl_cons]
section
variable {X:Cx} {pins:List (Addr × Obj)} {σ:St} {H:Hp} {s:Shared} {l b:Addr} {xs ys zs:List V}
theorem Inv.sV {its its':List Value} {n:Nat} {f:Array Value->Array Value} {t':Nat} (I:Inv X pins σ H s) (hH:H l=some (.lst xs))
  (e:s.heap.get? l=some { cls:=.type "list",data:=.seq its.toArray n }) (hf:f its.toArray=its'.toArray) (hv:Vals ys its') (hz:ys.length<=sizeLine) :
  Inv X pins σ (upd H l (.lst ys)) { s with heap:=s.heap.update l (Obj.mapSeq f),toks:=t' }:=by
 have q:=PySem.IsL.update e f
 rw [hf] at q
 refine I.write (x:=l) (e:=l) (by rw [hH]; exact trivial) (.inl rfl) (fun b' u hb hu=>(Heap.get?_update_other s.heap (Obj.mapSeq f) (Ne.symm hb)).trans hu) ⟨_,q⟩ ?_
 exact ⟨hz,its',_,hv,q⟩
theorem Inv.pD {its:List Value} {t':Nat} (I:Inv X pins σ H s) (hv:Vals ys its) (hz:ys.length<=sizeLine) :
  Inv X pins σ (upd H s.heap.objs.size (.lst ys)) { s with heap:=s.heap.push { cls:=.type "list",data:=.seq its.toArray },toks:=t' } :=
 I.laid (fun _ _ q=>Heap.get?_push_of_some _ q) (Nat.le_refl _) ⟨hz,its,0,hv,Heap.get?_push_size _ rfl⟩
theorem Inv.fresh (I:Inv X pins σ H s):H s.heap.objs.size=none:=I.hok.fresh (Nat.le_refl _)
theorem Inv.gm (I:Inv X pins σ H s) (hH:H l=some (.lst xs)):xs.length<=sizeLine/\∃ (its:List Value) (n:Nat),Vals xs its/\xs.length=its.length/\s.heap.get? l=some { cls:=.type "list",data:=.seq its.toArray n }:=by
 obtain ⟨z,its,n,r,e⟩:=I.hok l _ hH
 exact ⟨z,its,n,r,r.length,e⟩
theorem qu {n:Nat} (h:n<=sizeLine):Builtin.List.listTooLong n=false:=by
 unfold Builtin.List.listTooLong
 exact decide_eq_false (by omega)
end
section
variable {X:Cx}
noncomputable def zZ:V->List V->Hp->VK->Prop:=fun x vs H Q=>∃ l xs y,x=.ref l/\vs=[y]/\H l=some (.lst xs)/\xs.length < sizeLine/\Q .non (upd H l (.lst (xs++[y])))
theorem o8:MtM X "list.append" zZ:=by
 intro pins s σ H x vs v us Q I rx rv h
 obtain ⟨l,xs,y,rfl,rfl,hH,hz,q⟩:=h
 cases rx
 obtain ⟨u,rfl,ru⟩:=rv.one
 obtain ⟨z,its,n,r,hl,e⟩:=I.gm hH
 refine call_meets F.slot_list_append ⟨_,e,rfl⟩ F.entry_list_append (F.args_list_append_2 _ _) (PySem.list_append l its.toArray n u (by rw [List.size_toArray]; omega)) ⟨e,?_⟩
 refine ⟨.non,_,I.sV (its':=its++[u]) hH e (by simp) (r.append (.cons ru .nil)) ?_,rfl,q⟩
 rw [List.length_append,List.length_singleton]
 omega
noncomputable def EE:V->List V->Hp->VK->Prop:=fun x vs H Q=>∃ l b xs zs,x=.ref l/\vs=[.ref b]/\H l=some (.lst xs)/\H b=some (.lst zs)/\xs.length+zs.length<=sizeLine/\Q .non (upd H l (.lst (xs++zs)))
theorem x8:MtM X "list.extend" EE:=by
 intro pins s σ H x vs v us Q I rx rv h
 obtain ⟨l,b,xs,zs,rfl,rfl,hH,hB,hz,q⟩:=h
 cases rx
 obtain ⟨u,rfl,ru⟩:=rv.one
 cases ru
 obtain ⟨z,its,n,r,hl,e⟩:=I.gm hH
 obtain ⟨z2,its2,n2,r2,hl2,e2⟩:=I.gm hB
 have hsz:its.toArray.size+its2.toArray.size<=sizeLine:=by rw [List.size_toArray,List.size_toArray]; omega
 have hlong:¬ (!its.toArray.isEmpty&&Builtin.List.listTooLong (its.toArray.size+its2.toArray.size))=true:=by
  rw [qu hsz,Bool.and_false]
  exact Bool.false_ne_true
 refine call_meets F.slot_list_extend ⟨_,e,rfl⟩ F.entry_list_extend (F.args_list_extend_2 _ _)
  (AutoSeq1.list_extend_list_list_0 l its.toArray n b its2.toArray n2 hlong (by rw [List.size_toArray]; omega) (by omega)) ⟨e,e2,?_⟩
 refine ⟨.non,_,I.sV (its':=its++its2) hH e (by simp) (r.append r2) ?_,rfl,q⟩
 rw [List.length_append]
 omega
noncomputable def D6:R2:=fun x y H Q=>∃ l b xs zs,x=.ref l/\y=.ref b/\H l=some (.lst xs)/\H b=some (.lst zs)/\xs.length+zs.length<=sizeLine/\∀ p,H p=none->Q (.ref p) (upd H p (.lst (xs++zs)))
theorem zp:OpR X (binaryOp .Add) D6:=by
 intro pins s σ H x y v u Q I rx ry h
 obtain ⟨l,b,xs,zs,rfl,rfl,hH,hB,hz,q⟩:=h
 cases rx
 cases ry
 obtain ⟨z,its,n,r,hl,e⟩:=I.gm hH
 obtain ⟨z2,its2,n2,r2,hl2,e2⟩:=I.gm hB
 refine PySem.P.add_list e e2 ?_ (by rw [List.size_toArray,List.size_toArray]; omega)
 have ea:its.toArray++its2.toArray=(its++its2).toArray:=by simp
 rw [ea]
 exact ⟨.ref _,_,I.pD (t':=s.toks) (r.append r2) (by rw [List.length_append]; omega),rfl,q _ I.fresh⟩
noncomputable def A1:R2:=fun x y H Q=>∃ l k xs,x=.ref l/\y=.int k/\H l=some (.lst xs)/\-(2 ^ 63)<=k/\k < 2 ^ 63/\xs.length * k.toNat<=sizeLine /\
 ∀ p,H p=none->Q (.ref p) (upd H p (.lst (List.replicate k.toNat xs).flatten))
theorem len_rep {α:Type} (xs:List α) (k:Nat):(List.replicate k xs).flatten.length=k * xs.length:=by
 induction k with
 | zero=>simp
 | succ k ih=>rw [List.replicate_succ,List.flatten_cons,List.length_append,ih,Nat.succ_mul,Nat.add_comm]
theorem Cd:OpR X (binaryOp .Mult) A1:=by
 intro pins s σ H x y v u Q I rx ry h
 obtain ⟨l,k,xs,rfl,rfl,hH,h1,h2,hz,q⟩:=h
 cases rx
 obtain ⟨t,rfl⟩:=ry
 obtain ⟨z,its,n,r,hl,e⟩:=I.gm hH
 have hlen:its.toArray.size * k.toNat<=sizeLine:=by rw [List.size_toArray,<- hl]; exact hz
 have hcap:¬ its.toArray.size * k.toNat > (2 ^ 63 - 1) / 8:=by
  have:(sizeLine:Nat)<=(2 ^ 63 - 1) / 8:=by decide
  omega
 have hfit:¬ (!Builtin.List.listFitsIndex k)=true:=by
  rw [fitsIndex_both h1 h2]
  exact Bool.false_ne_true
 have hlong:¬ Builtin.List.listTooLong (its.toArray.size * k.toNat)=true:=by
  rw [qu hlen]
  exact Bool.false_ne_true
 have hnew:List.foldl (fun x1 x2=>x1++x2) #[] (List.replicate (if its.toArray.isEmpty=true then 0 else k.toNat) its.toArray)=(List.replicate k.toNat its).flatten.toArray:=by
  have f0:∀ m:Nat,List.foldl (fun x1 x2=>x1++x2) #[] (List.replicate m its.toArray)=(List.replicate m its).flatten.toArray:=fun m=>by
   have:=foldl_rep its m []
   rw [List.nil_append] at this
   exact this
  rw [f0]
  cases its with
  | nil=>simp
  | cons a r'=>rw [if_neg (by simp)]
 refine wpAny_binaryOp_repeat_ref (T:="list") (U:="int") (by decide) ⟨_,e,rfl⟩ (fun s'=>typeIs_int s' k t) noFill_list_mul F.fills_int_mul F.slot_int_rmul repeat_list F.slot_int_index.lookup
  (call_meets F.slot_int_rmul (typeIs_int s k t) F.entry_int_rmul (F.args_int_rmul_2 _ _) (int___rmul___int_list k t l its.toArray n)
   ⟨e,rfl,⟨_,e,rfl⟩,call_meets F.slot_list_mul ⟨_,e,rfl⟩ F.entry_list_mul (F.args_list_mul_2 _ _) (AutoListH.list___mul___list_int_3 l its.toArray n k t hfit hcap hlong) ⟨e,?_⟩⟩)
 rw [hnew]
 exact ⟨.ref _,_,I.pD (t':=s.toks) (r.rep k.toNat) (by rw [len_rep,Nat.mul_comm]; exact hz),rfl,q _ I.fresh⟩
end
section
variable {prog:Program} {w:World} {A:Around} {E:Value->Shared->Prop} {s:Shared}
end
section
variable {X:Cx}
end
end L2
namespace Att
open PySem PySem.W PySem.Calls PyProof.Rows
theorem DM {P:Params} {h:Heap}:∀ (ns:List Int) (vs:List Value),WellAll P h vs (ns.map WData.int)->IntsAre vs ns:=by
 intro ns
 induction ns with
 | nil =>
  intro vs w
  rw [List.map_nil] at w
  cases w
  exact .nil
 | cons n ns ih =>
  intro vs w
  rw [List.map_cons] at w
  cases w with
  | cons a b =>
   cases a
   exact .cons _ _ (ih _ b)
theorem Fg {l:OpenLaw} {n:Nat} (hn:l.most=some n) {P:Params} {h:Heap} {args:List WData} {vals:List Value}
  (hpre:l.row.toRowW.claim.pre args=true) (hwl:WellAll P h vals args) :
  ∃ a vs ns,vals=[Value.ref a]/\args=[WData.list (ns.map WData.int)]/\h.get? a=some { cls:=.type "list",data:=.seq vs.toArray }/\IntsAre vs ns/\ns.length<=n:=by
 have hsh:WShape.hasAll [] args [.list .int]=true:=(pre_splitW hpre).1
 have hc:l.pre.holds [] { args:=args }=true:=(pre_splitW hpre).2
 obtain ⟨d,r,rfl,h1,h2⟩:=hasAllW_cons hsh
 obtain rfl:=hasAllW_nil h2
 obtain ⟨xs,rfl,h3⟩:=hasW_list h1
 obtain ⟨ns,rfl⟩:=items_int h3
 have hlen:ns.length<=n:=by
  unfold OpenLaw.pre at hc
  have h4:(WTm.not (.lt (.lit (.int (n:Int))) (.len (.arg 0)))).holds [] { args:=[.list (ns.map .int)] }=true:=by
   have h4:=(holds_andW hc).1
   rw [hn] at h4
   exact h4
  have h5:=condW_of h4 (w_not (w_lt w_lit (w_len_list (w_arg rfl))))
  rw [List.length_map] at h5
  refine Nat.le_of_not_lt fun q=>?_
  have q':(n:Int) < ((ns.length:Nat):Int):=by omega
  first
   | (rw [decide_eq_true q'] at h5; exact absurd h5 (by decide))
   | (simp at h5; omega)
 cases hwl with
 | cons w1 w2 =>
  cases w2
  cases w1 with
  | list ho hall=>exact ⟨_,_,ns,rfl,rfl,ho,DM ns _ hall,hlen⟩
theorem CM (l:OpenLaw) (args:List WData):l.row.toRowW.claim.post args (.bool true) args=true :=
 postW_of (r:=l.row.toRowW) (X:=(true==true))
  (show WShape.has [] (.bool true) .bool=true by first|rfl|decide|simp [WShape.has,WShape.arms,WShape.armsAll])
  (show (WTm.eq .res (.lit (.bool true))).value [] { args:=args,res:=some (.bool true),after:=args }=some (.bool (true==true)) from w_eq_bool (w_res rfl) w_lit) rfl
theorem Ds {l:OpenLaw} {n:Nat} {q:Program} {loose:List Str} {XP:(Str->Option Value)->Heap->Prop} {YP:World->Heap->Prop} {d:DefRec}
  (hn:l.most=some n) (hdf:d.params.defaults=[])
  (call:∀ (w:World) (s₀ s₁:Shared) (mg mb:Str->Option Value) (fa:Addr) (o:Obj) (pm cd doc:Value) (a:Addr) (vs:List Value) (ns:List Int),
   Ground q loose [] XP w s₀ mg mb s₁.heap->YP w s₁.heap ->
   s₁.heap.get? fa=some o->o.data=.func (docDef d.name d.params d.body d.scope pm cd doc)->s₁.heap.CodeRec cd d.name->mg d.name=some (.ref fa) ->
   s₁.heap.get? a=some { cls:=.type "list",data:=.seq vs.toArray }->IntsAre vs ns->ns.length<=n->s₁.gens=#[] ->
   codeAny (model l.prog w) callerA (.call (.ref fa) ⟨[.ref a],[]⟩) (fun r s'=>r=.ok (.ret (.bool true))/\OldK s₁.heap s'.heap/\s'.os=s₁.os/\AllBare s'.gens) s₁) :
  WalkO q loose XP YP l.row.toRowW d [] (fun f vs=>PySem.call f vs):=by
 intro w s₀ s₁ mg mb G Y fa o pm cd doc dV kV ho hd hcd hD hmg hg args vals as hpre hlay hrd hwl hlo
 obtain rfl:dV=.none:=Dflts.none hD hdf
 obtain rfl:kV=.none:=Dflts.noKw hD
 obtain ⟨a,vs,ns,rfl,rfl,hobj,hints,hlen⟩:=Fg hn hpre hwl
 refine enter_call (codeAny_mono (call w s₀ s₁ mg mb fa o pm cd doc a vs ns G Y ho (fd_plain hd) hcd hmg hobj hints hlen hg) fun r s' hq=>?_)
 obtain ⟨rfl,h2,h3,h4⟩:=hq
 exact ⟨.inl ⟨.bool true,.bool true,[],rfl,fun _=>rfl,.bool true,CM l _,fun _=>⟨List.Pairwise.nil,fun _ hm=>(nomatch hm)⟩⟩,h2,h3,h4⟩
section
variable {prog:Program} {w:World} {A:Around} {E:Value->Shared->Prop} {s:Shared} {K:Frag}
end
end Att
namespace L2
open PySem PySem.Spec PyProof.Rows
theorem sY:∀ {vs:List Value} {ns:List Int},IntsAre vs ns->Vals (ns.map V.int) vs
 | _,_,.nil=>.nil
 | _,_,.cons n t h=>.cons ⟨t,rfl⟩ (sY h)
noncomputable def ie (H:Hp):Prop:=∀ b,H b=none\/∃ o xs,H b=some (.frz o (.lst xs))
theorem ye {P:Program} {w:World} {K:PySem.W.Frag} {mg mb:Str->Option Value} {CX:CXT} {k:Nat} {fa a:Addr} {fd:FuncData} {x:Str} {sp:Sp} {s₁:Shared} {vs:List Value} {ns:List Int}
  (KX:K.In s₁.heap) (hns:s₁.heap.Ns mainGlobals mg) (hb:s₁.heap.Ns builtinsNs mb) (hbb:∀ x:Str,x≠"__name__"->mb x=bootBuiltins x) (hlim:s₁.heap.NoLimit) (hg:s₁.gens=#[])
  (ha:s₁.heap.get? a=some { cls:=.type "list",data:=.seq vs.toArray }) (hi:IntsAre vs ns) (hl:ns.length<=sizeLine) (hr:bu k callerA)
  (F:∀ base:Heap,K.In base->base.Ns mainGlobals mg->cD P w K mg base CX k fa fd [x] sp) (hbind:∀ (s:Shared) (u:Value),BindsTo s fd ⟨[u],[]⟩ [(x,u)])
  (hsp:∀ H:Hp,ie H->SqL K H a (ns.map V.int)->sp [.ref a] H (fun v _=>v=.bl true) fun _ _ _=>False)
  (hCX:∀ H e s',CX [] H s₁ (fun _ _ _=>False) e s'->False) :
  codeAny (model P w) callerA (.call (.ref fa) ⟨[.ref a],[]⟩) (fun r s'=>r=.ok (.ret (.bool true))/\OldK s₁.heap s'.heap/\s'.os=s₁.os/\AllBare s'.gens) s₁:=by
 have rv:=sY hi
 have lenV:=hi.length
 have core:∀ H:Hp,ie H->SqL K H a (ns.map V.int)->HOk P w H s₁.heap->(∀ b,H b≠none->b=a)->(H a≠none->K.lookup a=none) ->
   codeAny (model P w) callerA (.call (.ref fa) ⟨[.ref a],[]⟩) (fun r s'=>r=.ok (.ret (.bool true))/\OldK s₁.heap s'.heap/\s'.os=s₁.os/\AllBare s'.gens) s₁:=by
  intro H hO hS hok hA hK
  have base_of:∀ {b:Addr} {o:Obj},s₁.heap.get? b=some o->H b=none->(dS s₁.heap H).get? b=some o:=fun e n=>u6 e n
  have noA:∀ {b:Addr} {o:Obj} {es:Array DictEntry} {ep:Nat},s₁.heap.get? b=some o->o.data=.dict es ep->H b=none:=fun {b o es ep} e d=>by
   cases q:H b with
   | none=>rfl
   | some u =>
    have e':b=a:=hA b (by rw [q]; simp)
    subst e'
    rw [ha] at e; cases e
    have d':Data.seq vs.toArray _=Data.dict es ep:=d
    cases d'
  have nsK:∀ {b:Addr} {m:Str->Option Value},s₁.heap.Ns b m->(dS s₁.heap H).Ns b m:=fun {b m} ⟨o,es,ep,e,d,r⟩=>⟨o,es,ep,base_of e (noA e d),d,r⟩
  have hKb:K.In (dS s₁.heap H):=fun b o e=>base_of (KX b o e) (by
   cases q:H b with
   | none=>rfl
   | some u =>
    have e':b=a:=hA b (by rw [q]; simp)
    subst e'
    rw [hK (by rw [q]; simp)] at e; cases e)
  have hM:Mod K mg (dS s₁.heap H):=⟨hKb,nsK hns,⟨mb,nsK hb,hbb⟩,let ⟨mc,h1,h2⟩:=hlim; ⟨mc,nsK h1,h2⟩⟩
  have e0:ja P w K mg (dS s₁.heap H) callerA [] s₁ H:=⟨rfl,hM,fun b o e=>yF e,Nat.le_of_eq (uV _ _),trivial,fun b hb=>absurd (show b∈([]:List Addr) from hb) (by simp),hok,.of_eq hg⟩
  refine codeAny_mono ((F _ hKb (nsK hns)).run callerA [] s₁ H ⟨[.ref a],[]⟩ [.ref a] [.ref a] _ _ hr e0 (hbind s₁ (.ref a)) (.cons rfl .nil) (hsp H hO hS)) fun r s' h=>?_
  cases r with
  | error e=>exact (hCX H e s' h).elim
  | ok fl =>
   cases fl with
   | next=>exact False.elim h
   | brk=>exact False.elim h
   | cont=>exact False.elim h
   | ret u =>
    obtain ⟨v,H',os,bare,un,hok',r',q⟩:=h
    have q':v=.bl true:=q
    subst q'
    obtain rfl:u=Value.bool true:=r'
    refine ⟨rfl,OldK.of_keep fun b o e=>?_,os,bare⟩
    cases q:H b with
    | none=>exact un.keep b o e q (by intro z; exact absurd (show b∈([]:List Addr) from z) (by simp)) (by simp)
    | some u =>
     rcases hO b with z|⟨ob,xs,z⟩
     ·rw [q] at z; cases z
     ·have z2:=un.frzs b ob _ z
      obtain ⟨e1,_⟩:=hok b _ z
      obtain ⟨e2,_⟩:=hok' b _ z2
      rw [e] at e1; cases e1
      exact e2
 cases hk:K.lookup a with
 | some o =>
  have e:=KX a o hk
  rw [ha] at e
  cases e
  refine core (fun _=>none) (fun _=>.inl rfl) (.inr ⟨_,vs.toArray,_,hk,rfl,rfl,rfl,by rw [List.size_toArray,lenV]; exact hl,by simpa using rv⟩) (fun b u z=>by have z':(none:Option HO)=some u:=z; cases z') (fun b z=>absurd rfl z) fun z=>absurd rfl z
 | none =>
  refine core (fun b=>if b=a then some (.frz { cls:=.type "list",data:=.seq vs.toArray } (.lst (ns.map V.int))) else none) (fun b=>?_) (.inl (.inr ⟨{ cls:=.type "list",data:=.seq vs.toArray },if_pos rfl⟩)) (fun b u z=>?_) (fun b z=>?_) fun _=>hk
  ·by_cases hb:b=a
   ·exact .inr ⟨_,_,if_pos hb⟩
   ·exact .inl (if_neg hb)
  ·by_cases hb:b=a
   ·have z':=(if_pos hb).symm.trans z
    cases z'
    subst hb
    exact ⟨ha,by rw [List.length_map]; exact hl,vs,_,rv,ha⟩
   ·have z':=(if_neg hb).symm.trans z
    cases z'
  ·by_cases hb:b=a
   ·exact hb
   ·exact absurd (if_neg hb) z
end L2
namespace L2
open PySem PySem.Spec PyProof.Rows
theorem qM {l:PySem.W.OpenLaw} {n k:Nat} {q:Program} {loose:List Str} {XP:(Str->Option Value)->Heap->Prop} {YP:World->Heap->Prop} {d:DefRec} {K:Params->PySem.W.Frag} {CX:World->CXT} {sp:World->Sp} {x:Str}
  (hn:l.most=some n) (hn2:n<=sizeLine) (hdf:d.params.defaults=[]) (hr:bu k callerA)
  (hY:∀ (w:World) (h:Heap),YP w h->(K w.params).In h)
  (F:∀ (w:World) (mg:Str->Option Value) (fa:Addr) (h:Heap),(K w.params).In h->h.Ns mainGlobals mg->mg d.name=some (.ref fa) ->
   ∃ fd:FuncData,(∀ (s:Shared) (u:Value),BindsTo s fd ⟨[u],[]⟩ [(x,u)]) /\
    ∀ base:Heap,(K w.params).In base->base.Ns mainGlobals mg->cD l.prog w (K w.params) mg base (CX w) k fa fd [x] (sp w))
  (hsp:∀ (w:World) (H:Hp) (a:Addr) (ns:List Int),ns.length<=n->ie H->SqL (K w.params) H a (ns.map V.int)->sp w [.ref a] H (fun v _=>v=.bl true) fun _ _ _=>False)
  (hCX:∀ (w:World) (H:Hp) (s:Shared) (e:Value) (s':Shared),CX w [] H s (fun _ _ _=>False) e s'->False) :
  PySem.W.WalkO q loose XP YP l.row.toRowW d [] (fun f vs=>PySem.call f vs):=by
 refine Att.Ds hn hdf fun w s₀ s₁ mg mb fa o pm cd doc a vs ns G Y ho hd hcd hmg hobj hints hlen hg=>?_
 have KX:=hY w _ Y
 obtain ⟨fd,hb,hF⟩:=F w mg fa _ KX G.T.g hmg
 exact ye KX G.T.g G.T.b G.T.builtins G.T.nolimit hg hobj hints (Nat.le_trans hlen hn2) hr hF hb (fun H hO hS=>hsp w H a ns hlen hO hS) fun H e s'=>hCX w H s₁ e s'
theorem F6 {l:PySem.W.OpenLaw} {n k:Nat} {q:Program} {loose:List Str} {XP:(Str->Option Value)->Heap->Prop} {YP:World->Heap->Prop} {d:DefRec} {K:Params->PySem.W.Frag} {CX:CXT} {sp:PySem.W.Frag->Sp} {x:Str}
  (hn:l.most=some n) (hn2:n<=sizeLine) (hdf:d.params.defaults=[]) (hr:bu k callerA)
  (hY:∀ (w:World) (h:Heap),YP w h->(K w.params).In h)
  (F:∀ (w:World) (mg:Str->Option Value) (fa:Addr) (h:Heap),(K w.params).In h->h.Ns mainGlobals mg->mg d.name=some (.ref fa) ->
   ∃ fd:FuncData,(∀ (s:Shared) (u:Value),BindsTo s fd ⟨[u],[]⟩ [(x,u)]) /\
    ∀ base:Heap,(K w.params).In base->base.Ns mainGlobals mg->cD l.prog w (K w.params) mg base CX k fa fd [x] (sp (K w.params)))
  (hsp:∀ (K:PySem.W.Frag) (H:Hp) (a:Addr) (ns:List Int),ns.length<=n->ie H->SqL K H a (ns.map V.int)->sp K [.ref a] H (fun v _=>v=.bl true) fun _ _ _=>False)
  (hCX:∀ (H:Hp) (s:Shared) (e:Value) (s':Shared),CX [] H s (fun _ _ _=>False) e s'->False) :
  PySem.W.WalkO q loose XP YP l.row.toRowW d [] (fun f vs=>PySem.call f vs) :=
 qM (K:=K) (CX:=fun _=>CX) (sp:=fun w=>sp (K w.params)) hn hn2 hdf hr hY F (fun w H a ns h1 h2 h3=>hsp (K w.params) H a ns h1 h2 h3) fun _ H s e s'=>hCX H s e s'
end L2
namespace L2
open PySem PySem.Spec PyProof.Rows
noncomputable def cZ (s:Stmt):Arguments:=match s with
 | .FunctionDef _ a _ _ _ _ _ _ _ _=>a
 | _=>{ posonlyargs:=[],args:=[],vararg:=none,kwonlyargs:=[],kw_defaults:=[],kwarg:=none,defaults:=[] }
noncomputable def iK (s:Stmt):List Stmt:=match s with
 | .FunctionDef _ _ b _ _ _ _ _ _ _=>b
 | _=>[]
noncomputable def gB (s:Stmt):Scope:=match s with
 | .FunctionDef _ _ _ _ _ _ sc _ _ _=>sc
 | _=>{ kind:=.function,names:=[],isGenerator:=false,isCoroutine:=false }
structure Fun (K:PySem.W.Frag) (x qual:Str) (st:Stmt) (f:Addr) (fd:FuncData):Prop where
 ex:∃ (oc:Value) (od:Option Addr) (kV doc pm:Value) (an:Option Addr) (cdv ct:Value) (osl:Array (Option Value)),
  fd=PySem.W.fnOf x qual (cZ st) (iK st) (gB st) .none kV doc pm an cdv ct/\K.lookup f=some ⟨oc,od,.func fd,osl⟩/\PySem.W.codeIn K cdv qual=true
 kp:PySem.W.keepIn K (.ref f)=true
section
variable {P:Program} {w:World} {K:PySem.W.Frag} {mg:Str->Option Value} {base:Heap}
theorem Fun.binds {x qual:Str} {st:Stmt} {f:Addr} {fd:FuncData} {ps:List Str} (F:Fun K x qual st f fd)
  (h:∀ (kV doc pm:Value) (an:Option Addr) (cdv ct:Value) (us:List Value),us.length=ps.length->bindArgs (PySem.W.fnOf x qual (cZ st) (iK st) (gB st) .none kV doc pm an cdv ct) ⟨us,[]⟩=pure (ps.zip us)):Binds K fd ps []:=by
 obtain ⟨oc,od,kV,doc,pm,an,cdv,ct,osl,rfl,lk,hcd⟩:=F.ex
 exact .all (h kV doc pm an cdv ct)
theorem AS {x qual:Str} {st:Stmt} {f:Addr} {oc:Value} {od an:Option Addr} {osl:Array (Option Value)} {kV doc pm cdv ct:Value} (l:K.lookup f=some ⟨oc,od,.func (PySem.W.fnOf x qual (cZ st) (iK st) (gB st) .none kV doc pm an cdv ct),osl⟩)
  (c:PySem.W.codeIn K cdv qual=true) (k:PySem.W.keepIn K (.ref f)=true):Fun K x qual st f (PySem.W.fnOf x qual (cZ st) (iK st) (gB st) .none kV doc pm an cdv ct):=⟨⟨oc,od,kV,doc,pm,an,cdv,ct,osl,rfl,l,c⟩,k⟩
end
section
variable {X:Cx}
end
end L2

namespace L2
open PySem PySem.Spec PyProof.Rows
section
variable {prog:Program} {w:World} {A:Around} {R:Result->Shared->Prop} {s:Shared}
theorem Ak {elt target iter:Expr} {ifs:List Expr} {scope:Scope} {pos:Pos} {it acc:Value} {env:Env} (I:Nat->Shared->Prop)
  (turn:∀ n s,I n s->wpAny (model prog w) A (pyNext it) (fun r s₁=>match r with
   | none=>R (.ok .next) s₁
   | some v=>wpAny (model prog w) A (letOwnedTupleGo target it v) (fun _ s₁'=>wpAny (model prog w) A (assign target env v) (fun _ s₂ =>
     wpAny (model prog w) A (forIn ifs true fun c r=>if r=true then do let ok <- isTrue c env (eval c env); pure (ForInStep.yield ok) else pure (ForInStep.yield r)) (fun ok s₃ =>
      if ok=true then wpAny (model prog w) A (eval elt env) (fun x s₄ =>
       wpAny (model prog w) A (call (.builtin "list.append") [acc,x]) (fun _ s₅=>∃ m,m < n/\I m s₅) (fun _ _=>False) s₄) (fun _ _=>False) s₃
      else ∃ m,m < n/\I m s₃) (fun _ _=>False) s₂) (fun _ _=>False) s₁') (fun _ _=>False) s₁) (fun _ _=>False) s)
  (n:Nat) (h:I n s) :
  codeAny (model prog w) A (.compLoop (.ListComp elt [⟨target,iter,ifs,0⟩] scope pos) 0 it acc env) R s:=by
 refine codeAny_loop rfl I (fun n s hI=>?_) n h
 show wpAny _ A ((compTurn (.ListComp elt [⟨target,iter,ifs,0⟩] scope pos) 0 it acc env).onRaise (fun x=>do noteFrame x env; theTreesLotGoes x)) _ _ s
 refine wpAny_noted ?_
 rw [compTurn_list]
 refine wpAny_bind (wpAny_standAt (wpAny_bind (wpAny_mono (turn n s hI) (fun r s₁ h₁=>?_) fun _ _ h'=>h'.elim)))
 cases r with
 | none=>exact wpAny_pure h₁
 | some v =>
  refine wpAny_bind (wpAny_mono h₁ (fun _ s₁' h₁'=>?_) fun _ _ h'=>h'.elim)
  refine wpAny_bind (wpAny_mono h₁' (fun _ s₂ h₂=>wpAny_bind (wpAny_mono h₂ (fun ok s₃ h₃=>?_) fun _ _ h'=>h'.elim)) fun _ _ h'=>h'.elim)
  cases ok with
  | false=>exact wpAny_pure ⟨rfl,h₃⟩
  | true =>
   exact wpAny_bind (wpAny_bind (wpAny_mono h₃ (fun x s₄ h₄=>wpAny_bind (wpAny_mono h₄ (fun _ s₅ h₅=>wpAny_pure (wpAny_pure ⟨rfl,h₅⟩)) fun _ _ h'=>h'.elim)) fun _ _ h'=>h'.elim))
end
theorem lD {env:Env}:∀ (names:List (Str × NameKind)) (cs:List (Str × Addr)),(∀ y∈names,y.2=.free->∃ c,env.cells.lookup y.1=some c) ->
  (∀ x c,cs.lookup x=some c->env.cells.lookup x=some c) ->
  ∃ cl,(forIn names cs fun (p:Str × NameKind) (r:List (Str × Addr))=>if (p.2==NameKind.free)=true then (do let c <- cellOf env p.1; pure (ForInStep.yield ((p.1,c)::r))) else pure (ForInStep.yield r):Sem (List (Str × Addr)))=pure cl /\
   (∀ x c,cl.lookup x=some c->env.cells.lookup x=some c)/\(∀ x c,cs.lookup x=some c->cl.lookup x=some c)/\∀ y∈names,y.2=.free->cl.lookup y.1=env.cells.lookup y.1
 | [],cs,_,hc=>⟨cs,rfl,hc,fun _ _ h=>h,fun y hy=>absurd hy (by simp)⟩
 | (x,k)::r,cs,h,hc=>by
  have hr:∀ y∈r,y.2=.free->∃ c,env.cells.lookup y.1=some c:=fun y hy=>h y (List.mem_cons_of_mem _ hy)
  by_cases hk:k=.free
  ·subst hk
   obtain ⟨c,e⟩:=h (x,.free) List.mem_cons_self rfl
   have hc':∀ z d,((x,c)::cs).lookup z=some d->env.cells.lookup z=some d:=fun z d q=>by
    by_cases hz:z=x
    ·subst hz
     rw [List.lookup_cons_self] at q
     cases q; exact e
    ·rw [List.lookup_cons,show (z==x)=false from beq_eq_false_iff_ne.mpr hz] at q
     exact hc z d q
   obtain ⟨cl,e1,e2,e3,e4⟩:=lD r ((x,c)::cs) hr hc'
   refine ⟨cl,?_,e2,fun z d q=>?_,fun y hy hf=>?_⟩
   ·rw [List.forIn_cons]
    simp only [beq_self_eq_true,if_true]
    unfold cellOf
    rw [e]
    simp only [pure_bind]
    exact e1
   ·by_cases hz:z=x
    ·subst hz
     have:=hc z d q
     rw [e] at this
     exact e3 z d (by rw [List.lookup_cons_self]; exact this)
    ·exact e3 z d (by rw [List.lookup_cons,show (z==x)=false from beq_eq_false_iff_ne.mpr hz]; exact q)
   ·rcases List.mem_cons.mp hy with z|z
    ·subst z
     rw [e3 x c (List.lookup_cons_self),e]
    ·exact e4 y z hf
  ·have hb:(k==NameKind.free)=false:=beq_eq_false_iff_ne.mpr hk
   obtain ⟨cl,e1,e2,e3,e4⟩:=lD r cs hr hc
   refine ⟨cl,?_,e2,e3,fun y hy hf=>?_⟩
   ·rw [List.forIn_cons]
    simp only [hb,Bool.false_eq_true,if_false,pure_bind]
    exact e1
   ·rcases List.mem_cons.mp hy with z|z
    ·subst z; exact absurd hf hk
    ·exact e4 y z hf
theorem nv {env:Env} {scope:Scope} (h:∀ y∈scope.names,y.2=.free->∃ c,env.cells.lookup y.1=some c) :
  ∃ cl,closureFor scope env=pure cl/\(∀ x c,cl.lookup x=some c->env.cells.lookup x=some c)/\∀ y∈scope.names,y.2=.free->cl.lookup y.1=env.cells.lookup y.1:=by
 obtain ⟨cl,e1,e2,_,e4⟩:=lD (env:=env) scope.names [] h (fun x c q=>by cases q)
 refine ⟨cl,?_,e2,e4⟩
 unfold closureFor
 show ((forIn scope.names ([]:List (Str × Addr)) fun (p:Str × NameKind) (r:List (Str × Addr))=>if (p.2==NameKind.free)=true then (do let c <- cellOf env p.1; pure (ForInStep.yield ((p.1,c)::r))) else pure (ForInStep.yield r):Sem (List (Str × Addr)))>>=fun s=>pure s)=pure cl
 rw [e1]
 rfl
noncomputable def aF (X:Cx) (scope:Scope) (cl:List (Str × Addr)) (N':List Str) (fp:List Addr) (s3:Shared) (H3:Hp):Cx :=
 { X with N:=N',s₀:=s3,H₀:=H3,env:=compEnvC scope cl s3.heap.objs.size X.env,outer:=X.stack,stack:=X.stack,ex:=fp,fn:=fun x=>decide (scope.names.lookup x=some .cell),pn:=[],xe:=fun _ _=>False }
noncomputable def PF (X:Cx) (ifs:List Expr) (t:TT):Prop :=
 ∀ (pins:List (Addr × Obj)) (s:Shared) (σ:St) (H:Hp) (Q:Bool->Hp->Prop),Inv X pins σ H s->t σ H Q ->
  wpAny (model X.prog X.w) X.A (forIn ifs true fun c r=>if r=true then do let ok <- isTrue c X.env (eval c X.env); pure (ForInStep.yield ok) else pure (ForInStep.yield r)) (TP X pins σ Q) X.xe s
theorem tN {X:Cx}:PF X [] (fun _ H Q=>Q true H):=fun _ _ _ H _ I h=>wpAny_tests_nil ⟨H,I,h⟩
theorem qK {X:Cx} {c:Expr} {t:TT} (hc:PT X c t):PF X [c] t:=fun pins s σ H Q I h=>wpAny_tests_one (hc pins s σ H Q I h)
noncomputable def mj (k:Nat) (wi:TI) (g:TG) (tt:TT) (te:TE):TE:=fun σ H Q=>wi σ H fun J H1=>∀ l,H1 l=none->∃ W:Nat->Nat->Hp->Prop,(∃ m,W 0 m (upd H1 l (.lst [])))/\∀ i m H,W i m H ->
 (J.stop i H/\Q (.ref l) H)\/(J.go i H/\∀ x H',J.yld i H x H'->g x (σ++List.replicate k none) H' fun σ2 H2=>(∀ (j:Nat) v,(σ++List.replicate k none)[j]?=some (some v)->σ2[j]?=some (some v))/\tt σ2 H2 fun b H3 =>
  if b=true then te σ2 H3 fun y H4=>∃ xs,H4 l=some (.lst xs)/\xs.length < sizeLine/\∃ m',m' < m/\W (i+1) m' (upd H4 l (.lst (xs++[y]))) else ∃ m',m' < m/\W (i+1) m' H3)
theorem jn:∀ (names:List (Str × NameKind)) (n:Nat) (acc:List (Str × Addr)),cellsFrom n names acc=cellsFrom n names []++acc
 | [],_,_=>rfl
 | (x,k)::r,n,acc=>by
  unfold cellsFrom
  split
  ·rw [jn r (n+1) ((x,n)::acc),jn r (n+1) [(x,n)],List.append_assoc]; rfl
  ·exact jn r n acc
theorem kW {x:Str} {c:Addr}:∀ (names:List (Str × NameKind)) (n:Nat) (acc:List (Str × Addr)),(x,c)∈cellsFrom n names acc->(x,NameKind.cell)∈names\/(x,c)∈acc
 | [],_,_,h=>.inr h
 | (y,k)::r,n,acc,h=>by
  unfold cellsFrom at h
  split at h
  ·rename_i hk
   rcases kW r (n+1) _ h with z|z
   ·exact .inl (List.mem_cons_of_mem _ z)
   ·rcases List.mem_cons.mp z with e|e
    ·cases e
     rw [beq_iff_eq.mp hk]
     exact .inl List.mem_cons_self
    ·exact .inr e
  ·rcases kW r n acc h with z|z
   ·exact .inl (List.mem_cons_of_mem _ z)
   ·exact .inr z
theorem iU {α:Type}:∀ {l:List (Str × α)} {x:Str} {a:α},(l.map (·.1)).Nodup->(x,a)∈l->l.lookup x=some a
 | (y,b)::r,x,a,nd,h=>by
  obtain ⟨n1,n2⟩:=List.nodup_cons.mp nd
  rcases List.mem_cons.mp h with e|e
  ·cases e; exact List.lookup_cons_self
  ·have hne:x≠y:=fun z=>n1 (List.mem_map.mpr ⟨(x,a),e,z⟩)
   rw [List.lookup_cons,beq_eq_false_iff_ne.mpr hne]
   exact iU n2 e
theorem kP {scope:Scope} {n:Nat} {cl:List (Str × Addr)} (nd:(scope.names.map (·.1)).Nodup) (x:Str):(scope.names.lookup x=some .cell/\∃ c,(cellsFrom n scope.names cl).lookup x=some c/\(x,c)∈cellsFrom n scope.names [])\/(scope.names.lookup x≠some .cell/\(cellsFrom n scope.names cl).lookup x=cl.lookup x):=by
 rw [jn]
 by_cases h:scope.names.lookup x=some .cell
 ·refine .inl ⟨h,?_⟩
  obtain ⟨c,e⟩:=l7 (n:=n) h
  exact ⟨c,by rw [List.lookup_append,e]; rfl,mem_of_lookup e⟩
 ·refine .inr ⟨h,?_⟩
  cases e:(cellsFrom n scope.names []).lookup x with
  | none=>rw [List.lookup_append,e]; rfl
  | some c =>
   rcases kW _ _ _ (mem_of_lookup e) with z|z
   ·exact absurd (iU nd z) h
   ·cases z
theorem xP {M:Model} {A:Around} {E:Value->Shared->Prop} {s:Shared} {scope:Scope} {cl:List (Str × Addr)} {g:Addr} {env:Env} {qual:Str} {Q:Env->Shared->Prop}
  (hQ:Q { scope:=scope,locals:=s.heap.objs.size,globals:=g,cells:=cellsFrom (s.heap.objs.size+1) scope.names cl,qual:=qual,func:=none,code:=env.code,frame:=env.frame,builtins:=env.builtins } { s with heap:=pushCells (s.heap.push { cls:=.type "dict",data:=.dict #[] }) scope.names }) :
  wpAny M A (newFunctionEnv scope g cl [] qual none .none (some env)) Q E s:=by
 simp only [newFunctionEnv,Option.isSome_some,if_true]
 refine wpAny_bind (wpAny_alloc ?_)
 refine wpAny_bind (wpAny_layCells _ (fun name kind cells=>by cases hkc:kind==NameKind.cell <;> simp [hkc]) _ _ _ _ ?_)
 rw [show ({ s with heap:=s.heap.push { cls:=.type "dict",data:=.dict #[] } }:Shared).heap.objs.size=s.heap.objs.size+1 from Heap.size_push ..]
 refine wpAny_bind ?_
 rw [List.forIn_nil]
 exact wpAny_pure (wpAny_pure hQ)
structure eB (X:Cx) (scope:Scope) (N':List Str) (k:Nat):Prop where
 fr:∀ y∈scope.names,y.2=.free->X.env.kindOf y.1=some .cell\/X.env.kindOf y.1=some .free
 nd:(scope.names.map (·.1)).Nodup
 kind:scope.kind=.function
 names:∀ y∈scope.names,y.2=.local->scope.names.lookup y.1=some .local
 len:N'.length=X.N.length+k
 old:∀ (i:Nat) (x:Str),i < X.N.length->N'[i]?=some x->Vis (relabel scope X.env) x->X.N[i]?=some x/\(x,NameKind.free)∈scope.names/\(relabel scope X.env).names.lookup x≠some .local
section
variable {X:Cx} {scope:Scope} {N':List Str} {k:Nat} {cl:List (Str × Addr)} {pins:List (Addr × Obj)} {σ:St} {H:Hp} {s3 s4:Shared} {fp:List Addr}
theorem Cn (C:eB X scope N' k) (hc:X.calm=true) (I:Inv X pins σ H s3) (hf:∀ b∈fp,cG X pins H b) (hfl:∀ b∈fp,b < s3.heap.objs.size) (hcl1:∀ x c,cl.lookup x=some c->X.env.cells.lookup x=some c)
  (hcl2:∀ y∈scope.names,y.2=.free->cl.lookup y.1=X.env.cells.lookup y.1) {cl':List (Str × Addr)} (hcl':cl'=cellsFrom (s3.heap.objs.size+1) scope.names cl) (h':Heap) (hns:h'.Ns s3.heap.objs.size fun _=>none) (hk:∀ b o,s3.heap.get? b=some o->h'.get? b=some o) (hown:CellsOk h' (s3.heap.objs.size+1) (cellsFrom (s3.heap.objs.size+1) scope.names [])) :
  Inv (aF X scope cl' N' fp s3 H) [] (σ++List.replicate k none) H { s3 with heap:=h' }:=by
 have fpold:∀ b∈fp,∀ o,X.base.get? b≠some o:=fun b hb o e=>by
  rcases (hf b hb).2.2.2.1 with z|z
  ·exact I.ok.noex b o e z
  ·exact absurd (Nat.lt_of_lt_of_le (Heap.lt_size (I.ok.bs b o e).1) z) (Nat.lt_irrefl _)
 have own:∀ x c,cl'.lookup x=some c->(scope.names.lookup x=some .cell/\(x,c)∈cellsFrom (s3.heap.objs.size+1) scope.names []/\s3.heap.objs.size < c/\h'.IsCell c none)\/(scope.names.lookup x≠some .cell/\cl.lookup x=some c):=fun x c e=>by
  rw [hcl'] at e
  rcases kP (n:=s3.heap.objs.size+1) (cl:=cl) C.nd x with ⟨h1,c',e1,e2⟩|⟨h1,e1⟩
  ·rw [e1] at e; cases e
   have:=hown.empty x c e2
   exact .inl ⟨h1,e2,this.2,this.1⟩
  ·rw [e1] at e; exact .inr ⟨h1,e⟩
 have fre:∀ y∈scope.names,y.2=.free->cl'.lookup y.1=X.env.cells.lookup y.1:=fun y hy hf=>by
  rw [hcl']
  rcases kP (n:=s3.heap.objs.size+1) (cl:=cl) C.nd y.1 with ⟨h1,_⟩|⟨_,e1⟩
  ·have:=iU C.nd (show (y.1,y.2)∈scope.names from hy)
   rw [h1,hf] at this; cases this
  ·rw [e1]; exact hcl2 y hy hf
 have ncl:∀ x c,cl.lookup x=some c->c < s3.heap.objs.size:=fun x c e=>by
  obtain ⟨v,o,ho,_⟩:=I.cell x c (hcl1 x c e)
  exact Heap.lt_size ho
 have ok:(aF X scope cl' N' fp s3 H).Ok:=by
  refine ⟨I.ok.mod,C.kind,I.ok.glob,I.ok.blt,Nat.le_refl _,fun x y c h1 h2=>?_,fun x hx=>?_,fun x c hfn e=>?_,I.ok.hd,I.ok.frames,.inl rfl,fun b hb=>?_,I.bs,Nat.le_trans I.ok.bsz I.sz,fun b o e hb=>fpold b hb o e,fun b hb hb2=>?_,I.stack,I.k6⟩
  ·rcases own x c h1 with ⟨a1,a2,a3,a4⟩|⟨a1,a2⟩
   ·rcases own y c h2 with ⟨b1,b2,b3,b4⟩|⟨b1,b2⟩
    ·exact name_of_addr hown.apart a2 b2
    ·exact absurd (ncl y c b2) (Nat.lt_asymm a3)
   ·rcases own y c h2 with ⟨b1,b2,b3,b4⟩|⟨b1,b2⟩
    ·exact absurd (ncl x c a2) (Nat.lt_asymm b3)
    ·exact I.ok.inj x y c (hcl1 x c a2) (hcl1 y c b2)
  ·have hx':(relabel scope X.env).names.lookup x=some .cell\/(relabel scope X.env).names.lookup x=some .free:=hx
   have:(x,NameKind.free)∈scope.names\/(x,NameKind.cell)∈scope.names:=by
    have all:∀ (ns:List (Str × NameKind)),((ns.map fun (n,k)=>if (k==.free&&X.env.scope.kind==.function&&X.env.kindOf n==some .cell) then (n,NameKind.cell) else (n,k)).lookup x=some .cell\/(ns.map fun (n,k)=>if (k==.free&&X.env.scope.kind==.function&&X.env.kindOf n==some .cell) then (n,NameKind.cell) else (n,k)).lookup x=some .free)->(x,NameKind.free)∈ns\/(x,NameKind.cell)∈ns:=by
     intro ns
     induction ns with
     | nil=>intro h; rcases h with h|h <;> simp at h
     | cons y r ih =>
      intro h
      obtain ⟨n,kd⟩:=y
      have hr:=ih
      simp only [List.map_cons] at h
      by_cases hxn:x=n
      ·subst hxn
       by_cases hkf:kd=.free
       ·subst hkf; exact .inl List.mem_cons_self
       ·have hb:(kd==NameKind.free)=false:=beq_eq_false_iff_ne.mpr hkf
        simp only [hb,Bool.false_and,Bool.false_eq_true,if_false,List.lookup_cons_self] at h
        rcases h with h|h
        ·rw [Option.some.inj h]; exact .inr List.mem_cons_self
        ·exact absurd (Option.some.inj h) hkf
      ·have hb:(x==n)=false:=beq_eq_false_iff_ne.mpr hxn
       refine (hr ?_).imp (List.mem_cons_of_mem _) (List.mem_cons_of_mem _)
       by_cases hcnd:(kd==NameKind.free&&X.env.scope.kind==.function&&X.env.kindOf n==some .cell)=true
       ·simp only [if_pos hcnd,List.lookup_cons,hb] at h
        exact h
       ·simp only [if_neg hcnd,List.lookup_cons,hb] at h
        exact h
    exact all scope.names hx'
   rcases this with this|this
   ·obtain ⟨c,e⟩:=I.ok.has x (C.fr _ this rfl)
    exact ⟨c,(fre _ this rfl).trans e⟩
   ·rcases kP (n:=s3.heap.objs.size+1) (cl:=cl) C.nd x with ⟨h1,c',e1,e2⟩|⟨h1,_⟩
    ·exact ⟨c',by show cl'.lookup x=_; rw [hcl']; exact e1⟩
    ·exact absurd (iU C.nd this) h1
  ·rcases own x c e with ⟨a1,a2,a3,a4⟩|⟨a1,a2⟩
   ·exact Nat.le_of_lt a3
   ·exact absurd (of_decide_eq_true hfn) a1
  ·obtain ⟨f0,f1,f2,f3,f4,f5⟩:=hf b hb
   refine ⟨?_,fun x c e=>?_⟩
   rotate_left
   ·rcases own x c e with ⟨a1,a2,a3,a4⟩|⟨a1,a2⟩
    ·exact fun z=>absurd (hfl b hb) (by rw [<- z]; exact Nat.lt_asymm a3)
    ·exact f4 x c (hcl1 x c a2)
   intro z
   have hz:b=s3.heap.objs.size:=z
   exact absurd (hfl b hb) (by rw [hz]; exact Nat.lt_irrefl _)
  ·obtain ⟨f0,f1,f2,f3,f4,f5⟩:=hf b hb
   rcases List.mem_cons.mp (I.lO b hb2) with z|z
   ·exact f1 z
   ·exact f2 z
 refine ⟨ok,rfl,I.bare,Un.kept hk,⟨fun _=>none,hns,fun i x v e1 e2 e3=>?_⟩,fun x c e=>?_,I.hok.fresh (Nat.le_refl _),fun x c e=>?_,fun p hp=>absurd (show p∈([]:List (Addr × Obj)) from hp) (by simp),I.hok.kept hk,?_⟩
 ·have hi:i < σ.length:=by
   by_cases hi:i < σ.length
   ·exact hi
   ·rw [List.getElem?_append_right (by omega),List.getElem?_replicate] at e2
    split at e2 <;> cases e2
  rw [List.getElem?_append_left hi] at e2
  obtain ⟨o1,o2,o3⟩:=C.old i x (by rw [<- I.len]; exact hi) e1 e3
  obtain ⟨m,hn,hl⟩:=I.loc
  have hkk:=C.fr _ o2 rfl
  obtain ⟨u,r,l⟩:=hl i x v o1 e2 (by rcases hkk with q|q; exact .inr (.inl q); exact .inr (.inr q))
  refine ⟨u,r,?_⟩
  rcases l with ⟨q,_⟩|⟨q,c,e,z⟩
  ·rcases hkk with q'|q' <;> (rw [q] at q'; cases q')
  ·refine .inr ⟨?_,c,(fre _ o2 rfl).trans e,?_⟩
   ·rcases e3 with e3|e3|e3
    ·exact absurd e3 o3
    ·exact .inl e3
    ·exact .inr e3
   ·obtain ⟨o,ho,hd⟩:=z
    exact ⟨o,hk _ _ ho,hd⟩
 ·rcases own x c e with ⟨a1,a2,a3,a4⟩|⟨a1,a2⟩
  ·exact ⟨none,a4⟩
  ·obtain ⟨v,o,ho,hd⟩:=I.cell x c (hcl1 x c a2)
   exact ⟨v,o,hk _ _ ho,hd⟩
 ·rcases own x c e with ⟨a1,a2,a3,a4⟩|⟨a1,a2⟩
  ·exact I.hok.fresh (Nat.le_of_lt a3)
  ·exact I.freeC x c (hcl1 x c a2)
 ·show (σ++List.replicate k none).length=N'.length
  rw [List.length_append,List.length_replicate,I.len,C.len]
theorem nW {elt iter tg:Expr} {ifs:List Expr} {pos:Pos} {g:TG} {tt:TT} {te:TE} {it:Addr} {tn:Nat->Heap->Prop} {J:It} {s2:Shared} {Q:VK} {E:Value->Shared->Prop} (C:eB X scope N' k) (hc:X.calm=true)
  (hg:∀ cl fp s3 H3,PG (aF X scope cl N' fp s3 H3) tg g) (htt:∀ cl fp s3 H3,PF (aF X scope cl N' fp s3 H3) ifs tt) (hte:∀ cl fp s3 H3,PE (aF X scope cl N' fp s3 H3) elt te)
  (hcl1:∀ x c,cl.lookup x=some c->X.env.cells.lookup x=some c) (hcl2:∀ y∈scope.names,y.2=.free->cl.lookup y.1=X.env.cells.lookup y.1)
  (I2:Inv X pins σ H s2) (T:Turn X.prog X.w X.K tg J fp it tn) (st2:tn 0 s2.heap) (f2:∀ b∈fp,cG X pins H b)
  (h2:∀ l,H l=none->∃ W:Nat->Nat->Hp->Prop,(∃ m,W 0 m (upd H l (.lst [])))/\∀ i m H,W i m H ->
   (J.stop i H/\Q (.ref l) H)\/(J.go i H/\∀ x H',J.yld i H x H'->g x (σ++List.replicate k none) H' fun σ2 H2=>(∀ (j:Nat) v,(σ++List.replicate k none)[j]?=some (some v)->σ2[j]?=some (some v))/\tt σ2 H2 fun b H3 =>
    if b=true then te σ2 H3 fun y H4=>∃ xs,H4 l=some (.lst xs)/\xs.length < sizeLine/\∃ m',m' < m/\W (i+1) m' (upd H4 l (.lst (xs++[y]))) else ∃ m',m' < m/\W (i+1) m' H3))
  {R:Value->Addr->Result->Shared->Prop} (hR:∀ l c H' s' m,Inv X pins σ H' s'->Q (.ref l) H'->s'.heap.Ns c m->cG X pins H' c->R (.ref l) c (.ok .next) s') :
  wpAny (model X.prog X.w) X.A (newList []) (fun acc s₃=>wpAny (model X.prog X.w) X.A (newFunctionEnv scope X.env.globals cl [] X.env.qual none .none (some X.env)) (fun cenv s₄ =>
   codeAny (model X.prog X.w) X.A (.compStart (.ListComp elt [⟨tg,iter,ifs,0⟩] scope pos) 0 (.ref it) acc { cenv with scope:=relabel scope X.env }) (R acc cenv.locals) s₄) E s₃) E s2:=by
 refine wpAny_newObj_type ?_
 have hl0:H s2.heap.objs.size=none:=I2.hok.fresh (Nat.le_refl _)
 obtain ⟨W,⟨m0,w0⟩,turn⟩:=h2 s2.heap.objs.size hl0
 have I3:Inv X pins σ (upd H s2.heap.objs.size (.lst [])) { s2 with heap:=s2.heap.push { cls:=.type "list",data:=.seq ([]:List Value).toArray } } :=
  I2.laid (t':=s2.toks) (fun b u e=>Heap.get?_push_of_some _ e) (Nat.le_refl _) ⟨by show 0<=_; omega,[],0,.nil,Heap.get?_push_size _ rfl⟩
 have obj2:∀ b∈fp,∃ o,s2.heap.get? b=some o/\∀ v,o.data≠.cell v:=T.obj _ _ st2
 have lt2:∀ b∈fp,b < s2.heap.objs.size:=fun b hb=>let ⟨o,e,_⟩:=obj2 b hb; Heap.lt_size e
 have f3:∀ b∈fp,cG X pins (upd H s2.heap.objs.size (.lst [])) b:=fun b hb=>⟨by rw [aB (Nat.ne_of_lt (lt2 b hb))]; exact (f2 b hb).1,(f2 b hb).2⟩
 generalize hs3:({ s2 with heap:=s2.heap.push { cls:=.type "list",data:=.seq ([]:List Value).toArray } }:Shared)=s3 at I3 ⊢
 have st3:tn 0 s3.heap:=T.keep _ _ _ st2 fun b hb o e=>by rw [<- hs3]; exact Heap.get?_push_of_some _ e
 generalize hH3:upd H s2.heap.objs.size (.lst [])=H3 at I3 w0 f3
 generalize s2.heap.objs.size=l at turn ⊢ w0
 clear hs3 hH3
 have obj3:∀ b∈fp,∃ o,s3.heap.get? b=some o/\∀ v,o.data≠.cell v:=T.obj _ _ st3
 have lt3:∀ b∈fp,b < s3.heap.objs.size:=fun b hb=>let ⟨o,e,_⟩:=obj3 b hb; Heap.lt_size e
 refine xP ?_
 have hown:=cellsFrom_ok scope.names (s3.heap.push { cls:=.type "dict",data:=.dict #[] }) (s3.heap.objs.size+1) [] ⟨fun _ _ hm=>(nomatch hm),List.Pairwise.nil⟩ (by rw [Heap.size_push]; exact Nat.le_refl _)
 rw [Heap.size_push] at hown
 have hns₁:(pushCells (s3.heap.push { cls:=.type "dict",data:=.dict #[] }) scope.names).Ns s3.heap.objs.size fun _=>none:=(Heap.Ns.new s3.heap (.type "dict")).keeps (pushCells_keeps _ _)
 have hk1:∀ b o,s3.heap.get? b=some o->(pushCells (s3.heap.push { cls:=.type "dict",data:=.dict #[] }) scope.names).get? b=some o:=fun b o e=>pushCells_keeps _ _ b o (Heap.get?_push_of_some _ e)
 generalize hcl':cellsFrom (s3.heap.objs.size+1) scope.names cl=cl'
 generalize pushCells (s3.heap.push { cls:=.type "dict",data:=.dict #[] }) scope.names=h₁ at hown hns₁ hk1
 have I4:Inv (aF X scope cl' N' fp s3 H3) [] (σ++List.replicate k none) H3 { s3 with heap:=h₁ }:=Cn C hc I3 f3 lt3 hcl1 hcl2 hcl'.symm h₁ hns₁ hk1 hown
 have st4:tn 0 h₁:=T.keep _ _ _ st3 fun b _ o e=>hk1 b o e
 have stat:∀ {H':Hp},(∀ b∈fp,H' b=none)->∀ b∈fp,cG (aF X scope cl' N' fp s3 H3) [] H' b:=fun {H'} hn b hb =>
  ⟨hn b hb,(I4.ok.exf b hb).1,I4.ok.exfs b hb,.inl hb,(I4.ok.exf b hb).2,fun p hp=>absurd (show p∈([]:List (Addr × Obj)) from hp) (by simp)⟩
 have loop:∀ s4:Shared,s4={ s3 with heap:=h₁ } ->
   codeAny (model X.prog X.w) X.A (.compLoop (.ListComp elt [⟨tg,iter,ifs,0⟩] scope pos) 0 (.ref it) (.ref l) (compEnvC scope cl' s3.heap.objs.size X.env)) (R (.ref l) s3.heap.objs.size) s4:=by
  rintro s4 rfl
  refine Ak (env:=(aF X scope cl' N' fp s3 H3).env) (fun n s'=>∃ i H',Inv (aF X scope cl' N' fp s3 H3) [] (σ++List.replicate k none) H' s'/\tn i s'.heap/\(∀ b∈fp,H' b=none)/\W i n H') ?_ m0 ⟨0,H3,I4,st4,fun b hb=>(f3 b hb).1,w0⟩
  rintro n s5 ⟨i,H5,I5,st5,fr5,w5⟩
  rcases turn i n H5 w5 with ⟨stop,qn⟩|⟨go,step⟩
  ·refine thn (T.done (aF X scope cl' N' fp s3 H3) rfl rfl rfl hc i [] s5 _ H5 _ I5 (stat fr5) st5 stop) fun r s6 ⟨hr,I6⟩=>?_
   subst hr
   obtain ⟨m,hnm,_⟩:=I6.loc
   have I7:Inv X pins σ H5 s6:=I3.mK (ch:=fp) I6.os I6.base I6.hok I6.bare fun b hb=>⟨(f3 b hb).2.2.2.1,(f3 b hb).2.1,(f3 b hb).2.2.2.2.1,(f3 b hb).2.2.2.2.2⟩
   exact hR l _ H5 s6 m I7 qn hnm (I3.fN (Nat.le_refl _) I6.free)
  ·refine thn (T.item (aF X scope cl' N' fp s3 H3) rfl rfl rfl hc i [] s5 _ H5 _ I5 (stat fr5) st5 go) fun r s6 ⟨u,hr,h6⟩=>?_
   subst hr
   refine thn h6 fun _ s7 ⟨x,H7,I7,r7,y7,st7,fr7⟩=>?_
   have I7':=I7.pinned (stat fr7) (T.obj _ _ st7)
   refine thn (hg cl' fp s3 H3 _ s7 _ H7 x u _ I7' r7 (step x H7 y7)) fun _ s8 ⟨σ8,H8,I8,w8,q8⟩=>?_
   refine thn (htt cl' fp s3 H3 _ s8 σ8 H8 _ I8 q8) fun b s9 ⟨H9,I9,q9⟩=>?_
   have again:∀ {H':Hp} {s':Shared},Inv (aF X scope cl' N' fp s3 H3) ([]++g_ fp s7.heap) σ8 H' s'->(∃ m',m' < n/\W (i+1) m' H') ->
     ∃ m,m < n/\∃ i H',Inv (aF X scope cl' N' fp s3 H3) [] (σ++List.replicate k none) H' s'/\tn i s'.heap/\(∀ b∈fp,H' b=none)/\W i m H':=fun {H' s'} I' ⟨m',hm,w'⟩=>by
    refine ⟨m',hm,i+1,H',(I'.iT).weak (by rw [I'.len]; exact I4.len) w8,T.keep _ _ _ st7 fun b hb o e=>(I'.pin (b,o) (List.mem_append_right _ (List.mem_append_right _ (jL hb e)))).1,fun b hb=>?_,w'⟩
    obtain ⟨o,e,d⟩:=T.obj _ _ st7 b hb
    exact (I'.pin (b,o) (List.mem_append_right _ (List.mem_append_right _ (jL hb e)))).2.1
   cases b with
   | false=>exact again I9 (by simpa using q9)
   | true =>
    rw [if_pos rfl]
    rw [if_pos rfl] at q9
    refine thn (hte cl' fp s3 H3 _ s9 σ8 H9 _ I9 q9) fun y s10 ⟨yv,H10,I10,r10,xs,hl10,hz,q10⟩=>?_
    refine thn (o8 (X:=aF X scope cl' N' fp s3 H3) _ s10 σ8 H10 (.ref l) [yv] (.ref l) [y] (fun _ H'=>∃ m',m' < n/\W (i+1) m' H') I10 rfl (.cons r10 .nil) ⟨l,xs,yv,rfl,rfl,hl10,hz,q10⟩) fun _ s11 ⟨_,H11,I11,_,q11⟩=>again I11 q11
 exact codeAny_compStart_list (loop _ rfl) (T.self _ 0 _ _ _ st4 (loop _ rfl))
theorem Cp {elt iter tg:Expr} {ifs:List Expr} {pos:Pos} {wi:TI} {g:TG} {tt:TT} {te:TE} (C:eB X scope N' k) (hc:X.calm=true) (hi:PI X tg iter wi)
  (hg:∀ cl fp s3 H3,PG (aF X scope cl N' fp s3 H3) tg g) (htt:∀ cl fp s3 H3,PF (aF X scope cl N' fp s3 H3) ifs tt) (hte:∀ cl fp s3 H3,PE (aF X scope cl N' fp s3 H3) elt te)
  (hs:∀ x,foldedSetIterable iter X.env x=pure x:=by intro _; rfl):PE X (.ListComp elt [⟨tg,iter,ifs,0⟩] scope pos) (mj k wi g tt te):=by
 intro pins s σ H Q I h
 rw [eval_ListComp]
 obtain ⟨cl,e1,e2,e3⟩:=nv (env:=X.env) (scope:=scope) fun y hy hf=>I.ok.has y.1 (C.fr y hy hf)
 refine wpAny_comprehension_free (use:=none) rfl hs e1 C.kind C.names (thn (hi pins s σ H _ I h) fun v s1 h1=>thn h1 fun itv s2 h2=>?_)
 obtain ⟨it,fp,tn,J,H2,e,I2,T,st2,f2,h2⟩:=h2
 subst e
 refine nW (R:=fun acc c=>compPost (model X.prog X.w) X.A X.xe none (EP X pins σ Q) acc c) C hc hg htt hte e2 e3 I2 T st2 f2 h2 fun l c H' s' m I' q hn fc=>?_
 obtain ⟨f0,f1,f2,f3,f4,f5⟩:=fc
 exact ⟨m,hn,fun h' hsb=>⟨.ref l,H',I'.turned (t':=s'.toks) (fun b o hb e=>(hsb.2 b hb).trans e) f0 f1 f3 f4 f5,rfl,q⟩⟩
theorem BD {elt iter tg:Expr} {ifs:List Expr} {pos:Pos} {wi:TI} {g:TG} {tt:TT} {te:TE} {j:Nat} {y:Str} {py spos:Pos} (C:eB X scope N' k) (hc:X.calm=true) (hi:PI X tg iter wi)
  (hg:∀ cl fp s3 H3,PG (aF X scope cl N' fp s3 H3) tg g) (htt:∀ cl fp s3 H3,PF (aF X scope cl N' fp s3 H3) ifs tt) (hte:∀ cl fp s3 H3,PE (aF X scope cl N' fp s3 H3) elt te)
  (hN:X.N.Nodup) (hj:X.N[j]?=some y) (hy:X.env.scope.names.lookup y=some .local)
  (hsw:swapsWith (.ListComp elt [⟨tg,iter,ifs,0⟩] scope pos) (some (.Name y py)) spos.line X.env=pure true)
  (hs:∀ x,foldedSetIterable iter X.env x=pure x:=by intro _; rfl):PS X (.Assign [.Name y py] (.ListComp elt [⟨tg,iter,ifs,0⟩] scope pos) spos) (kh (mj k wi g tt te) (gQ j)):=by
 intro pins s σ H D I h
 rw [exec_Assign_Name_used _ _ _ _ hsw]
 refine wpAny_bind (wpAny_standAt (wpAny_bind ?_))
 show wpAny _ X.A (do let _ <- comprehension (.ListComp elt [⟨tg,iter,ifs,0⟩] scope pos) scope X.env _ (newList []) false (eval iter X.env) (some (assign (.Name y py) X.env))) _ _ s
 obtain ⟨cl,e1,e2,e3⟩:=nv (env:=X.env) (scope:=scope) fun y hy hf=>I.ok.has y.1 (C.fr y hy hf)
 refine wpAny_bind (wpAny_mono (wpAny_comprehension_free (use:=some (assign (.Name y py) X.env)) (Q:=fun _ s'=>SP X pins D .next s') rfl hs e1 C.kind C.names
  (thn (hi pins s σ H _ I h) fun v s1 h1=>thn h1 fun itv s2 h2=>?_)) (fun _ s' hq=>wpAny_pure (wpAny_pure hq)) fun _ _ e=>e)
 obtain ⟨it,fp,tn,J,H2,e,I2,T,st2,f2,h2⟩:=h2
 subst e
 refine nW (Q:=fun x H1=>gQ j x σ H1 D.nx) (R:=fun acc c=>compPost (model X.prog X.w) X.A X.xe (some (assign (.Name y py) X.env)) (fun _ s'=>SP X pins D .next s') acc c) C hc hg htt hte e2 e3 I2 T st2 f2 h2 fun l c H' s' m I' q hn fc=>?_
 obtain ⟨f0,f1,f2,f3,f4,f5⟩:=fc
 show wpAny _ X.A (assign (.Name y py) X.env (.ref l)) _ _ _
 refine wpAny_assign_Name (kJ I' hN hj (.inl hy) (v:=.ref l) rfl (fun s'' I'' ch=>?_) (.inr hy))
 obtain ⟨a,hsb,ha⟩:=ch
 have hac:c≠a:=by
  rcases ha with z|z
  ·rw [z]; exact f1
  ·exact fun w=>f4 y a z w.symm
 refine ⟨m,hn.sameBut hsb hac,fun h' hsb2=>⟨_,H',I''.turned (t':=s''.toks) (fun b o hb e=>(hsb2.2 b hb).trans e) f0 f1 f3 f4 f5,q⟩⟩
end
end L2

namespace L2
open PySem PySem.Spec PyProof.Rows
structure Xc (B:Heap) (stack:List Env) (e:Addr) (h:Heap):Prop where
 stays:B.StaysIn h
 new:B.get? e=none
 frames:h.FunFrames B stack
noncomputable def Cov (B:Heap) (stack:List Env) (s:Shared) (H':Hp) (h:Heap):Prop:=∀ b o,h.get? b=some o->(H' b≠none\/∃ o',s.heap.get? b=some o')->b ∉ frs stack->B.get? b=some o
noncomputable def CXg (st:Heap->Heap->Addr->Addr->Prop) (P:Program) (w:World):CXT:=fun stack H s E v s' =>
 ∃ e C B H',v=.ref e/\s'.os=s.os/\AllBare s'.gens/\Un (frs stack) [] H H' s.heap s'.heap/\HOk P w H' s'.heap/\Xc B stack e s'.heap/\st B s'.heap e C/\Cov B stack s H' s'.heap/\E (.ref C) none H'
noncomputable def stF (_:Heap) (h:Heap) (e C:Addr):Prop:=∃ t,h.get? e=some { cls:=.ref C,data:=.fields #[.ref t,.none,.none,.none,.bool false,.none] }
noncomputable def stT (B:Heap) (h:Heap) (e C:Addr):Prop:=∃ a0,h.TracedW B e (.ref C) a0
abbrev CXe (P:Program) (w:World):CXT:=CXg stT P w
abbrev CXr (P:Program) (w:World):CXT:=CXg stF P w
theorem qE {P:Program} {w:World} {H:Hp} {h:Heap} {b:Addr} {ob:HO} (ok:HOk P w H h) (q:H b=some ob):∃ o,h.get? b=some o:=by
 have x:=ok b ob q
 clear q ok
 induction ob with
 | lst xs=>obtain ⟨_,_,_,_,e⟩:=x; exact ⟨_,e⟩
 | tup xs=>obtain ⟨_,_,_,_,e,_⟩:=x; exact ⟨_,e⟩
 | dK kvs=>obtain ⟨_,_,_,_,_,_,_,e,_⟩:=x; exact ⟨_,e⟩
 | dT kvs=>obtain ⟨_,_,_,_,_,_,_,e,_⟩:=x; exact ⟨_,e⟩
 | set S n=>obtain ⟨_,_,_,_,e,_⟩:=x; exact ⟨_,e⟩
 | ins C dx fs=>obtain ⟨_,_,_,e,_⟩:=x; exact ⟨_,e⟩
 | own y=>exact x
 | xd fs=>obtain ⟨_,⟨_,_,_,e,_⟩,_⟩:=x; exact ⟨_,e⟩
 | rng lo hi=>obtain ⟨_,_,_,e⟩:=x; exact ⟨_,e⟩
 | frz o u ih=>exact ⟨o,x.1⟩
 | tbl ps=>exact ⟨_,x⟩
 | met f y=>exact ⟨_,x⟩
 | ext φ=>exact x.2.1
section
variable {P:Program} {w:World} {B h h':Heap} {stack:List Env} {e C:Addr} {s:Shared} {H H':Hp}
theorem jR (hf:∀ b∈frs stack,∃ o,s.heap.get? b=some o/\H b=none) (u:Un (frs stack) [] H H' s.heap h) (ok:HOk P w H' h) (fr:h.FunFrames B stack) (cv:Cov B stack s H' h) (sb:B.StaysIn h') (up:h.UpToSlots h') :
  Un (frs stack) [] H H' s.heap h'/\HOk P w H' h'/\Cov B stack s H' h':=by
 have nf:∀ {b:Addr},H' b≠none->b ∉ frs stack:=fun {b} hb m=>by
  obtain ⟨o,e1,e2⟩:=hf b m
  exact hb (u.free b o e1 e2 (by simp))
 have old:∀ {b:Addr} {o:Obj},h.get? b=some o->(H' b≠none\/∃ o',s.heap.get? b=some o')->b ∉ frs stack->h'.get? b=some o:=fun {b o} e1 e2 e3=>sb b o (cv b o e1 e2 e3)
 have fram:∀ {b:Addr} {o:Obj},b∈frs stack->h.get? b=some o->∃ sl,h'.get? b=some { o with slots:=sl }:=fun {b o} m e1=>by
  obtain ⟨_,o',e2,hd⟩:=fr.mem m
  rw [e1] at e2; cases e2
  exact up b o e1 hd
 refine ⟨⟨fun b o e n hb _=>?_,fun b o e n hb _=>?_,u.free,fun b o e _=>?_,u.tups,u.frzs,u.tbls⟩,fun a o ea=>?_,fun b o e1 e2 e3=>?_⟩
 ·exact old (u.keep b o e n hb (by simp)) (.inr ⟨o,e⟩) hb
 ·obtain ⟨sl,e1⟩:=u.slot b o e n hb (by simp)
  obtain ⟨sl2,e2⟩:=fram hb e1
  exact ⟨sl2,e2⟩
 ·obtain ⟨o1,e1⟩:=u.there b o e (by simp)
  by_cases hb:b∈frs stack
  ·obtain ⟨sl,e2⟩:=fram hb e1
   exact ⟨_,e2⟩
  ·exact ⟨o1,old e1 (.inr ⟨o,e⟩) hb⟩
 ·refine (ok a o ea).stay (fun b v hb q=>?_) (fun _ q=>q) fun _ _ q=>q
  have hne:H' b≠none:=by
   rcases hb with rfl|hb
   ·rw [ea]; exact fun z=>by cases z
   ·rw [hb]; exact fun z=>by cases z
  exact old q (.inl hne) (nf hne)
 ·-- what is there now was there
  have:∃ o1,h.get? b=some o1:=by
   rcases e2 with z|⟨o2,z⟩
   ·cases q:H' b with
    | none=>exact absurd q z
    | some ob=>exact qE ok q
   ·exact u.there b o2 z (by simp)
  obtain ⟨o1,e4⟩:=this
  have e5:=cv b o1 e4 e2 e3
  have e6:=sb b o1 e5
  rw [e1] at e6; cases e6
  exact e5
end
section
variable {CX:CXT} {P:Program} {w:World} {K:PySem.W.Frag} {mg:Str->Option Value} {base:Heap} {N:List Str} {qual:Str} {scope:Scope} {f:Addr} {cd:Value} {A:Around} {outer:List Env} {s:Shared} {H:Hp} {E E':XK}
theorem je {X:Cx} {pins:List (Addr × Obj)} {σ:St} {H:Hp} {s:Shared} (I:Inv X pins σ H s):∀ b∈frs X.stack,∃ o,s.heap.get? b=some o/\H b=none:=fun b hb=>by
 obtain ⟨_,o,e,_⟩:=I.stack.mem hb
 exact ⟨o,e,I.k6 b hb⟩
theorem tP {st:Heap->Heap->Addr->Addr->Prop} (hst:∀ B h e C,st B h e C->stF B h e C\/stT B h e C) (hE:∀ C H,E' (.ref C) none H->E (.ref C) none H) {pins:List (Addr × Obj)} {σ:St} {H1:Hp} {s1:Shared} {v:Value} {s':Shared} (hA:A.frames=some outer)
  (I:Inv (cH (CXe P w) P w K mg base N qual scope f cd A outer s H E) pins σ H1 s1) (hx:CXg st P w (cH (CXe P w) P w K mg base N qual scope f cd A outer s H E).stack H1 s1 E' v s'):(cH (CXe P w) P w K mg base N qual scope f cd A outer s H E).xe v s':=by
 obtain ⟨e,C,B,H',rfl,h1,h2,u,ok,xc,hs,cv,hE'⟩:=hx
 have hstk:(cH (CXe P w) P w K mg base N qual scope f cd A outer s H E).stack=envOfC qual scope s.heap.objs.size f cd::outer:=rfl
 have hfr:(A.deeper (envOfC qual scope s.heap.objs.size f cd)).frames=some (envOfC qual scope s.heap.objs.size f cd::outer):=Around.frames_deeper hA
 have hf:(envOfC qual scope s.heap.objs.size f cd).frame=some s.heap.objs.size:=rfl
 have fin:∀ (h'':Heap) (a0:Value),Heap.LeftW B (envOfC qual scope s.heap.objs.size f cd::outer) e (.ref C) a0 s'.heap h''->CXe P w outer H s E (.ref e) { s' with heap:=h'' }:=fun h'' a0 hL=>by
  obtain ⟨k1,k2,k3,k4⟩:=hL
  obtain ⟨u2,ok2,cv2⟩:=jR (je I) u ok xc.frames cv k1 k4
  have nL:∀ {b:Addr} {o:Obj},s.heap.get? b=some o->b≠s.heap.objs.size:=fun {b o} q=>Nat.ne_of_lt (Heap.lt_size q)
  have mem:∀ {b:Addr},b∈frs (envOfC qual scope s.heap.objs.size f cd::outer) ↔ b=s.heap.objs.size\/b∈frs outer:=fun {b}=>by
   unfold frs
   rw [List.filterMap_cons,hf]
   exact List.mem_cons
  have ub:Un (frs outer) [] H H1 s.heap s1.heap:=I.base
  refine ⟨e,C,B,H',rfl,h1.trans I.os,h2,⟨fun b o q n hb _=>?_,fun b o q n hb _=>?_,fun b o q n _=>?_,fun b o q _=>?_,fun b xs q=>?_,fun b o u q=>?_,fun b ps q=>?_⟩,ok2,⟨k1,xc.new,k2.2.2⟩,⟨a0,k3⟩,fun b o q1 q2 q3=>?_,hE _ _ hE'⟩
  ·exact u2.keep b o (ub.keep b o q n hb (by simp)) (ub.free b o q n (by simp)) (fun z=>(mem.mp z).elim (nL q) hb) (by simp)
  ·obtain ⟨sl,q1⟩:=ub.slot b o q n hb (by simp)
   obtain ⟨sl2,q2⟩:=u2.slot b _ q1 (ub.free b o q n (by simp)) (mem.mpr (.inr hb)) (by simp)
   exact ⟨sl2,q2⟩
  ·obtain ⟨o1,q1⟩:=ub.there b o q (by simp)
   exact u2.free b o1 q1 (ub.free b o q n (by simp)) (by simp)
  ·obtain ⟨o1,q1⟩:=ub.there b o q (by simp)
   exact u2.there b o1 q1 (by simp)
  ·exact u2.tups b xs (ub.tups b xs q)
  ·exact u2.frzs b o u (ub.frzs b o u q)
  ·obtain ⟨m1,q1⟩:=ub.tbls b ps q
   obtain ⟨m2,q2⟩:=u2.tbls b _ q1
   exact ⟨m1++m2,by rw [<- Array.append_assoc]; exact q2⟩
  ·have hfree:H' s.heap.objs.size=none:=by
    obtain ⟨oL,eL,hL⟩:=je I s.heap.objs.size (mem.mpr (.inl rfl))
    exact u2.free _ oL eL hL (by simp)
   refine cv2 b o q1 ?_ fun z=>?_
   ·rcases q2 with z|⟨o',z⟩
    ·exact .inl z
    ·exact .inr (ub.there b o' z (by simp))
   ·rcases mem.mp z with z|z
    ·rcases q2 with y|⟨o',y⟩
     ·rw [z] at y; exact y hfree
     ·exact nL y z
    ·exact q3 z
 show wpAny (model P w) (A.deeper (envOfC qual scope s.heap.objs.size f cd)) (leaving (envOfC qual scope s.heap.objs.size f cd) (.ref e)) (fun _ s''=>CXe P w outer H s E (.ref e) s'') (fun e' s''=>CXe P w outer H s E e' s'') s'
 rcases hst _ _ _ _ hs with ⟨t,he⟩|⟨a0,ht⟩
 ·exact wpAny_leaving_firstW hfr xc.frames hf he xc.stays xc.new rfl (a0:=.ref t) rfl rfl fun h'' hL=>fin h'' _ hL
 ·exact wpAny_leaving_nextW hfr xc.frames hf ht xc.stays xc.new fun h'' hL=>fin h'' _ hL
end
end L2

namespace L2
open PySem PySem.Spec PyProof.Rows
theorem lT {K:PySem.W.Frag} {h:Heap} {C:Addr} {bmB:List Value} {newId:String} (X:K.In h) (q:PySem.W.excIn K C bmB newId=true) :
  ∃ bm N nm q bs hdct sn sub ab col dd k0 k1 k2 k3 k5 mN,h.get? C=some (excClassObj nm q C N bs bm hdct sn sub ab col dd k0 k1 k2 k3 k5 newId)/\h.Ns N mN/\mN "__init__" = none/\OwnTail h bmB bm:=by
 unfold PySem.W.excIn at q
 split at q
 case h_2=>cases q
 rename_i dd cd sl ho
 split at q
 case h_2=>cases q
 rename_i C' bm k0 k1 k2 k3 n k5 hm hs
 simp only [Bool.and_eq_true,beq_iff_eq,Bool.not_eq_true'] at q
 obtain ⟨⟨⟨⟨⟨z1,z2⟩,z3⟩,z4⟩,z5⟩,z6⟩:=q
 subst z1; subst z2
 obtain ⟨nm,bs,mro,ns,qn,hd,sn,sub,ab,col,del⟩:=cd
 dsimp only at hm z3 z5 z6
 subst hm; subst z3
 obtain ⟨l⟩:=sl
 have z7:l=[k0,k1,k2,k3,some (.builtin n),k5]:=hs
 subst z7
 exact ⟨bm,ns,nm,qn,bs,hd,sn,sub,ab,col,dd,k0,k1,k2,k3,k5,_,X _ _ ho,.of_isNs (PySem.W.isNs_of_in X z5),PySem.W.nsMap_none_of_in X z5 z6,PySem.W.tail_of_in X z4⟩
section
variable {X:Cx}
theorem CI {x:Str} {C:Addr} {B newId initId:String} {bmB:List Value} {np cpos pos:Pos} {a:Expr} {v:V} {E:XK} (FB:ExcBaseFacts B newId initId bmB) (ex:PySem.W.excIn X.K C bmB newId=true) (hm:X.mg x=some (.ref C)) (hg:Gl X x) (hc:X.calm=true) (hdb:(x==("__debug__" : Str))=false)
  (ha:PE X a (tC v)) (he:starEach [a] X.env=(false,eval a X.env)::starEach [] X.env) (hx:Passes (CXr X.prog X.w) X E):PS X (.Raise (some (.Call (.Name x np) [a] [] cpos)) none pos) (fun _ _ H=>E (.ref C) none H):=by
 intro pins s σ H D I h
 obtain ⟨tl,N,nm,q,bs,hdct,sn,sub,ab,col,dd,k0,k1,k2,k3,k5,mN,hC,hN,hni,T⟩:=lT I.ok.mod.kin ex
 refine wpAny_Raise_call_subT (C:=C) (nm:=nm) (q:=q) (N:=N) (bs:=bs) (bm:=tl) (hdct:=hdct) (sn:=sn) (sub:=sub) (ab:=ab) (col:=col) (dd:=dd) (k0:=k0) (k1:=k1) (k2:=k2) (k3:=k3) (k5:=k5)
  FB (mN:=mN) (T.hasType FB.hasBase) (I.ok.hd hc) (by rw [he]; rfl) hni (fG I hg hm ⟨rfl,?_⟩ hdb)
 have ha':=fR ha gY he cpos pins s σ H (fun vs H'=>vs.length<=1/\E (.ref C) none H') I ⟨by simp,h⟩
 rw [he] at ha' ⊢
 refine Calls.evalArgs_plain (wpAny_mono ha' (fun vs s2 ⟨ws,H2,I2,r,hl,hE⟩=>⟨rfl,?_,I2.bk _ _ hC,hN.keeps I2.bk,T.keeps I2.bk,fun h' e hmd=>?_⟩) fun _ _ z=>z)
 ·show vs.length<=sizeLine
  rw [<- r.length,sizeLine_eq]; omega
 ·have old:∀ {b:Addr},(H2 b≠none\/∃ o',s2.heap.get? b=some o')->b < s2.heap.objs.size:=fun {b} hb=>by
   rcases hb with z|⟨o',z⟩
   ·cases q:H2 b with
    | none=>exact absurd q z
    | some ob=>exact I2.hok.lt q
   ·exact Heap.lt_size z
  refine hx pins σ H2 s2 _ _ I2 ⟨e,C,PySem.W.hideAll s2.heap (frs X.stack),H2,rfl,rfl,I2.bare,Un.kept hmd.keeps,I2.hok.kept hmd.keeps,⟨fun b o z=>hmd.keeps b o (PySem.W.of_hideAll _ z),?_,?_⟩,?_,fun b o z1 z2 z3=>?_,hE⟩
  ·cases z:(PySem.W.hideAll s2.heap (frs X.stack)).get? e with
   | none=>rfl
   | some o=>have:=PySem.W.of_hideAll _ z; rw [hmd.new] at this; cases this
  ·refine (PySem.W.funFrames_hide I2.stack fun env hv b hb=>List.mem_filterMap.mpr ⟨env,hv,hb⟩).of_keeps fun b o z _=>⟨o,hmd.keeps b o z,rfl⟩
  ·obtain ⟨t,z,_⟩:=hmd.there
   exact ⟨t,z⟩
  ·have:∃ o1,s2.heap.get? b=some o1:=by
    rcases z2 with z|⟨o',z⟩
    ·cases q:H2 b with
     | none=>exact absurd q z
     | some ob=>exact qE I2.hok q
    ·exact ⟨o',z⟩
   obtain ⟨o1,z4⟩:=this
   have z5:=hmd.keeps b o1 z4
   rw [z1] at z5; cases z5
   exact PySem.W.hideAll_get _ z4 z3
theorem ly {A:Around} {E:Value->Shared->Prop} {pins:List (Addr × Obj)} {s:Shared} {σ:St} {H:Hp} {x:Str} {u:Value} {pos:Pos} {Q:Value->Shared->Prop} (I:Inv X pins σ H s) (hg:Gl X x) (hm:X.mg x=some u) (hd:(x==("__debug__" : Str))=false) (h:Q u s):wpAny (model X.prog X.w) A (eval (.Name x pos) X.env) Q E s:=by
 refine Calls.Name_function_global I.ok.kind hg (Calls.loadGlobal_global ?_ hm h) hd
 rw [I.ok.glob]; exact I.mod.glob.keeps I.bk
theorem lX {CX:CXT} {k:Nat} {f:Addr} {fd:FuncData} {ps:List Str} {sp:Sp} {E:XK} {pins:List (Addr × Obj)} {σ:St} {H:Hp} {s:Shared} {Q:VK} {us:List Value} {vs:List V} {Z:Value->Shared->Prop} (F:cD X.prog X.w X.K X.mg X.base CX k f fd ps sp) (hr:bu k X.A) (hb:Binds X.K fd ps [])
  (I:Inv X pins σ H s) (r:Vals vs us) (h:sp vs H Q E) (hz:∀ e s',CX X.stack H s E e s'->Z e s'):wpAny (model X.prog X.w) X.A (call (.ref f) us) (EP X pins σ Q) Z s:=by
 have hl:(us++[]).length=ps.length:=by rw [List.append_nil,<- r.length]; exact F.len _ _ _ _ h
 have hb2:=hb s us I.kIn hl
 rw [List.append_nil] at hb2
 refine wpAny_call (codeAny_mono (F.run X.A X.stack s H ⟨us,[]⟩ us vs Q E hr I.sQ hb2 r h) fun r s' hq=>?_)
 cases r with
 | error e=>exact hz e s' hq
 | ok fl =>
  cases fl with
  | ret u=>exact I.after hq
  | next=>exact hq.elim
  | brk=>exact hq.elim
  | cont=>exact hq.elim
theorem Bf {k:Nat} {f:Addr} {fd:FuncData} {ps:List Str} {sp:Sp} {x c:Str} {C:Addr} {newId:String} {bmB:List Value} {p cpos rpos np hpos rp2 pos:Pos} {e kx:Expr} {es:List Expr} {t:TA} {kv:V}
  (F:cD X.prog X.w X.K X.mg X.base (CXe X.prog X.w) k f fd ps sp) (hr:bu k X.A) (hg:Gl X x) (hm:X.mg x=some (.ref f)) (hk:PySem.W.keepIn X.K (.ref f)=true) (hb:Binds X.K fd ps []) (hdb:(x==("__debug__" : Str))=false)
  (ha:PA X.nox (e::es) t) (he:starEach (e::es) X.env=(false,eval e X.env)::starEach es X.env) (hpl:(backTo cpos (starEach es X.env)).any (·.1)=false)
  (hgc:Gl X c) (hmc:X.mg c=some (.ref C)) (hdc:(c==("__debug__" : Str))=false) (ex:PySem.W.excIn X.K C bmB newId=true) (hBE:bmB.contains (.type "BaseException")=true)
  (hstk:X.stack=X.env::X.outer/\X.env.frame=some X.env.locals)
  (hkx:∀ (A:Around) (E:Value->Shared->Prop) (s:Shared) (Q:Value->Shared->Prop),(∀ tk u,RelV kv u->Q u { s with toks:=tk })->wpAny (model X.prog X.w) A (eval kx X.env) Q E s) :
  PS X (.Try [.Return (some (.Call (.Name x p) (e::es) [] cpos)) rpos] [.ExceptHandler (some (.Name c np)) none [.Return (some kx) rp2] hpos] [] [] pos)
   (fun D σ H=>t σ H fun vs H1=>∃ E,(∀ cls H',E cls none H'->cls=.ref C/\D.rt kv H')/\sp vs H1 D.rt E):=by
 intro pins s σ H D I h
 refine wpAny_Try_except ?_
 have hC0:=lT I.ok.mod.kin ex
 obtain ⟨tl,N,nm,q,bs,hdct,sn,sub,ab,col,dd,k0,k1,k2,k3,k5,mN,hC,hN,hni,T⟩:=hC0
 have hbase:tl.contains (.type "BaseException")=true:=T.hasType hBE
 refine wpAny_execs_cons (wpAny_mono (wpAny_Return_some (Q:=fun fl s'=>∃ u,fl=.ret u/\EP X pins σ D.rt u s') ?_) (fun fl s' hq=>?_) fun _ _ z=>z)
 ·refine wpAny_Call_Name_kw (fG I hg hm ?_ hdb)
  refine PySem.W.callWith_K (h₀:=X.base) I.ok.mod.kin hk (wpAny_mono (ha cpos pins s σ H _ (I.cF _) h) (fun us s1 ⟨vs,H1,I1,r,E,hE,q⟩=>⟨I1.b9.kIn,?_⟩) fun _ _ z=>False.elim z) he hpl
  have I1:=I1.b9
  refine wpAny_mono (lX (X:=X) F hr hb I1 r q fun v s2 hx=>?_) (fun u s2 hq=>⟨u,rfl,hq⟩) fun _ _ z=>z
  obtain ⟨ea,C',B,H',rfl,os',bare',un,hok,xc,⟨a0,tr⟩,cv,hEx⟩:=hx
  obtain ⟨hcl,hrt⟩:=hE _ _ hEx
  cases hcl
  have hfr:X.A.frames=some (X.env::X.outer):=by rw [I1.ok.frames,hstk.1]
  have fly:Heap.FlyingW B (X.env::X.outer) ea (.ref C) a0 s2.heap:=⟨xc.stays,xc.new,by rw [<- hstk.1]; exact xc.frames,tr⟩
  have go:∀ {h':Heap},B.StaysIn h'->s2.heap.UpToSlots h'->Inv X pins σ H' { s2 with heap:=h' }:=fun {h'} sb up=>by
   obtain ⟨u2,ok2,_⟩:=jR (je I1) un hok xc.frames cv sb up
   exact I1.mK (s':={ s2 with heap:=h' }) (ch:=[]) os' u2 ok2 bare' fun b z=>absurd z (by simp)
  refine wpAny_looks_onW hfr hstk.2 fly fun h3 held3 up3=>?_
  refine wpAny_landsW held3 fun h4 fly4 up4=>?_
  have I4:=go fly4.1 (up3.trans up4)
  refine wpAny_handleBy_cons (codeAny_handlers_test (ly I4 hgc hmc hdc ?_)) (by intro z; cases z)
  obtain ⟨ob,hob,hobc⟩:=fly4.there
  refine wpAny_excMatches_sub_self (I4.bk _ _ hC) hob hobc hbase (codeAny_handlers_suite ?_)
  refine lands_againW fly4 fun h5 fly5 up5=>?_
  have I5:=go fly5.1 ((up3.trans up4).trans up5)
  refine wpAny_execs_cons (wpAny_Return_some (hkx _ _ _ _ fun tk u ru=>?_))
  exact ⟨kv,σ,H',I5.tok tk,ru,hrt⟩
 ·obtain ⟨u,rfl,v,H',I',r,q⟩:=hq
  exact ⟨v,σ,H',I',r,q⟩
end
end L2

namespace L2
open PySem PySem.Spec PySem.Calls PyProof.Rows
open PySem.W (Looks)
noncomputable def bF (a C:Addr) (h:Heap):Prop:=∃ o,h.get? a=some o/\o.cls=.ref C/\∃ vs,o.data=.fields vs
theorem bF.ty {a C:Addr} {h:Heap} (p:bF a C h) (M:Model):Looks M h (typeOf (.ref a)) (.ref C):=by
 obtain ⟨o,h1,h2,_⟩:=p
 exact h2 ▸ (Looks.ld h1).andThen .now
theorem A7 {K:PySem.W.Frag} {a C:Addr} {c:Value} (e:PySem.W.kitOne K (.ref C) c=some true):Answers (fun s=>K.In s.heap/\bF a C s.heap) (.ref a) c true:=by
 intro dep tk prog w A R s hs
 obtain ⟨h0,g,d,tt,os⟩:=s
 obtain ⟨⟨X,p⟩,hq⟩:=hs
 have LT:=bF.ty p (model prog w)
 unfold PySem.W.kitOne at e
 unfold Builtin.«isinstance.nested»
 refine wpAny_bind (LT.at ?_)
 by_cases q:(Value.ref C==c)=true
 ·rw [if_pos q]
  first
   | ((repeat lk); exact hq tt)
   | exact wpAny_bind (wpAny_rule (hq tt))
   | exact wpAny_bind (wpAny_rule (wpAny_pure (hq tt)))
 ·rw [if_neg q] at e
  rw [if_neg q]
  obtain ⟨hty,his,hsub⟩:=PySem.W.kit_cls (M:=model prog w) X e
  have LI:Looks (model prog w) h0 (isInstance (.ref a) c) true:=LT.andThen hsub
  refine wpAny_bind (hty.at ?_)
  rw [if_pos (by decide)]
  k_delta "plainIsInstance"
  refine wpAny_bind (wpAny_bind (his.at ?_))
  simp only [Bool.not_true,Bool.false_eq_true,if_false]
  refine wpAny_bind (LI.at ?_)
  first
   | exact wpAny_pure (wpAny_pure (hq tt))
   | (simp only [if_true]; first|exact wpAny_pure (wpAny_pure (hq tt))|exact wpAny_pure (hq tt)|exact wpAny_bind (wpAny_pure (wpAny_pure (hq tt))))
theorem DW {K:PySem.W.Frag} {a C:Addr} {c:Value} {prog:Program} {w:World} {A:Around} {E:Value->Shared->Prop} {s:Shared} {Q:Value->Shared->Prop} (X:K.In s.heap) (p:bF a C s.heap) (e:PySem.W.kitOne K (.ref C) c=some true) (h:∀ tk,Q (.bool true) { s with toks:=tk }) :
  wpAny (model prog w) A (call (.builtin "isinstance") [.ref a,c]) Q E s :=
 call_isinstance (S:=fun _ R s=>(K.In s.heap/\bF a C s.heap)/\∀ tk,R (.ok (.ret (.bool true))) { s with toks:=tk })
  (fun prog w A R s hs=>isinstance_outer (A7 e 0 _ prog w A R s hs) (fun z=>nomatch z)) ⟨⟨X,p⟩,h⟩
section
variable {X:Cx} {i:Nat} {C:Addr}
noncomputable def PV (X:Cx) (i:Nat) (C:Addr) (e:Expr) (v:V):Prop:=∀ (A:Around) (E:Value->Shared->Prop) (pins:List (Addr × Obj)) (σ:St) (H:Hp) (s:Shared) (a:Addr) (Q:Value->Shared->Prop),
 Inv X pins σ H s->σ[i]?=some (some (.ref a))->bF a C s.heap->(∀ tk u,RelV v u->Q u { s with toks:=tk })->wpAny (model X.prog X.w) A (eval e X.env) Q E s
theorem xS {A:Around} {E:Value->Shared->Prop} {pins:List (Addr × Obj)} {s:Shared} {σ:St} {H:Hp} {x:Str} {u:Value} {pos:Pos} {Q:Value->Shared->Prop} (I:Inv X pins σ H s) (hg:Gl X x) (hm:X.mg x=none) (hv:bootBuiltins x=some u) (h:Q u s)
  (hn:x≠"__name__") (hd:(x==("__debug__" : Str))=false):wpAny (model X.prog X.w) A (eval (.Name x pos) X.env) Q E s:=by
 obtain ⟨mb,h1,h2⟩:=I.mod.blt
 exact Calls.Name_function_global I.ok.kind hg (Calls.loadGlobal_builtin (by rw [I.ok.glob]; exact I.mod.glob.keeps I.bk) hm (by rw [I.ok.blt]; exact h1.keeps I.bk) ((h2 x hn).trans hv) h) hd
noncomputable def d8 (X:Cx) (d:Str) (c:Value):Prop:=Gl X d/\(d==("__debug__" : Str))=false/\(X.mg d=some c\/(X.mg d=none/\bootBuiltins d=some c/\d≠"__name__"))
theorem d8.ld {A:Around} {E:Value->Shared->Prop} {pins:List (Addr × Obj)} {s:Shared} {σ:St} {H:Hp} {d:Str} {c:Value} {pos:Pos} {Q:Value->Shared->Prop} (n:d8 X d c) (I:Inv X pins σ H s) (h:Q c s):wpAny (model X.prog X.w) A (eval (.Name d pos) X.env) Q E s:=by
 obtain ⟨hg,hd,hm|⟨hm,hv,hn⟩⟩:=n
 ·exact ly I hg hm hd h
 ·exact xS I hg hm hv h hn hd
theorem rL {n d:Str} {c:Value} {p1 p2 p3 pos:Pos} (hi:X.N[i]?=some n) (hk:X.env.kindOf n=some .local) (hd:(n==("__debug__" : Str))=false) (hv:Vis X.env.scope n)
  (hb:d8 X "isinstance" (.builtin "isinstance")) (hc:d8 X d c) (e:PySem.W.kitOne X.K (.ref C) c=some true):PV X i C (.Call (.Name "isinstance" p1) [.Name n p2,.Name d p3] [] pos) (.bl true):=by
 intro A E pins σ H s a Q I hσ hx h
 refine wpAny_Call_Name_kw (hb.ld I ?_)
 refine PyProof.Rows.callWith_builtin1 (Calls.spliced_cons ?_) rfl rfl
 obtain ⟨m,hn,hl⟩:=I.loc
 obtain ⟨u,r,l⟩:=hl i n _ hi hσ hv
 cases (show u=Value.ref a from r)
 have hm:m n=some (.ref a):=by
  rcases l with ⟨_,z⟩|⟨z|z,_⟩
  ·exact z
  ·rw [hk] at z; cases z
  ·rw [hk] at z; cases z
 refine wpAny_Name (wpAny_loadName_local I.ok.kind hk hn hm ?_) hd
 refine Calls.spliced_cons (hc.ld I (Calls.spliced_nil ?_))
 exact DW I.kIn hx e fun tk=>h tk _ rfl
theorem vZ {op} {a:Expr} {v:V} {pos:Pos} (h:PV X i C a v):PV X i C (.BoolOp op [a] pos) v:=fun A E pins σ H s a Q I hσ hx hq=>BoolOp_one (h A E pins σ H s a Q I hσ hx hq)
theorem yS {a b:Expr} {rest:List Expr} {v:V} {pos:Pos} (ha:PV X i C a (.bl true)) (hb:PV X i C (.BoolOp .And (b::rest) pos) v):PV X i C (.BoolOp .And (a::b::rest) pos) v:=by
 intro A E pins σ H s x Q I hσ hx h
 refine BoolOp_and (ha A E pins σ H s x _ I hσ hx fun tk u r=>?_)
 cases (show u=Value.bool true from r)
 exact wpAny_truthy_bool (hb A E pins σ H _ x Q (I.tok tk) hσ hx fun tk' u r=>h tk' u r)
theorem BX {a:Expr} {k:Bool} {p1 pos:Pos} (hb:d8 X "int" (.type "int")) (ha:PV X i C a (.bl k)) (he:starEach [a] X.env=(false,eval a X.env)::starEach [] X.env):PV X i C (.Call (.Name "int" p1) [a] [] pos) (.int (if k then 1 else 0)):=by
 intro A E pins σ H s x Q I hσ hx h
 refine wpAny_Call_Name_kw (hb.ld I ?_)
 have hg:wpAny (model X.prog X.w) A (spliced (backTo pos (starEach [a] X.env))) (fun vs s₁=>wpAny (model X.prog X.w) A (call (.type "int") vs) Q E s₁) E s:=by
  rw [he]
  refine Calls.spliced_cons (ha A E pins σ H s x _ I hσ hx fun tk u r=>Calls.spliced_nil ?_)
  cases (show u=Value.bool k from r)
  exact call_int_bool (h _ _ ⟨_,rfl⟩)
 exact PyProof.Rows.callWith_type1 hg he rfl
theorem Fj {x:Str} {a:Expr} {j} {p1 pos:Pos} (ha:PV X i C a (.int 1)):PV X i C (.BinOp (.Constant (.str x) j p1) .Mult a pos) (.str x):=by
 intro A E pins σ H s y Q I hσ hx h
 refine wpAny_BinOp (wpAny_Constant_str ?_)
 refine ha A E pins σ H _ y _ (I.tok _) hσ hx fun tk u r=>?_
 obtain ⟨t,rfl⟩:=(show ∃ t,u=Value.int 1 t from r)
 refine P.mul_str (by decide) (fun _ z=>by simp at z) (fun _ z=>by simp at z) ?_
 simp only [show ¬ ((1:Int) < 1) from by decide,if_false,beq_self_eq_true,Bool.true_or,if_true]
 exact h _ _ ⟨_,rfl⟩
theorem Inv.gone {pins:List (Addr × Obj)} {σ:St} {H:Hp} {s:Shared} {m:Str->Option Value} {n:Str} {v:Option Value} {h':Heap} {t':Nat} (I:Inv X pins σ H s) (hN:X.N.Nodup) (hi:X.N[i]?=some n) (hn:s.heap.Ns X.env.locals m)
  (hl:∀ (j:Nat) (x:Str) (v:V),X.N[j]?=some x->σ[j]?=some (some v)->Vis X.env.scope x->∃ u,RelV v u/\Look X.env s.heap m x u) (hn':h'.Ns X.env.locals (fun x=>if x=n then v else m x)) (hs:Heap.SameBut X.env.locals s.heap h') :
  Inv X pins (σ.set i none) H { s with heap:=h',toks:=t' }:=by
 have cne:=I.cne
 obtain ⟨oL,_,_,hoL,_⟩:=id hn
 refine ⟨I.ok,I.os,I.bare,⟨fun b o e n hb hx=>?_,fun b o e n hb hx=>?_,I.base.free,fun b o e hx=>?_,I.base.tups,I.base.frzs,I.base.tbls⟩,⟨_,hn',fun j y v' e1 e2 e3=>?_⟩,fun y c e=>?_,I.free,I.freeC,fun p hp=>?_,fun b ob e=>?_,by simpa using I.len⟩
 ·exact (hs.2 b (Nat.ne_of_lt (Nat.lt_of_lt_of_le (Heap.lt_size e) I.ok.above))).trans (I.base.keep b o e n hb hx)
 ·obtain ⟨sl,e1⟩:=I.base.slot b o e n hb hx
  exact ⟨sl,(hs.2 b (Nat.ne_of_lt (Nat.lt_of_lt_of_le (Heap.lt_size e) I.ok.above))).trans e1⟩
 ·obtain ⟨o',e1⟩:=I.base.there b o e hx
  exact ⟨o',(hs.2 b (Nat.ne_of_lt (Nat.lt_of_lt_of_le (Heap.lt_size e) I.ok.above))).trans e1⟩
 ·by_cases hj:j=i
  ·subst hj
   rw [List.getElem?_set] at e2
   simp at e2
  ·rw [List.getElem?_set_ne (Ne.symm hj)] at e2
   obtain ⟨u',r',q⟩:=hl j y v' e1 e2 e3
   refine ⟨u',r',?_⟩
   rcases q with ⟨k,e⟩|⟨k,c,e,z⟩
   ·refine .inl ⟨k,?_⟩
    have:y≠n:=fun e=>hj (kD hN e1 (e ▸ hi))
    simp [this,e]
   ·exact .inr ⟨k,c,e,z.sameBut hs (cne y c e)⟩
 ·obtain ⟨w',z⟩:=I.cell y c e
  exact ⟨w',z.sameBut hs (cne y c e)⟩
 ·obtain ⟨e,n,ne,nf,d⟩:=I.pin p hp
  exact ⟨(hs.2 p.1 ne).trans e,n,ne,nf,d⟩
 ·refine (I.hok b ob e).stay (fun c w' hc q=>(hs.2 c ?_).trans q) (fun _ q=>q) fun _ _ q=>q
  rintro rfl
  rcases hc with rfl|hc
  ·rw [I.free] at e; cases e
  ·rw [I.free] at hc; cases hc
theorem n5 {c n:Str} {newId:String} {bmB:List Value} {np hpos rp2:Pos} {kx:Expr} {kv:V} {pins:List (Addr × Obj)} {σ:St} {H1:Hp} {s1 s2:Shared} {E:XK} {v:Value} {D:Ends}
  (hgc:Gl X c) (hmc:X.mg c=some (.ref C)) (hdc:(c==("__debug__" : Str))=false) (ex:PySem.W.excIn X.K C bmB newId=true) (hBE:bmB.contains (.type "BaseException")=true)
  (hstk:X.stack=X.env::X.outer/\X.env.frame=some X.env.locals) (hN:X.N.Nodup) (hi:X.N[i]?=some n) (hk:X.env.kindOf n=some .local) (hkx:PV X i C kx kv)
  (I1:Inv X pins σ H1 s1) (hx:CXe X.prog X.w X.stack H1 s1 E v s2) (hE:∀ cls H',E cls none H'->cls=.ref C/\D.rt kv H') :
  wpAny (model X.prog X.w) X.A (noteFrame v X.env) (fun _ s₂=>wpAny (model X.prog X.w) X.A (setFlight v none) (fun _ s₃=>wpAny (model X.prog X.w) X.A (handleBy v X.env [.ExceptHandler (some (.Name c np)) (some n) [.Return (some kx) rp2] hpos]) (SP X pins D) X.xe s₃) X.xe s₂) X.xe s2:=by
 have hC0:=lT I1.ok.mod.kin ex
 obtain ⟨tl,N,nm,q,bs,hdct,sn,sub,ab,col,dd,k0,k1,k2,k3,k5,mN,hC,hN2,hni,T⟩:=hC0
 have hbase:tl.contains (.type "BaseException")=true:=T.hasType hBE
 obtain ⟨ea,C',B,H',rfl,os',bare',un,hok,xc,⟨a0,tr⟩,cv,hEx⟩:=hx
 obtain ⟨hcl,hrt⟩:=hE _ _ hEx
 cases hcl
 have hfr:X.A.frames=some (X.env::X.outer):=by rw [I1.ok.frames,hstk.1]
 have fly:Heap.FlyingW B (X.env::X.outer) ea (.ref C) a0 s2.heap:=⟨xc.stays,xc.new,by rw [<- hstk.1]; exact xc.frames,tr⟩
 have go:∀ {h':Heap},B.StaysIn h'->s2.heap.UpToSlots h'->Inv X pins σ H' { s2 with heap:=h' }:=fun {h'} sb up=>by
  obtain ⟨u2,ok2,_⟩:=jR (je I1) un hok xc.frames cv sb up
  exact I1.mK (s':={ s2 with heap:=h' }) (ch:=[]) os' u2 ok2 bare' fun b z=>absurd z (by simp)
 refine wpAny_looks_onW hfr hstk.2 fly fun h3 held3 up3=>?_
 refine wpAny_landsW held3 fun h4 fly4 up4=>?_
 have I4:=go fly4.1 (up3.trans up4)
 refine wpAny_handleBy_cons (codeAny_handlers_test (ly I4 hgc hmc hdc ?_)) (by intro z; cases z)
 obtain ⟨ob,hob,hobc⟩:=fly4.there
 refine wpAny_excMatches_sub_self (I4.bk _ _ hC) hob hobc hbase (codeAny_handlers_suite_as ?_)
 refine lands_againW fly4 fun h5 fly5 up5=>?_
 have I5:=go fly5.1 ((up3.trans up4).trans up5)
 have xa5:bF ea C h5:=by
  obtain ⟨_,_,_,oe,vs,_,_,_,he,hc,hd,_⟩:=fly5
  exact ⟨oe,he,hc.1,vs,hd⟩
 have hLoc:Loc X.env.scope n:=.inl hk
 refine kJ (v:=.ref ea) I5 hN hi hLoc rfl (fun s6 I6 ⟨a,sb,ha⟩=>?_) (.inr (by simpa [Env.kindOf] using hk))
 have hal:a=X.env.locals\/∃ w,h5.IsCell a w:=by
  rcases ha with z|z
  ·exact .inl z
  ·exact .inr (I5.cell n a z)
 have xa6:bF ea C s6.heap:=by
  obtain ⟨o,e1,e2,vs,e3⟩:=xa5
  refine ⟨o,(sb.2 ea fun z=>?_).trans e1,e2,vs,e3⟩
  subst z
  rcases hal with rfl|⟨w',oc,z1,z2⟩
  ·obtain ⟨m,⟨o',es,ep,z1,z2,_⟩,_⟩:=I5.loc
   have z3:some o=some o':=e1.symm.trans z1
   cases z3
   rw [e3] at z2; cases z2
  ·have z3:some o=some oc:=e1.symm.trans z1
   cases z3
   rw [e3] at z2; cases z2
 have hiσ:i < σ.length:=by rw [I5.len]; exact (List.getElem?_eq_some_iff.mp hi).1
 refine wpAny_execs_cons (wpAny_Return_some (hkx _ _ pins _ H' s6 ea _ I6 (by rw [List.getElem?_set_self hiσ]) xa6 fun tk u ru=>?_))
 have I7:=I6.tok tk
 obtain ⟨m,hn,hl⟩:=id I7.loc
 have hcls:(X.env.scope.kind==.class||(X.env.scope.kind==.module&&X.env.locals != X.env.globals))=false:=by rw [I5.ok.kind]; rfl
 exact wpAny_nameGoes_keeps hk hn hcls fun h8 v8 hn8 hs8=>⟨kv,_,H',I7.gone hN hi hn hl hn8 hs8,ru,hrt⟩
section
variable {k:Nat} {f:Addr} {fd:FuncData} {ps:List Str} {sp:Sp} {x c n:Str} {newId:String} {bmB:List Value} {p cpos rpos np hpos rp2 pos:Pos} {e kx:Expr} {es:List Expr} {t:TA} {kv:V}
theorem xG
  (F:cD X.prog X.w X.K X.mg X.base (CXe X.prog X.w) k f fd ps sp) (hr:bu k X.A) (hg:Gl X x) (hm:X.mg x=some (.ref f)) (hkp:PySem.W.keepIn X.K (.ref f)=true) (hb:Binds X.K fd ps []) (hdb:(x==("__debug__" : Str))=false)
  (ha:PA X.nox (e::es) t) (he:starEach (e::es) X.env=(false,eval e X.env)::starEach es X.env) (hpl:(backTo cpos (starEach es X.env)).any (·.1)=false)
  (hgc:Gl X c) (hmc:X.mg c=some (.ref C)) (hdc:(c==("__debug__" : Str))=false) (ex:PySem.W.excIn X.K C bmB newId=true) (hBE:bmB.contains (.type "BaseException")=true)
  (hstk:X.stack=X.env::X.outer/\X.env.frame=some X.env.locals) (hN:X.N.Nodup) (hi:X.N[i]?=some n) (hk:X.env.kindOf n=some .local) (hkx:PV X i C kx kv) :
  PS X (.Try [.Return (some (.Call (.Name x p) (e::es) [] cpos)) rpos] [.ExceptHandler (some (.Name c np)) (some n) [.Return (some kx) rp2] hpos] [] [] pos)
   (fun D σ H=>t σ H fun vs H1=>∃ E,(∀ cls H',E cls none H'->cls=.ref C/\D.rt kv H')/\sp vs H1 D.rt E):=by
 intro pins s σ H D I h
 refine wpAny_Try_except ?_
 refine wpAny_execs_cons (wpAny_mono (wpAny_Return_some (Q:=fun fl s'=>∃ u,fl=.ret u/\EP X pins σ D.rt u s') ?_) (fun fl s' hq=>?_) fun _ _ z=>z)
 ·refine wpAny_Call_Name_kw (fG I hg hm ?_ hdb)
  refine PySem.W.callWith_K (h₀:=X.base) I.ok.mod.kin hkp (wpAny_mono (ha cpos pins s σ H _ (I.cF _) h) (fun us s1 ⟨vs,H1,I1,r,E,hE,q⟩=>⟨I1.b9.kIn,?_⟩) fun _ _ z=>False.elim z) he hpl
  have I1:=I1.b9
  exact wpAny_mono (lX (X:=X) F hr hb I1 r q fun v s2 hx=>n5 hgc hmc hdc ex hBE hstk hN hi hk hkx I1 hx hE) (fun u s2 hq=>⟨u,rfl,hq⟩) fun _ _ z=>z
 ·obtain ⟨u,rfl,v,H',I',r,q⟩:=hq
  exact ⟨v,σ,H',I',r,q⟩
theorem Ck
  (F:cD X.prog X.w X.K X.mg X.base (CXe X.prog X.w) k f fd ps sp) (hr:bu k X.A) (hg:Gl X x) (hm:X.mg x=some (.ref f)) (hkp:PySem.W.keepIn X.K (.ref f)=true) (hb:Binds X.K fd ps []) (hdb:(x==("__debug__" : Str))=false)
  (ha:PA X.nox (e::es) t) (he:starEach (e::es) X.env=(false,eval e X.env)::starEach es X.env) (hpl:(backTo cpos (starEach es X.env)).any (·.1)=false)
  (hgc:Gl X c) (hmc:X.mg c=some (.ref C)) (hdc:(c==("__debug__" : Str))=false) (ex:PySem.W.excIn X.K C bmB newId=true) (hBE:bmB.contains (.type "BaseException")=true)
  (hstk:X.stack=X.env::X.outer/\X.env.frame=some X.env.locals) (hN:X.N.Nodup) (hi:X.N[i]?=some n) (hk:X.env.kindOf n=some .local) (hkx:PV X i C kx kv) :
  PS X (.Try [.Expr (.Call (.Name x p) (e::es) [] cpos) rpos] [.ExceptHandler (some (.Name c np)) (some n) [.Return (some kx) rp2] hpos] [] [] pos)
   (fun D σ H=>t σ H fun vs H1=>∃ E,(∀ cls H',E cls none H'->cls=.ref C/\D.rt kv H')/\sp vs H1 (fun _ H'=>D.nx σ H') E):=by
 intro pins s σ H D I h
 refine wpAny_Try_except ?_
 refine wpAny_execs_cons (wpAny_Expr_any ?_ I.quiet rfl)
 refine wpAny_Call_Name_kw (fG I hg hm ?_ hdb)
 refine PySem.W.callWith_K (h₀:=X.base) I.ok.mod.kin hkp (wpAny_mono (ha cpos pins s σ H _ (I.cF _) h) (fun us s1 ⟨vs,H1,I1,r,E,hE,q⟩=>⟨I1.b9.kIn,?_⟩) fun _ _ z=>False.elim z) he hpl
 have I1:=I1.b9
 refine wpAny_mono (lX (X:=X) F hr hb I1 r q fun v s2 hx=>n5 hgc hmc hdc ex hBE hstk hN hi hk hkx I1 hx hE) (fun u s2 hq=>?_) fun _ _ z=>z
 obtain ⟨v,H',I',_,q'⟩:=hq
 exact wpAny_execs_nil (wpAny_execs_nil ⟨σ,H',I',q'⟩)
end
end
end L2

namespace L2
open PySem PySem.Spec PySem.Calls PyProof.Rows
open PySem.W (Looks)
open PySem.Builtin PySem.Builtin.ObjectAttr PySem.Builtin.Getset_descriptor
structure dX (K:PySem.W.Frag) (C:Addr):Prop where
 ga:PySem.W.findIn K (.ref C) "__getattribute__" = some (some (.builtin "BaseException.__getattribute__"))
 gt:PySem.W.findIn K (.ref C) "__getattr__" = some none
 cl:PySem.W.findIn K (.ref C) "__class__" = some (some (.builtin "object.__class__"))
 gn:PySem.W.specialIn K (.builtin "object.__class__") "__get__" = some (some (.builtin "getset_descriptor.__get__"))
 tk:PySem.W.takesIn K (.builtin "object.__class__")=some true
 mo:PySem.W.mroIn K C (.type "object")=some true
 mb:PySem.W.mroIn K C (.type "BaseException")=some true
 is:(PySem.W.clsIn K C).isSome=true
section
variable {K:PySem.W.Frag} {prog:Program} {w:World} {A:Around} {E:Value->Shared->Prop} {s:Shared} {a C:Addr}
theorem vh (X:K.In s.heap) (p:bF a C s.heap) (T:dX K C) (M:Model):Looks M s.heap (find (.ref a) (.ref C) "__class__") (.bind (.builtin "getset_descriptor.__get__") (.builtin "object.__class__")):=by
 have L1:=PySem.W.looks_findIn (M:=M) X T.cl
 have L2:Looks M s.heap (getOf (some (.builtin "object.__class__"))) (some (.builtin "getset_descriptor.__get__")):=PySem.W.looks_specialIn X T.gn
 have L3:=PySem.W.looks_takesIn (M:=M) X T.tk
 refine L1.andThen (L2.andThen ?_)
 exact (show Looks M s.heap (dataDescriptor? (some (.builtin "object.__class__")) (some (.builtin "getset_descriptor.__get__"))) (some (.builtin "getset_descriptor.__get__",.builtin "object.__class__")) from L3.andThen .now).andThen (Looks.tag .now)
theorem xM {R:Result->Shared->Prop} {tp:Value} (X:K.In s.heap) (p:bF a C s.heap) (T:dX K C) (h:R (.ok (.ret (.ref C))) s):codeAny (model prog w) A (.call (.builtin "getset_descriptor.__get__") ⟨[.builtin "object.__class__",.ref a,tp],[]⟩) R s:=by
 obtain ⟨hh,g,dr,t,os⟩:=s
 have L0:=bF.ty p (model prog w)
 have L1:=PySem.W.looks_mroIn (M:=model prog w) X T.mo
 refine codeAny_call_builtin PySem.W.KF.slot_gs.plain PySem.W.KF.entry_gs (PySem.W.KF.slot_gs.check _ _ _ _ _ _ _ _ PySem.W.KF.type_class (PySem.W.KF.args_gs _ _ _) ?_)
 unfold Builtin.«getset_descriptor.__get__» descrGet
 rw [PySem.W.dga_obj]
 refine wpAny_bind (wpAny_pure ?_)
 unfold descrGetter descrCheckInstance descrNameAndClass isInstance
 simp only [PySem.W.KF.owner_class]
 repeat lk
 refine ⟨Code.quiet_builtin _ (by decide +kernel),codeAny_builtin PySem.W.KF.entry_class ?_⟩
 unfold Builtin.«object.__class__» shownTypeOf
 repeat lk
 exact h
theorem ES {tk:Tok} {Q:Fin->Shared->Prop} (X:K.In s.heap) (p:bF a C s.heap) (T:dX K C) (h:Q (.done (.ret (.ref C))) s) :
  wpAny (model prog w) A (Builtin.«object.__getattribute__» ⟨[.ref a,.str "__class__" tk],[]⟩) Q E s:=by
 obtain ⟨hh,g,dr,t,os⟩:=s
 have L0:=bF.ty p (model prog w)
 have L1:=vh (s:=⟨hh,g,dr,t,os⟩) X p T (model prog w)
 unfold Builtin.«object.__getattribute__»
 repeat lk
 refine wpAny_run (c:=.call (.builtin "getset_descriptor.__get__") ⟨[.builtin "object.__class__",.ref a,.ref C],[]⟩) (h:=none) (xM X p T ?_)
 exact wpAny_pure (wpAny_pure h)
theorem Fp {M:Model} {nameV:Value} {Q:Unit->Shared->Prop} (X:K.In s.heap) (p:bF a C s.heap) (T:dX K C) (hq:Q () s):wpAny M A (checkBuiltinCall "BaseException.__getattribute__" ⟨[.ref a,nameV],[]⟩) Q E s:=by
 obtain ⟨hh,g,d,t,os⟩:=s
 have hk:builtinKind "BaseException.__getattribute__" = some .slot:=by decide +kernel
 have hsplit:splitId "BaseException.__getattribute__" = some ("BaseException","__getattribute__"):=by decide +kernel
 have L0:=bF.ty p M
 have L1:=PySem.W.looks_mroIn (M:=M) X T.mb
 have LI:Looks M hh (isInstance (.ref a) (.type "BaseException")) true:=L0.andThen L1
 have ha:=F.args_bexc_ga (.ref a) nameV
 simp only [checkBuiltinCall,hk,hsplit]
 refine wpAny_bind (LI.at ?_)
 repeat (any_goals (first|assumption|wp_step))
theorem vB {Q:Option Value->Shared->Prop} (X:K.In s.heap) (p:bF a C s.heap) (T:dX K C) (h:Q (some (.ref C)) { s with toks:=s.toks+1 }):wpAny (model prog w) A (getAttr? (.ref a) "__class__") Q E s:=by
 obtain ⟨hh,g,d,t,os⟩:=s
 have L0:=bF.ty p (model prog w)
 have L1:=PySem.W.looks_findIn (M:=model prog w) X T.ga
 have L2:=PySem.W.looks_findIn (M:=model prog w) X T.gt
 have f3:=F.attrBase_ValueError.ga.bind (.ref a)
 unfold getAttr? getAttrBy? getAttrBy
 refine wpAny_bind (wpAny_mkText (wpAny_bind (wpAny_attempt (wpAny_holding (wpAny_bind (L0.at (wpAny_bind (L1.at ?_))))))))
 dsimp only
 rw [show (Value.builtin "BaseException.__getattribute__"==Value.builtin "object.__getattribute__")=false from by decide +kernel]
 simp only [Bool.and_false,Bool.false_eq_true,if_false]
 unfold getAttrByItsOwn
 have HB:Looks (model prog w) hh (hookBefore (.ref C)) none:=by
  unfold hookBefore
  first|exact L2|exact L2.andThen .now
 refine wpAny_bind (HB.at (wpAny_bind (wpAny_attempt (wpAny_holding ?_))))
 unfold callGetattribute boundAndCalled
 simp only [Bool.false_and,Bool.false_eq_true,if_false]
 rw [f3]
 refine wpAny_bind (wpAny_pure (wpAny_call (codeAny_call_builtin F.attrBase_ValueError.ga.plain F.entry_bexc_ga (Fp (s:=⟨hh,g,d,t+1,os⟩) X p T (ES (s:=⟨hh,g,d,t+1,os⟩) X p T ?_)))))
 exact wpAny_pure (wpAny_pure h)
theorem vp (T:dX K C):PySem.W.KitX K (.ref a) (.ref C) (bF a C) where
 ty:=fun M _ _ p=>p.ty M
 it:=fun _ _ X _=>by
  have z:=T.is
  unfold PySem.W.clsIn at z
  split at z
  ·rename_i c' d' cd' sl' ho
   intro A' Q' E' s' k q
   unfold isType loadHead
   exact wpAny_bind (wpAny_loadPart (k _ _ (X _ _ ho)) (wpAny_pure q))
  ·cases z
 ne:=fun h tp dd its n sl X htp=>by
  refine Bool.eq_false_iff.mpr fun q=>?_
  have e:C=tp:=Value.ref.inj (beq_iff_eq.mp q)
  subst e
  have z:=T.is
  unfold PySem.W.clsIn at z
  split at z
  ·rename_i c' d' cd' sl' ho
   have z:=(X _ _ ho).symm.trans htp
   cases z
  ·cases z
 ca:=fun X p k=>vB X p T k
end
section
variable {X:Cx} {i:Nat} {C:Addr}
theorem tZ {n d:Str} {c:Value} {p1 p2 p3 pos p4:Pos} (hi:X.N[i]?=some n) (hk:X.env.kindOf n=some .local) (hd:(n==("__debug__" : Str))=false) (hv:Vis X.env.scope n)
  (hb:d8 X "isinstance" (.builtin "isinstance")) (hc:d8 X d c) (T:dX X.K C) (e:PySem.W.kitOne X.K (.ref C) c=some false):PV X i C (.UnaryOp .Not (.Call (.Name "isinstance" p1) [.Name n p2,.Name d p3] [] pos) p4) (.bl true):=by
 intro A E pins σ H s a Q I hσ hx h
 refine UnaryOp_ ?_
 refine wpAny_Call_Name_kw (hb.ld I ?_)
 refine PyProof.Rows.callWith_builtin1 (Calls.spliced_cons ?_) rfl rfl
 obtain ⟨m,hn,hl⟩:=I.loc
 obtain ⟨u,r,l⟩:=hl i n _ hi hσ hv
 cases (show u=Value.ref a from r)
 have hm:m n=some (.ref a):=by
  rcases l with ⟨_,z⟩|⟨z|z,_⟩
  ·exact z
  ·rw [hk] at z; cases z
  ·rw [hk] at z; cases z
 refine wpAny_Name (wpAny_loadName_local I.ok.kind hk hn hm ?_) hd
 refine Calls.spliced_cons (hc.ld I (Calls.spliced_nil ?_))
 refine PySem.W.kia_one (vp T) I.kIn hx e (fun z=>nomatch z) fun tk=>?_
 exact not_of (wpAny_truthy_bool (h tk _ rfl))
end
end L2

namespace NEQ
open PySem PySem.SeqAt
open AutoSeq1 (wpAny_loadPart')
open MeetsSeq MeetsSeq2 MeetsSeq3 SeqRoads2
theorem De (p q:Addr) (us ws:Array Value) (n1 n2:Nat) (d1 d2:Option Addr) (z1 z2:Array (Option Value)) (hlen:us.size=ws.size) (same:Nat->Bool) (left:Nat) :
  ∀ at_:Nat,us.size - at_=left->Meets (Builtin.«list.__eq__.loop» ⟨[.ref p,.ref q,rawInt at_,rawInt 3],[]⟩)
   (fun A R st=>st.heap.get? p=some { cls:=.type "list",dict:=d1,data:=.seq us n1,slots:=z1 }/\st.heap.get? q=some { cls:=.type "list",dict:=d2,data:=.seq ws n2,slots:=z2 } /\
    (∀ j (h1:j < us.size) (h2:j < ws.size),EqAt A.in1 st us[j] ws[j] (same j))/\R (.ok (.ret (.bool (!((List.range us.size).drop at_).all same)))) st):=by
 induction left with
 | zero =>
  intro at_ hk prog w A R st hyp
  obtain ⟨hp,g,dr,tk,os⟩:=st
  obtain ⟨hl,hb,he,fin⟩:=hyp
  wp_walk using wpAny_loadPart' hl,wpAny_loadPart' hb
  have no1:us[((at_:Nat):Int).toNat]?=none:=by simp; omega
  have no2:ws[((at_:Nat):Int).toNat]?=none:=by simp; omega
  have nil:(List.range us.size).drop at_=[]:=by simp; omega
  rw [nil] at fin
  rw [no1,no2]
  wp_walk using wpAny_loadPart' hl,wpAny_loadPart' hb
  show R (.ok (.ret (.bool (us.size != ws.size)))) _
  rw [hlen]
  simpa using fin
 | succ left ih =>
  intro at_ hk prog w A R st hyp
  obtain ⟨hp,g,dr,tk,os⟩:=st
  obtain ⟨hl,hb,he,fin⟩:=hyp
  wp_walk using wpAny_loadPart' hl,wpAny_loadPart' hb
  have lt1:at_ < us.size:=by omega
  have lt2:at_ < ws.size:=by omega
  have yes1:us[((at_:Nat):Int).toNat]?=some us[at_]:=by simp [lt1]
  have yes2:ws[((at_:Nat):Int).toNat]?=some ws[at_]:=by simp [lt2]
  have cons:(List.range us.size).drop at_=at_::(List.range us.size).drop (at_+1):=by simp [List.drop_eq_getElem_cons,lt1]
  have up:((at_:Int)+1)=((at_+1:Nat):Int):=by push_cast; rfl
  rw [cons,List.all_cons] at fin
  rw [yes1,yes2]
  refine wpAny_bind (he at_ lt1 lt2 prog w _ _ ?_)
  cases ev:same at_ with
  | true =>
   rw [ev] at fin
   wp_walk
   rw [up]
   exact ⟨plainId_quiet plain_eq_loop _,codeAny_builtin entry_eq_loop (by
    rw [Around.under_plainId plain_eq_loop _]
    exact ih (at_+1) (by omega) prog w A R _ ⟨hl,hb,he,by simpa using fin⟩)⟩
  | false =>
   rw [ev] at fin
   wp_walk using wpAny_loadPart' hl,wpAny_loadPart' hb
   rw [yes1,yes2]
   wp_walk
   simpa using fin
theorem xo (p q:Addr) (us ws:Array Value) (n1 n2:Nat) (d1 d2:Option Addr) (z1 z2:Array (Option Value)) (hlen:us.size=ws.size) (same:Nat->Bool) :
  Meets (Builtin.«list.__ne__» ⟨[.ref p,.ref q],[]⟩)
   (fun A R st=>st.heap.get? p=some { cls:=.type "list",dict:=d1,data:=.seq us n1,slots:=z1 }/\st.heap.get? q=some { cls:=.type "list",dict:=d2,data:=.seq ws n2,slots:=z2 } /\
    (∀ j (h1:j < us.size) (h2:j < ws.size),EqAt A.in1 st us[j] ws[j] (same j))/\R (.ok (.ret (.bool (!(List.range us.size).all same)))) st):=by
 intro prog w A R st hyp
 obtain ⟨hp,g,dr,tk,os⟩:=st
 obtain ⟨hl,hb,he,fin⟩:=hyp
 have f3:=AutoSeq1.sub_list_list
 have hne:¬ (us.size != ws.size)=true:=by simp [hlen]
 wp_walk using wpAny_loadPart' hl,wpAny_loadPart' hb
 exact ⟨plainId_quiet plain_eq_loop _,codeAny_builtin entry_eq_loop (by
  rw [Around.under_plainId plain_eq_loop _]
  exact De p q us ws n1 n2 d1 d2 z1 z2 hlen same _ 0 rfl prog w A R _ ⟨hl,hb,he,by simpa using fin⟩)⟩
theorem C5 (p q:Addr) (us ws:Array Value) (n1 n2:Nat) (d1 d2:Option Addr) (z1 z2:Array (Option Value)) (hlen:(us.size != ws.size)=true) :
  Meets (Builtin.«list.__ne__» ⟨[.ref p,.ref q],[]⟩)
   (fun _ R st=>st.heap.get? p=some { cls:=.type "list",dict:=d1,data:=.seq us n1,slots:=z1 }/\st.heap.get? q=some { cls:=.type "list",dict:=d2,data:=.seq ws n2,slots:=z2 } /\
    R (.ok (.ret (.bool true))) st) :=
 .of_wp fun prog w A R st hyp=>by
  obtain ⟨hp,g,dr,tk,os⟩:=st
  obtain ⟨hl,hb,fin⟩:=hyp
  have f3:=AutoSeq1.sub_list_list
  wp_walk using wpAny_loadPart' hl,wpAny_loadPart' hb
  exact ⟨_,rfl,fin⟩
theorem zv (p q:Addr) (us ws:Array Value) (n1 n2:Nat) (d1 d2:Option Addr) (z1 z2:Array (Option Value)) (same:Nat->Bool) :
  Meets (Builtin.«tuple.__ne__» ⟨[.ref p,.ref q],[]⟩)
   (fun A R st=>st.heap.get? p=some { cls:=.type "tuple",dict:=d1,data:=.seq us n1,slots:=z1 }/\st.heap.get? q=some { cls:=.type "tuple",dict:=d2,data:=.seq ws n2,slots:=z2 } /\
    (∀ j (h1:j < us.size) (h2:j < ws.size),EqAt A.in1 st us[j] ws[j] (same j)) /\
    R (.ok (.ret (.bool (!((List.range (min us.size ws.size)).all same&&us.size==ws.size))))) st) :=
 .of_wp fun prog w A R st hyp=>by
  obtain ⟨hp,g,dr,tk,os⟩:=st
  obtain ⟨hl,hb,he,fin⟩:=hyp
  have f2:=AutoSeq1.sub_tuple_tuple
  have zl:(us.toList.zip ws.toList).length=min us.size ws.size:=by simp
  wp_walk using wpAny_loadPart' hl,wpAny_loadPart' hb,wpAny_forIn_list _ (fun more b s'=>b.1=none/\s'=⟨hp,g,dr,tk,os⟩/\∃ i,more=(us.toList.zip ws.toList).drop i /\
   R (.ok (.ret (.bool (!(((List.range (min us.size ws.size)).drop i).all same&&us.size==ws.size))))) ⟨hp,g,dr,tk,os⟩) _
  case turn =>
   rintro ⟨y,x⟩ more b s' ⟨hb',rfl,i,hz,hR⟩
   have lt:i < (us.toList.zip ws.toList).length:=by
    rcases Nat.lt_or_ge i (us.toList.zip ws.toList).length with h'|h'
    ·exact h'
    ·rw [List.drop_of_length_le h'] at hz; cases hz
   have hm:i < min us.size ws.size:=zl ▸ lt
   have h1:i < us.size:=Nat.lt_of_lt_of_le hm (Nat.min_le_left _ _)
   have h2:i < ws.size:=Nat.lt_of_lt_of_le hm (Nat.min_le_right _ _)
   rw [List.drop_eq_getElem_cons lt] at hz
   injection hz with pair hmore
   have hy:y=us[i]:=by have:=congrArg Prod.fst pair; simpa using this
   have hx:x=ws[i]:=by have:=congrArg Prod.snd pair; simpa using this
   subst hy hx
   have cons:(List.range (min us.size ws.size)).drop i=i::(List.range (min us.size ws.size)).drop (i+1):=by simp [List.drop_eq_getElem_cons,hm]
   rw [cons,List.all_cons] at hR
   refine wpAny_bind (he i h1 h2 prog w _ _ ?_)
   cases ev:same i with
   | true =>
    rw [ev] at hR
    wp_walk
    exact ⟨rfl,rfl,i+1,hmore,by simpa using hR⟩
   | false =>
    rw [ev] at hR
    wp_walk
    exact ⟨_,rfl,by simpa using hR⟩
  case fin =>
   rintro ⟨b1,b2⟩ s' ⟨hb',rfl,i,hz,hR⟩
   simp only at hb'
   subst hb'
   have ge:min us.size ws.size<=i:=by
    rcases Nat.lt_or_ge i (us.toList.zip ws.toList).length with h'|h'
    ·rw [List.drop_eq_getElem_cons h'] at hz; cases hz
    ·exact zl ▸ h'
   rw [List.drop_of_length_le (by simpa using ge)] at hR
   wp_walk
   exact ⟨_,rfl,by simpa [Builtin.Tuple.tupleCompareSizes,bne] using hR⟩
  case h =>
   exact ⟨rfl,rfl,0,rfl,by simpa using fin⟩
section
variable {prog:Program} {w:World} {A:Around} {E:Value->Shared->Prop} {s:Shared}
theorem Er {l b:Addr} {us ws:Array Value} {same:Nat->Bool} {Q:Value->Shared->Prop} (hl:s.heap.IsList l us) (hb:s.heap.IsList b ws) (hlen:us.size=ws.size) (hu:A.units < cLine)
  (he:∀ j (h1:j < us.size) (h2:j < ws.size),EqAt A.in1 s us[j] ws[j] (same j)) (h:Q (.bool (!(List.range us.size).all same)) s):wpAny (model prog w) A (compareOp .NotEq (.ref l) (.ref b)) Q E s:=by
 obtain ⟨⟨c1,d1,t1,z1⟩,o1,k1,n1,e1⟩:=id hl
 obtain ⟨⟨c2,d2,t2,z2⟩,o2,k2,n2,e2⟩:=id hb
 simp only at k1 e1 k2 e2
 subst k1 e1 k2 e2
 exact richCompare_meets_room (op:=.NotEq) ⟨_,o1,rfl⟩ ⟨_,o2,rfl⟩ F.slot_list_ne F.entry_list_ne (F.args_list_ne_2 _ _) (xo l b us ws n1 n2 d1 d2 z1 z2 hlen same) ⟨o1,o2,he,⟨(fun x=>nomatch x),h⟩⟩ hu
theorem Cq {l b:Addr} {us ws:Array Value} {Q:Value->Shared->Prop} (hl:s.heap.IsList l us) (hb:s.heap.IsList b ws) (hlen:(us.size != ws.size)=true) (hu:A.units < cLine)
  (h:Q (.bool true) s):wpAny (model prog w) A (compareOp .NotEq (.ref l) (.ref b)) Q E s:=by
 obtain ⟨⟨c1,d1,t1,z1⟩,o1,k1,n1,e1⟩:=id hl
 obtain ⟨⟨c2,d2,t2,z2⟩,o2,k2,n2,e2⟩:=id hb
 simp only at k1 e1 k2 e2
 subst k1 e1 k2 e2
 exact richCompare_meets_room (op:=.NotEq) ⟨_,o1,rfl⟩ ⟨_,o2,rfl⟩ F.slot_list_ne F.entry_list_ne (F.args_list_ne_2 _ _) (C5 l b us ws n1 n2 d1 d2 z1 z2 hlen) ⟨o1,o2,⟨(fun x=>nomatch x),h⟩⟩ hu
theorem wQ {l b:Addr} {us ws:Array Value} {same:Nat->Bool} {Q:Value->Shared->Prop} (hl:s.heap.IsTuple l us) (hb:s.heap.IsTuple b ws) (hu:A.units < cLine)
  (he:∀ j (h1:j < us.size) (h2:j < ws.size),EqAt A.in1 s us[j] ws[j] (same j)) (h:Q (.bool (!((List.range (min us.size ws.size)).all same&&us.size==ws.size))) s):wpAny (model prog w) A (compareOp .NotEq (.ref l) (.ref b)) Q E s:=by
 obtain ⟨⟨c1,d1,t1,z1⟩,o1,k1,n1,e1⟩:=id hl
 obtain ⟨⟨c2,d2,t2,z2⟩,o2,k2,n2,e2⟩:=id hb
 simp only at k1 e1 k2 e2
 subst k1 e1 k2 e2
 exact richCompare_meets_room (op:=.NotEq) ⟨_,o1,rfl⟩ ⟨_,o2,rfl⟩ F.slot_tuple_ne F.entry_tuple_ne (F.args_tuple_ne_2 _ _) (zv l b us ws n1 n2 d1 d2 z1 z2 same) ⟨o1,o2,he,⟨(fun x=>nomatch x),h⟩⟩ hu
end
end NEQ

namespace ENM
open PySem PyProof.Rows
open AutoSeq1 (wpAny_loadPart')
section
variable {prog:Program} {w:World} {A:Around} {E:Value->Shared->Prop} {s:Shared}
theorem AL {it t:Addr} {k:Nat} {us:Array Value} {u:Value} {Q:Value->Shared->Prop} (hit:s.heap.IsTupleIter it t k) (ht:s.heap.IsTuple t us) (hu:us[k]?=some u)
  (fin:∀ h',h'.IsTupleIter it t (k+1)->Heap.SameBut it s.heap h'->Q u { s with heap:=h' }):wpAny (model prog w) A (Builtin.SmallTypes.nextOf (.ref it)) Q E s:=by
 obtain ⟨ob,hob,hcl,hda⟩:=id hit
 obtain ⟨ot,hot,_,nt,hdt⟩:=ht
 unfold Builtin.SmallTypes.nextOf
 refine wpAny_bind (wpAny_callSpecial?_slot (name:=Str.ofString "__next__") hit.typeIs F.slot_tuple_iterator_next (wpAny_call_entry F.slot_tuple_iterator_next hit.typeIs F.entry_tuple_iterator_next ?_ (F.args_tuple_iterator_next_1 _)))
 show wpAny _ _ (field (.ref it) 0>>=_) _ _ s
 refine wpAny_bind (wpAny_field hob hda (x:=.ref t) rfl ?_)
 show wpAny _ _ (if (Value.ref t==Value.none)=true then _ else _) _ _ s
 rw [if_neg (show ¬ ((Value.ref t==Value.none)=true) from Bool.false_ne_true)]
 show wpAny _ _ (field (.ref it) 1>>=_) _ _ s
 refine wpAny_bind (wpAny_field hob hda (x:=.int k 0) rfl ?_)
 show wpAny _ _ (seqItems? (.ref t)>>=_) _ _ s
 refine wpAny_bind (wpAny_seqItems hot hdt ?_)
 simp only [Int.toNat_natCast,hu]
 refine wpAny_bind (wpAny_setField hob hda (by simp) (wpAny_pure ⟨u,rfl,wpAny_pure (fin _ ?_ (Heap.SameBut.update ..))⟩))
 refine ⟨_,Heap.get?_update_self _ hob (Obj.isFreed_of_fields (Obj.data_mapFields hda _)),(Obj.cls_mapFields ..).trans hcl,?_⟩
 rw [Obj.data_mapFields hda]
 simp [rawInt]
theorem Ct {it t:Addr} {k:Nat} {us:Array Value} {Q:Value->Shared->Prop} (calm:A.handled=none) (hit:s.heap.IsTupleIter it t k) (ht:s.heap.IsTuple t us) (hu:us[k]?=none)
  (fin:∀ h' e,Heap.ExtBut it s.heap h'->(∃ o,h'.get? e=some o/\o.cls=.type "StopIteration")->E (.ref e) { s with heap:=h' }):wpAny (model prog w) A (Builtin.SmallTypes.nextOf (.ref it)) Q E s:=by
 obtain ⟨ob,hob,hcl,hda⟩:=id hit
 obtain ⟨ot,hot,_,nt,hdt⟩:=ht
 unfold Builtin.SmallTypes.nextOf
 refine wpAny_bind (wpAny_callSpecial?_slot (name:=Str.ofString "__next__") hit.typeIs F.slot_tuple_iterator_next (wpAny_call_entry F.slot_tuple_iterator_next hit.typeIs F.entry_tuple_iterator_next ?_ (F.args_tuple_iterator_next_1 _)))
 show wpAny _ _ (field (.ref it) 0>>=_) _ _ s
 refine wpAny_bind (wpAny_field hob hda (x:=.ref t) rfl ?_)
 show wpAny _ _ (if (Value.ref t==Value.none)=true then _ else _) _ _ s
 rw [if_neg (show ¬ ((Value.ref t==Value.none)=true) from Bool.false_ne_true)]
 show wpAny _ _ (field (.ref it) 1>>=_) _ _ s
 refine wpAny_bind (wpAny_field hob hda (x:=.int k 0) rfl ?_)
 show wpAny _ _ (seqItems? (.ref t)>>=_) _ _ s
 refine wpAny_bind (wpAny_seqItems hot hdt ?_)
 simp only [Int.toNat_natCast,hu]
 refine wpAny_bind (wpAny_rule (wpAny_bind (wpAny_setField hob hda (by simp) ?_)))
 show wpAny _ _ (newExc (.type "StopIteration") []>>=_) _ _ _
 refine wpAny_bind ?_
 simp only [newExc,newTuple]
 refine wpAny_bind (wpAny_newObj_type ?_ (by size_fits))
 refine wpAny_bind (m:=firstArgMember _ _) (wpAny_of_eq (a:=Value.none) (by first|rfl|(simp only [firstArgMember]; rfl)) ?_)
 refine wpAny_newObj_type ?_ (by size_fits)
 simp only [raiseNew]
 refine wpAny_bind (wpAny_handled ?_)
 first|rw [show A.in1.handled=none from calm]|rw [calm]
 refine wpAny_bind (wpAny_pure (wpAny_throw ?_))
 exact fin _ _ (((Heap.SameBut.update ..).extBut.push _).push _) ⟨_,Heap.get?_push_size _ rfl,rfl⟩
noncomputable def Inn (tup:Bool) (h:Heap) (it a:Addr) (k:Nat):Prop:=match tup with
 | true=>h.IsTupleIter it a k
 | false=>h.IsListIter it a k
noncomputable def Seq (tup:Bool) (h:Heap) (a:Addr) (us:Array Value):Prop:=match tup with
 | true=>h.IsTuple a us
 | false=>h.IsList a us
theorem Inn.keep {tup:Bool} {h h':Heap} {it a:Addr} {k:Nat} (x:Inn tup h it a k) (e:∀ o,h.get? it=some o->h'.get? it=some o):Inn tup h' it a k:=by
 cases tup with
 | true=>obtain ⟨o,ho,r⟩:=(show h.IsTupleIter it a k from x); exact ⟨o,e _ ho,r⟩
 | false=>obtain ⟨o,ho,r⟩:=(show h.IsListIter it a k from x); exact ⟨o,e _ ho,r⟩
theorem Inn.there {tup:Bool} {h:Heap} {it a:Addr} {k:Nat} (x:Inn tup h it a k):∃ o,h.get? it=some o/\∀ v,o.data≠.cell v:=by
 cases tup with
 | true=>obtain ⟨o,ho,_,hd⟩:=(show h.IsTupleIter it a k from x); exact ⟨o,ho,fun v z=>by rw [hd] at z; cases z⟩
 | false=>obtain ⟨o,ho,_,hd⟩:=(show h.IsListIter it a k from x); exact ⟨o,ho,fun v z=>by rw [hd] at z; cases z⟩
theorem zG {tup:Bool} {it a:Addr} {k:Nat} {us:Array Value} {u:Value} {Q:Value->Shared->Prop} (hit:Inn tup s.heap it a k) (hs:Seq tup s.heap a us) (hu:us[k]?=some u)
  (fin:∀ h',Inn tup h' it a (k+1)->Heap.SameBut it s.heap h'->Q u { s with heap:=h' }):wpAny (model prog w) A (Builtin.SmallTypes.nextOf (.ref it)) Q E s:=by
 cases tup with
 | true=>exact AL hit hs hu fin
 | false=>exact wpAny_nextOf_list_item hit hs hu fin
theorem zH {tup:Bool} {it a:Addr} {k:Nat} {us:Array Value} {Q:Value->Shared->Prop} (calm:A.handled=none) (hit:Inn tup s.heap it a k) (hs:Seq tup s.heap a us) (hu:us[k]?=none)
  (fin:∀ h' e,Heap.ExtBut it s.heap h'->(∃ o,h'.get? e=some o/\o.cls=.type "StopIteration")->E (.ref e) { s with heap:=h' }):wpAny (model prog w) A (Builtin.SmallTypes.nextOf (.ref it)) Q E s:=by
 cases tup with
 | true=>exact Ct calm hit hs hu fin
 | false=>exact wpAny_nextOf_list_end calm hit hs hu fin
theorem zC {tup:Bool} {en it a:Addr} {k:Nat} {us:Array Value} {u old:Value} {Q:Option Value->Shared->Prop} (he:IsEnum s.heap en it k old) (hit:Inn tup s.heap it a k) (hs:Seq tup s.heap a us) (hu:us[k]?=some u) (hne:en≠it)
  (fin:∀ h',IsEnumOut h' en it ((k:Int)+1) u s.heap.objs.size->Inn tup h' it a (k+1)->h'.get? s.heap.objs.size=some { cls:=.type "tuple",data:=.seq #[.int k s.toks,u] }->h'.objs.size=s.heap.objs.size+1 ->
   (∀ b o,b≠en->b≠it->s.heap.get? b=some o->h'.get? b=some o)->Q (some (.ref s.heap.objs.size)) { s with heap:=h',toks:=s.toks+1 }):wpAny (model prog w) A (pyNext (.ref en)) Q E s:=by
 have hT:s.TypeIs (.ref en) "enumerate":=⟨_,he,rfl⟩
 unfold pyNext
 refine wpAny_bind (wpAny_attempt (wpAny_callSpecial?_slot (name:=Str.ofString "__next__") hT F.slot_enumerate_next (wpAny_call_entry F.slot_enumerate_next hT F.entry_enumerate_next ?_ (F.args_enumerate_next_1 _))))
 obtain ⟨hp,g,dr,tk,os⟩:=s
 show wpAny _ _ (field (.ref en) 2>>=_) _ _ _
 refine wpAny_bind (wpAny_field he rfl (x:=.ref it) rfl ?_)
 refine wpAny_bind (zG hit hs hu fun h1 hit1 sb1=>?_)
 replace sb1:Heap.SameBut it hp h1:=sb1
 have he1:IsEnum h1 en it k old:=(sb1.2 en hne).trans he
 show wpAny _ _ (field (.ref en) 3>>=_) _ _ ⟨h1,g,dr,tk,os⟩
 refine wpAny_bind (wpAny_field he1 rfl (x:=rawInt k) rfl ?_)
 show wpAny _ _ (field (.ref en) 4>>=_) _ _ ⟨h1,g,dr,tk,os⟩
 refine wpAny_bind (wpAny_field he1 rfl (x:=.none) rfl ?_)
 show wpAny _ _ (mkInt k>>=_) _ _ ⟨h1,g,dr,tk,os⟩
 refine wpAny_bind (wpAny_mkInt ?_)
 show wpAny _ _ (setField (.ref en) 3 (rawInt ((k:Int)+1))>>=_) _ _ ⟨h1,g,dr,tk+1,os⟩
 refine wpAny_bind (wpAny_setField_rec he1 (by simp) fun h2 he2 sb2=>?_)
 replace sb2:Heap.SameBut en h1 h2:=sb2
 replace he2:IsEnum h2 en it ((k:Int)+1) old:=he2
 show wpAny _ _ (setField (.ref en) 4 .none>>=_) _ _ ⟨h2,g,dr,tk+1,os⟩
 refine wpAny_bind (wpAny_setField_rec he2 (by simp) fun h3 he3 sb3=>?_)
 replace sb3:Heap.SameBut en h2 h3:=sb3
 replace he3:IsEnum h3 en it ((k:Int)+1) old:=he3
 show wpAny _ _ (newTuple [.int k tk,u]>>=_) _ _ ⟨h3,g,dr,tk+1,os⟩
 refine wpAny_bind (wpAny_newTuple ?_)
 have he4:IsEnum (h3.push { cls:=.type "tuple",data:=.seq #[.int k tk,u] }) en it ((k:Int)+1) old:=Heap.get?_push_of_some _ he3
 generalize eh4:h3.push { cls:=.type "tuple",data:=.seq #[.int k tk,u] }=h4 at he4
 have sz3:h3.objs.size=hp.objs.size:=by rw [sb3.1,sb2.1,sb1.1]
 have enlt:en < hp.objs.size:=Heap.lt_size he
 have tp4:h4.get? hp.objs.size=some { cls:=.type "tuple",data:=.seq #[.int k tk,u] }:=by rw [<- eh4,<- sz3]; exact Heap.get?_push_size _ rfl
 have sz4:h4.objs.size=hp.objs.size+1:=by rw [<- eh4,Heap.size_push,sz3]
 have kp4:∀ b o,b≠en->b≠it->hp.get? b=some o->h4.get? b=some o:=fun b o hbe hbi hb=>by
  rw [<- eh4]; exact Heap.get?_push_of_some _ (sb3.extBut b o hbe (sb2.extBut b o hbe (sb1.extBut b o hbi hb)))
 have hit4:Inn tup h4 it a (k+1):=hit1.keep fun o e=>by
  rw [<- eh4]; exact Heap.get?_push_of_some _ (sb3.extBut _ o (Ne.symm hne) (sb2.extBut _ o (Ne.symm hne) e))
 show wpAny _ _ (Builtin.SmallTypes.ownedTupleIsFree (.ref en)>>=_) _ _ ⟨h4,g,dr,tk+1,os⟩
 rw [sz3]
 clear eh4 he3 sb3 he2 sb2 he1 sb1 hit1 sz3 h3 h2 h1
 refine wpAny_bind ?_
 unfold Builtin.SmallTypes.ownedTupleIsFree
 refine wpAny_bind (wpAny_field he4 rfl (x:=.none) rfl (wpAny_pure ?_))
 simp only [if_true]
 refine wpAny_bind (wpAny_rule ?_)
 refine wpAny_bind (wpAny_field he4 rfl (x:=old) rfl ?_)
 refine wpAny_bind (wpAny_setField_rec he4 (by simp) fun h5 he5 sb5=>?_)
 replace sb5:Heap.SameBut en h4 h5:=sb5
 replace he5:IsEnum h5 en it ((k:Int)+1) u:=he5
 show wpAny _ _ (Builtin.SmallTypes.ownedTupleHandOut (.ref en) (.ref hp.objs.size)>>=_) _ _ ⟨h5,g,dr,tk+1,os⟩
 refine wpAny_bind ?_
 unfold Builtin.SmallTypes.ownedTupleHandOut
 refine wpAny_bind (wpAny_setField_rec he5 (by simp) fun h6 he6 sb6=>?_)
 replace sb6:Heap.SameBut en h5 h6:=sb6
 replace he6:IsEnumOut h6 en it ((k:Int)+1) u hp.objs.size:=he6
 refine wpAny_setField_rec he6 (by simp) fun h7 he7 sb7=>?_
 replace sb7:Heap.SameBut en h6 h7:=sb7
 replace he7:IsEnumOut h7 en it ((k:Int)+1) u hp.objs.size:=he7
 have up:∀ b o,b≠en->h4.get? b=some o->h7.get? b=some o:=fun b o hbe hb=>sb7.extBut b o hbe (sb6.extBut b o hbe (sb5.extBut b o hbe hb))
 refine wpAny_bind (wpAny_letGo (wpAny_pure ⟨_,rfl,wpAny_pure (fin h7 he7 (hit4.keep fun o e=>up _ o (Ne.symm hne) e) (up _ _ (Nat.ne_of_gt enlt) tp4) ?_ fun b o hbe hbi hb=>up b o hbe (kp4 b o hbe hbi hb))⟩))
 rw [sb7.1,sb6.1,sb5.1,sz4]
theorem yP {tup:Bool} {en it a:Addr} {k:Nat} {us:Array Value} {old:Value} {Q:Option Value->Shared->Prop} (calm:A.handled=none) (he:IsEnum s.heap en it k old) (hit:Inn tup s.heap it a k) (hs:Seq tup s.heap a us) (hu:us[k]?=none)
  (fin:∀ h',Heap.ExtBut it s.heap h'->Q none { s with heap:=h' }):wpAny (model prog w) A (pyNext (.ref en)) Q E s:=by
 have hT:s.TypeIs (.ref en) "enumerate":=⟨_,he,rfl⟩
 unfold pyNext
 refine wpAny_bind (wpAny_attempt (wpAny_callSpecial?_slot (name:=Str.ofString "__next__") hT F.slot_enumerate_next (wpAny_call_entry F.slot_enumerate_next hT F.entry_enumerate_next ?_ (F.args_enumerate_next_1 _))))
 show wpAny _ _ (field (.ref en) 2>>=_) _ _ _
 refine wpAny_bind (wpAny_field he rfl (x:=.ref it) rfl ?_)
 refine wpAny_bind (zH calm hit hs hu fun h' x ext hx=>?_)
 obtain ⟨o,ho,hc⟩:=hx
 refine wpAny_bind (wpAny_isInstance (T:="StopIteration") (b:=true) ⟨o,ho,hc⟩ isSubtype_stop ?_)
 exact wpAny_pure (fin _ ext)
theorem zS (t:Addr) (us:Array Value) (n:Nat) (dd:Option Addr) (sl:Array (Option Value)) :
  Meets (Builtin.«enumerate.__new__» ⟨[.type "enumerate",.ref t],[]⟩) (fun _ R s=>s.heap.get? t=some { cls:=.type "tuple",dict:=dd,data:=.seq us n,slots:=sl } /\
   R (.ok (.ret (.ref (s.heap.push { cls:=.type "tuple_iterator",data:=.fields #[.ref t,.int 0 0] }).objs.size)))
    { s with heap:=(s.heap.push { cls:=.type "tuple_iterator",data:=.fields #[.ref t,.int 0 0] }).push { cls:=.type "enumerate",data:=.fields #[.none,.bool false,.ref s.heap.objs.size,rawInt 0,.none,.none] } }) :=
 .of_wp fun prog w A R s h=>by
  obtain ⟨hp,g,d,tk,os⟩:=s
  obtain ⟨ht,h⟩:=h
  have hsub:=sub_enumerate
  have hT:Heap.IsTuple (Shared.heap ⟨hp,g,d,tk,os⟩) t us:=⟨_,ht,rfl,n,rfl⟩
  wp_walk using wpAny_loadPart' ht
  refine wpAny_stack_any fun st=>wpAny_pure ?_
  split
  ·rename_i c _ _ _ _ _
   cases (c==Value.type "enumerate")
   ·wp_walk using wpAny_loadPart' ht,wpAny_pyIter_tuple hT
    exact ⟨_,rfl,h⟩
   ·wp_walk using wpAny_loadPart' ht,wpAny_pyIter_tuple hT
    exact ⟨_,rfl,h⟩
  ·wp_walk using wpAny_loadPart' ht,wpAny_pyIter_tuple hT
   exact ⟨_,rfl,h⟩
theorem Dc {t:Addr} {us:Array Value} {Q:Value->Shared->Prop} (hT:s.heap.IsTuple t us)
  (h:∀ h',IsEnum h' (s.heap.objs.size+1) s.heap.objs.size 0 .none->h'.IsTupleIter s.heap.objs.size t 0->h'.objs.size=s.heap.objs.size+2->(∀ b o,s.heap.get? b=some o->h'.get? b=some o)->Q (.ref (s.heap.objs.size+1)) { s with heap:=h' }) :
  wpAny (model prog w) A (call (.type "enumerate") [.ref t]) Q E s:=by
 obtain ⟨⟨c,dd,dt,sl⟩,ht,hc,n,hd⟩:=hT
 replace hc:c=.type "tuple":=hc
 replace hd:dt=.seq us n:=hd
 subst hc hd
 refine callType_new F.called_enumerate (by decide) (F.typeCall_enumerate_1 _) (F.newCall_enumerate_1 _) (fun obj=>F.args_object_init_2 obj _) F.entry_enumerate_new (zS t us n dd sl) ⟨ht,?_⟩
 have sz:(s.heap.push { cls:=.type "tuple_iterator",data:=.fields #[.ref t,.int 0 0] }).objs.size=s.heap.objs.size+1:=Heap.size_push ..
 show _/\_
 rw [sz]
 have he:IsEnum ((s.heap.push { cls:=.type "tuple_iterator",data:=.fields #[.ref t,.int 0 0] }).push { cls:=.type "enumerate",data:=.fields #[.none,.bool false,.ref s.heap.objs.size,rawInt 0,.none,.none] }) (s.heap.objs.size+1) s.heap.objs.size 0 .none:=by
  have:=Heap.get?_push_size (s.heap.push { cls:=.type "tuple_iterator",data:=.fields #[.ref t,.int 0 0] }) (o:={ cls:=.type "enumerate",data:=.fields #[.none,.bool false,.ref s.heap.objs.size,rawInt 0,.none,.none] }) rfl
  rw [sz] at this; exact this
 exact ⟨⟨_,he,rfl⟩,h _ he ⟨_,Heap.get?_push_of_some _ (Heap.get?_push_size _ rfl),rfl,rfl⟩ (by rw [Heap.size_push,sz]) fun b o x=>Heap.get?_push_of_some _ (Heap.get?_push_of_some _ x)⟩
theorem BP {tup:Bool} {a:Addr} {us:Array Value} {Q:Value->Shared->Prop} (hs:Seq tup s.heap a us)
  (h:∀ h',IsEnum h' (s.heap.objs.size+1) s.heap.objs.size 0 .none->Inn tup h' s.heap.objs.size a 0->h'.objs.size=s.heap.objs.size+2->(∀ b o,s.heap.get? b=some o->h'.get? b=some o)->Q (.ref (s.heap.objs.size+1)) { s with heap:=h' }) :
  wpAny (model prog w) A (call (.type "enumerate") [.ref a]) Q E s:=by
 cases tup with
 | true=>exact Dc hs h
 | false=>exact call_enumerate_list hs h
end
end ENM
namespace L2
open PySem PySem.Spec PyProof.Rows ENM
noncomputable def SqB (K:PySem.W.Frag) (H:Hp) (tup:Bool) (a:Addr) (xs:List V):Prop:=match tup with
 | true=>SqT K H a xs
 | false=>SqL K H a xs
noncomputable def Ite (K:PySem.W.Frag) (tup:Bool) (a:Addr):It :=
 ⟨fun i H=>∃ xs x,SqB K H tup a xs/\xs[i]?=some x,fun i H x H'=>∃ y p,(∀ xs,SqB K H tup a xs->xs[i]?=some y)/\H p=none/\H'=upd H p (.tup [.int i,y])/\x=.ref p,fun i H=>∃ xs,SqB K H tup a xs/\xs.length<=i⟩
theorem Inv.kK {X:Cx} {pins:List (Addr × Obj)} {σ:L2.St} {H:Hp} {s:Shared} (I:Inv X pins σ H s) {tup:Bool} {a:Addr} {xs:List V} (h:SqB X.K H tup a xs):∃ its:List Value,Vals xs its/\Seq tup s.heap a its.toArray:=by
 cases tup with
 | true=>obtain ⟨its,rv,p,_⟩:=I.tuple h; exact ⟨its,rv,p⟩
 | false=>obtain ⟨its,rv,p,_⟩:=I.list h; exact ⟨its,rv,p.isList⟩
theorem Inv.uI {X:Cx} {pins:List (Addr × Obj)} {σ:L2.St} {H:Hp} {s:Shared} (I:Inv X pins σ H s) {tup:Bool} {a:Addr} {xs ys:List V} (h:SqB X.K H tup a xs) (h':SqB X.K H tup a ys):xs=ys:=by
 cases tup with
 | true=>exact I.iR h h'
 | false=>exact I.jf h h'
theorem Az {P:Program} {w:World} {K:PySem.W.Frag} {elts:List Expr} {k1:Nat} {tp:Pos} (tup:Bool) (a en it:Addr) (hne:en≠it) :
  Turn P w K (.Tuple elts k1 tp) (Ite K tup a) [en,it] en (fun i h=>(∃ old,IsEnum h en it i old)/\Inn tup h it a i) where
 mem:=by simp
 obj:=fun i h st b hb=>by
  obtain ⟨⟨old,he⟩,hi⟩:=st
  rcases List.mem_cons.mp hb with rfl|hb
  ·exact ⟨_,he,fun v z=>by
    have z':Data.fields _=Data.cell v:=z
    cases z'⟩
  ·have e:b=it:=by simpa using hb
   subst e; exact hi.there
 keep:=fun i h h' st k=>by
  obtain ⟨⟨old,he⟩,hi⟩:=st
  exact ⟨⟨old,k en (by simp) _ he⟩,hi.keep fun o e=>k it (by simp) o e⟩
 item:=by
  intro X hP hw hK hc i pins s σ H E I hf st hg
  subst hP hw hK
  obtain ⟨⟨old,he⟩,hi⟩:=st
  obtain ⟨xs,x,hq,hx⟩:=hg
  obtain ⟨its,rv,hs⟩:=I.kK hq
  obtain ⟨u,hu,ru⟩:=rv.get hx
  obtain ⟨f0,f1,f2,f3,f4,f5⟩:=hf en (by simp)
  obtain ⟨g0,g1,g2,g3,g4,g5⟩:=hf it (by simp)
  refine zC he hi hs (u:=u) (by simpa using hu) hne fun h' ho hi' ht hz hk=>?_
  refine ⟨_,rfl,wpAny_letOwnedTupleGo_enum ho fun h2 he2 sb2=>?_⟩
  replace sb2:Heap.SameBut en h' h2:=sb2
  have elt:en < s.heap.objs.size:=Heap.lt_size he
  have hp:H s.heap.objs.size=none:=I.hok.fresh (Nat.le_refl _)
  have ilt:it < s.heap.objs.size:=by obtain ⟨o,e,_⟩:=hi.there; exact Heap.lt_size e
  have kept:∀ b o,b≠en->b≠it->s.heap.get? b=some o->h2.get? b=some o:=fun b o h1 h3 e=>sb2.extBut b o h1 (hk b o h1 h3 e)
  have tp2:h2.get? s.heap.objs.size=some { cls:=.type "tuple",data:=.seq #[.int i s.toks,u] }:=sb2.extBut _ _ (Nat.ne_of_gt elt) ht
  have I2:Inv X pins σ (upd H s.heap.objs.size (.tup [.int i,x])) { s with heap:=h2,toks:=s.toks+1 }:=by
   refine I.step (g':=s.gens) (d':=s.drawn) (ch:=[en,it]) (fun b hb=>?_) (fun b o _ _ hc e _=>kept b o (fun z=>hc (by simp [z])) (fun z=>hc (by simp [z])) e)
    (fun b o _ _ hc e _=>⟨o.slots,kept b o (fun z=>hc (by simp [z])) (fun z=>hc (by simp [z])) e⟩) (fun b o _ e n=>by rw [aB (Nat.ne_of_lt (Heap.lt_size e))]; exact n)
    (fun b o hc e=>⟨o,kept b o (fun z=>hc (by simp [z])) (fun z=>hc (by simp [z])) e⟩) (fun b ys q=>by rw [aB (bz q hp)]; exact q) (fun b o u q=>by rw [aB (bz q hp)]; exact q)
    (fun b ps q=>⟨#[],by rw [aB (bz q hp),q]; simp⟩) (fun m hm=>?_) ?_ I.bare
   ·rcases List.mem_cons.mp hb with rfl|hb
    ·exact ⟨f3,f1,f4,f5⟩
    ·have e:b=it:=by simpa using hb
     subst e; exact ⟨g3,g1,g4,g5⟩
   ·obtain ⟨o,es,ep,ho',r⟩:=hm
    exact ⟨o,es,ep,kept _ o (Ne.symm f1) (Ne.symm g1) ho',r⟩
   ·intro b o q
    by_cases hb:b=s.heap.objs.size
    ·subst hb
     rw [c_] at q
     cases q
     exact ⟨by show 2<=sizeLine; decide,[.int i s.toks,u],.cons ⟨_,rfl⟩ (.cons ru .nil),_,tp2,rfl,_,rfl⟩
    ·rw [aB hb] at q
     have hb1:b≠en:=fun z=>by rw [z,f0] at q; cases q
     have hb2:b≠it:=fun z=>by rw [z,g0] at q; cases q
     refine (I.hok b o q).stay (fun c v hc e=>?_) (fun c q=>by rw [aB (bz q hp)]; exact q) fun c ys q=>by rw [aB (bz q hp)]; exact q
     rcases hc with rfl|hc
     ·exact kept _ v hb1 hb2 e
     ·exact kept c v (fun z=>by rw [z,f0] at hc; cases hc) (fun z=>by rw [z,g0] at hc; cases hc) e
  refine ⟨.ref s.heap.objs.size,upd H s.heap.objs.size (.tup [.int i,x]),I2,rfl,⟨x,_,fun ys hy=>by rw [I.uI hy hq]; exact hx,hp,rfl,rfl⟩,⟨⟨u,by simpa using he2⟩,hi'.keep fun o e=>sb2.extBut _ o (Ne.symm hne) e⟩,fun b hb=>?_⟩
  rcases List.mem_cons.mp hb with rfl|hb
  ·rw [aB (Nat.ne_of_lt elt)]; exact f0
  ·have e:b=it:=by simpa using hb
   subst e; rw [aB (Nat.ne_of_lt ilt)]; exact g0
 done:=by
  intro X hP hw hK hc i pins s σ H E I hf st hg
  subst hP hw hK
  obtain ⟨⟨old,he⟩,hi⟩:=st
  obtain ⟨xs,hq,hx⟩:=hg
  obtain ⟨its,rv,hs⟩:=I.kK hq
  obtain ⟨g0,g1,g2,g3,g4,g5⟩:=hf it (by simp)
  have hl:=rv.length
  exact yP (I.ok.hd hc) he hi hs (by simp; omega) fun h' eb=>⟨rfl,I.turned (t':=s.toks) (fun b o hb e=>eb b o hb e) g0 g1 g3 g4 g5⟩
 self:=fun _ _ _ _ _ st h=>by
  obtain ⟨⟨old,he⟩,_⟩:=st
  exact wpAny_pyIter_enum he h
section
variable {X:Cx}
noncomputable def vf (K:PySem.W.Frag) (ta:TA):TI:=fun σ H R=>ta σ H fun vs H1=>∃ tup a,vs=[.ref a]/\(∃ xs,SqB K H1 tup a xs)/\R (Ite K tup a) H1
theorem ze {e:Expr} {ta:TA} {p pos:Pos} {elts:List Expr} {k1:Nat} {tp:Pos} (hg:Gl X "enumerate") (hm:X.mg "enumerate" = none) (hv:bootBuiltins "enumerate" = some (.type "enumerate")) (ha:PA X [e] ta) (hs:starEach [e] X.env=[(false,eval e X.env)]) :
  PI X (.Tuple elts k1 tp) (.Call (.Name "enumerate" p) [e] [] pos) (vf X.K ta):=by
 intro pins s σ H R I h
 refine Call_ (c5 I hg hm hv (PyProof.Rows.callWith_type1 (thn (ha pos pins s σ H _ I h) fun us s1 ⟨vs,H1,I1,r1,q1⟩=>?_) hs rfl))
 obtain ⟨tup,a,e,⟨xs,hq⟩,q⟩:=q1
 subst e
 cases r1 with
 | cons r rr =>
  cases rr
  cases r
  obtain ⟨its,rv,hsq⟩:=I1.kK hq
  refine BP hsq fun h' he hi hz hk=>?_
  refine wpAny_pyIter_enum he ?_
  have fr:∀ b,s1.heap.objs.size<=b->cG X pins H1 b:=fun b hb=>I1.fN hb (I1.hok.fresh hb)
  refine ⟨s1.heap.objs.size+1,[s1.heap.objs.size+1,s1.heap.objs.size],_,_,H1,rfl,I1.kept (t':=s1.toks) hk,Az tup a _ _ (Nat.ne_of_gt (Nat.lt_succ_self _)),⟨⟨.none,he⟩,hi⟩,fun b hb=>?_,q⟩
  rcases List.mem_cons.mp hb with rfl|hb
  ·exact fr _ (Nat.le_succ _)
  ·have e:b=s1.heap.objs.size:=by simpa using hb
   subst e; exact fr _ (Nat.le_refl _)
noncomputable def kL (lo:Int) (n:Nat):It:=⟨fun i _=>i < n,fun i H x H'=>H'=H/\x=.int (lo - i),fun i _=>n<=i⟩
theorem DE {P:Program} {w:World} {K:PySem.W.Frag} {tg:Expr} (it:Addr) (lo:Int) (n:Nat):Turn P w K tg (kL lo n) [it] it (fun i h=>IsRangeIter h it (lo+(i:Nat) * (-1)) ((n:Int) - (i:Nat)) (-1)) where
 mem:=by simp
 obj:=fun i h st b hb=>by
  have e:b=it:=by simpa using hb
  subst e
  exact ⟨_,st,fun v z=>by
   have z':Data.fields _=Data.cell v:=z
   cases z'⟩
 keep:=fun i h h' st k=>k it (by simp) _ st
 item:=by
  intro X hP hw hK hc i pins s σ H E I hf st hg
  subst hP hw hK
  obtain ⟨f0,f1,f2,f3,f4,f5⟩:=hf it (by simp)
  have W:=Walks.range (prog:=X.prog) (w:=X.w) (I.ok.hd hc) it lo (-1) n
  refine W.item i s _ _ hg st fun v h' tk hv st' kk=>?_
  obtain ⟨t,rfl⟩:=hv
  have I1:Inv X pins σ H { s with heap:=h',toks:=tk }:=I.turned (fun b o hb e=>kk b o (by simpa using hb) e) f0 f1 f3 f4 f5
  refine ⟨_,rfl,jB (s:={ s with heap:=h',toks:=tk }) (n:="range_iterator") st' rfl rfl (by decide) ⟨.int (lo - i),H,I1,⟨t,?_⟩,⟨rfl,rfl⟩,st',fun b hb=>(hf b hb).1⟩⟩
  congr 1
  omega
 done:=by
  intro X hP hw hK hc i pins s σ H E I hf st hg
  subst hP hw hK
  obtain ⟨f0,f1,f2,f3,f4,f5⟩:=hf it (by simp)
  exact wpAny_pyNext_range_end (I.ok.hd hc) st (by have:n<=i:=hg; omega) fun h' eb=>⟨rfl,I.turned (t':=s.toks) (fun b o hb e=>eb b o hb e) f0 f1 f3 f4 f5⟩
 self:=fun _ _ _ _ _ st h=>wpAny_pyIter_rangeiter st h
theorem rangeSize_down (a b:Int):Builtin.Range.rangeSize a b (-1)=if b < a then a - b else 0:=by
 unfold Builtin.Range.rangeSize
 rw [if_neg (by decide)]
 by_cases h:b < a
 ·rw [if_pos h,if_pos (show a > b from h)]
  rw [show (-(-1):Int)=1 from rfl,Int.ediv_one]; omega
 ·rw [if_neg h,if_neg (show ¬ a > b from h)]
theorem small_down {a b:Int} (ha:-(2 ^ 62)<=a) (ha':a < 2 ^ 62) (hb:-(2 ^ 62)<=b) (hb':b < 2 ^ 62):Builtin.Range.small a b (-1)=true:=by
 unfold Builtin.Range.small
 rw [rangeSize_down]
 simp only [Builtin.Range.rangeFitsLong,Bool.and_eq_true,Bool.or_eq_true,decide_eq_true_eq,beq_iff_eq]
 by_cases h:b < a
 ·simp only [if_pos h]
  rw [if_neg (show ¬ (-1:Int) > 0 by decide),Bool.and_eq_true,decide_eq_true_eq,decide_eq_true_eq]
  omega
 ·simp only [if_neg h]
  rw [if_neg (show ¬ (-1:Int) > 0 by decide),Bool.and_eq_true,decide_eq_true_eq,decide_eq_true_eq]
  omega
noncomputable def EO (ta:TA):TI:=fun σ H R=>ta σ H fun vs H1=>∃ i j:Int,vs=[.int i,.int j,.int (-1)]/\(-(2 ^ 62)<=i/\i < 2 ^ 62/\-(2 ^ 62)<=j/\j < 2 ^ 62)/\R (kL i (i - j).toNat) H1
theorem zj {tg a b c:Expr} {ta:TA} {p pos:Pos} (hg:Gl X "range") (hm:X.mg "range" = none) (ha:PA X [a,b,c] ta) (hs:starEach [a,b,c] X.env=[(false,eval a X.env),(false,eval b X.env),(false,eval c X.env)]) (hs2:starEach [b,c] X.env=[(false,eval b X.env),(false,eval c X.env)]) :
  PI X tg (.Call (.Name "range" p) [a,b,c] [] pos) (EO ta):=by
 intro pins s σ H R I h
 refine Call_ (c5 I hg hm boot_range (PyProof.Rows.callWith_type1 (thn (ha pos pins s σ H _ I h) fun us s1 ⟨vs,H1,I1,r1,q1⟩=>?_) (by rw [hs,hs2]) (by rw [hs2]; rfl)))
 obtain ⟨i,j,e,⟨q1,q2,q3,q4⟩,q⟩:=q1
 subst e
 cases r1 with
 | cons r rr =>
  cases rr with
  | cons r' rr =>
   cases rr with
   | cons r'' rr =>
    cases rr
    obtain ⟨t,rfl⟩:=r
    obtain ⟨t',rfl⟩:=r'
    obtain ⟨t'',rfl⟩:=r''
    refine call_range_3 (by decide) ?_ (.inl (PyProof.noPylong_small (by decide)))
    refine wpAny_pyIter_range (IsRange.new ..) (small_down q1 q2 q3 q4) ?_
    have I2:Inv X pins σ H1 { s1 with heap:=s1.heap.push { cls:=.type "range",data:=.fields #[.int i t,.int j t',.int (-1) t''] } }:=I1.kept (t':=s1.toks) fun b o e=>Heap.get?_push_of_some _ e
    refine ⟨(s1.heap.push { cls:=.type "range",data:=.fields #[.int i t,.int j t',.int (-1) t''] }).objs.size,[(s1.heap.push { cls:=.type "range",data:=.fields #[.int i t,.int j t',.int (-1) t''] }).objs.size],_,_,H1,rfl,
     I2.kept (t':=s1.toks) fun b o e=>Heap.get?_push_of_some _ e,DE _ i (i - j).toNat,?_,fun b hb=>?_,q⟩
    ·have e1:i+((0:Nat):Int) * (-1)=i:=by simp
     have e2:(((i - j).toNat:Nat):Int) - ((0:Nat):Int)=Builtin.Range.rangeSize i j (-1):=by rw [rangeSize_down]; split <;> omega
     show IsRangeIter _ _ (i+((0:Nat):Int) * (-1)) ((((i - j).toNat:Nat):Int) - ((0:Nat):Int)) (-1)
     rw [e1,e2]
     exact Heap.get?_push_size _ rfl
    ·have e:b=(s1.heap.push { cls:=.type "range",data:=.fields #[.int i t,.int j t',.int (-1) t''] }).objs.size:=by simpa using hb
     subst e
     exact I2.fN (Nat.le_refl _) (I2.hok.fresh (Nat.le_refl _))
end
end L2

namespace HT
open PySem PyProof.Rows
open Builtin
theorem xY:fillsNumberSlot (.type "tuple") "mul" = pure false :=
 PySem.fillsNumberSlot_seq (id:="tuple.__mul__") (r:=some (.builtin "tuple.__rmul__")) F.slot_tuple_mul.lookup (by decide +kernel) F.slot_tuple_rmul.lookup (by decide +kernel)
theorem Br:seqRepeat? (.type "tuple")=pure (some (.builtin "tuple.__mul__")):=by
 unfold seqRepeat?
 rw [PySem.seqSlot_of (T:="tuple") (name:="__mul__") (id:="tuple.__mul__") F.slot_tuple_mul.lookup (by decide +kernel),PySem.seqSlot_of (T:="tuple") (name:="__rmul__") (id:="tuple.__rmul__") F.slot_tuple_rmul.lookup (by decide +kernel)]
 rfl
theorem yp (a:Int) (t:Tok) (l:Addr) (items:Array Value) (n:Nat) (dd:Option Addr) (sl:Array (Option Value)) :
  Meets (Builtin.«int.__rmul__» ⟨[.int a t,.ref l],[]⟩) (fun _ R s=>s.heap.get? l=some { cls:=.type "tuple",dict:=dd,data:=.seq items n,slots:=sl }/\R (.ok (.ret Value.notImplemented)) s) :=
 .of_wp fun prog w A R s h=>by obtain ⟨hp,g,d,tk,os⟩:=s; obtain ⟨hl,h⟩:=h; wp_walk; exact ⟨_,rfl,h⟩
theorem AM (x:Int) (u:Tok) (l:Addr) (items:Array Value) (n:Nat) (dd:Option Addr) (sl:Array (Option Value)) (h1:(decide (x < -(2 ^ 63))||decide (x ≥ 2 ^ 63))=false) (h2:(items.isEmpty||x==1)=true) :
  Meets (Builtin.«tuple.__mul__» ⟨[.ref l,.int x u],[]⟩) (fun _ R s=>s.heap.get? l=some { cls:=.type "tuple",dict:=dd,data:=.seq items n,slots:=sl }/\R (.ok (.ret (.ref l))) { s with heap:=s.heap,toks:=s.toks }) :=
 .of_wp fun prog w A R s h=>by
  obtain ⟨hp,g,d,tk,os⟩:=s; obtain ⟨hl,h⟩:=h
  have f1:=AutoSeq1.idx_int
  wp_walk using wpAny_loadPart' hl
  refine wpAny_ite_false (by simp only [h1]; decide) ?_
  wp_walk using wpAny_loadPart' hl
  exact ⟨_,rfl,h⟩
theorem DU (x:Int) (u:Tok) (l:Addr) (items:Array Value) (n:Nat) (dd:Option Addr) (sl:Array (Option Value)) (h1:(decide (x < -(2 ^ 63))||decide (x ≥ 2 ^ 63))=false) (h2:(items.isEmpty||x==1)=false)
  (h3:(decide (x<=0)||items.isEmpty)=false) (h4:¬ (items.size * x > (2 ^ 63 - 1) / 8)) (h5:Builtin.Tuple.tupleTooMany (items.size * x)=false) (h6:(List.foldl (fun x1 x2=>x1++x2) #[] (List.replicate x.toNat items)).size<=sizeLine) :
  Meets (Builtin.«tuple.__mul__» ⟨[.ref l,.int x u],[]⟩) (fun _ R s=>s.heap.get? l=some { cls:=.type "tuple",dict:=dd,data:=.seq items n,slots:=sl }/\R (.ok (.ret (.ref s.heap.objs.size))) { s with heap:=s.heap.push { cls:=Value.type "tuple",data:=Data.seq (List.foldl (fun x1 x2=>x1++x2) #[] (List.replicate x.toNat items)) },toks:=s.toks }) :=
 .of_wp fun prog w A R s h=>by
  obtain ⟨hp,g,d,tk,os⟩:=s; obtain ⟨hl,h⟩:=h
  have f1:=AutoSeq1.idx_int
  wp_walk using wpAny_loadPart' hl
  refine wpAny_ite_false (by simp only [h1]; decide) ?_
  wp_walk using wpAny_loadPart' hl
  refine wpAny_ite_false (decide_eq_false h4) ?_
  refine wpAny_ite_false (by simp only [h5]; decide) ?_
  wp_walk using wpAny_loadPart' hl
  exact ⟨_,rfl,h⟩
theorem xN (x:Int) (u:Tok) (l:Addr) (items:Array Value) (n:Nat) (dd:Option Addr) (sl:Array (Option Value)) (h1:(decide (x < -(2 ^ 63))||decide (x ≥ 2 ^ 63))=false) (h2:(items.isEmpty||x==1)=false)
  (h3:(decide (x<=0)||items.isEmpty)=true) :
  Meets (Builtin.«tuple.__mul__» ⟨[.ref l,.int x u],[]⟩) (fun _ R s=>s.heap.get? l=some { cls:=.type "tuple",dict:=dd,data:=.seq items n,slots:=sl }/\R (.ok (.ret (.ref s.heap.objs.size))) { s with heap:=s.heap.push { cls:=Value.type "tuple",data:=Data.seq #[] },toks:=s.toks }) :=
 .of_wp fun prog w A R s h=>by
  obtain ⟨hp,g,d,tk,os⟩:=s; obtain ⟨hl,h⟩:=h
  have f1:=AutoSeq1.idx_int
  wp_walk using wpAny_loadPart' hl
  refine wpAny_ite_false (by simp only [h1]; decide) ?_
  wp_walk using wpAny_loadPart' hl
  exact ⟨_,rfl,h⟩
end HT
namespace L2
open PySem PySem.Spec PyProof.Rows
section
variable {X:Cx}
theorem uW:OpR X (binaryOp .Mult) (fun x y H Q=>∃ a k xs,x=.ref a/\y=.int k/\SqT X.K H a xs/\-(2 ^ 63)<=k/\k < 2 ^ 63/\xs.length * k.toNat<=sizeLine /\
  ((xs=[]\/k=1)->Q (.ref a) H)/\∀ p,H p=none->Q (.ref p) (upd H p (.tup (List.replicate k.toNat xs).flatten))):=by
 intro pins s σ H x y v u Q I rx ry h
 obtain ⟨a,k,xs,rfl,rfl,ha,h1,h2,hz,q1,q2⟩:=h
 cases rx
 obtain ⟨t,rfl⟩:=ry
 obtain ⟨its,r,p1,_⟩:=I.tuple ha
 obtain ⟨⟨cls,dd,data,sl⟩,ho,hc,n,hd⟩:=id p1
 simp only at hc hd
 subst hc hd
 have hlen:xs.length=its.length:=r.length
 have b1:(decide (k < -(2 ^ 63))||decide (k ≥ 2 ^ 63))=false:=by
  rw [Bool.or_eq_false_iff]; exact ⟨decide_eq_false (by omega),decide_eq_false (by omega)⟩
 refine wpAny_binaryOp_repeat_ref (T:="tuple") (U:="int") (by decide) ⟨_,ho,rfl⟩ (fun s'=>typeIs_int s' k t) HT.xY F.fills_int_mul F.slot_int_rmul HT.Br F.slot_int_index.lookup
  (call_meets F.slot_int_rmul (typeIs_int s k t) F.entry_int_rmul (F.args_int_rmul_2 _ _) (HT.yp k t a its.toArray n dd sl) ⟨ho,rfl,⟨_,ho,rfl⟩,?_⟩)
 by_cases hs:xs=[]\/k=1
 ·refine call_meets F.slot_tuple_mul ⟨_,ho,rfl⟩ F.entry_tuple_mul (F.args_tuple_mul_2 _ _) (HT.AM k t a its.toArray n dd sl b1 ?_) ⟨ho,⟨.ref a,H,I,rfl,q1 hs⟩⟩
  rw [Bool.or_eq_true]
  rcases hs with e|e
  ·left
   subst e
   have:its=[]:=List.length_eq_zero_iff.mp hlen.symm
   subst this; rfl
  ·right; exact beq_iff_eq.mpr e
 ·have hne:its≠[]:=fun e=>hs (.inl (List.length_eq_zero_iff.mp (by rw [hlen,e]; rfl)))
  have hemp:its.toArray.isEmpty=false:=by
   cases its with
   | nil=>exact absurd rfl hne
   | cons z zs=>simp
  have b2:(its.toArray.isEmpty||k==1)=false:=by
   rw [Bool.or_eq_false_iff]; exact ⟨hemp,beq_eq_false_iff_ne.mpr fun e=>hs (.inr e)⟩
  by_cases hk:k<=0
  ·have e0:k.toNat=0:=by omega
   refine call_meets F.slot_tuple_mul ⟨_,ho,rfl⟩ F.entry_tuple_mul (F.args_tuple_mul_2 _ _) (HT.xN k t a its.toArray n dd sl b1 b2 (by simp [hk])) ⟨ho,?_⟩
   rw [e0] at q2
   refine ⟨.ref s.heap.objs.size,_,I.laid (t':=s.toks) (o:=.tup []) (fun b ob q=>Heap.get?_push_of_some _ q) (Nat.le_refl _) ?_,rfl,q2 _ (I.hok.fresh (Nat.le_refl _))⟩
   exact ⟨Nat.zero_le _,[],.nil,IsTup.new _ _⟩
  ·have hkk:(k.toNat:Int)=k:=by omega
   have hnew:List.foldl (fun x1 x2=>x1++x2) #[] (List.replicate k.toNat its.toArray)=(List.replicate k.toNat its).flatten.toArray:=by
    have:=foldl_rep its k.toNat []
    rw [List.nil_append] at this
    exact this
   have hm:((its.toArray.size:Nat):Int) * k=((its.length * k.toNat:Nat):Int):=by rw [Int.natCast_mul,hkk,List.size_toArray]
   rw [hlen] at hz
   have hsl:(sizeLine:Nat)<=(2 ^ 63 - 1) / 8:=by decide
   refine call_meets F.slot_tuple_mul ⟨_,ho,rfl⟩ F.entry_tuple_mul (F.args_tuple_mul_2 _ _) (HT.DU k t a its.toArray n dd sl b1 b2 ?_ ?_ ?_ ?_) ⟨ho,?_⟩
   ·rw [Bool.or_eq_false_iff]; exact ⟨decide_eq_false hk,hemp⟩
   ·rw [hm]; omega
   ·rw [hm]; unfold Builtin.Tuple.tupleTooMany; exact decide_eq_false (by omega)
   ·rw [hnew,List.size_toArray,len_rep,Nat.mul_comm]; exact hz
   ·rw [hnew]
    refine ⟨.ref s.heap.objs.size,_,I.laid (t':=s.toks) (o:=.tup (List.replicate k.toNat xs).flatten) (fun b ob q=>Heap.get?_push_of_some _ q) (Nat.le_refl _) ?_,rfl,q2 _ (I.hok.fresh (Nat.le_refl _))⟩
    exact ⟨by rw [len_rep,Nat.mul_comm,hlen]; exact hz,_,r.rep _,IsTup.new _ _⟩
end
end L2

namespace TB
open PySem PySem.SetTable
noncomputable def adv (mask:Nat) (p:Probe):Probe :=
 if p.more > 0 then { p with j:=p.j+1,more:=p.more - 1 } else
 { p with j:=(leap mask p.i p.perturb).1,more:=runEnd mask (leap mask p.i p.perturb).1 - (leap mask p.i p.perturb).1,i:=(leap mask p.i p.perturb).1,perturb:=(leap mask p.i p.perturb).2 }
theorem sy (t:SetTable) (p:Probe):t.advance p=adv t.mask p:=rfl
noncomputable def bs (mask:Nat) (b:Nat × Nat):Probe:={ j:=b.1,more:=runEnd mask b.1 - b.1,i:=b.1,perturb:=b.2,dummy:=none }
noncomputable def st (mask:Nat) (h:Int):Nat->Probe
 | 0=>bs mask (bits h % (mask+1),bits h)
 | k+1=>adv mask (st mask h k)
noncomputable def pos (mask:Nat) (h:Int) (k:Nat):Nat:=(st mask h k).j
noncomputable def dB (mask:Nat):Nat->Probe->Probe
 | 0,p=>p
 | n+1,p=>dB mask n (adv mask p)
theorem mH (mask:Nat):∀ (a b:Nat) (p:Probe),dB mask (a+b) p=dB mask b (dB mask a p)
 | 0,b,p=>by rw [Nat.zero_add]; rfl
 | a+1,b,p=>by rw [Nat.add_right_comm]; exact mH mask a b (adv mask p)
theorem iQ (mask:Nat) (h:Int):∀ (n k:Nat),dB mask n (st mask h k)=st mask h (k+n)
 | 0,k=>rfl
 | n+1,k=>by
  show dB mask n (st mask h (k+1))=_
  rw [iQ mask h n (k+1),show k+1+n=k+(n+1) by omega]
theorem tB (mask:Nat) (h:Int):∀ k,(st mask h k).dummy=none
 | 0=>rfl
 | k+1=>by
  show (adv mask (st mask h k)).dummy=none
  unfold adv
  split <;> exact tB mask h k
structure Ok (mask:Nat) (p:Probe):Prop where
 i:p.i<=mask
 q:p.perturb < 2 ^ 64
 m:p.more<=9
 j:p.j+p.more=runEnd mask p.i
 d:p.dummy=none
theorem tF (mask i:Nat):runEnd mask i - i<=9:=by unfold runEnd; split <;> omega
theorem mF (mask i:Nat):i<=runEnd mask i:=by unfold runEnd; split <;> omega
theorem rY {mask i:Nat} (h:i<=mask):runEnd mask i<=mask:=by unfold runEnd; split <;> omega
theorem qC {mask:Nat} {b:Nat × Nat} (h1:b.1<=mask) (h2:b.2 < 2 ^ 64):Ok mask (bs mask b) :=
 ⟨h1,h2,tF mask b.1,Nat.add_sub_cancel' (mF mask b.1),rfl⟩
theorem nu {mask i q:Nat} (h:q < 2 ^ 64):(leap mask i q).1<=mask/\(leap mask i q).2 < 2 ^ 64:=by
 refine ⟨Nat.lt_succ_iff.mp (Nat.mod_lt _ (Nat.succ_pos mask)),?_⟩
 show q / 32 < _
 omega
theorem u_ {mask:Nat} {p:Probe} (h:Ok mask p):Ok mask (adv mask p):=by
 unfold adv
 split
 ·rename_i hm
  exact ⟨h.i,h.q,by show p.more - 1<=9; have:=h.m; omega,by show p.j+1+(p.more - 1)=runEnd mask p.i; have:=h.j; omega,h.d⟩
 ·have:=nu (mask:=mask) (i:=p.i) h.q
  exact ⟨this.1,this.2,tF _ _,Nat.add_sub_cancel' (mF _ _),h.d⟩
theorem qR (h:Int):bits h < 2 ^ 64:=by
 unfold bits
 have h1:=Int.emod_nonneg h (show (2 ^ 64:Int)≠0 by decide)
 have h2:=Int.emod_lt_of_pos h (show (0:Int) < 2 ^ 64 by decide)
 omega
theorem kO (mask:Nat) (h:Int):∀ k,Ok mask (st mask h k)
 | 0=>qC (Nat.lt_succ_iff.mp (Nat.mod_lt _ (Nat.succ_pos mask))) (qR h)
 | k+1=>u_ (kO mask h k)
theorem Ea (mask:Nat) (h:Int) (k:Nat):pos mask h k<=mask:=by
 have o:=kO mask h k
 have:=rY o.i
 have:=o.j
 unfold pos; omega
theorem l9 (mask:Nat):∀ (a:Nat) (p:Probe),a<=p.more->dB mask a p={ p with j:=p.j+a,more:=p.more - a }
 | 0,p,_=>rfl
 | a+1,p,h=>by
  have e:adv mask p={ p with j:=p.j+1,more:=p.more - 1 }:=by unfold adv; rw [if_pos (by omega)]
  show dB mask a (adv mask p)=_
  rw [e,l9 mask a _ (by show a<=p.more - 1; omega)]
  show ({ p with j:=p.j+1+a,more:=p.more - 1 - a }:Probe)=_
  congr 1 <;> omega
theorem kI {mask:Nat} {p:Probe} (h:p.dummy=none):dB mask (p.more+1) p=bs mask (leap mask p.i p.perturb):=by
 rw [mH,l9 mask p.more p (Nat.le_refl _)]
 show adv mask { p with j:=p.j+p.more,more:=p.more - p.more }=_
 unfold adv
 rw [if_neg (by show ¬ p.more - p.more > 0; omega)]
 unfold bs
 rw [<- h]
noncomputable def bW (mask:Nat):Nat->Nat × Nat->Nat × Nat
 | 0,b=>b
 | n+1,b=>bW mask n (leap mask b.1 b.2)
theorem blocks {mask:Nat}:∀ (n:Nat) (p:Probe),Ok mask p->∃ c,c<=10 * (n+1)/\dB mask c p=bs mask (bW mask (n+1) (p.i,p.perturb))
 | 0,p,h=>⟨p.more+1,by have:=h.m; omega,kI h.d⟩
 | n+1,p,h=>by
  have hb:=nu (mask:=mask) (i:=p.i) h.q
  obtain ⟨c,hc,e⟩:=blocks n (bs mask (leap mask p.i p.perturb)) (qC hb.1 hb.2)
  refine ⟨p.more+1+c,by have:=h.m; omega,?_⟩
  rw [mH,kI h.d,e]
  rfl
theorem oX (mask:Nat):∀ (n:Nat) (b:Nat × Nat),(bW mask n b).2=b.2 / 32 ^ n
 | 0,b=>(Nat.div_one _).symm
 | n+1,b=>by
  show (bW mask n (leap mask b.1 b.2)).2=_
  rw [oX mask n]
  show b.2 / 32 / 32 ^ n=_
  rw [Nat.div_div_eq_div_mul,Nat.pow_succ,Nat.mul_comm]
theorem oj (mask:Nat):∀ (a b:Nat) (x:Nat × Nat),bW mask (a+b) x=bW mask b (bW mask a x)
 | 0,b,x=>by rw [Nat.zero_add]; rfl
 | a+1,b,x=>by rw [Nat.add_right_comm]; exact oj mask a b _
theorem rE {mask:Nat}:∀ (n:Nat) (b:Nat × Nat),b.1<=mask->(bW mask n b).1<=mask
 | 0,b,h=>h
 | n+1,b,_=>rE n _ (Nat.lt_succ_iff.mp (Nat.mod_lt _ (Nat.succ_pos mask)))
noncomputable def h_ (mask:Nat):Nat->Nat->List Nat
 | 0,_=>[]
 | n+1,i=>i::h_ mask n ((i * 5+1) % (mask+1))
theorem jS {mask:Nat}:∀ (n i j:Nat),j∈h_ mask n i->∃ m,m < n/\(bW mask m (i,0)).1=j
 | 0,i,j,h=>by simp [h_] at h
 | n+1,i,j,h=>by
  rcases List.mem_cons.mp h with rfl|h
  ·exact ⟨0,by omega,rfl⟩
  ·obtain ⟨m,hm,e⟩:=jS n _ j h
   refine ⟨m+1,by omega,?_⟩
   have e2:leap mask i 0=((i * 5+1) % (mask+1),0):=by unfold leap; rw [Nat.zero_div,Nat.add_zero]
   rw [<- e,<- e2]
   rfl
theorem DO:∀ i < 8,∀ j < 8,j∈h_ 7 8 i:=by decide +kernel
theorem BF:∀ i < 32,∀ j < 32,j∈h_ 31 32 i:=by decide +kernel
noncomputable def Msk (mask:Nat):Prop:=mask=7\/mask=31
theorem round {mask:Nat} (hm:Msk mask) {i j:Nat} (hi:i<=mask) (hj:j<=mask):∃ m,m<=mask/\(bW mask m (i,0)).1=j:=by
 rcases hm with rfl|rfl
 ·obtain ⟨m,h,e⟩:=jS _ _ _ (DO i (by omega) j (by omega)); exact ⟨m,by omega,e⟩
 ·obtain ⟨m,h,e⟩:=jS _ _ _ (BF i (by omega) j (by omega)); exact ⟨m,by omega,e⟩
theorem reach {mask:Nat} (hm:Msk mask) {i q j:Nat} (hi:i<=mask) (hq:q < 2 ^ 64) (hj:j<=mask):∃ n,12<=n/\n<=12+mask/\(bW mask (n+1) (i,q)).1=j:=by
 have h0:(bW mask 13 (i,q)).2=0:=by
  rw [oX]
  exact Nat.div_eq_of_lt (Nat.lt_trans hq (by decide))
 obtain ⟨m,h1,e⟩:=round hm (rE 13 (i,q) hi) hj
 refine ⟨12+m,by omega,by omega,?_⟩
 rw [show 12+m+1=13+m by omega,oj]
 rw [show bW mask 13 (i,q)=((bW mask 13 (i,q)).1,0) from Prod.ext rfl h0]
 exact e
theorem cover {mask:Nat} (hm:Msk mask) (h:Int) (k:Nat) {j:Nat} (hj:j<=mask):∃ d,d < 10 * turns mask/\pos mask h (k+d)=j:=by
 have o:=kO mask h k
 obtain ⟨n,h1,h2,e⟩:=reach hm o.i o.q hj
 obtain ⟨c,hc,e2⟩:=blocks n (st mask h k) o
 refine ⟨c,by unfold turns; omega,?_⟩
 rw [iQ] at e2
 unfold pos
 rw [e2]
 exact e
end TB

namespace TB
open PySem PySem.SetTable
noncomputable def Srt (xs:Array Nat):Prop:=∀ (i i' v v':Nat),xs[i]?=some v->xs[i']?=some v'->i < i'->v < v'
theorem jY {xs:Array Nat} (hs:Srt xs) (j:Nat):∀ (fuel lo hi:Nat),lo<=hi->hi<=xs.size->hi - lo<=fuel->(∀ (i v:Nat),xs[i]?=some v->i < lo->v < j)->(∀ (i v:Nat),xs[i]?=some v->hi<=i->j<=v) ->
  below.go xs j fuel lo hi<=xs.size/\(∀ (i v:Nat),xs[i]?=some v->i < below.go xs j fuel lo hi->v < j)/\∀ (i v:Nat),xs[i]?=some v->below.go xs j fuel lo hi<=i->j<=v
 | 0,lo,hi,h1,h2,h3,h4,h5=>by
  have e:lo=hi:=by omega
  subst e
  exact ⟨h2,h4,h5⟩
 | fuel+1,lo,hi,h1,h2,h3,h4,h5=>by
  by_cases hl:lo < hi
  ·have ego:below.go xs j (fuel+1) lo hi=if xs.getD ((lo+hi) / 2) j < j then below.go xs j fuel ((lo+hi) / 2+1) hi else below.go xs j fuel lo ((lo+hi) / 2):=by
    conv=>lhs; unfold below.go
    rw [if_pos hl]
   have hm:(lo+hi) / 2 < xs.size:=by omega
   have hg:xs[(lo+hi) / 2]?=some xs[(lo+hi) / 2]:=Array.getElem?_eq_getElem hm
   have hd:xs.getD ((lo+hi) / 2) j=xs[(lo+hi) / 2]:=by rw [Array.getD_eq_getD_getElem?,hg]; rfl
   rw [ego,hd]
   by_cases hv:xs[(lo+hi) / 2] < j
   ·rw [if_pos hv]
    refine jY hs j fuel ((lo+hi) / 2+1) hi (by omega) h2 (by omega) (fun i v e hi'=>?_) h5
    by_cases z:i=(lo+hi) / 2
    ·subst z; rw [hg] at e; cases e; exact hv
    ·exact Nat.lt_trans (hs i _ v _ e hg (by omega)) hv
   ·rw [if_neg hv]
    refine jY hs j fuel lo ((lo+hi) / 2) (by omega) (by omega) (by omega) h4 fun i v e hi'=>?_
    by_cases z:i=(lo+hi) / 2
    ·subst z; rw [hg] at e; cases e; omega
    ·have:=hs _ i _ v hg e (by omega); omega
  ·have ego:below.go xs j (fuel+1) lo hi=lo:=by
    conv=>lhs; unfold below.go
    rw [if_neg hl]
   have e:lo=hi:=by omega
   subst e
   rw [ego]
   exact ⟨h2,h4,h5⟩
theorem lP {xs:Array Nat} (hs:Srt xs) (j:Nat):below xs j<=xs.size/\(∀ (i v:Nat),xs[i]?=some v->i < below xs j->v < j)/\∀ (i v:Nat),xs[i]?=some v->below xs j<=i->j<=v :=
 jY hs j xs.size 0 xs.size (Nat.zero_le _) (Nat.le_refl _) (by omega) (fun i v _ h=>by omega) fun i v e h=>by
  have:=(Array.getElem?_eq_some_iff.mp e).1; omega
noncomputable def NotIn (xs:Array Nat) (j:Nat):Prop:=∀ i:Nat,xs[i]?≠some j
theorem below_at {xs:Array Nat} (hs:Srt xs) {i j:Nat} (e:xs[i]?=some j):below xs j=i:=by
 obtain ⟨h1,h2,h3⟩:=lP hs j
 have hi:=(Array.getElem?_eq_some_iff.mp e).1
 rcases Nat.lt_trichotomy (below xs j) i with z|z|z
 ·have hg:xs[below xs j]?=some xs[below xs j]:=Array.getElem?_eq_getElem (by omega)
  have:=h3 _ _ hg (Nat.le_refl _)
  have:=hs _ i _ j hg e z
  omega
 ·exact z
 ·have:=h2 i j e z; omega
theorem i6 {t:SetTable} (hs:Srt t.place) {i j:Nat} (e:t.place[i]?=some j):t.slot j=.live i:=by
 unfold slot
 rw [below_at hs e]
 simp only [e,beq_self_eq_true,if_true]
theorem zm {t:SetTable} (hd:t.dummies=#[]) {j:Nat} (h:NotIn t.place j):t.slot j=.empty:=by
 unfold slot
 have h1:(t.place[below t.place j]?==some j)=false:=by
  cases q:t.place[below t.place j]?==some j with
  | false=>rfl
  | true=>exact absurd (by simpa using q) (h _)
 simp only [h1,Bool.false_eq_true,if_false]
 rw [hd]
 rfl
theorem jQ {t:SetTable} {f:Nat->Int} {h:Int}:∀ (d k fuel:Nat),d < fuel->(∀ k',k<=k'->k' < k+d->∃ i,t.slot (pos t.mask h k')=.live i/\f i≠h) ->
  probe.go t f h fuel (st t.mask h k)=probe.go t f h (fuel - d) (st t.mask h (k+d))
 | 0,k,fuel,_,_=>rfl
 | d+1,k,0,hf,_=>by omega
 | d+1,k,fuel+1,hf,hw=>by
  obtain ⟨i,e,hne⟩:=hw k (Nat.le_refl _) (by omega)
  have e:t.slot (st t.mask h k).j=.live i:=e
  conv=>lhs; unfold probe.go
  simp only [e]
  rw [if_neg (by simpa using hne),sy]
  show probe.go t f h fuel (st t.mask h (k+1))=_
  rw [jQ d (k+1) fuel (by omega) fun k' h1 h2=>hw k' (by omega) (by omega),show fuel+1 - (d+1)=fuel - d by omega,show k+1+d=k+(d+1) by omega]
theorem E3 {t:SetTable} {f:Nat->Int} {h:Int} {d k:Nat} (hd:d < 10 * turns t.mask) (hw:∀ k',k<=k'->k' < k+d->∃ i,t.slot (pos t.mask h k')=.live i/\f i≠h) (he:t.slot (pos t.mask h (k+d))=.empty) :
  t.probe f h (st t.mask h k)=some (.empty (pos t.mask h (k+d)) none):=by
 unfold probe
 rw [jQ d k _ hd hw]
 obtain ⟨m,hm⟩:∃ m,10 * turns t.mask - d=m+1:=⟨10 * turns t.mask - d - 1,by omega⟩
 rw [hm]
 unfold probe.go
 have he:t.slot (st t.mask h (k+d)).j=.empty:=he
 simp only [he,tB]
 rfl
theorem Bh {t:SetTable} {f:Nat->Int} {h:Int} {d k i:Nat} (hd:d < 10 * turns t.mask) (hw:∀ k',k<=k'->k' < k+d->∃ i,t.slot (pos t.mask h k')=.live i/\f i≠h) (he:t.slot (pos t.mask h (k+d))=.live i) (hi:f i=h) :
  t.probe f h (st t.mask h k)=some (.candidate (pos t.mask h (k+d)) i (st t.mask h (k+d+1))):=by
 unfold probe
 rw [jQ d k _ hd hw]
 obtain ⟨m,hm⟩:∃ m,10 * turns t.mask - d=m+1:=⟨10 * turns t.mask - d - 1,by omega⟩
 rw [hm]
 unfold probe.go
 have he:t.slot (st t.mask h (k+d)).j=.live i:=he
 simp only [he]
 rw [if_pos (by simpa using hi),sy]
 rfl
structure Good {α:Type} (t:SetTable) (es:Array (Int × α)):Prop where
 dum:t.dummies=#[]
 len:t.place.size=es.size
 srt:Srt t.place
 top:∀ (i s:Nat),t.place[i]?=some s->s<=t.mask
 msk:Msk t.mask
 way:∀ (i s:Nat) e,t.place[i]?=some s->es[i]?=some e->∃ k,pos t.mask e.1 k=s/\∀ k',k' < k->∃ i':Nat,t.place[i']?=some (pos t.mask e.1 k')
variable {α:Type} {t:SetTable} {es:Array (Int × α)}
theorem yc {xs:Array Nat} (hs:Srt xs) {mask:Nat} (ht:∀ (i s:Nat),xs[i]?=some s->s<=mask) (hl:xs.size<=mask):∃ j,j<=mask/\NotIn xs j:=by
 have hnd:xs.toList.Nodup:=by
  refine List.pairwise_iff_getElem.mpr fun i i' h1 h2 hlt e=>?_
  rw [Array.length_toList] at h1 h2
  have:=hs i i' _ _ (Array.getElem?_eq_getElem h1) (Array.getElem?_eq_getElem h2) hlt
  rw [Array.getElem_toList,Array.getElem_toList] at e
  omega
 by_cases h:∃ j,j<=mask/\NotIn xs j
 ·exact h
 ·exfalso
  have hsub:List.range (mask+1) ⊆ xs.toList:=fun j hj=>by
   have hj:j<=mask:=by have:=List.mem_range.mp hj; omega
   by_cases q:NotIn xs j
   ·exact absurd ⟨j,hj,q⟩ h
   ·unfold NotIn at q
    simp only [ne_eq,Classical.not_forall,Classical.not_not] at q
    obtain ⟨i,e⟩:=q
    rw [<- Array.getElem?_toList] at e
    exact List.mem_of_getElem? e
  have:=(List.nodup_range (n:=mask+1)).length_le_of_subset hsub
  rw [List.length_range,Array.length_toList] at this
  omega
end TB

namespace TB
open PySem PySem.SetTable
variable {α:Type} {t:SetTable} {es:Array (Int × α)}
theorem least {P:Nat->Prop}:∀ (n:Nat),P n->∃ m,m<=n/\P m/\∀ k,k < m->¬ P k:=by
 intro n
 induction n using Nat.strongRecOn with
 | ind n ih =>
  intro h
  by_cases q:∃ k,k < n/\P k
  ·obtain ⟨k,hk,hp⟩:=q
   obtain ⟨m,h1,h2,h3⟩:=ih k hk hp
   exact ⟨m,by omega,h2,h3⟩
  ·exact ⟨n,Nat.le_refl _,h,fun k hk hp=>q ⟨k,hk,hp⟩⟩
structure End (t:SetTable) (h:Int) (K:Nat):Prop where
 lt:K < 10 * turns t.mask
 free:NotIn t.place (pos t.mask h K)
 full:∀ k,k < K->∃ i:Nat,t.place[i]?=some (pos t.mask h k)
theorem xD (g:Good t es) (hl:es.size<=t.mask) (h:Int):∃ K,End t h K:=by
 obtain ⟨j,hj,hn⟩:=yc g.srt g.top (g.len ▸ hl)
 obtain ⟨d,hd,e⟩:=cover g.msk h 0 hj
 rw [Nat.zero_add] at e
 obtain ⟨K,h1,h2,h3⟩:=least (P:=fun k=>NotIn t.place (pos t.mask h k)) d (by show NotIn t.place _; rw [e]; exact hn)
 refine ⟨K,by omega,h2,fun k hk=>?_⟩
 have:=h3 k hk
 unfold NotIn at this
 simp only [ne_eq,Classical.not_forall,Classical.not_not] at this
 exact this
theorem Fw (g:Good t es) {h:Int} {K:Nat} (E:End t h K) {i:Nat} {e:Int × α} (he:es[i]?=some e) (hh:e.1=h):∃ k,k < K/\t.place[i]?=some (pos t.mask h k):=by
 have hi:=(Array.getElem?_eq_some_iff.mp he).1
 have hi':i < t.place.size:=g.len ▸ hi
 have hp:t.place[i]?=some t.place[i]:=Array.getElem?_eq_getElem hi'
 obtain ⟨k,e1,e2⟩:=g.way i _ e hp he
 rw [hh] at e1 e2
 refine ⟨k,?_,by rw [hp,<- e1]⟩
 rcases Nat.lt_trichotomy k K with z|z|z
 ·exact z
 ·subst z; exact absurd (e1 ▸ hp) (E.free i)
 ·obtain ⟨i',q⟩:=e2 K z; exact absurd q (E.free i')
theorem C4 (g:Good t es) {h:Int} {K:Nat} (E:End t h K) {f:Nat->Int} {k:Nat} (hk:k<=K) :
  t.probe f h (st t.mask h k)=some (.empty (pos t.mask h K) none)/\(∀ (m i:Nat),k<=m->m < K->t.place[i]?=some (pos t.mask h m)->f i≠h) \/
  ∃ m i,k<=m/\m < K/\t.place[i]?=some (pos t.mask h m)/\f i=h/\t.slot (pos t.mask h m)=.live i/\t.probe f h (st t.mask h k)=some (.candidate (pos t.mask h m) i (st t.mask h (m+1)))/\∀ (m' i':Nat),k<=m'->m' < m->t.place[i']?=some (pos t.mask h m')->f i'≠h:=by
 by_cases q:∃ m,k<=m/\m < K/\∃ i:Nat,t.place[i]?=some (pos t.mask h m)/\f i=h
 ·obtain ⟨m0,q⟩:=q
  obtain ⟨m,_,⟨h1,h2,i,h3,h4⟩,h5⟩:=least (P:=fun m=>k<=m/\m < K/\∃ i:Nat,t.place[i]?=some (pos t.mask h m)/\f i=h) m0 q
  have hne:∀ (m' i':Nat),k<=m'->m' < m->t.place[i']?=some (pos t.mask h m')->f i'≠h:=fun m' i' a b c d=>h5 m' b ⟨a,by omega,i',c,d⟩
  refine .inr ⟨m,i,h1,h2,h3,h4,i6 g.srt h3,?_,hne⟩
  have:=Bh (t:=t) (f:=f) (h:=h) (d:=m - k) (k:=k) (i:=i) (by have:=E.lt; omega) (fun k' a b=>by
   obtain ⟨i',e⟩:=E.full k' (by omega)
   exact ⟨i',i6 g.srt e,hne k' i' a (by omega) e⟩) (by rw [show k+(m - k)=m by omega]; exact i6 g.srt h3) h4
  rw [show k+(m - k)=m by omega] at this
  exact this
 ·have hne:∀ (m i:Nat),k<=m->m < K->t.place[i]?=some (pos t.mask h m)->f i≠h:=fun m i a b c d=>q ⟨m,a,b,i,c,d⟩
  refine .inl ⟨?_,hne⟩
  have:=E3 (t:=t) (f:=f) (h:=h) (d:=K - k) (k:=k) (by have:=E.lt; omega) (fun k' a b=>by
   obtain ⟨i',e⟩:=E.full k' (by omega)
   exact ⟨i',i6 g.srt e,hne k' i' a (by omega) e⟩) (by rw [show k+(K - k)=K by omega]; exact zm g.dum E.free)
  rw [show k+(K - k)=K by omega] at this
  exact this
theorem fV {β:Type} (xs:Array β) {p:Nat} (hp:p<=xs.size) (x:β) (i:Nat):(insertAt xs p x)[i]?=if i < p then xs[i]? else if i=p then some x else xs[i - 1]?:=by
 rw [<- Array.getElem?_toList,SetTable.toList_insertAt]
 have hl:(xs.toList.take p).length=p:=by rw [List.length_take,Array.length_toList]; omega
 by_cases h1:i < p
 ·rw [if_pos h1]
  rw [List.getElem?_append_left (by omega),List.getElem?_take_of_lt h1,Array.getElem?_toList]
 ·rw [if_neg h1]
  rw [List.getElem?_append_right (by omega),hl]
  by_cases h2:i=p
  ·subst h2; rw [if_pos rfl,Nat.sub_self]; rfl
  ·rw [if_neg h2]
   obtain ⟨m,rfl⟩:∃ m,i=p+1+m:=⟨i - p - 1,by omega⟩
   rw [show p+1+m - p=m+1 by omega,show p+1+m - 1=p+m by omega]
   show (xs.toList.drop p)[m]?=_
   rw [List.getElem?_drop,Array.getElem?_toList]
theorem lz {β:Type} (xs:Array β) (p:Nat) (x:β):(insertAt xs p x).size=xs.size+1:=by
 have:=(SetTable.insertAt_perm xs p x).length_eq
 rw [Array.length_toList,Array.length_toList,Array.size_push] at this
 exact this
theorem Cz (j:Nat):has #[] j=false:=rfl
theorem EX (g:Good t es) {h:Int} {K:Nat} (E:End t h K) (x:α):Good (t.put (pos t.mask h K)).1 (insertAt es (t.put (pos t.mask h K)).2 (h,x)):=by
 obtain ⟨s1,s2,s3⟩:=lP g.srt (pos t.mask h K)
 generalize hj:pos t.mask h K=j at s1 s2 s3
 have hfree:NotIn t.place j:=hj ▸ E.free
 generalize hp:below t.place j=p at s1 s2 s3
 have e1:(t.put j).1.place=insertAt t.place p j:=by unfold put; rw [hp]
 have e2:(t.put j).2=p:=by unfold put; rw [hp]
 have e3:(t.put j).1.mask=t.mask:=rfl
 have e4:(t.put j).1.dummies=#[]:=by
  show (if has t.dummies j then eraseAt t.dummies (below t.dummies j) else t.dummies)=#[]
  rw [g.dum,Cz]; rfl
 have s1':p<=es.size:=g.len ▸ s1
 have up:∀ (i s:Nat),t.place[i]?=some s->∃ i':Nat,(insertAt t.place p j)[i']?=some s:=fun i s e=>by
  by_cases z:i < p
  ·exact ⟨i,by rw [fV _ s1,if_pos z]; exact e⟩
  ·exact ⟨i+1,by rw [fV _ s1,if_neg (by omega),if_neg (by omega)]; exact e⟩
 refine ⟨e4,by rw [e1,e2,lz,lz,g.len],?_,?_,by rw [e3]; exact g.msk,?_⟩
 ·rw [e1]
  intro i i' v v' a b hlt
  rw [fV _ s1] at a b
  by_cases z:i < p
  ·rw [if_pos z] at a
   by_cases z':i' < p
   ·rw [if_pos z'] at b; exact g.srt i i' v v' a b hlt
   ·rw [if_neg z'] at b
    by_cases w:i'=p
    ·rw [if_pos w] at b; cases b; exact s2 i v a z
    ·rw [if_neg w] at b; exact g.srt i _ v v' a b (by omega)
  ·rw [if_neg z] at a
   rw [if_neg (by omega),if_neg (by omega)] at b
   by_cases w:i=p
   ·rw [if_pos w] at a
    cases a
    have h1:=s3 _ v' b (by omega)
    have h2:v'≠j:=fun q=>hfree _ (q ▸ b)
    omega
   ·rw [if_neg w] at a
    exact g.srt _ _ v v' a b (by omega)
 ·rw [e1,e3]
  intro i s a
  rw [fV _ s1] at a
  by_cases z:i < p
  ·rw [if_pos z] at a; exact g.top i s a
  ·rw [if_neg z] at a
   by_cases w:i=p
   ·rw [if_pos w] at a; cases a; rw [<- hj]; exact Ea _ _ _
   ·rw [if_neg w] at a; exact g.top _ s a
 ·rw [e1,e2,e3]
  intro i s e a b
  rw [fV _ s1] at a
  rw [fV _ s1'] at b
  have old:∀ (m s:Nat) e,t.place[m]?=some s->es[m]?=some e->∃ k,pos t.mask e.1 k=s/\∀ k',k' < k->∃ i':Nat,(insertAt t.place p j)[i']?=some (pos t.mask e.1 k'):=fun m s e a b=>by
   obtain ⟨k,q1,q2⟩:=g.way m s e a b
   exact ⟨k,q1,fun k' hk'=>let ⟨i',q⟩:=q2 k' hk'; up i' _ q⟩
  by_cases z:i < p
  ·rw [if_pos z] at a b; exact old i s e a b
  ·rw [if_neg z] at a b
   by_cases w:i=p
   ·rw [if_pos w] at a b
    cases a; cases b
    exact ⟨K,hj,fun k' hk'=>let ⟨i',q⟩:=E.full k' hk'; up i' _ q⟩
   ·rw [if_neg w] at a b; exact old _ s e a b
end TB

namespace TB
open PySem PySem.SetTable
noncomputable def Occ (owner:Array (Option Nat)) (j:Nat):Prop:=∃ i:Nat,owner[j]?=some (some i)
theorem j_ {mask:Nat} {h:Int} {c:Nat} {b:Nat × Nat} (e:st mask h c=bs mask b) {a:Nat} (ha:b.1+a<=runEnd mask b.1):pos mask h (c+a)=b.1+a:=by
 unfold pos
 rw [<- iQ,e,l9 mask a (bs mask b) (by show a<=runEnd mask b.1 - b.1; omega)]
 rfl
theorem uU {mask:Nat} {h:Int} {c:Nat} {b:Nat × Nat} (e:st mask h c=bs mask b):st mask h (c+(runEnd mask b.1 - b.1+1))=bs mask (leap mask b.1 b.2):=by
 rw [<- iQ,e]
 exact kI (p:=bs mask b) rfl
theorem qL {owner:Array (Option Nat)} {j:Nat} (hj:j < owner.size) (h:(owner.getD j (some 0)).isNone=false):Occ owner j:=by
 have hg:owner[j]?=some owner[j]:=Array.getElem?_eq_getElem hj
 rw [Array.getD_eq_getD_getElem?,hg] at h
 show ∃ i:Nat,owner[j]?=some (some i)
 rw [hg]
 cases q:owner[j] with
 | none=>rw [q] at h; cases h
 | some i=>exact ⟨i,rfl⟩
theorem yw {owner:Array (Option Nat)} {j:Nat} (hj:j < owner.size) (h:(owner.getD j (some 0)).isNone=true):owner[j]?=some none:=by
 have hg:owner[j]?=some owner[j]:=Array.getElem?_eq_getElem hj
 rw [Array.getD_eq_getD_getElem?,hg] at h
 rw [hg]
 cases q:owner[j] with
 | none=>rfl
 | some i=>rw [q] at h; cases h
theorem sf {mask:Nat} {owner:Array (Option Nat)} (hs:owner.size=mask+1) {h:Int} {j0:Nat} (hf:owner[j0]?=some none):∀ (fuel n:Nat) (b:Nat × Nat) (c:Nat),b.1<=mask->st mask h c=bs mask b->(∀ k,k < c->Occ owner (pos mask h k))->(bW mask n b).1=j0->n < fuel ->
  ∃ K,layClean.free mask owner fuel b.1 b.2=some (pos mask h K)/\owner[pos mask h K]?=some none/\∀ k,k < K->Occ owner (pos mask h k)
 | 0,n,b,c,_,_,_,_,hn=>by omega
 | fuel+1,n,b,c,hb,e,ho,hl,hn=>by
  have hr:=rY hb
  have hge:=mF mask b.1
  cases q:(List.range (runEnd mask b.1+1 - b.1)).find? (fun k=>(owner.getD (b.1+k) (some 0)).isNone) with
  | some a =>
   obtain ⟨h1,h2,h3⟩:=List.find?_range_eq_some.mp q
   have h2:=List.mem_range.mp h2
   have hp:=j_ e (a:=a) (by omega)
   refine ⟨c+a,?_,?_,fun k hk=>?_⟩
   ·unfold layClean.free
    rw [q,hp]
   ·rw [hp]; exact yw (by omega) h1
   ·by_cases z:k < c
    ·exact ho k z
    ·obtain ⟨m,rfl⟩:∃ m,k=c+m:=⟨k - c,by omega⟩
     rw [j_ e (a:=m) (by omega)]
     exact qL (by omega) (by simpa using h3 m (by omega))
  | none =>
   have h3:=List.find?_range_eq_none.mp q
   have occ:∀ a,b.1+a<=runEnd mask b.1->Occ owner (b.1+a):=fun a ha=>qL (by omega) (by simpa using h3 a (by omega))
   cases n with
   | zero =>
    exfalso
    obtain ⟨i,w⟩:=occ 0 (by omega)
    have hl:b.1=j0:=hl
    rw [Nat.add_zero,hl,hf] at w
    cases w
   | succ n =>
    have hle:(leap mask b.1 b.2).1<=mask:=Nat.lt_succ_iff.mp (Nat.mod_lt _ (Nat.succ_pos mask))
    obtain ⟨K,r1,r2,r3⟩:=sf hs hf fuel n (leap mask b.1 b.2) (c+(runEnd mask b.1 - b.1+1)) hle (uU e) (fun k hk=>by
     by_cases z:k < c
     ·exact ho k z
     ·obtain ⟨m,rfl⟩:∃ m,k=c+m:=⟨k - c,by omega⟩
      rw [j_ e (a:=m) (by omega)]
      exact occ m (by omega)) hl (by omega)
    refine ⟨K,?_,r2,r3⟩
    unfold layClean.free
    rw [q]
    exact r1
theorem zb {mask:Nat} (hm:Msk mask) {owner:Array (Option Nat)} (hs:owner.size=mask+1) {j0:Nat} (hf:owner[j0]?=some none) (h:Int) :
  ∃ K,layClean.free mask owner (turns mask) (bits h % (mask+1)) (bits h)=some (pos mask h K)/\owner[pos mask h K]?=some none/\∀ k,k < K->Occ owner (pos mask h k):=by
 have hj:j0<=mask:=by have:=(Array.getElem?_eq_some_iff.mp hf).1; omega
 have hi:bits h % (mask+1)<=mask:=Nat.lt_succ_iff.mp (Nat.mod_lt _ (Nat.succ_pos mask))
 obtain ⟨n,h1,h2,e⟩:=reach hm hi (qR h) hj
 exact sf hs hf (turns mask) (n+1) (bits h % (mask+1),bits h) 0 hi rfl (fun k hk=>by omega) e (by unfold turns; omega)
structure Own (mask:Nat) (hs:List Int) (owner:Array (Option Nat)):Prop where
 size:owner.size=mask+1
 lt:∀ (j i:Nat),owner[j]?=some (some i)->i < hs.length
 ex:∀ i:Nat,i < hs.length->∃ j:Nat,owner[j]?=some (some i)
 inj:∀ (j j' i:Nat),owner[j]?=some (some i)->owner[j']?=some (some i)->j=j'
 way:∀ (j i:Nat) h,owner[j]?=some (some i)->hs[i]?=some h->∃ K,pos mask h K=j/\∀ k,k < K->Occ owner (pos mask h k)
theorem Ad (mask:Nat):Own mask [] (Array.replicate (mask+1) none):=by
 have no:∀ (j i:Nat),(Array.replicate (mask+1) (none:Option Nat))[j]?≠some (some i):=fun j i e=>by
  rw [Array.getElem?_replicate] at e
  split at e <;> cases e
 exact ⟨Array.size_replicate,fun j i e=>absurd e (no j i),fun i h=>absurd h (Nat.not_lt_zero i),fun j _ i e=>absurd e (no j i),fun j i _ e=>absurd e (no j i)⟩
theorem uh {mask:Nat} {hs:List Int} {owner:Array (Option Nat)} (o:Own mask hs owner) (hl:hs.length<=mask):∃ j:Nat,owner[j]?=some none:=by
 by_cases q:∃ j:Nat,owner[j]?=some none
 ·exact q
 ·exfalso
  have all:∀ j,j < mask+1->∃ i:Nat,owner[j]?=some (some i):=fun j hj=>by
   have hj':j < owner.size:=by rw [o.size]; exact hj
   have hg:owner[j]?=some owner[j]:=Array.getElem?_eq_getElem hj'
   cases w:owner[j] with
   | none=>exact absurd ⟨j,by rw [hg,w]⟩ q
   | some i=>exact ⟨i,by rw [hg,w]⟩
  let g:Nat->Nat:=fun j=>((owner[j]?).getD none).getD 0
  have hg:∀ j i:Nat,owner[j]?=some (some i)->g j=i:=fun j i e=>by show ((owner[j]?).getD none).getD 0=i; rw [e]; rfl
  have hnd:((List.range (mask+1)).map g).Nodup:=by
   refine List.pairwise_map.mpr (List.Pairwise.imp_of_mem (fun {a b} ha hb hab=>?_) (List.nodup_range (n:=mask+1)))
   obtain ⟨i,e⟩:=all a (List.mem_range.mp ha)
   obtain ⟨i',e'⟩:=all b (List.mem_range.mp hb)
   rw [hg a i e,hg b i' e']
   intro z
   subst z
   exact hab (o.inj a b i e e')
  have hsub:(List.range (mask+1)).map g ⊆ List.range hs.length:=fun x hx=>by
   obtain ⟨j,hj,rfl⟩:=List.mem_map.mp hx
   obtain ⟨i,e⟩:=all j (List.mem_range.mp hj)
   rw [hg j i e]
   exact List.mem_range.mpr (o.lt j i e)
  have:=hnd.length_le_of_subset hsub
  rw [List.length_map,List.length_range,List.length_range] at this
  omega
theorem Bd {mask:Nat} (hm:Msk mask) {hs:List Int} {owner:Array (Option Nat)} (o:Own mask hs owner) (hl:hs.length<=mask) (h:Int) :
  ∃ j,layClean.free mask owner (turns mask) (bits h % (mask+1)) (bits h)=some j/\Own mask (hs++[h]) (owner.setIfInBounds j (some hs.length)):=by
 obtain ⟨j0,hf⟩:=uh o hl
 obtain ⟨K,e1,e2,e3⟩:=zb hm o.size hf h
 generalize hj:pos mask h K=j at e1 e2
 have hjl:j < owner.size:=(Array.getElem?_eq_some_iff.mp e2).1
 have get:∀ x:Nat,(owner.setIfInBounds j (some hs.length))[x]?=if x=j then some (some hs.length) else owner[x]?:=fun x=>by
  rw [Array.getElem?_setIfInBounds]
  by_cases z:j=x
  ·subst z; rw [if_pos rfl,if_pos hjl,if_pos rfl]
  ·rw [if_neg z,if_neg (fun q=>z q.symm)]
 have keep:∀ x:Nat,Occ owner x->Occ (owner.setIfInBounds j (some hs.length)) x:=fun x ⟨i,w⟩=>⟨i,by
  rw [get,if_neg (fun q=>by subst q; rw [e2] at w; cases w)]; exact w⟩
 refine ⟨j,e1,?_,?_,?_,?_,?_⟩
 ·rw [Array.size_setIfInBounds]; exact o.size
 ·intro x i w
  rw [get] at w
  rw [List.length_append,List.length_singleton]
  split at w
  ·cases w; omega
  ·have:=o.lt x i w; omega
 ·intro i hi
  rw [List.length_append,List.length_singleton] at hi
  by_cases z:i=hs.length
  ·subst z; exact ⟨j,by rw [get,if_pos rfl]⟩
  ·obtain ⟨x,w⟩:=o.ex i (by omega)
   exact ⟨x,by rw [get,if_neg (fun q=>by subst q; rw [e2] at w; cases w)]; exact w⟩
 ·intro x x' i w w'
  rw [get] at w w'
  by_cases z:x=j
  ·by_cases z':x'=j
   ·rw [z,z']
   ·rw [if_pos z] at w; rw [if_neg z'] at w'
    cases w
    have:=o.lt x' _ w'; omega
  ·rw [if_neg z] at w
   by_cases z':x'=j
   ·rw [if_pos z'] at w'
    cases w'
    have:=o.lt x _ w; omega
   ·rw [if_neg z'] at w'; exact o.inj x x' i w w'
 ·intro x i h' w hh
  rw [get] at w
  by_cases z:x=j
  ·rw [if_pos z] at w
   cases w
   rw [List.getElem?_append_right (Nat.le_refl _),Nat.sub_self] at hh
   cases hh
   exact ⟨K,by rw [hj,z],fun k hk=>keep _ (e3 k hk)⟩
  ·rw [if_neg z] at w
   rw [List.getElem?_append_left (o.lt x i w)] at hh
   obtain ⟨K',r1,r2⟩:=o.way x i h' w hh
   exact ⟨K',r1,fun k hk=>keep _ (r2 k hk)⟩
theorem nH {mask:Nat} (hm:Msk mask):∀ (rest done:List Int) (owner:Array (Option Nat)),Own mask done owner->done.length+rest.length<=mask+1 ->
  ∃ o',(rest.foldl (fun (acc:Option (Array (Option Nat) × Nat)) h=>do let (owner,k) <- acc; let j <- layClean.free mask owner (turns mask) (bits h % (mask+1)) (bits h); pure (owner.setIfInBounds j (some k),k+1)) (some (owner,done.length)))=some (o',(done++rest).length)/\Own mask (done++rest) o'
 | [],done,owner,o,_=>⟨owner,by rw [List.append_nil]; rfl,by rw [List.append_nil]; exact o⟩
 | h::rest,done,owner,o,hl=>by
  rw [List.length_cons] at hl
  obtain ⟨j,e,o2⟩:=Bd hm o (by omega) h
  obtain ⟨o',e',o3⟩:=nH hm rest (done++[h]) _ o2 (by rw [List.length_append,List.length_singleton]; omega)
  rw [List.append_assoc] at e' o3
  refine ⟨o',?_,o3⟩
  rw [List.foldl_cons]
  rw [List.length_append,List.length_singleton] at e'
  have:(do let (owner,k) <- some (owner,done.length); let j <- layClean.free mask owner (turns mask) (bits h % (mask+1)) (bits h); pure (owner.setIfInBounds j (some k),k+1))=some (owner.setIfInBounds j (some done.length),done.length+1):=by
   show (layClean.free mask owner (turns mask) (bits h % (mask+1)) (bits h)).bind (fun j=>some (owner.setIfInBounds j (some done.length),done.length+1))=_
   rw [e]; rfl
  rw [this]
  exact e'
theorem BL {mask:Nat} (hm:Msk mask) (hs:Array Int) (hl:hs.size<=mask+1):∃ o',layClean mask hs=some o'/\Own mask hs.toList o':=by
 obtain ⟨o',e,o⟩:=nH hm hs.toList [] _ (Ad mask) (by rw [List.length_nil,Array.length_toList]; omega)
 rw [List.nil_append] at e o
 refine ⟨o',?_,o⟩
 unfold layClean
 rw [<- Array.foldl_toList]
 rw [List.length_nil] at e
 rw [e]
 rfl
end TB

namespace TB
open PySem PySem.SetTable
variable {α:Type} {es:Array (Int × α)}
theorem rf:∀ {l:List Nat},(∀ i∈l,i < es.size)->(l.filterMap (es[·]?)).length=l.length/\∀ m:Nat,(l.filterMap (es[·]?))[m]?=l[m]?.bind (es[·]?)
 | [],_=>⟨rfl,fun m=>by simp⟩
 | i::l,h=>by
  have hi:=h i List.mem_cons_self
  obtain ⟨h1,h2⟩:=rf (l:=l) fun x hx=>h x (List.mem_cons_of_mem _ hx)
  have e:es[i]?=some es[i]:=Array.getElem?_eq_getElem hi
  rw [List.filterMap_cons,e]
  refine ⟨by rw [List.length_cons,List.length_cons,h1],fun m=>?_⟩
  cases m with
  | zero=>rw [List.getElem?_cons_zero,List.getElem?_cons_zero]; exact e.symm
  | succ m=>rw [List.getElem?_cons_succ,List.getElem?_cons_succ]; exact h2 m
noncomputable def bB (mask:Nat) (owner:Array (Option Nat)):List (Nat × Nat):=(List.range (mask+1)).filterMap fun j=>(owner.getD j none).map (j,·)
theorem Ei {mask:Nat} {owner:Array (Option Nat)} (hs:owner.size=mask+1) (j i:Nat):(j,i)∈bB mask owner ↔ owner[j]?=some (some i):=by
 unfold bB
 rw [List.mem_filterMap]
 constructor
 ·rintro ⟨x,hx,e⟩
  have hx:x < owner.size:=by rw [hs]; exact List.mem_range.mp hx
  have hg:owner[x]?=some owner[x]:=Array.getElem?_eq_getElem hx
  rw [Array.getD_eq_getD_getElem?,hg] at e
  cases q:owner[x] with
  | none=>rw [q] at e; cases e
  | some y =>
   rw [q] at e
   have e:(x,y)=(j,i):=by simpa using e
   cases e
   rw [hg,q]
 ·intro e
  have hj:j < owner.size:=(Array.getElem?_eq_some_iff.mp e).1
  refine ⟨j,List.mem_range.mpr (by omega),?_⟩
  rw [Array.getD_eq_getD_getElem?,e]; rfl
theorem uv (mask:Nat) (owner:Array (Option Nat)):(bB mask owner).Pairwise fun a b=>a.1 < b.1:=by
 refine List.Pairwise.filterMap _ (fun a a' hlt b hb b' hb'=>?_) List.pairwise_lt_range
 cases q:owner.getD a none with
 | none=>rw [q] at hb; cases hb
 | some y =>
  cases q':owner.getD a' none with
  | none=>rw [q'] at hb'; cases hb'
  | some y' =>
   rw [q] at hb; rw [q'] at hb'
   have hb:(a,y)=b:=by simpa using hb
   have hb':(a',y')=b':=by simpa using hb'
   subst hb; subst hb'
   exact hlt
theorem w6 {l l':List Nat} (h:l.Nodup) (h':l'.Nodup) (hm:∀ a,a∈l ↔ a∈l'):l.Perm l':=by
 rw [List.perm_iff_count]
 intro a
 rw [h.count,h'.count]
 by_cases q:a∈l
 ·rw [if_pos q,if_pos ((hm a).mp q)]
 ·rw [if_neg q,if_neg (fun z=>q ((hm a).mpr z))]
theorem zx {mask:Nat} (hm:Msk mask) (es:Array (Int × α)) (hl:es.size<=mask+1) (finger moves:Nat) (led plain:Bool) :
  ∃ t' order,laid mask finger moves led plain (es.map (·.1))=some (t',order)/\Good t' (order.filterMap (es[·]?))/\(order.filterMap (es[·]?)).size=es.size/\(order.filterMap (es[·]?)).toList.Perm es.toList /\
   t'={ mask:=mask,place:=t'.place,dummies:=#[],finger:=finger,led:=led,moves:=moves,plain:=plain }:=by
 obtain ⟨owner,e,o⟩:=BL hm (es.map (·.1)) (by rw [Array.size_map]; exact hl)
 have hlen:(es.map (·.1)).toList.length=es.size:=by rw [Array.length_toList,Array.size_map]
 have hm':=Ei o.size
 have hlt:=uv mask owner
 have hi:∀ i∈(bB mask owner).map (·.2),i < es.size:=fun i hi=>by
  obtain ⟨⟨j,i'⟩,h1,rfl⟩:=List.mem_map.mp hi
  have:=o.lt j i' ((hm' j i').mp h1)
  rw [hlen] at this
  exact this
 obtain ⟨f1,f2⟩:=rf (es:=es) hi
 have hnd:((bB mask owner).map (·.2)).Nodup:=by
  refine List.pairwise_map.mpr (List.Pairwise.imp_of_mem (fun {a b} ha hb hab=>?_) hlt)
  obtain ⟨j,i⟩:=a
  obtain ⟨j',i'⟩:=b
  intro z
  have z:i=i':=z
  subst z
  have:=o.inj j j' i ((hm' j i).mp ha) ((hm' j' i).mp hb)
  subst this
  exact absurd hab (Nat.lt_irrefl _)
 have hperm:((bB mask owner).map (·.2)).Perm (List.range es.size):=w6 hnd List.nodup_range fun a=>by
  constructor
  ·intro h; exact List.mem_range.mpr (hi a h)
  ·intro h
   obtain ⟨j,w⟩:=o.ex a (by rw [hlen]; exact List.mem_range.mp h)
   exact List.mem_map.mpr ⟨(j,a),(hm' j a).mpr w,rfl⟩
 have hfm:(((bB mask owner).map (·.2)).toArray.filterMap (es[·]?)).toList=((bB mask owner).map (·.2)).filterMap (es[·]?):=by rw [Array.toList_filterMap]
 have hget:∀ m:Nat,(((bB mask owner).map (·.2)).toArray.filterMap (es[·]?))[m]?=((bB mask owner).map (·.2))[m]?.bind (es[·]?):=fun m=>by rw [<- Array.getElem?_toList,hfm,f2]
 have hsize:(((bB mask owner).map (·.2)).toArray.filterMap (es[·]?)).size=es.size:=by
  rw [<- Array.length_toList,hfm,f1,hperm.length_eq,List.length_range]
 refine ⟨_,_,by unfold laid; rw [e]; rfl,?_,hsize,?_,rfl⟩
 ·have pget:∀ m:Nat,((bB mask owner).map (·.1)).toArray[m]?=(bB mask owner)[m]?.map (·.1):=fun m=>by rw [List.getElem?_toArray,List.getElem?_map]
  refine ⟨rfl,?_,?_,?_,hm,?_⟩
  ·show ((bB mask owner).map (·.1)).toArray.size=_
   rw [hsize,List.size_toArray,List.length_map]
   have:=hperm.length_eq
   rw [List.length_map,List.length_range] at this
   exact this
  ·intro i i' v v' a b hlt'
   have a:((bB mask owner).map (·.1)).toArray[i]?=some v:=a
   have b:((bB mask owner).map (·.1)).toArray[i']?=some v':=b
   rw [pget] at a b
   obtain ⟨x,hx,rfl⟩:=Option.map_eq_some_iff.mp a
   obtain ⟨y,hy,rfl⟩:=Option.map_eq_some_iff.mp b
   obtain ⟨h1,e1⟩:=List.getElem?_eq_some_iff.mp hx
   obtain ⟨h2,e2⟩:=List.getElem?_eq_some_iff.mp hy
   have:=List.pairwise_iff_getElem.mp hlt i i' h1 h2 hlt'
   rw [e1,e2] at this
   exact this
  ·intro i s a
   have a:((bB mask owner).map (·.1)).toArray[i]?=some s:=a
   rw [pget] at a
   obtain ⟨⟨j,k⟩,hx,rfl⟩:=Option.map_eq_some_iff.mp a
   have:=(Array.getElem?_eq_some_iff.mp ((hm' j k).mp (List.mem_of_getElem? hx))).1
   have:=o.size
   show j<=mask
   omega
  ·intro i s e' a b
   have a:((bB mask owner).map (·.1)).toArray[i]?=some s:=a
   have b:(((bB mask owner).map (·.2)).toArray.filterMap (es[·]?))[i]?=some e':=b
   rw [pget] at a
   obtain ⟨⟨j,k⟩,hx,rfl⟩:=Option.map_eq_some_iff.mp a
   rw [hget,List.getElem?_map,hx] at b
   have b:es[k]?=some e':=b
   have hown:=(hm' j k).mp (List.mem_of_getElem? hx)
   have hh:(es.map (·.1)).toList[k]?=some e'.1:=by rw [Array.getElem?_toList,Array.getElem?_map,b]; rfl
   obtain ⟨K,r1,r2⟩:=o.way j k e'.1 hown hh
   refine ⟨K,r1,fun k' hk'=>?_⟩
   obtain ⟨i2,w⟩:=r2 k' hk'
   obtain ⟨m,hm2⟩:=List.getElem?_of_mem ((hm' _ i2).mpr w)
   exact ⟨m,by show ((bB mask owner).map (·.1)).toArray[m]?=_; rw [pget,hm2]; rfl⟩
 ·rw [hfm]
  have:=hperm.filterMap (es[·]?)
  rw [filterMap_getElem?_range] at this
  exact this
end TB

namespace TB
open PySem PySem.SetTable
section
variable {prog:Program} {w:World} {A:Around} {E:Value->Shared->Prop} {s:Shared}
abbrev TK (prog:Program) (w:World) (h:Heap) (ks:List Int) (b:Addr):Prop:=IsTupleKey (intKind prog w) h ks b
noncomputable def hsh (prog:Program) (w:World) (ks:List Int):Int:=tupleKeyHash (intKind prog w) ks
structure El (prog:Program) (w:World) (h:Heap) (e:Int × Value) (ks:List Int):Prop where
 hash:e.1=hsh prog w ks
 ref:∃ b,e.2=.ref b/\TK prog w h ks b
theorem rN {ks:List Int} {vs:List Value} (h:ItemsAre (intKind prog w) ks vs):∀ v∈vs,∃ i t,v=Value.int i t:=by
 induction h with
 | nil=>intro v hv; cases hv
 | cons h1 _ ih =>
  intro v hv
  rcases List.mem_cons.mp hv with rfl|hv
  ·obtain ⟨t,e⟩:=Value.isInt_shape h1; exact ⟨_,t,e⟩
  ·exact ih v hv
theorem sN (n:Nat) {ks:List Int} {b:Addr} {Q:Bool->Shared->Prop} (hk:TK prog w s.heap ks b) (h:Q false s):wpAny (model prog w) A (ofAClassStatement (n+1) (.ref b)) Q E s:=by
 obtain ⟨o,items,m,ho,hc,hd,hi⟩:=hk
 unfold ofAClassStatement
 refine wpAny_bind (wpAny_typeOf_ref ho ?_)
 rw [hc]
 refine wpAny_bind (wpAny_pure ?_)
 simp only [Bool.not_true,Bool.false_eq_true,if_false]
 refine wpAny_bind (wpAny_seqItems ho hd ?_)
 refine wpAny_bind ?_
 show wpAny _ _ (forIn items _ _) _ _ s
 rw [<- Array.forIn_toList]
 refine wpAny_forIn_list _ (fun rest r z=>r.1=none/\z=s/\∀ v∈rest,∃ i t,v=Value.int i t) _ ?_ ?_ _ _ ⟨rfl,rfl,rN hi⟩
 ·rintro v rest r z ⟨hr,rfl,hall⟩
  obtain ⟨i,t,rfl⟩:=hall v List.mem_cons_self
  have e:ofAClassStatement n (Value.int i t)=pure false:=by cases n <;> rfl
  rw [e]
  refine wpAny_bind (wpAny_pure ?_)
  exact wpAny_pure ⟨rfl,rfl,fun u hu=>hall u (List.mem_cons_of_mem _ hu)⟩
 ·rintro ⟨r1,r2⟩ z ⟨hr,rfl,_⟩
  have hr:r1=none:=hr
  subst hr
  exact wpAny_pure h
theorem Ep {ks:List Int} {b:Addr} {ys:List Value} {Q:Bool->Shared->Prop} (hk:TK prog w s.heap ks b) (hy:∀ y∈ys,∃ js c,y=Value.ref c/\TK prog w s.heap js c) (h:Q false s):wpAny (model prog w) A (searchCouldBeSeen (.ref b) ys) Q E s:=by
 unfold searchCouldBeSeen
 refine wpAny_bind (wpAny_forIn_list _ (fun rest r z=>r.1=none/\z=s/\∀ y∈rest,∃ js c,y=Value.ref c/\TK prog w s.heap js c) _ ?_ ?_ _ _ ⟨rfl,rfl,hy⟩)
 ·rintro y rest r z ⟨hr,rfl,hall⟩
  obtain ⟨js,c,rfl,hc⟩:=hall y List.mem_cons_self
  have hrest:∀ y∈rest,∃ js c,y=Value.ref c/\TK prog w z.heap js c:=fun u hu=>hall u (List.mem_cons_of_mem _ hu)
  dsimp only
  split
  ·exact wpAny_pure ⟨rfl,rfl,hrest⟩
  ·refine wpAny_bind (wpAny_eqIsQuiet_tuple hk ?_)
   simp only [Bool.not_true,Bool.false_eq_true,if_false]
   refine wpAny_bind (wpAny_eqIsQuiet_tuple hc ?_)
   simp only [Bool.not_true,Bool.false_eq_true,if_false]
   refine wpAny_bind (sN 7 hk ?_)
   simp only [Bool.false_eq_true,if_false]
   refine wpAny_bind (sN 7 hc ?_)
   simp only [Bool.false_eq_true,if_false]
   exact wpAny_pure ⟨rfl,rfl,hrest⟩
 ·rintro ⟨r1,r2⟩ z ⟨hr,rfl,_⟩
  have hr:r1=none:=hr
  subst hr
  exact wpAny_pure h
noncomputable def ji (prog:Program) (w:World) (h:Heap) (es:Array (Int × Value)) (L:List (List Int)):Prop:=L.length=es.size/\∀ (i:Nat) e ks,es[i]?=some e->L[i]?=some ks->El prog w h e ks
theorem ji.get {h:Heap} {es:Array (Int × Value)} {L:List (List Int)} (k:ji prog w h es L) {i:Nat} {e:Int × Value} (he:es[i]?=some e):∃ ks,L[i]?=some ks/\El prog w h e ks:=by
 have hi:=(Array.getElem?_eq_some_iff.mp he).1
 have hi':i < L.length:=by rw [k.1]; exact hi
 have hl:L[i]?=some L[i]:=List.getElem?_eq_getElem hi'
 exact ⟨_,hl,k.2 i e _ he hl⟩
theorem ff {t:SetTable} {es:Array (Int × Value)} (g:Good t es) (hl:es.size<=t.mask):t.fits es.size=true:=by
 unfold SetTable.fits SetTable.fill
 rw [g.dum,g.len]
 simp only [beq_self_eq_true,Bool.true_and,decide_eq_true_eq]
 exact hl
theorem A6 {mask:Nat} (h:Msk mask):(mask % 2==0)=false:=by rcases h with rfl|rfl <;> rfl
theorem pH {t:SetTable} {f f':Nat->Int} {h:Int} {p:SetTable.Probe} {r:Option SetTable.Met} (e:t.probe f h p=r) (hf:∀ i,f' i=f i):t.probe f' h p=r:=by rw [show f'=f from funext hf]; exact e
theorem uX {a c:Addr} {o:Obj} {es:Array (Int × Value)} {ep:Nat} {t:SetTable} {L:List (List Int)} {ks:List Int} {Q:SetFound->Shared->Prop} (hu:A.units < cLine)
  (ho:s.heap.get? a=some o) (hd:o.data=.set es ep t) (g:Good t es) (hl:es.size<=t.mask) (K:ji prog w s.heap es L) (hk:TK prog w s.heap ks c) {M:Nat} (EN:End t (hsh prog w ks) M)
  (h1:ks∈L->Q (.there none) s) (h2:ks ∉ L->Q (.free (pos t.mask (hsh prog w ks) M) false) s) :
  ∀ (n fuel k:Nat) (stand:Option SetTable.Probe),M - k=n->n < fuel->k<=M->stand.getD (t.probeStart (hsh prog w ks))=st t.mask (hsh prog w ks) k ->
   (∀ (m i:Nat),m < k->t.place[i]?=some (pos t.mask (hsh prog w ks) m)->L[i]?≠some ks) ->
   wpAny (model prog w) A (setSearchFrom a (.ref c) (hsh prog w ks) true fuel stand) Q E s:=by
 intro n
 induction n using Nat.strongRecOn with
 | ind n ih =>
  intro fuel k stand hn hf hkM hst hprev
  obtain ⟨fuel,rfl⟩:∃ f,fuel=f+1:=⟨fuel - 1,by omega⟩
  have hfit:=ff g hl
  unfold setSearchFrom
  refine wpAny_bind (wpAny_setState_of ho hd hfit ?_)
  dsimp only
  have hgw:t.gaveWay=false:=A6 g.msk
  rw [hgw]
  simp only [Bool.false_eq_true,if_false]
  rw [hst]
  have hsto:∀ (i:Nat) e,es[i]?=some e->(es[i]?.map (·.1)).getD 0=e.1:=fun i e he=>by rw [he]; rfl
  rcases C4 g EN (f:=fun i=>(es[i]?.map (·.1)).getD 0) hkM with ⟨hp,hne⟩|⟨m,i,hkm,hmM,hpi,hfi,hslot,hp,hne⟩
  ·rw [pH hp]
   rotate_left
   ·exact fun i=>rfl
   refine wpAny_pure (h2 fun hmem=>?_)
   obtain ⟨i,hi⟩:=List.getElem?_of_mem hmem
   have hi':i < es.size:=by rw [<- K.1]; exact (List.getElem?_eq_some_iff.mp hi).1
   have he:es[i]?=some es[i]:=Array.getElem?_eq_getElem hi'
   have hel:=K.2 i _ ks he hi
   obtain ⟨m,hm,hpl⟩:=Fw g EN he hel.hash
   by_cases z:m < k
   ·exact hprev m i z hpl hi
   ·exact hne m i (by omega) hm hpl ((hsto i _ he).trans hel.hash)
  ·rw [pH hp]
   rotate_left
   ·exact fun i=>rfl
   dsimp only
   have hi':i < es.size:=by rw [<- g.len]; exact (Array.getElem?_eq_some_iff.mp hpi).1
   have he:es[i]?=some es[i]:=Array.getElem?_eq_getElem hi'
   obtain ⟨js,hjs,hel⟩:=K.get he
   obtain ⟨b,hb,hkb⟩:=hel.ref
   have hstored:∀ y∈(es.filter (·.1==hsh prog w ks)).toList.map (·.2),∃ js c,y=Value.ref c/\TK prog w s.heap js c:=fun y hy=>by
    obtain ⟨e,h3,rfl⟩:=List.mem_map.mp hy
    have h3:e∈es:=by
     rw [Array.toList_filter] at h3
     exact Array.mem_def.mpr (List.mem_filter.mp h3).1
    obtain ⟨i',hi'⟩:=Array.getElem?_of_mem h3
    obtain ⟨js',_,hel'⟩:=K.get hi'
    obtain ⟨b',q1,q2⟩:=hel'.ref
    exact ⟨js',b',q1,q2⟩
   have rest:wpAny (model prog w) A (do
     let some (_,y):=es[i]?|unsupported "internal:set-entry"
     let equal <- holding [y] (eqBool y (.ref c))
     let (es',_,t') <- setState a
     if true&&equal then return .there none
     let some same:=t'.sameMemory t.moves t.mask|unsupported "set.changed-during-lookup:is-the-new-block-at-the-old-address"
     let aE <- match (if same then t'.slot (pos t.mask (hsh prog w ks) m) else .empty) with
      | .live i'=>match es'[i']? with
       | some (_,y')=>do pure (if <- isSame y' y then some i' else none)
       | none=>pure none
      | _=>pure none
     match aE with
     | none=>rule "set.search.anew"; setSearchFrom a (.ref c) (hsh prog w ks) true fuel none
     | some i'=>if equal then return .there (some i') else setSearchFrom a (.ref c) (hsh prog w ks) true fuel (some (st t.mask (hsh prog w ks) (m+1)))) Q E s:=by
    rw [he]
    rcases hE:es[i] with ⟨eh,ev⟩
    rw [hE] at hb
    have hb:ev=.ref b:=hb
    subst hb
    dsimp only
    refine wpAny_bind (wpAny_holding (wpAny_eqBool_tuple hu hkb hk ?_))
    refine wpAny_bind (wpAny_setState_of ho hd hfit ?_)
    dsimp only
    by_cases hq:js=ks
    ·subst hq
     rw [decide_eq_true rfl]
     simp only [Bool.and_self,if_true]
     exact wpAny_pure (h1 (List.mem_of_getElem? hjs))
    ·rw [decide_eq_false hq]
     simp only [Bool.and_false,Bool.false_eq_true,if_false]
     have hsm:t.sameMemory t.moves t.mask=some true:=by unfold SetTable.sameMemory; simp only [beq_self_eq_true,if_true]
     rw [hsm]
     simp only [if_true]
     rw [hslot]
     dsimp only
     rw [he,hE]
     dsimp only
     refine wpAny_bind (wpAny_isSame_ref_self (wpAny_bind (wpAny_pure ?_)))
     simp only [if_true]
     refine ih (M - (m+1)) (by omega) fuel (m+1) _ rfl (by omega) (by omega) rfl fun m' i' hm' hpl=>?_
     by_cases z:m' < k
     ·exact hprev m' i' z hpl
     ·by_cases z2:m'=m
      ·subst z2
       have:i'=i:=by
        have r1:=below_at g.srt hpl
        have r2:=below_at g.srt hpi
        omega
       subst this
       rw [hjs]
       intro q
       cases q
       exact hq rfl
      ·intro q
       have hi2:i' < es.size:=by rw [<- g.len]; exact (Array.getElem?_eq_some_iff.mp hpl).1
       have he2:es[i']?=some es[i']:=Array.getElem?_eq_getElem hi2
       exact hne m' i' (by omega) (by omega) hpl ((hsto i' _ he2).trans (K.2 i' _ ks he2 q).hash)
   cases hled:t.led with
   | true =>
    simp only [Bool.not_true,Bool.false_eq_true,if_false]
    exact rest
   | false =>
    simp only [Bool.not_false,if_true]
    refine wpAny_bind (Ep hk hstored ?_)
    simp only [Bool.false_eq_true,if_false]
    exact rest
end
end TB

namespace TB
open PySem PySem.SetTable
section
variable {prog:Program} {w:World} {A:Around} {E:Value->Shared->Prop} {s:Shared}
inductive Els (prog:Program) (w:World) (h:Heap):List (Int × Value)->List (List Int)->Prop
 | nil:Els prog w h [] []
 | cons {e:Int × Value} {ks:List Int} {l:List (Int × Value)} {L:List (List Int)}:El prog w h e ks->Els prog w h l L->Els prog w h (e::l) (ks::L)
variable {h:Heap}
theorem Els.length:∀ {l:List (Int × Value)} {L:List (List Int)},Els prog w h l L->L.length=l.length
 | _,_,.nil=>rfl
 | _,_,.cons _ r=>by rw [List.length_cons,List.length_cons,r.length]
theorem Els.get:∀ {l:List (Int × Value)} {L:List (List Int)},Els prog w h l L->∀ (i:Nat) e ks,l[i]?=some e->L[i]?=some ks->El prog w h e ks
 | _,_,.nil,i,e,ks,a,_=>by simp at a
 | _,_,.cons q r,0,e,ks,a,b=>by cases a; cases b; exact q
 | _,_,.cons q r,i+1,e,ks,a,b=>r.get i e ks a b
theorem Els.keys {es:Array (Int × Value)} {L:List (List Int)} (x:Els prog w h es.toList L):ji prog w h es L :=
 ⟨by rw [x.length,Array.length_toList],fun i e ks a b=>x.get i e ks (by rw [Array.getElem?_toList]; exact a) b⟩
theorem Els.perm {l l':List (Int × Value)} (p:l.Perm l'):∀ {L:List (List Int)},Els prog w h l' L->∃ L',Els prog w h l L'/\L'.Perm L:=by
 induction p with
 | nil=>intro L x; cases x; exact ⟨[],.nil,.nil⟩
 | cons e _ ih=>intro L x; cases x with|cons q r=>obtain ⟨L',a,b⟩:=ih r; exact ⟨_,.cons q a,b.cons _⟩
 | swap e e' l=>intro L x; cases x with|cons q r=>cases r with|cons q' r'=>exact ⟨_,.cons q' (.cons q r'),.swap ..⟩
 | trans _ _ ih1 ih2 =>
  intro L x
  obtain ⟨L1,a1,b1⟩:=ih2 x
  obtain ⟨L2,a2,b2⟩:=ih1 a1
  exact ⟨L2,a2,b2.trans b1⟩
theorem Els.snoc:∀ {l:List (Int × Value)} {L:List (List Int)} {e:Int × Value} {ks:List Int},Els prog w h l L->El prog w h e ks->Els prog w h (l++[e]) (L++[ks])
 | _,_,_,_,.nil,q=>.cons q .nil
 | _,_,_,_,.cons a r,q=>.cons a (r.snoc q)
theorem Els.mono {h':Heap} (f:∀ ks b,TK prog w h ks b->TK prog w h' ks b):∀ {l:List (Int × Value)} {L:List (List Int)},Els prog w h l L->Els prog w h' l L
 | _,_,.nil=>.nil
 | _,_,.cons ⟨a,b,c,d⟩ r=>.cons ⟨a,b,c,f _ _ d⟩ (r.mono f)
theorem su {a b:Addr} {h':Heap} {ks:List Int} {o:Obj} {es:Array (Int × Value)} {ep:Nat} {t:SetTable} (ho:h.get? a=some o) (hd:o.data=.set es ep t) (q:Heap.SameBut a h h') (x:TK prog w h ks b):TK prog w h' ks b:=by
 obtain ⟨ob,items,n,x1,x2,x3,x4⟩:=x
 refine ⟨ob,items,n,(q.2 b fun z=>?_).trans x1,x2,x3,x4⟩
 subst z
 rw [ho] at x1
 cases x1
 rw [hd] at x3
 cases x3
noncomputable def byT (w:World):Bool:=w.params.followText "set-order"
noncomputable def bN (prog:Program) (w:World) (lim:Addr->Prop) (h:Heap) (a:Addr) (L:List (List Int)):Prop:=∃ o es ep t,h.get? a=some o/\o.ExactSet/\o.data=.set es ep t/\Good t es/\(t.plain=true/\t.led=!byT w)/\es.size * 5 < t.mask * 3/\Els prog w h es.toList L/\L.Nodup /\
 ∀ e∈es.toList,∀ b,e.2=.ref b->lim b
theorem CL {ks:List Int} {c:Addr} {Q:Bool->Shared->Prop} (hk:TK prog w s.heap ks c) (q:Q true s):wpAny (model prog w) A (hashByValue 8 (.ref c)) Q E s:=by
 have hT:=hk.typeIs
 obtain ⟨o,items,m,ho,hc,hd,hi⟩:=hk
 unfold hashByValue
 refine wpAny_bind (wpAny_specialOf hT F.slot_tuple_hash.lookup ?_)
 show wpAny _ _ (seqItems? (.ref c)>>=_) _ _ s
 refine wpAny_bind (wpAny_seqItems ho hd ?_)
 refine wpAny_bind ?_
 show wpAny _ _ (forIn items _ _) _ _ s
 rw [<- Array.forIn_toList]
 refine wpAny_forIn_list _ (fun rest r z=>r.1=none/\z=s/\∀ v∈rest,∃ i t,v=Value.int i t) _ ?_ ?_ _ _ ⟨rfl,rfl,rN hi⟩
 ·rintro v rest r z ⟨hr,rfl,hall⟩
  obtain ⟨i,t,rfl⟩:=hall v List.mem_cons_self
  have e:∀ n,hashByValue n (Value.int i t)=pure true:=fun n=>by cases n <;> rfl
  rw [e]
  refine wpAny_bind (wpAny_pure ?_)
  exact wpAny_pure ⟨rfl,rfl,fun u hu=>hall u (List.mem_cons_of_mem _ hu)⟩
 ·rintro ⟨r1,r2⟩ z ⟨hr,rfl,_⟩
  have hr:r1=none:=hr
  subst hr
  exact wpAny_pure q
theorem Dt {mask:Nat} (hm:Msk mask):10 * turns mask < 100000:=by rcases hm with rfl|rfl <;> decide
theorem o_ {a:Addr} {o:Obj} {es:Array (Int × Value)} {ep:Nat} {t:SetTable} (ho:h.get? a=some o) (hd:o.data=.set es ep t) (es':Array (Int × Value)) (t':SetTable) :
  (h.update a (Obj.putSet es' t')).get? a=some { o with data:=.set es' (ep+1) t' }:=by
 have q:=Heap.get?_update_self (Obj.putSet es' t') ho (by rw [putSet_of es' t' hd]; rfl)
 rw [putSet_of es' t' hd] at q
 exact q
theorem uz {a c:Addr} {L:List (List Int)} {ks:List Int} {Q:Bool->Shared->Prop} (hu:A.units < cLine) {lim:Addr->Prop} (hs:bN prog w lim s.heap a L) (hn:L.length<=17) (hk:TK prog w s.heap ks c) (hc:lim c)
  (q:∀ r h' L',Heap.SameBut a s.heap h'->bN prog w lim h' a L'->(∀ x,x∈L' ↔ x∈L\/x=ks)->L'.length<=L.length+1->Q r { s with heap:=h' }) :
  wpAny (model prog w) A (setAddHashed a (.ref c) (hsh prog w ks)) Q E s:=by
 obtain ⟨o,es,ep,t,ho,hex,hd,g,hpl,hsz,hels,hnd,hlim⟩:=hs
 have hlen:L.length=es.size:=by rw [hels.length,Array.length_toList]
 have hl:es.size<=t.mask:=by rcases g.msk with z|z <;> omega
 have hfit:=ff g hl
 obtain ⟨M,EN⟩:=xD g hl (hsh prog w ks)
 have hts:=Dt g.msk
 have hML:=EN.lt
 unfold setAddHashed setAddHashedIn
 refine wpAny_holding (wpAny_bind (wpAny_setState_of ho hd hfit ?_))
 dsimp only
 have hbs:byScan (.ref c) es=false:=rfl
 rw [hbs]
 simp only [Bool.false_eq_true,if_false]
 unfold setSearch
 refine wpAny_bind (uX hu ho hd g hl hels.keys hk EN (fun hm=>?_) (fun hm=>?_) M 100000 0 none (Nat.sub_zero M) (by omega) (Nat.zero_le _) rfl (fun m i hm=>absurd hm (Nat.not_lt_zero m)))
 ·have e:s={ s with heap:=s.heap }:=by cases s; rfl
  rw [e]
  exact wpAny_pure (q _ s.heap L (Heap.SameBut.refl a s.heap) ⟨o,es,ep,t,ho,hex,hd,g,hpl,hsz,hels,hnd,hlim⟩ (fun x=>⟨.inl,fun z=>z.elim id fun z=>z ▸ hm⟩) (Nat.le_succ _))
 dsimp only
 refine wpAny_bind (wpAny_setState_of ho hd hfit ?_)
 dsimp only
 have g1:=EX g EN (Value.ref c)
 generalize hp:t.put (pos t.mask (hsh prog w ks) M)=TP at g1
 have hmask:TP.1.mask=t.mask:=by rw [<- hp]; rfl
 have hplain:TP.1.plain=true:=by rw [<- hp]; exact hpl.1
 have hled:TP.1.led=!byT w:=by rw [<- hp]; exact hpl.2
 obtain ⟨t1,p⟩:=TP
 have hmask:t1.mask=t.mask:=hmask
 have hplain:t1.plain=true:=hplain
 have hled:t1.led=!byT w:=hled
 have g1:Good t1 (insertAt es p (hsh prog w ks,.ref c)):=g1
 dsimp only
 rw [hplain]
 simp only [if_true]
 refine wpAny_bind (CL hk ?_)
 simp only [if_true]
 have hperm:=SetTable.insertAt_perm es p (hsh prog w ks,Value.ref c)
 rw [Array.toList_push] at hperm
 have hz1:(insertAt es p (hsh prog w ks,Value.ref c)).size=es.size+1:=lz _ _ _
 obtain ⟨L1,x1,y1⟩:=Els.perm hperm (hels.snoc (e:=(hsh prog w ks,Value.ref c)) ⟨rfl,c,rfl,hk⟩)
 have hL1:L1.length=L.length+1:=by rw [y1.length_eq,List.length_append,List.length_singleton]
 have hnd1:L1.Nodup:=y1.nodup_iff.mpr (List.nodup_append.mpr ⟨hnd,by simp,fun x hx y hy=>by rw [List.mem_singleton.mp hy]; intro z; exact hm (z ▸ hx)⟩)
 have hm1:∀ x,x∈L1 ↔ x∈L\/x=ks:=fun x=>by rw [y1.mem_iff,List.mem_append,List.mem_singleton]
 have hlim1:∀ e∈(insertAt es p (hsh prog w ks,Value.ref c)).toList,∀ b,e.2=.ref b->lim b:=fun e he b hb=>by
  rcases List.mem_append.mp (hperm.mem_iff.mp he) with z|z
  ·exact hlim e z b hb
  ·rw [List.mem_singleton.mp z] at hb; cases hb; exact hc
 generalize insertAt es p (hsh prog w ks,Value.ref c)=es1 at g1 hz1 x1 hlim1
 have hline:∀ n:Nat,n<=100->n<=sizeLine:=fun n h=>by rw [sizeLine_eq]; omega
 have ho1:=o_ (h:=s.heap) ho hd es1 t1
 have sb1:=Heap.SameBut.update s.heap a (Obj.putSet es1 t1)
 refine wpAny_bind (wpAny_storeSet_of ho hd ?_ (hline _ (by omega)))
 have hl1:es1.size<=t1.mask:=by rw [hmask]; rcases g.msk with z|z <;> omega
 have hfill:t1.fill=es1.size:=by unfold SetTable.fill; rw [g1.dum,g1.len]; rfl
 have x1':=x1.mono fun ks b z=>su ho hd sb1 z
 by_cases hfull:t1.tooFull=true
 ·rw [hfull]
  simp only [Bool.not_false,Bool.and_self,if_true]
  have hfull:t1.fill * 5 ≥ t1.mask * 3:=of_decide_eq_true hfull
  rw [hfill,hmask,hz1] at hfull
  have h4:es.size=4:=by rcases g.msk with z|z <;> omega
  unfold setRelay
  refine wpAny_bind ?_
  refine wpAny_bind (wpAny_setState_of ho1 rfl (ff g1 hl1) ?_)
  dsimp only
  have hw:SetTable.grown (es.size+1)=20:=by rw [h4]; rfl
  rw [hw]
  have h32:SetTable.sizeAbove 20=32:=by decide
  have hno:¬ (SetTable.sizeAbove 20 > sizeLine):=by rw [h32,sizeLine_eq]; omega
  rw [if_neg hno]
  obtain ⟨t2,order,e2,g2,z2,p2,f2⟩:=zx (mask:=31) (.inr rfl) es1 (by omega) t1.finger (t1.movedTo 31) t1.led t1.plain
  have hrel:t1.relaid (es1.map (·.1)) 20=some (t2,order):=by unfold SetTable.relaid; rw [h32]; exact e2
  have hplain2:t2.plain=true:=by rw [f2]; exact hplain
  have hled2:t2.led=!byT w:=by rw [f2]; exact hled
  have hmask2:t2.mask=31:=by rw [f2]
  rw [show (es1.map fun x=>x.1)=es1.map (·.1) from rfl,hrel]
  obtain ⟨L2,x2,y2⟩:=Els.perm p2 x1'
  generalize hes2:order.filterMap (es1[·]?)=es2 at g2 z2 p2 x2
  have ho2:=o_ ho1 rfl es2 t2
  have sb2:=Heap.SameBut.update (s.heap.update a (Obj.putSet es1 t1)) a (Obj.putSet es2 t2)
  refine wpAny_bind (wpAny_of_eq (a:=(es2,t2)) ?_ ?_)
  ·show (ite _ _ _:Sem (Array (Int × Value) × SetTable))=_
   refine (if_neg ?_).trans ?_
   ·rw [hes2,z2]; simp
   ·rw [hes2]
  ·refine wpAny_storeSet_of ho1 rfl ?_ (hline _ (by show es2.size<=100; omega))
   refine wpAny_pure (q _ _ L2 (sb1.trans sb2) ⟨_,es2,_,t2,ho2,hex,rfl,g2,⟨hplain2,hled2⟩,by omega,x2.mono fun ks b z=>su ho1 rfl sb2 z,y2.nodup_iff.mpr hnd1,fun e he=>hlim1 e (p2.mem_iff.mp he)⟩ (fun x=>by rw [y2.mem_iff,hm1]) (by rw [y2.length_eq]; omega))
 ·have hfull':t1.tooFull=false:=by simpa using hfull
  rw [hfull']
  simp only [Bool.and_false,Bool.false_eq_true,if_false]
  have hnf:¬ (t1.fill * 5 ≥ t1.mask * 3):=fun z=>hfull (decide_eq_true z)
  rw [hfill] at hnf
  exact wpAny_pure (q _ _ L1 sb1 ⟨_,es1,ep+1,t1,ho1,hex,rfl,g1,⟨hplain,hled⟩,by omega,x1',hnd1,hlim1⟩ hm1 (by omega))
theorem bN.keep {lim:Addr->Prop} {a:Addr} {h':Heap} {L:List (List Int)} (x:bN prog w lim h a L) (k:∀ b o,lim b\/b=a->h.get? b=some o->h'.get? b=some o):bN prog w lim h' a L:=by
 obtain ⟨o,es,ep,t,ho,hex,hd,g,hpl,hsz,hels,hnd,hlim⟩:=x
 refine ⟨o,es,ep,t,k a o (.inr rfl) ho,hex,hd,g,hpl,hsz,?_,hnd,hlim⟩
 have all:∀ (l:List (Int × Value)) (L:List (List Int)),(∀ e∈l,∀ b,e.2=.ref b->lim b)->Els prog w h l L->Els prog w h' l L:=by
  intro l L hl q
  induction q with
  | nil=>exact .nil
  | @cons e ks l L q r ih =>
   obtain ⟨q1,b,q2,ob,items,n,x1,x2⟩:=q
   exact .cons ⟨q1,b,q2,ob,items,n,k b ob (.inl (hl e List.mem_cons_self b q2)) x1,x2⟩ (ih fun e' he'=>hl e' (List.mem_cons_of_mem _ he'))
 exact all _ _ hlim hels
theorem yV (finger moves:Nat) (led:Bool):Good (.fresh finger moves led) (#[]:Array (Int × Value)) :=
 ⟨rfl,rfl,fun i _ v _ e=>by simp [SetTable.fresh] at e,fun i v e=>by simp [SetTable.fresh] at e,.inl rfl,fun i v _ e=>by simp [SetTable.fresh] at e⟩
theorem bN.new {lim:Addr->Prop} {a:Addr} (ho:h.get? a=some { cls:=.type "set",dict:=none,data:=.set #[] 0 (.fresh 0 0 (!byT w)) }):bN prog w lim h a [] :=
 ⟨_,#[],0,_,ho,⟨rfl,rfl,rfl⟩,rfl,yV 0 0 _,⟨rfl,rfl⟩,(show 0 * 5 < 7 * 3 by decide),.nil,List.nodup_nil,fun e he=>by simp at he⟩
end
end TB

namespace TB
open PySem PySem.SetTable PySem.Spec
section
variable {prog:Program} {w:World} {A:Around} {R:Result->Shared->Prop} {I:Addr} {fp wr:List Addr} {G:Array GenState->Array GenState->Prop} {n:Nat} {P:Nat->Value->Prop} {St:Nat->Shared->Prop}
theorem ef {h h':Heap} {ks:List Int} {c:Addr} (x:TK prog w h ks c) (k:∀ o,h.get? c=some o->h'.get? c=some o):TK prog w h' ks c:=by
 obtain ⟨o,items,m,x1,x2⟩:=x
 exact ⟨o,items,m,k o x1,x2⟩
theorem zz (hu:A.in1.units < cLine) (W:WalksS prog w A.in1 I fp wr G n P St) (S:Addr) (lim:Addr->Prop) (hS1:S ∉ fp) (hwr:∀ b∈wr,¬ lim b) (hSl:¬ lim S) (val:Nat->List Int) (hn:n<=18) (hval:∀ i v,P i v->∃ c,v=.ref c/\lim c) :
  ∀ (k i:Nat) (z:Shared) (L:List (List Int)),n - i=k->i<=n->St i z->bN prog w lim z.heap S L->(∀ x,x∈L ↔ ∃ j,j < i/\val j=x)->L.length<=i->(∀ i c,P i (.ref c)->TK prog w z.heap (val i) c) ->
   (∀ z' L',Moved (S::wr) G z z'->bN prog w lim z'.heap S L'->(∀ x,x∈L' ↔ ∃ j,j < n/\val j=x)->(∀ i c,P i (.ref c)->TK prog w z'.heap (val i) c)->R (.ok (.ret .none)) z') ->
   codeAny (model prog w) A (.builtin "set.update.loop" ⟨[.ref S,.ref I],[]⟩) R z:=by
 have hS2:S ∉ wr:=fun q=>hS1 (W.sub _ q)
 have more:∀ b∈wr,b∈S::wr:=fun b q=>List.mem_cons_of_mem _ q
 have old:∀ {c:Addr},lim c->c ∉ wr:=fun hc q=>hwr _ q hc
 intro k
 induction k with
 | zero =>
  intro i z L hk hi hst hT hL hlen hP hR
  obtain rfl:i=n:=by omega
  refine codeAny_builtin PyProof.Rows.F.entry_set_update_loop ?_
  rw [Around.under_plainId PyProof.Rows.F.plain_set_update_loop _]
  refine wpAny_bind (W.done z _ _ hst fun z' hm=>?_)
  refine wpAny_pure (hR z' L (hm.mono more) (hT.keep fun b o hb e=>hm.heap b o ?_ e) hL fun j c hp=>ef (hP j c hp) fun o e=>hm.heap c o ?_ e)
  ·rcases hb with hb|rfl
   ·exact old hb
   ·exact hS2
  ·obtain ⟨c',q1,q2⟩:=hval j _ hp; cases q1; exact old q2
 | succ k ih =>
  intro i z L hk hi hst hT hL hlen hP hR
  have hlt:i < n:=by omega
  refine codeAny_builtin PyProof.Rows.F.entry_set_update_loop ?_
  rw [Around.under_plainId PyProof.Rows.F.plain_set_update_loop _]
  refine wpAny_bind (W.item i z _ _ hlt hst fun v z' hv hst' hm=>?_)
  obtain ⟨c,rfl,hc⟩:=hval i v hv
  have hP':∀ i c,P i (.ref c)->TK prog w z'.heap (val i) c:=fun j d hp=>ef (hP j d hp) fun o e=>hm.heap d o (by obtain ⟨c',q1,q2⟩:=hval j _ hp; cases q1; exact old q2) e
  have hT':bN prog w lim z'.heap S L:=hT.keep fun b o hb e=>hm.heap b o (by rcases hb with hb|rfl; exact old hb; exact hS2) e
  have hci:=hP' i c hv
  refine wpAny_bind (wpAny_holding ?_)
  unfold setAdd
  refine wpAny_holding (wpAny_bind (wpAny_pyHash_tuple hu hci ?_))
  refine uz (s:={ z' with toks:=z'.toks+((val i).length+1) }) hu hT' (by omega) hci hc fun r h' L' sb hT2 hL2 hlen2=>?_
  have kp:∀ b o,b≠S->z'.heap.get? b=some o->h'.get? b=some o:=fun b o hb e=>(sb.2 b hb).trans e
  refine wpAny_pure ⟨plainId_quiet PyProof.Rows.F.plain_set_update_loop _,ih (i+1) _ L' (by omega) hlt (W.frame _ z' _ _ hst' (Nat.le_add_right _ _) fun b hb o e=>kp b o (fun q=>hS1 (q ▸ hb)) e) hT2 (fun x=>?_) (by omega) (fun j d hp=>ef (hP' j d hp) fun o e=>kp d o ?_ e) fun z2 L2 hm2 a1 a2 a3=>?_⟩
  ·rw [hL2,hL]
   constructor
   ·rintro (⟨j,h1,h2⟩|rfl)
    ·exact ⟨j,by omega,h2⟩
    ·exact ⟨i,by omega,rfl⟩
   ·rintro ⟨j,h1,rfl⟩
    by_cases q:j=i
    ·subst q; exact .inr rfl
    ·exact .inl ⟨j,by omega,rfl⟩
  ·obtain ⟨c',q1,q2⟩:=hval j _ hp; cases q1; exact fun q=>hSl (q ▸ q2)
  ·exact hR z2 L2 (Moved.trans W.gtrans ((hm.mono more).then_heap (Nat.le_add_right _ _) fun b o hb e=>kp b o (fun q=>hb (by rw [q]; exact List.mem_cons_self)) e) hm2) a1 a2 a3
end
end TB

namespace TB
open PySem PySem.SetTable
theorem fL:Slot "set_iterator" "__next__" "set_iterator.__next__" :=
 .of (owner:="set_iterator") (n:="__next__") (by rw [typeLookup_type,builtinLookup_eq_fast]; kernel_rfl) (by decide +kernel) (by decide +kernel) (by decide +kernel) (.inl (by decide +kernel)) (by rw [isSubtype_type]; kernel_rfl)
theorem ou:Slot "set_iterator" "__iter__" "set_iterator.__iter__" :=
 .of (owner:="set_iterator") (n:="__iter__") (by rw [typeLookup_type,builtinLookup_eq_fast]; kernel_rfl) (by decide +kernel) (by decide +kernel) (by decide +kernel) (.inl (by decide +kernel)) (by rw [isSubtype_type]; kernel_rfl)
theorem qv:entryFor table "set_iterator.__next__" = some Builtin.«set_iterator.__next__»:=entryFor_of_fast (by kernel_rfl)
theorem B5:entryFor table "set_iterator.__iter__" = some Builtin.«dict_keyiterator.__iter__»:=entryFor_alias (id':="dict_keyiterator.__iter__") (by kernel_rfl) rfl (by decide +kernel) (by kernel_rfl)
theorem nj (a:Value):argsOk "set_iterator.__next__" ⟨[a],[]⟩:=by unfold argsOk; kernel_rfl
theorem t7 (a:Value):argsOk "set_iterator.__iter__" ⟨[a],[]⟩:=by unfold argsOk; kernel_rfl
theorem Ej:entryFor table "set.__iter__" = some Builtin.«frozenset.__iter__»:=entryFor_alias (id':="frozenset.__iter__") (by kernel_rfl) rfl (by decide +kernel) (by kernel_rfl)
end TB

namespace TB
open PySem PySem.SetTable PySem.Spec
section
variable {prog:Program} {w:World} {A:Around} {E:Value->Shared->Prop} {s:Shared}
noncomputable def Bm (prog:Program) (w:World) (h:Heap) (items:Array Value) (val:Nat->List Int):Prop:=∀ (i:Nat) v,items[i]?=some v->∃ c,v=.ref c/\TK prog w h (val i) c
noncomputable def eV (led:Bool):Obj:={ cls:=.type "set",dict:=none,data:=.set #[] 0 (.fresh 0 0 led) }
noncomputable def Made (prog:Program) (w:World) (h:Heap) (items:Array Value) (val:Nat->List Int) (h':Heap):Prop:=(∃ L,bN prog w (fun c=>c < h.objs.size/\Value.ref c∈items.toList) h' h.objs.size L/\∀ x,x∈L ↔ ∃ j,j < items.size/\val j=x)/\∀ b o,b < h.objs.size->h.get? b=some o->h'.get? b=some o
set_option maxRecDepth 100000 in
set_option maxHeartbeats 3200000 in
theorem En (a:Value) {Q:Value->Shared->Prop} (q:Q (.ref s.heap.objs.size) { s with heap:=s.heap.push (eV (!byT w)) }) :
  codeAny (model prog w) A (.call (.builtin "set.__new__") ⟨[.type "set",a],[]⟩) (wants Q E) s:=by
 refine codeAny_of_tree (show wpAny _ A.in1 (do checkBuiltinCall "set.__new__" ⟨[.type "set",a],[]⟩; again (.builtin "set.__new__" ⟨[.type "set",a],[]⟩)) _ _ s from ?_)
 refine wpAny_bind (wpAny_of_eq (F.newCall_set_1 a) (wpAny_pure ⟨plainId_quiet F.plain_set_new _,codeAny_builtin F.entry_set_new ?_⟩)); rw [Around.under_plainId F.plain_set_new _]
 unfold Builtin.«set.__new__» Builtin.Frozenset.newClass; have hsub:=sub_set_self
 obtain ⟨hp,g,d,tk,os⟩:=s
 dsimp only; wp_walk
 refine wpAny_askSetting (wpAny_pure ?_)
 dsimp only; simp only [newObj]
 refine wpAny_bind (wpAny_alloc (wpAny_pure (wpAny_pure ?_)))
 exact q
set_option maxRecDepth 100000 in
set_option maxHeartbeats 3200000 in
theorem zw {l:Addr} {items:Array Value} {val:Nat->List Int} {Q:Value->Shared->Prop} (hu:A.units+4 < cLine) (hh:A.handled=none) (hl:s.heap.IsList l items) (ht:Bm prog w s.heap items val) (hb:items.size<=18)
  (q:∀ h' tk,Made prog w s.heap items val h'->Q (.ref s.heap.objs.size) { s with heap:=h',toks:=tk }):wpAny (model prog w) A (call (.type "set") [.ref l]) Q E s:=by
 obtain ⟨ka,kb,kc⟩:=F.called_set.mro; have kd:=F.called_set.made; have ke:=F.called_set.sub
 refine wpAny_call (codeAny_of_tree (show wpAny _ _ (callAny (.type "set") _) _ _ _ from ?_))
 refine wpAny_pure ⟨Code.quiet_builtin _ (by decide +kernel),codeAny_builtin F.entry_type_call ?_⟩; rw [Around.under_plain (weight_type_call_type "set" [.ref l] []) rfl]
 have kf:=F.called_set.notType; have kg:=F.called_set.canCreate; have ki:=F.typeCall_set_1 (.ref l)
 repeat (any_goals (first|wp_step|assumption))
 refine codeAny_mono (En (.ref l) (E:=E) (Q:=fun ob z=>∃ led:Bool,led=!byT w/\ob=.ref s.heap.objs.size/\z={ s with heap:=s.heap.push (eV led) }) ⟨_,rfl,rfl,rfl⟩) fun r z hr=>?_
 cases r with
 | error e=>exact hr
 | ok fl =>
  cases fl with
  | ret ob =>
   obtain ⟨led,hled,rfl,rfl⟩:=hr
   have gS:(s.heap.push (eV led)).get? s.heap.objs.size=some (eV led):=Heap.get?_push_size _ rfl
   have hT:Shared.TypeIs { s with heap:=s.heap.push (eV led) } (.ref s.heap.objs.size) "set":=⟨_,gS,rfl⟩
   have kj:=F.called_set.init.lookup; have kk:=F.called_set.init.bind (.ref s.heap.objs.size)
   repeat (any_goals (first|wp_step|assumption))
   refine codeAny_mono (codeAny_call_builtin (R:=wants (fun r z=>r=.none/\∃ h' tk,z={ s with heap:=h',toks:=tk }/\Made prog w s.heap items val h') E) F.called_set.init.plain F.entry_set_init (check_set_init_1 hT ?_)) fun r2 z2 hr2=>?_
   ·obtain ⟨⟨oc,od,ot,os⟩,hol,hcl,nl,hdl⟩:=hl
    have hcl:oc=.type "list":=hcl; have hdl:ot=.seq items nl:=hdl
    subst hcl; subst hdl
    have hlt:l < s.heap.objs.size:=Heap.lt_size hol
    have gl:(s.heap.push (eV led)).get? l=some { cls:=.type "list",dict:=od,data:=.seq items nl,slots:=os }:=Heap.get?_push_of_some _ hol
    have kl:=F.sub_list_set; have km:=F.sub_list_frozenset; have kn:(Value.type "list"==Value.type "dict")=false:=by decide
    have hl1:(s.heap.push (eV led)).IsList l items:=⟨_,gl,rfl,nl,rfl⟩
    unfold Builtin.«set.__init__» noKeywords Builtin.Frozenset.updateFrom
    generalize hpi:pyIter=pit
    unfold eV at *
    wp_walk
    subst hpi
    refine wpAny_pyIter_list hl1 (wpAny_bind (wpAny_runValue ?_))
    have sz:((s.heap.push ({ cls:=.type "set",dict:=none,data:=.set #[] 0 (.fresh 0 0 led) }:Obj)).objs.size)=s.heap.objs.size+1:=Heap.size_push _ _
    have h3:A.in1.in1.in1.handled=none:=by simpa using hh
    have hI:l≠(s.heap.push ({ cls:=.type "set",dict:=none,data:=.set #[] 0 (.fresh 0 0 led) }:Obj)).objs.size:=by rw [sz]; exact Nat.ne_of_lt (Nat.lt_succ_of_lt hlt)
    refine zz (by show A.units+1+1+1 < cLine; omega) ((Walks.list h3 _ l hI items).toS) s.heap.objs.size (fun c=>c < s.heap.objs.size/\Value.ref c∈items.toList) ?hS1 ?hwr (fun z=>absurd z.1 (Nat.lt_irrefl _)) val hb ?hval (items.size - 0) 0 _ [] rfl (Nat.zero_le _) ⟨⟨_,Heap.get?_push_size _ rfl,rfl,rfl⟩,hl1.push _⟩ ?hT ?hL (Nat.le_refl _) ?hP ?hR
    case hS1=>rw [sz]; intro z; rcases List.mem_cons.mp z with z|z; exact absurd z (Nat.ne_of_lt (Nat.lt_succ_self _)); exact absurd (List.mem_singleton.mp z) (Nat.ne_of_gt hlt)
    case hwr=>intro b z q; rw [List.mem_singleton.mp z,sz] at q; exact absurd q.1 (Nat.not_lt_of_le (Nat.le_succ _))
    case hval =>
     intro i v hv
     obtain ⟨c,e,o,items',m,h1,h2⟩:=ht i v hv
     exact ⟨c,e,Heap.lt_size h1,List.mem_of_getElem? (by rw [<- e,Array.getElem?_toList]; exact hv)⟩
    case hT=>rw [hled] at gS ⊢; exact bN.new (Heap.get?_push_of_some _ gS)
    case hL=>intro x; constructor; (intro z; cases z); (rintro ⟨j,z,_⟩; omega)
    case hP =>
     intro i c hp
     obtain ⟨c',e,x⟩:=ht i _ hp
     cases e
     exact ef x fun o e=>Heap.get?_push_of_some _ (Heap.get?_push_of_some _ e)
    case hR =>
     rintro ⟨h',g',d',tk',os'⟩ L' hm h1 h2 _
     obtain rfl:g'=s.gens:=hm.gens
     obtain rfl:d'=s.drawn:=hm.drawn
     obtain rfl:os'=s.os:=hm.os
     refine wpAny_pure (wpAny_pure ⟨rfl,h',tk',rfl,⟨L',h1,h2⟩,fun b o hb' e=>?_⟩)
     refine hm.heap b o (fun z=>?_) (Heap.get?_push_of_some _ (Heap.get?_push_of_some _ e))
     rcases List.mem_cons.mp z with z|z
     ·exact absurd z (Nat.ne_of_lt hb')
     ·rw [List.mem_singleton,sz] at z; exact absurd z (Nat.ne_of_lt (Nat.lt_succ_of_lt hb'))
   ·cases r2 with
    | error e=>exact hr2
    | ok fl2 =>
     cases fl2 with
     | ret r =>
      obtain ⟨rfl,h',tk,rfl,hm⟩:=hr2
      repeat (any_goals (first|wp_step|assumption))
      exact q _ _ hm
     | _=>exact hr2.elim
  | _=>exact hr.elim
end
end TB

namespace TB
open PySem PySem.SetTable
theorem Ex {α:Type} {l:List α} {i:Nat} (h:i < l.length):(l[i]::l.eraseIdx i).Perm l:=by
 rw [List.eraseIdx_eq_take_drop_succ]
 refine List.perm_middle.symm.trans ?_
 rw [<- List.drop_eq_getElem_cons h,List.take_append_drop]
theorem q_ {α:Type} (next:Nat->Nat):∀ (n k:Nat) (left:List α) (out:Array α),left.length=n->(pickOrder.go next n k left out).toList.Perm (out.toList++left)
 | 0,k,left,out,h=>by
  obtain rfl:=List.length_eq_zero_iff.mp h
  unfold pickOrder.go
  rw [List.append_nil]
 | n+1,k,left,out,h=>by
  have hi:next k % left.length < left.length:=Nat.mod_lt _ (by omega)
  unfold pickOrder.go
  rw [List.getElem?_eq_getElem hi]
  refine (q_ next n (k+1) _ _ (by rw [List.length_eraseIdx_of_lt hi]; omega)).trans ?_
  rw [Array.toList_push,List.append_assoc]
  exact (Ex hi).append_left _
theorem zN {α:Type} (next:Nat->Nat) (xs:Array α):(pickOrder next xs).toList.Perm xs.toList:=q_ next xs.size 0 xs.toList #[] (Array.length_toList)
noncomputable def bS (w:World) (S:Addr) (ep:Nat) (es:Array (Int × Value)):Array (Int × Value):=if byT w=true then pickOrder (w.params.setOrder S ep) es else es
theorem kC (w:World) (S:Addr) (ep:Nat) (es:Array (Int × Value)):(bS w S ep es).toList.Perm es.toList:=by
 unfold bS
 split
 ·exact zN _ _
 ·exact .refl _
theorem ir (w:World) (S:Addr) (ep:Nat) (es:Array (Int × Value)):(bS w S ep es).size=es.size:=by
 rw [<- Array.length_toList,(kC w S ep es).length_eq,Array.length_toList]
noncomputable def slotAt (w:World) (t:SetTable):Nat->Nat
 | 0=>0
 | i+1=>if byT w=true then 0 else t.place.getD i 0+1
noncomputable def mE (w:World) (S:Addr) (es:Array (Int × Value)) (ep:Nat) (t:SetTable) (i:Nat) (d:Option Addr) (sl:Array (Option Value)):Obj :=
 { cls:=.type "set_iterator",dict:=d,data:=.fields #[rawInt (slotAt w t i),rawInt i,.ref S,rawInt es.size,rawInt ep],slots:=sl }
section
variable {prog:Program} {w:World} {A:Around} {E:Value->Shared->Prop} {s:Shared} {I S:Addr} {o:Obj} {es:Array (Int × Value)} {ep:Nat} {t:SetTable}
structure Fix (w:World) (o:Obj) (es:Array (Int × Value)) (ep:Nat) (t:SetTable):Prop where
 data:o.data=.set es ep t
 good:Good t es
 plain:t.plain=true
 led:t.led=!byT w
 fit:es.size<=t.mask
theorem DR (g:Good t es) {i:Nat} (hi:i<=es.size) (hb:byT w=false):below t.place (slotAt w t i)=i:=by
 have hsp:=lP g.srt (slotAt w t i)
 cases i with
 | zero =>
  obtain ⟨h1,h2,h3⟩:=hsp
  rcases Nat.eq_zero_or_pos (below t.place (slotAt w t 0)) with z|z
  ·exact z
  ·have hlt:0 < t.place.size:=by omega
   exact absurd (h2 0 _ (Array.getElem?_eq_getElem hlt) z) (Nat.not_lt_zero _)
 | succ i =>
  have hlt:i < t.place.size:=by rw [g.len]; omega
  have hg:t.place[i]?=some t.place[i]:=Array.getElem?_eq_getElem hlt
  have e:slotAt w t (i+1)=t.place[i]+1:=by
   show (if byT w=true then 0 else t.place.getD i 0+1)=_
   rw [hb,if_neg Bool.false_ne_true,Array.getD_eq_getD_getElem?,hg]; rfl
  rw [e] at hsp ⊢
  obtain ⟨h1,h2,h3⟩:=hsp
  rcases Nat.lt_trichotomy (below t.place (t.place[i]+1)) (i+1) with z|z|z
  ·have:=h3 i _ hg (by omega); omega
  ·exact z
  ·have hlt2:i+1 < t.place.size:=by omega
   have hg2:t.place[i+1]?=some t.place[i+1]:=Array.getElem?_eq_getElem hlt2
   have a:=h2 (i+1) _ hg2 z
   have b:=g.srt i (i+1) _ _ hg hg2 (Nat.lt_succ_self i)
   omega
theorem p5 {i:Nat} {Q:Option (Value × Nat)->Shared->Prop} (ho:s.heap.get? S=some o) (X:Fix w o es ep t) (hi:i<=es.size)
  (q:Q (((bS w S ep es)[i]?).map fun e=>(e.2,slotAt w t (i+1))) s):wpAny (model prog w) A (setNext S (slotAt w t i) i ep) Q E s:=by
 have hf:=ff X.good X.fit
 unfold setNext setsByText
 refine wpAny_bind (wpAny_setState_of ho X.data hf (wpAny_bind (wpAny_bind (wpAny_askSetting (wpAny_pure ?_)))))
 dsimp only
 have hbt:(model prog w).w.params.followText "set-order" = byT w:=rfl
 cases hb:byT w with
 | true =>
  rw [hbt,hb]
  simp only [if_true,bne_self_eq_false,Bool.false_eq_true,if_false]
  unfold setWalk setsByText
  refine wpAny_bind (wpAny_bind (wpAny_setState_of ho X.data hf (wpAny_bind (wpAny_bind (wpAny_askSetting (wpAny_pure ?_))))))
  dsimp only
  rw [hbt,hb]
  simp only [if_true]
  refine wpAny_bind (wpAny_askSetting (wpAny_pure (wpAny_pure ?_)))
  have e:bS w S ep es=pickOrder (w.params.setOrder S ep) es:=by unfold bS; rw [hb]; rfl
  have e2:slotAt w t i=slotAt w t (i+1):=by cases i <;> (unfold slotAt; simp [hb])
  rw [e] at q
  rw [e2]
  exact q
 | false =>
  rw [hbt,hb]
  simp only [Bool.false_eq_true,if_false]
  rw [if_neg]
  rotate_left
  ·show ¬ ((!t.plain&&decide (es.size > 1))=true)
   rw [X.plain]; simp
  refine wpAny_bind (wpAny_of_eq (a:=()) (show (if (!t.led&&!es.isEmpty)=true then _ else pure ())=pure () by rw [X.led,hb]; rfl) (wpAny_pure ?_))
  rw [DR X.good hi hb]
  have e:bS w S ep es=es:=by unfold bS; rw [hb]; rfl
  rw [e] at q
  by_cases hlt:i < es.size
  ·have he:es[i]?=some es[i]:=Array.getElem?_eq_getElem hlt
   have hl2:i < t.place.size:=by rw [X.good.len]; exact hlt
   have hp:t.place[i]?=some t.place[i]:=Array.getElem?_eq_getElem hl2
   have e3:slotAt w t (i+1)=t.place[i]+1:=by
    show (if byT w=true then 0 else t.place.getD i 0+1)=_
    rw [hb,if_neg Bool.false_ne_true,Array.getD_eq_getD_getElem?,hp]; rfl
   rw [he,e3] at q
   rw [he,hp]
   exact q
  ·have he:es[i]?=none:=Array.getElem?_eq_none (by omega)
   rw [he] at q
   rw [he]
   exact q
end
end TB

namespace TB
open PySem PySem.SetTable
section
variable {prog:Program} {w:World} {A:Around} {E:Value->Shared->Prop} {s:Shared} {I S:Addr} {o:Obj} {es:Array (Int × Value)} {ep:Nat} {t:SetTable}
noncomputable def AtI (w:World) (S:Addr) (es:Array (Int × Value)) (ep:Nat) (t:SetTable) (h:Heap) (I:Addr) (i:Nat):Prop:=∃ d sl,h.get? I=some (mE w S es ep t i d sl)
theorem AtI.type {i:Nat} (x:AtI w S es ep t s.heap I i):s.TypeIs (.ref I) "set_iterator":=let ⟨_,_,e⟩:=x; ⟨_,e,rfl⟩
theorem Dg {i:Nat} {Q:Option Value->Shared->Prop} (x:AtI w S es ep t s.heap I i) (ho:s.heap.get? S=some o) (X:Fix w o es ep t) (hIS:S≠I) {e:Int × Value} (he:(bS w S ep es)[i]?=some e)
  (q:∀ h',AtI w S es ep t h' I (i+1)->Heap.SameBut I s.heap h'->Q (some e.2) { s with heap:=h' }):wpAny (model prog w) A (pyNext (.ref I)) Q E s:=by
 have hT:=x.type
 obtain ⟨d,sl,hi⟩:=x
 have hlt:i < es.size:=by rw [<- ir w S ep es]; exact (Array.getElem?_eq_some_iff.mp he).1
 unfold pyNext
 refine wpAny_bind (wpAny_attempt (wpAny_callSpecial?_slot (name:=Str.ofString "__next__") hT fL (wpAny_call_entry fL hT qv ?_ (nj _))))
 unfold Builtin.«set_iterator.__next__»
 refine wpAny_bind (m:=slotArgs "__next__" 0 _) (wpAny_of_eq (a:=(.ref I,[])) rfl ?_)
 refine wpAny_bind (wpAny_fieldsOf hi rfl ?_)
 dsimp only
 refine wpAny_bind (wpAny_setEntries_of ho X.data (ff X.good X.fit) ?_)
 rw [show (((es.size:Int)) != (es.size:Int))=false from bne_self_eq_false _]
 simp only [Bool.false_eq_true,if_false]
 rw [show rawInt (slotAt w t i)=Value.int (slotAt w t i) 0 from rfl]
 dsimp only
 rw [Int.toNat_natCast,Int.toNat_natCast,Int.toNat_natCast]
 refine wpAny_bind (p5 ho X (Nat.le_of_lt hlt) ?_)
 rw [he]
 dsimp only [Option.map]
 refine wpAny_bind (wpAny_setField hi rfl (by simp) ?_)
 have h1:=Heap.get?_update_self (h:=s.heap) (Obj.mapFields (·.setIfInBounds 0 (rawInt (slotAt w t (i+1))))) hi rfl
 refine wpAny_bind (wpAny_setField h1 rfl (by simp) (wpAny_pure ⟨e.2,rfl,wpAny_pure (q _ ⟨d,sl,?_⟩ ?_)⟩))
 ·rw [Heap.get?_update_self _ h1 rfl]
  rfl
 ·exact (Heap.SameBut.update s.heap I _).trans (Heap.SameBut.update _ I _)
theorem uJ {i:Nat} {Q:Option Value->Shared->Prop} (hh:A.handled=none) (x:AtI w S es ep t s.heap I i) (ho:s.heap.get? S=some o) (X:Fix w o es ep t) (hi0:i=es.size)
  (q:∀ h',Heap.ExtBut I s.heap h'->Q none { s with heap:=h' }):wpAny (model prog w) A (pyNext (.ref I)) Q E s:=by
 have hT:=x.type
 obtain ⟨d,sl,hi⟩:=x
 have he:(bS w S ep es)[i]?=none:=Array.getElem?_eq_none (by rw [ir]; omega)
 unfold pyNext
 refine wpAny_bind (wpAny_attempt (wpAny_callSpecial?_slot (name:=Str.ofString "__next__") hT fL (wpAny_call_entry fL hT qv ?_ (nj _))))
 unfold Builtin.«set_iterator.__next__»
 refine wpAny_bind (m:=slotArgs "__next__" 0 _) (wpAny_of_eq (a:=(.ref I,[])) rfl ?_)
 refine wpAny_bind (wpAny_fieldsOf hi rfl ?_)
 dsimp only
 refine wpAny_bind (wpAny_setEntries_of ho X.data (ff X.good X.fit) ?_)
 rw [show (((es.size:Int)) != (es.size:Int))=false from bne_self_eq_false _]
 simp only [Bool.false_eq_true,if_false]
 rw [show rawInt (slotAt w t i)=Value.int (slotAt w t i) 0 from rfl]
 dsimp only
 rw [Int.toNat_natCast,Int.toNat_natCast,Int.toNat_natCast]
 refine wpAny_bind (p5 ho X (Nat.le_of_eq hi0) ?_)
 rw [he]
 dsimp only [Option.map]
 refine wpAny_bind (wpAny_setField hi rfl (by simp) (wpAny_bind ?_)); simp only [newExc,newTuple]
 refine wpAny_bind (wpAny_newObj_type (wpAny_bind (m:=firstArgMember _ _) (wpAny_of_eq (a:=Value.none) (by first|rfl|(simp only [firstArgMember]; rfl)) (wpAny_newObj_type ?_ (by size_fits)))) (by size_fits)); simp only [raiseNew]
 refine wpAny_bind (wpAny_handled ?_); rw [show A.in1.handled=none from hh]
 refine wpAny_bind (wpAny_pure (wpAny_throw ?_))
 refine wpAny_bind (wpAny_isInstance (T:="StopIteration") (b:=true) ⟨_,Heap.get?_push_size _ rfl,rfl⟩ isSubtype_stop (wpAny_pure (q _ ?_)))
 exact ((Heap.SameBut.update s.heap I _).extBut.push _).push _
theorem Aq {i:Nat} {Q:Value->Shared->Prop} (x:AtI w S es ep t s.heap I i) (q:Q (.ref I) s):wpAny (model prog w) A (pyIter (.ref I)) Q E s :=
 wpAny_pyIter_slot x.type ou (wpAny_call_entry ou x.type B5 (show wpAny _ _ (ret (.ref I)) _ _ s from wpAny_pure ⟨_,rfl,"set_iterator",_,x.type,fL.lookup,q⟩) (t7 _))
theorem BG (hh:A.handled=none) (X:Fix w o es ep t) (hIS:S≠I) :
  Walks prog w A I [I,S] [I] es.size (fun i v=>∃ e,(bS w S ep es)[i]?=some e/\v=e.2) (fun i h=>AtI w S es ep t h I i/\h.get? S=some o) where
 sub:=fun b hb=>by rw [List.mem_singleton.mp hb]; exact List.mem_cons_self
 frame:=fun i h h' ⟨⟨d,sl,a⟩,b⟩ k=>⟨⟨d,sl,k I List.mem_cons_self _ a⟩,k S (List.mem_cons_of_mem _ List.mem_cons_self) _ b⟩
 item:=fun i s Q E hi ⟨a,b⟩ k=>by
  have hw:i < (bS w S ep es).size:=by rw [ir]; exact hi
  exact Dg a b X hIS (Array.getElem?_eq_getElem hw) fun h' x sb=>k _ h' s.toks ⟨_,Array.getElem?_eq_getElem hw,rfl⟩ ⟨x,(sb.2 S hIS).trans b⟩ fun c oc hc ec=>(sb.2 c fun z=>hc (by rw [z]; exact List.mem_cons_self)).trans ec
 done:=fun s Q E ⟨a,b⟩ k=>uJ hh a b X rfl fun h' eb=>k h' s.toks fun c oc hc ec=>eb c oc (fun z=>hc (by rw [z]; exact List.mem_cons_self)) ec
 self:=fun i s Q E ⟨a,b⟩ k=>Aq a k
theorem CH {Q:Value->Shared->Prop} (ho:s.heap.get? S=some o) (hex:o.ExactSet) (X:Fix w o es ep t)
  (q:∀ h',h'=s.heap.push (mE w S es ep t 0 none #[])->Q (.ref s.heap.objs.size) { s with heap:=h' }):wpAny (model prog w) A (pyIter (.ref S)) Q E s:=by
 have hT:s.TypeIs (.ref S) "set":=⟨o,ho,hex.1⟩
 have hf:=ff X.good X.fit
 refine wpAny_pyIter_slot hT F.slot_set_iter (wpAny_call_entry F.slot_set_iter hT Ej ?_ (F.args_set_iter_1 _))
 unfold Builtin.«frozenset.__iter__»
 refine wpAny_bind (m:=Builtin.Frozenset.slot0 "__iter__" _) (wpAny_of_eq (a:=S) rfl ?_)
 unfold Builtin.Frozenset.sizeOf
 refine wpAny_bind (wpAny_bind (wpAny_setEntries_of ho X.data hf (wpAny_pure ?_)))
 unfold setDrawn setsByText
 refine wpAny_bind (wpAny_bind (wpAny_setState_of ho X.data hf (wpAny_bind (wpAny_bind (wpAny_askSetting (wpAny_pure (wpAny_pure ?_)))))))
 dsimp only
 have hdr:∀ b:Bool,(b&&(!t.plain&&decide (es.size > 1)))=false:=fun b=>by rw [X.plain]; cases b <;> rfl
 rw [if_neg]
 rotate_left
 ·show ¬ ((!_&&(!t.plain&&decide (es.size > 1)))=true)
  rw [hdr]; exact Bool.false_ne_true
 refine wpAny_bind (wpAny_pure ?_)
 refine wpAny_bind (wpAny_setEpoch_of ho X.data hf ?_)
 refine wpAny_bind (wpAny_newObj_type (wpAny_pure ⟨_,rfl,"set_iterator",_,⟨_,Heap.get?_push_size _ rfl,rfl⟩,fL.lookup,?_⟩))
 exact q _ rfl
end
end TB

namespace TB
open PySem PySem.SetTable
theorem vo:splitId "set.__len__" = some ("set","__len__"):=by decide +kernel
section
variable {prog:Program} {w:World} {A:Around} {E:Value->Shared->Prop} {s:Shared} {S:Addr} {o:Obj} {es:Array (Int × Value)} {ep:Nat} {t:SetTable}
theorem AY {Q:Bool->Shared->Prop} (hT:s.TypeIs (.ref S) "set") (q:Q false s):wpAny (model prog w) A (Builtin.List.listLengthHint (.ref S)) Q E s:=by
 unfold Builtin.List.listLengthHint
 refine wpAny_bind (wpAny_specialOf hT F.slot_set_len.lookup ?_)
 dsimp only
 rw [vo]
 dsimp only
 refine wpAny_bind (wpAny_isInstance hT sub_set_self ?_)
 simp only [Bool.not_true,Bool.false_eq_true,if_false]
 rw [if_pos]
 rotate_left
 ·show (_:Bool)=true
  decide +kernel
 refine wpAny_bind (wpAny_typeOf hT ?_)
 exact wpAny_pure q
theorem A3 {Q:List Value->Shared->Prop} (hh:A.handled=none) (ho:s.heap.get? S=some o) (hex:o.ExactSet) (X:Fix w o es ep t)
  (q:∀ h' tk,s.heap.objs.size < h'.objs.size->(∀ b oc,b < s.heap.objs.size->s.heap.get? b=some oc->h'.get? b=some oc)->Q ((bS w S ep es).toList.map (·.2)) { s with heap:=h',toks:=tk }):wpAny (model prog w) A (collect (.ref S)) Q E s:=by
 have hSl:S < s.heap.objs.size:=Heap.lt_size ho
 unfold collect
 refine wpAny_bind (wpAny_runValue (codeAny_builtin F.entry_proto_collect ?_)); rw [Around.under_plainId F.plain_proto_collect _]
 refine wpAny_bind (show wpAny _ A.in1 (newList []) _ _ s from wpAny_newObj_type ?_)
 refine wpAny_pure ⟨plainId_quiet F.plain_list_iadd _,codeAny_builtin F.entry_list_iadd ?_⟩; rw [Around.under_plainId F.plain_list_iadd _]
 generalize hob:({ cls:=.type "list",data:=.seq ([]:List Value).toArray }:Obj)=ob
 have g1:(s.heap.push ob).get? S=some o:=Heap.get?_push_of_some _ ho
 have gL:(s.heap.push ob).get? s.heap.objs.size=some ob:=Heap.get?_push_size _ (by rw [<- hob]; rfl)
 have hT:Shared.TypeIs { s with heap:=s.heap.push ob } (.ref S) "set":=⟨o,g1,hex.1⟩
 show wpAny _ A.in1 (Builtin.List.listExtendWith (.ref s.heap.objs.size) (.ref S) (.ref s.heap.objs.size)) _ _ { s with heap:=s.heap.push ob }
 unfold Builtin.List.listExtendWith
 refine wpAny_bind (wpAny_typeOf hT ?_)
 have n1:Builtin.List.listSameRef (.ref s.heap.objs.size) (.ref S)=false:=by
  show (s.heap.objs.size==S)=false
  exact beq_false_of_ne (Nat.ne_of_gt hSl)
 rw [n1,show (Value.type "set"==Value.type "list")=false by decide,show (Value.type "set"==Value.type "tuple")=false by decide]
 simp only [Bool.or_false,Bool.false_eq_true,if_false]
 refine wpAny_bind (CH (s:={ s with heap:=s.heap.push ob }) g1 hex X fun h2 e2=>?_)
 have k2:∀ b oc,(s.heap.push ob).get? b=some oc->h2.get? b=some oc:=fun b oc e=>by rw [e2]; exact Heap.get?_push_of_some _ e
 refine wpAny_bind (wpAny_holding (AY (s:={ s with heap:=h2 }) ⟨o,k2 _ _ g1,hex.1⟩ ?_))
 rw [if_pos]
 rotate_left
 ·show (_:Bool)=true
  decide +kernel
 refine wpAny_bind (wpAny_rule ?_)
 have sz:(s.heap.push ob).objs.size=s.heap.objs.size+1:=Heap.size_push _ _
 have gI:h2.get? (s.heap.push ob).objs.size=some (mE w S es ep t 0 none #[]):=by rw [e2]; exact Heap.get?_push_size _ rfl
 have gL2:h2.get? s.heap.objs.size=some { cls:=.type "list",data:=.seq ([]:List Value).toArray }:=by rw [hob]; exact k2 _ _ gL
 refine wpAny_bind (show wpAny _ A.in1 (updateSeq s.heap.objs.size (·.push .none)>>=fun _=>updateSeq s.heap.objs.size (·.pop)) _ _ _ from ?_)
 refine wpAny_bind (wpAny_updateSeq gL2 rfl ?_)
 have gL3:=Heap.get?_update_self (Obj.mapSeq (·.push Value.none)) gL2 rfl
 refine wpAny_updateSeq gL3 rfl ?_
 have gL4:=Heap.get?_update_self (Obj.mapSeq (·.pop)) gL3 rfl
 have k4:∀ b oc,b≠s.heap.objs.size->h2.get? b=some oc->((h2.update s.heap.objs.size (Obj.mapSeq (·.push Value.none))).update s.heap.objs.size (Obj.mapSeq (·.pop))).get? b=some oc :=
  fun b oc hb e=>(Heap.get?_update_other _ _ (Ne.symm hb)).trans ((Heap.get?_update_other _ _ (Ne.symm hb)).trans e)
 generalize ((h2.update s.heap.objs.size (Obj.mapSeq (·.push Value.none))).update s.heap.objs.size (Obj.mapSeq (·.pop)))=h4 at gL4 k4
 have hSI:S≠(s.heap.push ob).objs.size:=by rw [sz]; exact Nat.ne_of_lt (Nat.lt_succ_of_lt hSl)
 have hh2:A.in1.in1.handled=none:=by simpa using hh
 have hh1:A.in1.handled=none:=by simpa using hh
 have hLf:s.heap.objs.size ∉ [(s.heap.push ob).objs.size,S]:=fun z=>by
  rcases List.mem_cons.mp z with z|z
  ·rw [sz] at z; exact absurd z (Nat.ne_of_lt (Nat.lt_succ_self _))
  ·exact absurd (List.mem_singleton.mp z) (Nat.ne_of_gt hSl)
 have hn:es.size<=sizeLine:=by rw [sizeLine_eq]; have:=X.fit; rcases X.good.msk with z|z <;> omega
 refine wpAny_pure ⟨plainId_quiet F.plain_extend_loop _,codeAny_extend_loopS (BG (I:=(s.heap.push ob).objs.size) hh1 X hSI).toS hn _ hLf _ es.size 0 _ _ _ rfl (Nat.zero_le _)
  ⟨⟨_,_,k4 _ _ (by rw [sz]; exact Nat.ne_of_gt (Nat.lt_succ_self _)) gI⟩,k4 S _ (Nat.ne_of_lt hSl) (k2 _ _ g1)⟩ gL4 (ItemsOf.nil _) fun z acc c hm hz hacc=>?_⟩
 obtain ⟨h',g',d',tk',os'⟩:=z
 obtain rfl:g'=s.gens:=hm.gens
 obtain rfl:d'=s.drawn:=hm.drawn
 obtain rfl:os'=s.os:=hm.os
 refine wpAny_bind (wpAny_load hz (wpAny_pure ?_))
 have hacc':acc.toList=(bS w S ep es).toList.map (·.2):=by
  refine List.ext_getElem? fun j=>?_
  rw [Array.getElem?_toList,List.getElem?_map,Array.getElem?_toList]
  by_cases hj:j < es.size
  ·have hj2:j < acc.size:=by rw [hacc.1]; exact hj
   have ha:acc[j]?=some acc[j]:=Array.getElem?_eq_getElem hj2
   obtain ⟨e,q1,q2⟩:=hacc.2 j _ ha
   rw [ha,q1,q2]; rfl
  ·rw [Array.getElem?_eq_none (by rw [hacc.1]; omega),Array.getElem?_eq_none (by rw [ir]; omega)]; rfl
 show Q acc.toList _
 rw [hacc']
 refine q h' tk' (Heap.lt_size hz) fun b oc hb e=>hm.heap b oc (fun z=>?_) (k4 b oc (Nat.ne_of_lt hb) (k2 _ _ (Heap.get?_push_of_some _ e)))
 rcases List.mem_cons.mp z with z|z
 ·exact absurd z (Nat.ne_of_lt hb)
 ·rw [List.mem_singleton,sz] at z; exact absurd z (Nat.ne_of_lt (Nat.lt_succ_of_lt hb))
end
end TB

namespace TB
open PySem PyProof.Rows
noncomputable def ay:List Int->List Int->Bool
 | [],[]=>false
 | [],_::_=>true
 | _::_,[]=>false
 | a::r,b::q=>if a=b then ay r q else decide (a < b)
section
variable {prog:Program} {w:World} {A:Around} {E:Value->Shared->Prop} {s:Shared}
theorem wB {k:Bool} {a b:Int} {t u:Tok} {Q:Bool->Shared->Prop} (q:Q (decide (a < b)) s):wpAny (model prog w) A (oneLt' k (.int a t) (.int b u)) Q E s:=by
 cases k with
 | true=>exact oneLt_int q
 | false =>
  rw [oneLt'_eq]
  simp only [Bool.false_eq_true,if_false]
  exact wpAny_bind (wpAny_lt_int (wpAny_truthy_bool q))
theorem DV (k:Bool) (x y:Value):keyLt' (tuples' k) x y=(do
  let xs <- Builtin.List.listItems x; let ys <- Builtin.List.listItems y
  for ((p,q),i) in (xs.toList.zip ys.toList).zipIdx do
   if !(<- eqBool p q) then return <- oneLt' (k&&i==0) p q
  return xs.size < ys.size):=rfl
theorem z_ {k:Bool} {ks js:List Int} {x y:Addr} {Q:Bool->Shared->Prop} (hx:TK prog w s.heap ks x) (hy:TK prog w s.heap js y) (q:Q (ay ks js) s):wpAny (model prog w) A (keyLt' (tuples' k) (.ref x) (.ref y)) Q E s:=by
 obtain ⟨ox,xs,nx,hox,_,hdx,hix⟩:=hx
 obtain ⟨oy,ys,ny,hoy,_,hdy,hiy⟩:=hy
 rw [DV]
 refine wpAny_bind (listItems_at hox hdx (wpAny_bind (listItems_at hoy hdy (wpAny_bind ?_))))
 refine wpAny_forIn_list _ (fun rest r z=>r.1=none/\z=s/\∃ ks' js' xs' ys' n,rest=(xs'.zip ys').zipIdx n/\ItemsAre (intKind prog w) ks' xs'/\ItemsAre (intKind prog w) js' ys'/\ay ks' js'=ay ks js/\decide (xs'.length < ys'.length)=decide (xs.size < ys.size)) _ ?_ ?_ _ _
  ⟨rfl,rfl,ks,js,xs.toList,ys.toList,0,rfl,hix,hiy,rfl,by rw [Array.length_toList,Array.length_toList]⟩
 ·rintro ⟨⟨u,v⟩,i⟩ rest r z ⟨hr,rfl,ks',js',xs',ys',n,hz,h1,h2,hl,hs⟩
  cases h1 with
  | nil=>simp at hz
  | @cons a u' ks2 xs2 ha h1 =>
   cases h2 with
   | nil=>simp at hz
   | @cons b v' js2 ys2 hb h2 =>
    simp only [List.zip_cons_cons,List.zipIdx_cons,List.cons.injEq,Prod.mk.injEq] at hz
    obtain ⟨⟨⟨rfl,rfl⟩,rfl⟩,rfl⟩:=hz
    refine wpAny_bind ((intKind prog w).eqBool ha hb ?_)
    obtain ⟨t,rfl⟩:=Value.isInt_shape ha
    obtain ⟨t',rfl⟩:=Value.isInt_shape hb
    by_cases e:a=b
    ·subst e
     rw [decide_eq_true rfl]
     simp only [Bool.not_true,Bool.false_eq_true,if_false]
     refine wpAny_pure ⟨rfl,rfl,ks2,js2,xs2,ys2,i+1,rfl,h1,h2,?_,?_⟩
     ·rw [<- hl,ay,if_pos rfl]
     ·rw [<- hs]; simp
    ·rw [decide_eq_false e]
     simp only [Bool.not_false,if_true]
     have e2:ay ks js=decide (a < b):=by rw [<- hl,ay,if_neg e]
     rw [e2] at q
     exact wpAny_bind (wB (wpAny_pure (wpAny_pure q)))
 ·rintro ⟨r1,r2⟩ z ⟨hr,rfl,ks',js',xs',ys',n,hz,h1,h2,hl,hs⟩
  have hr:r1=none:=hr
  subst hr
  have e:ay ks js=decide (xs.size < ys.size):=by
   rw [<- hl,<- hs]
   cases h1 with
   | nil=>cases h2 with
    | nil=>rfl
    | cons _ _=>rfl
   | cons _ _=>cases h2 with
    | nil=>rfl
    | cons _ _=>simp at hz
  rw [e] at q
  exact wpAny_pure q
theorem yG {ks:List Int} {c:Addr} {Q:Option Value->Shared->Prop} (hk:TK prog w s.heap ks c) (hne:ks≠[]) (q:∀ i t,Q (some (.int i t)) s):wpAny (model prog w) A (firstOfTuple' (.ref c)) Q E s:=by
 obtain ⟨o,items,n,ho,hc,hd,hi⟩:=hk
 show wpAny _ _ (typeOf (.ref c)>>=_) _ _ s
 refine wpAny_bind (wpAny_typeOf_ref ho ?_)
 rw [hc]
 rw [if_neg (by simp)]
 refine wpAny_bind (listItems_at ho hd (wpAny_pure ?_))
 cases hv:items.toList with
 | nil=>rw [hv] at hi; cases hi; exact absurd rfl hne
 | cons v r =>
  rw [hv] at hi
  cases hi with
  | @cons k _ _ _ h1 _ =>
   obtain ⟨t,rfl⟩:=Value.isInt_shape h1
   have e:items[0]?=some (Value.int k t):=by rw [<- Array.getElem?_toList,hv]; rfl
   rw [e]
   exact q _ _
theorem qz:∀ {vs:List Value} {Q:List (Option Value)->Shared->Prop},(∀ v∈vs,∃ ks c,v=.ref c/\TK prog w s.heap ks c/\ks≠[])->(∀ l:List (Int × Tok),l.length=vs.length->Q (l.map fun p=>some (.int p.1 p.2)) s) ->
  wpAny (model prog w) A (vs.mapM firstOfTuple') Q E s
 | [],Q,_,q=>by
  rw [List.mapM_nil]
  exact wpAny_pure (q [] rfl)
 | v::vs,Q,hv,q=>by
  obtain ⟨ks,c,rfl,hk,hne⟩:=hv v List.mem_cons_self
  rw [List.mapM_cons]
  refine wpAny_bind (yG hk hne fun i t=>wpAny_bind (qz (vs:=vs) (fun u hu=>hv u (List.mem_cons_of_mem _ hu)) fun l hl=>wpAny_pure ?_))
  exact q ((i,t)::l) (by rw [List.length_cons,List.length_cons,hl])
theorem r9:∀ l:List (Int × Tok),(l.map fun p=>Value.int p.1 p.2).mapM typeOf=(pure (l.map fun _=>Value.type "int"):Sem (List Value))
 | []=>by simp
 | p::l=>by
  rw [List.map_cons,List.mapM_cons,r9 l]
  show (pure (Value.type "int")>>=fun b=>pure _>>=fun bs=>pure (b::bs))=_
  simp
theorem D8 {vs:List Value} {Q:SortKind->Shared->Prop} (hne:vs≠[]) (hv:∀ v∈vs,∃ ks c,v=.ref c/\TK prog w s.heap ks c/\ks≠[]) (q:Q (tuples' true) s):wpAny (model prog w) A (keyKind' vs.toArray) Q E s:=by
 rw [keyKind'_eq,List.mapM_toArray]
 refine wpAny_bind ?_
 rw [map_eq_pure_bind]
 refine wpAny_bind (qz hv fun l hl=>wpAny_pure ?_)
 rw [if_pos (by simp)]
 refine wpAny_bind (wpAny_rule ?_)
 have e:((l.map fun p=>some (Value.int p.1 p.2)).toArray.filterMap id)=(l.map fun p=>Value.int p.1 p.2).toArray:=by simp
 rw [e,oneTypeOnly'_eq,List.mapM_toArray,r9]
 simp only [map_pure,pure_bind]
 obtain ⟨p,r,rfl⟩:∃ p r,l=p::r:=List.exists_cons_of_ne_nil fun z=>hne (List.length_eq_zero_iff.mp (by rw [<- hl,z]; rfl))
 have h0:(List.map (fun _=>Value.type "int") (p::r)).toArray[0]?=some (Value.type "int"):=rfl
 have ha:((List.map (fun _=>Value.type "int") (p::r)).toArray.all fun x=>x==Value.type "int")=true:=by
  rw [List.all_toArray,List.all_map,List.all_eq_true]; intro _ _; rfl
 rw [h0]
 simp only [ha,if_true,pure_bind]
 exact wpAny_pure q
end
end TB

namespace TB
open PySem PyProof.Rows
theorem lex_irrefl:∀ a,ay a a=false
 | []=>rfl
 | a::r=>by rw [ay,if_pos rfl,lex_irrefl r]
theorem lex_trans:∀ a b c,ay a b=true->ay b c=true->ay a c=true
 | [],[],c,h,_=>by cases h
 | [],_::_,[],_,h=>by cases h
 | [],_::_,_::_,_,_=>rfl
 | _::_,[],_,h,_=>by cases h
 | _::_,_::_,[],_,h=>by cases h
 | a::r,b::q,c::p,h1,h2=>by
  rw [ay] at h1 h2 ⊢
  by_cases e1:a=b
  ·subst e1
   rw [if_pos rfl] at h1
   by_cases e2:a=c
   ·subst e2; rw [if_pos rfl] at h2 ⊢; exact lex_trans r q p h1 h2
   ·rw [if_neg e2] at h2 ⊢; exact h2
  ·rw [if_neg e1] at h1
   have h1:=of_decide_eq_true h1
   by_cases e2:b=c
   ·subst e2; rw [if_neg e1]; exact decide_eq_true h1
   ·rw [if_neg e2] at h2
    have h2:=of_decide_eq_true h2
    rw [if_neg (by omega)]; exact decide_eq_true (by omega)
theorem i8:∀ a b,ay a b=false->ay b a=false->a=b
 | [],[],_,_=>rfl
 | [],_::_,h,_=>by cases h
 | _::_,[],_,h=>by cases h
 | a::r,b::q,h1,h2=>by
  rw [ay] at h1 h2
  by_cases e:a=b
  ·subst e; rw [if_pos rfl] at h1 h2; rw [i8 r q h1 h2]
  ·rw [if_neg e] at h1; rw [if_neg (Ne.symm e)] at h2
   have h1:=of_decide_eq_false h1
   have h2:=of_decide_eq_false h2
   omega
theorem vV (a b c:List Int) (h:ay a c=true):ay a b=true\/ay b c=true:=by
 cases h1:ay a b with
 | true=>exact .inl rfl
 | false =>
  cases h2:ay b a with
  | true=>exact .inr (lex_trans b a c h2 h)
  | false=>rw [<- i8 a b h1 h2]; exact .inr h
noncomputable def kT (key:Value->List Int):PyProof.Rows.KeyKind:={ α:=List Int,blt:=ay,irrefl:=lex_irrefl,trans:=lex_trans,negTrans:=vV,total:=i8,keyOf:=fun v=>some (key v),dflt:=[] }
noncomputable def at' (key:Value->List Int) (xs:Array Keyed) (i:Nat):List Int:=KK (kT key) xs i
theorem gG {key:Value->List Int} {xs:Array Keyed} {i:Nat} {p:Keyed} (h:xs[i]?=some p):at' key xs i=key p.1:=by unfold at' KK; rw [h]; rfl
structure Bas (key:Value->List Int) (a0:Array Keyed) (z:SortSt):Prop where
 perm:(arrOf z).Perm a0
 kind:kindOf z=tuples' true
 fail:failedOf z=none
 pend:pendingOf z=#[]
noncomputable def Diff (key:Value->List Int) (xs:Array Keyed):Prop:=(xs.toList.map fun p=>key p.1).Nodup
theorem Diff.perm {key:Value->List Int} {xs ys:Array Keyed} (p:xs.Perm ys) (d:Diff key ys):Diff key xs:=(((Array.perm_iff_toList_perm.mp p).map _).nodup_iff).mpr d
theorem Diff.ne {key:Value->List Int} {xs:Array Keyed} (d:Diff key xs) {i j:Nat} (hi:i < xs.size) (hj:j < xs.size) (hij:i≠j):at' key xs i≠at' key xs j:=by
 intro e
 have ei:xs[i]?=some xs[i]:=Array.getElem?_eq_getElem hi
 have ej:xs[j]?=some xs[j]:=Array.getElem?_eq_getElem hj
 rw [gG ei,gG ej] at e
 have hl:(xs.toList.map fun p=>key p.1).length=xs.size:=by rw [List.length_map,Array.length_toList]
 have gi:(xs.toList.map fun p=>key p.1)[i]'(by omega)=key xs[i].1:=by rw [List.getElem_map,Array.getElem_toList]
 have gj:(xs.toList.map fun p=>key p.1)[j]'(by omega)=key xs[j].1:=by rw [List.getElem_map,Array.getElem_toList]
 have:=List.pairwise_iff_getElem.mp d
 rcases Nat.lt_or_gt_of_ne hij with z|z
 ·exact this i j (by omega) (by omega) z (by rw [gi,gj]; exact e)
 ·exact this j i (by omega) (by omega) z (by rw [gi,gj]; exact e.symm)
theorem Diff.or {key:Value->List Int} {xs:Array Keyed} (d:Diff key xs) {i j:Nat} (hi:i < xs.size) (hj:j < xs.size) (hij:i≠j) (h:ay (at' key xs i) (at' key xs j)=false):ay (at' key xs j) (at' key xs i)=true:=by
 cases q:ay (at' key xs j) (at' key xs i) with
 | true=>rfl
 | false=>exact absurd (i8 _ _ h q) (d.ne hi hj hij)
noncomputable def Up (key:Value->List Int) (xs:Array Keyed) (n:Nat):Prop:=∀ i j,i < j->j < n->ay (at' key xs i) (at' key xs j)=true
noncomputable def Down (key:Value->List Int) (xs:Array Keyed) (n:Nat):Prop:=∀ i j,i < j->j < n->ay (at' key xs j) (at' key xs i)=true
theorem Up.more {key:Value->List Int} {xs:Array Keyed} {n:Nat} (u:Up key xs n) (hn:1<=n) (h:ay (at' key xs (n - 1)) (at' key xs n)=true):Up key xs (n+1):=fun i j hij hj=>by
 by_cases z:j < n
 ·exact u i j hij z
 ·obtain rfl:j=n:=by omega
  by_cases y:i=j - 1
  ·subst y; exact h
  ·exact lex_trans _ _ _ (u i (j - 1) (by omega) (by omega)) h
theorem Down.more {key:Value->List Int} {xs:Array Keyed} {n:Nat} (u:Down key xs n) (hn:1<=n) (h:ay (at' key xs n) (at' key xs (n - 1))=true):Down key xs (n+1):=fun i j hij hj=>by
 by_cases z:j < n
 ·exact u i j hij z
 ·obtain rfl:j=n:=by omega
  by_cases y:i=j - 1
  ·subst y; exact h
  ·exact lex_trans _ _ _ h (u i (j - 1) (by omega) (by omega))
section
variable {prog:Program} {w:World} {A:Around} {E:Value->Shared->Prop} {s:Shared} {a0:Array Keyed} {key:Value->List Int}
noncomputable def Cmp (prog:Program) (w:World) (A:Around) (s:Shared) (key:Value->List Int) (a0:Array Keyed):Prop:=∀ (E:Value->Shared->Prop) (x y:Keyed) (Q:Bool->Shared->Prop),x∈a0.toList->y∈a0.toList->Q (ay (key x.1) (key y.1)) s->wpAny (model prog w) A (keyLt' (tuples' true) x.1 y.1) Q E s
theorem iG {z:SortSt} {i j:Nat} {Q:Option Bool->SortSt->Prop} (C:Cmp prog w A s key a0) (B:Bas key a0 z) (hi:i < a0.size) (hj:j < a0.size) (q:Q (some (ay (at' key (arrOf z) i) (at' key (arrOf z) j))) z) :
  wpS (model prog w) A E s (ltAt' i j) Q z:=by
 have sz:=B.perm.size_eq
 have hi':i < (arrOf z).size:=by omega
 have hj':j < (arrOf z).size:=by omega
 have ei:(arrOf z)[i]?=some (arrOf z)[i]:=Array.getElem?_eq_getElem hi'
 have ej:(arrOf z)[j]?=some (arrOf z)[j]:=Array.getElem?_eq_getElem hj'
 have mem:∀ (k:Nat) (hk:k < (arrOf z).size),(arrOf z)[k]∈a0.toList:=fun k hk=>(Array.perm_iff_toList_perm.mp B.perm).mem_iff.mp (by simp)
 rw [gG ei,gG ej] at q
 rw [ltAt'_eq]
 refine wpS_bind (wpS_get (wpS_bind ?_)); rw [elem'_eq,ei]
 refine wpS_pure (wpS_bind ?_); rw [elem'_eq,ej]
 refine wpS_pure ?_; rw [lt'_eq]
 refine wpS_bind (wpS_get (wpS_bind ?_)); rw [B.kind]
 exact wpS_lift (wpAny_attempt (C _ _ _ _ (mem i hi') (mem j hj') ⟨rfl,wpS_pure q⟩))
theorem pU {z:SortSt} {a n:Nat} {Q:AscSt->SortSt->Prop} (C:Cmp prog w A s key a0) (B:Bas key a0 z) (D:Diff key a0) (hn:n<=a0.size) (ha:1<=a) (han:a<=n) (u:Up key (arrOf z) a)
  (q:∀ m,a<=m->m<=n->Up key (arrOf z) m->(m=n\/ay (at' key (arrOf z) m) (at' key (arrOf z) (m - 1))=true)->Q (none,m) z):wpS (model prog w) A E s (ascLoop a n) Q z:=by
 have sz:=B.perm.size_eq
 have D':=D.perm B.perm
 unfold ascLoop
 refine wpS_forRange (fun x c y=>y=z/\c=(none,x)/\Up key (arrOf z) x) (fun x c y h1 h2=>?_) (fun c y=>?_) ⟨rfl,rfl,u⟩
 ·rintro ⟨rfl,rfl,ux⟩
  refine wpS_bind (iG C B (by omega) (by omega) ?_)
  cases hb:ay (at' key (arrOf y) x) (at' key (arrOf y) (x - 1)) with
  | true=>exact wpS_pure (q x h1 (by omega) ux (.inr hb))
  | false=>exact wpS_pure ⟨rfl,rfl,ux.more (by omega) (D'.or (by omega) (by omega) (by omega) hb)⟩
 ·rintro ⟨rfl,rfl,ux⟩
  rw [show max a n=n by omega] at ux ⊢
  exact q n han (Nat.le_refl n) ux (.inl rfl)
theorem z8 {z:SortSt} {a n:Nat} {Q:DescSt->SortSt->Prop} (C:Cmp prog w A s key a0) (B:Bas key a0 z) (D:Diff key a0) (hn:n<=a0.size) (ha:1<=a) (han:a<=n) (u:Down key (arrOf z) a)
  (q:∀ m,a<=m->m<=n->Down key (arrOf z) m->Q (none,m,0) z):wpS (model prog w) A E s (descLoop a n) Q z:=by
 have sz:=B.perm.size_eq
 have D':=D.perm B.perm
 unfold descLoop
 refine wpS_forRange (fun x c y=>y=z/\c=(none,x,0)/\Down key (arrOf z) x) (fun x c y h1 h2=>?_) (fun c y=>?_) ⟨rfl,rfl,u⟩
 ·rintro ⟨rfl,rfl,ux⟩
  dsimp only
  refine wpS_bind (iG C B (by omega) (by omega) ?_)
  cases hb:ay (at' key (arrOf y) x) (at' key (arrOf y) (x - 1)) with
  | true=>exact wpS_pure ⟨rfl,rfl,ux.more (by omega) hb⟩
  | false =>
   refine wpS_bind (iG C B (by omega) (by omega) ?_)
   rw [D'.or (by omega) (by omega) (by omega) hb]
   exact wpS_pure (q x h1 (by omega) ux)
 ·rintro ⟨rfl,rfl,ux⟩
  rw [show max a n=n by omega] at ux ⊢
  exact q n han (Nat.le_refl n) ux
theorem Bas.put {z:SortSt} (B:Bas key a0 z) {xs:Array Keyed} (p:xs.Perm (arrOf z)):Bas key a0 (setArr z xs):=⟨p.trans B.perm,B.kind,B.fail,B.pend⟩
theorem wF {z:SortSt} {m n:Nat} {Q:Option Nat->SortSt->Prop} (C:Cmp prog w A s key a0) (B:Bas key a0 z) (D:Diff key a0) (hn:n<=a0.size) (hm:1<=m) (hmn:m<=n) (u:Down key (arrOf z) m)
  (q:∀ k y,Bas key a0 y->1<=k->k<=n->Up key (arrOf y) k->Q (some k) y):wpS (model prog w) A E s (tail3 m n) Q z:=by
 have sz:=B.perm.size_eq
 unfold tail3
 refine wpS_bind (wpS_reverse ?_)
 have B':Bas key a0 (setArr z (mirror (arrOf z) 0 m ((m - 0) / 2))):=B.put (mirror_perm _ _ _ _)
 have hz:m<=(arrOf z).size:=by omega
 refine wpS_bind (pU C B' D hn hm hmn (fun i j hij hj=>?_) fun k h1 h2 h3 _=>wpS_pure (q k _ B' (by omega) h2 h3))
 show ay (KK (kT key) (mirror (arrOf z) 0 m ((m - 0) / 2)) i) (KK (kT key) (mirror (arrOf z) 0 m ((m - 0) / 2)) j)=true
 rw [KK_mirror hz,KK_mirror hz,if_pos ⟨Nat.zero_le _,by omega⟩,if_pos ⟨Nat.zero_le _,hj⟩]
 exact u _ _ (by omega) (by omega)
theorem zI {z:SortSt} {n:Nat} {Q:Option Nat->SortSt->Prop} (C:Cmp prog w A s key a0) (B:Bas key a0 z) (D:Diff key a0) (hn:n<=a0.size) (h1:1<=n)
  (q:∀ k y,Bas key a0 y->1<=k->k<=n->Up key (arrOf y) k->Q (some k) y):wpS (model prog w) A E s (countRun' 0 n) Q z:=by
 rw [countRun0_eq]
 refine wpS_bind (pU C B D hn (Nat.le_refl 1) h1 (fun i j a b=>by omega) fun m hm1 hm2 um hor=>?_)
 dsimp only
 by_cases e:m=n
 ·rw [if_pos (by simpa using e)]; exact wpS_pure (q m z B hm1 hm2 um)
 rw [if_neg (by simpa using e)]
 have hlt:=hor.resolve_left e
 by_cases g:m > 1
 ·rw [if_pos g]
  refine wpS_bind (iG C B (by omega) (by omega) ?_)
  rw [um 0 (m - 1) (by omega) (by omega)]
  exact wpS_pure (q m z B hm1 hm2 um)
 ·rw [if_neg g]
  obtain rfl:m=1:=by omega
  unfold descPart
  refine wpS_bind (wpS_lift (wpAny_rule ⟨rfl,wpS_bind ?_⟩))
  refine z8 C B D hn (by decide) (by omega) (fun i j a b=>?_) fun k k1 k2 k3=>?_
  ·obtain rfl:i=0:=by omega
   obtain rfl:j=1:=by omega
   exact hlt
  ·show wpS _ _ _ _ (tail3 k n) Q z
   exact wF C B D hn (by omega) k2 k3 q
end
end TB

namespace TB
open PySem PyProof.Rows
section
variable {prog:Program} {w:World} {A:Around} {E:Value->Shared->Prop} {s:Shared} {a0:Array Keyed} {key:Value->List Int}
theorem C2 {z:SortSt} {k l:Nat} (hk:k < (arrOf z).size) (hl:l<=k) (u:Up key (arrOf z) k) (lo:∀ i,i < l->ay (at' key (arrOf z) i) (at' key (arrOf z) k)=true) (hi:∀ i,l<=i->i < k->ay (at' key (arrOf z) k) (at' key (arrOf z) i)=true) :
  Up key (bubble (arrOf z) k (k - l)) (k+1):=fun i j hij hj=>by
 show ay (KK (kT key) (bubble (arrOf z) k (k - l)) i) (KK (kT key) (bubble (arrOf z) k (k - l)) j)=true
 rw [KK_bubble hk (by omega),KK_bubble hk (by omega),show k - (k - l)=l by omega]
 have u:∀ i j,i < j->j < k->ay (KK (kT key) (arrOf z) i) (KK (kT key) (arrOf z) j)=true:=u
 have lo:∀ i,i < l->ay (KK (kT key) (arrOf z) i) (KK (kT key) (arrOf z) k)=true:=lo
 have hi:∀ i,l<=i->i < k->ay (KK (kT key) (arrOf z) k) (KK (kT key) (arrOf z) i)=true:=hi
 repeat' split
 all_goals first
  | (exfalso; omega)
  | exact lo _ (by omega)
  | exact hi _ (by omega) (by omega)
  | exact u _ _ (by omega) (by omega)
theorem E4 {z:SortSt} {n ok:Nat} {Q:Bool->SortSt->Prop} (C:Cmp prog w A s key a0) (B:Bas key a0 z) (D:Diff key a0) (hn:n<=a0.size) (hok:ok<=n) (u:Up key (arrOf z) ok)
  (q:∀ y,Bas key a0 y->Up key (arrOf y) n->Q true y):wpS (model prog w) A E s (binarySort' 0 n ok) Q z:=by
 rw [binarySort'_eq]; simp only [Nat.zero_add]
 refine wpS_bind (wpS_mono (wpS_forRange (fun x c y=>c=(none,())/\Bas key a0 y/\Up key (arrOf y) (min x n)) (Q:=fun c y=>c=(none,())/\Bas key a0 y/\Up key (arrOf y) n) (fun k c y h1 h2=>?_) (fun c y=>?_) ⟨rfl,B,fun i j a b=>?_⟩) fun c y=>?_)
 ·rintro ⟨rfl,By,uy⟩
  rw [show min k n=k by omega] at uy
  have sz:=By.perm.size_eq
  have Dy:=D.perm By.perm
  refine wpS_bind (wpS_mono (wpS_forRange (fun x c y'=>y'=y/\∃ l r,c=(none,l,r)/\l<=r/\r<=k/\r - l<=k - x/\(∀ i,i < l->ay (at' key (arrOf y) i) (at' key (arrOf y) k)=true)/\∀ i,r<=i->i < k->ay (at' key (arrOf y) k) (at' key (arrOf y) i)=true)
   (Q:=fun c y'=>y'=y/\∃ l r,c=(none,l,r)/\l<=k/\(∀ i,i < l->ay (at' key (arrOf y) i) (at' key (arrOf y) k)=true)/\∀ i,l<=i->i < k->ay (at' key (arrOf y) k) (at' key (arrOf y) i)=true) (fun x c y' g1 g2=>?_) (fun c y'=>?_) ⟨rfl,0,k,rfl,by omega,by omega,by omega,fun i a=>by omega,fun i a b=>by omega⟩) fun c y'=>?_)
  ·rintro ⟨rfl,l,r,rfl,e1,e2,e3,e4,e5⟩
   dsimp only
   by_cases g:l ≥ r
   ·rw [if_pos g]
    obtain rfl:l=r:=by omega
    exact wpS_pure ⟨rfl,l,l,rfl,e2,e4,e5⟩
   rw [if_neg g]
   refine wpS_bind (iG C By (by omega) (by omega) ?_)
   cases hb:ay (at' key (arrOf y') k) (at' key (arrOf y') ((l+r) / 2)) with
   | true =>
    refine wpS_pure ⟨rfl,l,(l+r) / 2,rfl,by omega,by omega,by omega,e4,fun i a b=>?_⟩
    by_cases e:i=(l+r) / 2
    ·subst e; exact hb
    ·exact lex_trans _ _ _ hb (uy _ _ (by omega) b)
   | false =>
    have hb':=Dy.or (by omega) (by omega) (by omega) hb
    refine wpS_pure ⟨rfl,(l+r) / 2+1,r,rfl,by omega,by omega,by omega,fun i a=>?_,e5⟩
    by_cases e:i=(l+r) / 2
    ·subst e; exact hb'
    ·exact lex_trans _ _ _ (uy i _ (by omega) (by omega)) hb'
  ·rintro ⟨rfl,l,r,rfl,e1,e2,e3,e4,e5⟩
   obtain rfl:l=r:=by omega
   exact ⟨rfl,l,l,rfl,e2,e4,e5⟩
  ·rintro ⟨rfl,l,r,rfl,e2,e4,e5⟩
   refine wpS_bind (show wpS _ _ _ _ (moveDown' k l) _ y' from ?_)
   rw [moveDown'_eq]
   refine wpS_modify (wpS_pure ⟨rfl,By.put (bubble_perm _ _ _),?_⟩)
   rw [show min (k+1) n=k+1 by omega]
   exact C2 (by omega) e2 uy e4 e5
 ·rintro ⟨rfl,By,uy⟩
  rw [show min (max (max ok 1) n) n=n by omega] at uy
  exact ⟨rfl,By,uy⟩
 ·exact u i j a (by omega)
 ·rintro ⟨rfl,By,uy⟩
  exact wpS_pure (q y By uy)
noncomputable def Fin' (key:Value->List Int) (a0:Array Keyed) (z:SortSt):Prop:=(arrOf z).Perm a0/\failedOf z=none/\pendingOf z=#[(0,a0.size,0)]/\Up key (arrOf z) a0.size
theorem Bas.fin {z:SortSt} (B:Bas key a0 z) (u:Up key (arrOf z) a0.size):Fin' key a0 (setPending z ((pendingOf z).push (0,a0.size,0))):=⟨B.perm,B.fail,by show (pendingOf z).push _=_; rw [B.pend]; rfl,u⟩
theorem AB {z:SortSt} {Q:Unit->SortSt->Prop} (C:Cmp prog w A s key a0) (B:Bas key a0 z) (D:Diff key a0) (h2:2<=a0.size) (h6:a0.size < 64) (q:∀ y,(arrOf y).Perm a0->failedOf y=none->Up key (arrOf y) a0.size->Q () y) :
  wpS (model prog w) A E s sortRuns' Q z:=by
 rw [sortRuns'_eq]
 refine wpS_bind (wpS_get ?_)
 dsimp only
 have hm:minRun' a0.size a0.size 0=a0.size:=by
  obtain ⟨f,e⟩:∃ f,a0.size=f+1:=⟨a0.size - 1,by omega⟩
  conv=>lhs; arg 1; rw [e]
  rw [minRun'_succ,if_pos h6]; rfl
 simp only [B.perm.size_eq,hm]
 refine wpS_bind (wpS_mono (wpS_forRange (fun x c y=>(x=0/\c=(none,0)/\Bas key a0 y)\/(1<=x/\c=(none,a0.size)/\Fin' key a0 y)) (Q:=fun c y=>c=(none,a0.size)/\Fin' key a0 y) (fun x c y _ h1=>?_) (fun c y=>?_) (.inl ⟨rfl,rfl,B⟩)) fun c y=>?_)
 ·have last:∀ y:SortSt,Bas key a0 y->Up key (arrOf y) a0.size->(pendingOf y).back?=none:=fun y By _=>by rw [By.pend]; rfl
  rintro (⟨rfl,rfl,By⟩|⟨_,rfl,Fy⟩)
  ·dsimp only
   rw [if_neg (by omega)]; simp only [Nat.sub_zero,Nat.min_self,Nat.zero_add]
   refine wpS_bind (zI C By D (Nat.le_refl _) (by omega) fun m y2 B2 m1 m2 u2=>?_)
   dsimp only
   by_cases e:m < a0.size
   ·rw [if_pos e]
    refine wpS_bind (wpS_lift (wpAny_rule ⟨rfl,wpS_bind (E4 C B2 D (Nat.le_refl _) m2 u2 fun y3 B3 u3=>?_)⟩))
    simp only [Bool.not_true,Bool.false_eq_true,if_false]
    refine wpS_bind (wpS_get ?_); rw [last y3 B3 u3]
    exact wpS_bind (wpS_modify (wpS_pure (.inr ⟨by omega,rfl,B3.fin u3⟩)))
   ·rw [if_neg e]
    obtain rfl:m=a0.size:=by omega
    refine wpS_bind (wpS_get ?_); rw [last y2 B2 u2]
    exact wpS_bind (wpS_modify (wpS_pure (.inr ⟨by omega,rfl,B2.fin u2⟩)))
  ·dsimp only
   rw [if_pos (Nat.le_refl _)]; exact wpS_pure ⟨rfl,Fy⟩
 ·rintro (⟨h,_,_⟩|⟨_,h,Fy⟩)
  ·omega
  ·exact ⟨h,Fy⟩
 ·rintro ⟨rfl,Fy⟩
  dsimp only
  refine wpS_bind (wpS_mono (wpS_forRange (fun _ c y'=>y'=y/\c=(none,())) (Q:=fun c y'=>y'=y/\c=(none,())) (fun x c y' _ _=>?_) (fun _ _ h=>h) ⟨rfl,rfl⟩) fun c y'=>?_)
  ·rintro ⟨rfl,rfl⟩
   refine wpS_bind (wpS_get ?_); rw [if_pos (by rw [Fy.2.2.1]; exact Nat.le_refl 1)]
   exact wpS_pure ⟨rfl,rfl⟩
  ·rintro ⟨rfl,rfl⟩
   exact wpS_pure (q _ Fy.1 Fy.2.1 Fy.2.2.2)
end
end TB

namespace TB
open PySem PyProof.Rows
section
variable {prog:Program} {w:World} {A:Around} {E:Value->Shared->Prop} {s:Shared} {key:Value->List Int}
theorem mS {vs:List Value} {p:Keyed} (h:p∈(pairsOf vs).toList):p.2=p.1/\p.1∈vs:=by
 rw [pairsOf_toList] at h
 obtain ⟨i,hi⟩:=List.getElem?_of_mem h
 rw [List.getElem?_zip_eq_some] at hi
 exact ⟨Option.some.inj (hi.2.symm.trans hi.1),List.mem_of_getElem? hi.1⟩
theorem zY (vs:List Value):(pairsOf vs).toList.map (·.2)=vs:=by
 rw [pairsOf_toList]
 exact List.map_snd_zip (Nat.le_refl _)
theorem AN (vs:List Value) (f:Value->List Int):(pairsOf vs).toList.map (fun p=>f p.1)=vs.map f:=by
 rw [pairsOf_toList,show (fun p:Value × Value=>f p.1)=f ∘ Prod.fst from rfl,<- List.map_map,List.map_fst_zip (Nat.le_refl _)]
theorem m6 {a:Addr} {vs:List Value} {n:Nat} {P:Fin->Shared->Prop} (ho:s.heap.get? a=some (seqObj "list" vs.toArray n)) (hv:∀ v∈vs,∃ c,v=.ref c/\TK prog w s.heap (key v) c/\key v≠[]) (hd:(vs.map key).Nodup) (h6:vs.length < 64)
  (q:∀ out:List Value,out.Perm vs->(out.map key).Pairwise (fun x y=>ay x y=true)->P (.done (.ret .none)) { s with heap:=sortedHeap s.heap a vs out.toArray }):wpAny (model prog w) A (Builtin.«list.sort» ⟨[.ref a],[]⟩) P E s:=by
 have hal:a < s.heap.objs.size:=Heap.lt_size ho
 rw [list_sort_plain]
 refine wpAny_bind (listItems_at ho rfl (wpAny_bind (listUpdate_at ho rfl ?_)))
 obtain ⟨e1,ho1⟩:∃ e1,(s.heap.update a (Obj.mapSeq fun _=>#[])).get? a=some (seqObj "list" #[] e1):=⟨_,get?_update_seq ho fun _=>#[]⟩
 refine wpAny_bind (seqEpoch_at ho1 rfl (wpAny_bind (wpAny_newTuple (wpAny_bind (wpAny_newList (wpAny_holding ?_))))))
 have ot:∀ b o,b≠a->s.heap.get? b=some o->(((s.heap.update a (Obj.mapSeq fun _=>#[])).push (seqObj "tuple" vs.toArray 0)).push (seqObj "list" #[] 0)).get? b=some o:=fun b o hb e =>
  Heap.get?_push_of_some _ (Heap.get?_push_of_some _ ((Heap.get?_update_other _ _ (Ne.symm hb)).trans e))
 have ho6:(((s.heap.update a (Obj.mapSeq fun _=>#[])).push (seqObj "tuple" vs.toArray 0)).push (seqObj "list" #[] 0)).get? a=some (seqObj "list" #[] e1):=Heap.get?_push_of_some _ (Heap.get?_push_of_some _ ho1)
 have fin:∀ y:SortSt,(arrOf y).Perm (pairsOf vs)->Up key (arrOf y) (pairsOf vs).size->P (.done (.ret .none)) { s with heap:=sortedHeap s.heap a vs ((arrOf y).map (·.2)) }:=fun y py uy=>by
  have pl:=Array.perm_iff_toList_perm.mp py
  have h1:=q ((arrOf y).map (·.2)).toList (by rw [Array.toList_map]; exact (pl.map _).trans (by rw [zY])) ?_
  ·rw [Array.toArray_toList] at h1; exact h1
  ·rw [Array.toList_map,List.map_map]
   refine List.pairwise_map.mpr (List.pairwise_iff_getElem.mpr fun i j hi hj hij=>?_)
   have hi2:i < (arrOf y).size:=by rw [Array.length_toList] at hi; exact hi
   have hj2:j < (arrOf y).size:=by rw [Array.length_toList] at hj; exact hj
   have m:∀ (k:Nat) (hk:k < (arrOf y).size),key (arrOf y)[k].2=at' key (arrOf y) k:=fun k hk=>by
    rw [gG (Array.getElem?_eq_getElem hk),(mS (pl.mem_iff.mp (by simp))).1]
   have:=uy i j hij (by rw [<- py.size_eq]; exact hj2)
   show ay (key (arrOf y).toList[i].2) (key (arrOf y).toList[j].2)=true
   rw [Array.getElem_toList,Array.getElem_toList,m i hi2,m j hj2]
   exact this
 dsimp only
 have lin:∀ y:SortSt,(arrOf y).Perm (pairsOf vs)->((arrOf y).map (·.2)).size<=sizeLine+1:=fun y py=>by rw [Array.size_map,py.size_eq,pairsOf_size,sizeLine_eq]; omega
 by_cases h2:vs.toArray.size < 2
 ·rw [if_pos h2,if_pos h2]
  refine wpAny_bind (wpAny_pure ?_); rw [StateT.run_pure]
  refine wpAny_bind (wpAny_pure ?_)
  dsimp only
  refine wpAny_bind (seqEpoch_at ho6 rfl (wpAny_bind (listUpdate_at ho6 rfl ?_ (hsz2:=lin (SortSt.mk' general' (pairsOf vs) #[] 7 none) (Array.Perm.refl _)))))
  simp only [bne_self_eq_false,Bool.false_eq_true,if_false]
  refine wpAny_pure (fin (SortSt.mk' general' (pairsOf vs) #[] 7 none) (Array.Perm.refl _) fun i j hij hj=>?_)
  rw [pairsOf_size] at hj; rw [List.size_toArray] at h2; omega
 ·rw [if_neg h2,if_neg h2]
  have hne:vs≠[]:=fun z=>h2 (by rw [z]; decide)
  have hv6:∀ v∈vs,∃ c,v=.ref c/\TK prog w (((s.heap.update a (Obj.mapSeq fun _=>#[])).push (seqObj "tuple" vs.toArray 0)).push (seqObj "list" #[] 0)) (key v) c/\key v≠[]:=fun v m=>by
   obtain ⟨c,e,x,y⟩:=hv v m
   refine ⟨c,e,?_,y⟩
   obtain ⟨oc,its,k,x1,x2,x3⟩:=x
   refine ⟨oc,its,k,ot c oc (fun z=>?_) x1,x2,x3⟩
   rw [z,ho] at x1
   cases x1
   exact absurd (Value.type.inj (show Value.type "list" = .type "tuple" from x2)) (by decide)
  refine wpAny_bind (D8 hne (fun v m=>let ⟨c,e,x,y⟩:=hv6 v m; ⟨_,c,e,x,y⟩) ?_)
  have C:Cmp prog w A { s with heap:=((s.heap.update a (Obj.mapSeq fun _=>#[])).push (seqObj "tuple" vs.toArray 0)).push (seqObj "list" #[] 0) } key (pairsOf vs):=fun E x y Q mx my qq=>by
   obtain ⟨c,ex,kx,_⟩:=hv6 _ (mS mx).2
   obtain ⟨d,ey,ky,_⟩:=hv6 _ (mS my).2
   generalize x.1=vx at ex kx qq ⊢
   generalize y.1=vy at ey ky qq ⊢
   subst ex; subst ey
   exact z_ kx ky qq
  have D:Diff key (pairsOf vs):=by unfold Diff; rw [AN]; exact hd
  refine wpAny_bind (wpAny_mono (AB (z:=SortSt.mk' (tuples' true) (pairsOf vs) #[] 7 none) (Q:=fun _ y=>(arrOf y).Perm (pairsOf vs)/\failedOf y=none/\Up key (arrOf y) (pairsOf vs).size) C ⟨Array.Perm.refl _,rfl,rfl,rfl⟩ D (by rw [pairsOf_size]; rw [List.size_toArray] at h2; omega) (by rw [pairsOf_size]; exact h6) fun y a1 a2 a3=>⟨a1,a2,a3⟩) ?_ fun _ _ e=>e)
  rintro ⟨⟨⟩,y⟩ z ⟨rfl,py,fy,uy⟩
  dsimp only
  refine wpAny_bind (seqEpoch_at ho6 rfl (wpAny_bind (listUpdate_at ho6 rfl ?_ (hsz2:=lin y py))))
  rw [fy]
  simp only [bne_self_eq_false,Bool.false_eq_true,if_false]
  exact wpAny_pure (fin y py uy)
end
end TB

namespace TB
open PySem PyProof.Rows
open Classical in
noncomputable def cB (prog:Program) (w:World) (h:Heap):Value->List Int
 | .ref c=>if x:∃ ks,TK prog w h ks c then x.choose else []
 | _=>[]
section
variable {prog:Program} {w:World} {A:Around} {E:Value->Shared->Prop} {s:Shared}
open Classical in
theorem gg {h:Heap} {ks:List Int} {c:Addr} (x:TK prog w h ks c):cB prog w h (.ref c)=ks:=by
 have hx:∃ ks,TK prog w h ks c:=⟨ks,x⟩
 show (if x:∃ ks,TK prog w h ks c then x.choose else [])=ks
 rw [dif_pos hx]
 exact IsTupleKey.inj hx.choose_spec x
theorem pF {h:Heap}:∀ {l:List (Int × Value)} {L:List (List Int)},Els prog w h l L->(l.map (·.2)).map (cB prog w h)=L
 | _,_,.nil=>rfl
 | _,_,.cons ⟨_,b,e,x⟩ r=>by
  rw [List.map_cons,List.map_cons,pF r,e,gg x]
theorem sD {h:Heap}:∀ {l:List (Int × Value)} {L:List (List Int)},Els prog w h l L->∀ v∈l.map (·.2),∃ c,v=.ref c/\TK prog w h (cB prog w h v) c/\cB prog w h v∈L
 | _,_,.nil,v,hv=>by cases hv
 | _,_,.cons ⟨_,b,e,x⟩ r,v,hv=>by
  rw [List.map_cons] at hv
  rcases List.mem_cons.mp hv with z|z
  ·rw [e] at z
   subst z
   exact ⟨b,rfl,by rw [gg x]; exact x,by rw [gg x]; exact List.mem_cons_self⟩
  ·obtain ⟨c,e1,e2,e3⟩:=sD r v z
   exact ⟨c,e1,e2,List.mem_cons_of_mem _ e3⟩
noncomputable def wK (prog:Program) (w:World) (h:Heap) (lim:Addr->Prop) (R:Addr) (ks:List (List Int)):Prop:=∃ out:List Value,∃ n,h.get? R=some (seqObj "list" out.toArray n)/\out.length=ks.length/\∀ (i:Nat) v k,out[i]?=some v->ks[i]?=some k->∃ c,v=.ref c/\c≠R/\lim c/\TK prog w h k c
theorem zV {S:Addr} {lim:Addr->Prop} {L:List (List Int)} {Q:Value->Shared->Prop} (hh:A.handled=none) (x:bN prog w lim s.heap S L) (hne:∀ ks∈L,ks≠[])
  (q:∀ h' tk R ks,s.heap.objs.size<=R->wK prog w h' lim R ks->ks.Pairwise (fun a b=>ay a b=true)->(∀ y,y∈ks ↔ y∈L)->(∀ b o,b < s.heap.objs.size->s.heap.get? b=some o->h'.get? b=some o)->Q (.ref R) { s with heap:=h',toks:=tk }) :
  wpAny (model prog w) A (call (.builtin "sorted") [.ref S]) Q E s:=by
 obtain ⟨o,es,ep,t,ho,hex,hd,g,⟨hp,hl⟩,hsz,hels,hnd,hlim⟩:=x
 have hfit:es.size<=t.mask:=by rcases g.msk with z|z <;> omega
 have X:Fix w o es ep t:=⟨hd,g,hp,hl,hfit⟩
 obtain ⟨L1,x1,y1⟩:=Els.perm (kC w S ep es) hels
 refine Calls.call_function_entry kind_sorted plain_sorted entry_sorted (args_sorted1 _) ?_
 unfold Builtin.«sorted»
 refine wpAny_bind (m:=checkCount "sorted" 1 1 _) (wpAny_pure ?_)
 refine wpAny_bind (A3 (by simpa using hh) ho hex X fun h1 tk hle k1=>?_)
 have hlen:(bS w S ep es).toList.length=es.size:=by rw [Array.length_toList,ir]
 have he18:es.size<=18:=by rcases g.msk with z|z <;> omega
 generalize hvs:(bS w S ep es).toList.map (·.2)=vs
 have hvl:vs.length=es.size:=by rw [<- hvs,List.length_map,hlen]
 have hkeys:vs.map (cB prog w s.heap)=L1:=by rw [<- hvs]; exact pF x1
 have hvals:∀ v∈vs,∃ c,v=.ref c/\TK prog w s.heap (cB prog w s.heap v) c/\cB prog w s.heap v∈L1:=by rw [<- hvs]; exact sD x1
 have up:∀ {ks:List Int} {c:Addr},TK prog w s.heap ks c->TK prog w h1 ks c/\c < s.heap.objs.size:=fun {ks c} z=>by
  obtain ⟨oc,its,m,z1,z2⟩:=z
  exact ⟨⟨oc,its,m,k1 c oc (Heap.lt_size z1) z1,z2⟩,Heap.lt_size z1⟩
 refine wpAny_bind (wpAny_newList ?_)
 have gR:(h1.push (seqObj "list" vs.toArray 0)).get? h1.objs.size=some (seqObj "list" vs.toArray 0):=Heap.get?_push_size _ rfl
 refine wpAny_bind (wpAny_holding (wpAny_call_entry slot_list_sort ⟨_,gR,rfl⟩ entry_list_sort (m6 (s:={ s with heap:=h1.push (seqObj "list" vs.toArray 0),toks:=tk }) (key:=cB prog w s.heap) gR (fun v m=>?_) (by rw [hkeys]; exact y1.nodup_iff.mpr hnd) (by omega) fun out po so=>⟨_,rfl,?_⟩) (args_list_sort _)))
 ·obtain ⟨c,e,z,m2⟩:=hvals v m
  refine ⟨c,e,ef (up z).1 fun oc e=>Heap.get?_push_of_some _ e,hne _ (y1.mem_iff.mp m2)⟩
 ·refine wpAny_pure ⟨_,rfl,?_⟩
  have old:∀ b o,b < s.heap.objs.size->s.heap.get? b=some o->(sortedHeap (h1.push (seqObj "list" vs.toArray 0)) h1.objs.size vs out.toArray).get? b=some o:=fun b o hb e =>
   (sortedHeap_old (Nat.ne_of_lt (Nat.lt_trans hb hle)) (by rw [Heap.size_push]; exact Nat.lt_succ_of_lt (Nat.lt_trans hb hle))).trans (Heap.get?_push_of_some _ (k1 b o hb e))
  obtain ⟨n,hn⟩:=sortedHeap_at (vs:=vs) (out:=out.toArray) gR
  refine q _ tk h1.objs.size (out.map (cB prog w s.heap)) (Nat.le_of_lt hle) ⟨out,n,hn,(List.length_map _).symm,fun i v k e1 e2=>?_⟩ so (fun y=>?_) old
  ·rw [List.getElem?_map,e1] at e2
   have mv:=po.mem_iff.mp (List.mem_of_getElem? e1)
   obtain ⟨c,e,z,_⟩:=hvals v mv
   have hc:lim c:=by
    rw [<- hvs] at mv
    obtain ⟨en,m1,m2⟩:=List.mem_map.mp mv
    exact hlim en ((kC w S ep es).mem_iff.mp m1) c (m2.trans e)
   have e3:cB prog w s.heap v=k:=Option.some.inj e2
   rw [e3] at z
   exact ⟨c,e,Nat.ne_of_lt (Nat.lt_trans (up z).2 hle),hc,ef z fun oc e=>old c oc (Heap.lt_size e) e⟩
  ·rw [(po.map _).mem_iff,hkeys]
   exact y1.mem_iff
end
end TB

namespace TB
open PySem PyProof.Rows
section
variable {prog:Program} {w:World} {A:Around} {E:Value->Shared->Prop} {s:Shared} {l:Addr} {vs:List Value} {T:String}
noncomputable def Sq2 (h:Heap) (l:Addr) (vs:List Value):Prop:=∃ T o n,(T = "list"\/T = "tuple")/\h.get? l=some o/\o.cls=.type T/\o.data=.seq vs.toArray n
noncomputable def f7 (h:Heap) (vs:List Value):Heap:=(h.push (seqObj "list" #[] 0)).update h.objs.size (Obj.mapSeq (·++vs.toArray))
noncomputable def jA (h:Heap) (vs:List Value):Heap:=(f7 h vs).push (seqObj "list" vs.toArray 0)
theorem gather {Q:List Value->Shared->Prop} (x:Sq2 s.heap l vs) (hz:vs.length<=sizeLine) (q:Q vs { s with heap:=f7 s.heap vs }):wpAny (model prog w) A (collect (.ref l)) Q E s:=by
 obtain ⟨T,o,n,hT,e1,e2,e3⟩:=x
 unfold collect
 apply wpAny_bind; apply wpAny_runValue; apply codeAny_builtin entry_proto_collect'
 show wpAny _ _ (do again (.builtin "list.__iadd__" ⟨[<- newList [],.ref l],[]⟩)) _ _ s
 apply wpAny_bind; refine wpAny_newList ?_ (Nat.zero_le _); apply wpAny_pure
 refine ⟨Code.quiet_builtin _ (by decide +kernel),?_⟩
 apply codeAny_builtin entry_list_iadd'
 show wpAny _ _ (Builtin.List.listExtendWith (.ref s.heap.objs.size) (.ref l) (.ref s.heap.objs.size)) _ _ { s with heap:=s.heap.push (seqObj "list" #[] 0) }
 unfold Builtin.List.listExtendWith
 have e4:(s.heap.push (seqObj "list" #[] 0)).get? l=some o:=Heap.get?_push_of_some _ e1
 have e5:(s.heap.push (seqObj "list" #[] 0)).get? s.heap.objs.size=some (seqObj "list" #[] 0):=Heap.get?_push_size _ rfl
 refine wpAny_bind (wpAny_typeOf (T:=T) ⟨o,e4,e2⟩ ?_)
 have e7:∀ b:Bool,(b||Value.type T==Value.type "list"||Value.type T==Value.type "tuple")=true:=fun b=>by
  rcases hT with rfl|rfl
  ·rw [show (Value.type "list"==Value.type "list")=true from rfl,Bool.or_true,Bool.true_or]
  ·rw [show (Value.type "tuple"==Value.type "tuple")=true from rfl,Bool.or_true]
 rw [if_pos (e7 _)]
 refine wpAny_bind (listItems_at e4 e3 ?_)
 refine wpAny_bind (listItems_at e5 rfl ?_)
 rw [if_neg (by simp)]
 refine wpAny_bind (listUpdate_at e5 rfl ?_ (Nat.zero_le _) ?_)
 ·refine wpAny_pure ?_
  show wpAny (model prog w) A (do
    let o <- load s.heap.objs.size
    match o.data with
    | .seq xs _=>pure xs.toList
    | _=>unsupported "internal:collect") Q E { s with heap:=f7 s.heap vs }
  refine wpAny_bind (wpAny_load (get?_update_seq e5 _) ?_)
  show wpAny _ _ (pure ((#[]:Array Value)++vs.toArray).toList) Q E _
  have e6:((#[]:Array Value)++vs.toArray).toList=vs:=by simp
  rw [e6]
  exact wpAny_pure q
 ·show (#[]++vs.toArray).size<=sizeLine+1
  simp only [Array.size_append,List.size_toArray,List.length_nil]
  omega
theorem pN (h:Heap) (vs:List Value):(f7 h vs).objs.size=h.objs.size+1:=by unfold f7; rw [Heap.size_update,size_push']
theorem kX (h:Heap) (vs:List Value):(jA h vs).get? (h.objs.size+1)=some (seqObj "list" vs.toArray 0):=by rw [<- pN h vs]; exact Heap.get?_push_size _ rfl
theorem Ai {h:Heap} {vs:List Value} {b:Addr} {o:Obj} (e:h.get? b=some o):(jA h vs).get? b=some o:=by
 have hb:b≠h.objs.size:=Nat.ne_of_lt (Heap.lt_size e)
 refine Heap.get?_push_of_some _ ?_
 unfold f7
 rw [Heap.get?_update_ne _ _ _ _ hb]
 exact Heap.get?_push_of_some _ e
theorem nD {R:List Value->Prop} {Q:Value->Shared->Prop} (x:Sq2 s.heap l vs) (hz:vs.length<=sizeLine)
  (k:∀ (A':Around) (E':Value->Shared->Prop) (P:Fin->Shared->Prop),(∀ out:List Value,R out->P (.done (.ret .none)) { s with heap:=sortedAll s.heap vs out.toArray })->wpAny (model prog w) A' (Builtin.«list.sort» ⟨[.ref (s.heap.objs.size+1)],[]⟩) P E' { s with heap:=jA s.heap vs })
  (q:∀ out:List Value,R out->Q (.ref (s.heap.objs.size+1)) { s with heap:=sortedAll s.heap vs out.toArray }):wpAny (model prog w) A (call (.builtin "sorted") [.ref l]) Q E s:=by
 apply Calls.call_function_entry kind_sorted plain_sorted entry_sorted (args_sorted1 _)
 unfold Builtin.«sorted»
 apply wpAny_bind (m:=checkCount "sorted" 1 1 _); apply wpAny_pure
 refine wpAny_bind (gather x hz ?_)
 apply wpAny_bind; refine wpAny_newList ?_ hz
 show wpAny _ _ _ _ _ { s with heap:=jA s.heap vs }
 rw [pN]
 refine wpAny_bind (wpAny_holding (wpAny_call_entry slot_list_sort ⟨_,kX _ _,rfl⟩ entry_list_sort (k _ _ _ fun out ro=>⟨_,rfl,?_⟩) (args_list_sort _)))
 exact wpAny_pure ⟨_,rfl,q out ro⟩
theorem yW {ns:List Int} {Q:Value->Shared->Prop} (x:Sq2 s.heap l vs) (hI:IntsAre vs ns) (h6:vs.length < 64)
  (q:∀ (out:List Value) (ns':List Int),IntsAre out ns'->ns'.Perm ns->ns'.Pairwise (·<=·)->Q (.ref (s.heap.objs.size+1)) { s with heap:=sortedAll s.heap vs out.toArray }):wpAny (model prog w) A (call (.builtin "sorted") [.ref l]) Q E s :=
 nD (R:=fun out=>∃ ns',IntsAre out ns'/\ns'.Perm ns/\ns'.Pairwise (·<=·)) x (by rw [sizeLine_eq]; omega)
  (fun A' E' P h=>list_sort_tree (kX _ _) hI h6 fun out ns' a1 a2 a3=>h out.toList ⟨ns',a1,a2,a3⟩)
  fun out ⟨ns',a1,a2,a3⟩=>q out ns' a1 a2 a3
theorem Fc {key:Value->List Int} {Q:Value->Shared->Prop} (x:Sq2 s.heap l vs) (hv:∀ v∈vs,∃ c,v=.ref c/\TK prog w s.heap (key v) c/\key v≠[]) (hd:(vs.map key).Nodup) (h6:vs.length < 64)
  (q:∀ out:List Value,out.Perm vs->(out.map key).Pairwise (fun x y=>ay x y=true)->Q (.ref (s.heap.objs.size+1)) { s with heap:=sortedAll s.heap vs out.toArray }):wpAny (model prog w) A (call (.builtin "sorted") [.ref l]) Q E s :=
 nD (R:=fun out=>out.Perm vs/\(out.map key).Pairwise (fun x y=>ay x y=true)) x (by rw [sizeLine_eq]; omega)
  (fun A' E' P h=>m6 (kX _ _) (fun v m=>let ⟨c,e,t,n⟩:=hv v m; ⟨c,e,ef t fun oc e=>Ai e,n⟩) hd h6 fun out a1 a2=>h out ⟨a1,a2⟩)
  fun out ⟨a1,a2⟩=>q out a1 a2
end
end TB

namespace EV
open PySem
inductive D where
 | non|bl (b:Bool)|int (i:Int)|str (x:Str)|tup (ds:List D)|loc (l:Nat)|exn (c:Str)|fro (ds:List D)
 deriving Inhabited
mutual
noncomputable def D.dec:(a b:D)->Decidable (a=b)
 | .non,b=>match b with|.non=>.isTrue rfl|.bl _|.int _|.str _|.tup _|.loc _|.exn _|.fro _=>.isFalse (fun h=>nomatch h)
 | .bl x,b=>match b with
  | .bl y=>if h:x=y then .isTrue (by rw [h]) else .isFalse (fun e=>h (D.bl.inj e))
  | .non|.int _|.str _|.tup _|.loc _|.exn _|.fro _=>.isFalse (fun h=>nomatch h)
 | .int x,b=>match b with
  | .int y=>if h:x=y then .isTrue (by rw [h]) else .isFalse (fun e=>h (D.int.inj e))
  | .non|.bl _|.str _|.tup _|.loc _|.exn _|.fro _=>.isFalse (fun h=>nomatch h)
 | .str x,b=>match b with
  | .str y=>if h:x=y then .isTrue (by rw [h]) else .isFalse (fun e=>h (D.str.inj e))
  | .non|.bl _|.int _|.tup _|.loc _|.exn _|.fro _=>.isFalse (fun h=>nomatch h)
 | .tup x,b=>match b with
  | .tup y=>match D.decs x y with
   | .isTrue h=>.isTrue (by rw [h])
   | .isFalse h=>.isFalse (fun e=>h (D.tup.inj e))
  | .non|.bl _|.int _|.str _|.loc _|.exn _|.fro _=>.isFalse (fun h=>nomatch h)
 | .loc x,b=>match b with
  | .loc y=>if h:x=y then .isTrue (by rw [h]) else .isFalse (fun e=>h (D.loc.inj e))
  | .non|.bl _|.int _|.str _|.tup _|.exn _|.fro _=>.isFalse (fun h=>nomatch h)
 | .exn x,b=>match b with
  | .exn y=>if h:x=y then .isTrue (by rw [h]) else .isFalse (fun e=>h (D.exn.inj e))
  | .non|.bl _|.int _|.str _|.tup _|.loc _|.fro _=>.isFalse (fun h=>nomatch h)
 | .fro x,b=>match b with
  | .fro y=>match D.decs x y with
   | .isTrue h=>.isTrue (by rw [h])
   | .isFalse h=>.isFalse (fun e=>h (D.fro.inj e))
  | .non|.bl _|.int _|.str _|.loc _|.exn _|.tup _=>.isFalse (fun h=>nomatch h)
noncomputable def D.decs:(a b:List D)->Decidable (a=b)
 | [],[]=>.isTrue rfl
 | [],_::_=>.isFalse (fun h=>nomatch h)
 | _::_,[]=>.isFalse (fun h=>nomatch h)
 | x::xs,y::ys=>match D.dec x y with
  | .isFalse h=>.isFalse (fun e=>h (List.cons.inj e).1)
  | .isTrue h=>match D.decs xs ys with
   | .isTrue h'=>.isTrue (by rw [h,h'])
   | .isFalse h'=>.isFalse (fun e=>h' (List.cons.inj e).2)
end
noncomputable instance:DecidableEq D:=D.dec
inductive Cell where
 | lst (ds:List D)|dct (kvs:List (List Int × D))
 deriving DecidableEq,Inhabited
abbrev aa:=List Cell
inductive Res (α:Type) where
 | ok (a:α) (S:aa)|exc (c:Str) (S:aa)|bad
noncomputable def M (α:Type):=aa->Res α
noncomputable instance:Monad M where
 pure a:=fun S=>.ok a S
 bind m f:=fun S=>match m S with
  | .ok a S'=>f a S'
  | .exc c S'=>.exc c S'
  | .bad=>.bad
theorem bX {α β:Type} (m:M α) (f:α->M β) (S:aa):(m>>=f) S=match m S with|.ok a S'=>f a S'|.exc c S'=>.exc c S'|.bad=>.bad:=rfl
theorem aj {α β:Type} {m:M α} {f:α->M β} {S S':aa} {a:α} (h:m S=.ok a S'):(m>>=f) S=f a S':=by rw [bX,h]
theorem cP {α β:Type} {m:M α} {f:α->M β} {S S':aa} {c:Str} (h:m S=.exc c S'):(m>>=f) S=.exc c S':=by rw [bX,h]
theorem aR {α β:Type} {m:M α} {f:α->M β} {S:aa} (h:m S=.bad):(m>>=f) S=.bad:=by rw [bX,h]
noncomputable def bad {α:Type}:M α:=fun _=>.bad
noncomputable def opt {α:Type}:Option α->M α
 | some a=>pure a
 | none=>bad
noncomputable def alloc (c:Cell):M D:=fun S=>.ok (.loc S.length) (S++[c])
noncomputable def quiet {α:Type} (m:M α):M α:=fun S=>match m S with
 | .ok a S'=>.ok a S'
 | _=>.bad
noncomputable def aS:Nat:=16777216
noncomputable def fits (n:Nat):Bool:=decide (n<=aS)
noncomputable def gH (n:Nat):Bool:=decide (n < aS)
noncomputable def guard {α:Type} (b:Bool) (m:M α):M α:=match b with
 | true=>m
 | false=>bad
noncomputable def listAt (S:aa) (l:Nat):Option (List D):=match S[l]? with
 | some (.lst ds)=>some ds
 | _=>none
noncomputable def items:D->M (List D)
 | .tup ds=>pure ds
 | .loc l=>fun S=>match listAt S l with
  | some ds=>.ok ds S
  | none=>.bad
 | .fro ds=>pure ds
 | _=>bad
noncomputable def c8:D->M (List D)
 | .loc l=>items (.loc l)
 | .fro ds=>pure ds
 | _=>bad
noncomputable def asL (S:aa):D->Option (List D)
 | .loc l=>listAt S l
 | .fro ds=>some ds
 | _=>none
noncomputable def i2b (b:Bool):Int:=if b then 1 else 0
noncomputable def bh:D->D->Option Bool
 | .non,.non=>some true
 | .non,.bl _|.non,.int _|.non,.str _|.bl _,.non|.int _,.non|.str _,.non=>some false
 | .bl a,.bl b=>some (a==b)
 | .bl a,.int b=>some (i2b a==b)
 | .int a,.bl b=>some (a==i2b b)
 | .int a,.int b=>some (a==b)
 | .str a,.str b=>some (a==b)
 | .bl _,.str _|.int _,.str _|.str _,.bl _|.str _,.int _=>some false
 | _,_=>none
noncomputable def bf (f:D->D->Option Bool):List D->List D->Option Bool
 | x::xs,y::ys=>match f x y,bf f xs ys with
  | some a,some b=>some (a&&b)
  | _,_=>none
 | _,_=>some true
inductive Kd where|flat|tup|list|other
noncomputable def D.kd:D->Kd
 | .non|.bl _|.int _|.str _=>.flat
 | .tup _=>.tup
 | .loc _|.fro _=>.list
 | .exn _=>.other
noncomputable def D.its:D->List D
 | .tup ds=>ds
 | _=>[]
noncomputable def eqD:Nat->aa->D->D->Option Bool
 | 0,_,_,_=>none
 | n+1,S,a,b=>match a.kd,b.kd with
  | .flat,.flat=>bh a b
  | .tup,.tup=>(bf (eqD n S) a.its b.its).map fun r=>r&&(a.its.length==b.its.length)
  | .list,.list=>match asL S a,asL S b with
   | some xs,some ys=>if xs.length=ys.length then bf (eqD n S) xs ys else some false
   | _,_=>none
  | .list,.tup=>(asL S a).map fun _=>false
  | .tup,.list=>(asL S b).map fun _=>false
  | .list,.flat=>(asL S a).map fun _=>false
  | .flat,.list=>(asL S b).map fun _=>false
  | .tup,.flat=>some false
  | .flat,.tup=>some false
  | _,_=>none
noncomputable def deep:Nat:=12
noncomputable def eqM (a b:D):M Bool:=fun S=>match eqD deep S a b with
 | some k=>.ok k S
 | none=>.bad
noncomputable def inL (S:aa) (x:D):List D->Option Bool
 | []=>some false
 | y::ys=>match eqD deep S y x,inL S x ys with
  | some a,some b=>some (a||b)
  | _,_=>none
inductive Op2 where|add|sub|mul|fdiv|mod|pow
inductive Cm where|lt|le|gt|ge|eq|ne|isin|cg
inductive Ty where|int|bool|str|list|tuple|dict|cls (c:Str)
 deriving DecidableEq
inductive Bi where|len|inst (t:Ty)|all|any|sum|min|max|sorted|sortedSet|list|tuple|int|abs|rangeT|rangeL
inductive Me where|append|extend
noncomputable def small (i:Int):Bool:=decide (-(2 ^ 64) < i/\i < 2 ^ 64)
noncomputable def bg (l:Nat) (f:List D->M D):M D:=fun S=>match S[l]? with
 | some (.lst ds)=>f ds S
 | _=>.bad
noncomputable def put (l:Nat) (c:Cell):M D:=fun S=>.ok .non (S.set l c)
noncomputable def wW (a b:Nat):M D:=bg a fun xs=>bg b fun ys=>guard (fits (xs.length+ys.length)) (alloc (.lst (xs++ys)))
noncomputable def Du:D->D->M D
 | .int i,.int j=>pure (.int (i+j))
 | .tup xs,.tup ys=>guard (fits (xs.length+ys.length)) (pure (.tup (xs++ys)))
 | .str x,.str y=>guard (fits (x.length+y.length)) (pure (.str (x++y)))
 | .loc a,.loc b=>wW a b
 | _,_=>bad
noncomputable def Ew:D->D->M D
 | .int i,.int j=>pure (.int (i - j))
 | _,_=>bad
noncomputable def vn (l:Nat) (j:Int):M D:=bg l fun xs=>guard (decide (-(2 ^ 63)<=j)&&decide (j < 2 ^ 63)&&fits (xs.length * j.toNat)) (alloc (.lst (List.replicate j.toNat xs).flatten))
noncomputable def uO:D->D->M D
 | .int i,.int j=>guard (small i||small j) (pure (.int (i * j)))
 | .tup xs,.int j=>guard (decide (-(2 ^ 63)<=j)&&decide (j < 2 ^ 63)&&fits (xs.length * j.toNat)) (pure (.tup (List.replicate j.toNat xs).flatten))
 | .loc l,.int j=>vn l j
 | _,_=>bad
noncomputable def AZ:D->D->M D
 | .int i,.int j=>guard (decide (0 < j)&&decide (j < 1073741824)) (pure (.int (i / j)))
 | _,_=>bad
noncomputable def ve:D->D->M D
 | .int i,.int j=>guard (decide (0 < j)) (pure (.int (i % j)))
 | _,_=>bad
noncomputable def v_:D->D->M D
 | .int i,.int j=>guard (decide (0<=j)&&decide (j<=1000)&&decide (i.natAbs < 2 ^ 64)) (pure (.int (i ^ j.toNat)))
 | _,_=>bad
noncomputable def opD:Op2->D->D->M D
 | .add=>Du
 | .sub=>Ew
 | .mul=>uO
 | .fdiv=>AZ
 | .mod=>ve
 | .pow=>v_
noncomputable def fU (p:Int->Int->Bool):D->D->M D
 | .int i,.int j=>pure (.bl (p i j))
 | _,_=>bad
noncomputable def inA (neg:Bool) (a:D) (ys:List D):M D:=fun S=>match inL S a ys with
 | some k=>.ok (.bl (k != neg)) S
 | none=>.bad
noncomputable def inM (neg:Bool) (a b:D):M D:=do
 let ys <- items b
 inA neg a ys
noncomputable def ee:D->D->Bool
 | .bl _,.int _=>false
 | .int _,.bl _=>false
 | .tup _,.str _=>true
 | a,b=>match a.kd,b.kd with
  | .flat,.flat=>true
  | .tup,.tup=>true
  | .list,.list=>true
  | _,_=>false
noncomputable def cmD:Cm->D->D->M D
 | .lt=>fU fun i j=>decide (i < j)
 | .le=>fU fun i j=>decide (i<=j)
 | .gt=>fU fun i j=>decide (j < i)
 | .ge=>fU fun i j=>decide (j<=i)
 | .eq=>fun a b=>do pure (.bl (<- eqM a b))
 | .ne=>fun a b=>guard (ee a b) (do pure (.bl (!(<- eqM a b))))
 | .isin=>inM false
 | .cg=>inM true
noncomputable def truth:D->M Bool
 | .bl b=>pure b
 | .non=>pure false
 | .int i=>pure (i != 0)
 | .tup ds=>pure (!ds.isEmpty)
 | .loc l=>do
  let xs <- items (.loc l)
  pure (!xs.isEmpty)
 | .fro ds=>pure (!ds.isEmpty)
 | _=>bad
noncomputable def ixN (n:Nat) (i:Int):Option Nat:=if 0<=i then (if i < n then some i.toNat else none) else if -(n:Int)<=i then some (i+n).toNat else none
noncomputable def atI (xs:List D) (i:Int):Option D:=(ixN xs.length i).bind fun j=>xs[j]?
noncomputable def ixD (a i:D):M D:=match i with
 | .int j=>do
  let xs <- items a
  opt (atI xs j)
 | _=>bad
noncomputable def mW:D->D->D->M D
 | .loc l,.int k,d=>bg l fun xs=>match ixN xs.length k with
  | some j=>put l (.lst (xs.set j d))
  | none=>bad
 | _,_,_=>bad
noncomputable def sIx (n d:Nat):Option Int->Nat
 | none=>d
 | some v=>if v < 0 then (v+(n:Int)).toNat else min v.toNat n
noncomputable def cut (xs:List D) (lo hi:Option Int):List D:=(xs.drop (sIx xs.length 0 lo)).take (sIx xs.length xs.length hi - sIx xs.length 0 lo)
noncomputable def slD (a:D) (lo hi:Option Int):M D:=match a with
 | .tup xs=>pure (.tup (cut xs lo hi))
 | .loc l=>do
  let xs <- items (.loc l)
  alloc (.lst (cut xs lo hi))
 | .fro xs=>alloc (.lst (cut xs lo hi))
 | _=>bad
noncomputable def allInts:List D->Option (List Int)
 | []=>some []
 | .int i::r=>(allInts r).map (i :: ·)
 | _=>none
noncomputable def dc:List D->Option (List Bool)
 | []=>some []
 | .bl i::r=>(dc r).map (i :: ·)
 | _=>none
noncomputable def ins (i:Int):List Int->List Int
 | []=>[i]
 | j::r=>if i<=j then i::j::r else j::ins i r
noncomputable def f9:List Int->List Int
 | []=>[]
 | i::r=>ins i (f9 r)
abbrev Sub:=Str->Str->Bool
noncomputable def cC (sub:Sub) (S:aa):D->Ty->Option Bool
 | .non,t=>match t with|.cls _=>none|_=>some false
 | .bl _,t=>match t with|.cls _=>none|.int=>some true|.bool=>some true|_=>some false
 | .int _,t=>match t with|.cls _=>none|.int=>some true|_=>some false
 | .str _,t=>match t with|.cls _=>none|.str=>some true|_=>some false
 | .tup _,t=>match t with|.cls _=>none|.tuple=>some true|_=>some false
 | .loc l,t=>match S[l]?,t with
  | _,.cls _=>none
  | some (.lst _),.list=>some true
  | some (.lst _),_=>some false
  | some (.dct _),_=>none
  | none,_=>none
 | .fro _,t=>match t with|.cls _=>none|.list=>some true|_=>some false
 | .exn c,t=>match t with|.cls d=>some (sub c d)|_=>none
noncomputable def lexLe:List Int->List Int->Bool
 | [],_=>true
 | _::_,[]=>false
 | a::r,b::q=>if a < b then true else if a=b then lexLe r q else false
noncomputable def cQ (t:List Int):List (List Int)->List (List Int)
 | []=>[t]
 | u::r=>if t=u then u::r else if lexLe t u then t::u::r else u::cQ t r
noncomputable def aP:List (List Int)->List (List Int)
 | []=>[]
 | t::r=>cQ t (aP r)
noncomputable def tups:List D->Option (List (List Int))
 | []=>some []
 | .tup ds::r=>match allInts ds,tups r with
  | some t,some q=>some (t::q)
  | _,_=>none
 | _=>none
noncomputable def rng (lo hi step:Int):List Int :=
 if 0 < step then (List.range ((hi - lo+step - 1) / step).toNat).map fun (k:Nat)=>lo+k * step
 else if step < 0 then (List.range ((lo - hi - step - 1) / (-step)).toNat).map fun (k:Nat)=>lo+k * step
 else []
noncomputable def near (i:Int):Bool:=decide (-(2 ^ 62)<=i/\i < 2 ^ 62)
noncomputable def bO:List D->Option (List Int)
 | [.int j]=>if near j then some (rng 0 j 1) else none
 | [.int i,.int j]=>if near i&&near j then some (rng i j 1) else none
 | [.int i,.int j,.int k]=>if near i&&near j&&decide (k=-1) then some (rng i j k) else none
 | _=>none
noncomputable def Am:List Int->M D
 | []=>bad
 | i::r=>pure (.int (r.foldl min i))
noncomputable def xm:List Int->M D
 | []=>bad
 | i::r=>pure (.int (r.foldl max i))
noncomputable def min2:D->D->M D
 | .int i,.int j=>pure (.int (if j < i then j else i))
 | _,_=>bad
noncomputable def max2:D->D->M D
 | .int i,.int j=>pure (.int (if j > i then j else i))
 | _,_=>bad
noncomputable def toInt:D->M D
 | .int i=>pure (.int i)
 | .bl b=>pure (.int (i2b b))
 | _=>bad
noncomputable def yI:D->M D
 | .int i=>pure (.int (if i < 0 then -i else i))
 | _=>bad
noncomputable def gM (sub:Sub) (t:Ty) (a:D):M D:=fun S=>match cC sub S a t with
 | some k=>.ok (.bl k) S
 | none=>.bad
noncomputable def F3:D->M D
 | .tup ds=>pure (.tup ds)
 | a=>do pure (.tup (<- items a))
noncomputable def j9:Option (List (List Int))->M D
 | some ts=>guard (decide (ts.length < 64)&&decide ts.Nodup&&ts.all fun t=>!t.isEmpty) (alloc (.lst ((aP ts).map fun t=>.tup (t.map .int))))
 | none=>bad
noncomputable def Fi (r:M D):Option (List Int)->M D
 | some is=>guard (decide (is.length < 64)) (alloc (.lst ((f9 is).map .int)))
 | none=>r
noncomputable def iW (ds:List D):M D:=Fi (j9 (tups ds)) (allInts ds)
noncomputable def bi1 (sub:Sub):Bi->D->M D
 | .len,a=>do
  let ds <- items a
  pure (.int ds.length)
 | .inst t,a=>gM sub t a
 | .all,a=>do
  let ds <- items a
  let bs <- opt (dc ds)
  pure (.bl (bs.all id))
 | .any,a=>do
  let ds <- items a
  let bs <- opt (dc ds)
  pure (.bl (bs.any id))
 | .sum,a=>do
  let ds <- items a
  let is <- opt (allInts ds)
  pure (.int is.sum)
 | .min,a=>do
  let ds <- items a
  let is <- opt (allInts ds)
  Am is
 | .max,a=>do
  let ds <- items a
  let is <- opt (allInts ds)
  xm is
 | .sorted,a=>do
  let ds <- items a
  iW ds
 | .sortedSet,a=>do
  let ds <- c8 a
  let ts <- opt (tups ds)
  guard (decide (ts.length<=18)&&ts.all fun t=>!t.isEmpty) (alloc (.lst ((aP ts).map fun t=>.tup (t.map .int))))
 | .list,a=>do
  let ds <- items a
  alloc (.lst ds)
 | .tuple,a=>do
  let ds <- items a
  pure (.tup ds)
 | .int,a=>toInt a
 | .abs,a=>yI a
 | .rangeT,_=>bad
 | .rangeL,_=>bad
noncomputable def bi2:Bi->D->D->M D
 | .min=>min2
 | .max=>max2
 | _=>fun _ _=>bad
noncomputable def biR:Bi->List D->M D
 | .rangeT,as=>do
  let is <- opt (bO as)
  guard (fits is.length) (pure (.tup (is.map .int)))
 | .rangeL,as=>do
  let is <- opt (bO as)
  guard (fits is.length) (alloc (.lst (is.map .int)))
 | _,_=>bad
noncomputable def Bi.isR:Bi->Bool
 | .rangeT=>true
 | .rangeL=>true
 | _=>false
noncomputable def biD (sub:Sub) (b:Bi) (as:List D):M D:=match b.isR with
 | true=>biR b as
 | false=>match as with
  | [a]=>bi1 sub b a
  | [a,c]=>bi2 b a c
  | _=>bad
noncomputable def Ed:D->D->M D
 | .loc l,d=>bg l fun ds=>guard (gH ds.length) (put l (.lst (ds++[d])))
 | _,_=>bad
noncomputable def Dn:D->D->M D
 | .loc l,.loc k=>bg l fun ds=>bg k fun es=>guard (fits (ds.length+es.length)) (put l (.lst (ds++es)))
 | _,_=>bad
noncomputable def meD (m:Me) (o:D) (as:List D):M D:=match as with
 | [d]=>match m with
  | .append=>Ed o d
  | .extend=>Dn o d
 | _=>bad
inductive Tg where
 | one (i:Nat)|many (is:List Nat)
abbrev Sg:=List (Option D)
noncomputable def Tg.has:Tg->Nat->Bool
 | .one i,j=>i==j
 | .many is,j=>is.contains j
noncomputable def bT:List Nat->List D->Sg->Sg
 | i::is,d::ds,σ=>bT is ds (σ.set i (some d))
 | _,_,σ=>σ
noncomputable def aJ:Tg->D->Sg->M Sg
 | .one i,d,σ=>pure (σ.set i (some d))
 | .many is,.tup ds,σ=>guard (decide (ds.length=is.length)) (pure (bT is ds σ))
 | _,_,_=>bad
inductive E where
 | v (i:Nat)|c (d:D)|bin (op:Op2) (a b:E)|cmp (op:Cm) (a b:E)|chn (o o':Cm) (a b c:E)|and (a b:E)|or (a b:E)|not (a:E)|neg (a:E)|isN (a:E)|notN (a:E)|ite (c a b:E)
 | nl|cs (a r:E)|tup (es:E)|lst (es:E)|ix (a i:E)|sl (a lo hi:E)|call (f:Str) (es:E)|bi (b:Bi) (es:E)|me (m:Me) (o es:E)
 | iSeq (a:E)|iEnum (a:E)|iRng (es:E)|iZip (es:E)|comp (k:Nat) (elt:E) (t:Tg) (it ife:E)|dget (o es:E)|dnew
structure Src where
 its:List D
 l:Option Nat
 raw:List D
noncomputable def aE (s:Src):M Unit:=match s.l with
 | none=>pure ()
 | some l=>fun S=>match listAt S l with
  | some ds=>guard (decide (ds=s.raw)) (pure ()) S
  | none=>.bad
noncomputable def srcOf:D->M Src
 | .tup ds=>pure ⟨ds,none,ds⟩
 | .loc l=>do
  let ds <- items (.loc l)
  pure ⟨ds,some l,ds⟩
 | .fro ds=>pure ⟨ds,none,ds⟩
 | _=>bad
noncomputable def n8:List D->List D->List D
 | x::r,y::q=>.tup [x,y]::n8 r q
 | _,_=>[]
noncomputable def yT:List D->M Src
 | [.tup xs,.tup ys]=>pure ⟨n8 xs ys,none,[]⟩
 | _=>bad
noncomputable def num (k:Nat):List D->List D
 | []=>[]
 | d::r=>.tup [.int k,d]::num (k+1) r
noncomputable def bx (s:Src) (f:D->M (Option D)):List D->M (List D)
 | []=>do
  aE s
  pure []
 | d::ds=>do
  aE s
  let y <- f d
  let ys <- bx s f ds
  pure (match y with|some y=>y::ys|none=>ys)
noncomputable def fF:D->M (Option Int)
 | .int i=>pure (some i)
 | _=>bad
noncomputable def D.dG (S:aa):D->Bool
 | .loc l=>match S[l]? with|some (.lst _)=>true|_=>false
 | _=>false
noncomputable def jF {α:Type} (x:D) (m:M α):M α:=fun S=>guard (x.dG S) m S
noncomputable def uG (kvs:List (List Int × D)) (k:List Int):Option D:=(kvs.find? fun kv=>decide (kv.1=k)).map (·.2)
noncomputable def CJ (kvs:List (List Int × D)) (k:List Int) (d:D):List (List Int × D) :=
 if (kvs.any fun kv=>decide (kv.1=k))=true then kvs.map (fun kv=>if kv.1=k then (kv.1,d) else kv) else kvs++[(k,d)]
noncomputable def qc (l:Nat) (f:List (List Int × D)->M D):M D:=fun S=>match S[l]? with
 | some (.dct kvs)=>f kvs S
 | _=>.bad
noncomputable def DB (a:D) (ds:List D):M D:=match a with
 | .loc l=>do
  let k <- opt (allInts ds)
  qc l fun kvs=>opt (uG kvs k)
 | _=>bad
noncomputable def tU (a:D) (ds:List D) (d:D):M D:=match a with
 | .loc l=>do
  let k <- opt (allInts ds)
  qc l fun kvs=>guard (gH kvs.length) (put l (.dct (CJ kvs k d)))
 | _=>bad
noncomputable def bq (σ:Sg) (i:Nat):M D:=match σ[i]? with
 | some (some d)=>pure d
 | _=>bad
noncomputable def E.aX:E->Bool
 | .nl=>true
 | _=>false
section
variable (sub:Sub) (cf:Str->List D->M D)
mutual
noncomputable def ev:E->Sg->M D
 | .v i,σ=>bq σ i
 | .c d,_=>pure d
 | .bin op a b,σ=>do
  let x <- ev a σ
  let y <- ev b σ
  opD op x y
 | .cmp op a b,σ=>do
  let x <- ev a σ
  let y <- ev b σ
  cmD op x y
 | .chn o o' a b c,σ=>do
  let x <- ev a σ
  let y <- ev b σ
  match <- cmD o x y with
   | .bl true=>do
    let z <- ev c σ
    cmD o' y z
   | .bl false=>pure (.bl false)
   | _=>bad
 | .and a b,σ=>do
  match <- ev a σ with
   | .bl true=>ev b σ
   | .bl false=>pure (.bl false)
   | _=>bad
 | .or a b,σ=>do
  match <- ev a σ with
   | .bl true=>pure (.bl true)
   | .bl false=>ev b σ
   | _=>bad
 | .not a,σ=>do
  match <- ev a σ with
   | .bl b=>pure (.bl (!b))
   | _=>bad
 | .neg a,σ=>do
  match <- ev a σ with
   | .int i=>pure (.int (-i))
   | _=>bad
 | .isN a,σ=>do
  let x <- ev a σ
  pure (.bl (decide (x=.non)))
 | .notN a,σ=>do
  let x <- ev a σ
  pure (.bl (!decide (x=.non)))
 | .ite c a b,σ=>do
  if <- evT c σ then ev a σ else ev b σ
 | .tup es,σ=>do
  let ds <- evs es σ
  guard (fits ds.length) (pure (.tup ds))
 | .lst es,σ=>do
  let ds <- evs es σ
  guard (fits ds.length) (alloc (.lst ds))
 | .ix a i,σ=>do
  let x <- ev a σ
  let y <- ev i σ
  ixD x y
 | .sl a lo hi,σ=>do
  let x <- ev a σ
  let l <- (if lo.aX then pure none else do fF (<- ev lo σ))
  let h <- (if hi.aX then pure none else do fF (<- ev hi σ))
  slD x l h
 | .call f es,σ=>do
  let ds <- evs es σ
  cf f ds
 | .bi b es,σ=>do
  let ds <- evs es σ
  biD sub b ds
 | .me m o es,σ=>do
  let x <- ev o σ
  jF x (do
   let ds <- evs es σ
   meD m x ds)
 | .comp k elt t it ife,σ=>do
  let s <- evI it σ
  let ys <- quiet (bx s (fun d=>do
   let σ' <- aJ t d (σ++List.replicate k none)
   if <- (if ife.aX then pure true else evT ife σ') then do
    let y <- ev elt σ'
    pure (some y)
   else pure none) s.its)
  guard (fits ys.length) (alloc (.lst ys))
 | .dget o es,σ=>do
  let x <- ev o σ
  let ds <- evs es σ
  guard (fits ds.length) (DB x ds)
 | .dnew,_=>alloc (.dct [])
 | .nl,_=>bad
 | .cs _ _,_=>bad
 | .iSeq _,_=>bad
 | .iEnum _,_=>bad
 | .iRng _,_=>bad
 | .iZip _,_=>bad
noncomputable def evT:E->Sg->M Bool
 | .and a b,σ=>do
  if <- evT a σ then evT b σ else pure false
 | .or a b,σ=>do
  if <- evT a σ then pure true else evT b σ
 | .not a,σ=>do
  let b <- evT a σ
  pure (!b)
 | .v i,σ=>bq σ i>>=truth
 | .c d,_=>pure d>>=truth
 | .cmp op a b,σ=>do
  let x <- ev a σ
  let y <- ev b σ
  truth (<- cmD op x y)
 | .chn o o' a b c,σ=>do
  let x <- ev a σ
  let y <- ev b σ
  if <- truth (<- cmD o x y) then do
   let z <- ev c σ
   truth (<- cmD o' y z)
  else pure false
 | .isN a,σ=>do
  let x <- ev a σ
  pure (decide (x=.non))
 | .notN a,σ=>do
  let x <- ev a σ
  pure (!decide (x=.non))
 | .ix a i,σ=>(do
  let x <- ev a σ
  let y <- ev i σ
  ixD x y)>>=truth
 | .call f es,σ=>(do
  let ds <- evs es σ
  cf f ds)>>=truth
 | .bi b es,σ=>(do
  let ds <- evs es σ
  biD sub b ds)>>=truth
 | _,_=>bad
noncomputable def evs:E->Sg->M (List D)
 | .nl,_=>pure []
 | .cs a r,σ=>do
  let x <- ev a σ
  let xs <- evs r σ
  pure (x::xs)
 | _,_=>bad
noncomputable def evI:E->Sg->M Src
 | .iSeq a,σ=>do srcOf (<- ev a σ)
 | .iEnum a,σ=>do
  let s <- srcOf (<- ev a σ)
  pure { s with its:=num 0 s.its }
 | .iRng es,σ=>do
  let is <- opt (bO (<- evs es σ))
  pure ⟨is.map .int,none,[]⟩
 | .iZip es,σ=>do yT (<- evs es σ)
 | _,_=>bad
end
end
inductive S where
 | ret (e:E)|retN|set (t:Tg) (e:E)|setIx (o i e:E)|dset (o es e:E)|ex (e:E)|ite (c:E) (a b:S)|forS (t:Tg) (it:E) (b:S)|whl (c:E) (b:S)|rais (c:Str)|tryR (f:Str) (es:E) (c:Str) (d:D)|tryE (f:Str) (es:E) (c:Str) (d:D)
 | skip|seq (a b:S)|brk|cont
inductive Fl where
 | nx (σ:Sg)|rt (d:D)|bk (σ:Sg)|ct (σ:Sg)
noncomputable def forL (s:Src) (f:D->Sg->M Fl):List D->Sg->M Fl
 | [],σ=>do
  aE s
  pure (.nx σ)
 | d::ds,σ=>do
  aE s
  match <- f d σ with
   | .nx σ'=>forL s f ds σ'
   | .ct σ'=>forL s f ds σ'
   | .bk σ'=>pure (.nx σ')
   | .rt d=>pure (.rt d)
noncomputable def mP (c:Sg->M Bool) (f:Sg->M Fl):Nat->Sg->M Fl
 | 0,_=>bad
 | n+1,σ=>do
  if <- c σ then do
   match <- f σ with
    | .nx σ'=>mP c f n σ'
    | .ct σ'=>mP c f n σ'
    | .bk σ'=>pure (.nx σ')
    | .rt d=>pure (.rt d)
  else pure (.nx σ)
noncomputable def eZ (c:Str) (d:D) (m:M D):M D:=fun S=>match m S with
 | .ok v S'=>.ok v S'
 | .exc c' S'=>if c'=c then .ok d S' else .bad
 | .bad=>.bad
noncomputable def gy (c:Str) (d:D) (σ:Sg) (m:M D):M Fl:=fun S=>match m S with
 | .ok _ S'=>.ok (.nx σ) S'
 | .exc c' S'=>if c'=c then .ok (.rt d) S' else .bad
 | .bad=>.bad
noncomputable def Es:Nat:=1000000
section
variable (sub:Sub) (cf:Str->List D->M D)
noncomputable def exec:S->Sg->M Fl
 | .ret e,σ=>do
  let d <- ev sub cf e σ
  pure (.rt d)
 | .retN,_=>pure (.rt .non)
 | .set t e,σ=>do
  let d <- ev sub cf e σ
  let σ' <- aJ t d σ
  pure (.nx σ')
 | .setIx o i e,σ=>do
  let d <- ev sub cf e σ
  let a <- ev sub cf o σ
  let k <- ev sub cf i σ
  let _ <- mW a k d
  pure (.nx σ)
 | .dset o es e,σ=>do
  let d <- ev sub cf e σ
  let a <- ev sub cf o σ
  let ks <- evs sub cf es σ
  let _ <- guard (fits ks.length) (tU a ks d)
  pure (.nx σ)
 | .ex e,σ=>do
  let _ <- ev sub cf e σ
  pure (.nx σ)
 | .ite c a b,σ=>do
  if <- evT sub cf c σ then exec a σ else exec b σ
 | .forS t it b,σ=>quiet (do
  let s <- evI sub cf it σ
  forL s (fun d σ=>do
   let σ' <- aJ t d σ
   exec b σ') s.its σ)
 | .whl c b,σ=>quiet (mP (evT sub cf c) (exec b) Es σ)
 | .rais c,_=>fun S=>.exc c S
 | .tryR f es c d,σ=>do
  let ds <- quiet (evs sub cf es σ)
  let v <- eZ c d (cf f ds)
  pure (.rt v)
 | .tryE f es c d,σ=>do
  let ds <- quiet (evs sub cf es σ)
  gy c d σ (cf f ds)
 | .skip,σ=>pure (.nx σ)
 | .seq a b,σ=>do
  match <- exec a σ with
   | .nx σ'=>exec b σ'
   | f=>pure f
 | .brk,σ=>pure (.bk σ)
 | .cont,σ=>pure (.ct σ)
end
mutual
noncomputable def D.low (n:Nat):D->Bool
 | .tup ds=>D.lows n ds
 | .fro ds=>D.lows n ds
 | .loc l=>decide (l < n)
 | _=>true
noncomputable def D.lows (n:Nat):List D->Bool
 | []=>true
 | d::r=>D.low n d&&D.lows n r
end
noncomputable def Cell.low (n:Nat):Cell->Bool
 | .lst ds=>D.lows n ds
 | .dct _=>false
noncomputable def leave (S:aa) (d:D) (S':aa):Res D :=
 if S'.take S.length=S then
  if d.low S.length then .ok d S
  else match d with
   | .loc l=>match S'[l]? with
    | some c=>if c.low S.length then .ok (.loc S.length) (S++[c]) else .ok d S'
    | none=>.ok d S'
   | _=>.ok d S'
 else .ok d S'
structure Fn where
 par:Nat
 names:Nat
 body:S
abbrev Prg:=List (Str × Fn)
noncomputable def aH (S:aa):Res Fl->Res D
 | .ok (.rt d) S'=>leave S d S'
 | .ok (.nx _) S'=>leave S .non S'
 | .ok (.bk _) _=>.bad
 | .ok (.ct _) _=>.bad
 | .exc c S'=>if S'.take S.length=S then .exc c S else .exc c S'
 | .bad=>.bad
noncomputable def frame (F:Fn) (ds:List D):Sg:=ds.map some++List.replicate (F.names - ds.length) none
noncomputable def ai (sub:Sub) (P:Prg):Nat->Str->List D->M D
 | 0,_,_=>bad
 | n+1,f,ds=>fun S=>match P.lookup f with
  | none=>.bad
  | some F=>if ds.length=F.par then aH S (exec sub (ai sub P n) F.body (frame F ds) S) else .bad
theorem b8 {sub:Sub} {P:Prg} {n:Nat} {f:Str} {ds:List D} {S:aa} {F:Fn} (h:P.lookup f=some F) (hl:ds.length=F.par):ai sub P (n+1) f ds S=aH S (exec sub (ai sub P n) F.body (frame F ds) S):=by
 show (match P.lookup f with|none=>Res.bad|some F=>if ds.length=F.par then aH S (exec sub (ai sub P n) F.body (frame F ds) S) else .bad)=_
 rw [h]; simp only [hl,if_true]
theorem Cv {sub:Sub} {P:Prg} {n:Nat} {f:Str} {ds:List D} {S:aa} {F:Fn} (h:P.lookup f=some F) (hl:ds.length≠F.par):ai sub P (n+1) f ds S=.bad:=by
 show (match P.lookup f with|none=>Res.bad|some F=>if ds.length=F.par then aH S (exec sub (ai sub P n) F.body (frame F ds) S) else .bad)=_
 rw [h]; simp only [hl,if_false]
end EV

namespace EV
open PySem PySem.Spec PyProof.Rows L2
theorem Paired.get {α β:Type} {F:α->β->Prop}:∀ {xs:List α} {ys:List β} {i:Nat} {x:α},Paired F xs ys->xs[i]?=some x->∃ y,ys[i]?=some y/\F x y
 | _,_,_,_,.nil,e=>by simp at e
 | _,_,0,_,.cons r _,e=>by simp at e; subst e; exact ⟨_,rfl,r⟩
 | _,_,i+1,x,.cons _ t,e=>by
  obtain ⟨u,h1,h2⟩:=Paired.get (i:=i) (x:=x) t (by simpa using e)
  exact ⟨u,by simpa using h1,h2⟩
theorem Paired.get' {α β:Type} {F:α->β->Prop} {xs:List α} {ys:List β} {i:Nat} {y:β} (p:Paired F xs ys) (e:ys[i]?=some y):∃ x,xs[i]?=some x/\F x y:=by
 have hl:=p.length
 have hi:i < xs.length:=by rw [hl]; exact (List.getElem?_eq_some_iff.mp e).1
 obtain ⟨y',e',f⟩:=Paired.get p (List.getElem?_eq_getElem hi)
 rw [e] at e'; cases e'
 exact ⟨_,List.getElem?_eq_getElem hi,f⟩
theorem Paired.step {α β:Type} {F:α->β->Prop} {ds:List α} {vs:List β} {n:Nat} (h:Paired F ds vs) (hl:ds.length=n+1):∃ d r v q,ds=d::r/\vs=v::q/\F d v/\Paired F r q/\r.length=n:=by
 cases h with
 | nil=>cases hl
 | cons f t=>exact ⟨_,_,_,_,rfl,rfl,f,t,Nat.succ.inj hl⟩
theorem Paired.last {α β:Type} {F:α->β->Prop} {ds:List α} {vs:List β} (h:Paired F ds vs) (hl:ds.length=0):ds=[]/\vs=[]:=by
 cases h with
 | nil=>exact ⟨rfl,rfl⟩
 | cons f t=>cases hl
theorem Paired.app {α β:Type} {F:α->β->Prop}:∀ {a c:List α} {b d:List β},Paired F a b->Paired F c d->Paired F (a++c) (b++d)
 | _,_,_,_,.nil,s=>s
 | _,_,_,_,.cons r t,s=>.cons r (Paired.app t s)
theorem Paired.tak {α β:Type} {F:α->β->Prop}:∀ {a:List α} {b:List β} (n:Nat),Paired F a b->Paired F (a.take n) (b.take n)
 | _,_,0,_=>.nil
 | _,_,_+1,.nil=>.nil
 | _,_,n+1,.cons r t=>.cons r (Paired.tak n t)
theorem Paired.drp {α β:Type} {F:α->β->Prop}:∀ {a:List α} {b:List β} (n:Nat),Paired F a b->Paired F (a.drop n) (b.drop n)
 | _,_,0,r=>r
 | _,_,_+1,.nil=>.nil
 | _,_,n+1,.cons _ t=>Paired.drp n t
theorem Paired.imp {α β:Type} {F G:α->β->Prop} (f:∀ a b,F a b->G a b):∀ {l₁:List α} {l₂:List β},Paired F l₁ l₂->Paired G l₁ l₂
 | _,_,.nil=>.nil
 | _,_,.cons r t=>.cons (f _ _ r) (Paired.imp f t)
theorem Paired.rep {α β:Type} {F:α->β->Prop} {a:List α} {b:List β} (h:Paired F a b):∀ k:Nat,Paired F (List.replicate k a).flatten (List.replicate k b).flatten
 | 0=>.nil
 | k+1=>by
  simp only [List.replicate_succ,List.flatten_cons]
  exact Paired.app h (Paired.rep h k)
theorem Paired.of_get {α β:Type} {F:α->β->Prop}:∀ {xs:List α} {ys:List β},xs.length=ys.length->(∀ (i:Nat) x y,xs[i]?=some x->ys[i]?=some y->F x y)->Paired F xs ys
 | [],[],_,_=>.nil
 | [],_::_,h,_=>by simp at h
 | _::_,[],h,_=>by simp at h
 | x::xs,y::ys,h,f=>.cons (f 0 x y rfl rfl) (Paired.of_get (by simpa using h) fun i a b e1 e2=>f (i+1) a b (by simpa using e1) (by simpa using e2))
structure Gx where
 K:PySem.W.Frag
noncomputable def Fro (K:PySem.W.Frag) (H:Hp) (a:Addr) (xs:List V):Prop:=(∃ o,H a=some (.frz o (.lst xs)))\/∀ H:Hp,SqL K H a xs
theorem Fro.sq {K:PySem.W.Frag} {H:Hp} {a:Addr} {xs:List V} (h:Fro K H a xs):SqL K H a xs:=by
 rcases h with ⟨o,h⟩|h
 ·exact .inl (.inr ⟨o,h⟩)
 ·exact h H
inductive Rep (Γ:Gx) (ι:List Addr) (H:Hp):D->V->Prop
 | non:Rep Γ ι H .non .non
 | bl (b:Bool):Rep Γ ι H (.bl b) (.bl b)
 | int (i:Int):Rep Γ ι H (.int i) (.int i)
 | str (x:Str):Rep Γ ι H (.str x) (.str x)
 | tup {ds:List D} {a:Addr} {xs:List V}:SqT Γ.K H a xs->ds.length=xs.length->(∀ (i:Nat) d v,ds[i]?=some d->xs[i]?=some v->Rep Γ ι H d v)->Rep Γ ι H (.tup ds) (.ref a)
 | fro {ds:List D} {a:Addr} {xs:List V}:Fro Γ.K H a xs->ds.length=xs.length->(∀ (i:Nat) d v,ds[i]?=some d->xs[i]?=some v->Rep Γ ι H d v)->Rep Γ ι H (.fro ds) (.ref a)
 | loc {l:Nat} {a:Addr}:ι[l]?=some a->Rep Γ ι H (.loc l) (.ref a)
abbrev ao (Γ:Gx) (ι:List Addr) (H:Hp):List D->List V->Prop:=Paired (Rep Γ ι H)
theorem Rep.f_ {Γ:Gx} {ι:List Addr} {H:Hp} {ds:List D} {a:Addr} {xs:List V} (h:SqT Γ.K H a xs) (p:ao Γ ι H ds xs):Rep Γ ι H (.tup ds) (.ref a) :=
 .tup h p.length fun i d v e1 e2=>by
  obtain ⟨y,e,f⟩:=Paired.get p e1
  rw [e2] at e; cases e; exact f
theorem Rep.e_ {Γ:Gx} {ι:List Addr} {H:Hp} {ds:List D} {v:V} (h:Rep Γ ι H (.fro ds) v):∃ a xs,v=.ref a/\Fro Γ.K H a xs/\ao Γ ι H ds xs:=by
 cases h with
 | fro h1 h2 h3=>exact ⟨_,_,rfl,h1,Paired.of_get h2 h3⟩
theorem Rep.bL {Γ:Gx} {ι:List Addr} {H:Hp} {ds:List D} {v:V} (h:Rep Γ ι H (.tup ds) v):∃ a xs,v=.ref a/\SqT Γ.K H a xs/\ao Γ ι H ds xs:=by
 cases h with
 | tup h1 h2 h3=>exact ⟨_,_,rfl,h1,Paired.of_get h2 h3⟩
structure Ext (ι ι':List Addr) (H H':Hp):Prop where
 pre:ι <+: ι'
 tup:∀ a xs,H a=some (.tup xs)->H' a=some (.tup xs)
 frz:∀ a o u,H a=some (.frz o u)->H' a=some (.frz o u)
 oth:∀ a o,H a=some o->a ∉ ι->H' a=some o
 fresh:∀ a∈ι',a ∉ ι->H a=none
section
variable {ι ι1 ι2:List Addr} {H H1 H2:Hp}
theorem Ext.refl:Ext ι ι H H:=⟨List.prefix_refl _,fun _ _ h=>h,fun _ _ _ h=>h,fun _ _ h _=>h,fun _ h n=>absurd h n⟩
theorem Ext.trans (a:Ext ι ι1 H H1) (b:Ext ι1 ι2 H1 H2):Ext ι ι2 H H2 where
 pre:=a.pre.trans b.pre
 tup:=fun x xs h=>b.tup x xs (a.tup x xs h)
 frz:=fun x o u h=>b.frz x o u (a.frz x o u h)
 oth:=fun x o h n=>b.oth x o (a.oth x o h n) fun m=>by
  have:=a.fresh x m n
  rw [h] at this; cases this
 fresh:=fun x m n=>by
  by_cases h1:x∈ι1
  ·exact a.fresh x h1 n
  ·have:=b.fresh x m h1
   cases q:H x with
   | none=>rfl
   | some o=>rw [a.oth x o q n] at this; cases this
theorem Ext.laid {p:Addr} {o:HO} (hp:H p=none):Ext ι ι H (upd H p o) :=
 ⟨List.prefix_refl _,fun a xs h=>by rw [aB (bz h hp)]; exact h,fun a o u h=>by rw [aB (bz h hp)]; exact h,fun a o h _=>by rw [aB (bz h hp)]; exact h,fun _ h n=>absurd h n⟩
theorem Ext.more {p:Addr} {o:HO} (hp:H p=none):Ext ι (ι++[p]) H (upd H p o) :=
 ⟨List.prefix_append _ _,fun a xs h=>by rw [aB (bz h hp)]; exact h,fun a o u h=>by rw [aB (bz h hp)]; exact h,fun a o h _=>by rw [aB (bz h hp)]; exact h,fun a h n=>by
  rcases List.mem_append.mp h with z|z
  ·exact absurd z n
  ·have:a=p:=by simpa using z
   rw [this]; exact hp⟩
theorem gu {α:Type} {xs ys:List α} (h:xs <+: ys) {i:Nat} {x:α} (e:xs[i]?=some x):ys[i]?=some x:=by
 obtain ⟨t,rfl⟩:=h
 rw [List.getElem?_append_left (List.getElem?_eq_some_iff.mp e).1]
 exact e
end
section
variable {Γ:Gx} {ι ι1:List Addr} {H H1:Hp}
theorem Ext.sqT (e:Ext ι ι1 H H1) {a:Addr} {xs:List V} (h:SqT Γ.K H a xs):SqT Γ.K H1 a xs:=by
 rcases h with (h|⟨o,h⟩)|h
 ·exact .inl (.inl (e.tup _ _ h))
 ·exact .inl (.inr ⟨o,e.frz _ _ _ h⟩)
 ·exact .inr h
theorem Ext.fro (e:Ext ι ι1 H H1) {a:Addr} {xs:List V} (h:Fro Γ.K H a xs):Fro Γ.K H1 a xs:=by
 rcases h with ⟨o,h⟩|h
 ·exact .inl ⟨o,e.frz _ _ _ h⟩
 ·exact .inr h
theorem Rep.ext (e:Ext ι ι1 H H1) {d:D} {v:V} (h:Rep Γ ι H d v):Rep Γ ι1 H1 d v:=by
 induction h with
 | non=>exact .non
 | bl b=>exact .bl b
 | int i=>exact .int i
 | str x=>exact .str x
 | tup h1 h2 h3 ih=>exact .tup (e.sqT h1) h2 ih
 | fro h1 h2 h3 ih=>exact .fro (e.fro h1) h2 ih
 | loc h=>exact .loc (gu e.pre h)
theorem ao.ext (e:Ext ι ι1 H H1) {ds:List D} {vs:List V} (h:ao Γ ι H ds vs):ao Γ ι1 H1 ds vs:=Paired.imp (fun _ _ r=>Rep.ext e r) h
end
abbrev fE (Γ:Gx) (ι:List Addr) (H:Hp):List (List Int × D)->List (List Key × V)->Prop:=Paired fun p q=>q.1=p.1.map Sum.inl/\Rep Γ ι H p.2 q.2
noncomputable def i9 (Γ:Gx) (ι:List Addr) (H:Hp) (a:Addr):Cell->Prop
 | .lst ds=>∃ xs,H a=some (.lst xs)/\ao Γ ι H ds xs
 | .dct kvs=>∃ xs,H a=some (.dT xs)/\fE Γ ι H kvs xs
structure ak (Γ:Gx) (ι:List Addr) (H:Hp) (S:aa):Prop where
 len:ι.length=S.length
 nd:ι.Nodup
 cell:∀ (l:Nat) c,S[l]?=some c->∃ a,ι[l]?=some a/\i9 Γ ι H a c
structure aO (Γ:Gx) (ι:List Addr) (H:Hp) (σ:L2.St) (σd:Sg):Prop where
 len:σ.length=σd.length
 var:∀ (i:Nat) d,σd[i]?=some (some d)->∃ v,σ[i]?=some (some v)/\Rep Γ ι H d v
theorem aO.ext {Γ:Gx} {ι ι1:List Addr} {H H1:Hp} {σ:L2.St} {σd:Sg} (e:Ext ι ι1 H H1) (h:aO Γ ι H σ σd):aO Γ ι1 H1 σ σd :=
 ⟨h.len,fun i d q=>let ⟨v,a,b⟩:=h.var i d q; ⟨v,a,b.ext e⟩⟩
abbrev XW:=Str->aa->List Addr->Hp->Prop
noncomputable def Out {α:Type} (Γ:Gx) (xw:XW) (ι:List Addr) (H:Hp) (r:Res α) (k:α->aa->List Addr->Hp->Prop):Prop:=match r with
 | .ok a S'=>∀ ι' H',Ext ι ι' H H'->ak Γ ι' H' S'->k a S' ι' H'
 | .exc c S'=>∀ ι' H',Ext ι ι' H H'->ak Γ ι' H' S'->xw c S' ι' H'
 | .bad=>False
section
variable {Γ:Gx} {xw:XW} {ι ι1:List Addr} {H H1:Hp} {α β:Type}
theorem Out.step {r:Res α} {k:α->aa->List Addr->Hp->Prop} (h:Out Γ xw ι H r k) (e:Ext ι ι1 H H1):Out Γ xw ι1 H1 r k:=by
 cases r with
 | ok a S'=>exact fun ι' H' e' s'=>h ι' H' (e.trans e') s'
 | exc c S'=>exact fun ι' H' e' s'=>h ι' H' (e.trans e') s'
 | bad=>exact h
theorem Out.mono {r:Res α} {k k':α->aa->List Addr->Hp->Prop} (h:Out Γ xw ι H r k) (f:∀ a S' ι' H',Ext ι ι' H H'->ak Γ ι' H' S'->k a S' ι' H'->k' a S' ι' H'):Out Γ xw ι H r k':=by
 cases r with
 | ok a S'=>exact fun ι' H' e' s'=>f _ _ _ _ e' s' (h ι' H' e' s')
 | exc c S'=>exact h
 | bad=>exact h
theorem Out.bind {m:M α} {f:α->M β} {S:aa} {k:β->aa->List Addr->Hp->Prop} (h:Out Γ xw ι H ((m>>=f) S) k) :
  Out Γ xw ι H (m S) (fun a S' ι' H'=>ak Γ ι' H' S'/\Ext ι ι' H H'/\Out Γ xw ι' H' (f a S') k):=by
 rw [bX] at h
 cases q:m S with
 | ok a S'=>rw [q] at h; exact fun ι' H' e' s'=>⟨s',e',Out.step h e'⟩
 | exc c S'=>rw [q] at h; exact h
 | bad=>rw [q] at h; exact h
theorem Out.here {a:α} {S:aa} {k:α->aa->List Addr->Hp->Prop} (h:Out Γ xw ι H (.ok a S) k) (s:ak Γ ι H S):k a S ι H:=h ι H .refl s
theorem Out.quiet {m:M α} {S:aa} {k:α->aa->List Addr->Hp->Prop} (h:Out Γ xw ι H (quiet m S) k) (xw':XW):Out Γ xw' ι H (m S) k:=by
 unfold EV.quiet at h
 cases q:m S with
 | ok a S'=>rw [q] at h; exact h
 | exc c S'=>rw [q] at h; exact h.elim
 | bad=>rw [q] at h; exact h.elim
end
noncomputable def tM (Γ:Gx) (xw:XW) (m:Sg->M D):TE:=fun σ H Q=>∃ σd ι S,aO Γ ι H σ σd/\ak Γ ι H S/\Out Γ xw ι H (m σd S) fun d _ ι' H'=>∀ v,Rep Γ ι' H' d v->Q v H'
noncomputable def tMT (Γ:Gx) (xw:XW) (m:Sg->M Bool):TT:=fun σ H Q=>∃ σd ι S,aO Γ ι H σ σd/\ak Γ ι H S/\Out Γ xw ι H (m σd S) fun b _ _ H'=>Q b H'
noncomputable def tMA (Γ:Gx) (xw:XW) (m:Sg->M (List D)):TA:=fun σ H Q=>∃ σd ι S,aO Γ ι H σ σd/\ak Γ ι H S/\Out Γ xw ι H (m σd S) fun ds _ ι' H'=>∀ vs,ao Γ ι' H' ds vs->Q vs H'
theorem PE.imp {X:Cx} {e:Expr} {t t':TE} (h:PE X e t) (f:∀ σ H Q,t' σ H Q->t σ H Q):PE X e t':=fun pins s σ H Q I q=>h pins s σ H Q I (f σ H Q q)
theorem PT.imp {X:Cx} {e:Expr} {t t':TT} (h:PT X e t) (f:∀ σ H Q,t' σ H Q->t σ H Q):PT X e t':=fun pins s σ H Q I q=>h pins s σ H Q I (f σ H Q q)
theorem PW.imp {X:Cx} {e:Expr} {t t':TT} (h:PW X e t) (f:∀ σ H Q,t' σ H Q->t σ H Q):PW X e t':=fun w pins s σ H Q I q=>h w pins s σ H Q I (f σ H Q q)
theorem PA.imp {X:Cx} {e:List Expr} {t t':TA} (h:PA X e t) (f:∀ σ H Q,t' σ H Q->t σ H Q):PA X e t':=fun p pins s σ H Q I q=>h p pins s σ H Q I (f σ H Q q)
theorem PS.imp {X:Cx} {e:Stmt} {t t':TS} (h:PS X e t) (f:∀ D σ H,t' D σ H->t D σ H):PS X e t':=fun pins s σ H D I q=>h pins s σ H D I (f D σ H q)
theorem PSs.imp {X:Cx} {e:List Stmt} {t t':TS} (h:PSs X e t) (f:∀ D σ H,t' D σ H->t D σ H):PSs X e t':=fun pins s σ H D I q=>h pins s σ H D I (f D σ H q)
section
variable {Γ:Gx} {xw:XW} {σ:L2.St} {H:Hp}
noncomputable def qP (Γ:Gx) (xw:XW) (f:D->M D) (x:V) (H:Hp) (Q:VK):Prop:=∃ ι S dx,ak Γ ι H S/\Rep Γ ι H dx x/\Out Γ xw ι H (f dx S) fun d _ ι' H'=>∀ v,Rep Γ ι' H' d v->Q v H'
noncomputable def aU (Γ:Gx) (xw:XW) (f:D->D->M D) (x y:V) (H:Hp) (Q:VK):Prop :=
 ∃ ι S dx dy,ak Γ ι H S/\Rep Γ ι H dx x/\Rep Γ ι H dy y/\Out Γ xw ι H (f dx dy S) fun d _ ι' H'=>∀ v,Rep Γ ι' H' d v->Q v H'
noncomputable def cA (Γ:Gx) (xw:XW) (f:List D->M D) (xs:List V) (H:Hp) (Q:VK):Prop:=∃ ι S ds,ak Γ ι H S/\ao Γ ι H ds xs/\Out Γ xw ι H (f ds S) fun d _ ι' H'=>∀ v,Rep Γ ι' H' d v->Q v H'
theorem DN {ma:Sg->M D} {f:D->M D} {Q:VK} (h:tM Γ xw (fun σ=>ma σ>>=f) σ H Q):tM Γ xw ma σ H fun x H1=>qP Γ xw f x H1 Q:=by
 obtain ⟨σd,ι,S,he,hs,ho⟩:=h
 exact ⟨σd,ι,S,he,hs,ho.bind.mono fun d S' ι' H' _ _ ⟨s',e',o'⟩ v r=>⟨ι',S',d,s',r,o'⟩⟩
theorem mT {ma mb:Sg->M D} {f:D->D->M D} {Q:VK} (h:tM Γ xw (fun σ=>ma σ>>=fun x=>mb σ>>=fun y=>f x y) σ H Q) :
  tM Γ xw ma σ H fun x H1=>tM Γ xw mb σ H1 fun y H2=>aU Γ xw f x y H2 Q:=by
 obtain ⟨σd,ι,S,he,hs,ho⟩:=h
 exact ⟨σd,ι,S,he,hs,ho.bind.mono fun d S' ι' H' _ _ ⟨s',e',o'⟩ v r=>⟨σd,ι',S',he.ext e',s',o'.bind.mono fun d2 S2 ι2 H2 _ _ ⟨s2,e2,o2⟩ v2 r2=>⟨ι2,S2,d,d2,s2,r.ext e2,r2,o2⟩⟩⟩
theorem nE {ma:Sg->M (List D)} {f:List D->M D} {Q:VK} (h:tM Γ xw (fun σ=>ma σ>>=f) σ H Q):tMA Γ xw ma σ H fun xs H1=>cA Γ xw f xs H1 Q:=by
 obtain ⟨σd,ι,S,he,hs,ho⟩:=h
 exact ⟨σd,ι,S,he,hs,ho.bind.mono fun d S' ι' H' _ _ ⟨s',e',o'⟩ v r=>⟨ι',S',d,s',r,o'⟩⟩
end
end EV

namespace EV
open PySem PySem.Spec PyProof.Rows L2
open PySem.SeqAt (EqAt RcAt)
section
variable {X:Cx} {Γ:Gx} {xw:XW} {pins:List (Addr × Obj)} {σ:L2.St} {H:Hp} {s:Shared} {ι:List Addr} {S:aa}
theorem ak.list (hS:ak Γ ι H S) {d:D} {v:V} {ds:List D} (r:Rep Γ ι H d v) (h:asL S d=some ds):∃ a xs,v=.ref a/\SqL Γ.K H a xs/\ao Γ ι H ds xs:=by
 cases d with
 | loc l =>
  cases r with
  | loc q =>
   have h':listAt S l=some ds:=h
   unfold listAt at h'
   split at h'
   ·rename_i es e
    cases h'
    obtain ⟨a,ha,xs,hx,r⟩:=hS.cell l _ e
    rw [q] at ha; cases ha
    exact ⟨_,xs,rfl,.of hx,r⟩
   ·cases h'
 | fro es =>
  cases h
  obtain ⟨a,xs,rfl,hf,rs⟩:=r.e_
  exact ⟨a,xs,rfl,hf.sq,rs⟩
 | _=>cases h
theorem ak.lst (hS:ak Γ ι H S) {l:Nat} {ds:List D} (h:S[l]?=some (.lst ds)):∃ a xs,ι[l]?=some a/\H a=some (.lst xs)/\ao Γ ι H ds xs:=by
 obtain ⟨a,ha,xs,hx,r⟩:=hS.cell l _ h
 exact ⟨a,xs,ha,hx,r⟩
theorem nC {l:Nat}:items (.loc l) S=match listAt S l with|some ds=>.ok ds S|none=>.bad:=rfl
theorem jD {α:Type}:∀ {xs:List α} {i j:Nat} {x:α},xs.Nodup->xs[i]?=some x->xs[j]?=some x->i=j
 | [],_,_,_,_,h,_=>by simp at h
 | y::r,0,0,_,_,_,_=>rfl
 | y::r,0,j+1,x,nd,h1,h2=>by
  simp at h1 h2
  subst h1
  exact absurd (List.mem_of_getElem? h2) (List.nodup_cons.mp nd).1
 | y::r,i+1,0,x,nd,h1,h2=>by
  simp at h1 h2
  subst h2
  exact absurd (List.mem_of_getElem? h1) (List.nodup_cons.mp nd).1
 | y::r,i+1,j+1,x,nd,h1,h2=>by
  exact congrArg (· + 1) (jD (i:=i) (j:=j) (List.nodup_cons.mp nd).2 (by simpa using h1) (by simpa using h2))
theorem gx {f:D->D->Option Bool}:∀ {xs ys:List D} {k:Bool},bf f xs ys=some k->∃ e:Nat->Bool,(∀ (j:Nat) x y,xs[j]?=some x->ys[j]?=some y->f x y=some (e j))/\k=(List.range (min xs.length ys.length)).all e
 | [],ys,k,h=>⟨fun _=>true,fun j x y e1 e2=>by simp at e1,by simp only [bf] at h; cases h; simp⟩
 | _::_,[],k,h=>⟨fun _=>true,fun j x y e1 e2=>by simp at e2,by simp only [bf] at h; cases h; simp⟩
 | x::xs,y::ys,k,h=>by
  simp only [bf] at h
  split at h
  ·rename_i a b e1 e2
   cases h
   obtain ⟨e,he,hk⟩:=gx e2
   refine ⟨fun j=>match j with|0=>a|j+1=>e j,fun j u v q1 q2=>?_,?_⟩
   ·cases j with
    | zero=>simp at q1 q2; subst q1; subst q2; exact e1
    | succ j=>exact he j u v (by simpa using q1) (by simpa using q2)
   ·rw [show min (x::xs).length (y::ys).length=min xs.length ys.length+1 by simp only [List.length_cons]; omega,List.range_succ_eq_map,List.all_cons,List.all_map]
    rw [hk]
    rfl
  ·cases h
theorem Rep.ju {d1 d2:D} {x:V} (q1:Rep Γ ι H d1 x) (q2:Rep Γ ι H d2 x) (e:d1.kd=.flat):d2.kd=.flat:=by
 have h1:DI x=true:=by cases q1 <;> first|rfl|cases e
 cases q2 <;> first|rfl|cases h1
theorem Rep.AG {d1 d2:D} {x:V} (q1:Rep Γ ι H d1 x) (q2:Rep Γ ι H d2 x) (e:d1.kd=.flat):d1=d2:=by
 cases q1 <;> first|(cases e; done)|(cases q2; rfl)
theorem A_ {d:D} {k:Bool} (h:bh d d=some k):k=true:=by
 cases d <;> first|(cases h; done)|(simp [bh] at h; exact h)
theorem DX (hK:Γ.K=X.K) (I:Inv X pins σ H s) (hS:ak Γ ι H S):∀ (m:Nat) (d1 d2:D) (k:Bool) (x:V),eqD m S d1 d2=some k->Rep Γ ι H d1 x->Rep Γ ι H d2 x->k=true:=by
 obtain ⟨K⟩:=Γ
 have hK':K=X.K:=hK
 subst hK'
 have all:∀ (m:Nat),(∀ (d1 d2:D) (k:Bool) (x:V),eqD m S d1 d2=some k->Rep ⟨X.K⟩ ι H d1 x->Rep ⟨X.K⟩ ι H d2 x->k=true) ->
   ∀ (ds es:List D) (xs:List V) (r:Bool),ao ⟨X.K⟩ ι H ds xs->ao ⟨X.K⟩ ι H es xs->bf (eqD m S) ds es=some r->r=true:=by
  intro m ihm ds es xs r p1 p2 hr
  obtain ⟨e,he,hk2⟩:=gx hr
  have l1:=p1.length
  have l2:=p2.length
  rw [hk2,List.all_eq_true]
  intro j hj
  rw [List.mem_range] at hj
  have hj1:j < ds.length:=by omega
  have hj2:j < es.length:=by omega
  obtain ⟨y1,a1,a2⟩:=Paired.get p1 (List.getElem?_eq_getElem hj1)
  obtain ⟨y2,a3,a4⟩:=Paired.get p2 (List.getElem?_eq_getElem hj2)
  rw [a1] at a3; cases a3
  exact ihm _ _ _ y1 (he j _ _ (List.getElem?_eq_getElem hj1) (List.getElem?_eq_getElem hj2)) a2 a4
 intro m
 induction m with
 | zero=>intro d1 d2 k x h; simp [eqD] at h
 | succ m ihm =>
  intro d1 d2 k x h q1 q2
  have hall:=all m ihm
  have tl:∀ {es:List D} {a:Addr} {d:D},(∃ xs,SqT X.K H a xs)->∀ {z},asL S d=some z->Rep ⟨X.K⟩ ι H d (.ref a)->False:=fun {es a d} ht {z} hz hr=>by
   obtain ⟨xs,ht⟩:=ht
   obtain ⟨b,ys,e,sb,_⟩:=hS.list hr hz
   cases e
   obtain ⟨its,_,pl,_⟩:=I.list sb
   obtain ⟨its2,_,pt,_⟩:=I.tuple ht
   exact absurd rfl (SeqAt.ne_of_list_tuple pl.isList pt)
  cases e1:d1.kd <;> cases e2:d2.kd <;> simp only [eqD,e1,e2] at h
  ·have e:=Rep.AG q1 q2 e1
   rw [<- e] at h
   exact A_ h
  ·rw [Rep.ju q1 q2 e1] at e2; cases e2
  ·rw [Rep.ju q1 q2 e1] at e2; cases e2
  ·cases h
  ·rw [Rep.ju q2 q1 e2] at e1; cases e1
  ·cases d1 <;> first|(cases e1; done)|skip
   cases d2 <;> first|(cases e2; done)|skip
   obtain ⟨a,xs,rfl,t1,p1⟩:=q1.bL
   obtain ⟨b,ys,eb,t2,p2⟩:=q2.bL
   cases eb
   have e:xs=ys:=I.iR t1 t2
   subst e
   simp only [Option.map_eq_some_iff] at h
   obtain ⟨r,hr,hk⟩:=h
   have hl:(D.its (D.tup _)).length=(D.its (D.tup _)).length:=(p1.length).trans p2.length.symm
   rw [<- hk,hall _ _ xs r p1 p2 hr,hl]; simp
  ·simp only [Option.map_eq_some_iff] at h
   obtain ⟨z,hz,_⟩:=h
   cases d1 <;> first|(cases e1; done)|skip
   obtain ⟨a,xs,rfl,t1,p1⟩:=q1.bL
   exact (tl (es:=[]) ⟨xs,t1⟩ hz q2).elim
  ·cases h
  ·rw [Rep.ju q2 q1 e2] at e1; cases e1
  ·simp only [Option.map_eq_some_iff] at h
   obtain ⟨z,hz,_⟩:=h
   cases d2 <;> first|(cases e2; done)|skip
   obtain ⟨a,xs,rfl,t1,p1⟩:=q2.bL
   exact (tl (es:=[]) ⟨xs,t1⟩ hz q1).elim
  ·split at h
   ·rename_i ds es hd he
    obtain ⟨a,xs,rfl,s1,p1⟩:=hS.list q1 hd
    obtain ⟨b,ys,eb,s2,p2⟩:=hS.list q2 he
    cases eb
    have e:xs=ys:=I.jf s1 s2
    subst e
    rw [if_pos (p1.length.trans p2.length.symm)] at h
    exact hall _ _ xs k p1 p2 h
   ·cases h
  ·cases h
  ·cases h
  ·cases h
  ·cases h
  ·cases h
theorem xg {A:Around} {d1 d2:D} {k:Bool} {x1 x2:V} {u1 u2:Value} (h:bh d1 d2=some k) (r1:Rep Γ ι H d1 x1) (r2:Rep Γ ι H d2 x2) (v1:RelV x1 u1) (v2:RelV x2 u2) (e1:d1.kd=.flat) (e2:d2.kd=.flat):RcAt A s u1 u2 k/\EqAt A s u1 u2 k:=by
 cases r1 <;> first|(cases e1; done)|skip
 all_goals (cases r2 <;> first|(cases e2; done)|skip)
 ·cases v1; cases v2; simp [bh] at h; subst h; exact ⟨RcAt.none_none,EqAt.same _⟩
 ·cases v1; cases v2; simp [bh] at h; subst h; exact ⟨.none_bool _,.none_bool _⟩
 ·cases v1; obtain ⟨t,rfl⟩:=v2; simp [bh] at h; subst h; exact ⟨.none_int _ t,.none_int _ t⟩
 ·cases v1; obtain ⟨t,rfl⟩:=v2; simp [bh] at h; subst h; exact ⟨.none_str _ t,.none_str _ t⟩
 ·cases v1; cases v2; simp [bh] at h; subst h; exact ⟨.bool_none _,.bool_none _⟩
 ·cases v1; cases v2; simp [bh] at h; subst h; exact ⟨.bool_bool _ _,.bool_bool _ _⟩
 ·cases v1; obtain ⟨t,rfl⟩:=v2; simp [bh] at h; subst h; exact ⟨.bool_int _ _ t,.bool_int _ _ t⟩
 ·cases v1; obtain ⟨t,rfl⟩:=v2; simp [bh] at h; subst h; exact ⟨.bool_str _ _ t,.bool_str _ _ t⟩
 ·obtain ⟨ta,rfl⟩:=v1; cases v2; simp [bh] at h; subst h; exact ⟨.int_none _ ta,.int_none _ ta⟩
 ·obtain ⟨ta,rfl⟩:=v1; cases v2; simp [bh] at h; subst h; exact ⟨.int_bool _ ta _,.int_bool _ ta _⟩
 ·obtain ⟨ta,rfl⟩:=v1; obtain ⟨t,rfl⟩:=v2; simp [bh] at h; subst h; exact ⟨.int_int _ ta _ t,.int_int _ ta _ t⟩
 ·obtain ⟨ta,rfl⟩:=v1; obtain ⟨t,rfl⟩:=v2; simp [bh] at h; subst h; exact ⟨.int_str _ ta _ t,.int_str _ ta _ t⟩
 ·obtain ⟨ta,rfl⟩:=v1; cases v2; simp [bh] at h; subst h; exact ⟨.str_none _ ta,.str_none _ ta⟩
 ·obtain ⟨ta,rfl⟩:=v1; cases v2; simp [bh] at h; subst h; exact ⟨.str_bool _ ta _,.str_bool _ ta _⟩
 ·obtain ⟨ta,rfl⟩:=v1; obtain ⟨t,rfl⟩:=v2; simp [bh] at h; subst h; exact ⟨.str_int _ ta _ t,.str_int _ ta _ t⟩
 ·obtain ⟨ta,rfl⟩:=v1; obtain ⟨t,rfl⟩:=v2; simp [bh] at h; subst h; exact ⟨.str_str _ ta _ t,.str_str _ ta _ t⟩
theorem l_ (hK:Γ.K=X.K) (I:Inv X pins σ H s) (hS:ak Γ ι H S):∀ (n:Nat) (A:Around) (d1 d2:D) (k:Bool) (x1 x2:V) (u1 u2:Value),eqD n S d1 d2=some k->Rep Γ ι H d1 x1->Rep Γ ι H d2 x2->RelV x1 u1->RelV x2 u2->A.units+n < cLine ->
  RcAt A s u1 u2 k/\EqAt A s u1 u2 k:=by
 have same:=DX hK I hS
 obtain ⟨K⟩:=Γ
 have hK':K=X.K:=hK
 subst hK'
 intro n
 induction n with
 | zero=>intro A d1 d2 k x1 x2 u1 u2 h; simp [eqD] at h
 | succ n ih =>
  intro A d1 d2 k x1 x2 u1 u2 h r1 r2 v1 v2 hu
  have hu0:A.units < cLine:=by omega
  have hu1:A.in1.units+n < cLine:=by show A.units+1+n < cLine; omega
  have h0:=h
  have each:∀ {ds es:List D} {xs ys:List V} {its1 its2:List Value} {e:Nat->Bool},ao ⟨X.K⟩ ι H ds xs->ao ⟨X.K⟩ ι H es ys->Vals xs its1->Vals ys its2 ->
    (∀ (j:Nat) x y,ds[j]?=some x->es[j]?=some y->eqD n S x y=some (e j))->∀ (j:Nat) (h1:j < its1.toArray.size) (h2:j < its2.toArray.size),EqAt A.in1 s its1.toArray[j] its2.toArray[j] (e j):=by
   intro ds es xs ys its1 its2 e rp1 rp2 rv1 rv2 he j h1 h2
   rw [List.size_toArray] at h1 h2
   have l1:=rp1.length
   have l2:=rp2.length
   have l3:=rv1.length
   have l4:=rv2.length
   have j1:j < ds.length:=by omega
   have j2:j < es.length:=by omega
   obtain ⟨y1,a1,a2⟩:=Paired.get rp1 (List.getElem?_eq_getElem j1)
   obtain ⟨y2,a3,a4⟩:=Paired.get rp2 (List.getElem?_eq_getElem j2)
   obtain ⟨w1,z1,z2⟩:=rv1.get a1
   obtain ⟨w2,z3,z4⟩:=rv2.get a3
   have:=(ih A.in1 ds[j] es[j] (e j) y1 y2 w1 w2 (he j _ _ (List.getElem?_eq_getElem j1) (List.getElem?_eq_getElem j2)) a2 a4 z2 z4 hu1).2
   have q1:its1.toArray[j]'(by rw [List.size_toArray]; exact h1)=w1:=by
    have:its1[j]?=some its1[j]:=List.getElem?_eq_getElem h1
    rw [z1] at this; cases this; rfl
   have q2:its2.toArray[j]'(by rw [List.size_toArray]; exact h2)=w2:=by
    have:its2[j]?=some its2[j]:=List.getElem?_eq_getElem h2
    rw [z3] at this; cases this; rfl
   rw [q1,q2]; exact this
  have lst:∀ {d:D} {x:V} {u:Value} {zs:List D},Rep ⟨X.K⟩ ι H d x->RelV x u->asL S d=some zs->∃ a xs its,x=.ref a/\u=.ref a/\ao ⟨X.K⟩ ι H zs xs/\Vals xs its/\s.heap.IsList a its.toArray:=fun {d x u zs} r rv hz=>by
   obtain ⟨b,ys,e,sb,rp⟩:=hS.list r hz
   subst e
   cases rv
   obtain ⟨its,rv,p,_⟩:=I.list sb
   exact ⟨b,ys,its,rfl,rfl,rp,rv,p.isList⟩
  have tpl:∀ {ds:List D} {x:V} {u:Value},Rep ⟨X.K⟩ ι H (.tup ds) x->RelV x u->∃ a xs its,x=.ref a/\u=.ref a/\ao ⟨X.K⟩ ι H ds xs/\Vals xs its/\s.heap.IsTuple a its.toArray:=fun {ds x u} r rv=>by
   obtain ⟨a,xs,e,t,p⟩:=r.bL
   subst e
   cases rv
   obtain ⟨its,rv,p2,_⟩:=I.tuple t
   exact ⟨a,xs,its,rfl,rfl,p,rv,p2⟩
  cases e1:d1.kd <;> cases e2:d2.kd <;> simp only [eqD,e1,e2] at h
  ·exact xg h r1 r2 v1 v2 e1 e2
  ·cases h
   cases d2 <;> first|(cases e2; done)|skip
   obtain ⟨a,xs,its,rfl,rfl,_,_,p⟩:=tpl r2 v2
   cases r1 <;> first|(cases e1; done)|skip
   ·cases v1; exact ⟨.none_tuple p hu0,.none_tuple p hu0⟩
   ·cases v1; exact ⟨.bool_tuple _ p hu0,.bool_tuple _ p hu0⟩
   ·obtain ⟨ta,rfl⟩:=v1; exact ⟨.int_tuple _ ta p hu0,.int_tuple _ ta p hu0⟩
   ·obtain ⟨ta,rfl⟩:=v1; exact ⟨.str_tuple _ ta p hu0,.str_tuple _ ta p hu0⟩
  ·simp only [Option.map_eq_some_iff] at h
   obtain ⟨z,hz,rfl⟩:=h
   obtain ⟨a,xs,its,rfl,rfl,_,_,p⟩:=lst r2 v2 hz
   cases r1 <;> first|(cases e1; done)|skip
   ·cases v1; exact ⟨.none_list p hu0,.none_list p hu0⟩
   ·cases v1; exact ⟨.bool_list _ p hu0,.bool_list _ p hu0⟩
   ·obtain ⟨ta,rfl⟩:=v1; exact ⟨.int_list _ ta p hu0,.int_list _ ta p hu0⟩
   ·obtain ⟨ta,rfl⟩:=v1; exact ⟨.str_list _ ta p hu0,.str_list _ ta p hu0⟩
  ·cases h
  ·cases h
   cases d1 <;> first|(cases e1; done)|skip
   obtain ⟨a,xs,its,rfl,rfl,_,_,p⟩:=tpl r1 v1
   cases r2 <;> first|(cases e2; done)|skip
   ·cases v2; exact ⟨.tuple_none p hu0,.tuple_none p hu0⟩
   ·cases v2; exact ⟨.tuple_bool _ p hu0,.tuple_bool _ p hu0⟩
   ·obtain ⟨ta,rfl⟩:=v2; exact ⟨.tuple_int _ ta p hu0,.tuple_int _ ta p hu0⟩
   ·obtain ⟨ta,rfl⟩:=v2; exact ⟨.tuple_str _ ta p hu0,.tuple_str _ ta p hu0⟩
  ·cases d1 <;> first|(cases e1; done)|skip
   cases d2 <;> first|(cases e2; done)|skip
   obtain ⟨a,xs,its1,rfl,rfl,rp1,rv1,p1⟩:=tpl r1 v1
   obtain ⟨b,ys,its2,rfl,rfl,rp2,rv2,p2⟩:=tpl r2 v2
   simp only [Option.map_eq_some_iff] at h
   obtain ⟨r,hr,hk⟩:=h
   obtain ⟨e,he,hk2⟩:=gx hr
   have rc:RcAt A s (.ref a) (.ref b) k:=by
    have:=RcAt.tuples (A:=A) (e:=e) p1 p2 hu0 (each rp1 rp2 rv1 rv2 he)
    rw [List.size_toArray,List.size_toArray,<- rv1.length,<- rv2.length,<- rp1.length,<- rp2.length] at this
    rw [<- hk,hk2]; exact this
   refine ⟨rc,?_⟩
   by_cases hab:a=b
   ·subst hab
    rw [same _ _ _ k _ h0 r1 r2]; exact EqAt.same _
   ·exact .of_refs hab rc
  ·simp only [Option.map_eq_some_iff] at h
   obtain ⟨z,hz,rfl⟩:=h
   cases d1 <;> first|(cases e1; done)|skip
   obtain ⟨a,xs,its1,rfl,rfl,rp1,rv1,p1⟩:=tpl r1 v1
   obtain ⟨b,ys,its2,rfl,rfl,rp2,rv2,p2⟩:=lst r2 v2 hz
   exact ⟨.tuple_list p1 p2 hu0,.tuple_list p1 p2 hu0⟩
  ·cases h
  ·simp only [Option.map_eq_some_iff] at h
   obtain ⟨z,hz,rfl⟩:=h
   obtain ⟨a,xs,its,rfl,rfl,_,_,p⟩:=lst r1 v1 hz
   cases r2 <;> first|(cases e2; done)|skip
   ·cases v2; exact ⟨.list_none p hu0,.list_none p hu0⟩
   ·cases v2; exact ⟨.list_bool _ p hu0,.list_bool _ p hu0⟩
   ·obtain ⟨ta,rfl⟩:=v2; exact ⟨.list_int _ ta p hu0,.list_int _ ta p hu0⟩
   ·obtain ⟨ta,rfl⟩:=v2; exact ⟨.list_str _ ta p hu0,.list_str _ ta p hu0⟩
  ·simp only [Option.map_eq_some_iff] at h
   obtain ⟨z,hz,rfl⟩:=h
   cases d2 <;> first|(cases e2; done)|skip
   obtain ⟨a,xs,its1,rfl,rfl,rp1,rv1,p1⟩:=tpl r2 v2
   obtain ⟨b,ys,its2,rfl,rfl,rp2,rv2,p2⟩:=lst r1 v1 hz
   exact ⟨.list_tuple p2 p1 hu0,.list_tuple p2 p1 hu0⟩
  ·split at h
   ·rename_i ds es hd he
    obtain ⟨a,xs,its1,rfl,rfl,rp1,rv1,p1⟩:=lst r1 v1 hd
    obtain ⟨b,ys,its2,rfl,rfl,rp2,rv2,p2⟩:=lst r2 v2 he
    have e1:its1.toArray.size=ds.length:=by rw [List.size_toArray,<- rv1.length,<- rp1.length]
    have e2:its2.toArray.size=es.length:=by rw [List.size_toArray,<- rv2.length,<- rp2.length]
    have rc:RcAt A s (.ref a) (.ref b) k:=by
     by_cases hlen:ds.length=es.length
     ·rw [if_pos hlen] at h
      obtain ⟨e,he',hk2⟩:=gx h
      have:=RcAt.lists (A:=A) (e:=e) p1 p2 (by omega) hu0 (each rp1 rp2 rv1 rv2 he')
      rw [e1] at this; rw [hk2,<- hlen,Nat.min_self]; exact this
     ·rw [if_neg hlen] at h
      cases h
      exact RcAt.lists_lengths p1 p2 (by rw [e1,e2]; simpa using hlen) hu0
    refine ⟨rc,?_⟩
    by_cases hab:a=b
    ·subst hab
     rw [same _ _ _ k _ h0 r1 r2]; exact EqAt.same _
    ·exact .of_refs hab rc
   ·cases h
  ·cases h
  ·cases h
  ·cases h
  ·cases h
  ·cases h
end
end EV

namespace HT
open PySem PyProof.Rows
section
variable {prog:Program} {w:World} {A:Around} {E:Value->Shared->Prop} {s:Shared}
theorem wu {t sl:Addr} {items:Array Value} {vl vu:Value} {lo hi:Option Int} {Q:Value->Shared->Prop} (ht:IsTup s.heap t items) (hs:s.heap.IsSliceOf sl vl vu .none) (pl:IsPart vl lo) (pu:IsPart vu hi)
  (hw:sIx items.size 0 lo=0/\sIx items.size items.size hi=items.size) (h:Q (.ref t) s):wpAny (model prog w) A (getItem (.ref t) (.ref sl)) Q E s:=by
 obtain ⟨os,hos,hcs,hds⟩:=id hs
 have hTs:s.TypeIs (.ref sl) "slice":=⟨os,hos,hcs⟩
 unfold getItem
 try with_reducible refine wpAny_holding ?_
 first|refine wpAny_bind (wpAny_pure ?_)|skip
 refine wpAny_bind (wpAny_sequenceKey ht.typeIs (by decide) ?_)
 refine wpAny_bind (wpAny_callSpecial?_slot (name:=Str.ofString "__getitem__") ht.typeIs PyProof.Rows.slot_tuple_getitem
  (wpAny_call_entry PyProof.Rows.slot_tuple_getitem ht.typeIs entry_tuple_getitem ?_ (args_tuple_getitem _ _)))
 show wpAny _ _ (Builtin.Tuple.tupleItemsOf (.ref t)>>=_) _ _ s
 refine wpAny_bind (tupleItemsOf_ ht ?_)
 refine wpAny_bind (wpAny_typeOf hTs ?_)
 rw [if_pos (by decide)]
 refine wpAny_bind (oB hs pl pu ?_)
 have hyes:(((sIx items.size 0 lo:Nat):Int)==0&&(1:Int)==1&&(sIx items.size items.size hi - sIx items.size 0 lo)==items.size)=true:=by
  rw [hw.1,hw.2]; simp
 show wpAny _ _ (if (((sIx items.size 0 lo:Nat):Int)==0&&(1:Int)==1&&(sIx items.size items.size hi - sIx items.size 0 lo)==items.size)=true then _ else _) _ _ s
 rw [if_pos hyes]
 have hx:∀ {P:Bool->Shared->Prop},P true s->wpAny (model prog w) A.in1 (Builtin.Tuple.tupleIsExact (.ref t)) P E s:=fun {P} hp=>by
  unfold Builtin.Tuple.tupleIsExact
  refine wpAny_bind (wpAny_typeOf ht.typeIs (wpAny_pure ?_))
  simpa using hp
 refine wpAny_bind (hx ?_)
 rw [if_pos rfl]
 exact wpAny_bind (wpAny_rule (wpAny_pure ⟨_,rfl,wpAny_pure h⟩))
end
end HT
namespace EV
open PySem PySem.Spec PyProof.Rows L2
open PySem.SeqAt (EqAt RcAt)
section
variable {X:Cx} {Γ:Gx} {xw:XW} {pins:List (Addr × Obj)} {σ:L2.St} {H:Hp} {s:Shared} {ι:List Addr} {S:aa}
theorem ak.new (hS:ak Γ ι H S) {p:Addr} (hp:H p=none):p ∉ ι:=fun m=>by
 obtain ⟨l,e⟩:=List.getElem?_of_mem m
 have hl:l < S.length:=by rw [<- hS.len]; exact (List.getElem?_eq_some_iff.mp e).1
 obtain ⟨a,ha,c⟩:=hS.cell l S[l] (List.getElem?_eq_getElem hl)
 rw [e] at ha; cases ha
 cases q:S[l] with
 | lst ds=>rw [q] at c; obtain ⟨xs,hx,_⟩:=c; rw [hp] at hx; cases hx
 | dct kvs=>rw [q] at c; obtain ⟨xs,hx,_⟩:=c; rw [hp] at hx; cases hx
theorem i9.ext {ι1:List Addr} {H1:Hp} (e:Ext ι ι1 H H1) {a:Addr} {c:Cell} (h:i9 Γ ι H a c) (hl:∀ o,H a=some o->H1 a=some o):i9 Γ ι1 H1 a c:=by
 cases c with
 | lst ds=>obtain ⟨xs,hx,r⟩:=h; exact ⟨xs,hl _ hx,ao.ext e r⟩
 | dct kvs=>obtain ⟨xs,hx,r⟩:=h; exact ⟨xs,hl _ hx,Paired.imp (fun _ _ q=>⟨q.1,q.2.ext e⟩) r⟩
theorem ak.more (hS:ak Γ ι H S) {p:Addr} (hp:H p=none) {ds:List D} {xs:List V} (r:ao Γ ι H ds xs):ak Γ (ι++[p]) (upd H p (.lst xs)) (S++[.lst ds]):=by
 have e:Ext ι (ι++[p]) H (upd H p (.lst xs)):=Ext.more hp
 refine ⟨by simp [hS.len],List.nodup_append.mpr ⟨hS.nd,by simp,?_⟩,fun l c h=>?_⟩
 ·intro a ha b hb
  have:b=p:=by simpa using hb
  subst this
  exact fun z=>hS.new hp (z ▸ ha)
 ·by_cases hl:l < S.length
  ·rw [List.getElem?_append_left hl] at h
   obtain ⟨a,ha,c1⟩:=hS.cell l c h
   exact ⟨a,gu e.pre ha,c1.ext e fun ys hy=>by rw [aB (bz hy hp)]; exact hy⟩
  ·rw [List.getElem?_append_right (by omega)] at h
   have hl2:l - S.length=0:=by
    have:=(List.getElem?_eq_some_iff.mp h).1
    simp at this; omega
   rw [hl2] at h
   have h':(Cell.lst ds)=c:=by simpa using h
   subst h'
   have e1:l=ι.length:=by rw [hS.len]; omega
   subst e1
   exact ⟨p,by simp,xs,c_,ao.ext e r⟩
theorem ak.laid (hS:ak Γ ι H S) {p:Addr} (hp:H p=none) (o:HO):ak Γ ι (upd H p o) S :=
 ⟨hS.len,hS.nd,fun l c h=>let ⟨a,ha,c1⟩:=hS.cell l c h; ⟨a,ha,c1.ext (Ext.laid hp) fun ys hy=>by rw [aB (bz hy hp)]; exact hy⟩⟩
theorem Out.alloc {Q:VK} {ds:List D} {xs:List V} {p:Addr} (ho:Out Γ xw ι H (alloc (.lst ds) S) fun d _ ι' H'=>∀ v,Rep Γ ι' H' d v->Q v H') (hS:ak Γ ι H S) (hp:H p=none) (r:ao Γ ι H ds xs):Q (.ref p) (upd H p (.lst xs)) :=
 ho (ι++[p]) _ (Ext.more hp) (hS.more hp r) _ (.loc (by rw [<- hS.len]; simp))
theorem Out.tup {Q:VK} {ds:List D} {xs:List V} {p:Addr} (ho:Out Γ xw ι H (.ok (.tup ds) S) fun d _ ι' H'=>∀ v,Rep Γ ι' H' d v->Q v H') (hS:ak Γ ι H S) (hp:H p=none) (r:ao Γ ι H ds xs):Q (.ref p) (upd H p (.tup xs)) :=
 ho ι _ (Ext.laid hp) (hS.laid hp _) _ (.f_ (.of c_) (ao.ext (Ext.laid hp) r))
theorem Out.val {Q:VK} {d:D} {v:V} (ho:Out Γ xw ι H (.ok d S) fun d _ ι' H'=>∀ v,Rep Γ ι' H' d v->Q v H') (hS:ak Γ ι H S) (r:Rep Γ ι H d v):Q v H:=ho.here hS v r
theorem zq:OpR X (binaryOp .Add) (fun x y H Q=>∃ a b ys,x=.ref a/\y=.ref b/\SqT X.K H a []/\SqT X.K H b ys/\Q (.ref b) H):=by
 intro pins s σ H x y v u Q I rx ry h
 obtain ⟨a,b,ys,rfl,rfl,ha,hb,q⟩:=h
 cases rx
 cases ry
 obtain ⟨its,r1,p1,_⟩:=I.tuple ha
 obtain ⟨its2,r2,p2,_⟩:=I.tuple hb
 cases r1
 obtain ⟨⟨cls,dd,data,sl⟩,ho,hc,n,hd⟩:=id p1
 obtain ⟨⟨cls2,dd2,data2,sl2⟩,ho2,hc2,n2,hd2⟩:=id p2
 simp only at hc hd hc2 hd2
 subst hc hd hc2 hd2
 exact concat_meets ⟨_,ho,rfl⟩ ⟨_,ho2,rfl⟩ noFill_tuple_add seq_tuple_add PySem.F.slot_tuple_add PySem.F.entry_tuple_add (PySem.F.args_tuple_add_2 _ _)
  (tuple_addW0 a b _ its2.toArray n n2 dd dd2 sl sl2 rfl) ⟨ho,ho2,⟨.ref b,H,I,rfl,q⟩⟩
theorem Out.guard {α:Type} {b:Bool} {m:M α} {k:α->aa->List Addr->Hp->Prop} (h:Out Γ xw ι H (EV.guard b m S) k):b=true/\Out Γ xw ι H (m S) k:=by
 cases b with
 | true=>exact ⟨rfl,h⟩
 | false=>exact h.elim
theorem dQ {n:Nat} (h:fits n=true):n<=sizeLine:=of_decide_eq_true h
theorem D3 {n:Nat} (h:gH n=true):n < sizeLine:=of_decide_eq_true h
theorem Out.opt {α β:Type} {o:Option α} {f:α->M β} {k:β->aa->List Addr->Hp->Prop} (h:Out Γ xw ι H ((EV.opt o>>=f) S) k):∃ a,o=some a/\Out Γ xw ι H (f a S) k:=by
 cases o with
 | none=>exact h.elim
 | some a=>exact ⟨a,rfl,h⟩
theorem Out.bg {l:Nat} {f:List D->M D} {k:D->aa->List Addr->Hp->Prop} (h:Out Γ xw ι H (EV.bg l f S) k):∃ ds,S[l]?=some (.lst ds)/\Out Γ xw ι H (f ds S) k:=by
 have e:EV.bg l f S=match S[l]? with|some (.lst ds)=>f ds S|_=>.bad:=rfl
 rw [e] at h
 cases q:S[l]? with
 | none=>rw [q] at h; exact h.elim
 | some c =>
  rw [q] at h
  cases c with
  | lst ds=>exact ⟨ds,rfl,h⟩
  | dct kvs=>exact h.elim
theorem ED (hK:Γ.K=X.K):OpR X (binaryOp .Add) (aU Γ xw (opD .add)):=by
 intro pins s σ H x y v u Q I rx ry h
 obtain ⟨ι,S,dx,dy,hS,r1,r2,ho⟩:=h
 cases dx with
 | int i =>
  cases dy with
  | int j=>cases r1; cases r2; exact Cu pins s σ H _ _ v u Q I rx ry ⟨i,j,rfl,rfl,Out.val ho hS (.int _)⟩
  | _=>exact ho.elim
 | str a =>
  cases dy with
  | str b =>
   cases r1; cases r2
   obtain ⟨hz,ho⟩:=Out.guard ho
   exact uS pins s σ H _ _ v u Q I rx ry ⟨a,b,rfl,rfl,dQ hz,Out.val ho hS (.str _)⟩
  | _=>exact ho.elim
 | tup ds =>
  cases dy with
  | tup es =>
   obtain ⟨a,xs,rfl,t1,p1⟩:=r1.bL
   obtain ⟨b,ys,rfl,t2,p2⟩:=r2.bL
   have l1:=p1.length
   have l2:=p2.length
   rw [hK] at t1 t2
   obtain ⟨hz,ho⟩:=Out.guard ho
   have hz:=dQ hz
   cases xs with
   | nil =>
    have e:ds=[]:=List.length_eq_zero_iff.mp l1
    subst e
    exact zq pins s σ H _ _ v u Q I rx ry ⟨a,b,ys,rfl,rfl,t1,t2,Out.val ho hS r2⟩
   | cons z zs =>
    refine E_ pins s σ H _ _ v u Q I rx ry ⟨a,b,z::zs,ys,rfl,rfl,t1,t2,by simp,by rw [<- l1,<- l2]; exact hz,fun e=>?_,fun _ p hp=>?_⟩
    ·subst e
     have e:es=[]:=List.length_eq_zero_iff.mp l2
     subst e
     rw [List.append_nil] at ho
     exact Out.val ho hS r1
    ·exact Out.tup ho hS hp (Paired.app p1 p2)
  | _=>exact ho.elim
 | loc l =>
  cases dy with
  | loc m =>
   obtain ⟨ds,e1,ho⟩:=Out.bg ho
   obtain ⟨es,e2,ho⟩:=Out.bg ho
   obtain ⟨hz,ho⟩:=Out.guard ho
   obtain ⟨a,xs,ha,hx,p1⟩:=hS.lst e1
   obtain ⟨b,ys,hb,hy,p2⟩:=hS.lst e2
   cases r1 with
   | loc q1 =>
    cases r2 with
    | loc q2 =>
     rw [ha] at q1; cases q1
     rw [hb] at q2; cases q2
     exact zp pins s σ H _ _ v u Q I rx ry ⟨a,b,xs,ys,rfl,rfl,hx,hy,by rw [<- p1.length,<- p2.length]; exact dQ hz,fun p hp=>Out.alloc ho hS hp (Paired.app p1 p2)⟩
  | _=>exact ho.elim
 | _=>exact ho.elim
theorem Av:OpR X (binaryOp .Sub) (aU Γ xw (opD .sub)):=by
 intro pins s σ H x y v u Q I rx ry h
 obtain ⟨ι,S,dx,dy,hS,r1,r2,ho⟩:=h
 cases dx with
 | int i =>
  cases dy with
  | int j=>cases r1; cases r2; exact Aj pins s σ H _ _ v u Q I rx ry ⟨i,j,rfl,rfl,Out.val ho hS (.int _)⟩
  | _=>exact ho.elim
 | _=>exact ho.elim
theorem yZ (hK:Γ.K=X.K):OpR X (binaryOp .Mult) (aU Γ xw (opD .mul)):=by
 intro pins s σ H x y v u Q I rx ry h
 obtain ⟨ι,S,dx,dy,hS,r1,r2,ho⟩:=h
 cases dx with
 | int i =>
  cases dy with
  | int j =>
   cases r1; cases r2
   obtain ⟨hz,ho⟩:=Out.guard ho
   refine x_ pins s σ H _ _ v u Q I rx ry ⟨i,j,rfl,rfl,?_,Out.val ho hS (.int _)⟩
   rcases Bool.or_eq_true_iff.mp hz with hz|hz
   ·exact .inl (of_decide_eq_true hz)
   ·exact .inr (of_decide_eq_true hz)
  | _=>exact ho.elim
 | tup ds =>
  cases dy with
  | int j =>
   obtain ⟨a,xs,rfl,t1,p1⟩:=r1.bL
   have l1:=p1.length
   rw [hK] at t1
   cases r2
   obtain ⟨hz,ho⟩:=Out.guard ho
   rw [Bool.and_eq_true,Bool.and_eq_true] at hz
   refine uW pins s σ H _ _ v u Q I rx ry ⟨a,j,xs,rfl,rfl,t1,of_decide_eq_true hz.1.1,of_decide_eq_true hz.1.2,by rw [<- l1]; exact dQ hz.2,fun e=>?_,fun p hp=>?_⟩
   ·have e2:(List.replicate j.toNat ds).flatten=ds:=by
     rcases e with e|e
     ·subst e
      have e:ds=[]:=List.length_eq_zero_iff.mp l1
      subst e
      simp
     ·subst e; simp
    rw [e2] at ho
    exact Out.val ho hS r1
   ·exact Out.tup ho hS hp (Paired.rep p1 _)
  | _=>exact ho.elim
 | loc l =>
  cases dy with
  | int j =>
   obtain ⟨ds,hl,ho⟩:=Out.bg ho
   obtain ⟨a,xs,ha,hx,p1⟩:=hS.lst hl
   cases r2
   cases r1 with
   | loc q =>
    rw [ha] at q; cases q
    obtain ⟨hz,ho⟩:=Out.guard ho
    rw [Bool.and_eq_true,Bool.and_eq_true] at hz
    exact Cd pins s σ H _ _ v u Q I rx ry ⟨a,j,xs,rfl,rfl,hx,of_decide_eq_true hz.1.1,of_decide_eq_true hz.1.2,by rw [<- p1.length]; exact dQ hz.2,fun p hp=>Out.alloc ho hS hp (Paired.rep p1 _)⟩
  | _=>exact ho.elim
 | _=>exact ho.elim
theorem vM:OpR X (binaryOp .FloorDiv) (aU Γ xw (opD .fdiv)):=by
 intro pins s σ H x y v u Q I rx ry h
 obtain ⟨ι,S,dx,dy,hS,r1,r2,ho⟩:=h
 cases dx with
 | int i =>
  cases dy with
  | int j =>
   cases r1; cases r2
   obtain ⟨hz,ho⟩:=Out.guard ho
   rw [Bool.and_eq_true] at hz
   exact u0 pins s σ H _ _ v u Q I rx ry ⟨i,j,rfl,rfl,⟨of_decide_eq_true hz.1,of_decide_eq_true hz.2⟩,Out.val ho hS (.int _)⟩
  | _=>exact ho.elim
 | _=>exact ho.elim
theorem Fv:OpR X (binaryOp .Mod) (aU Γ xw (opD .mod)):=by
 intro pins s σ H x y v u Q I rx ry h
 obtain ⟨ι,S,dx,dy,hS,r1,r2,ho⟩:=h
 cases dx with
 | int i =>
  cases dy with
  | int j =>
   cases r1; cases r2
   obtain ⟨hz,ho⟩:=Out.guard ho
   exact AE pins s σ H _ _ v u Q I rx ry ⟨i,j,rfl,rfl,of_decide_eq_true hz,Out.val ho hS (.int _)⟩
  | _=>exact ho.elim
 | _=>exact ho.elim
theorem BA:OpR X (binaryOp .Pow) (aU Γ xw (opD .pow)):=by
 intro pins s σ H x y v u Q I rx ry h
 obtain ⟨ι,S,dx,dy,hS,r1,r2,ho⟩:=h
 cases dx with
 | int i =>
  cases dy with
  | int j =>
   cases r1; cases r2
   obtain ⟨hz,ho⟩:=Out.guard ho
   rw [Bool.and_eq_true,Bool.and_eq_true] at hz
   have h2:j<=1000:=of_decide_eq_true hz.1.2
   exact EK pins s σ H _ _ v u Q I rx ry ⟨i,j,rfl,rfl,⟨of_decide_eq_true hz.1.1,by omega,of_decide_eq_true hz.2⟩,Out.val ho hS (.int _)⟩
  | _=>exact ho.elim
 | _=>exact ho.elim
theorem jw {op:CmpOp} {p:Int->Int->Bool} (h0:OpR X (compareOp op) (rI0 fun i j=>.bl (p i j))):OpR X (compareOp op) (aU Γ xw (fU p)):=by
 intro pins s σ H x y v u Q I rx ry h
 obtain ⟨ι,S,dx,dy,hS,r1,r2,ho⟩:=h
 cases dx with
 | int i =>
  cases dy with
  | int j=>cases r1; cases r2; exact h0 pins s σ H _ _ v u Q I rx ry ⟨i,j,rfl,rfl,Out.val ho hS (.bl _)⟩
  | _=>exact ho.elim
 | _=>exact ho.elim
theorem vG:OpR X (compareOp .Lt) (aU Γ xw (cmD .lt)):=jw An
theorem yQ:OpR X (compareOp .LtE) (aU Γ xw (cmD .le)):=jw BY
theorem vK:OpR X (compareOp .Gt) (aU Γ xw (cmD .gt)):=jw yY
theorem E9:OpR X (compareOp .GtE) (aU Γ xw (cmD .ge)):=jw DP
theorem rO {dx dy:D} {f:Bool->M D} {k:D->aa->List Addr->Hp->Prop} (ho:Out Γ xw ι H ((eqM dx dy>>=f) S) k):∃ b,eqD deep S dx dy=some b/\Out Γ xw ι H (f b S) k:=by
 rw [bX] at ho
 unfold eqM at ho
 cases q:eqD deep S dx dy with
 | none=>rw [q] at ho; exact ho.elim
 | some b=>rw [q] at ho; exact ⟨b,rfl,ho⟩
theorem s_eq (hK:Γ.K=X.K) (hu:X.A.units+64 < cLine):OpR X (compareOp .Eq) (aU Γ xw (cmD .eq)):=by
 intro pins s σ H x y v u Q I rx ry h
 obtain ⟨ι,S,dx,dy,hS,r1,r2,ho⟩:=h
 obtain ⟨k,q,ho⟩:=rO ho
 have:=(l_ hK I hS deep X.A dx dy k x y v u q r1 r2 rx ry (by unfold deep; omega)).1
 exact this X.prog X.w X.xe _ ⟨.bl k,H,I,rfl,Out.val ho hS (.bl _)⟩
end
end EV

namespace EV
open PySem PySem.Spec PyProof.Rows L2
open PySem.SeqAt (EqAt RcAt)
section
variable {X:Cx} {Γ:Gx} {xw:XW} {pins:List (Addr × Obj)} {σ:L2.St} {H:Hp} {s:Shared} {ι:List Addr} {S:aa}
theorem pG (hK:Γ.K=X.K) (I:Inv X pins σ H s) (hS:ak Γ ι H S) {n:Nat} {A:Around} (hu:A.units+n < cLine) {ds es:List D} {xs ys:List V} {its1 its2:List Value} {e:Nat->Bool} (rp1:ao Γ ι H ds xs) (rp2:ao Γ ι H es ys)
  (rv1:Vals xs its1) (rv2:Vals ys its2) (he:∀ (j:Nat) x y,ds[j]?=some x->es[j]?=some y->eqD n S x y=some (e j)) (j:Nat) (h1:j < its1.toArray.size) (h2:j < its2.toArray.size):EqAt A s its1.toArray[j] its2.toArray[j] (e j):=by
 rw [List.size_toArray] at h1 h2
 have l1:=rp1.length
 have l2:=rp2.length
 have l3:=rv1.length
 have l4:=rv2.length
 have j1:j < ds.length:=by omega
 have j2:j < es.length:=by omega
 obtain ⟨y1,a1,a2⟩:=Paired.get rp1 (List.getElem?_eq_getElem j1)
 obtain ⟨y2,a3,a4⟩:=Paired.get rp2 (List.getElem?_eq_getElem j2)
 obtain ⟨w1,z1,z2⟩:=rv1.get a1
 obtain ⟨w2,z3,z4⟩:=rv2.get a3
 have:=(l_ hK I hS n A ds[j] es[j] (e j) y1 y2 w1 w2 (he j _ _ (List.getElem?_eq_getElem j1) (List.getElem?_eq_getElem j2)) a2 a4 z2 z4 hu).2
 have q1:its1.toArray[j]'(by rw [List.size_toArray]; exact h1)=w1:=by
  have:its1[j]?=some its1[j]:=List.getElem?_eq_getElem h1
  rw [z1] at this; cases this; rfl
 have q2:its2.toArray[j]'(by rw [List.size_toArray]; exact h2)=w2:=by
  have:its2[j]?=some its2[j]:=List.getElem?_eq_getElem h2
  rw [z3] at this; cases this; rfl
 rw [q1,q2]; exact this
theorem Fq (n:Nat) (S:aa) (xs ys:List D):eqD (n+1) S (.tup xs) (.tup ys)=(bf (eqD n S) xs ys).map fun r=>r&&(xs.length==ys.length):=rfl
theorem Cy (n:Nat) (S:aa) (a b:D) (h1:a.kd=.list) (h2:b.kd=.list):eqD (n+1) S a b=match asL S a,asL S b with
  | some xs,some ys=>if xs.length=ys.length then bf (eqD n S) xs ys else some false
  | _,_=>none:=by simp only [eqD,h1,h2] <;> rfl
theorem wV {a b:D} (h:ee a b=true):(a.kd=.flat/\b.kd=.flat)\/(a.kd=.tup/\b.kd=.tup)\/(a.kd=.list/\b.kd=.list)\/∃ xs y,a=.tup xs/\b=.str y:=by
 cases a <;> cases b <;> first|exact .inl ⟨rfl,rfl⟩|exact .inr (.inl ⟨rfl,rfl⟩)|exact .inr (.inr (.inl ⟨rfl,rfl⟩))|exact .inr (.inr (.inr ⟨_,_,rfl,rfl⟩))|cases h
theorem Dm {S:aa} {a b:D} (e1:a.kd=.flat) (e2:b.kd=.flat):eqD deep S a b=bh a b:=by
 show eqD (11+1) S a b=_
 simp only [eqD,e1,e2]
theorem zX {S:aa} {a b:D} {x y:V} {k:Bool} (hn:ee a b=true) (q:eqD deep S a b=some k) (r1:Rep Γ ι H a x) (r2:Rep Γ ι H b y) (e1:a.kd=.flat) (e2:b.kd=.flat):tE x y=true/\(decide (x=y))=k:=by
 rw [Dm e1 e2] at q
 clear S
 cases r1 <;> first|(cases e1; done)|skip
 all_goals (cases r2 <;> first|(cases e2; done)|(cases hn; done)|skip)
 all_goals (refine ⟨rfl,?_⟩; simp [bh] at q; subst q; first|rfl|(rw [show (decide _:Bool)=_ from kB]; done)|(rw [show (decide _:Bool)=_ from kB])|rw [p8]|rw [tO]|simp)
theorem CV (hK:Γ.K=X.K) (hu:X.A.units+64 < cLine):OpR X (compareOp .NotEq) (aU Γ xw (cmD .ne)):=by
 intro pins s σ H x y v u Q I rx ry h
 obtain ⟨ι,S,dx,dy,hS,r1,r2,ho⟩:=h
 obtain ⟨hn,ho⟩:=Out.guard ho
 obtain ⟨k,q,ho⟩:=rO ho
 have fin:Q (.bl (!k)) H:=Out.val ho hS (.bl _)
 have hu0:X.A.units < cLine:=by omega
 have hd:deep=11+1:=rfl
 rcases wV hn with ⟨e1,e2⟩|⟨e1,e2⟩|⟨e1,e2⟩|⟨xs0,y0,rfl,rfl⟩
 ·obtain ⟨z1,z2⟩:=zX hn q r1 r2 e1 e2
  exact AH pins s σ H _ _ v u Q I rx ry ⟨z1,by rw [z2]; exact fin⟩
 ·-- tuples
  cases dx <;> first|(cases e1; done)|skip
  cases dy <;> first|(cases e2; done)|skip
  obtain ⟨a,xs,rfl,t1,p1⟩:=r1.bL
  obtain ⟨b,ys,rfl,t2,p2⟩:=r2.bL
  cases rx
  cases ry
  rw [hK] at t1 t2
  obtain ⟨its1,rv1,pt1,_⟩:=I.tuple t1
  obtain ⟨its2,rv2,pt2,_⟩:=I.tuple t2
  rw [hd,Fq,Option.map_eq_some_iff] at q
  obtain ⟨r,hr,hk⟩:=q
  obtain ⟨e,he,hk2⟩:=gx hr
  refine NEQ.wQ (same:=e) pt1 pt2 hu0 (pG hK I hS (by show X.A.units+1+11 < _; omega) p1 p2 rv1 rv2 he) ?_
  rw [List.size_toArray,List.size_toArray,<- rv1.length,<- rv2.length,<- p1.length,<- p2.length,<- hk2,hk]
  exact ⟨.bl (!k),H,I,rfl,fin⟩
 ·-- lists
  rw [hd,Cy _ _ _ _ e1 e2] at q
  split at q
  ·rename_i ds es h1 h2
   obtain ⟨a,xs,rfl,s1,p1⟩:=hS.list r1 h1
   obtain ⟨b,ys,rfl,s2,p2⟩:=hS.list r2 h2
   cases rx
   cases ry
   rw [hK] at s1 s2
   obtain ⟨its1,rv1,pl1,_⟩:=I.list s1
   obtain ⟨its2,rv2,pl2,_⟩:=I.list s2
   have z1:its1.toArray.size=ds.length:=by rw [List.size_toArray,<- rv1.length,<- p1.length]
   have z2:its2.toArray.size=es.length:=by rw [List.size_toArray,<- rv2.length,<- p2.length]
   by_cases hlen:ds.length=es.length
   ·rw [if_pos hlen] at q
    obtain ⟨e,he,hk2⟩:=gx q
    refine NEQ.Er (same:=e) pl1.isList pl2.isList (by omega) hu0 (pG hK I hS (by show X.A.units+1+11 < _; omega) p1 p2 rv1 rv2 he) ?_
    rw [z1,show (List.range ds.length).all e=k by rw [hk2,<- hlen,Nat.min_self]]
    exact ⟨.bl (!k),H,I,rfl,fin⟩
   ·rw [if_neg hlen] at q
    cases q
    exact NEQ.Cq pl1.isList pl2.isList (by rw [z1,z2]; simpa using hlen) hu0 ⟨.bl true,H,I,rfl,fin⟩
  ·cases q
 ·-- a tuple and a text
  cases (show some false=some k from q)
  obtain ⟨a,xs,rfl,t1,p1⟩:=r1.bL
  cases r2
  cases rx
  obtain ⟨tk,rfl⟩:=(show ∃ tk,u=Value.str y0 tk from ry)
  rw [hK] at t1
  obtain ⟨its1,rv1,pt1,_⟩:=I.tuple t1
  exact PySem.SeqAt.RcNeAt.tuple_str y0 tk pt1 hu0 _ _ _ _ ⟨.bl true,H,I,rfl,fin⟩
theorem Rep.inj (hK:Γ.K=X.K) (I:Inv X pins σ H s) (hS:ak Γ ι H S) {d:D} {v:V} (r:Rep Γ ι H d v):∀ {d':D},Rep Γ ι H d' v->d=d':=by
 obtain ⟨K⟩:=Γ
 have hK':K=X.K:=hK
 subst hK'
 have tl:∀ {a:Addr} {xs ys:List V},SqT X.K H a xs->SqL X.K H a ys->False:=fun {a xs ys} ht hl=>by
  obtain ⟨its,_,pl,_⟩:=I.list hl
  obtain ⟨its2,_,pt,_⟩:=I.tuple ht
  exact absurd rfl (SeqAt.ne_of_list_tuple pl.isList pt)
 have td:∀ {a:Addr} {xs:List V} {kvs:List (List Key × V)},SqT X.K H a xs->H a=some (.dT kvs)->False:=fun {a xs kvs} ht hd=>by
  obtain ⟨its2,_,⟨o,e1,_,n,e2⟩,_⟩:=I.tuple ht
  obtain ⟨_,_,_,_,o',es,ep,h1,_,h2,_⟩:=(show bR X.prog X.w H s.heap a (.dT kvs) from I.hok a _ hd)
  rw [e1] at h1; cases h1
  rw [e2] at h2; cases h2
 have tll:∀ {l:Nat} {a:Addr} {xs:List V},SqT X.K H a xs->((∃ ys,H a=some (.lst ys))\/∃ ys,H a=some (.dT ys))->False:=fun {l a xs} ht h=>by
  rcases h with ⟨ys,hy⟩|⟨ys,hy⟩
  ·exact tl ht (.of hy)
  ·exact td ht hy
 have ll:∀ {l:Nat} {a:Addr},ι[l]?=some a->(∃ xs,H a=some (.lst xs))\/∃ xs,H a=some (.dT xs):=fun {l a} q=>by
  have hl:l < S.length:=by rw [<- hS.len]; exact (List.getElem?_eq_some_iff.mp q).1
  obtain ⟨b,hb,c⟩:=hS.cell l S[l] (List.getElem?_eq_getElem hl)
  rw [q] at hb; cases hb
  cases e:S[l] with
  | lst ds=>rw [e] at c; obtain ⟨xs,hx,_⟩:=c; exact .inl ⟨xs,hx⟩
  | dct kvs=>rw [e] at c; obtain ⟨xs,hx,_⟩:=c; exact .inr ⟨xs,hx⟩
 have fl:∀ {l:Nat} {a:Addr} {xs:List V},Fro X.K H a xs->ι[l]?=some a->False:=fun {l a xs} hf q=>by
  obtain ⟨ob,hy,hno⟩:∃ ob,H a=some ob/\∀ o u,ob≠.frz o u:=by
   rcases ll q with ⟨ys,hy⟩|⟨ys,hy⟩
   ·exact ⟨_,hy,fun _ _ z=>by cases z⟩
   ·exact ⟨_,hy,fun _ _ z=>by cases z⟩
  rcases hf with ⟨o,hf⟩|hf
  ·rw [hy] at hf; exact hno _ _ (Option.some.inj hf)
  ·rcases hf (fun _=>none) with (z|⟨_,z⟩)|z
   ·cases z
   ·cases z
   ·obtain ⟨o,_,_,hk,_⟩:=z
    have hb:X.base.get? a=some o:=I.ok.mod.kin a o hk
    have:=(I.bs a o hb).2
    rw [hy] at this; cases this
 induction r with
 | non=>intro d' r'; cases r'; rfl
 | bl b=>intro d' r'; cases r'; rfl
 | int i=>intro d' r'; cases r'; rfl
 | str x=>intro d' r'; cases r'; rfl
 | @tup ds a xs t1 l1 p1 ih =>
  intro d' r'
  cases r' with
  | @tup es _ ys t2 l2 p2 =>
   have e:xs=ys:=I.iR t1 t2
   subst e
   congr 1
   refine List.ext_getElem? fun j=>?_
   by_cases hj:j < ds.length
   ·have h1:=List.getElem?_eq_getElem hj
    have h2:es[j]?=some es[j]:=List.getElem?_eq_getElem (by omega)
    have h3:xs[j]?=some xs[j]:=List.getElem?_eq_getElem (by omega)
    rw [h1,h2,ih j _ _ h1 h3 (p2 j _ _ h2 h3)]
   ·rw [List.getElem?_eq_none (by omega),List.getElem?_eq_none (by omega)]
  | fro f2 _ _=>exact (tl t1 f2.sq).elim
  | loc q=>exact (tll (l:=0) t1 (ll q)).elim
 | @fro ds a xs f1 l1 p1 ih =>
  intro d' r'
  cases r' with
  | tup t2 _ _=>exact (tl t2 f1.sq).elim
  | @fro es _ ys f2 l2 p2 =>
   have e:xs=ys:=I.jf f1.sq f2.sq
   subst e
   congr 1
   refine List.ext_getElem? fun j=>?_
   by_cases hj:j < ds.length
   ·have h1:=List.getElem?_eq_getElem hj
    have h2:es[j]?=some es[j]:=List.getElem?_eq_getElem (by omega)
    have h3:xs[j]?=some xs[j]:=List.getElem?_eq_getElem (by omega)
    rw [h1,h2,ih j _ _ h1 h3 (p2 j _ _ h2 h3)]
   ·rw [List.getElem?_eq_none (by omega),List.getElem?_eq_none (by omega)]
  | loc q=>exact (fl f1 q).elim
 | @loc l a q =>
  intro d' r'
  cases r' with
  | tup t2 _ _=>exact (tll (l:=0) t2 (ll q)).elim
  | fro f2 _ _=>exact (fl f2 q).elim
  | loc q'=>rw [jD hS.nd q q']
theorem nR {x:D}:∀ {ys:List D} {k:Bool},inL S x ys=some k->(∀ y∈ys,eqD deep S y x=some ((eqD deep S y x).getD false))/\k=ys.any fun y=>(eqD deep S y x).getD false
 | [],k,h=>⟨fun y hy=>absurd hy (by simp),by cases h; rfl⟩
 | y::ys,k,h=>by
  simp only [inL] at h
  split at h
  ·rename_i a b e1 e2
   cases h
   obtain ⟨he,hk⟩:=nR e2
   refine ⟨fun z hz=>?_,?_⟩
   ·rcases List.mem_cons.mp hz with rfl|hz
    ·simp [e1]
    ·exact he z hz
   ·rw [List.any_cons,<- hk]; simp [e1]
  ·cases h
theorem jo (hK:Γ.K=X.K) (I:Inv X pins σ H s) (hS:ak Γ ι H S) {A:Around} (hu:A.units+deep < cLine) {dx:D} {x:V} {v:Value} (r1:Rep Γ ι H dx x) (rx:RelV x v) {ds:List D} {xs:List V} {its:List Value} {k:Bool} (h:inL S dx ds=some k)
  (p:ao Γ ι H ds xs) (rv:Vals xs its):∃ e:Value->Bool,(∀ y,y∈its.toArray->EqAt A s y v (e y))/\its.toArray.any e=k:=by
 classical
 obtain ⟨h1,h2⟩:=nR h
 have key:∀ (d:D) (w:V) (u:Value),d∈ds->Rep Γ ι H d w->RelV w u->∀ (d':D) (w':V),Rep Γ ι H d' w'->RelV w' u->d'=d:=fun d w u _ r q d' w' r' q'=>by
  have e:w'=w:=q'.inj q
  subst e
  exact (Rep.inj hK I hS r' r)
 refine ⟨fun u=>decide (∃ d w,d∈ds/\Rep Γ ι H d w/\RelV w u/\(eqD deep S d dx).getD false=true),fun u hu'=>?_,?_⟩
 ·have hm:u∈its:=by simpa using hu'
  obtain ⟨j,hj⟩:=List.getElem?_of_mem hm
  obtain ⟨w,hw,q⟩:=Paired.get' rv hj
  obtain ⟨d,hd,r⟩:=Paired.get' p hw
  have hd':=List.mem_of_getElem? hd
  have e:=(l_ hK I hS deep A d dx _ w x u v (h1 d hd') r r1 q rx hu).2
  have:decide (∃ d w,d∈ds/\Rep Γ ι H d w/\RelV w u/\(eqD deep S d dx).getD false=true)=(eqD deep S d dx).getD false:=by
   cases z:(eqD deep S d dx).getD false with
   | true=>exact decide_eq_true ⟨d,w,hd',r,q,z⟩
   | false =>
    refine decide_eq_false ?_
    rintro ⟨d',w',_,r',q',z'⟩
    rw [key d w u hd' r q d' w' r' q',z] at z'
    cases z'
  show EqAt A s u v (decide (∃ d w,d∈ds/\Rep Γ ι H d w/\RelV w u/\(eqD deep S d dx).getD false=true))
  rw [this]; exact e
 ·rw [h2]
  rw [Bool.eq_iff_iff]
  simp only [Array.any_eq_true',List.any_eq_true,decide_eq_true_eq]
  constructor
  ·rintro ⟨u,hu',d,w,hd,r,q,z⟩
   exact ⟨d,hd,z⟩
  ·rintro ⟨d,hd,z⟩
   obtain ⟨j,hj⟩:=List.getElem?_of_mem hd
   obtain ⟨w,hw,r⟩:=Paired.get p hj
   obtain ⟨u,hu',q⟩:=rv.get hw
   exact ⟨u,by simpa using List.mem_of_getElem? hu',d,w,hd,r,q,z⟩
theorem ia (d:D) (S:aa):(∃ ds,items d S=.ok ds S)\/items d S=.bad:=by
 cases d with
 | tup ds=>exact .inl ⟨ds,rfl⟩
 | fro ds=>exact .inl ⟨ds,rfl⟩
 | loc l =>
  rw [nC]
  cases listAt S l with
  | none=>exact .inr rfl
  | some ds=>exact .inl ⟨ds,rfl⟩
 | _=>exact .inr rfl
theorem Out.items {α:Type} {d:D} {f:List D->M α} {k:α->aa->List Addr->Hp->Prop} (ho:Out Γ xw ι H ((EV.items d>>=f) S) k):∃ ds,EV.items d S=.ok ds S/\Out Γ xw ι H (f ds S) k:=by
 rcases ia d S with ⟨ds,e⟩|e
 ·rw [aj e] at ho; exact ⟨ds,e,ho⟩
 ·rw [aR e] at ho; exact ho.elim
theorem Out.v7 {α:Type} {o:Option α} {k:α->aa->List Addr->Hp->Prop} (ho:Out Γ xw ι H (EV.opt o S) k):∃ a,o=some a/\Out Γ xw ι H (.ok a S) k:=by
 cases o with
 | none=>exact ho.elim
 | some a=>exact ⟨a,rfl,ho⟩
theorem tR {neg:Bool} {a b:D} {k:D->aa->List Addr->Hp->Prop} (ho:Out Γ xw ι H (inM neg a b S) k):∃ ds c,items b S=.ok ds S/\inL S a ds=some c/\Out Γ xw ι H (.ok (.bl (c != neg)) S) k:=by
 obtain ⟨ds,e,ho⟩:=Out.items ho
 unfold inA at ho
 cases q:inL S a ds with
 | none=>rw [q] at ho; exact ho.elim
 | some c=>rw [q] at ho; exact ⟨ds,c,e,q,ho⟩
theorem b7 (hS:ak Γ ι H S) {d:D} {v:V} {ds:List D} {S':aa} (r:Rep Γ ι H d v) (h:items d S=.ok ds S'):S'=S/\∃ a xs,v=.ref a/\(SqL Γ.K H a xs\/SqT Γ.K H a xs)/\ao Γ ι H ds xs/\(∀ l,d=.loc l->SqL Γ.K H a xs):=by
 cases d with
 | tup es=>cases h; obtain ⟨a,xs,e,t,p⟩:=r.bL; exact ⟨rfl,a,xs,e,.inr t,p,fun l e=>by cases e⟩
 | fro es=>cases h; obtain ⟨a,xs,e,f,p⟩:=r.e_; exact ⟨rfl,a,xs,e,.inl f.sq,p,fun l e=>by cases e⟩
 | loc l =>
  have h':(match listAt S l with|some ds=>Res.ok ds S|none=>.bad)=.ok ds S':=h
  cases q:listAt S l with
  | none=>rw [q] at h'; cases h'
  | some es =>
   rw [q] at h'
   cases h'
   obtain ⟨a,xs,e,t,p⟩:=hS.list r (show asL S (.loc l)=some ds from q)
   exact ⟨rfl,a,xs,e,.inl t,p,fun _ _=>t⟩
 | _=>cases h
theorem wN (hK:Γ.K=X.K) (hu:X.A.units+64 < cLine):OpR X (compareOp .In) (aU Γ xw (inM false)):=by
 intro pins s σ H x y v u Q I rx ry h
 obtain ⟨ι,S,dx,dy,hS,r1,r2,ho⟩:=h
 obtain ⟨ds,c,h1,h2,ho⟩:=tR ho
 have fin:Q (.bl c) H:=by have:=Out.val ho hS (.bl _); simpa using this
 obtain ⟨_,a,xs,rfl,sq,p,_⟩:=b7 hS r2 h1
 cases ry
 rw [hK] at sq
 rcases sq with sq|sq
 ·obtain ⟨its,rv,pl,_⟩:=I.list sq
  obtain ⟨e,he,hk⟩:=jo hK I hS (A:=X.A.in1) (by show X.A.units+1+12 < cLine; omega) r1 rx h2 p rv
  exact SeqAt.in_listAt e pl.isList he (by rw [hk]; exact ⟨.bl c,H,I,rfl,fin⟩)
 ·obtain ⟨its,rv,pl,_⟩:=I.tuple sq
  obtain ⟨e,he,hk⟩:=jo hK I hS (A:=X.A.in1) (by show X.A.units+1+12 < cLine; omega) r1 rx h2 p rv
  exact SeqAt.in_tupleAt e pl he (by rw [hk]; exact ⟨.bl c,H,I,rfl,fin⟩)
theorem wL (hK:Γ.K=X.K) (hu:X.A.units+64 < cLine):OpR X (compareOp .NotIn) (aU Γ xw (inM true)):=by
 intro pins s σ H x y v u Q I rx ry h
 obtain ⟨ι,S,dx,dy,hS,r1,r2,ho⟩:=h
 obtain ⟨ds,c,h1,h2,ho⟩:=tR ho
 have fin:Q (.bl (!c)) H:=by have:=Out.val ho hS (.bl _); simpa using this
 obtain ⟨_,a,xs,rfl,sq,p,_⟩:=b7 hS r2 h1
 cases ry
 rw [hK] at sq
 rcases sq with sq|sq
 ·obtain ⟨its,rv,pl,_⟩:=I.list sq
  obtain ⟨e,he,hk⟩:=jo hK I hS (A:=X.A.in1) (by show X.A.units+1+12 < cLine; omega) r1 rx h2 p rv
  exact SeqAt.notIn_listAt e pl.isList he (by rw [hk]; exact ⟨.bl (!c),H,I,rfl,fin⟩)
 ·obtain ⟨its,rv,pl,_⟩:=I.tuple sq
  obtain ⟨e,he,hk⟩:=jo hK I hS (A:=X.A.in1) (by show X.A.units+1+12 < cLine; omega) r1 rx h2 p rv
  exact SeqAt.notIn_tupleAt e pl he (by rw [hk]; exact ⟨.bl (!c),H,I,rfl,fin⟩)
theorem CF (hK:Γ.K=X.K):nQ X (fun x H Q=>∃ ι S d,ak Γ ι H S/\Rep Γ ι H d x/\Out Γ xw ι H (truth d S) fun b _ _ H'=>Q b H'):=by
 intro pins s σ H x v Q I rx h
 obtain ⟨ι,S,d,hS,r,ho⟩:=h
 refine wU pins s σ H x v Q I rx ?_
 cases d with
 | bl b=>cases r; exact ⟨b,rfl,ho.here hS⟩
 | non=>cases r; exact ⟨false,rfl,ho.here hS⟩
 | int i=>cases r; exact ⟨_,rfl,ho.here hS⟩
 | tup ds =>
  obtain ⟨a,xs,rfl,t,p⟩:=r.bL
  rw [hK] at t
  refine ⟨!ds.isEmpty,.inr (.inl ⟨xs,t,?_⟩),ho.here hS⟩
  cases p <;> rfl
 | fro ds =>
  obtain ⟨a,xs,rfl,t,p⟩:=r.e_
  have t:=t.sq
  rw [hK] at t
  refine ⟨!ds.isEmpty,.inl ⟨xs,t,?_⟩,ho.here hS⟩
  cases p <;> rfl
 | loc l =>
  obtain ⟨ds,q,ho'⟩:=Out.items ho
  obtain ⟨_,a,xs,rfl,_,p,t⟩:=b7 hS r q
  ·have t:=t l rfl
   rw [hK] at t
   refine ⟨!ds.isEmpty,.inl ⟨xs,t,?_⟩,ho'.here hS⟩
   cases p <;> rfl
 | _=>exact ho.elim
theorem AK {ds:List D} {xs:List V} {i:Int} {d:D} (p:ao Γ ι H ds xs) (h:EV.atI ds i=some d):∃ v,L2.atI xs i=some v/\Rep Γ ι H d v:=by
 unfold EV.atI at h
 cases e:EV.ixN ds.length i with
 | none=>rw [e] at h; cases h
 | some j =>
  rw [e] at h
  obtain ⟨v,hv,r⟩:=Paired.get p h
  refine ⟨v,?_,r⟩
  have e':L2.ixN xs.length i=some j:=by rw [<- p.length]; exact e
  unfold L2.atI
  rw [e']
  exact hv
theorem yM (hK:Γ.K=X.K):IxR X (aU Γ xw ixD):=by
 intro value slice pins s σ H x y v u Q I rx ry h hsub
 obtain ⟨ι,S,dx,dy,hS,r1,r2,ho⟩:=h
 cases dy with
 | int j =>
  cases r2
  obtain ⟨ds,q,ho'⟩:=Out.items ho
  obtain ⟨d,q2,ho'⟩:=Out.v7 ho'
  obtain ⟨_,a,xs,rfl,sq,p,_⟩:=b7 hS r1 q
  ·rw [hK] at sq
   ·obtain ⟨w,hw,rw'⟩:=AK p q2
    have fin:=Out.val ho' hS rw'
    rcases sq with sq|sq
    ·exact Dq value slice pins s σ H _ _ v u Q I rx ry ⟨a,xs,j,w,rfl,rfl,sq,hw,fin⟩ hsub
    ·exact zK value slice pins s σ H _ _ v u Q I rx ry ⟨a,xs,j,w,rfl,rfl,sq,hw,fin⟩ hsub
 | _=>exact ho.elim
theorem xT:SlR X (fun x lo hi H Q=>∃ a xs,x=.ref a/\SqT X.K H a xs/\(HT.sIx xs.length 0 lo=0/\HT.sIx xs.length xs.length hi=xs.length)/\Q (.ref a) H):=by
 intro pins s σ H x v vl vu lo hi sl Q I rx hs pl pu h
 obtain ⟨a,xs,rfl,hx,hw,q⟩:=h
 cases rx
 obtain ⟨its,r,ht,hz⟩:=I.tuple hx
 have hlen:its.toArray.size=xs.length:=by rw [List.size_toArray]; exact r.length.symm
 exact ⟨"tuple",_,PyProof.Rows.slot_tuple_getitem.lookup,ht.typeIs,HT.wu ht hs pl pu (by rw [hlen]; exact hw) ⟨.ref a,H,I,rfl,q⟩⟩
theorem kR {ds:List D} {xs:List V} (p:ao Γ ι H ds xs) (lo hi:Option Int):ao Γ ι H (cut ds lo hi) (dh xs lo hi):=by
 have e:∀ n d o,EV.sIx n d o=HT.sIx n d o:=fun n d o=>by cases o <;> rfl
 unfold cut dh
 rw [e,e,p.length]
 exact Paired.tak _ (Paired.drp _ p)
theorem zc (hK:Γ.K=X.K):SlR X (fun x lo hi H Q=>∃ ι S d,ak Γ ι H S/\Rep Γ ι H d x/\Out Γ xw ι H (slD d lo hi S) fun d _ ι' H'=>∀ v,Rep Γ ι' H' d v->Q v H'):=by
 intro pins s σ H x v vl vu lo hi sl Q I rx hs pl pu h
 obtain ⟨ι,S,d,hS,r,ho⟩:=h
 cases d with
 | tup ds =>
  obtain ⟨a,xs,rfl,t,p⟩:=r.bL
  rw [hK] at t
  have pc:=kR p lo hi
  by_cases hw:HT.sIx xs.length 0 lo=0/\HT.sIx xs.length xs.length hi=xs.length
  ·have e:dh xs lo hi=xs:=by unfold dh; rw [hw.1,hw.2]; simp
   rw [e] at pc
   refine xT pins s σ H _ v vl vu lo hi sl Q I rx hs pl pu ⟨a,xs,rfl,t,hw,Out.val ho hS (.f_ (by rw [hK]; exact t) pc)⟩
  ·exact uB pins s σ H _ v vl vu lo hi sl Q I rx hs pl pu ⟨a,xs,rfl,t,hw,fun q hq=>Out.tup ho hS hq pc⟩
 | fro ds =>
  obtain ⟨a,xs,rfl,t,p⟩:=r.e_
  have t:=t.sq
  rw [hK] at t
  exact rV pins s σ H _ v vl vu lo hi sl Q I rx hs pl pu ⟨a,xs,rfl,t,fun q hq=>Out.alloc ho hS hq (kR p lo hi)⟩
 | loc l =>
  obtain ⟨ds,q,ho'⟩:=Out.items ho
  obtain ⟨_,a,xs,rfl,_,p,t⟩:=b7 hS r q
  ·have t:=t l rfl
   rw [hK] at t
   exact rV pins s σ H _ v vl vu lo hi sl Q I rx hs pl pu ⟨a,xs,rfl,t,fun q hq=>Out.alloc ho' hS hq (kR p lo hi)⟩
 | _=>exact ho.elim
end
end EV

namespace EV
open PySem PySem.Spec PyProof.Rows L2
theorem ints_map:∀ {ds:List D} {is:List Int},allInts ds=some is->ds=is.map D.int
 | [],is,h=>by cases h; rfl
 | d::r,is,h=>by
  cases d with
  | int i =>
   simp only [allInts,Option.map_eq_some_iff] at h
   obtain ⟨js,e,rfl⟩:=h
   rw [ints_map e]; rfl
  | _=>cases h
theorem rP:∀ {ds:List D} {is:List Bool},dc ds=some is->ds=is.map D.bl
 | [],is,h=>by cases h; rfl
 | d::r,is,h=>by
  cases d with
  | bl i =>
   simp only [dc,Option.map_eq_some_iff] at h
   obtain ⟨js,e,rfl⟩:=h
   rw [rP e]; rfl
  | _=>cases h
theorem eG {Γ:Gx} {ι:List Addr} {H:Hp}:∀ {is:List Int} {xs:List V},ao Γ ι H (is.map D.int) xs->xs=is.map V.int
 | [],_,.nil=>rfl
 | i::r,_,.cons (b:=y) h t=>by
  cases h
  rw [eG t]; rfl
theorem nJ {Γ:Gx} {ι:List Addr} {H:Hp}:∀ {is:List Bool} {xs:List V},ao Γ ι H (is.map D.bl) xs->xs=is.map V.bl
 | [],_,.nil=>rfl
 | i::r,_,.cons (b:=y) h t=>by
  cases h
  rw [nJ t]; rfl
theorem iJ {Γ:Gx} {ι:List Addr} {H:Hp}:∀ (is:List Int),ao Γ ι H (is.map D.int) (is.map V.int)
 | []=>.nil
 | i::r=>.cons (.int i) (iJ r)
theorem nM (is:List Int):∀ k,preSum (fun i=>is.getD i 0) k=(is.take k).sum
 | 0=>by simp [preSum]
 | k+1=>by
  rw [preSum,nM is k,List.take_add_one,List.sum_append]
  congr 1
  rw [List.getD_eq_getElem?_getD]
  cases is[k]? <;> simp
theorem range_all (bs:List Bool):(List.range bs.length).all (fun i=>bs.getD i false)=bs.all id:=by
 rw [Bool.eq_iff_iff,List.all_eq_true,List.all_eq_true]
 constructor
 ·intro h b hb
  obtain ⟨i,e⟩:=List.getElem?_of_mem hb
  have:=h i (by rw [List.mem_range]; exact (List.getElem?_eq_some_iff.mp e).1)
  rw [List.getD_eq_getElem?_getD,e] at this
  exact this
 ·intro h i hi
  rw [List.mem_range] at hi
  rw [List.getD_eq_getElem?_getD,List.getElem?_eq_getElem hi]
  exact h _ (List.getElem_mem hi)
theorem qQ:∀ (r:List Int) (i:Int),r.foldl min i<=i/\∀ a∈r,r.foldl min i<=a
 | [],i=>⟨Int.le_refl _,fun a h=>absurd h (by simp)⟩
 | b::r,i=>by
  obtain ⟨h1,h2⟩:=qQ r (min i b)
  simp only [List.foldl_cons]
  refine ⟨by omega,fun a ha=>?_⟩
  rcases List.mem_cons.mp ha with rfl|ha
  ·omega
  ·exact h2 a ha
theorem sR:∀ (r:List Int) (i:Int),r.foldl min i=i\/r.foldl min i∈r
 | [],i=>.inl rfl
 | b::r,i=>by
  simp only [List.foldl_cons]
  rcases sR r (min i b) with h|h
  ·rw [h]
   by_cases hb:i<=b
   ·exact .inl (by omega)
   ·exact .inr (by rw [show min i b=b by omega]; exact List.mem_cons_self)
  ·exact .inr (List.mem_cons_of_mem _ h)
theorem oh:∀ (r:List Int) (i:Int),i<=r.foldl max i/\∀ a∈r,a<=r.foldl max i
 | [],i=>⟨Int.le_refl _,fun a h=>absurd h (by simp)⟩
 | b::r,i=>by
  obtain ⟨h1,h2⟩:=oh r (max i b)
  simp only [List.foldl_cons]
  refine ⟨by omega,fun a ha=>?_⟩
  rcases List.mem_cons.mp ha with rfl|ha
  ·omega
  ·exact h2 a ha
theorem rH:∀ (r:List Int) (i:Int),r.foldl max i=i\/r.foldl max i∈r
 | [],i=>.inl rfl
 | b::r,i=>by
  simp only [List.foldl_cons]
  rcases rH r (max i b) with h|h
  ·rw [h]
   by_cases hb:b<=i
   ·exact .inl (by omega)
   ·exact .inr (by rw [show max i b=b by omega]; exact List.mem_cons_self)
  ·exact .inr (List.mem_cons_of_mem _ h)
theorem kG (i:Int):∀ r:List Int,(ins i r).Perm (i::r)
 | []=>.refl _
 | j::r=>by
  simp only [ins]
  split
  ·exact .refl _
  ·exact ((kG i r).cons j).trans (.swap i j r)
theorem ku:∀ r:List Int,(f9 r).Perm r
 | []=>.refl _
 | i::r=>(kG i _).trans ((ku r).cons i)
theorem qI (i:Int):∀ {r:List Int},r.Pairwise (·<=·)->(ins i r).Pairwise (·<=·)
 | [],_=>by simp [ins]
 | j::r,h=>by
  simp only [ins]
  split
  ·rename_i hij
   refine List.pairwise_cons.mpr ⟨fun a ha=>?_,h⟩
   rcases List.mem_cons.mp ha with rfl|ha
   ·exact hij
   ·exact Int.le_trans hij ((List.pairwise_cons.mp h).1 a ha)
  ·rename_i hij
   refine List.pairwise_cons.mpr ⟨fun a ha=>?_,qI i (List.pairwise_cons.mp h).2⟩
   rcases List.mem_cons.mp ((kG i r).mem_iff.mp ha) with rfl|ha
   ·omega
   ·exact (List.pairwise_cons.mp h).1 a ha
theorem sM:∀ r:List Int,(f9 r).Pairwise (·<=·)
 | []=>.nil
 | i::r=>qI i (sM r)
section
variable {X:Cx} {Γ:Gx} {xw:XW} {pins:List (Addr × Obj)} {σ:L2.St} {H:Hp} {s:Shared} {ι:List Addr} {S:aa} {sub:Sub}
theorem fW {b:Bi} {xs:List V} {Q:VK} (hb:b.isR=false) (hb2:∀ a c S,bi2 b a c S=.bad) (h:cA Γ xw (biD sub b) xs H Q) :
  ∃ ι S a x,xs=[x]/\ak Γ ι H S/\Rep Γ ι H a x/\Out Γ xw ι H (bi1 sub b a S) fun d _ ι' H'=>∀ v,Rep Γ ι' H' d v->Q v H':=by
 obtain ⟨ι,S,ds,hS,r,ho⟩:=h
 unfold biD at ho
 rw [hb] at ho
 match ds,r with
 | [],.nil=>exact ho.elim
 | [a],.cons (b:=x) ra .nil=>exact ⟨ι,S,a,x,rfl,hS,ra,ho⟩
 | [a,c],_ =>
  have ho':Out Γ xw ι H (bi2 b a c S) _:=ho
  rw [hb2] at ho'
  exact ho'.elim
 | _::_::_::_,_=>exact ho.elim
theorem jr (hK:Γ.K=X.K) (I:Inv X pins σ H s) {a:Addr} {xs:List V} (sq:SqL Γ.K H a xs\/SqT Γ.K H a xs):∃ its:List Value,Vals xs its/\∀ (A:Around) (E:Value->Shared->Prop) (Q:Value->Shared->Prop),A.handled=none ->
  (∀ (I0:Addr) (fp:List Addr) (St:Nat->Heap->Prop) (s2:Shared),Walks X.prog X.w A I0 fp [I0] its.toArray.size (fun i v=>its.toArray[i]?=some v) St->St 0 s2.heap->(∀ b∈fp,b < s2.heap.objs.size) ->
   (∀ h' tk,(∀ b o,b ∉ [I0]->s2.heap.get? b=some o->h'.get? b=some o)->Inv X pins σ H { s2 with heap:=h',toks:=tk })->Q (.ref I0) s2)->wpAny (model X.prog X.w) A (pyIter (.ref a)) Q E s:=by
 rw [hK] at sq
 rcases sq with sq|sq
 ·obtain ⟨its,rv,pl,_⟩:=I.list sq
  refine ⟨its,rv,fun A E Q hh hQ=>wpAny_pyIter_list pl.isList ?_⟩
  obtain ⟨o,ho,_⟩:=id pl.isList
  have hlt:=Heap.lt_size ho
  refine hQ s.heap.objs.size _ _ _ (Walks.list hh _ a (Nat.ne_of_lt hlt) its.toArray) ⟨⟨_,Heap.get?_push_size _ rfl,rfl,rfl⟩,pl.isList.at fun o e=>Heap.get?_push_of_some _ e⟩ (fun b hb=>?_) fun h' tk hk=>?_
  ·rw [Heap.size_push]
   rcases List.mem_cons.mp hb with rfl|hb
   ·exact Nat.lt_succ_self _
   ·have:b=a:=by simpa using hb
    subst this; exact Nat.lt_succ_of_lt hlt
  ·exact I.kept fun b u e=>hk b u (by simpa using Nat.ne_of_lt (Heap.lt_size e)) (Heap.get?_push_of_some _ e)
 ·obtain ⟨its,rv,pl,_⟩:=I.tuple sq
  refine ⟨its,rv,fun A E Q hh hQ=>wpAny_pyIter_tuple (show s.heap.IsTuple a its.toArray from pl) ?_⟩
  obtain ⟨o,ho,hc,hd⟩:=id pl
  have hlt:=Heap.lt_size ho
  refine hQ s.heap.objs.size _ _ _ (Walks.tuple hh _ a (Nat.ne_of_lt hlt) its.toArray) ⟨⟨_,Heap.get?_push_size _ rfl,rfl,rfl⟩,⟨o,Heap.get?_push_of_some _ ho,hc,hd⟩⟩ (fun b hb=>?_) fun h' tk hk=>?_
  ·rw [Heap.size_push]
   rcases List.mem_cons.mp hb with rfl|hb
   ·exact Nat.lt_succ_self _
   ·have:b=a:=by simpa using hb
    subst this; exact Nat.lt_succ_of_lt hlt
  ·exact I.kept fun b u e=>hk b u (by simpa using Nat.ne_of_lt (Heap.lt_size e)) (Heap.get?_push_of_some _ e)
theorem iE {is:List Int} {its:List Value} (rv:Vals (is.map V.int) its) {i:Nat} {v:Value} (h:its.toArray[i]?=some v):∃ t,v=.int (is.getD i 0) t:=by
 have h':its[i]?=some v:=by simpa using h
 obtain ⟨x,hx,r⟩:=Paired.get' rv h'
 rw [List.getElem?_map,Option.map_eq_some_iff] at hx
 obtain ⟨j,hj,rfl⟩:=hx
 obtain ⟨t,rfl⟩:=r
 exact ⟨t,by rw [List.getD_eq_getElem?_getD,hj]; rfl⟩
theorem CS {is:List Bool} {its:List Value} (rv:Vals (is.map V.bl) its) {i:Nat} {v:Value} (h:its.toArray[i]?=some v):v=.bool (is.getD i false):=by
 have h':its[i]?=some v:=by simpa using h
 obtain ⟨x,hx,r⟩:=Paired.get' rv h'
 rw [List.getElem?_map,Option.map_eq_some_iff] at hx
 obtain ⟨j,hj,rfl⟩:=hx
 cases r
 rw [List.getD_eq_getElem?_getD,hj]; rfl
theorem Ah (hK:Γ.K=X.K):bI X (.builtin "len") (cA Γ xw (biD sub .len)):=by
 intro pins s σ H xs us Q I rs h
 obtain ⟨ι,S,a,x,rfl,hS,r,ho⟩:=fW rfl (fun _ _ _=>rfl) h
 obtain ⟨ds,q,ho⟩:=Out.items ho
 obtain ⟨_,p,ys,rfl,sq,rp,_⟩:=b7 hS r q
 rw [hK] at sq
 refine xu pins s σ H _ us Q I rs ⟨p,ys,rfl,sq,?_⟩
 rw [<- rp.length]
 exact Out.val ho hS (.int _)
theorem uK (hK:Γ.K=X.K) (hc:X.calm=true):bI X (.builtin "all") (cA Γ xw (biD sub .all)):=by
 intro pins s σ H xs us Q I rs h
 obtain ⟨ι,S,a,x,rfl,hS,r,ho⟩:=fW rfl (fun _ _ _=>rfl) h
 obtain ⟨ds,q,ho⟩:=Out.items ho
 obtain ⟨bs,q2,ho⟩:=Out.opt ho
 obtain ⟨_,p,ys,rfl,sq,rp,_⟩:=b7 hS r q
 rw [rP q2] at rp
 have e:=nJ rp
 subst e
 obtain ⟨u,rfl,ru⟩:=rs.one
 cases ru
 obtain ⟨its,rv,wk⟩:=jr hK I sq
 refine call_all_walk (wk X.A.in1 _ _ (I.ok.hd hc) fun I0 fp St s2 W st fl inv=>⟨I0,fp,[I0],_,_,St,fun i=>bs.getD i false,rfl,W,st,fun i v s' Q' E' hv hq=>?_,fun h' tk hk=>?_⟩)
 ·rw [CS rv hv]; exact wpAny_truthy_bool hq
 ·have hl:its.toArray.size=bs.length:=by rw [List.size_toArray,<- rv.length,List.length_map]
  rw [hl,range_all]
  exact ⟨.bl _,H,inv h' tk hk,rfl,Out.val ho hS (.bl _)⟩
theorem B0 (hK:Γ.K=X.K) (hc:X.calm=true):bI X (.builtin "sum") (cA Γ xw (biD sub .sum)):=by
 intro pins s σ H xs us Q I rs h
 obtain ⟨ι,S,a,x,rfl,hS,r,ho⟩:=fW rfl (fun _ _ _=>rfl) h
 obtain ⟨ds,q,ho⟩:=Out.items ho
 obtain ⟨is,q2,ho⟩:=Out.opt ho
 obtain ⟨_,p,ys,rfl,sq,rp,_⟩:=b7 hS r q
 rw [ints_map q2] at rp
 have e:=eG rp
 subst e
 obtain ⟨u,rfl,ru⟩:=rs.one
 cases ru
 obtain ⟨its,rv,wk⟩:=jr hK I sq
 refine call_sum_walkG (wk X.A.in1 _ _ (I.ok.hd hc) fun I0 fp St s2 W st fl inv=>⟨I0,fp,[I0],_,_,St,fun i=>is.getD i 0,rfl,W,st,fl,fun i v hv=>iE rv hv,fun h' tk t' hk=>?_⟩)
 have hl:its.toArray.size=is.length:=by rw [List.size_toArray,<- rv.length,List.length_map]
 rw [hl,nM,List.take_length]
 exact ⟨.int _,H,inv h' tk hk,⟨_,rfl⟩,Out.val ho hS (.int _)⟩
end
end EV

namespace EV
open PySem PySem.Spec PyProof.Rows L2
section
variable {X:Cx} {Γ:Gx} {xw:XW} {pins:List (Addr × Obj)} {σ:L2.St} {H:Hp} {s:Shared} {ι:List Addr} {S:aa} {sub:Sub}
theorem oZ {b:Bi} {xs:List V} {Q:VK} (hb:b.isR=false) (h:cA Γ xw (biD sub b) xs H Q) :
  (∃ ι S a x,xs=[x]/\ak Γ ι H S/\Rep Γ ι H a x/\Out Γ xw ι H (bi1 sub b a S) fun d _ ι' H'=>∀ v,Rep Γ ι' H' d v->Q v H') \/
  (∃ ι S a c x y,xs=[x,y]/\ak Γ ι H S/\Rep Γ ι H a x/\Rep Γ ι H c y/\Out Γ xw ι H (bi2 b a c S) fun d _ ι' H'=>∀ v,Rep Γ ι' H' d v->Q v H'):=by
 obtain ⟨ι,S,ds,hS,r,ho⟩:=h
 unfold biD at ho
 rw [hb] at ho
 have hl:ds.length=1\/ds.length=2\/ds=[]\/∃ a c e q,ds=a::c::e::q:=by
  rcases ds with _|⟨a,_|⟨c,_|⟨e,q⟩⟩⟩
  ·exact .inr (.inr (.inl rfl))
  ·exact .inl rfl
  ·exact .inr (.inl rfl)
  ·exact .inr (.inr (.inr ⟨_,_,_,_,rfl⟩))
 rcases hl with hl|hl|rfl|⟨_,_,_,_,rfl⟩
 ·obtain ⟨a,_,x,_,rfl,rfl,ra,r,hl⟩:=Paired.step r hl
  obtain ⟨rfl,rfl⟩:=Paired.last r hl
  exact .inl ⟨ι,S,a,x,rfl,hS,ra,ho⟩
 ·obtain ⟨a,_,x,_,rfl,rfl,ra,r,hl⟩:=Paired.step r hl
  obtain ⟨c,_,y,_,rfl,rfl,rc,r,hl⟩:=Paired.step r hl
  obtain ⟨rfl,rfl⟩:=Paired.last r hl
  exact .inr ⟨ι,S,a,c,x,y,rfl,hS,ra,rc,ho⟩
 ·exact ho.elim
 ·exact ho.elim
theorem t9 {is:List Int} {i:Int} {r:List Int} (h:is=i::r) {M:Int} (hm:M∈is) (hle:∀ a∈is,M<=a):M=r.foldl min i:=by
 subst h
 obtain ⟨h1,h2⟩:=qQ r i
 have e1:r.foldl min i<=M:=by
  rcases List.mem_cons.mp hm with rfl|hm
  ·exact h1
  ·exact h2 M hm
 have e2:M<=r.foldl min i:=by
  rcases sR r i with h|h
  ·rw [h]; exact hle i List.mem_cons_self
  ·exact hle _ (List.mem_cons_of_mem _ h)
 omega
theorem BR {is:List Int} {i:Int} {r:List Int} (h:is=i::r) {M:Int} (hm:M∈is) (hle:∀ a∈is,a<=M):M=r.foldl max i:=by
 subst h
 obtain ⟨h1,h2⟩:=oh r i
 have e1:M<=r.foldl max i:=by
  rcases List.mem_cons.mp hm with rfl|hm
  ·exact h1
  ·exact h2 M hm
 have e2:r.foldl max i<=M:=by
  rcases rH r i with h|h
  ·rw [h]; exact hle i List.mem_cons_self
  ·exact hle _ (List.mem_cons_of_mem _ h)
 omega
theorem getD_in {is:List Int} {j:Nat} (h:j < is.length):is.getD j 0∈is:=by
 rw [List.getD_eq_getElem?_getD,List.getElem?_eq_getElem h]
 exact List.getElem_mem h
theorem vW (hK:Γ.K=X.K) (hc:X.calm=true):bI X (.builtin "min") (cA Γ xw (biD sub .min)):=by
 intro pins s σ H xs us Q I rs h
 rcases oZ rfl h with ⟨ι,S,a,x,rfl,hS,r,ho⟩|⟨ι,S,a,c,x,y,rfl,hS,r1,r2,ho⟩
 ·obtain ⟨ds,q,ho⟩:=Out.items ho
  obtain ⟨is,q2,ho⟩:=Out.opt ho
  obtain ⟨_,p,ys,rfl,sq,rp,_⟩:=b7 hS r q
  rw [ints_map q2] at rp
  have e:=eG rp
  subst e
  obtain ⟨u,rfl,ru⟩:=rs.one
  cases ru
  cases hi:is with
  | nil=>rw [hi] at ho; exact ho.elim
  | cons i0 r0 =>
   rw [hi] at ho
   have fin:Q (.int (r0.foldl min i0)) H:=Out.val ho hS (.int _)
   obtain ⟨its,rv,wk⟩:=jr hK I sq
   have hl:its.toArray.size=is.length:=by rw [List.size_toArray,<- rv.length,List.length_map]
   refine call_min_walk (wk X.A.in1 _ _ (I.ok.hd hc) fun I0 fp St s2 W st fl inv=>⟨I0,fp,[I0],_,_,St,fun i j=>decide (is.getD i 0 < is.getD j 0),rfl,W,st,fl,by rw [hl,hi]; simp,CmpOf.ints_lt (fun i=>is.getD i 0) fun i v hv=>iE rv hv,fun v h' tk hv hk=>?_⟩)
   obtain ⟨t,rfl⟩:=iE rv hv
   obtain ⟨h1,h2⟩:=argBest_lt (fun i=>is.getD i 0) (its.toArray.size - 1)
   have hpos:0 < is.length:=by rw [hi]; simp
   have e:is.getD (argBest (fun i j=>decide (is.getD i 0 < is.getD j 0)) (its.toArray.size - 1)) 0=r0.foldl min i0:=t9 hi (getD_in (by omega)) fun b hb=>by
    obtain ⟨j,ej⟩:=List.getElem?_of_mem hb
    have hj:=(List.getElem?_eq_some_iff.mp ej).1
    have:=h2 j (by omega)
    rw [show is.getD j 0=b by rw [List.getD_eq_getElem?_getD,ej]; rfl] at this
    exact this
   rw [e]
   exact ⟨.int _,H,inv h' tk hk,⟨_,rfl⟩,fin⟩
 ·cases a with
  | int i =>
   cases c with
   | int j=>cases r1; cases r2; exact AW hc pins s σ H _ us Q I rs ⟨i,j,rfl,Out.val ho hS (.int _)⟩
   | _=>exact ho.elim
  | _=>exact ho.elim
theorem uw (hK:Γ.K=X.K) (hc:X.calm=true):bI X (.builtin "max") (cA Γ xw (biD sub .max)):=by
 intro pins s σ H xs us Q I rs h
 rcases oZ rfl h with ⟨ι,S,a,x,rfl,hS,r,ho⟩|⟨ι,S,a,c,x,y,rfl,hS,r1,r2,ho⟩
 ·obtain ⟨ds,q,ho⟩:=Out.items ho
  obtain ⟨is,q2,ho⟩:=Out.opt ho
  obtain ⟨_,p,ys,rfl,sq,rp,_⟩:=b7 hS r q
  rw [ints_map q2] at rp
  have e:=eG rp
  subst e
  obtain ⟨u,rfl,ru⟩:=rs.one
  cases ru
  cases hi:is with
  | nil=>rw [hi] at ho; exact ho.elim
  | cons i0 r0 =>
   rw [hi] at ho
   have fin:Q (.int (r0.foldl max i0)) H:=Out.val ho hS (.int _)
   obtain ⟨its,rv,wk⟩:=jr hK I sq
   have hl:its.toArray.size=is.length:=by rw [List.size_toArray,<- rv.length,List.length_map]
   refine call_max_walk (wk X.A.in1 _ _ (I.ok.hd hc) fun I0 fp St s2 W st fl inv=>⟨I0,fp,[I0],_,_,St,fun i j=>decide (is.getD i 0 > is.getD j 0),rfl,W,st,fl,by rw [hl,hi]; simp,CmpOf.ints_gt (fun i=>is.getD i 0) fun i v hv=>iE rv hv,fun v h' tk hv hk=>?_⟩)
   obtain ⟨t,rfl⟩:=iE rv hv
   obtain ⟨h1,h2⟩:=argBest_gt (fun i=>is.getD i 0) (its.toArray.size - 1)
   have hpos:0 < is.length:=by rw [hi]; simp
   have e:is.getD (argBest (fun i j=>decide (is.getD i 0 > is.getD j 0)) (its.toArray.size - 1)) 0=r0.foldl max i0:=BR hi (getD_in (by omega)) fun b hb=>by
    obtain ⟨j,ej⟩:=List.getElem?_of_mem hb
    have hj:=(List.getElem?_eq_some_iff.mp ej).1
    have:=h2 j (by omega)
    rw [show is.getD j 0=b by rw [List.getD_eq_getElem?_getD,ej]; rfl] at this
    exact this
   rw [e]
   exact ⟨.int _,H,inv h' tk hk,⟨_,rfl⟩,fin⟩
 ·cases a with
  | int i =>
   cases c with
   | int j=>cases r1; cases r2; exact wI hc pins s σ H _ us Q I rs ⟨i,j,rfl,Out.val ho hS (.int _)⟩
   | _=>exact ho.elim
  | _=>exact ho.elim
theorem Ci (hS:ak Γ ι H S) {d:D} {v:V} {ds:List D} {S':aa} (r:Rep Γ ι H d v) (h:c8 d S=.ok ds S'):S'=S/\∃ a xs,v=.ref a/\SqL Γ.K H a xs/\ao Γ ι H ds xs:=by
 cases d with
 | fro es=>cases h; obtain ⟨a,xs,e,f,p⟩:=r.e_; exact ⟨rfl,a,xs,e,f.sq,p⟩
 | loc l=>obtain ⟨e,a,xs,e2,_,p,t⟩:=b7 hS r (show items (.loc l) S=.ok ds S' from h); exact ⟨e,a,xs,e2,t l rfl,p⟩
 | _=>cases h
theorem Fb (d:D) (S:aa):(∃ ds,c8 d S=.ok ds S)\/c8 d S=.bad:=by
 cases d with
 | fro ds=>exact .inl ⟨ds,rfl⟩
 | loc l=>exact ia (.loc l) S
 | _=>exact .inr rfl
theorem Out.c8 {α:Type} {d:D} {f:List D->M α} {k:α->aa->List Addr->Hp->Prop} (ho:Out Γ xw ι H ((EV.c8 d>>=f) S) k):∃ ds,EV.c8 d S=.ok ds S/\Out Γ xw ι H (f ds S) k:=by
 rcases Fb d S with ⟨ds,e⟩|e
 ·rw [aj e] at ho; exact ⟨ds,e,ho⟩
 ·rw [aR e] at ho; exact ho.elim
theorem qX:∀ {vs:List Value} {ns:List Int},IntsAre vs ns->Vals (ns.map V.int) vs
 | _,_,.nil=>.nil
 | _,_,.cons n t h=>.cons ⟨t,rfl⟩ (qX h)
theorem ER (hK:Γ.K=X.K):bI X (.type "list") (cA Γ xw (biD sub .list)):=by
 intro pins s σ H xs us Q I rs h
 obtain ⟨ι,S,a,x,rfl,hS,r,ho⟩:=fW rfl (fun _ _ _=>rfl) h
 obtain ⟨ds,q,ho⟩:=Out.items ho
 obtain ⟨_,p,ys,rfl,sq,rp,_⟩:=b7 hS r q
 rw [hK] at sq
 exact yx pins s σ H _ us Q I rs ⟨p,ys,rfl,sq,fun l hl=>Out.alloc ho hS hl rp⟩
theorem CN (hK:Γ.K=X.K):bI X (.type "tuple") (cA Γ xw (biD sub .tuple)):=by
 intro pins s σ H xs us Q I rs h
 obtain ⟨ι,S,a,x,rfl,hS,r,ho⟩:=fW rfl (fun _ _ _=>rfl) h
 obtain ⟨ds,q,ho⟩:=Out.items ho
 obtain ⟨_,p,ys,rfl,sq,rp,_⟩:=b7 hS r q
 rw [hK] at sq
 rcases sq with sq|sq
 ·exact qF pins s σ H _ us Q I rs ⟨p,ys,rfl,.inl ⟨sq,fun l hl=>Out.tup ho hS hl rp⟩⟩
 ·exact qF pins s σ H _ us Q I rs ⟨p,ys,rfl,.inr ⟨sq,Out.val ho hS (.f_ (by rw [hK]; exact sq) rp)⟩⟩
noncomputable def Ty.name:Ty->Option String
 | .int=>some "int" | .bool=>some "bool" | .str=>some "str" | .list=>some "list" | .tuple=>some "tuple" | .dict=>some "dict" | .cls _=>none
theorem vH (hK:Γ.K=X.K) (I:Inv X pins σ H s) (hS:ak Γ ι H S) {t:Ty} {T:String} (ht:t.name=some T) {d:D} {x:V} {v:Value} (r:Rep Γ ι H d x) (rx:RelV x v) {k:Bool} (h:cC sub S d t=some k) {A:Around} {E:Value->Shared->Prop} {Q:Value->Shared->Prop}
  (hq:∀ tk,Q (.bool k) { s with toks:=tk }):wpAny (model X.prog X.w) A (call (.builtin "isinstance") [v,.type T]) Q E s:=by
 have seqL:∀ {a:Addr} {xs:List V},SqL X.K H a xs->∀ {b:Bool},PySem.W.kitOne X.K (.type "list") (.type T)=some b->(∀ tk,Q (.bool b) { s with toks:=tk })->wpAny (model X.prog X.w) A (call (.builtin "isinstance") [.ref a,.type T]) Q E s:=fun {a xs} sq {b} e hq=>by
  obtain ⟨its,_,pl,_⟩:=I.list sq
  obtain ⟨o,h1,h2,_⟩:=pl.isList
  exact PySem.W.kia_one PySem.W.kitx_list I.kIn ⟨o,h1,h2⟩ e (fun z=>nomatch z) hq
 cases d with
 | non=>cases r; cases rx; cases t <;> cases ht <;> cases h <;> exact PySem.W.kia_one PySem.W.kitx_none I.kIn True.intro (by rfl) (fun z=>nomatch z) hq
 | bl b=>cases r; cases rx; cases t <;> cases ht <;> cases h <;> exact PySem.W.kia_one PySem.W.kitx_bool I.kIn True.intro (by rfl) (fun z=>nomatch z) hq
 | int b=>cases r; obtain ⟨tk,rfl⟩:=rx; cases t <;> cases ht <;> cases h <;> exact PySem.W.kia_one PySem.W.kitx_int I.kIn True.intro (by rfl) (fun z=>nomatch z) hq
 | str b=>cases r; obtain ⟨tk,rfl⟩:=rx; cases t <;> cases ht <;> cases h <;> exact PySem.W.kia_one PySem.W.kitx_str I.kIn True.intro (by rfl) (fun z=>nomatch z) hq
 | tup ds =>
  obtain ⟨a,xs,rfl,sq,_⟩:=r.bL
  cases rx
  rw [hK] at sq
  obtain ⟨its,_,pl,_⟩:=I.tuple sq
  obtain ⟨o,h1,h2,_⟩:=pl
  cases t <;> cases ht <;> cases h <;> exact PySem.W.kia_one PySem.W.kitx_tuple I.kIn ⟨o,h1,h2⟩ (by rfl) (fun z=>nomatch z) hq
 | fro ds =>
  obtain ⟨a,xs,rfl,sq,_⟩:=r.e_
  cases rx
  have sq:=sq.sq
  rw [hK] at sq
  cases t <;> cases ht <;> cases h <;> exact seqL sq (by rfl) hq
 | loc l =>
  cases r with
  | loc ql =>
   cases rx
   simp only [cC] at h
   cases q:S[l]? with
   | none=>rw [q] at h; cases t <;> cases ht <;> cases h
   | some c =>
    rw [q] at h
    cases c with
    | lst ds =>
     obtain ⟨a,xs,ha,hx,_⟩:=hS.lst q
     rw [ql] at ha; cases ha
     cases t <;> cases ht <;> cases h <;> exact seqL (.of hx) (by rfl) hq
    | dct kvs=>cases t <;> cases ht <;> cases h
 | exn c=>cases r
end
end EV

namespace EV
open PySem PySem.Spec PyProof.Rows L2
section
variable {X:Cx} {Γ:Gx} {xw:XW} {a b c:Expr} {ma mb mc:Sg->M D} {pos:Pos}
theorem xE {i:Nat} {x:Str} (hN:X.N[i]?=some x) (hv:Vis X.env.scope x) (hd:(x==("__debug__" : Str))=false) (hcd:(x==("__classdict__" : Str))=false):PE X (.Name x pos) (tM Γ xw fun σ=>bq σ i) :=
 PE.imp (Ey hN hv hd hcd) fun σ H Q h=>by
  obtain ⟨σd,ι,S,he,hs,ho⟩:=h
  have ho:Out Γ xw ι H (bq σd i S) fun d _ ι' H'=>∀ v,Rep Γ ι' H' d v->Q v H':=ho
  cases q:σd[i]? with
  | none=>rw [show bq σd i S=.bad by unfold bq; rw [q]; rfl] at ho; exact ho.elim
  | some o =>
   cases o with
   | none=>rw [show bq σd i S=.bad by unfold bq; rw [q]; rfl] at ho; exact ho.elim
   | some d =>
    rw [show bq σd i S=.ok d S by unfold bq; rw [q]; rfl] at ho
    obtain ⟨v,hv,r⟩:=he.var i d q
    exact ⟨v,hv,ho.here hs v r⟩
theorem iF {e:Expr} {d:D} {v:V} (h:PE X e (tC v)) (r:∀ ι H,Rep Γ ι H d v):PE X e (tM Γ xw fun _=>pure d) :=
 PE.imp h fun σ H Q h=>by
  obtain ⟨σd,ι,S,he,hs,ho⟩:=h
  exact ho.here hs v (r _ _)
theorem vQ {op:Operator} {f:D->D->M D} (ho:OpR X (binaryOp op) (aU Γ xw f)) (ha:PE X a (tM Γ xw ma)) (hb:PE X b (tM Γ xw mb)):PE X (.BinOp a op b pos) (tM Γ xw fun σ=>ma σ>>=fun x=>mb σ>>=fun y=>f x y) :=
 PE.imp (uT ho ha hb) fun _ _ _ h=>mT h
theorem xh {op:CmpOp} {f:D->D->M D} (ho:OpR X (compareOp op) (aU Γ xw f)) (ha:PE X a (tM Γ xw ma)) (hb:PE X b (tM Γ xw mb)) (hm:behindInMarks op b=false):PE X (.Compare a [op] [b] pos) (tM Γ xw fun σ=>ma σ>>=fun x=>mb σ>>=fun y=>f x y) :=
 PE.imp (EL ho ha hb hm) fun _ _ _ h=>mT h
theorem zD {rest:List Expr} (ha:PE X a (tM Γ xw ma)) (hb:PE X (.BoolOp .And (b::rest) pos) (tM Γ xw mb)):PE X (.BoolOp .And (a::b::rest) pos) (tM Γ xw fun σ=>ma σ>>=fun x=>match x with|.bl true=>mb σ|.bl false=>pure (.bl false)|_=>bad) :=
 PE.imp (DA ha hb) fun σ H Q h=>by
  obtain ⟨σd,ι,S,he,hs,ho⟩:=h
  refine ⟨σd,ι,S,he,hs,ho.bind.mono fun d S' ι' H' _ _ ⟨s',e',o'⟩ v r=>?_⟩
  cases d with
  | bl k =>
   cases r
   refine ⟨k,rfl,?_⟩
   cases k with
   | true=>rw [if_pos rfl]; exact ⟨σd,ι',S',he.ext e',s',o'⟩
   | false=>rw [if_neg Bool.false_ne_true]; exact o'.here s' _ (.bl _)
  | _=>exact o'.elim
theorem ET {rest:List Expr} (ha:PE X a (tM Γ xw ma)) (hb:PE X (.BoolOp .Or (b::rest) pos) (tM Γ xw mb)):PE X (.BoolOp .Or (a::b::rest) pos) (tM Γ xw fun σ=>ma σ>>=fun x=>match x with|.bl true=>pure (.bl true)|.bl false=>mb σ|_=>bad) :=
 PE.imp (uZ ha hb) fun σ H Q h=>by
  obtain ⟨σd,ι,S,he,hs,ho⟩:=h
  refine ⟨σd,ι,S,he,hs,ho.bind.mono fun d S' ι' H' _ _ ⟨s',e',o'⟩ v r=>?_⟩
  cases d with
  | bl k =>
   cases r
   refine ⟨k,rfl,?_⟩
   cases k with
   | false=>rw [if_neg Bool.false_ne_true]; exact ⟨σd,ι',S',he.ext e',s',o'⟩
   | true=>rw [if_pos rfl]; exact o'.here s' _ (.bl _)
  | _=>exact o'.elim
theorem wo (ha:PE X a (tM Γ xw ma)):PE X (.UnaryOp .Not a pos) (tM Γ xw fun σ=>ma σ>>=fun x=>match x with|.bl b=>pure (.bl (!b))|_=>bad) :=
 PE.imp (yi ha) fun σ H Q h=>by
  obtain ⟨σd,ι,S,he,hs,ho⟩:=h
  refine ⟨σd,ι,S,he,hs,ho.bind.mono fun d S' ι' H' _ _ ⟨s',e',o'⟩ v r=>?_⟩
  cases d with
  | bl k=>cases r; exact ⟨k,rfl,o'.here s' _ (.bl _)⟩
  | _=>exact o'.elim
theorem xK (ha:PE X a (tM Γ xw ma)):PE X (.UnaryOp .USub a pos) (tM Γ xw fun σ=>ma σ>>=fun x=>match x with|.int i=>pure (.int (-i))|_=>bad) :=
 PE.imp (zM FE ha) fun σ H Q h=>by
  obtain ⟨σd,ι,S,he,hs,ho⟩:=h
  refine ⟨σd,ι,S,he,hs,ho.bind.mono fun d S' ι' H' _ _ ⟨s',e',o'⟩ v r=>?_⟩
  cases d with
  | int k=>cases r; exact ⟨k,rfl,o'.here s' _ (.int _)⟩
  | _=>exact o'.elim
theorem FA {op op':CmpOp} {f f':D->D->M D} (ho:OpR X (compareOp op) (aU Γ xw f)) (ho':OpR X (compareOp op') (aU Γ xw f')) (ha:PE X a (tM Γ xw ma)) (hb:PE X b (tM Γ xw mb)) (hc:PE X c (tM Γ xw mc)) (hm:lastMarks [op,op'] [b,c]=false) :
  PE X (.Compare a [op,op'] [b,c] pos) (tM Γ xw fun σ=>ma σ>>=fun x=>mb σ>>=fun y=>f x y>>=fun r=>match r with|.bl true=>mc σ>>=fun z=>f' y z|.bl false=>pure (.bl false)|_=>bad) :=
 PE.imp (AV ho ho' ha hb hc hm) fun σ H Q h=>by
  obtain ⟨σd,ι,S,he,hs,ho⟩:=h
  refine ⟨σd,ι,S,he,hs,ho.bind.mono fun d S' ι' H' _ _ ⟨s',e',o'⟩ v r=>⟨σd,ι',S',he.ext e',s',o'.bind.mono fun d2 S2 ι2 H2 _ _ ⟨s2,e2,o2⟩ v2 r2=>⟨ι2,S2,d,d2,s2,r.ext e2,r2,o2.bind.mono fun d3 S3 ι3 H3 _ _ ⟨s3,e3,o3⟩ v3 r3=>?_⟩⟩⟩
  cases d3 with
  | bl k =>
   cases r3
   refine ⟨k,rfl,?_⟩
   cases k with
   | true =>
    rw [if_pos rfl]
    exact ⟨σd,ι3,S3,(he.ext (e'.trans e2)).ext e3,s3,o3.bind.mono fun d4 S4 ι4 H4 _ _ ⟨s4,e4,o4⟩ v4 r4=>⟨ι4,S4,d2,d4,s4,(r2.ext e3).ext e4,r4,o4⟩⟩
   | false=>rw [if_neg Bool.false_ne_true]; exact o3.here s3 _ (.bl _)
  | _=>exact o3.elim
theorem A5 {e:Expr} {m:Sg->M D} (hK:Γ.K=X.K) (h:PE X e (tM Γ xw m)) (he:∀ whole,isTrue e X.env whole=(do let v <- whole; standAt e.pos; holding [v] (truthy v))):PT X e (tMT Γ xw fun σ=>m σ>>=truth):=by
 intro pins s σ H Q I hw
 obtain ⟨σd,ι,S,hE,hs,ho⟩:=hw
 refine isTrue_plain (thn (h pins s σ H (fun x H'=>∃ ι S d,ak Γ ι H' S/\Rep Γ ι H' d x/\Out Γ xw ι H' (truth d S) fun b _ _ H'=>Q b H') I ⟨σd,ι,S,hE,hs,ho.bind.mono fun d S' ι' H' _ _ ⟨s',e',o'⟩ v r=>⟨ι',S',d,s',r,o'⟩⟩) fun v s1 ⟨x,H1,I1,r1,q1⟩=>?_) (he _)
 exact CF hK pins s1 σ H1 x v Q I1 r1 q1
theorem vS {op:CmpOp} {f:D->D->M D} (hbl:∀ x y S d S',f x y S=.ok d S'->∃ k,d=.bl k) (ho:OpR X (compareOp op) (aU Γ xw f)) (ha:PE X a (tM Γ xw ma)) (hb:PE X b (tM Γ xw mb)) (hm:behindInMarks op b=false) :
  PT X (.Compare a [op] [b] pos) (tMT Γ xw fun σ=>ma σ>>=fun x=>mb σ>>=fun y=>f x y>>=fun r=>truth r) :=
 PT.imp (wC ho ha hb hm) fun σ H Q h=>by
  obtain ⟨σd,ι,S,he,hs,ho⟩:=h
  refine ⟨σd,ι,S,he,hs,ho.bind.mono fun d S' ι' H' _ _ ⟨s',e',o'⟩ v r=>⟨σd,ι',S',he.ext e',s',o'.bind.mono fun d2 S2 ι2 H2 _ _ ⟨s2,e2,o2⟩ v2 r2=>⟨ι2,S2,d,d2,s2,r.ext e2,r2,?_⟩⟩⟩
  cases q:f d d2 S2 with
  | bad=>rw [aR q] at o2; exact o2.elim
  | exc c S3=>rw [cP q] at o2; exact o2
  | ok d3 S3 =>
   rw [aj q] at o2
   obtain ⟨k,rfl⟩:=hbl _ _ _ _ _ q
   intro ι3 H3 e3 s3 v3 r3
   cases r3
   exact ⟨k,rfl,(o2.step e3).here s3⟩
theorem Co {op op':CmpOp} {f f':D->D->M D} (hbl:∀ x y S d S',f x y S=.ok d S'->∃ k,d=.bl k) (hbl':∀ x y S d S',f' x y S=.ok d S'->∃ k,d=.bl k) (ho:OpR X (compareOp op) (aU Γ xw f)) (ho':OpR X (compareOp op') (aU Γ xw f')) (ha:PE X a (tM Γ xw ma)) (hb:PE X b (tM Γ xw mb)) (hc:PE X c (tM Γ xw mc)) (hm:lastMarks [op,op'] [b,c]=false) :
  PT X (.Compare a [op,op'] [b,c] pos) (tMT Γ xw fun σ=>ma σ>>=fun x=>mb σ>>=fun y=>f x y>>=fun r=>truth r>>=fun k=>if k=true then mc σ>>=fun z=>f' y z>>=fun q=>truth q else pure false) :=
 PT.imp (Ff ho ho' ha hb hc hm) fun σ H Q h=>by
  obtain ⟨σd,ι,S,he,hs,ho⟩:=h
  refine ⟨σd,ι,S,he,hs,ho.bind.mono fun d S' ι' H' _ _ ⟨s',e',o'⟩ v r=>⟨σd,ι',S',he.ext e',s',o'.bind.mono fun d2 S2 ι2 H2 _ _ ⟨s2,e2,o2⟩ v2 r2=>⟨ι2,S2,d,d2,s2,r.ext e2,r2,?_⟩⟩⟩
  cases q:f d d2 S2 with
  | bad=>rw [aR q] at o2; exact o2.elim
  | exc c S3=>rw [cP q] at o2; exact o2
  | ok d3 S3 =>
   rw [aj q] at o2
   obtain ⟨k,rfl⟩:=hbl _ _ _ _ _ q
   intro ι3 H3 e3 s3 v3 r3
   cases r3
   refine ⟨k,rfl,?_⟩
   have o3:=o2.step e3
   cases k with
   | false=>rw [if_neg Bool.false_ne_true]; exact ⟨false,rfl,o3.here s3⟩
   | true =>
    rw [if_pos rfl]
    have o3:Out Γ xw ι3 H3 ((mc σd>>=fun z=>f' d2 z>>=fun q=>truth q) S3) _:=o3
    refine ⟨σd,ι3,S3,(he.ext (e'.trans e2)).ext e3,s3,o3.bind.mono fun d4 S4 ι4 H4 _ _ ⟨s4,e4,o4⟩ v4 r4=>⟨ι4,S4,d2,d4,s4,(r2.ext e3).ext e4,r4,?_⟩⟩
    cases q4:f' d2 d4 S4 with
    | bad=>rw [aR q4] at o4; exact o4.elim
    | exc c S5=>rw [cP q4] at o4; exact o4
    | ok d5 S5 =>
     rw [aj q4] at o4
     obtain ⟨k5,rfl⟩:=hbl' _ _ _ _ _ q4
     intro ι5 H5 e5 s5 v5 r5
     cases r5
     exact ⟨k5,rfl,(o4.step e5).here s5⟩
variable {na nb:Sg->M Bool}
theorem oV {rest:List Expr} (ha:PT X a (tMT Γ xw na)) (hb:PW X (.BoolOp .And (b::rest) pos) (tMT Γ xw nb)):PW X (.BoolOp .And (a::b::rest) pos) (tMT Γ xw fun σ=>na σ>>=fun k=>if k=true then nb σ else pure false) :=
 PW.imp (wY ha hb) fun σ H Q h=>by
  obtain ⟨σd,ι,S,he,hs,ho⟩:=h
  refine ⟨σd,ι,S,he,hs,ho.bind.mono fun k S' ι' H' _ _ ⟨s',e',o'⟩=>?_⟩
  cases k with
  | true=>rw [if_pos rfl]; exact ⟨σd,ι',S',he.ext e',s',o'⟩
  | false=>rw [if_neg Bool.false_ne_true]; exact o'.here s'
theorem p7 {rest:List Expr} (ha:PT X a (tMT Γ xw na)) (hb:PW X (.BoolOp .Or (b::rest) pos) (tMT Γ xw nb)):PW X (.BoolOp .Or (a::b::rest) pos) (tMT Γ xw fun σ=>na σ>>=fun k=>if k=true then pure true else nb σ) :=
 PW.imp (uE ha hb) fun σ H Q h=>by
  obtain ⟨σd,ι,S,he,hs,ho⟩:=h
  refine ⟨σd,ι,S,he,hs,ho.bind.mono fun k S' ι' H' _ _ ⟨s',e',o'⟩=>?_⟩
  cases k with
  | false=>rw [if_neg Bool.false_ne_true]; exact ⟨σd,ι',S',he.ext e',s',o'⟩
  | true=>rw [if_pos rfl]; exact o'.here s'
theorem FD (ha:PT X a (tMT Γ xw na)):PT X (.UnaryOp .Not a pos) (tMT Γ xw fun σ=>na σ>>=fun k=>pure (!k)) :=
 PT.imp (zA ha) fun σ H Q h=>by
  obtain ⟨σd,ι,S,he,hs,ho⟩:=h
  exact ⟨σd,ι,S,he,hs,ho.bind.mono fun k S' ι' H' _ _ ⟨s',e',o'⟩=>o'.here s'⟩
theorem vO (hc:PT X c (tMT Γ xw na)) (ha:PE X a (tM Γ xw ma)) (hb:PE X b (tM Γ xw mb)):PE X (.IfExp c a b pos) (tM Γ xw fun σ=>na σ>>=fun k=>if k=true then ma σ else mb σ) :=
 PE.imp (ue hc ha hb) fun σ H Q h=>by
  obtain ⟨σd,ι,S,he,hs,ho⟩:=h
  refine ⟨σd,ι,S,he,hs,ho.bind.mono fun k S' ι' H' _ _ ⟨s',e',o'⟩=>?_⟩
  cases k with
  | true=>rw [if_pos rfl]; exact ⟨σd,ι',S',he.ext e',s',o'⟩
  | false=>rw [if_neg Bool.false_ne_true]; exact ⟨σd,ι',S',he.ext e',s',o'⟩
theorem BJ:PA X [] (tMA Γ xw fun _=>pure []) :=
 PA.imp gY fun σ H Q h=>by
  obtain ⟨σd,ι,S,he,hs,ho⟩:=h
  exact ho.here hs [] .nil
theorem wM {es:List Expr} {m:Sg->M (List D)} (ha:PE X a (tM Γ xw ma)) (hr:PA X es (tMA Γ xw m)) (hs:starEach (a::es) X.env=(false,eval a X.env)::starEach es X.env):PA X (a::es) (tMA Γ xw fun σ=>ma σ>>=fun x=>m σ>>=fun xs=>pure (x::xs)) :=
 PA.imp (fR ha hr hs) fun σ H Q h=>by
  obtain ⟨σd,ι,S,he,hs,ho⟩:=h
  exact ⟨σd,ι,S,he,hs,ho.bind.mono fun d S' ι' H' _ _ ⟨s',e',o'⟩ v r=>⟨σd,ι',S',he.ext e',s',o'.bind.mono fun ds S2 ι2 H2 _ _ ⟨s2,e2,o2⟩ vs rs=>o2.here s2 _ (.cons (r.ext e2) rs)⟩⟩
theorem D4 {es:List Expr} {k:Nat} {m:Sg->M (List D)} (h:PA X es (tMA Γ xw m)):PE X (.Tuple es k pos) (tM Γ xw fun σ=>m σ>>=fun ds=>guard (fits ds.length) (pure (.tup ds))) :=
 PE.imp (B6 h) fun σ H Q h=>by
  obtain ⟨σd,ι,S,he,hs,ho⟩:=h
  refine ⟨σd,ι,S,he,hs,ho.bind.mono fun ds S' ι' H' _ _ ⟨s',e',o'⟩ vs rs=>?_⟩
  obtain ⟨hz,o'⟩:=Out.guard o'
  exact ⟨by rw [<- rs.length]; exact dQ hz,fun p hp=>Out.tup o' s' hp rs⟩
theorem z0 {es:List Expr} {m:Sg->M (List D)} (h:PA X es (tMA Γ xw m)):PE X (.List es pos) (tM Γ xw fun σ=>m σ>>=fun ds=>guard (fits ds.length) (alloc (.lst ds))) :=
 PE.imp (u5 h) fun σ H Q h=>by
  obtain ⟨σd,ι,S,he,hs,ho⟩:=h
  refine ⟨σd,ι,S,he,hs,ho.bind.mono fun ds S' ι' H' _ _ ⟨s',e',o'⟩ vs rs=>?_⟩
  obtain ⟨hz,o'⟩:=Out.guard o'
  exact ⟨by rw [<- rs.length]; exact dQ hz,fun p hp=>Out.alloc o' s' hp rs⟩
theorem DT (hK:Γ.K=X.K) (ha:PE X a (tM Γ xw ma)) (hb:PE X b (tM Γ xw mb)) (hs:lI b):PE X (.Subscript a b pos) (tM Γ xw fun σ=>ma σ>>=fun x=>mb σ>>=fun y=>ixD x y) :=
 PE.imp (Cb (yM hK) ha hb hs) fun _ _ _ h=>mT h
noncomputable def tMO (Γ:Gx) (xw:XW) (m:Sg->M (Option Int)):TO:=fun σ H Q=>∃ σd ι S,aO Γ ι H σ σd/\ak Γ ι H S/\Out Γ xw ι H (m σd S) fun o _ _ H'=>Q o H'
theorem PO.imp {e:Option Expr} {t t':TO} (h:PO X e t) (f:∀ σ H Q,t' σ H Q->t σ H Q):PO X e t':=fun pins s σ H Q I q=>h pins s σ H Q I (f σ H Q q)
theorem vX:PO X none (tMO Γ xw fun _=>pure none):=PO.imp vY fun σ H Q h=>by
 obtain ⟨σd,ι,S,he,hs,ho⟩:=h
 exact ho.here hs
theorem Eg (ha:PE X a (tM Γ xw ma)):PO X (some a) (tMO Γ xw fun σ=>ma σ>>=fF):=PO.imp (Ek ha) fun σ H Q h=>by
 obtain ⟨σd,ι,S,he,hs,ho⟩:=h
 refine ⟨σd,ι,S,he,hs,ho.bind.mono fun d S' ι' H' _ _ ⟨s',e',o'⟩ v r=>?_⟩
 cases d with
 | int i=>cases r; exact ⟨i,rfl,o'.here s'⟩
 | _=>exact o'.elim
theorem D9 {lo hi:Option Expr} {ml mh:Sg->M (Option Int)} {p2:Pos} (hK:Γ.K=X.K) (ha:PE X a (tM Γ xw ma)) (hl:PO X lo (tMO Γ xw ml)) (hh:PO X hi (tMO Γ xw mh)) :
  PE X (.Subscript a (.Slice lo hi none p2) pos) (tM Γ xw fun σ=>ma σ>>=fun x=>ml σ>>=fun l=>mh σ>>=fun h=>slD x l h) :=
 PE.imp (u7 (zc hK) ha hl hh) fun σ H Q h=>by
  obtain ⟨σd,ι,S,he,hs,ho⟩:=h
  exact ⟨σd,ι,S,he,hs,ho.bind.mono fun d S' ι' H' _ _ ⟨s',e',o'⟩ v r=>⟨σd,ι',S',he.ext e',s',o'.bind.mono fun l S2 ι2 H2 _ _ ⟨s2,e2,o2⟩=>⟨σd,ι2,S2,(he.ext e').ext e2,s2,o2.bind.mono fun u S3 ι3 H3 _ _ ⟨s3,e3,o3⟩=>⟨ι3,S3,d,s3,(r.ext e2).ext e3,o3⟩⟩⟩⟩
theorem gq {id:String} {x:Str} {p:Pos} {es:List Expr} {m:Sg->M (List D)} {f:List D->M D} (hc:bI X (.builtin id) (cA Γ xw f)) (hg:Gl X x) (hm:X.mg x=none) (hv:bootBuiltins x=some (.builtin id)) (ha:PA X (a::es) (tMA Γ xw m)) (hn:x≠"__name__") (hdb:(x==("__debug__" : Str))=false)
  (he:starEach (a::es) X.env=(false,eval a X.env)::starEach es X.env) (hpl:(backTo pos (starEach es X.env)).any (·.1)=false):PE X (.Call (.Name x p) (a::es) [] pos) (tM Γ xw fun σ=>m σ>>=f) :=
 PE.imp (rJ hc hg hm hv ha hn hdb he hpl) fun _ _ _ h=>nE h
theorem nh {T:String} {x:Str} {p:Pos} {es:List Expr} {m:Sg->M (List D)} {f:List D->M D} (hc:bI X (.type T) (cA Γ xw f)) (hg:Gl X x) (hm:X.mg x=none) (hv:bootBuiltins x=some (.type T)) (ha:PA X (a::es) (tMA Γ xw m)) (hn:x≠"__name__") (hdb:(x==("__debug__" : Str))=false)
  (he:starEach (a::es) X.env=(false,eval a X.env)::starEach es X.env) (hpl:(backTo pos (starEach es X.env)).any (·.1)=false):PE X (.Call (.Name x p) (a::es) [] pos) (tM Γ xw fun σ=>m σ>>=f) :=
 PE.imp (rR hc hg hm hv ha hn hdb he hpl) fun _ _ _ h=>nE h
theorem FG {sub:Sub} {t:Ty} {T:String} {x y:Str} {p p':Pos} (hK:Γ.K=X.K) (ht:t.name=some T) (hg:Gl X x) (hm:X.mg x=none) (hv:bootBuiltins x=some (.builtin "isinstance")) (hg':Gl X y) (hm':X.mg y=none) (hv':bootBuiltins y=some (.type T)) (ha:PE X a (tM Γ xw ma))
  (hn:x≠"__name__") (hdb:(x==("__debug__" : Str))=false) (hn':y≠"__name__") (hdb':(y==("__debug__" : Str))=false) (hst:starEach [a,.Name y p'] X.env=(false,eval a X.env)::starEach [.Name y p'] X.env) :
  PE X (.Call (.Name x p) [a,.Name y p'] [] pos) (tM Γ xw fun σ=>ma σ>>=fun d=>gM sub t d):=by
 have hy:PE X (.Name y p') (tC (.ty T)):=uY hg' hm' hv' rfl hn' hdb'
 have hc:bI X (.builtin "isinstance") (fun xs H Q=>∃ x,xs=[x,.ty T]/\qP Γ xw (gM sub t) x H Q):=by
  intro pins s σ H xs us Q I rs h
  obtain ⟨x,rfl,ι,S,d,hS,r,ho⟩:=h
  obtain ⟨u1,u2,rfl,r1,r2⟩:=rs.two
  cases r2
  unfold gM at ho
  cases q:cC sub S d t with
  | none=>rw [q] at ho; exact ho.elim
  | some k =>
   rw [q] at ho
   exact vH hK I hS ht r r1 q fun tk=>⟨.bl k,H,I.tok _,rfl,Out.val ho hS (.bl _)⟩
 refine PE.imp (rJ hc hg hm hv (fR ha (fR hy gY rfl) hst) hn hdb hst rfl) fun σ H Q h=>?_
 obtain ⟨σd,ι,S,he,hs,ho⟩:=h
 exact ⟨σd,ι,S,he,hs,ho.bind.mono fun d S' ι' H' _ _ ⟨s',e',o'⟩ v r=>⟨v,rfl,ι',S',d,s',r,o'⟩⟩
end
end EV

namespace EV
open PySem PySem.Spec PyProof.Rows L2
section
variable {X:Cx} {Γ:Gx} {xw:XW} {ι ι':List Addr} {H H':Hp} {S:aa} {σ:L2.St}
theorem Rep.move (hp:ι <+: ι') (ht:∀ a xs,H a=some (.tup xs)->H' a=some (.tup xs)) (hf:∀ a o u,H a=some (.frz o u)->H' a=some (.frz o u)) {d:D} {v:V} (h:Rep Γ ι H d v):Rep Γ ι' H' d v:=by
 induction h with
 | non=>exact .non
 | bl b=>exact .bl b
 | int i=>exact .int i
 | str x=>exact .str x
 | tup h1 h2 h3 ih =>
  refine .tup ?_ h2 ih
  rcases h1 with (h|⟨o,h⟩)|h
  ·exact .inl (.inl (ht _ _ h))
  ·exact .inl (.inr ⟨o,hf _ _ _ h⟩)
  ·exact .inr h
 | fro h1 h2 h3 ih =>
  refine .fro ?_ h2 ih
  rcases h1 with ⟨o,h⟩|h
  ·exact .inl ⟨o,hf _ _ _ h⟩
  ·exact .inr h
 | loc h=>exact .loc (gu hp h)
theorem qs {a:Addr} {xs ys:List V} (h:H a=some (.lst xs)):∀ b zs,H b=some (.tup zs)->upd H a (.lst ys) b=some (.tup zs):=fun b zs e=>by
 rw [aB (qt e h (by intro z; cases z))]; exact e
theorem se {a:Addr} {xs ys:List V} (h:H a=some (.lst xs)):∀ b o u,H b=some (.frz o u)->upd H a (.lst ys) b=some (.frz o u):=fun b o u e=>by
 rw [aB (qt e h (by intro z; cases z))]; exact e
theorem Rep.write {a:Addr} {xs ys:List V} (h:H a=some (.lst xs)) {d:D} {v:V} (r:Rep Γ ι H d v):Rep Γ ι (upd H a (.lst ys)) d v:=r.move (List.prefix_refl _) (qs h) (se h)
theorem ao.write {a:Addr} {xs ys:List V} (h:H a=some (.lst xs)) {ds:List D} {vs:List V} (r:ao Γ ι H ds vs):ao Γ ι (upd H a (.lst ys)) ds vs:=Paired.imp (fun _ _ r=>Rep.write h r) r
theorem aO.write {a:Addr} {xs ys:List V} (h:H a=some (.lst xs)) {σd:Sg} (e:aO Γ ι H σ σd):aO Γ ι (upd H a (.lst ys)) σ σd:=⟨e.len,fun i d q=>let ⟨v,e1,r⟩:=e.var i d q; ⟨v,e1,r.write h⟩⟩
theorem Ext.write {a:Addr} {xs ys:List V} (h:H a=some (.lst xs)) (hm:a∈ι):Ext ι ι H (upd H a (.lst ys)) :=
 ⟨List.prefix_refl _,qs h,se h,fun b o e n=>by rw [aB (fun z=>n (by rw [z]; exact hm))]; exact e,fun _ h n=>absurd h n⟩
theorem ak.write (hS:ak Γ ι H S) {l:Nat} {a:Addr} {xs ys:List V} {es ds:List D} (hl:S[l]?=some (.lst es)) (ha:ι[l]?=some a) (h:H a=some (.lst xs)) (r:ao Γ ι H ds ys):ak Γ ι (upd H a (.lst ys)) (S.set l (.lst ds)):=by
 refine ⟨by rw [List.length_set]; exact hS.len,hS.nd,fun m c hm=>?_⟩
 by_cases e:m=l
 ·subst e
  rw [List.getElem?_set_self (List.getElem?_eq_some_iff.mp hl).1] at hm
  cases hm
  exact ⟨a,ha,ys,c_,ao.write h r⟩
 ·rw [List.getElem?_set_ne (Ne.symm e)] at hm
  obtain ⟨b,hb,c1⟩:=hS.cell m c hm
  have hne:b≠a:=fun z=>e (jD hS.nd hb (z ▸ ha))
  refine ⟨b,hb,?_⟩
  cases c with
  | lst zs=>obtain ⟨ws,hw,rw'⟩:=c1; exact ⟨ws,by rw [aB hne]; exact hw,ao.write h rw'⟩
  | dct kvs=>obtain ⟨ws,hw,rw'⟩:=c1; exact ⟨ws,by rw [aB hne]; exact hw,Paired.imp (fun _ _ q=>⟨q.1,Rep.write h q.2⟩) rw'⟩
theorem ak.other (hS:ak Γ ι H S) {a:Addr} {xs ys:List V} (h:H a=some (.lst xs)) (hn:a ∉ ι):ak Γ ι (upd H a (.lst ys)) S :=
 ⟨hS.len,hS.nd,fun m c hm=>by
  obtain ⟨b,hb,c1⟩:=hS.cell m c hm
  have hne:b≠a:=fun z=>hn (z ▸ List.mem_of_getElem? hb)
  refine ⟨b,hb,?_⟩
  cases c with
  | lst zs=>obtain ⟨ws,hw,rw'⟩:=c1; exact ⟨ws,by rw [aB hne]; exact hw,ao.write h rw'⟩
  | dct kvs=>obtain ⟨ws,hw,rw'⟩:=c1; exact ⟨ws,by rw [aB hne]; exact hw,Paired.imp (fun _ _ q=>⟨q.1,Rep.write h q.2⟩) rw'⟩⟩
theorem aO.set {σd:Sg} (e:aO Γ ι H σ σd) (i:Nat) {d:D} {v:V} (r:Rep Γ ι H d v):aO Γ ι H (σ.set i (some v)) (σd.set i (some d)):=by
 refine ⟨by rw [List.length_set,List.length_set]; exact e.len,fun j d' h=>?_⟩
 by_cases hij:j=i
 ·subst hij
  have hj:j < σd.length:=by
   have:=(List.getElem?_eq_some_iff.mp h).1
   rw [List.length_set] at this; exact this
  rw [List.getElem?_set_self hj] at h
  cases h
  exact ⟨v,by rw [List.getElem?_set_self (by rw [e.len]; exact hj)],r⟩
 ·rw [List.getElem?_set_ne (Ne.symm hij)] at h
  obtain ⟨w,hw,rw'⟩:=e.var j d' h
  exact ⟨w,by rw [List.getElem?_set_ne (Ne.symm hij)]; exact hw,rw'⟩
theorem aO.more {σd:Sg} (e:aO Γ ι H σ σd) (k:Nat):aO Γ ι H (σ++List.replicate k none) (σd++List.replicate k none):=by
 refine ⟨by simp [e.len],fun j d h=>?_⟩
 by_cases hj:j < σd.length
 ·rw [List.getElem?_append_left hj] at h
  obtain ⟨w,hw,r⟩:=e.var j d h
  exact ⟨w,by rw [List.getElem?_append_left (by rw [e.len]; exact hj)]; exact hw,r⟩
 ·rw [List.getElem?_append_right (by omega),List.getElem?_replicate] at h
  split at h <;> cases h
theorem yR:MtR X "list.append" (fun x xs H Q=>∃ ι S dx ds,ak Γ ι H S/\Rep Γ ι H dx x/\ao Γ ι H ds xs/\Out Γ xw ι H (meD .append dx ds S) fun d _ ι' H'=>∀ v,Rep Γ ι' H' d v->Q v H'):=by
 intro pins s σ H x xs v us Q I rx rs h
 obtain ⟨ι,S,dx,ds,hS,r1,r2,ho⟩:=h
 match ds,r2 with
 | [],_=>exact ho.elim
 | _::_::_,_=>exact ho.elim
 | [d],.cons (b:=y) rd .nil =>
  cases dx with
  | loc l =>
   obtain ⟨es,e,ho⟩:=Out.bg ho
   obtain ⟨hz,ho⟩:=Out.guard ho
   obtain ⟨a,ws,ha,hx,p⟩:=hS.lst e
   cases r1 with
   | loc q =>
    rw [ha] at q; cases q
    refine o8 pins s σ H _ _ v us Q I rx rs ⟨a,ws,y,rfl,rfl,hx,by rw [<- p.length]; exact D3 hz,?_⟩
    exact ho ι _ (Ext.write hx (List.mem_of_getElem? ha)) (hS.write e ha hx (Paired.app p (.cons rd .nil))) _ .non
  | _=>exact ho.elim
theorem DZ:MtR X "list.extend" (fun x xs H Q=>∃ ι S dx ds,ak Γ ι H S/\Rep Γ ι H dx x/\ao Γ ι H ds xs/\Out Γ xw ι H (meD .extend dx ds S) fun d _ ι' H'=>∀ v,Rep Γ ι' H' d v->Q v H'):=by
 intro pins s σ H x xs v us Q I rx rs h
 obtain ⟨ι,S,dx,ds,hS,r1,r2,ho⟩:=h
 match ds,r2 with
 | [],_=>exact ho.elim
 | _::_::_,_=>exact ho.elim
 | [d],.cons (b:=y) rd .nil =>
  cases dx with
  | loc l =>
   cases d with
   | loc m =>
    obtain ⟨es,e,ho⟩:=Out.bg ho
    obtain ⟨fs,e2,ho⟩:=Out.bg ho
    obtain ⟨hz,ho⟩:=Out.guard ho
    obtain ⟨a,ws,ha,hx,p⟩:=hS.lst e
    obtain ⟨b,zs,hb,hy,p2⟩:=hS.lst e2
    cases r1 with
    | loc q =>
     cases rd with
     | loc q2 =>
      rw [ha] at q; cases q
      rw [hb] at q2; cases q2
      refine x8 pins s σ H _ _ v us Q I rx rs ⟨a,b,ws,zs,rfl,rfl,hx,hy,by rw [<- p.length,<- p2.length]; exact dQ hz,?_⟩
      exact ho ι _ (Ext.write hx (List.mem_of_getElem? ha)) (hS.write e ha hx (Paired.app p p2)) _ .non
   | _=>exact ho.elim
  | _=>exact ho.elim
theorem pV {o a:Expr} {es:List Expr} {me:Me} {name:Str} {apos cpos:Pos} {id:String} {mo:Sg->M D} {m:Sg->M (List D)} (hK:Γ.K=X.K) (pa:PlainAttrs "list") (slot:Slot "list" name id) (hty:typeOf (.builtin id)=pure (.type "method_descriptor"))
  (hm:MtR X id (fun x xs H Q=>∃ ι S dx ds,ak Γ ι H S/\Rep Γ ι H dx x/\ao Γ ι H ds xs/\Out Γ xw ι H (meD me dx ds S) fun d _ ι' H'=>∀ v,Rep Γ ι' H' d v->Q v H')) (ho:PE X o (tM Γ xw mo)) (ha:PA X (a::es) (tMA Γ xw m))
  (hbase:attributeBase o name X.env (eval o X.env)=eval o X.env)
  (hfew:((backTo cpos (starEach (a::es) X.env)).all (fun x=>!x.1)&&(backToKw cpos (keywordEach [] X.env)).all (fun x=>x.1.isSome)&&decide ((a::es).length+([]:List Keyword).length+(if ([]:List Keyword).isEmpty then 0 else 1) < 30))=true)
  (hline:(apos.endLine==cpos.line)=true) (hs:starEach (a::es) X.env=(false,eval a X.env)::starEach es X.env) (hplain:(backTo cpos (starEach es X.env)).any (·.1)=false) :
  PE X (.Call (.Attribute o name apos) (a::es) [] cpos) (tM Γ xw fun σ=>mo σ>>=fun x=>jF x (m σ>>=fun ds=>meD me x ds)) :=
 PE.imp (yk pa slot hty hm ho ha hbase hfew hline hs hplain) fun σ H Q h=>by
  obtain ⟨σd,ι,S,he,hs,ho⟩:=h
  refine ⟨σd,ι,S,he,hs,ho.bind.mono fun d S' ι' H' _ _ ⟨s',e',o'⟩ v r=>?_⟩
  obtain ⟨hl,o'⟩:=Out.guard (b:=d.dG S') o'
  cases d with
  | loc l =>
   have r0:=r
   cases r with
   | loc q =>
    have hlt:l < S'.length:=by rw [<- s'.len]; exact (List.getElem?_eq_some_iff.mp q).1
    obtain ⟨b,hb,c⟩:=s'.cell l S'[l] (List.getElem?_eq_getElem hlt)
    rw [q] at hb; cases hb
    cases e:S'[l] with
    | lst ds =>
     rw [e] at c
     obtain ⟨xs,hx,_⟩:=c
     refine ⟨.inl ⟨rfl,xs,.of hx⟩,σd,ι',S',he.ext e',s',o'.bind.mono fun ds S2 ι2 H2 _ _ ⟨s2,e2,o2⟩ vs rs=>⟨ι2,S2,.loc l,ds,s2,r0.ext e2,rs,o2⟩⟩
    | dct kvs =>
     have:S'[l]?=some (.dct kvs):=by rw [List.getElem?_eq_getElem hlt,e]
     have hl:(match S'[l]? with|some (.lst _)=>true|_=>false)=true:=hl
     rw [this] at hl; cases hl
  | _=>exact absurd hl Bool.false_ne_true
end
end EV

namespace EV
open PySem PySem.Spec PyProof.Rows L2
noncomputable def lY (Γ:Gx) (src:Src) (J:It) (ι0:List Addr) (H0:Hp):Prop:=∀ ι H S,Ext ι0 ι H0 H->ak Γ ι H S->aE src S=.ok () S ->
 (∀ (i:Nat) d,src.its[i]?=some d->J.go i H/\∀ x H',J.yld i H x H'->Ext ι ι H H'/\ak Γ ι H' S/\Rep Γ ι H' d x)/\J.stop src.its.length H
noncomputable def tMI (Γ:Gx) (xw:XW) (m:Sg->M Src):TI:=fun σ H R=>∃ σd ι S,aO Γ ι H σ σd/\ak Γ ι H S/\Out Γ xw ι H (m σd S) fun src _ ι' H'=>∀ J,lY Γ src J ι' H'->R J H'
theorem iS (src:Src) (S:aa):aE src S=.ok () S\/aE src S=.bad:=by
 unfold aE
 cases src.l with
 | none=>exact .inl rfl
 | some l =>
  dsimp only
  cases listAt S l with
  | none=>exact .inr rfl
  | some ds =>
   by_cases h:ds=src.raw
   ·exact .inl (by simp only [h,decide_true]; rfl)
   ·exact .inr (by simp only [h,decide_false]; rfl)
section
variable {X:Cx} {Γ:Gx} {xw:XW} {tg a:Expr} {ma:Sg->M D} {pos:Pos}
theorem PI.imp {iter:Expr} {t t':TI} (h:PI X tg iter t) (f:∀ σ H R,t' σ H R->t σ H R):PI X tg iter t':=fun pins s σ H R I q=>h pins s σ H R I (f σ H R q)
noncomputable def iSq (K:PySem.W.Frag) (tl:TE):TI:=fun σ H R=>tl σ H fun x H1=>∃ a,x=.ref a/\(((∃ xs,SqL K H1 a xs)/\R (Itl K a) H1)\/((∃ xs,SqT K H1 a xs)/\R (Itt K a) H1))
theorem Dr {l:Expr} {tl:TE} (hl:PE X l tl):PI X tg l (iSq X.K tl):=by
 intro pins s σ H R I h
 refine thn (hl pins s σ H _ I h) fun v s1 ⟨x,H1,I1,r1,q1⟩=>?_
 obtain ⟨a,e,q1⟩:=q1
 subst e
 cases r1
 rcases q1 with ⟨⟨xs,hq⟩,q⟩|⟨⟨xs,hq⟩,q⟩
 ·have hc:PE X l (fun σ H Q=>True->True->tl σ H Q):=fun pins s σ H Q I h=>hl pins s σ H Q I (h trivial trivial)
  obtain ⟨its,rv,p,hz⟩:=I1.list hq
  refine wpAny_pyIter_list p.isList ?_
  refine ⟨s1.heap.objs.size,[s1.heap.objs.size],_,_,H1,rfl,I1.kept (t':=s1.toks) fun b o e=>Heap.get?_push_of_some _ e,AR a _,⟨_,Heap.get?_push_size _ rfl,rfl,rfl⟩,fun b hb=>?_,q⟩
  have e:b=s1.heap.objs.size:=by simpa using hb
  subst e
  exact I1.fN (Nat.le_refl _) (I1.hok.fresh (Nat.le_refl _))
 ·obtain ⟨its,rv,p,hz⟩:=I1.tuple hq
  refine wpAny_pyIter_tuple (show s1.heap.IsTuple a its.toArray from p) ?_
  refine ⟨s1.heap.objs.size,[s1.heap.objs.size],_,_,H1,rfl,I1.kept (t':=s1.toks) fun b o e=>Heap.get?_push_of_some _ e,AQ a _,⟨_,Heap.get?_push_size _ rfl,rfl,rfl⟩,fun b hb=>?_,q⟩
  have e:b=s1.heap.objs.size:=by simpa using hb
  subst e
  exact I1.fN (Nat.le_refl _) (I1.hok.fresh (Nat.le_refl _))
theorem sS {ι:List Addr} {H:Hp} {S:aa} {d:D} {v:V} {src:Src} {S':aa} (hS:ak Γ ι H S) (r:Rep Γ ι H d v) (h:srcOf d S=.ok src S'):S'=S/\src.its=src.raw/\aE src S=.ok () S/\∃ a tup,v=.ref a/\(∃ xs,SqB Γ.K H tup a xs) /\
  ∀ ι1 H1 S1,Ext ι ι1 H H1->ak Γ ι1 H1 S1->aE src S1=.ok () S1->∃ xs,SqB Γ.K H1 tup a xs/\ao Γ ι1 H1 src.raw xs:=by
 cases d with
 | tup ds =>
  cases h
  obtain ⟨a,xs,e,t,p⟩:=r.bL
  exact ⟨rfl,rfl,rfl,a,true,e,⟨xs,t⟩,fun ι1 H1 S1 e1 _ _=>⟨xs,e1.sqT t,ao.ext e1 p⟩⟩
 | fro ds =>
  cases h
  obtain ⟨a,xs,e,t,p⟩:=r.e_
  exact ⟨rfl,rfl,rfl,a,false,e,⟨xs,t.sq⟩,fun ι1 H1 S1 e1 _ _=>⟨xs,(e1.fro t).sq,ao.ext e1 p⟩⟩
 | loc l =>
  have h:(items (.loc l)>>=fun ds=>pure (⟨ds,some l,ds⟩:Src)) S=.ok src S':=h
  rcases ia (.loc l) S with ⟨ds,e⟩|e
  ·rw [aj e] at h
   cases h
   obtain ⟨_,a,xs,e2,_,p,t⟩:=b7 hS r e
   subst e2
   have hl:listAt S l=some ds:=by
    rw [nC] at e
    cases q:listAt S l with
    | none=>rw [q] at e; cases e
    | some es=>rw [q] at e; cases e; rfl
   refine ⟨rfl,rfl,?_,a,false,rfl,⟨xs,t l rfl⟩,fun ι1 H1 S1 e1 s1 st=>?_⟩
   ·unfold aE; simp only [hl,decide_true]; rfl
   ·have hl1:listAt S1 l=some ds:=by
     unfold aE at st
     dsimp only at st
     cases q:listAt S1 l with
     | none=>rw [q] at st; cases st
     | some es =>
      rw [q] at st
      by_cases h:es=ds
      ·rw [h]
      ·simp only [h,decide_false] at st; cases st
    obtain ⟨b,ys,e3,sb,p1⟩:=s1.list (r.ext e1) (show asL S1 (.loc l)=some ds from hl1)
    cases e3
    exact ⟨ys,sb,p1⟩
  ·rw [aR e] at h; cases h
 | _=>cases h
theorem nF (d:D) (S:aa):(∃ src,srcOf d S=.ok src S)\/srcOf d S=.bad:=by
 cases d with
 | tup ds=>exact .inl ⟨_,rfl⟩
 | fro ds=>exact .inl ⟨_,rfl⟩
 | loc l =>
  show (∃ src,(items (.loc l)>>=fun ds=>pure (⟨ds,some l,ds⟩:Src)) S=.ok src S)\/(items (.loc l)>>=fun ds=>pure (⟨ds,some l,ds⟩:Src)) S=.bad
  rcases ia (.loc l) S with ⟨ds,e⟩|e
  ·rw [aj e]; exact .inl ⟨_,rfl⟩
  ·rw [aR e]; exact .inr rfl
 | _=>exact .inr rfl
theorem wD (hK:Γ.K=X.K) (ha:PE X a (tM Γ xw ma)):PI X tg a (tMI Γ xw fun σ=>ma σ>>=srcOf) :=
 PI.imp (Dr ha) fun σ H R h=>by
  obtain ⟨σd,ι,S,he,hs,ho⟩:=h
  refine ⟨σd,ι,S,he,hs,ho.bind.mono fun d S' ι' H' _ _ ⟨s',e',o'⟩ v r=>?_⟩
  rcases nF d S' with ⟨src,q⟩|q
  ·rw [q] at o'
   obtain ⟨_,e1,st,a,tup,rfl,⟨xs,sq⟩,hall⟩:=sS s' r q
   refine ⟨a,rfl,?_⟩
   have fin:=o'.here s'
   cases tup with
   | true =>
    refine .inr ⟨⟨xs,by rw [<- hK]; exact sq⟩,fin _ fun ι1 H1 S1 e2 s1 st1=>?_⟩
    obtain ⟨ys,sq1,p1⟩:=hall ι1 H1 S1 e2 s1 st1
    have sq1:SqT X.K H1 a ys:=by rw [<- hK]; exact sq1
    rw [e1]
    refine ⟨fun i d hd=>?_,ys,sq1,by rw [p1.length]; exact Nat.le_refl _⟩
    obtain ⟨y,hy,r1⟩:=Paired.get p1 hd
    exact ⟨⟨ys,y,sq1,hy⟩,fun x H' ⟨e3,hx⟩=>by
     subst e3
     have:=hx ys sq1
     rw [hy] at this; cases this
     exact ⟨.refl,s1,r1⟩⟩
   | false =>
    refine .inl ⟨⟨xs,by rw [<- hK]; exact sq⟩,fin _ fun ι1 H1 S1 e2 s1 st1=>?_⟩
    obtain ⟨ys,sq1,p1⟩:=hall ι1 H1 S1 e2 s1 st1
    have sq1:SqL X.K H1 a ys:=by rw [<- hK]; exact sq1
    rw [e1]
    refine ⟨fun i d hd=>?_,ys,sq1,by rw [p1.length]; exact Nat.le_refl _⟩
    obtain ⟨y,hy,r1⟩:=Paired.get p1 hd
    exact ⟨⟨ys,y,sq1,hy⟩,fun x H' ⟨e3,hx⟩=>by
     subst e3
     have:=hx ys sq1
     rw [hy] at this; cases this
     exact ⟨.refl,s1,r1⟩⟩
  ·rw [q] at o'; exact o'.elim
theorem rM:∀ {ds:List D} {k i:Nat} {d:D},(num k ds)[i]?=some d->∃ e,ds[i]?=some e/\d=.tup [.int ((k+i:Nat):Int),e]
 | [],k,i,d,h=>by simp [num] at h
 | x::r,k,0,d,h=>by simp [num] at h; exact ⟨x,rfl,by rw [<- h]; simp⟩
 | x::r,k,i+1,d,h=>by
  have h:(num (k+1) r)[i]?=some d:=by simpa [num] using h
  obtain ⟨e,h1,h2⟩:=rM h
  exact ⟨e,by simpa using h1,by rw [h2]; congr 3; omega⟩
theorem tG:∀ (ds:List D) (k:Nat),(num k ds).length=ds.length
 | [],_=>rfl
 | _::r,k=>by simp [num,tG r]
theorem yt {p:Pos} {elts:List Expr} {k1:Nat} {tp:Pos} (hK:Γ.K=X.K) (hg:Gl X "enumerate") (hm:X.mg "enumerate" = none) (hv:bootBuiltins "enumerate" = some (.type "enumerate")) (ha:PE X a (tM Γ xw ma)) (hs:starEach [a] X.env=[(false,eval a X.env)]) :
  PI X (.Tuple elts k1 tp) (.Call (.Name "enumerate" p) [a] [] pos) (tMI Γ xw fun σ=>ma σ>>=fun d=>srcOf d>>=fun s=>pure { s with its:=num 0 s.its }) :=
 PI.imp (ze hg hm hv (fR ha gY (by rw [hs]; rfl)) hs) fun σ H R h=>by
  obtain ⟨σd,ι,S,he,hs,ho⟩:=h
  refine ⟨σd,ι,S,he,hs,ho.bind.mono fun d S' ι' H' _ _ ⟨s',e',o'⟩ v r=>?_⟩
  rcases nF d S' with ⟨src,q⟩|q
  ·rw [aj q] at o'
   obtain ⟨_,e1,st,a,tup,rfl,⟨xs,sq⟩,hall⟩:=sS s' r q
   have fin:=o'.here s'
   refine ⟨tup,a,rfl,⟨xs,by rw [<- hK]; exact sq⟩,fin _ fun ι1 H1 S1 e2 s1 st1=>?_⟩
   obtain ⟨ys,sq1,p1⟩:=hall ι1 H1 S1 e2 s1 st1
   have sq1:SqB X.K H1 tup a ys:=by rw [<- hK]; exact sq1
   refine ⟨fun i d hd=>?_,ys,sq1,by show ys.length<=(num 0 src.its).length; rw [tG,e1,p1.length]; exact Nat.le_refl _⟩
   obtain ⟨e,he',rfl⟩:=rM hd
   rw [e1] at he'
   obtain ⟨y,hy,r1⟩:=Paired.get p1 he'
   refine ⟨⟨ys,y,sq1,hy⟩,?_⟩
   rintro x H' ⟨z,p,hz,hp,rfl,rfl⟩
   have hz:=hz ys sq1
   rw [hy] at hz; cases hz
   refine ⟨Ext.laid hp,s1.laid hp _,.f_ (.of c_) (.cons ?_ (.cons (r1.ext (Ext.laid hp)) .nil))⟩
   rw [Nat.zero_add]; exact .int _
  ·rw [aR q] at o'; exact o'.elim
theorem kU (lo hi:Int):rng lo hi 1=(List.range (hi - lo).toNat).map fun (k:Nat)=>lo+k:=by
 unfold rng
 rw [if_pos (by decide)]
 have:(hi - lo+1 - 1) / 1=hi - lo:=by rw [Int.ediv_one]; omega
 rw [this]
 simp
theorem yO (lo hi:Int):rng lo hi (-1)=(List.range (lo - hi).toNat).map fun (k:Nat)=>lo - k:=by
 unfold rng
 rw [if_neg (by decide),if_pos (by decide)]
 have:(lo - hi - -1 - 1) / -(-1)=lo - hi:=by rw [show (-(-1):Int)=1 from rfl,Int.ediv_one]; omega
 rw [this]
 refine List.map_congr_left fun k _=>?_
 omega
theorem sr {n i k:Nat} (h:(List.range n)[i]?=some k):k=i/\i < n:=by
 obtain ⟨h1,h2⟩:=List.getElem?_eq_some_iff.mp h
 rw [List.getElem_range] at h2
 rw [List.length_range] at h1
 exact ⟨h2.symm,h1⟩
theorem m9 {ι:List Addr} {H:Hp} (lo hi:Int):lY Γ ⟨(rng lo hi 1).map .int,none,[]⟩ (Itr lo (hi - lo).toNat) ι H:=fun ι1 H1 S1 e s1 st=>by
 rw [kU,List.map_map]
 refine ⟨fun i d hd=>?_,by show (hi - lo).toNat<=_; simp⟩
 have hd:((List.range (hi - lo).toNat).map (D.int ∘ fun (k:Nat)=>lo+k))[i]?=some d:=hd
 rw [List.getElem?_map,Option.map_eq_some_iff] at hd
 obtain ⟨k,hk,rfl⟩:=hd
 obtain ⟨rfl,hlt⟩:=sr hk
 exact ⟨hlt,fun x H' ⟨e1,e2⟩=>by subst e1; subst e2; exact ⟨.refl,s1,.int _⟩⟩
theorem Dl {ι:List Addr} {H:Hp} (lo hi:Int):lY Γ ⟨(rng lo hi (-1)).map .int,none,[]⟩ (kL lo (lo - hi).toNat) ι H:=fun ι1 H1 S1 e s1 st=>by
 rw [yO,List.map_map]
 refine ⟨fun i d hd=>?_,by show (lo - hi).toNat<=_; simp⟩
 have hd:((List.range (lo - hi).toNat).map (D.int ∘ fun (k:Nat)=>lo - k))[i]?=some d:=hd
 rw [List.getElem?_map,Option.map_eq_some_iff] at hd
 obtain ⟨k,hk,rfl⟩:=hd
 obtain ⟨rfl,hlt⟩:=sr hk
 exact ⟨hlt,fun x H' ⟨e1,e2⟩=>by subst e1; subst e2; exact ⟨.refl,s1,.int _⟩⟩
theorem fz {i:Int} (h:near i=true):-(2 ^ 62)<=i/\i < 2 ^ 62:=of_decide_eq_true h
variable {b c:Expr} {m:Sg->M (List D)} {p:Pos}
theorem Out.monoE {α:Type} {r:Res α} {ι:List Addr} {H:Hp} {k k':α->aa->List Addr->Hp->Prop} (h:Out Γ xw ι H r k) (f:∀ a S' ι' H',r=.ok a S'->Ext ι ι' H H'->ak Γ ι' H' S'->k a S' ι' H'->k' a S' ι' H'):Out Γ xw ι H r k':=by
 cases r with
 | ok a S'=>exact fun ι' H' e' s'=>f _ _ _ _ rfl e' s' (h ι' H' e' s')
 | exc c S'=>exact h
 | bad=>exact h
theorem BK (hg:Gl X "range") (hm:X.mg "range" = none) (ha:PA X [a] (tMA Γ xw m)) (hs:starEach [a] X.env=[(false,eval a X.env)]) (hlen:∀ σ S ds S',m σ S=.ok ds S'->ds.length=1) :
  PI X tg (.Call (.Name "range" p) [a] [] pos) (tMI Γ xw fun σ=>m σ>>=fun ds=>opt (bO ds)>>=fun is=>pure ⟨is.map .int,none,[]⟩) :=
 PI.imp (wG hg hm ha hs) fun σ H R h=>by
  obtain ⟨σd,ι,S,he,hs,ho⟩:=h
  refine ⟨σd,ι,S,he,hs,Out.monoE ho.bind fun ds S' ι' H' eq _ _ ⟨s',e',o'⟩ vs rs=>?_⟩
  have hl:=hlen _ _ _ _ eq
  obtain ⟨is,q,o'⟩:=Out.opt o'
  have fin:=o'.here s'
  obtain ⟨d,_,_,_,rfl,rfl,r,rs,hl⟩:=Paired.step rs hl
  obtain ⟨rfl,rfl⟩:=Paired.last rs hl
  (
   cases r with
   | int j =>
    simp only [bO] at q
    split at q
    ·rename_i hn
     cases q
     have hn:=fz hn
     refine ⟨j,rfl,hn.1,hn.2,fin _ ?_⟩
     have:=m9 (Γ:=Γ) (ι:=ι') (H:=H') 0 j
     rw [Int.sub_zero] at this
     exact this
    ·cases q
   | _=>cases q)
theorem yb (hg:Gl X "range") (hm:X.mg "range" = none) (ha:PA X [a,b] (tMA Γ xw m)) (hs:starEach [a,b] X.env=[(false,eval a X.env),(false,eval b X.env)]) (hs2:starEach [b] X.env=[(false,eval b X.env)]) (hlen:∀ σ S ds S',m σ S=.ok ds S'->ds.length=2) :
  PI X tg (.Call (.Name "range" p) [a,b] [] pos) (tMI Γ xw fun σ=>m σ>>=fun ds=>opt (bO ds)>>=fun is=>pure ⟨is.map .int,none,[]⟩) :=
 PI.imp (ym hg hm ha hs hs2) fun σ H R h=>by
  obtain ⟨σd,ι,S,he,hs,ho⟩:=h
  refine ⟨σd,ι,S,he,hs,Out.monoE ho.bind fun ds S' ι' H' eq _ _ ⟨s',e',o'⟩ vs rs=>?_⟩
  have hl:=hlen _ _ _ _ eq
  obtain ⟨is,q,o'⟩:=Out.opt o'
  have fin:=o'.here s'
  obtain ⟨d,_,_,_,rfl,rfl,r,rs,hl⟩:=Paired.step rs hl
  obtain ⟨e,_,_,_,rfl,rfl,r2,rs,hl⟩:=Paired.step rs hl
  obtain ⟨rfl,rfl⟩:=Paired.last rs hl
  (
   cases r with
   | int i =>
    cases r2 with
    | int j =>
     simp only [bO] at q
     split at q
     ·rename_i hn
      cases q
      rw [Bool.and_eq_true] at hn
      have h1:=fz hn.1
      have h2:=fz hn.2
      exact ⟨i,j,rfl,⟨h1.1,h1.2,h2.1,h2.2⟩,fin _ (m9 i j)⟩
     ·cases q
    | _=>cases q
   | _=>cases q)
theorem zJ (hg:Gl X "range") (hm:X.mg "range" = none) (ha:PA X [a,b,c] (tMA Γ xw m)) (hs:starEach [a,b,c] X.env=[(false,eval a X.env),(false,eval b X.env),(false,eval c X.env)]) (hs2:starEach [b,c] X.env=[(false,eval b X.env),(false,eval c X.env)]) (hlen:∀ σ S ds S',m σ S=.ok ds S'->ds.length=3) :
  PI X tg (.Call (.Name "range" p) [a,b,c] [] pos) (tMI Γ xw fun σ=>m σ>>=fun ds=>opt (bO ds)>>=fun is=>pure ⟨is.map .int,none,[]⟩) :=
 PI.imp (zj hg hm ha hs hs2) fun σ H R h=>by
  obtain ⟨σd,ι,S,he,hs,ho⟩:=h
  refine ⟨σd,ι,S,he,hs,Out.monoE ho.bind fun ds S' ι' H' eq _ _ ⟨s',e',o'⟩ vs rs=>?_⟩
  have hl:=hlen _ _ _ _ eq
  obtain ⟨is,q,o'⟩:=Out.opt o'
  have fin:=o'.here s'
  obtain ⟨d,_,_,_,rfl,rfl,r,rs,hl⟩:=Paired.step rs hl
  obtain ⟨e,_,_,_,rfl,rfl,r2,rs,hl⟩:=Paired.step rs hl
  obtain ⟨f,_,_,_,rfl,rfl,r3,rs,hl⟩:=Paired.step rs hl
  obtain ⟨rfl,rfl⟩:=Paired.last rs hl
  (
   cases r with
   | int i =>
    cases r2 with
    | int j =>
     cases r3 with
     | int k =>
      simp only [bO] at q
      split at q
      ·rename_i hn
       cases q
       rw [Bool.and_eq_true,Bool.and_eq_true] at hn
       have h1:=fz hn.1.1
       have h2:=fz hn.1.2
       have h3:k=-1:=of_decide_eq_true hn.2
       subst h3
       exact ⟨i,j,rfl,⟨h1.1,h1.2,h2.1,h2.2⟩,fin _ (Dl i j)⟩
      ·cases q
     | _=>cases q
    | _=>cases q
   | _=>cases q)
noncomputable def tMG (Γ:Gx) (t:Tg):TG:=fun v σ H Q=>∃ σd ι S d σd',aO Γ ι H σ σd/\ak Γ ι H S/\Rep Γ ι H d v/\aJ t d σd S=.ok σd' S/\∀ σ',aO Γ ι H σ' σd'->(∀ j,t.has j=false->σ'[j]?=σ[j]?)->Q σ' H
theorem PG.imp {target:Expr} {t t':TG} (h:PG X target t) (f:∀ v σ H Q,t' v σ H Q->t v σ H Q):PG X target t':=fun pins s σ H v u Q I r q=>h pins s σ H v u Q I r (f v σ H Q q)
theorem zW {i:Nat} {x:Str} (hN:X.N.Nodup) (hi:X.N[i]?=some x) (hx:Loc X.env.scope x) (hf:X.fn x=true\/X.env.scope.names.lookup x=some .local):PG X (.Name x pos) (tMG Γ (.one i)) :=
 PG.imp (s_ hN hi hx hf) fun v σ H Q h=>by
  obtain ⟨σd,ι,S,d,σd',he,hs,r,hb,q⟩:=h
  cases hb
  exact q _ (he.set i r) fun j hj=>by rw [List.getElem?_set_ne (by intro z; subst z; simp [Tg.has] at hj)]
noncomputable def kr:List Nat->TGs
 | []=>tL
 | i::r=>rW (gQ i) (kr r)
noncomputable def jh (X:Cx):List Expr->List Nat->Prop:=Paired fun e i=>∃ x p,e=.Name x p/\X.N[i]?=some x/\Loc X.env.scope x/\(X.fn x=true\/X.env.scope.names.lookup x=some .local)
theorem p6 (hN:X.N.Nodup):∀ {es:List Expr} {is:List Nat},jh X es is->PGs X es (kr is)
 | _,_,.nil=>BO
 | _,_,.cons ⟨x,p,e,h1,h2,h3⟩ r=>by
  subst e
  exact Aw (s_ hN h1 h2 h3) (p6 hN r) rfl
theorem mG:∀ {es:List Expr} {is:List Nat},jh X es is->(assignEach es X.env).length=is.length/\(assignEach es X.env).findIdx? (·.1)=none
 | _,_,.nil=>⟨rfl,rfl⟩
 | _,_,.cons ⟨x,p,e,h1,h2,h3⟩ r=>by
  subst e
  obtain ⟨a,b⟩:=mG r
  refine ⟨congrArg (· + 1) a,?_⟩
  show List.findIdx? (·.1) ((false,_)::assignEach _ X.env)=none
  rw [List.findIdx?_cons]
  simp only [Bool.false_eq_true,if_false]
  rw [b]; rfl
theorem pq {ι:List Addr} {H:Hp} {Q:L2.St->Hp->Prop}:∀ {is:List Nat} {ds:List D} {xs:List V} {σ:L2.St} {σd:Sg},ds.length=is.length->ao Γ ι H ds xs->aO Γ ι H σ σd->(∀ σ',aO Γ ι H σ' (bT is ds σd)->(∀ j,is.contains j=false->σ'[j]?=σ[j]?)->Q σ' H)->kr is xs σ H Q
 | [],[],_,σ,σd,_,.nil,he,q=>⟨rfl,q _ he fun _ _=>rfl⟩
 | i::is,d::ds,_,σ,σd,hl,.cons (b:=v) r rr,he,q=>⟨v,_,rfl,pq (by simpa using hl) rr (he.set i r) fun σ' h' hl'=>q σ' h' fun j hj=>by
   rw [List.contains_cons,Bool.or_eq_false_iff] at hj
   rw [hl' j hj.2,List.getElem?_set_ne (by intro z; subst z; simp at hj)]⟩
 | [],_::_,_,_,_,hl,_,_,_=>by simp at hl
 | _::_,[],_,_,_,hl,_,_,_=>by simp at hl
theorem Bv {es:List Expr} {is:List Nat} {k:Nat} (hK:Γ.K=X.K) (hc:X.calm=true) (hN:X.N.Nodup) (hn:jh X es is):PG X (.Tuple es k pos) (tMG Γ (.many is)) :=
 PG.imp (Eu hc (p6 hN hn) (mG hn).1 (mG hn).2) fun v σ H Q h=>by
  obtain ⟨σd,ι,S,d,σd',he,hs,r,hb,q⟩:=h
  cases d with
  | tup ds =>
   obtain ⟨a,xs,rfl,t,p⟩:=r.bL
   have hb:guard (decide (ds.length=is.length)) (pure (bT is ds σd):M Sg) S=.ok σd' S:=hb
   by_cases hl:ds.length=is.length
   ·rw [show decide (ds.length=is.length)=true from decide_eq_true hl] at hb
    cases hb
    exact ⟨a,xs,rfl,by rw [<- hK]; exact t,by rw [<- p.length]; exact hl,pq hl p he q⟩
   ·rw [show decide (ds.length=is.length)=false from decide_eq_false hl] at hb
    cases hb
  | _=>cases hb
theorem jZ (t:Tg) (d:D) (σ:Sg) (S:aa):(∃ σ',aJ t d σ S=.ok σ' S/\σ'.length=σ.length)\/aJ t d σ S=.bad:=by
 have hlen:∀ (is:List Nat) (ds:List D) (σ:Sg),(bT is ds σ).length=σ.length:=by
  intro is
  induction is with
  | nil=>intro ds σ; cases ds <;> rfl
  | cons i r ih=>intro ds σ; cases ds with
   | nil=>rfl
   | cons d ds=>show (bT r ds (σ.set i (some d))).length=_; rw [ih,List.length_set]
 cases t with
 | one i=>exact .inl ⟨_,rfl,by rw [List.length_set]⟩
 | many is =>
  cases d with
  | tup ds =>
   show (∃ σ',guard (decide (ds.length=is.length)) (pure (bT is ds σ):M Sg) S=.ok σ' S/\_)\/guard (decide (ds.length=is.length)) (pure (bT is ds σ):M Sg) S=.bad
   by_cases hl:ds.length=is.length
   ·rw [show decide (ds.length=is.length)=true from decide_eq_true hl]
    exact .inl ⟨_,rfl,hlen _ _ _⟩
   ·rw [show decide (ds.length=is.length)=false from decide_eq_false hl]
    exact .inr rfl
  | _=>exact .inr rfl
theorem Out.aJ {α:Type} {t:Tg} {d:D} {σd:Sg} {ι:List Addr} {H:Hp} {S:aa} {f:Sg->M α} {k:α->aa->List Addr->Hp->Prop} (ho:Out Γ xw ι H ((EV.aJ t d σd>>=f) S) k):∃ σd',EV.aJ t d σd S=.ok σd' S/\σd'.length=σd.length/\Out Γ xw ι H (f σd' S) k:=by
 rcases jZ t d σd S with ⟨σ',e,l⟩|e
 ·rw [aj e] at ho; exact ⟨σ',e,l,ho⟩
 ·rw [aR e] at ho; exact ho.elim
end
end EV

namespace EV
open PySem PySem.Spec PyProof.Rows L2
noncomputable def XF:XW:=fun _ _ _ _=>False
section
variable {Γ:Gx} {xw:XW} {ι ι':List Addr} {H H':Hp} {S:aa} {σ:L2.St}
theorem ak.take (hS:ak Γ ι H S) {l:Addr} {xs:List V} {ds:List D} (hn:l ∉ ι) (h:H l=some (.lst xs)) (r:ao Γ ι H ds xs):ak Γ (ι++[l]) H (S++[.lst ds]):=by
 have mv:∀ {d:D} {v:V},Rep Γ ι H d v->Rep Γ (ι++[l]) H d v:=fun r=>r.move (List.prefix_append _ _) (fun _ _ e=>e) fun _ _ _ e=>e
 refine ⟨by simp [hS.len],List.nodup_append.mpr ⟨hS.nd,by simp,?_⟩,fun m c hm=>?_⟩
 ·intro a ha b hb
  have:b=l:=by simpa using hb
  subst this
  exact fun z=>hn (z ▸ ha)
 ·by_cases hl:m < S.length
  ·rw [List.getElem?_append_left hl] at hm
   obtain ⟨a,ha,c1⟩:=hS.cell m c hm
   refine ⟨a,gu (List.prefix_append _ _) ha,?_⟩
   cases c with
   | lst zs=>obtain ⟨ws,hw,rw'⟩:=c1; exact ⟨ws,hw,Paired.imp (fun _ _ r=>mv r) rw'⟩
   | dct kvs=>obtain ⟨ws,hw,rw'⟩:=c1; exact ⟨ws,hw,Paired.imp (fun _ _ q=>⟨q.1,mv q.2⟩) rw'⟩
  ·rw [List.getElem?_append_right (by omega)] at hm
   have hl2:m - S.length=0:=by
    have:=(List.getElem?_eq_some_iff.mp hm).1
    simp at this; omega
   rw [hl2] at hm
   have h':(Cell.lst ds)=c:=by simpa using hm
   subst h'
   have e1:m=ι.length:=by rw [hS.len]; omega
   subst e1
   exact ⟨l,by simp,xs,h,Paired.imp (fun _ _ r=>mv r) r⟩
theorem Ext.past (e:Ext ι ι' H H') {l:Addr} {ys:List V} (hl:H l=none):Ext ι ι' H (upd H' l (.lst ys)) :=
 ⟨e.pre,fun a xs h=>by rw [aB (bz h hl)]; exact e.tup a xs h,fun a o u h=>by rw [aB (bz h hl)]; exact e.frz a o u h,fun a o h n=>by rw [aB (bz h hl)]; exact e.oth a o h n,e.fresh⟩
theorem Ext.cg (e:Ext ι ι' H H') {l:Addr} {o:HO} (h:H l=some o) (hn:l ∉ ι):H' l=some o/\l ∉ ι':=⟨e.oth l o h hn,fun m=>by have:=e.fresh l m hn; rw [h] at this; cases this⟩
theorem wR {src:Src} {f:D->M (Option D)} {post:List D} {S2:aa} (h:bx src f [] S=.ok post S2):aE src S=.ok () S/\post=[]/\S2=S:=by
 have h:(aE src>>=fun _=>pure []) S=.ok post S2:=h
 rcases iS src S with e|e
 ·rw [aj e] at h; cases h; exact ⟨e,rfl,rfl⟩
 ·rw [aR e] at h; cases h
theorem zO {src:Src} {f:D->M (Option D)} {d:D} {rest post:List D} {S2:aa} (h:bx src f (d::rest) S=.ok post S2) :
  aE src S=.ok () S/\∃ y S3 post',f d S=.ok y S3/\bx src f rest S3=.ok post' S2/\post=(match y with|some y=>y::post'|none=>post'):=by
 have h:(aE src>>=fun _=>f d>>=fun y=>bx src f rest>>=fun ys=>pure (match y with|some y=>y::ys|none=>ys)) S=.ok post S2:=h
 rcases iS src S with e|e
 ·rw [aj e] at h
  cases q:f d S with
  | bad=>rw [aR q] at h; cases h
  | exc c S3=>rw [cP q] at h; cases h
  | ok y S3 =>
   rw [aj q] at h
   cases q2:bx src f rest S3 with
   | bad=>rw [aR q2] at h; cases h
   | exc c S4=>rw [cP q2] at h; cases h
   | ok ys S4=>rw [aj q2] at h; cases h; exact ⟨e,y,S3,ys,rfl,q2,rfl⟩
 ·rw [aR e] at h; cases h
end
section
variable {X:Cx} {Γ:Gx} {xw:XW} {scope:Scope} {N':List Str} {k:Nat} {elt iter tg:Expr} {ifs:List Expr} {pos:Pos} {mi:Sg->M Src} {t:Tg} {nt:Sg->M Bool} {me:Sg->M D}
noncomputable def jd (k:Nat) (mi:Sg->M Src) (t:Tg) (nt:Sg->M Bool) (me:Sg->M D):Sg->M D:=fun σ=>mi σ>>=fun s =>
 quiet (bx s (fun d=>aJ t d (σ++List.replicate k none)>>=fun σ'=>nt σ'>>=fun b=>if b=true then me σ'>>=fun y=>pure (some y) else pure none) s.its)>>=fun ys=>guard (fits ys.length) (alloc (.lst ys))
theorem pT (hslot:∀ j,j < X.N.length->t.has j=false) {σ:L2.St} (hσ:σ.length=X.N.length) {H:Hp} {Q:VK} (h:tM Γ xw (jd k mi t nt me) σ H Q):mj k (tMI Γ xw mi) (tMG Γ t) (tMT Γ XF nt) (tM Γ XF me) σ H Q:=by
 obtain ⟨σd,ι,S,hE,hS,ho⟩:=h
 refine ⟨σd,ι,S,hE,hS,ho.bind.mono fun src S1 ι1 H1 _ _ ⟨s1,e1,o1⟩ J hJ l hl=>?_⟩
 generalize hf:(fun d=>aJ t d (σd++List.replicate k none)>>=fun σ'=>nt σ'>>=fun b=>if b=true then me σ'>>=fun y=>pure (some y) else pure none)=f at o1
 cases q:bx src f src.its S1 with
 | bad=>rw [aR (show quiet (bx src f src.its) S1=.bad by unfold quiet; rw [q])] at o1; exact o1.elim
 | exc c S2=>rw [aR (show quiet (bx src f src.its) S1=.bad by unfold quiet; rw [q])] at o1; exact o1.elim
 | ok ys S2 =>
  rw [aj (show quiet (bx src f src.its) S1=.ok ys S2 by unfold quiet; rw [q])] at o1
  obtain ⟨hz,o1⟩:=Out.guard o1
  have hz:=dQ hz
  refine ⟨fun i m H=>∃ ι' S' pre post xs,i<=src.its.length/\m=src.its.length - i/\Ext ι1 ι' H1 H/\ak Γ ι' H S'/\l ∉ ι'/\H l=some (.lst xs)/\ao Γ ι' H pre xs/\bx src f (src.its.drop i) S'=.ok post S2/\ys=pre++post/\aO Γ ι' H σ σd,
   ⟨src.its.length,ι1,S1,[],ys,[],Nat.zero_le _,rfl,Ext.laid hl,s1.laid hl _,s1.new hl,c_,.nil,q,rfl,(hE.ext e1).ext (Ext.laid hl)⟩,?_⟩
  rintro i m H ⟨ι',S',pre,post,xs,hi,rfl,eH,sH,ln,hH,rp,hc,hys,eE⟩
  by_cases hlt:i < src.its.length
  ·rw [List.drop_eq_getElem_cons hlt] at hc
   obtain ⟨st,y,S3,post',hfd,hc',hpost⟩:=zO hc
   obtain ⟨jgo,jyld⟩:=(hJ ι' H S' eH sH st).1 i src.its[i] (List.getElem?_eq_getElem hlt)
   refine .inr ⟨jgo,fun x H' yl=>?_⟩
   obtain ⟨eX,sX,rX⟩:=jyld x H' yl
   obtain ⟨hH',_⟩:=eX.cg hH ln
   rw [<- hf] at hfd
   have hfd:(aJ t src.its[i] (σd++List.replicate k none)>>=fun σ'=>nt σ'>>=fun b=>if b=true then me σ'>>=fun y=>pure (some y) else pure none) S'=.ok y S3:=hfd
   obtain ⟨σd',hb⟩:∃ σd',aJ t src.its[i] (σd++List.replicate k none) S'=.ok σd' S':=by
    rcases jZ t src.its[i] (σd++List.replicate k none) S' with ⟨σd',hb,_⟩|hb
    ·exact ⟨σd',hb⟩
    ·rw [aR hb] at hfd; cases hfd
   rw [aj hb] at hfd
   refine ⟨σd++List.replicate k none,ι',S',src.its[i],σd',(eE.ext eX).more k,sX,rX,hb,fun σ' hE' hK=>⟨fun j v hj=>?_,?_⟩⟩
   ·rw [hK j (hslot j ?_)]; exact hj
    by_cases hjl:j < σ.length
    ·omega
    ·rw [List.getElem?_append_right (by omega),List.getElem?_replicate] at hj
     split at hj <;> cases hj
   ·cases qn:nt σd' S' with
    | bad=>rw [aR qn] at hfd; cases hfd
    | exc c S4=>rw [cP qn] at hfd; cases hfd
    | ok b S4 =>
     rw [aj qn] at hfd
     refine ⟨σd',ι',S',hE',sX,?_⟩
     rw [qn]
     intro ι3 H3 e3 s3
     obtain ⟨hH3,ln3⟩:=e3.cg hH' ln
     have eA:Ext ι1 ι3 H1 H3:=(eH.trans eX).trans e3
     cases b with
     | false =>
      rw [if_neg Bool.false_ne_true] at hfd ⊢
      cases hfd
      exact ⟨src.its.length - (i+1),by omega,ι3,_,pre,post',xs,hlt,rfl,eA,s3,ln3,hH3,ao.ext e3 (ao.ext eX rp),hc',by rw [hys,hpost],(eE.ext eX).ext e3⟩
     | true =>
      rw [if_pos rfl] at hfd ⊢
      refine ⟨σd',ι3,S4,hE'.ext e3,s3,?_⟩
      cases qe:me σd' S4 with
      | bad=>rw [aR qe] at hfd; cases hfd
      | exc c S5=>rw [cP qe] at hfd; cases hfd
      | ok yd S5 =>
       rw [aj qe] at hfd
       cases hfd
       intro ι4 H4 e4 s4 v rv
       obtain ⟨hH4,ln4⟩:=e4.cg hH3 ln3
       have rp4:ao Γ ι4 H4 pre xs:=ao.ext e4 (ao.ext e3 (ao.ext eX rp))
       refine ⟨xs,hH4,?_,src.its.length - (i+1),by omega,ι4,_,pre++[yd],post',xs++[v],hlt,rfl,(eA.trans e4).past hl,s4.other hH4 ln4,ln4,c_,ao.write hH4 (Paired.app rp4 (.cons rv .nil)),hc',by rw [hys,hpost]; simp,(((eE.ext eX).ext e3).ext e4).write hH4⟩
       have:=rp4.length
       rw [hys,hpost,List.length_append,List.length_cons] at hz
       omega
  ·have ei:i=src.its.length:=by omega
   subst ei
   rw [List.drop_length] at hc
   obtain ⟨st,rfl,rfl⟩:=wR hc
   refine .inl ⟨(hJ ι' H S2 eH sH st).2,?_⟩
   rw [List.append_nil] at hys
   subst hys
   refine o1 (ι'++[l]) H ⟨eH.pre.trans (List.prefix_append _ _),eH.tup,eH.frz,eH.oth,fun a ha hn=>?_⟩ (sH.take ln hH rp) _ (.loc (by rw [<- sH.len]; simp))
   rcases List.mem_append.mp ha with z|z
   ·exact eH.fresh a z hn
   ·have:a=l:=by simpa using z
    rw [this]; exact hl
theorem uD (C:eB X scope N' k) (hc:X.calm=true) (hslot:∀ j,j < X.N.length->t.has j=false) (hi:PI X tg iter (tMI Γ xw mi)) (hg:∀ cl fp s3 H3,PG (aF X scope cl N' fp s3 H3) tg (tMG Γ t)) (htt:∀ cl fp s3 H3,PF (aF X scope cl N' fp s3 H3) ifs (tMT Γ XF nt)) (hte:∀ cl fp s3 H3,PE (aF X scope cl N' fp s3 H3) elt (tM Γ XF me))
  (hs:∀ x,foldedSetIterable iter X.env x=pure x):PE X (.ListComp elt [⟨tg,iter,ifs,0⟩] scope pos) (tM Γ xw (jd k mi t nt me)):=by
 intro pins s σ H Q I h
 exact Cp C hc hi hg htt hte hs pins s σ H Q I (pT hslot I.len h)
noncomputable def FlK (Γ:Gx) (D:Ends):Fl->aa->List Addr->Hp->Prop
 | .nx σ',_,ι',H'=>∀ σv,aO Γ ι' H' σv σ'->D.nx σv H'
 | .rt d,_,ι',H'=>∀ v,Rep Γ ι' H' d v->D.rt v H'
 | .bk σ',_,ι',H'=>∀ σv,aO Γ ι' H' σv σ'->D.bk σv H'
 | .ct σ',_,ι',H'=>∀ σv,aO Γ ι' H' σv σ'->D.ct σv H'
noncomputable def tMS (Γ:Gx) (xw:XW) (m:Sg->M Fl):TS:=fun D σ H=>∃ σd ι S,aO Γ ι H σ σd/\ak Γ ι H S/\Out Γ xw ι H (m σd S) (FlK Γ D)
variable {e:Expr} {ma:Sg->M D} {na:Sg->M Bool} {ms ms2:Sg->M Fl} {st:Stmt} {sts sts2:List Stmt}
theorem xx (he:PE X e (tM Γ xw ma)):PS X (.Return (some e) pos) (tMS Γ xw fun σ=>ma σ>>=fun d=>pure (.rt d)) :=
 PS.imp (ur he) fun D σ H h=>by
  obtain ⟨σd,ι,S,hE,hs,ho⟩:=h
  exact ⟨σd,ι,S,hE,hs,ho.bind.mono fun d S' ι' H' _ _ ⟨s',e',o'⟩ v r=>o'.here s' v r⟩
theorem wg:PS X (.Return none pos) (tMS Γ xw fun _=>pure (.rt .non)) :=
 PS.imp yr fun D σ H h=>by
  obtain ⟨σd,ι,S,hE,hs,ho⟩:=h
  exact ho.here hs _ .non
theorem we (he:PE X e (tM Γ xw ma)) (hs:swapsWith e none pos.line X.env=pure false):PS X (.Expr e pos) (tMS Γ xw fun σ=>ma σ>>=fun _=>pure (.nx σ)) :=
 PS.imp (Ab he hs) fun D σ H h=>by
  obtain ⟨σd,ι,S,hE,hs,ho⟩:=h
  exact ⟨σd,ι,S,hE,hs,ho.bind.mono fun d S' ι' H' _ _ ⟨s',e',o'⟩ v r=>o'.here s' _ (hE.ext e')⟩
theorem DY:PS X (.Pass pos) (tMS Γ xw fun σ=>pure (.nx σ)) :=
 PS.imp BZ fun D σ H h=>by
  obtain ⟨σd,ι,S,hE,hs,ho⟩:=h
  exact ho.here hs _ hE
theorem vv {x j p2}:PS X (.Expr (.Constant (.str x) j p2) pos) (tMS Γ xw fun σ=>pure (.nx σ)) :=
 PS.imp A9 fun D σ H h=>by
  obtain ⟨σd,ι,S,hE,hs,ho⟩:=h
  exact ho.here hs _ hE
theorem Bc {D:Ends} {σ:L2.St} {H:Hp} (h:tMS Γ xw (fun σ=>ma σ>>=fun d=>aJ t d σ>>=fun σ'=>pure (.nx σ')) D σ H):kh (tM Γ xw ma) (tMG Γ t) D σ H:=by
 obtain ⟨σd,ι,S,hE,hs,ho⟩:=h
 refine ⟨σd,ι,S,hE,hs,ho.bind.mono fun d S' ι' H' _ _ ⟨s',e',o'⟩ v r=>?_⟩
 obtain ⟨σd',hb,_,o'⟩:=Out.aJ o'
 exact ⟨σd,ι',S',d,σd',hE.ext e',s',r,hb,fun σ' hE' _=>o'.here s' _ hE'⟩
theorem lC (he:PE X e (tM Γ xw ma)) (hg:PG X tg (tMG Γ t)) (hs:swapsWithSole [tg] e pos.line X.env=pure false) (hw:swappedStores [tg] e X.env=pure none) (h1:(assignEach [tg] X.env).map (·.2)=[assign tg X.env]) :
  PS X (.Assign [tg] e pos) (tMS Γ xw fun σ=>ma σ>>=fun d=>aJ t d σ>>=fun σ'=>pure (.nx σ')):=PS.imp (pM he hg hs hw h1) fun D σ H h=>Bc h
theorem DS {j:Nat} {y:Str} {py spos:Pos} (C:eB X scope N' k) (hc:X.calm=true) (hslot:∀ j,j < X.N.length->t.has j=false) (hi:PI X tg iter (tMI Γ xw mi)) (hg:∀ cl fp s3 H3,PG (aF X scope cl N' fp s3 H3) tg (tMG Γ t)) (htt:∀ cl fp s3 H3,PF (aF X scope cl N' fp s3 H3) ifs (tMT Γ XF nt)) (hte:∀ cl fp s3 H3,PE (aF X scope cl N' fp s3 H3) elt (tM Γ XF me))
  (hN:X.N.Nodup) (hj:X.N[j]?=some y) (hy:X.env.scope.names.lookup y=some .local) (hsw:swapsWith (.ListComp elt [⟨tg,iter,ifs,0⟩] scope pos) (some (.Name y py)) spos.line X.env=pure true) (hs:∀ x,foldedSetIterable iter X.env x=pure x) :
  PS X (.Assign [.Name y py] (.ListComp elt [⟨tg,iter,ifs,0⟩] scope pos) spos) (tMS Γ xw fun σ=>jd k mi t nt me σ>>=fun d=>aJ (.one j) d σ>>=fun σ'=>pure (.nx σ')):=by
 intro pins s σ H D I h
 refine BD C hc hi hg htt hte hN hj hy hsw hs pins s σ H D I ?_
 have h1:tM Γ xw (jd k mi t nt me) σ H (fun x H1=>gQ j x σ H1 D.nx):=by
  obtain ⟨σd,ι,S,hE,hS,ho⟩:=h
  refine ⟨σd,ι,S,hE,hS,ho.bind.mono fun d S' ι' H' _ _ ⟨s',e',o'⟩ v r=>?_⟩
  exact o'.here s' _ ((hE.ext e').set j r)
 exact pT hslot I.len h1
theorem vR {c:Expr} (hc:PT X c (tMT Γ xw na)) (ha:PSs X sts (tMS Γ xw ms)) (hb:PSs X sts2 (tMS Γ xw ms2)):PS X (.If c sts sts2 pos) (tMS Γ xw fun σ=>na σ>>=fun k=>if k=true then ms σ else ms2 σ) :=
 PS.imp (vg hc ha hb) fun D σ H h=>by
  obtain ⟨σd,ι,S,hE,hs,ho⟩:=h
  refine ⟨σd,ι,S,hE,hs,ho.bind.mono fun k S' ι' H' _ _ ⟨s',e',o'⟩=>?_⟩
  cases k with
  | true=>rw [if_pos rfl]; exact ⟨σd,ι',S',hE.ext e',s',o'⟩
  | false=>rw [if_neg Bool.false_ne_true]; exact ⟨σd,ι',S',hE.ext e',s',o'⟩
theorem Ca:PSs X [] (tMS Γ xw fun σ=>pure (.nx σ)) :=
 PSs.imp C9 fun D σ H h=>by
  obtain ⟨σd,ι,S,hE,hs,ho⟩:=h
  exact ho.here hs _ hE
theorem CQ (h1:PS X st (tMS Γ xw ms)):PSs X [st] (tMS Γ xw ms):=vA h1
theorem vD (h1:PS X st (tMS Γ xw ms)) (h2:PSs X sts (tMS Γ xw ms2)):PSs X (st::sts) (tMS Γ xw fun σ=>ms σ>>=fun f=>match f with|.nx σ'=>ms2 σ'|f=>pure f) :=
 PSs.imp (AI h1 h2) fun D σ H h=>by
  obtain ⟨σd,ι,S,hE,hs,ho⟩:=h
  refine ⟨σd,ι,S,hE,hs,ho.bind.mono fun f S' ι' H' _ _ ⟨s',e',o'⟩=>?_⟩
  cases f with
  | nx σ'=>exact fun σv hv=>⟨σ',ι',S',hv,s',o'⟩
  | rt d=>exact fun v r=>o'.here s' v r
  | bk σ'=>exact fun σv hv=>o'.here s' σv hv
  | ct σ'=>exact fun σv hv=>o'.here s' σv hv
end
end EV

namespace EV
open PySem PySem.Spec PyProof.Rows L2
theorem Paired.put {α β:Type} {R:α->β->Prop} {a:α} {b:β} (r:R a b):∀ {as:List α} {bs:List β} (j:Nat),Paired R as bs->Paired R (as.set j a) (bs.set j b)
 | _,_,_,.nil=>.nil
 | _,_,0,.cons _ t=>.cons r t
 | _,_,j+1,.cons h t=>.cons h (Paired.put r j t)
section
variable {X:Cx} {Γ:Gx} {xw:XW}
noncomputable def oO (Γ:Gx) (xw:XW):V->V->V->Hp->(Hp->Prop)->Prop:=fun o i v H Q=>∃ ι S da di dv,ak Γ ι H S/\Rep Γ ι H da o/\Rep Γ ι H di i/\Rep Γ ι H dv v/\Out Γ xw ι H (mW da di dv S) fun _ _ _ H'=>Q H'
theorem AU:lG X (oO Γ xw):=by
 intro pins s σ H o i v ov iv u Q I ro ri rv h
 obtain ⟨ι,S,da,di,dv,hS,r1,r2,r3,ho⟩:=h
 cases da with
 | loc l =>
  cases di with
  | int k =>
   obtain ⟨es,e,ho⟩:=Out.bg ho
   obtain ⟨a,xs,ha,hx,p⟩:=hS.lst e
   cases r2
   cases r1 with
   | loc q =>
    rw [ha] at q; cases q
    cases q:EV.ixN es.length k with
    | none=>rw [q] at ho; exact ho.elim
    | some j =>
     rw [q] at ho
     refine set_list pins s σ H _ _ v _ _ u Q I ro ri rv ⟨a,xs,k,j,rfl,rfl,hx,by rw [<- p.length]; exact q,?_⟩
     exact ho ι _ (Ext.write hx (List.mem_of_getElem? ha)) (hS.write e ha hx (Paired.put r3 j p))
  | _=>exact ho.elim
 | _=>exact ho.elim
theorem Be {o i e:Expr} {mo mi me:Sg->M D} {pos p:Pos} (he:PE X e (tM Γ xw me)) (h1:PE X o (tM Γ xw mo)) (h2:PE X i (tM Γ xw mi)) (hi:∀ a b c q,i≠.Slice a b c q)
  (hs:swapsWithSole [.Subscript o i p] e pos.line X.env=pure false):PS X (.Assign [.Subscript o i p] e pos) (tMS Γ xw fun σ=>me σ>>=fun d=>mo σ>>=fun a=>mi σ>>=fun k=>mW a k d>>=fun _=>pure (.nx σ)):=by
 have pg:PG X (.Subscript o i p) (nT (tM Γ xw mo) (tM Γ xw mi) (oO Γ xw)):=tT h1 h2 AU (by
  intro v
  cases i <;> first|rfl|exact absurd rfl (hi _ _ _ _))
 refine PS.imp (pM he pg hs rfl rfl) fun D σ H h=>?_
 obtain ⟨σd,ι,S,hE,hs,ho⟩:=h
 refine ⟨σd,ι,S,hE,hs,ho.bind.mono fun d S1 ι1 H1 _ _ ⟨s1,e1,o1⟩ v rv=>?_⟩
 refine ⟨σd,ι1,S1,hE.ext e1,s1,o1.bind.mono fun a S2 ι2 H2 _ _ ⟨s2,e2,o2⟩ ov ro=>?_⟩
 refine ⟨σd,ι2,S2,(hE.ext e1).ext e2,s2,o2.bind.mono fun k S3 ι3 H3 _ _ ⟨s3,e3,o3⟩ iv ri=>?_⟩
 exact ⟨ι3,S3,a,k,d,s3,ro.ext e3,ri,(rv.ext e2).ext e3,o3.bind.mono fun _ S4 ι4 H4 _ _ ⟨s4,e4,o4⟩=>o4.here s4 _ ((((hE.ext e1).ext e2).ext e3).ext e4)⟩
end
end EV

namespace EV
open PySem PySem.Spec PyProof.Rows L2 TB
theorem qa:∀ {t u:List Int},t≠u->lexLe t u=true->ay t u=true
 | [],[],h,_=>absurd rfl h
 | [],_::_,_,_=>rfl
 | _::_,[],_,e=>by cases e
 | a::r,b::q,h,e=>by
  unfold lexLe at e
  unfold ay
  by_cases ab:a=b
  ·subst ab
   rw [if_neg (Int.lt_irrefl a),if_pos rfl] at e
   rw [if_pos rfl]
   exact qa (fun z=>h (by rw [z])) e
  ·rw [if_neg ab]
   by_cases lt:a < b
   ·exact decide_eq_true lt
   ·rw [if_neg lt,if_neg ab] at e; cases e
theorem ow:∀ {t u:List Int},lexLe t u=false->ay u t=true
 | [],_,e=>by cases e
 | _::_,[],_=>rfl
 | a::r,b::q,e=>by
  unfold lexLe at e
  unfold ay
  by_cases ab:a=b
  ·subst ab
   rw [if_neg (Int.lt_irrefl a),if_pos rfl] at e
   rw [if_pos rfl]
   exact ow e
  ·rw [if_neg fun z=>ab z.symm]
   by_cases lt:a < b
   ·rw [if_pos lt] at e; cases e
   ·exact decide_eq_true (by omega)
theorem mC (t x:List Int):∀ r,x∈cQ t r ↔ x=t\/x∈r
 | []=>by unfold cQ; simp
 | u::r=>by
  unfold cQ
  by_cases e:t=u
  ·rw [if_pos e]; subst e; simp
  ·rw [if_neg e]
   by_cases l:lexLe t u=true
   ·rw [if_pos l]; simp
   ·rw [if_neg l,List.mem_cons,mC t x r,List.mem_cons]; constructor
    ·rintro (h|h|h)
     ·exact .inr (.inl h)
     ·exact .inl h
     ·exact .inr (.inr h)
    ·rintro (h|h|h)
     ·exact .inr (.inl h)
     ·exact .inl h
     ·exact .inr (.inr h)
theorem qd (t:List Int):∀ {r},r.Pairwise (fun a b=>ay a b=true)->(cQ t r).Pairwise (fun a b=>ay a b=true)
 | [],_=>by unfold cQ; exact List.pairwise_singleton _ _
 | u::r,h=>by
  unfold cQ
  by_cases e:t=u
  ·rw [if_pos e]; exact h
  ·rw [if_neg e]
   obtain ⟨h1,h2⟩:=List.pairwise_cons.mp h
   by_cases l:lexLe t u=true
   ·rw [if_pos l]
    have tu:=qa e l
    refine List.pairwise_cons.mpr ⟨fun x hx=>?_,h⟩
    rcases List.mem_cons.mp hx with z|z
    ·rw [z]; exact tu
    ·exact lex_trans _ _ _ tu (h1 x z)
   ·rw [if_neg l]
    have ut:=ow (Bool.eq_false_iff.mpr l)
    refine List.pairwise_cons.mpr ⟨fun x hx=>?_,qd t h2⟩
    rcases (mC t x r).mp hx with z|z
    ·rw [z]; exact ut
    ·exact h1 x z
theorem jE:∀ ts,(aP ts).Pairwise (fun a b=>ay a b=true)
 | []=>.nil
 | t::r=>qd t (jE r)
theorem lJ (x:List Int):∀ ts,x∈aP ts ↔ x∈ts
 | []=>Iff.rfl
 | t::r=>by
  show x∈cQ t (aP r) ↔ _
  rw [mC,lJ x r,List.mem_cons]
theorem sE {l:List (List Int)} (h:l.Pairwise (fun a b=>ay a b=true)):l.Nodup:=h.imp fun {a b} e q=>by
 rw [q,lex_irrefl] at e; cases e
theorem mL {ts ks:List (List Int)} (h:ks.Pairwise (fun a b=>ay a b=true)) (m:∀ y,y∈ks ↔ y∈ts):ks=aP ts:=by
 have p:ks.Perm (aP ts):=(List.perm_ext_iff_of_nodup (sE h) (sE (jE ts))).mpr fun y=>by rw [m,lJ]
 refine p.eq_of_pairwise (fun x y _ _ h1 h2=>?_) h (jE ts)
 have z:=lex_trans _ _ _ h1 h2
 rw [lex_irrefl] at z; cases z
theorem m5 (t:List Int):∀ r,(cQ t r).length<=r.length+1
 | []=>Nat.le_refl _
 | u::r=>by
  unfold cQ
  by_cases e:t=u
  ·rw [if_pos e]; exact Nat.le_succ _
  ·rw [if_neg e]
   by_cases l:lexLe t u=true
   ·rw [if_pos l]; exact Nat.le_refl _
   ·rw [if_neg l]; exact Nat.succ_le_succ (m5 t r)
theorem rF:∀ ts,(aP ts).length<=ts.length
 | []=>Nat.le_refl _
 | t::r=>Nat.le_trans (m5 t (aP r)) (Nat.succ_le_succ (rF r))
theorem kM:∀ {ds:List D} {ts:List (List Int)},tups ds=some ts->ds=ts.map fun t=>.tup (t.map .int)
 | [],_,h=>by cases h; rfl
 | d::r,ts,h=>by
  cases d with
  | tup es =>
   unfold tups at h
   cases q1:allInts es with
   | none=>rw [q1] at h; cases h
   | some t =>
    cases q2:tups r with
    | none=>rw [q1,q2] at h; cases h
    | some q =>
     rw [q1,q2] at h; cases h
     rw [List.map_cons,<- kM q2,<- ints_map q1]
  | _=>cases h
section
variable {X:Cx} {Γ:Gx} {xw:XW} {ι:List Addr} {H:Hp}
theorem oG {P:Program} {w:World}:∀ {ks:List Int} {its:List Value},Vals (ks.map V.int) its->ItemsAre (intKind P w) ks its
 | [],_,.nil=>.nil
 | k::r,_,.cons h t=>by
  obtain ⟨u,rfl⟩:=h
  exact .cons (beq_self_eq_true k) (oG t)
theorem fY {pins:List (Addr × Obj)} {σ:L2.St} {s:Shared} {c:Addr} {ks:List Int} (I:Inv X pins σ H s) (h:SqT X.K H c (ks.map V.int)):TK X.prog X.w s.heap ks c:=by
 obtain ⟨its,r,⟨o,e1,e2,n,e3⟩,_⟩:=I.tuple h
 exact ⟨o,its.toArray,n,e1,e2,e3,oG r⟩
theorem jX:∀ {out:List Value} {ks:List (List Int)},out.length=ks.length->(∀ (i:Nat) v k,out[i]?=some v->ks[i]?=some k->∃ c,v=.ref c/\SqT Γ.K H c (k.map V.int))->∃ vs,Vals vs out/\ao Γ ι H (ks.map fun t=>.tup (t.map .int)) vs
 | [],[],_,_=>⟨[],.nil,.nil⟩
 | [],_::_,hl,_=>by cases hl
 | _::_,[],hl,_=>by cases hl
 | v::o,k::r,hl,h=>by
  obtain ⟨c,rfl,e⟩:=h 0 v k rfl rfl
  obtain ⟨vs,h1,h2⟩:=jX (out:=o) (ks:=r) (Nat.succ.inj hl) fun i v' k' e1 e2=>h (i+1) v' k' e1 e2
  exact ⟨.ref c::vs,.cons rfl h1,.cons (.f_ e (iJ k)) h2⟩
theorem item_at:∀ {ts:List (List Int)} {xs:List V} {its:List Value} {i:Nat} {v:Value},ao Γ ι H (ts.map fun t=>.tup (t.map .int)) xs->Vals xs its->its[i]?=some v->∃ c t,v=.ref c/\ts[i]?=some t/\SqT Γ.K H c (t.map V.int)
 | [],_,_,_,_,.nil,.nil,e=>by simp at e
 | t::r,_,_,0,_,.cons a p,.cons b q,e=>by
  cases e
  obtain ⟨c,ys,rfl,sq,rp⟩:=a.bL
  cases b
  rw [eG rp] at sq
  exact ⟨c,t,rfl,rfl,sq⟩
 | t::r,_,_,i+1,_,.cons a p,.cons b q,e=>by
  obtain ⟨c,u,e1,e2,e3⟩:=item_at (ts:=r) (i:=i) p q e
  exact ⟨c,u,e1,e2,e3⟩
theorem wZ {sub:Sub} {x y:Str} {p p' pos pos':Pos} {a:Expr} {ma:Sg->M D} (hK:Γ.K=X.K) (hc:X.calm=true) (hu:X.A.units+4 < cLine) (hg:Gl X x) (hm:X.mg x=none) (hv:bootBuiltins x=some (.builtin "sorted"))
  (hg':Gl X y) (hm':X.mg y=none) (hv':bootBuiltins y=some (.type "set")) (ha:PE X a (tM Γ xw ma)) (hn:x≠"__name__") (hdb:(x==("__debug__" : Str))=false) (hn':y≠"__name__") (hdb':(y==("__debug__" : Str))=false)
  (hs:starEach [a] X.env=(false,eval a X.env)::starEach [] X.env):PE X (.Call (.Name x p) [.Call (.Name y p') [a] [] pos'] [] pos) (tM Γ xw fun σ=>ma σ>>=fun d=>bi1 sub .sortedSet d):=by
 intro pins s σ H Q I h
 refine wpAny_Call_Name_kw (c5 I hg hm hv ?_ hn hdb)
 refine PyProof.Rows.callWith_builtin1 (e:=.Call (.Name y p') [a] [] pos') (rest:=[]) ?_ rfl rfl
 refine Calls.spliced_cons ?_
 refine wpAny_Call_Name_kw (c5 I hg' hm' hv' ?_ hn' hdb')
 refine PyProof.Rows.callWith_type1 (e:=a) (rest:=[]) ?_ hs rfl
 rw [hs]
 refine Calls.spliced_cons (thn (ha pins s σ H _ I (DN h)) fun u s1 ⟨v,H1,I1,r1,q1⟩=>Calls.spliced_nil ?_)
 obtain ⟨ι,S,d,hS,r,ho⟩:=q1
 obtain ⟨ds,q,ho⟩:=Out.c8 ho
 obtain ⟨ts,q2,ho⟩:=Out.opt ho
 obtain ⟨hz,ho⟩:=Out.guard ho
 obtain ⟨hz1,hz2⟩:=Bool.and_eq_true_iff.mp hz
 have hz1:ts.length<=18:=of_decide_eq_true hz1
 obtain ⟨_,pa,xs,rfl,sq,rp⟩:=Ci hS r q
 rw [kM q2] at rp
 cases r1
 rw [hK] at sq
 obtain ⟨its,rv,pl,_⟩:=I1.list sq
 have hl:its.length=ts.length:=by rw [<- rv.length,<- rp.length,List.length_map]
 refine zw (val:=fun i=>ts.getD i []) hu (I1.ok.hd hc) pl.isList (fun i v e=>?_) (by rw [List.size_toArray]; omega) fun h' tk md=>?_
 ·obtain ⟨c,t,e1,e2,e3⟩:=item_at rp rv (by simpa using e)
  refine ⟨c,e1,?_⟩
  show TK X.prog X.w s1.heap (ts.getD i []) c
  rw [List.getD_eq_getElem?_getD,e2]
  rw [hK] at e3
  exact fY I1 e3
 ·obtain ⟨⟨L,tset,hL⟩,k1⟩:=md
  have hlt:s1.heap.objs.size < h'.objs.size:=by
   obtain ⟨o,_,_,_,e,_⟩:=tset
   exact Heap.lt_size e
  have hmem:∀ y,y∈L ↔ y∈ts:=fun y=>by
   rw [hL]
   constructor
   ·rintro ⟨j,h1,rfl⟩
    rw [List.size_toArray,hl] at h1
    show ts.getD j []∈ts
    rw [List.getD_eq_getElem?_getD,List.getElem?_eq_getElem h1]
    exact List.getElem_mem h1
   ·intro hy
    obtain ⟨j,hj⟩:=List.getElem?_of_mem hy
    exact ⟨j,by rw [List.size_toArray,hl]; exact (List.getElem?_eq_some_iff.mp hj).1,by show ts.getD j []=y; rw [List.getD_eq_getElem?_getD,hj]; rfl⟩
  refine Calls.spliced_nil (zV (s:={ s1 with heap:=h',toks:=tk }) (I1.ok.hd hc) tset (fun ks hk e=>?_) fun h2 tk2 R ks hR hol so hm2 old=>?_)
  ·have:=List.all_eq_true.mp hz2 ks ((hmem ks).mp hk)
   rw [e] at this; cases this
  ·obtain ⟨out,n,eo,el,ev⟩:=hol
   have kp:∀ b o,s1.heap.get? b=some o->h2.get? b=some o:=fun b o e=>old b o (Nat.lt_trans (Heap.lt_size e) hlt) (k1 b o (Heap.lt_size e) e)
   have e:ks=aP ts:=mL so fun y=>by rw [hm2,hmem]
   subst e
   obtain ⟨vs,w1,w2⟩:=jX (Γ:=Γ) (ι:=ι) (H:=H1) el fun i v k e1 e2=>by
    obtain ⟨c,rfl,_,⟨_,hc2⟩,tk2⟩:=ev i v k e1 e2
    obtain ⟨j,hj⟩:=List.getElem?_of_mem hc2
    obtain ⟨c',t,e3,_,e4⟩:=item_at rp rv (by simpa using hj)
    cases e3
    have e5:=e4
    rw [hK] at e5
    have:=IsTupleKey.inj tk2 (ef (fY I1 e5) fun o e=>kp c o e)
    subst this
    exact ⟨c,rfl,e4⟩
   have hR2:s1.heap.objs.size<=R:=Nat.le_trans (Nat.le_of_lt hlt) hR
   refine ⟨.ref R,_,I1.laid (h':=h2) (t':=tk2) (o:=.lst vs) kp hR2 ⟨?_,out,n,w1,eo⟩,rfl,Out.alloc ho hS (I1.hok.fresh hR2) w2⟩
   rw [w1.length,el,sizeLine_eq]
   have:(aP ts).length<=ts.length:=rF ts
   omega
theorem rK {xs:List V} {its:List Value} {ts:List (List Int)} (rp:ao Γ ι H (ts.map fun t=>.tup (t.map .int)) xs) (rv:Vals xs its) {v:Value} (m:v∈its):∃ c t,v=.ref c/\t∈ts/\SqT Γ.K H c (t.map V.int):=by
 obtain ⟨i,e⟩:=List.getElem?_of_mem m
 obtain ⟨c,t,e1,e2,e3⟩:=item_at rp rv e
 exact ⟨c,t,e1,List.mem_of_getElem? e2,e3⟩
theorem yC (hK:Γ.K=X.K):bI X (.builtin "sorted") (cA Γ xw (biD sub .sorted)):=by
 intro pins s σ H xs us Q I rs h
 obtain ⟨ι,S,a,x,rfl,hS,r,ho⟩:=fW rfl (fun _ _ _=>rfl) h
 obtain ⟨ds,q,ho⟩:=Out.items ho
 obtain ⟨_,p,ys,rfl,sq,rp,_⟩:=b7 hS r q
 obtain ⟨u,rfl,ru⟩:=rs.one
 cases ru
 rw [hK] at sq
 obtain ⟨its,rv,x2⟩:∃ its,Vals ys its/\Sq2 s.heap p its:=by
  rcases sq with sq|sq
  ·obtain ⟨its,rv,pl,_⟩:=I.list sq
   obtain ⟨o,e1,e2,n,e3⟩:=pl.isList
   exact ⟨its,rv,"list",o,n,.inl rfl,e1,e2,e3⟩
  ·obtain ⟨its,rv,⟨o,e1,e2,n,e3⟩,_⟩:=I.tuple sq
   exact ⟨its,rv,"tuple",o,n,.inr rfl,e1,e2,e3⟩
 have hp:H (s.heap.objs.size+1)=none:=I.hok.fresh (Nat.le_succ _)
 have ho:Out Γ xw ι H (iW ds S) fun d _ ι' H'=>∀ v,Rep Γ ι' H' d v->Q v H':=ho
 unfold iW at ho
 cases q2:allInts ds with
 | some is =>
  rw [q2] at ho
  obtain ⟨hz,ho⟩:=Out.guard ho
  have hz:is.length < 64:=of_decide_eq_true hz
  rw [ints_map q2] at rp
  have e:=eG rp
  subst e
  have hl:its.length=is.length:=by rw [<- rv.length,List.length_map]
  refine yW (ns:=is) x2 (intsAre_of rv) (by omega) fun out ns' a1 a2 a3=>?_
  obtain ⟨ep,he⟩:=sortedAll_at s.heap its out.toArray
  have e:ns'=f9 is:=(a2.trans (ku is).symm).eq_of_pairwise (fun x y _ _ h1 h2=>Int.le_antisymm h1 h2) a3 (sM is)
  subst e
  refine ⟨.ref (s.heap.objs.size+1),_,I.laid (t':=s.toks) (o:=.lst ((f9 is).map V.int)) (fun b o q=>sortedAll_old q) (Nat.le_succ _) ⟨?_,out,ep,qX a1,he⟩,rfl,Out.alloc ho hS hp (iJ _)⟩
  rw [List.length_map,(ku is).length_eq,sizeLine_eq]; omega
 | none =>
  rw [q2] at ho
  have ho:Out Γ xw ι H (j9 (tups ds) S) fun d _ ι' H'=>∀ v,Rep Γ ι' H' d v->Q v H':=ho
  cases q2:tups ds with
  | some ts =>
   rw [q2] at ho
   obtain ⟨hz,ho⟩:=Out.guard ho
   obtain ⟨hz1,hz3⟩:=Bool.and_eq_true_iff.mp hz
   obtain ⟨hz1,hz2⟩:=Bool.and_eq_true_iff.mp hz1
   have hz1:ts.length < 64:=of_decide_eq_true hz1
   have hz2:ts.Nodup:=of_decide_eq_true hz2
   rw [kM q2] at rp
   have hl:its.length=ts.length:=by rw [<- rv.length,<- rp.length,List.length_map]
   have hk:its.map (cB X.prog X.w s.heap)=ts:=by
    refine List.ext_getElem? fun i=>?_
    rw [List.getElem?_map]
    by_cases hi:i < its.length
    ·obtain ⟨c,t,e1,e2,e3⟩:=item_at rp rv (List.getElem?_eq_getElem hi)
     rw [hK] at e3
     rw [List.getElem?_eq_getElem hi,e2,Option.map_some,e1,gg (fY I e3)]
    ·rw [List.getElem?_eq_none (by omega),List.getElem?_eq_none (by omega)]; rfl
   refine Fc (key:=cB X.prog X.w s.heap) x2 (fun v m=>?_) (by rw [hk]; exact hz2) (by omega) fun out a1 a2=>?_
   ·obtain ⟨c,t,e1,e2,e3⟩:=rK rp rv m
    rw [hK] at e3
    refine ⟨c,e1,?_⟩
    rw [e1,gg (fY I e3)]
    refine ⟨fY I e3,fun e=>?_⟩
    have:=List.all_eq_true.mp hz3 t e2
    rw [e] at this; cases this
   ·obtain ⟨ep,he⟩:=sortedAll_at s.heap its out.toArray
    have e:out.map (cB X.prog X.w s.heap)=aP ts:=mL a2 fun y=>by rw [(a1.map _).mem_iff,hk]
    obtain ⟨vs,w1,w2⟩:=jX (Γ:=Γ) (ι:=ι) (H:=H) (out:=out) (ks:=aP ts) (by rw [<- e,List.length_map]) fun i v k e1 e2=>by
     obtain ⟨c,t,e3,_,e4⟩:=rK rp rv (a1.mem_iff.mp (List.mem_of_getElem? e1))
     refine ⟨c,e3,?_⟩
     have e5:=e4
     rw [hK] at e5
     rw [<- e,List.getElem?_map,e1,Option.map_some,e3,gg (fY I e5)] at e2
     cases e2
     exact e4
    refine ⟨.ref (s.heap.objs.size+1),_,I.laid (t':=s.toks) (o:=.lst vs) (fun b o q=>sortedAll_old q) (Nat.le_succ _) ⟨?_,out,ep,w1,he⟩,rfl,Out.alloc ho hS hp w2⟩
    rw [w1.length,a1.length_eq,hl,sizeLine_eq]; omega
  | none =>
   rw [q2] at ho
   exact ho.elim
end
end EV

namespace EV
open PySem PySem.Spec PyProof.Rows L2
section
variable {X:Cx} {Γ:Gx} {xw:XW} {iter tg c:Expr} {pos:Pos} {mi:Sg->M Src} {t:Tg} {mb:Sg->M Fl} {na:Sg->M Bool} {body:List Stmt}
theorem PS.nox {st:Stmt} {t:TS} (h:PS X.nox st t):PS X st t:=fun pins s σ H D I hw =>
 wpAny_mono (h pins s σ H D (I.cF _) hw) (fun f s' q=>q.b9) fun _ _ e=>e.elim
theorem E5 {D:Ends} {σ:L2.St} {H:Hp} (h:tMS Γ XF (fun σ=>mi σ>>=fun s=>forL s (fun d σ=>aJ t d σ>>=fun σ'=>mb σ') s.its σ) D σ H):qG (tMI Γ XF mi) (tMG Γ t) (tMS Γ XF mb) D σ H:=by
 obtain ⟨σd,ι,S,hE,hS,ho⟩:=h
 refine ⟨σd,ι,S,hE,hS,ho.bind.mono fun src S1 ι1 H1 _ _ ⟨s1,e1,o1⟩ J hJ=>?_⟩
 generalize hf:(fun d σ=>aJ t d σ>>=fun σ'=>mb σ')=f at o1
 generalize hR:forL src f src.its σd S1=R0 at o1
 refine ⟨fun i m σ H=>∃ ι' S' σd',i<=src.its.length/\m=src.its.length - i/\Ext ι1 ι' H1 H/\ak Γ ι' H S'/\aO Γ ι' H σ σd'/\forL src f (src.its.drop i) σd' S'=R0,
  ⟨src.its.length,ι1,S1,σd,Nat.zero_le _,rfl,.refl,s1,hE.ext e1,hR⟩,?_⟩
 rintro i m σ H ⟨ι',S',σd',hi,rfl,eH,sH,eE,hc⟩
 by_cases hlt:i < src.its.length
 ·rw [List.drop_eq_getElem_cons hlt] at hc
  have hc:(aE src>>=fun _=>f src.its[i] σd'>>=fun fl=>match fl with|.nx σ'=>forL src f (src.its.drop (i+1)) σ'|.ct σ'=>forL src f (src.its.drop (i+1)) σ'|.bk σ'=>pure (.nx σ')|.rt d=>pure (.rt d)) S'=R0:=hc
  rcases iS src S' with st|st
  ·rw [aj st] at hc
   obtain ⟨jgo,jyld⟩:=(hJ ι' H S' eH sH st).1 i src.its[i] (List.getElem?_eq_getElem hlt)
   refine .inr ⟨jgo,fun σ' H'=>∃ m',m' < src.its.length - i/\∃ ι' S' σd',i+1<=src.its.length/\m'=src.its.length - (i+1)/\Ext ι1 ι' H1 H'/\ak Γ ι' H' S'/\aO Γ ι' H' σ' σd'/\forL src f (src.its.drop (i+1)) σd' S'=R0,fun σ' H' h=>h,fun x H' yl=>?_⟩
   obtain ⟨eX,sX,rX⟩:=jyld x H' yl
   have hfd:f src.its[i] σd' S'=(aJ t src.its[i] σd'>>=fun σ'=>mb σ') S':=by rw [<- hf]
   rcases jZ t src.its[i] σd' S' with ⟨σd2,hb,_⟩|hb
   ·rw [aj hb] at hfd
    refine ⟨σd',ι',S',src.its[i],σd2,eE.ext eX,sX,rX,hb,fun σ2 hE2 _=>⟨σd2,ι',S',hE2,sX,?_⟩⟩
    have eA:=eH.trans eX
    cases qb:mb σd2 S' with
    | bad=>rw [qb] at hfd; rw [aR hfd] at hc; rw [<- hc] at o1; exact o1.elim
    | exc c S3=>rw [qb] at hfd; rw [cP hfd] at hc; rw [<- hc] at o1; exact fun ι3 H3 e3 s3=>o1 ι3 H3 (eA.trans e3) s3
    | ok fl S3 =>
     rw [qb] at hfd
     rw [aj hfd] at hc
     intro ι3 H3 e3 s3
     cases fl with
     | nx σ'=>exact fun σv hv=>⟨src.its.length - (i+1),by omega,ι3,S3,σ',hlt,rfl,eA.trans e3,s3,hv,hc⟩
     | ct σ'=>exact fun σv hv=>⟨src.its.length - (i+1),by omega,ι3,S3,σ',hlt,rfl,eA.trans e3,s3,hv,hc⟩
     | bk σ'=>rw [<- hc] at o1; exact fun σv hv=>o1 ι3 H3 (eA.trans e3) s3 σv hv
     | rt d=>rw [<- hc] at o1; exact fun v r=>o1 ι3 H3 (eA.trans e3) s3 v r
   ·rw [aR hb] at hfd; rw [aR hfd] at hc; rw [<- hc] at o1; exact o1.elim
  ·rw [aR st] at hc; rw [<- hc] at o1; exact o1.elim
 ·have ei:i=src.its.length:=by omega
  subst ei
  rw [List.drop_length] at hc
  have hc:(aE src>>=fun _=>pure (.nx σd')) S'=R0:=hc
  rcases iS src S' with st|st
  ·rw [aj st] at hc
   rw [<- hc] at o1
   exact .inl ⟨(hJ ι' H S' eH sH st).2,o1 ι' H eH sH σ eE⟩
  ·rw [aR st] at hc; rw [<- hc] at o1; exact o1.elim
theorem vC (hcalm:X.calm=true) (hi:PI X.nox tg iter (tMI Γ XF mi)) (hg:PG X.nox tg (tMG Γ t)) (hb:PSs X.nox body (tMS Γ XF mb)) (hs:∀ x,foldedSetIterable iter X.env x=pure x) :
  PS X (.For tg iter body [] pos) (tMS Γ xw fun σ=>quiet (mi σ>>=fun s=>forL s (fun d σ=>aJ t d σ>>=fun σ'=>mb σ') s.its σ)) :=
 PS.nox (PS.imp (CB (X:=X.nox) PassesOwn.never hcalm hi hg hb hs) fun D σ H h=>by
  obtain ⟨σd,ι,S,hE,hS,ho⟩:=h
  exact E5 ⟨σd,ι,S,hE,hS,Out.quiet ho XF⟩)
end
section
variable {Γ:Gx} {ι ι':List Addr} {H H':Hp} {S S':aa}
theorem fm:∀ {ds:List D} {n:Nat},D.lows n ds=true ↔ ∀ (i:Nat) d,ds[i]?=some d->d.low n=true
 | [],n=>⟨fun _ i d h=>by simp at h,fun _=>rfl⟩
 | d::r,n=>by
  simp only [D.lows,Bool.and_eq_true]
  constructor
  ·rintro ⟨h1,h2⟩ i e h
   cases i with
   | zero=>simp at h; subst h; exact h1
   | succ i=>exact fm.mp h2 i e (by simpa using h)
  ·intro h
   exact ⟨h 0 d rfl,fm.mpr fun i e q=>h (i+1) e (by simpa using q)⟩
theorem Rep.low {d:D} {v:V} (r:Rep Γ ι H d v):d.low ι.length=true:=by
 induction r with
 | tup h1 h2 h3 ih =>
  show D.lows _ _=true
  refine fm.mpr fun i d e=>?_
  have hi:i < _:=(List.getElem?_eq_some_iff.mp e).1
  exact ih i d _ e (List.getElem?_eq_getElem (by omega))
 | fro h1 h2 h3 ih =>
  show D.lows _ _=true
  refine fm.mpr fun i d e=>?_
  have hi:i < _:=(List.getElem?_eq_some_iff.mp e).1
  exact ih i d _ e (List.getElem?_eq_getElem (by omega))
 | loc h=>exact decide_eq_true (List.getElem?_eq_some_iff.mp h).1
 | _=>rfl
theorem Rep.cut (hp:ι <+: ι') {d:D} {v:V} (r:Rep Γ ι' H d v) (hl:d.low ι.length=true):Rep Γ ι H d v:=by
 induction r with
 | non=>exact .non
 | bl b=>exact .bl b
 | int i=>exact .int i
 | str x=>exact .str x
 | tup h1 h2 h3 ih=>exact .tup h1 h2 fun i d v e1 e2=>ih i d v e1 e2 (fm.mp hl i d e1)
 | fro h1 h2 h3 ih=>exact .fro h1 h2 fun i d v e1 e2=>ih i d v e1 e2 (fm.mp hl i d e1)
 | @loc l a h =>
  have hlt:l < ι.length:=of_decide_eq_true hl
  obtain ⟨t,rfl⟩:=hp
  rw [List.getElem?_append_left hlt] at h
  exact .loc h
theorem ao.low {ds:List D} {vs:List V} (r:ao Γ ι H ds vs):D.lows ι.length ds=true:=fm.mpr fun i d e=>let ⟨_,_,r'⟩:=Paired.get r e; r'.low
theorem ao.cut (hp:ι <+: ι'):∀ {ds:List D} {vs:List V},ao Γ ι' H ds vs->D.lows ι.length ds=true->ao Γ ι H ds vs
 | _,_,.nil,_=>.nil
 | _,_,.cons r t,h=>by
  rw [D.lows,Bool.and_eq_true] at h
  exact .cons (r.cut hp h.1) (ao.cut hp t h.2)
theorem fE.cut (hp:ι <+: ι'):∀ {kvs:List (List Int × D)} {xs ys:List (List Key × V)} {H0:Hp},fE Γ ι' H kvs xs->fE Γ ι H0 kvs ys->fE Γ ι H kvs xs
 | _,_,_,_,.nil,_=>.nil
 | _,_,_,_,.cons r t,.cons r0 t0=>.cons ⟨r.1,r.2.cut hp r0.2.low⟩ (fE.cut hp t t0)
theorem Ext.back (e:Ext ι ι' H H'):Ext ι ι H H':=⟨List.prefix_refl _,e.tup,e.frz,e.oth,fun _ h n=>absurd h n⟩
theorem ak.back (e:Ext ι ι' H H') (h0:ak Γ ι H S) (h1:ak Γ ι' H' S') (ht:S'.take S.length=S):ak Γ ι H' S:=by
 refine ⟨h0.len,h0.nd,fun l c hc=>?_⟩
 have hl:l < S.length:=(List.getElem?_eq_some_iff.mp hc).1
 have hc':S'[l]?=some c:=by rw [<- ht,List.getElem?_take_of_lt hl] at hc; exact hc
 obtain ⟨a,ha,c1⟩:=h1.cell l c hc'
 obtain ⟨b,hb,c0⟩:=h0.cell l c hc
 have:=gu e.pre hb
 rw [ha] at this; cases this
 refine ⟨a,hb,?_⟩
 cases c with
 | lst ds=>obtain ⟨xs,hx,r⟩:=c1; obtain ⟨ys,_,r0⟩:=c0; exact ⟨xs,hx,ao.cut e.pre r r0.low⟩
 | dct kvs=>obtain ⟨xs,hx,r⟩:=c1; obtain ⟨ys,_,r0⟩:=c0; exact ⟨xs,hx,fE.cut e.pre r r0⟩
theorem nP {xw:XW} {d:D} {v:V} {Q:VK} (h0:ak Γ ι H S) (e:Ext ι ι' H H') (h1:ak Γ ι' H' S') (r:Rep Γ ι' H' d v) (ho:Out Γ xw ι H (leave S d S') fun d _ ι' H'=>∀ v,Rep Γ ι' H' d v->Q v H'):Q v H':=by
 unfold leave at ho
 by_cases ht:S'.take S.length=S
 ·rw [if_pos ht] at ho
  by_cases hl:d.low S.length=true
  ·rw [if_pos hl] at ho
   exact ho ι H' e.back (ak.back e h0 h1 ht) v (r.cut e.pre (by rw [h0.len]; exact hl))
  ·rw [if_neg hl] at ho
   have dflt:Out Γ xw ι H (.ok d S') (fun d _ ι' H'=>∀ v,Rep Γ ι' H' d v->Q v H')->Q v H':=fun ho=>ho ι' H' e h1 v r
   cases d with
   | loc l =>
    dsimp only at ho
    cases q:S'[l]? with
    | none=>rw [q] at ho; exact dflt ho
    | some c =>
     rw [q] at ho
     dsimp only at ho
     by_cases hc:c.low S.length=true
     ·rw [if_pos hc] at ho
      cases r with
      | @loc _ a hla =>
       have hge:¬ l < S.length:=fun z=>hl (decide_eq_true z)
       have hna:a ∉ ι:=fun z=>by
        obtain ⟨j,hj⟩:=List.getElem?_of_mem z
        have hj1:=(List.getElem?_eq_some_iff.mp hj).1
        have:=jD h1.nd hla (gu e.pre hj)
        rw [h0.len] at hj1
        omega
       have hHa:H a=none:=e.fresh a (List.mem_of_getElem? hla) hna
       have pre2:ι <+: ι++[a]:=List.prefix_append _ _
       refine ho (ι++[a]) H' ⟨pre2,e.tup,e.frz,e.oth,fun b hb hn=>?_⟩ ?_ _ (.loc (by rw [<- h0.len]; simp))
       ·rcases List.mem_append.mp hb with z|z
        ·exact absurd z hn
        ·have:b=a:=by simpa using z
         rw [this]; exact hHa
       ·have hb:=ak.back e h0 h1 ht
        obtain ⟨b,hb2,c1⟩:=h1.cell l c q
        rw [hla] at hb2; cases hb2
        cases c with
        | lst ds =>
         obtain ⟨xs,hx,rr⟩:=c1
         exact hb.take hna hx (ao.cut e.pre rr (by rw [h0.len]; exact hc))
        | dct kvs=>cases hc
     ·rw [if_neg hc] at ho; exact dflt ho
   | _=>exact dflt ho
 ·rw [if_neg ht] at ho
  exact ho ι' H' e h1 v r
end
end EV

namespace PySem
open Sem (wp)
open AutoSeq1 (wpAny_loadPart')
section
variable {prog:Program} {w:World} {A:Around} {E:Value->Shared->Prop} {s:Shared}
theorem u9 {Q:List Value->Shared->Prop} {r:Addr} {a b c:Int} {t u v:Tok} {n:Nat} (hh:A.handled=none) (hr:IsRange s.heap r a b c t u v) (hsmall:Builtin.Range.small a b c=true)
  (hn:Builtin.Range.rangeSize a b c=n) (hlen:n<=2 ^ 24)
  (hQ:∀ (h':Heap) (tk:Nat) (acc:Array Value),(∀ b o',s.heap.get? b=some o'->h'.get? b=some o')->ItemsOf (fun i v=>∃ t,v=.int (a+i * c) t) acc n->Q acc.toList { s with heap:=h',toks:=tk }) :
  wpAny (model prog w) A (collect (.ref r)) Q E s:=by
 unfold collect
 refine wpAny_bind (wpAny_runValue (codeAny_builtin F.entry_proto_collect ?_))
 rw [Around.under_plainId F.plain_proto_collect _]
 show wpAny _ A.in1 (newList []>>=fun l=>again (.builtin "list.__iadd__" ⟨[l,.ref r],[]⟩)) _ _ s
 refine wpAny_bind (wpAny_newObj_type ?_)
 refine wpAny_pure ⟨plainId_quiet F.plain_list_iadd _,codeAny_builtin F.entry_list_iadd ?_⟩
 rw [Around.under_plainId F.plain_list_iadd _]
 show wpAny _ A.in1 (Builtin.List.listExtendWith (.ref s.heap.objs.size) (.ref r) (.ref s.heap.objs.size)) _ _ _
 have hS:(s.heap.push { cls:=.type "list",data:=.seq ([]:List Value).toArray }).get? s.heap.objs.size=some { cls:=.type "list",data:=.seq #[] 0 }:=Heap.get?_push_size _ rfl
 refine wpAny_mono (wpAny_extend_range (A:=A) (R:=fun r' s'=>r'=.ok (.ret (.ref s.heap.objs.size))/\∃ h' tk acc c',(∀ b o',s.heap.get? b=some o'->h'.get? b=some o')/\h'.get? s.heap.objs.size=some { cls:=.type "list",dict:=none,data:=.seq acc c',slots:=#[] }/\ItemsOf (fun i v=>∃ t,v=.int (a+i * c) t) acc n/\s'={ s with heap:=h',toks:=tk })
  (s:={ s with heap:=s.heap.push { cls:=.type "list",data:=.seq ([]:List Value).toArray } }) hh (Heap.get?_push_of_some _ hr) hsmall hn hlen _ _ 0 hS fun h' tk acc' c' hk hS' hacc=>⟨rfl,h',tk,acc',c',fun b o' hb=>hk b o' (Nat.ne_of_lt (Heap.lt_size hb)) (Heap.get?_push_of_some _ hb),hS',hacc,rfl⟩) (fun fin s' h=>?_) (fun e s' h=>?_)
 ·have fin':∀ s',(∃ h' tk acc c',(∀ b o',s.heap.get? b=some o'->h'.get? b=some o')/\h'.get? s.heap.objs.size=some { cls:=.type "list",dict:=none,data:=.seq acc c',slots:=#[] }/\ItemsOf (fun i v=>∃ t,v=.int (a+i * c) t) acc n/\s'={ s with heap:=h',toks:=tk }) ->
    wpAny (model prog w) A (match Value.ref s.heap.objs.size with
     | Value.ref a=>do
      match (<- load a).data with
       | Data.seq xs _=>pure xs.toList
       | _=>unsupported "internal:collect"
     | _=>unsupported "internal:collect") Q E s':=by
   rintro s' ⟨h',tk,acc,c',hk,hS',hacc,rfl⟩
   show wpAny _ A (load s.heap.objs.size>>=_) _ _ _
   exact wpAny_bind (wpAny_load hS' (wpAny_pure (hQ h' tk acc hk hacc)))
  cases fin with
  | done f =>
   obtain ⟨e,h⟩:=h
   cases e
   exact fin' s' h
  | again c'=>exact ⟨h.1,codeAny_mono h.2 fun r s'' hr=>by obtain ⟨rfl,h⟩:=hr; exact fin' s'' h⟩
 ·exact absurd h.1 (by simp)
end
theorem EZ (r:Addr) (a b c:Int) (t u v:Tok) (n:Nat) (hsmall:Builtin.Range.small a b c=true) (hn:Builtin.Range.rangeSize a b c=n) (hlen:n<=2 ^ 24) :
  Meets (Builtin.«tuple.__new__» ⟨[.type "tuple",.ref r],[]⟩)
   (fun A R s=>A.handled=none/\IsRange s.heap r a b c t u v/\∀ (h':Heap) (tk:Nat) (acc:Array Value),(∀ b o',s.heap.get? b=some o'->h'.get? b=some o')->ItemsOf (fun i v=>∃ t,v=.int (a+i * c) t) acc n->R (.ok (.ret (.ref h'.objs.size))) { s with heap:=h'.push { cls:=.type "tuple",data:=.seq acc },toks:=tk }) :=
 .of_wp fun prog w A R s h=>by
  obtain ⟨hp,g,d,tk,os⟩:=s; obtain ⟨hh,ht,h⟩:=h
  have hsub:=sub_tuple_self
  have hinit:=init_tuple_lookup
  have hmh:=madeHere_tuple
  have hT:Shared.TypeIs ⟨hp,g,d,tk,os⟩ (.ref r) "range":=⟨_,ht,rfl⟩
  have hh1:A.in1.handled=none:=hh
  wp_walk using wpAny_loadPart' ht,wpAny_typeOf hT,u9 hh1 ht hsmall hn hlen
  intro h' tk' acc hk hacc
  show wpAny _ _ (Builtin.Tuple.tupleExact acc.toList.toArray>>=fun v=>ret v) _ _ _
  unfold Builtin.Tuple.tupleExact
  refine wpAny_bind (wpAny_newObj_type ?_ (show acc.toList.toArray.size<=sizeLine by simp only [Array.toArray_toList]; rw [hacc.1,sizeLine_eq]; omega))
  refine wpAny_pure ⟨_,rfl,?_⟩
  have e:acc.toList.toArray=acc:=by simp
  rw [e]
  exact h h' tk' acc hk hacc
section
variable {prog:Program} {w:World} {A:Around} {E:Value->Shared->Prop} {s:Shared}
theorem wc {Q:Value->Shared->Prop} {r:Addr} {a b c:Int} {t u v:Tok} {n:Nat} (hh:A.handled=none) (hr:IsRange s.heap r a b c t u v) (hsmall:Builtin.Range.small a b c=true)
  (hn:Builtin.Range.rangeSize a b c=n) (hlen:n<=2 ^ 24)
  (h:∀ (h':Heap) (tk:Nat) (acc:Array Value),(∀ b o',s.heap.get? b=some o'->h'.get? b=some o')->ItemsOf (fun i v=>∃ t,v=.int (a+i * c) t) acc n->Q (.ref h'.objs.size) { s with heap:=h'.push { cls:=.type "tuple",data:=.seq acc },toks:=tk }) :
  wpAny (model prog w) A (call (.type "tuple") [.ref r]) Q E s :=
 callType_new F.called_tuple (by decide) (F.typeCall_tuple_1 _) (F.newCall_tuple_1 _) (fun obj=>F.args_object_init_2 obj _) F.entry_tuple_new
  (EZ r a b c t u v n hsmall hn hlen) ⟨hh,hr,fun h' tk acc hk hacc=>⟨⟨_,Heap.get?_push_size _ rfl,rfl⟩,h h' tk acc hk hacc⟩⟩
end
end PySem
namespace EV
open PySem PySem.Spec PyProof.Rows L2
section
variable {X:Cx} {Γ:Gx} {xw:XW} {sub:Sub} {a b:PySem.Expr} {ta:TA} {p pos:Pos}
noncomputable def gJ (ta:TA):TE:=fun σ H Q=>ta σ H fun vs H1=>∃ lo hi:Int,((vs=[.int hi]/\lo=0)\/vs=[.int lo,.int hi])/\∀ p,H1 p=none->Q (.ref p) (upd H1 p (.rng lo hi))
theorem uP (hg:Gl X "range") (hm:X.mg "range" = none) (ha:PA X [a] ta) (hs:starEach [a] X.env=[(false,eval a X.env)]) (hl:∀ σ H Q,ta σ H Q->ta σ H fun vs H1=>vs.length=1/\Q vs H1):PE X (.Call (.Name "range" p) [a] [] pos) (gJ ta):=by
 intro pins s σ H Q I h
 refine Call_ (c5 I hg hm boot_range (PyProof.Rows.callWith_type1 (thn (ha pos pins s σ H _ I (hl _ _ _ h)) fun us s1 ⟨vs,H1,I1,r1,hlen,q1⟩=>?_) hs rfl))
 obtain ⟨lo,hi,e,q⟩:=q1
 rcases e with ⟨e,rfl⟩|e
 ·subst e
  obtain ⟨u,rfl,t,rfl⟩:=vals1 r1
  exact call_range_1 ⟨.ref _,_,I1.laid (o:=.rng 0 hi) (fun b o e=>Heap.get?_push_of_some _ e) (Nat.le_refl _) (show ∃ t u v,_ from ⟨_,_,_,Heap.get?_push_size _ rfl⟩),rfl,q _ (I1.hok.fresh (Nat.le_refl _))⟩
 ·subst e; cases hlen
theorem Bb (hg:Gl X "range") (hm:X.mg "range" = none) (ha:PA X [a,b] ta) (hs:starEach [a,b] X.env=[(false,eval a X.env),(false,eval b X.env)]) (hs2:starEach [b] X.env=[(false,eval b X.env)]) (hl:∀ σ H Q,ta σ H Q->ta σ H fun vs H1=>vs.length=2/\Q vs H1):PE X (.Call (.Name "range" p) [a,b] [] pos) (gJ ta):=by
 intro pins s σ H Q I h
 refine Call_ (c5 I hg hm boot_range (PyProof.Rows.callWith_type1 (thn (ha pos pins s σ H _ I (hl _ _ _ h)) fun us s1 ⟨vs,H1,I1,r1,hlen,q1⟩=>?_) (by rw [hs,hs2]) (by rw [hs2]; rfl)))
 obtain ⟨lo,hi,e,q⟩:=q1
 rcases e with ⟨e,rfl⟩|e
 ·subst e; cases hlen
 ·subst e
  obtain ⟨u,v,rfl,⟨t,rfl⟩,⟨t',rfl⟩⟩:=vals2 r1
  exact call_range_2 ⟨.ref _,_,I1.laid (o:=.rng lo hi) (fun b o e=>Heap.get?_push_of_some _ e) (Nat.le_refl _) (show ∃ t u v,_ from ⟨_,_,_,Heap.get?_push_size _ rfl⟩),rfl,q _ (I1.hok.fresh (Nat.le_refl _))⟩
theorem zo {lo:Int} {n:Nat} {acc:Array Value} (h:ItemsOf (fun i v=>∃ t,v=.int (lo+i * 1) t) acc n):Vals ((List.range n).map fun (k:Nat)=>V.int (lo+k)) acc.toList:=by
 obtain ⟨h1,h2⟩:=h
 refine Paired.of_get (by simp [h1]) fun i x y e1 e2=>?_
 rw [List.getElem?_map] at e1
 have hi:i < n:=by
  have:=(List.getElem?_eq_some_iff.mp e2).1
  simpa [h1] using this
 rw [List.getElem?_range hi] at e1
 cases e1
 have e3:acc[i]?=some y:=by rw [<- Array.getElem?_toList]; exact e2
 obtain ⟨t,rfl⟩:=h2 i y e3
 exact ⟨t,by simp⟩
theorem Fx {lo hi:Int}:Builtin.Range.rangeSize lo hi 1=((hi - lo).toNat:Nat):=by rw [rangeSize_one]; split <;> omega
theorem E8 (hc:X.calm=true):bI X (.type "tuple") (fun xs H Q=>∃ p lo hi,xs=[.ref p]/\H p=some (.rng lo hi)/\(near lo=true/\near hi=true)/\(hi - lo).toNat<=aS/\∀ l,H l=none->Q (.ref l) (upd H l (.tup ((List.range (hi - lo).toNat).map fun (k:Nat)=>V.int (lo+k))))):=by
 intro pins s σ H xs us Q I r h
 obtain ⟨p,lo,hi,rfl,hp,⟨n1,n2⟩,hz,q⟩:=h
 obtain ⟨u,rfl,rx⟩:=vals1 r
 cases rx
 obtain ⟨t,u,v,hr⟩:=I.hok p _ hp
 have n1:=fz n1
 have n2:=fz n2
 refine wc (I.ok.hd hc) hr (small_one n1.1 n1.2 n2.1 n2.2) Fx hz fun h' tk acc hk hacc=>?_
 have hv:=zo hacc
 have I1:Inv X pins σ H { s with heap:=h',toks:=tk }:=I.kept hk
 have hl:((List.range (hi - lo).toNat).map fun (k:Nat)=>V.int (lo+k)).length<=sizeLine:=by rw [List.length_map,List.length_range]; exact hz
 have I2:Inv X pins σ (upd H h'.objs.size (.tup ((List.range (hi - lo).toNat).map fun (k:Nat)=>V.int (lo+k)))) { s with heap:=h'.push { cls:=.type "tuple",data:=.seq acc },toks:=tk } :=
  I1.laid (t':=tk) (fun b o e=>Heap.get?_push_of_some _ e) (Nat.le_refl _) (show bR X.prog X.w _ _ _ (.tup _) from ⟨hl,acc.toList,hv,by simpa using IsTup.new _ _⟩)
 exact ⟨.ref h'.objs.size,_,I2,rfl,q _ (I1.hok.fresh (Nat.le_refl _))⟩
theorem xC {ds:List D} {is:List Int} (h:bO ds=some is) (hl:ds.length=1\/ds.length=2):∃ lo hi:Int,((ds=[.int hi]/\lo=0)\/ds=[.int lo,.int hi])/\near lo=true/\near hi=true/\is=(List.range (hi - lo).toNat).map fun (k:Nat)=>lo+k:=by
 match ds,h,hl with
 | [d],h,_ =>
  cases d with
  | int j =>
   simp only [bO] at h
   split at h
   ·rename_i hn
    cases h
    exact ⟨0,j,.inl ⟨rfl,rfl⟩,by decide,hn,kU 0 j⟩
   ·cases h
  | _=>cases h
 | [d,e],h,_ =>
  cases d with
  | int i =>
   cases e with
   | int j =>
    simp only [bO] at h
    split at h
    ·rename_i hn
     cases h
     rw [Bool.and_eq_true] at hn
     exact ⟨i,j,.inr rfl,hn.1,hn.2,kU i j⟩
    ·cases h
   | _=>cases h
  | _=>cases h
 | [],_,hl=>rcases hl with hl|hl <;> cases hl
 | _::_::_::_,_,hl=>simp at hl
theorem w_ {m:Sg->M (List D)} {mk:List Int->M D} {mkV:List V->HO} {k:Nat} (hk:k=1\/k=2) (hlen:∀ σ S ds S',m σ S=.ok ds S'->ds.length=k)
  (hmk:∀ {ι H S} {Q:VK} {is:List Int} {p:Addr},Out Γ xw ι H (mk is S) (fun d _ ι' H'=>∀ v,Rep Γ ι' H' d v->Q v H')->ak Γ ι H S->H p=none->Q (.ref p) (upd H p (mkV (is.map .int))))
  {σ:L2.St} {H:Hp} {Q:VK} (h:tM Γ xw (fun σ=>m σ>>=fun ds=>opt (bO ds)>>=fun is=>guard (fits is.length) (mk is)) σ H Q) :
  gJ (tMA Γ xw m) σ H fun x H1=>∃ p lo hi,[x]=[V.ref p]/\H1 p=some (.rng lo hi)/\(near lo=true/\near hi=true)/\(hi - lo).toNat<=aS/\∀ l,H1 l=none->Q (.ref l) (upd H1 l (mkV ((List.range (hi - lo).toNat).map fun (k:Nat)=>V.int (lo+k)))):=by
 obtain ⟨σd,ι,S,he,hs,ho⟩:=h
 refine ⟨σd,ι,S,he,hs,Out.monoE ho.bind fun ds S' ι' H' eq _ _ ⟨s',e',o'⟩ vs rs=>?_⟩
 have hl:=hlen _ _ _ _ eq
 obtain ⟨is,q,o'⟩:=Out.opt o'
 obtain ⟨hz,o'⟩:=Out.guard o'
 obtain ⟨lo,hi,e,n1,n2,rfl⟩:=xC q (by rw [hl]; exact hk)
 refine ⟨lo,hi,?_,fun p hp=>⟨p,lo,hi,rfl,c_,⟨n1,n2⟩,by simpa using of_decide_eq_true hz,fun l hl=>?_⟩⟩
 ·rcases e with ⟨rfl,rfl⟩|rfl
  ·exact .inl ⟨eG (is:=[hi]) rs,rfl⟩
  ·exact .inr (eG (is:=[lo,hi]) rs)
 ·have:=hmk (Out.step o' (Ext.laid hp (o:=.rng lo hi))) (s'.laid hp _) hl
  rw [List.map_map] at this
  exact this
theorem rB {m:Sg->M (List D)} {k:Nat} (hlen:∀ σ S ds S',m σ S=.ok ds S'->ds.length=k):∀ σ H Q,tMA Γ xw m σ H Q->tMA Γ xw m σ H fun vs H1=>vs.length=k/\Q vs H1:=fun σ H Q h=>by
 obtain ⟨σd,ι,S,he,hs,ho⟩:=h
 exact ⟨σd,ι,S,he,hs,Out.monoE ho fun ds S' ι' H' eq _ _ q vs rs=>⟨by rw [<- rs.length]; exact hlen _ _ _ _ eq,q vs rs⟩⟩
theorem Ay {e:PySem.Expr} {m:Sg->M (List D)} {k:Nat} (hk:k=1\/k=2) (hc:X.calm=true) (hlen:∀ σ S ds S',m σ S=.ok ds S'->ds.length=k) (hr:PE X e (gJ (tMA Γ xw m))) (hs:starEach [e] X.env=[(false,eval e X.env)]) (hg:Gl X "tuple") (hm:X.mg "tuple" = none) :
  PE X (.Call (.Name "tuple" p) [e] [] pos) (tM Γ xw fun σ=>m σ>>=biD sub .rangeT):=by
 refine PE.imp (rR (E8 hc) hg hm PyProof.Rows.boot_tuple (fR hr gY (by rw [hs]; rfl)) (by decide +kernel) (by decide +kernel) (by rw [hs]; rfl) rfl) fun σ H Q h=>?_
 exact w_ (mk:=fun is=>pure (.tup (is.map .int))) (mkV:=.tup) hk hlen (fun ho hS hp=>Out.tup ho hS hp (iJ _)) h
end
end EV

namespace EV
open PySem
inductive GE where|fn|val (d:D)|cls
structure TC where
 sc:Scope
 N:List Str
 inF:Str->Bool
 top:Bool
 gt:List (Str × GE)
noncomputable def idx:List Str->Str->Option Nat
 | [],_=>none
 | y::r,x=>if y=x then some 0 else (idx r x).map (· + 1)
noncomputable def fD (sc:Scope) (x:Str):Bool:=match sc.names.lookup x with
 | some .local=>true
 | some .cell=>true
 | some .free=>true
 | _=>false
noncomputable def dY (c:TC) (x:Str):Bool:=match c.sc.names.lookup x with
 | some .local=>true
 | some .cell=>c.inF x
 | _=>false
noncomputable def glB (c:TC) (x:Str):Bool:=decide (c.sc.names.lookup x=some .globalImplicit)
noncomputable def bM (x:Str):Bool:=!(x==("__debug__" : Str))&&!(x==("__classdict__" : Str))
noncomputable def op2:Operator->Option Op2
 | .Add=>some .add
 | .Sub=>some .sub
 | .Mult=>some .mul
 | .FloorDiv=>some .fdiv
 | .Mod=>some .mod
 | .Pow=>some .pow
 | _=>none
noncomputable def cmO:CmpOp->Option Cm
 | .Lt=>some .lt
 | .LtE=>some .le
 | .Gt=>some .gt
 | .GtE=>some .ge
 | .Eq=>some .eq
 | .NotEq=>some .ne
 | .In=>some .isin
 | .NotIn=>some .cg
 | _=>none
noncomputable def qg:Const->Option E
 | .none=>some (.c .non)
 | .bool b=>some (.c (.bl b))
 | .int i=>some (.c (.int i))
 | .str s=>some (.c (.str s))
 | _=>none
noncomputable def lB (c:TC) (x:Str):Option E :=
 if bM x then
  if fD c.sc x then (idx c.N x).map .v
  else if glB c x then match c.gt.lookup x with
   | some (.val d)=>some (.c d)
   | _=>none
  else none
 else none
noncomputable def cM (c:TC) (x:Str):Bool:=glB c x&&(c.gt.lookup x).isNone
noncomputable def kY (x:Str):Option Bi :=
 if x = "len" then some .len else if x = "all" then some .all else if x = "sum" then some .sum else if x = "min" then some .min
 else if x = "max" then some .max else if x = "sorted" then some .sorted else if x = "list" then some .list else if x = "tuple" then some .tuple else none
noncomputable def kE (x:Str):Option Ty :=
 if x = "int" then some .int else if x = "bool" then some .bool else if x = "str" then some .str else if x = "list" then some .list else if x = "tuple" then some .tuple else if x = "dict" then some .dict else none
noncomputable def jW (x:Str):Option Me:=if x = "append" then some .append else if x = "extend" then some .extend else none
noncomputable def bA (f:PySem.Expr->Option E):List PySem.Expr->Option E
 | []=>some .nl
 | e::r=>match f e,bA f r with
  | some a,some b=>some (.cs a b)
  | _,_=>none
noncomputable def trO (f:PySem.Expr->Option E):Option PySem.Expr->Option E
 | none=>some .nl
 | some e=>match f e with
  | some .nl=>none
  | o=>o
noncomputable def fH (c:TC):List PySem.Expr->Option (List Nat)
 | []=>some []
 | .Name x _::r=>if dY c x then match idx c.N x,fH c r with
   | some i,some is=>some (i::is)
   | _,_=>none
  else none
 | _=>none
noncomputable def gU (c:TC):PySem.Expr->Option Tg
 | .Name x _=>if dY c x then (idx c.N x).map .one else none
 | .Tuple es _ _=>(fH c es).map .many
 | _=>none
noncomputable def isTup:PySem.Expr->Bool
 | .Tuple _ _ _=>true
 | _=>false
noncomputable def iL (c:TC) (x:Str):Bool:=cM c x&&decide (x = "range")
noncomputable def jV (c:TC) (x:Str):Bool:=cM c x&&decide (x = "enumerate")
noncomputable def FU (c:TC) (x:Str):Bool:=cM c x&&decide (x = "zip")
noncomputable def pair (es:List PySem.Expr):Bool:=decide (es.length=2)
noncomputable def few (es:List PySem.Expr):Bool:=decide (1<=es.length)&&decide (es.length<=3)
noncomputable def kF:PySem.Expr->Bool
 | .Set _ _ _=>false
 | _=>true
noncomputable def trI (f:PySem.Expr->Option E) (c:TC) (tg:PySem.Expr) (e:PySem.Expr):Option E :=
 if kF e then match e with
  | .Call (.Name x _) args [] _ =>
   if iL c x then (if few args then (bA f args).map .iRng else none)
   else if jV c x then match isTup tg,args with
    | true,[a]=>(f a).map .iEnum
    | _,_=>none
   else (f e).map .iSeq
  | _=>(f e).map .iSeq
 else none
noncomputable def mangle (x:Str):Str:=⟨#[0]++x.cps⟩
noncomputable def iB (scope sc:Scope):Scope :=
 { scope with names:=scope.names.map fun (n,k)=>if (k==.free&&sc.kind==.function&&sc.names.lookup n==some .cell) then (n,.cell) else (n,k) }
noncomputable def isFree (scope:Scope) (x:Str):Bool:=scope.names.any fun y=>decide (y.1=x)&&decide (y.2=.free)
noncomputable def own (scope:Scope):List Str:=(scope.names.filter fun y=>decide (y.2=.local)||decide (y.2=.cell)).map (·.1)
noncomputable def gv (scope:Scope) (x:Str):Str:=if isFree scope x then x else mangle x
noncomputable def inComp (c:TC) (scope:Scope):TC:={ c with sc:=iB scope c.sc,N:=c.N.map (gv scope)++own scope,inF:=fun x=>decide (scope.names.lookup x=some .cell),top:=false }
noncomputable def fQ:List Str->Bool
 | []=>true
 | x::r=>!(r.any fun y=>decide (y=x))&&fQ r
noncomputable def k8 (c:TC) (scope:Scope):Bool :=
 scope.names.all (fun y=>!decide (y.2=.free)||(match c.sc.names.lookup y.1 with|some .cell=>true|some .free=>true|_=>false)) &&
 fQ (scope.names.map (·.1))&&decide (scope.kind=.function) &&
 scope.names.all (fun y=>!decide (y.2=.local)||decide (scope.names.lookup y.1=some .local)) &&
 fQ (c.N.map (gv scope)++own scope) &&
 c.N.all (fun x=>if isFree scope x then !decide ((iB scope c.sc).names.lookup x=some .local) else !fD (iB scope c.sc) (mangle x))
noncomputable def Tg.oK (n:Nat):Tg->Bool
 | .one i=>decide (n<=i)
 | .many is=>is.all fun i=>decide (n<=i)
noncomputable def tS:PySem.Expr->Bool
 | .Call _ [] [] _=>false
 | _=>true
noncomputable def two (es:List PySem.Expr):Bool:=decide (es.length=1)||decide (es.length=2)
noncomputable def nO (c:TC) (x:Str):Bool:=cM c x&&decide (x = "set")
noncomputable def B7:List PySem.Expr->Bool
 | [_]=>true
 | _=>false
noncomputable def kH (c:TC) (x:Str):List PySem.Expr->Option (Bi × List PySem.Expr)
 | [.Call (.Name r _) ra [] _]=>if iL c r&&two ra then (if x = "tuple" then some (.rangeT,ra) else none) else if decide (x = "sorted")&&nO c r&&B7 ra then some (.sortedSet,ra) else none
 | _=>none
noncomputable def FW:CmpOp->Option Bool
 | .Is=>some true
 | .IsNot=>some false
 | _=>none
noncomputable def FJ:PySem.Expr->Bool
 | .Constant k _ _=>(match k with
  | .none=>true
  | _=>false)
 | _=>false
noncomputable def jG:PySem.Expr->Bool
 | .Constant k _ _=>(match k with
  | .str _=>true
  | _=>false)
 | _=>false
noncomputable def yK:List PySem.Expr->Bool
 | [e]=>jG e
 | _=>false
noncomputable def trE:Nat->TC->PySem.Expr->Option E
 | 0,_,_=>none
 | n+1,c,e=>match e with
  | .Name x _=>lB c x
  | .Constant k _ _=>qg k
  | .BinOp a op b _=>match op2 op,trE n c a,trE n c b with
   | some o,some a',some b'=>some (.bin o a' b')
   | _,_,_=>none
  | .UnaryOp op a _=>match op,trE n c a with
   | .Not,some a'=>some (.not a')
   | .USub,some a'=>some (.neg a')
   | _,_=>none
  | .BoolOp op vs p=>match vs with
   | []=>none
   | [a]=>trE n c a
   | a::b::r=>match op,trE n c a,trE n c (.BoolOp op (b::r) p) with
    | .And,some a',some b'=>some (.and a' b')
    | .Or,some a',some b'=>some (.or a' b')
    | _,_,_=>none
  | .IfExp t a b _=>match trE n c t,trE n c a,trE n c b with
   | some t',some a',some b'=>some (.ite t' a' b')
   | _,_,_=>none
  | .Compare a ops cs _=>match ops,cs with
   | [op],[b]=>match cmO op,trE n c a,trE n c b,behindInMarks op b with
     | some o,some a',some b',false=>some (.cmp o a' b')
     | _,_,_,_=>none
   | [op,op'],[b,d]=>match cmO op,cmO op',trE n c a,trE n c b,trE n c d,lastMarks [op,op'] [b,d] with
    | some o,some o',some a',some b',some d',false=>some (.chn o o' a' b' d')
    | _,_,_,_,_,_=>none
   | _,_=>none
  | .Tuple es _ _=>(bA (trE n c) es).map .tup
  | .List es _=>(bA (trE n c) es).map .lst
  | .Dict ks vs _=>match ks,vs with
   | _,_=>none
  | .Subscript a i _=>match i with
   | .Slice lo hi none _=>match trE n c a,trO (trE n c) lo,trO (trE n c) hi with
    | some a',some l,some h=>some (.sl a' l h)
    | _,_,_=>none
   | .Slice _ _ (some _) _=>none
   | .Tuple es _ _=>none
   | i=>match trE n c a,trE n c i with
    | some a',some i'=>some (.ix a' i')
    | _,_=>none
  | .Call f args kws cpos=>match f,kws with
   | .Name x _,[] =>
    if bM x&&glB c x then match c.gt.lookup x with
     | some .fn=>(bA (trE n c) args).map (.call x)
     | some _=>none
     | none =>
      if x = "isinstance" then match args with
       | [a,.Name y _]=>if bM y&&cM c y then match kE y,trE n c a with
         | some t,some a'=>some (.bi (.inst t) (.cs a' .nl))
         | _,_=>none
        else none
       | _=>none
      else match kH c x args with
       | some (b,ra)=>(bA (trE n c) ra).map (.bi b)
       | none=>match args with
        | []=>none
        | a::r=>match kY x,bA (trE n c) (a::r) with
         | some b,some es=>some (.bi b es)
         | _,_=>none
    else none
   | .Attribute o name apos,[]=>match args with
    | []=>none
    | a::r=>if tS o&&(apos.endLine==cpos.line)&&decide (args.length < 20) then match jW name,trE n c o,bA (trE n c) (a::r) with
      | some m,some o',some es=>some (.me m o' es)
      | _,_,_=>none
     else none
   | _,_=>none
  | .ListComp elt gens scope _=>match gens with
   | [⟨tg,iter,ifs,asy⟩]=>if asy=0&&k8 c scope then
     match trI (trE n c) c tg iter,gU (inComp c scope) tg,trE n (inComp c scope) elt,(match ifs with|[]=>some .nl|[t]=>trO (trE n (inComp c scope)) (some t)|_=>none) with
     | some it,some t,some el,some tt=>if t.oK c.N.length then some (.comp (own scope).length el t it tt) else none
     | _,_,_,_=>none
    else none
   | _=>none
  | _=>none
noncomputable def fK:PySem.Expr->Bool
 | .ListComp _ _ _ _=>false
 | .SetComp _ _ _ _=>false
 | .DictComp _ _ _ _ _=>false
 | _=>true
noncomputable def pO:PySem.Expr->PySem.Expr->Bool
 | .Name _ _,_=>true
 | .Tuple _ _ _,v=>!isTup v&&fK v
 | _,_=>false
noncomputable def cS (f:Stmt->Option S):List Stmt->Option S
 | []=>some .skip
 | [s]=>f s
 | s::r=>match f s,cS f r with
  | some a,some b=>some (.seq a b)
  | _,_=>none
noncomputable def lZ (c:TC):PySem.Expr->Option S
 | .Call f args kws _=>match f,kws with
  | .Name x _,[]=>if yK args&&(bM x&&glB c x) then match c.gt.lookup x with
    | some .cls=>some (.rais x)
    | _=>none
   else none
  | _,_=>none
 | _=>none
noncomputable def sd:PySem.Expr->Bool
 | .Slice _ _ _ _=>false
 | .Tuple _ _ _=>false
 | _=>true
noncomputable def j7 (f:PySem.Expr->Option E) (e:PySem.Expr):PySem.Expr->Option S
 | .Subscript o (.Tuple es _ _) _=>none
 | .Subscript o i _=>if fK e&&sd i then match f o,f i,f e with
   | some a,some b,some d=>some (.setIx a b d)
   | _,_,_=>none
  else none
 | _=>none
noncomputable def eK (c:TC) (n:Str):PySem.Expr->Bool
 | .Call (.Name x _) [.Name y _,.Name d _] [] _=>(decide (x = "isinstance")&&decide (y=n))&&(cM c "isinstance"&&((decide (d = "LapError")&&glB c d&&(match c.gt.lookup d with|some .cls=>true|_=>false))||(decide (d = "ValueError")&&cM c d)))
 | _=>false
noncomputable def eU (c:TC) (n k:Str):PySem.Expr->Bool
 | .UnaryOp .Not (.Call (.Name x _) [.Name y _,.Name d _] [] _) _=>(decide (x = "isinstance")&&decide (y=n))&&(cM c "isinstance"&&(decide (k = "NoLoop")&&decide (d = "NoPlan")&&glB c d&&(match c.gt.lookup d with|some .cls=>true|_=>false)))
 | _=>false
noncomputable def iM (c:TC) (n k:Str):List PySem.Expr->Bool
 | []=>false
 | [t]=>eK c n t||eU c n k t
 | t::r=>(eK c n t||eU c n k t)&&iM c n k r
noncomputable def jI (c:TC) (n k:Str):PySem.Expr->Option D
 | .BoolOp .And ts _=>if iM c n k ts then some (.bl true) else none
 | .BinOp (.Constant (.str x) _ _) .Mult (.Call (.Name y _) [.BoolOp .And ts _] [] _) _=>if (decide (y = "int")&&cM c "int")&&iM c n k ts then some (.str x) else none
 | _=>none
noncomputable def lH (c:TC) (f:PySem.Expr->Option E):List Stmt->List ExceptHandler->Option S
 | [.Return (some (.Call (.Name x _) (a::as) [] _)) _],[.ExceptHandler (some (.Name k _)) (some n) [.Return (some kx) _] _] =>
  if ((c.top&&(bM x&&glB c x))&&(bM k&&glB c k))&&(bM n&&decide (c.sc.names.lookup n=some .local)) then match c.gt.lookup x,c.gt.lookup k,bA f (a::as),jI c n k kx,idx c.N n with
   | some .fn,some .cls,some es,some d,some _=>some (.tryR x es k d)
   | _,_,_,_,_=>none
  else none
 | [.Expr (.Call (.Name x _) (a::as) [] _) _],[.ExceptHandler (some (.Name k _)) (some n) [.Return (some kx) _] _] =>
  if ((c.top&&(bM x&&glB c x))&&(bM k&&glB c k))&&(bM n&&decide (c.sc.names.lookup n=some .local)) then match c.gt.lookup x,c.gt.lookup k,bA f (a::as),jI c n k kx,idx c.N n with
   | some .fn,some .cls,some es,some d,some _=>some (.tryE x es k d)
   | _,_,_,_,_=>none
  else none
 | _,_=>none
noncomputable def k_ (c:TC) (f:PySem.Expr->Option E):List Stmt->List ExceptHandler->Option S
 | [.Return (some (.Call (.Name x _) (a::as) [] _)) _],[.ExceptHandler (some (.Name k _)) none [.Return (some (.Constant .none _ _)) _] _] =>
  if (c.top&&(bM x&&glB c x))&&(bM k&&glB c k) then match c.gt.lookup x,c.gt.lookup k,bA f (a::as) with
   | some .fn,some .cls,some es=>some (.tryR x es k .non)
   | _,_,_=>none
  else none
 | b,hs=>lH c f b hs
noncomputable def trS (m:Nat):Nat->TC->Stmt->Option S
 | 0,_,_=>none
 | n+1,c,s=>match s with
  | .Return none _=>some .retN
  | .Return (some e) _=>(trE m c e).map .ret
  | .Expr e _=>if jG e then some .skip else if fK e then (trE m c e).map .ex else none
  | .Pass _=>some .skip
  | .Assign ts e _=>match ts with
   | [tg]=>if pO tg e then match gU c tg,trE m c e with
     | some t,some e'=>some (.set t e')
     | _,_=>none
    else j7 (trE m c) e tg
   | _=>none
  | .If t a b _=>match trE m c t,cS (trS m n c) a,cS (trS m n c) b with
   | some t',some a',some b'=>some (.ite t' a' b')
   | _,_,_=>none
  | .For tg it body els _=>match els,gU c tg,trI (trE m c) c tg it,cS (trS m n c) body with
   | [],some t,some i,some b=>some (.forS t i b)
   | _,_,_,_=>none
  | .Raise (some e) none _=>lZ c e
  | .Try body hs [] [] _=>k_ c (trE m c) body hs
  | _=>none
noncomputable def depth:Nat:=60
noncomputable def argNames (a:Arguments):List Str:=a.args.map (·.arg)
noncomputable def iP (a:Arguments):Bool:=a.posonlyargs.isEmpty&&a.vararg.isNone&&a.kwonlyargs.isEmpty&&a.kw_defaults.isEmpty&&a.kwarg.isNone&&a.defaults.isEmpty
noncomputable def namesOf (a:Arguments) (sc:Scope):List Str:=argNames a++(sc.names.filter fun y=>(decide (y.2=.local)||decide (y.2=.cell))&&!((argNames a).any fun x=>decide (x=y.1))).map (·.1)
noncomputable def e8 (gt:List (Str × GE)) (a:Arguments) (sc:Scope):TC:=⟨sc,namesOf a sc,fun _=>true,true,gt⟩
noncomputable def cW (a:Arguments) (sc:Scope):Bool :=
 iP a&&decide (sc.kind=.function)&&!sc.isCoroutine&&!sc.isGenerator&&fQ (namesOf a sc)&&(argNames a).all (fun x=>match sc.names.lookup x with|some .local=>true|some .cell=>true|_=>false)&&sc.names.all fun y=>!decide (y.2=.free)
noncomputable def trF (gt:List (Str × GE)):Stmt->Option Fn
 | .FunctionDef _ a body _ _ _ sc _ _ _=>if cW a sc then (cS (trS depth depth (e8 gt a sc)) body).map fun b=>⟨(argNames a).length,(namesOf a sc).length,b⟩ else none
 | _=>none
end EV

namespace EV
open PySem PySem.Spec PyProof.Rows L2
theorem fB:∀ {l:List Str} {x:Str} {i:Nat},idx l x=some i->l[i]?=some x
 | [],_,_,h=>by cases h
 | y::r,x,i,h=>by
  unfold idx at h
  by_cases e:y=x
  ·rw [if_pos e] at h; cases h; subst e; rfl
  ·rw [if_neg e] at h
   cases q:idx r x with
   | none=>rw [q] at h; cases h
   | some j=>rw [q] at h; cases h; show r[j]?=some x; exact fB q
theorem jg:∀ {l:List Str},fQ l=true->l.Nodup
 | [],_=>List.nodup_nil
 | x::r,h=>by
  rw [fQ,Bool.and_eq_true] at h
  refine List.nodup_cons.mpr ⟨fun m=>?_,jg h.2⟩
  have:(r.any fun y=>decide (y=x))=true:=List.any_eq_true.mpr ⟨x,m,decide_eq_true rfl⟩
  rw [this] at h; exact absurd h.1 (by simp)
theorem xW {sc:Scope} {x:Str} (h:fD sc x=true):Vis sc x:=by
 unfold fD at h
 unfold Vis
 cases q:sc.names.lookup x with
 | none=>rw [q] at h; cases h
 | some k=>rw [q] at h; cases k <;> first|exact .inl rfl|exact .inr (.inl rfl)|exact .inr (.inr rfl)|cases h
theorem Fd {sc:Scope} {x:Str} (h:Vis sc x):fD sc x=true:=by
 unfold fD
 rcases h with h|h|h <;> rw [h]
theorem cy {x:Str} (h:bM x=true):(x==("__debug__" : Str))=false/\(x==("__classdict__" : Str))=false:=by
 unfold bM at h
 rw [Bool.and_eq_true] at h
 exact ⟨by simpa using h.1,by simpa using h.2⟩
structure Cok (c:TC) (X:Cx):Prop where
 sc:X.env.scope=c.sc
 N:X.N=c.N
 nd:X.N.Nodup
 kind:c.sc.kind=.function
 fn:∀ x,c.inF x=true->X.fn x=true
 stk:c.top=true->X.stack=X.env::X.outer/\X.env.frame=some X.env.locals
theorem Cok.gl {c:TC} {X:Cx} (C:Cok c X) {x:Str} (h:glB c x=true):Gl X x:=by
 show X.env.scope.names.lookup x=_
 rw [C.sc]; exact of_decide_eq_true h
theorem Cok.loc {c:TC} {X:Cx} (C:Cok c X) {x:Str} (h:dY c x=true):L2.Loc X.env.scope x/\(X.fn x=true\/X.env.scope.names.lookup x=some .local):=by
 unfold dY at h
 unfold L2.Loc
 rw [C.sc]
 cases q:c.sc.names.lookup x with
 | none=>rw [q] at h; cases h
 | some k =>
  rw [q] at h
  cases k with
  | «local»=>exact ⟨.inl rfl,.inr rfl⟩
  | cell=>exact ⟨.inr rfl,.inl (C.fn x h)⟩
  | _=>cases h
theorem Cw {scope:Scope} {env:Env}:relabel scope env=iB scope env.scope:=rfl
noncomputable def dJ:List Str:=["len","all","any","sum","min","max","sorted","abs","list","tuple","int","bool","str","dict","range","enumerate","isinstance","set","zip","ValueError"]
section
variable (Γ:Gx) (W:XW->Prop) (CX:CXT) (EW:XW->XK)
noncomputable def spF (g:List D->M D) (n:Nat):Sp:=fun vs H Q E=>vs.length=n/\∃ xw,W xw/\E=EW xw/\∃ ι S ds,ak Γ ι H S/\ao Γ ι H ds vs/\Out Γ xw ι H (g ds S) fun d _ ι' H'=>∀ v,Rep Γ ι' H' d v->Q v H'
noncomputable def EWx (K:PySem.W.Frag):XW->XK:=fun xw cls _ H'=>∃ c C,cls=.ref C/\PySem.W.nsIn K mainGlobals c=some (some (.ref C))/\∃ S ι,xw c S ι H'
theorem ewF {K:PySem.W.Frag} {cls:Value} {o:Option Addr} {H:Hp} (h:EWx K XF cls o H):False:=by
 obtain ⟨_,_,_,_,_,_,z⟩:=h
 exact z
noncomputable def ClsAt (K:PySem.W.Frag) (x:Str):Prop:=∃ C newId initId B bmB,PySem.W.nsIn K mainGlobals x=some (some (.ref C))/\PySem.W.excIn K C bmB newId=true/\ExcBaseFacts B newId initId bmB/\PySem.W.kitOne K (.ref C) (.type "ValueError")=some true /\
 (∃ L,PySem.W.nsIn K mainGlobals "LapError" = some (some (.ref L))/\PySem.W.kitOne K (.ref C) (.ref L)=some true) /\
 (x = "NoLoop"->∀ P,PySem.W.nsIn K mainGlobals "NoPlan" = some (some (.ref P))->dX K C/\PySem.W.kitOne K (.ref C) (.ref P)=some false)
structure Fam (gt:List (Str × GE)) (cf:Str->List D->M D) (X:Cx) (xw:XW):Prop where
 hK:Γ.K=X.K
 calm:X.calm=true
 un:X.A.units+64 < cLine
 blt:∀ x∈dJ,gt.lookup x=none->X.mg x=none
 val:∀ x d,gt.lookup x=some (.val d)->∃ u v,X.mg x=some u/\RelV v u/\∀ ι H,Rep Γ ι H d v
 fn:∀ x,gt.lookup x=some .fn->∃ k f fd ps,cD X.prog X.w X.K X.mg X.base CX k f fd ps (spF Γ W EW (cf x) ps.length)/\bu k X.A/\X.mg x=some (.ref f)/\PySem.W.keepIn X.K (.ref f)=true/\Binds X.K fd ps []/\∀ ds S,ds.length≠ps.length->cf x ds S=.bad
 pass:Passes CX X (EW xw)
 rp:Passes (CXr X.prog X.w) X (EW xw)
 cls:∀ x,gt.lookup x=some .cls->ClsAt X.K x/\∀ C,PySem.W.nsIn X.K mainGlobals x=some (some (.ref C))->X.mg x=some (.ref C)
 cx:CX=CXe X.prog X.w
 ew:EW=EWx X.K
 wt:∀ xw,W xw
end
section
variable {Γ:Gx} {W:XW->Prop} {CX:CXT} {EW:XW->XK} {gt:List (Str × GE)} {cf:Str->List D->M D} {X:Cx} {xw:XW}
theorem Fam.noR (F:Fam Γ W CX EW gt cf X xw) {st:Heap->Heap->Addr->Addr->Prop} {outer:List Env} {H:Hp} {s:Shared} {e:Value} {s':Shared} (h:CXg st X.prog X.w outer H s (EW XF) e s'):False:=by
 obtain ⟨_,_,_,_,_,_,_,_,_,_,_,_,z⟩:=h
 rw [F.ew] at z
 exact ewF z
theorem Fam.noF (F:Fam Γ W CX EW gt cf X xw) {outer:List Env} {H:Hp} {s:Shared} {e:Value} {s':Shared} (h:CX outer H s (EW XF) e s'):False:=by
 rw [F.cx] at h
 exact F.noR h
theorem Fam.ok (F:Fam Γ W CX EW gt cf X xw):W xw:=F.wt xw
theorem Fam.nox (F:Fam Γ W CX EW gt cf X xw):Fam Γ W CX EW gt cf X.nox XF :=
 ⟨F.hK,F.calm,F.un,F.blt,F.val,F.fn,fun _ _ _ _ _ _ _ h=>(F.noF h).elim,fun _ _ _ _ _ _ _ h=>(F.noR h).elim,F.cls,F.cx,F.ew,F.wt⟩
theorem Fam.comp (F:Fam Γ W CX EW gt cf X xw) (scope:Scope) (cl:List (Str × Addr)) (N':List Str) (fp:List Addr) (s3:Shared) (H3:Hp):Fam Γ W CX EW gt cf (aF X scope cl N' fp s3 H3) XF :=
 ⟨F.hK,F.calm,F.un,F.blt,F.val,F.fn,fun _ _ _ _ _ _ _ h=>(F.noF h).elim,fun _ _ _ _ _ _ _ h=>(F.noR h).elim,F.cls,F.cx,F.ew,F.wt⟩
theorem Cok.nox {c:TC} (C:Cok c X):Cok c X.nox:=⟨C.sc,C.N,C.nd,C.kind,C.fn,C.stk⟩
end
theorem Bt {scope:Scope} {x:Str} (h:isFree scope x=true):(x,NameKind.free)∈scope.names:=by
 obtain ⟨⟨n,k⟩,m,e⟩:=List.any_eq_true.mp h
 rw [Bool.and_eq_true] at e
 obtain ⟨e1,e2⟩:=e
 have e1:n=x:=of_decide_eq_true e1
 have e2:k=.free:=of_decide_eq_true e2
 subst e1; subst e2; exact m
theorem m_ {c:TC} {X:Cx} {scope:Scope} (C:Cok c X) (h:k8 c scope=true):eB X scope (inComp c scope).N (own scope).length /\
  ∀ cl fp s3 H3,Cok (inComp c scope) (aF X scope cl (inComp c scope).N fp s3 H3):=by
 unfold k8 at h
 simp only [Bool.and_eq_true] at h
 obtain ⟨⟨⟨⟨⟨h1,h2⟩,h3⟩,h4⟩,h5⟩,h6⟩:=h
 rw [List.all_eq_true] at h1 h4 h6
 have hrel:relabel scope X.env=iB scope c.sc:=by rw [Cw,C.sc]
 refine ⟨⟨fun y hy hf=>?_,jg h2,of_decide_eq_true h3,fun y hy hl=>?_,?_,fun i x hi hx hv=>?_⟩,fun cl fp s3 H3=>⟨hrel,rfl,jg h5,?_,fun _ h=>h,fun z=>by cases z⟩⟩
 ·have:=h1 y hy
  rw [Bool.or_eq_true] at this
  rcases this with z|z
  ·rw [hf] at z; simp at z
  ·show X.env.scope.names.lookup y.1=_\/X.env.scope.names.lookup y.1=_
   rw [C.sc]
   cases q:c.sc.names.lookup y.1 with
   | none=>rw [q] at z; cases z
   | some k=>rw [q] at z; cases k <;> first|exact .inl rfl|exact .inr rfl|cases z
 ·have:=h4 y hy
  rw [Bool.or_eq_true] at this
  rcases this with z|z
  ·rw [hl] at z; simp at z
  ·exact of_decide_eq_true z
 ·show (c.N.map (gv scope)++own scope).length=_
  rw [List.length_append,List.length_map,C.N]
 ·have hx:(c.N.map (gv scope)++own scope)[i]?=some x:=hx
  have hi':i < c.N.length:=by rw [<- C.N]; exact hi
  rw [List.getElem?_append_left (by rw [List.length_map]; exact hi'),List.getElem?_map,List.getElem?_eq_getElem hi'] at hx
  have hx:gv scope c.N[i]=x:=Option.some.inj hx
  have hm:=h6 c.N[i] (List.getElem_mem hi')
  rw [hrel] at hv ⊢
  unfold gv at hx
  by_cases hf:isFree scope c.N[i]=true
  ·rw [if_pos hf] at hx hm
   subst hx
   refine ⟨by rw [C.N]; exact List.getElem?_eq_getElem hi',Bt hf,fun z=>?_⟩
   rw [z] at hm; simp at hm
  ·rw [if_neg hf] at hx hm
   subst hx
   rw [Fd hv] at hm; simp at hm
 ·exact of_decide_eq_true h3
end EV

namespace EV
open PySem PySem.Spec PyProof.Rows L2
theorem aY {n:Nat} {c:TC} {a:PySem.Expr} {a':E} (h:trE n c a=some a'):∀ es env,starEach (a::es) env=(false,eval a env)::starEach es env:=by
 cases n with
 | zero=>cases h
 | succ n=>cases a <;> first|(intro _ _; rfl)|cases h
theorem bD {f:PySem.Expr->Option E} {e:PySem.Expr} {r:List PySem.Expr} {es:E} (h:bA f (e::r)=some es):∃ a b,f e=some a/\bA f r=some b/\es=.cs a b:=by
 unfold bA at h
 cases q:f e with
 | none=>rw [q] at h; cases h
 | some a =>
  rw [q] at h
  cases q2:bA f r with
  | none=>rw [q2] at h; cases h
  | some b=>rw [q2] at h; cases h; exact ⟨a,b,rfl,rfl,rfl⟩
theorem eN {n:Nat} {c:TC}:∀ {es:List PySem.Expr} {es':E},bA (trE n c) es=some es'->∀ env pos,(backTo pos (starEach es env)).any (·.1)=false/\(backTo pos (starEach es env)).all (fun x=>!x.1)=true
 | [],_,_,_,_=>⟨rfl,rfl⟩
 | e::r,_,h,env,pos=>by
  obtain ⟨a,b,h1,h2,_⟩:=bD h
  rw [aY h1]
  obtain ⟨z1,z2⟩:=eN h2 env pos
  constructor
  ·show (List.map _ ((false,eval e env)::starEach r env)).any _=false
   rw [List.map_cons,List.any_cons]
   have:(List.map (fun x:Bool × Sem Value=>(x.1,if x.1=true then do let v <- x.2; standAt pos; pure v else x.2)) (starEach r env)).any (·.1)=false:=z1
   simpa using this
  ·show (List.map _ ((false,eval e env)::starEach r env)).all _=true
   rw [List.map_cons,List.all_cons]
   have:(List.map (fun x:Bool × Sem Value=>(x.1,if x.1=true then do let v <- x.2; standAt pos; pure v else x.2)) (starEach r env)).all (fun x=>!x.1)=true:=z2
   simpa using this
section
variable {Γ:Gx} {W:XW->Prop} {CX:CXT} {EW:XW->XK} {gt:List (Str × GE)} {cf:Str->List D->M D} {sub:Sub} {X:Cx} {xw:XW}
theorem Fe (hw:W xw) {ps:List Str} {m:Sg->M (List D)} {i:Str} (hb:∀ ds S,ds.length≠ps.length->cf i ds S=.bad) {σ:L2.St} {H:Hp} {Q:VK} (h:tM Γ xw (fun σ=>m σ>>=cf i) σ H Q) :
  mz (spF Γ W EW (cf i) ps.length) [] (EW xw) (tMA Γ xw m) σ H Q:=by
 obtain ⟨σd,ι,S,he,hs,ho⟩:=h
 refine ⟨σd,ι,S,he,hs,ho.bind.mono fun ds S' ι' H' _ _ ⟨s',e',o'⟩ vs rs=>?_⟩
 show spF Γ W EW (cf i) ps.length (vs++[]) H' Q (EW xw)
 rw [List.append_nil]
 refine ⟨?_,xw,hw,rfl,ι',S',ds,s',rs,o'⟩
 by_cases hl:ds.length=ps.length
 ·rw [<- rs.length]; exact hl
 ·rw [hb ds S' hl] at o'; exact o'.elim
theorem BH (F:Fam Γ W CX EW gt cf X xw) {x:Str} (hx:gt.lookup x=some .fn) (hg:Gl X x) (hdb:(x==("__debug__" : Str))=false) {a:PySem.Expr} {es:List PySem.Expr} {m:Sg->M (List D)} {p pos:Pos}
  (ha:PA X (a::es) (tMA Γ xw m)) (he:starEach (a::es) X.env=(false,eval a X.env)::starEach es X.env) (hpl:(backTo pos (starEach es X.env)).any (·.1)=false) :
  PE X (.Call (.Name x p) (a::es) [] pos) (tM Γ xw fun σ=>m σ>>=cf x):=by
 obtain ⟨k,f,fd,ps,hf,hr,hm,hk,hb,hl⟩:=F.fn x hx
 exact PE.imp (EH hf hr hg hm hk hb .nil F.pass ha hdb he hpl) fun σ H Q h=>Fe F.ok hl h
theorem xj (F:Fam Γ W CX EW gt cf X xw) {x:Str} (hx:gt.lookup x=some .fn) (hg:Gl X x) (hdb:(x==("__debug__" : Str))=false) {p pos:Pos} :
  PE X (.Call (.Name x p) [] [] pos) (tM Γ xw fun _=>cf x []):=by
 obtain ⟨k,f,fd,ps,hf,hr,hm,hk,hb,hl⟩:=F.fn x hx
 refine PE.imp (CC hf hr hg hm hk hb .nil F.pass hdb) fun σ H Q h=>?_
 obtain ⟨σd,ι,S,he,hs,ho⟩:=h
 have ho:Out Γ xw ι H (cf x [] S) fun d x ι' H'=>∀ (v:V),Rep Γ ι' H' d v->Q v H':=ho
 refine ⟨?_,xw,F.ok,rfl,ι,S,[],hs,.nil,ho⟩
 by_cases hz:([]:List D).length=ps.length
 ·exact hz
 ·rw [hl [] S hz] at ho; exact ho.elim
theorem sC (F:Fam Γ W CX EW gt cf X xw) {x:Str} (h:gt.lookup x=none) (hm:x∈dJ):X.mg x=none:=F.blt x hm h
theorem Dp (F:Fam Γ W CX EW gt cf X xw) {x:Str} {b:Bi} (hb:kY x=some b) (hn:gt.lookup x=none) (hg:Gl X x) {a:PySem.Expr} {es:List PySem.Expr} {m:Sg->M (List D)} {p pos:Pos}
  (ha:PA X (a::es) (tMA Γ xw m)) (he:starEach (a::es) X.env=(false,eval a X.env)::starEach es X.env) (hpl:(backTo pos (starEach es X.env)).any (·.1)=false) :
  PE X (.Call (.Name x p) (a::es) [] pos) (tM Γ xw fun σ=>m σ>>=biD sub b):=by
 have hm:x∈dJ->X.mg x=none:=sC F hn
 unfold kY at hb
 by_cases e:x = "len"
 ·subst e; rw [if_pos rfl] at hb; cases hb
  exact gq (Ah F.hK) hg (hm (by decide +kernel)) PySem.boot_len ha (by decide +kernel) (by decide +kernel) he hpl
 rw [if_neg e] at hb; clear e
 by_cases e:x = "all"
 ·subst e; rw [if_pos rfl] at hb; cases hb
  exact gq (uK F.hK F.calm) hg (hm (by decide +kernel)) boot_all ha (by decide +kernel) (by decide +kernel) he hpl
 rw [if_neg e] at hb; clear e
 by_cases e:x = "sum"
 ·subst e; rw [if_pos rfl] at hb; cases hb
  exact gq (B0 F.hK F.calm) hg (hm (by decide +kernel)) boot_sum ha (by decide +kernel) (by decide +kernel) he hpl
 rw [if_neg e] at hb; clear e
 by_cases e:x = "min"
 ·subst e; rw [if_pos rfl] at hb; cases hb
  exact gq (vW F.hK F.calm) hg (hm (by decide +kernel)) boot_min ha (by decide +kernel) (by decide +kernel) he hpl
 rw [if_neg e] at hb; clear e
 by_cases e:x = "max"
 ·subst e; rw [if_pos rfl] at hb; cases hb
  exact gq (uw F.hK F.calm) hg (hm (by decide +kernel)) boot_max ha (by decide +kernel) (by decide +kernel) he hpl
 rw [if_neg e] at hb; clear e
 by_cases e:x = "sorted"
 ·subst e; rw [if_pos rfl] at hb; cases hb
  exact gq (yC F.hK) hg (hm (by decide +kernel)) boot_sorted ha (by decide +kernel) (by decide +kernel) he hpl
 rw [if_neg e] at hb; clear e
 by_cases e:x = "list"
 ·subst e; rw [if_pos rfl] at hb; cases hb
  exact nh (ER F.hK) hg (hm (by decide +kernel)) PyProof.Rows.boot_list ha (by decide +kernel) (by decide +kernel) he hpl
 rw [if_neg e] at hb; clear e
 by_cases e:x = "tuple"
 ·subst e; rw [if_pos rfl] at hb; cases hb
  exact nh (CN F.hK) hg (hm (by decide +kernel)) PyProof.Rows.boot_tuple ha (by decide +kernel) (by decide +kernel) he hpl
 rw [if_neg e] at hb; clear e
 cases hb
theorem AA (F:Fam Γ W CX EW gt cf X xw) {y:Str} {t:Ty} (hb:kE y=some t) (hn:gt.lookup y=none):∃ T,t.name=some T/\bootBuiltins y=some (.type T)/\X.mg y=none/\y≠"__name__"/\(y==("__debug__" : Str))=false:=by
 have hm:y∈dJ->X.mg y=none:=sC F hn
 unfold kE at hb
 by_cases e:y = "int"
 ·subst e; rw [if_pos rfl] at hb; cases hb
  exact ⟨_,rfl,PyProof.Rows.boot_int,hm (by decide +kernel),by decide +kernel,by decide +kernel⟩
 rw [if_neg e] at hb; clear e
 by_cases e:y = "bool"
 ·subst e; rw [if_pos rfl] at hb; cases hb
  exact ⟨_,rfl,PyProof.Rows.boot_bool,hm (by decide +kernel),by decide +kernel,by decide +kernel⟩
 rw [if_neg e] at hb; clear e
 by_cases e:y = "str"
 ·subst e; rw [if_pos rfl] at hb; cases hb
  exact ⟨_,rfl,PyProof.Rows.boot_str,hm (by decide +kernel),by decide +kernel,by decide +kernel⟩
 rw [if_neg e] at hb; clear e
 by_cases e:y = "list"
 ·subst e; rw [if_pos rfl] at hb; cases hb
  exact ⟨_,rfl,PyProof.Rows.boot_list,hm (by decide +kernel),by decide +kernel,by decide +kernel⟩
 rw [if_neg e] at hb; clear e
 by_cases e:y = "tuple"
 ·subst e; rw [if_pos rfl] at hb; cases hb
  exact ⟨_,rfl,PyProof.Rows.boot_tuple,hm (by decide +kernel),by decide +kernel,by decide +kernel⟩
 rw [if_neg e] at hb; clear e
 by_cases e:y = "dict"
 ·subst e; rw [if_pos rfl] at hb; cases hb
  exact ⟨_,rfl,PyProof.Rows.boot_dict,hm (by decide +kernel),by decide +kernel,by decide +kernel⟩
 rw [if_neg e] at hb; cases hb
theorem FF (F:Fam Γ W CX EW gt cf X xw) {name:Str} {me:Me} (hb:jW name=some me) {o a:PySem.Expr} {es:List PySem.Expr} {apos cpos:Pos} {mo:Sg->M D} {m:Sg->M (List D)}
  (ho:PE X o (tM Γ xw mo)) (ha:PA X (a::es) (tMA Γ xw m)) (hc0:tS o=true) (hlen:(a::es).length < 20) (hall:(backTo cpos (starEach (a::es) X.env)).all (fun x=>!x.1)=true)
  (hline:(apos.endLine==cpos.line)=true) (hs:starEach (a::es) X.env=(false,eval a X.env)::starEach es X.env) (hplain:(backTo cpos (starEach es X.env)).any (·.1)=false) :
  PE X (.Call (.Attribute o name apos) (a::es) [] cpos) (tM Γ xw fun σ=>mo σ>>=fun x=>jF x (m σ>>=fun ds=>meD me x ds)):=by
 have hbase:attributeBase o name X.env (eval o X.env)=eval o X.env:=by
  unfold attributeBase
  cases o with
  | Call f as ks p =>
   cases as with
   | cons _ _=>cases f <;> rfl
   | nil =>
    cases ks with
    | nil=>cases hc0
    | cons _ _=>cases f <;> rfl
  | _=>rfl
 have hfew:((backTo cpos (starEach (a::es) X.env)).all (fun x=>!x.1)&&(backToKw cpos (keywordEach [] X.env)).all (fun x=>x.1.isSome)&&decide ((a::es).length+([]:List Keyword).length+(if ([]:List Keyword).isEmpty then 0 else 1) < 30))=true:=by
  rw [hall]
  show (true&&true&&decide ((a::es).length+0+0 < 30))=true
  rw [decide_eq_true (show (a::es).length+0+0 < 30 by omega)]
  rfl
 unfold jW at hb
 by_cases e:name = "append"
 ·subst e; rw [if_pos rfl] at hb; cases hb
  exact pV F.hK PySem.F.plainAttrs_list PySem.F.slot_list_append PySem.F.type_list_append yR ho ha hbase hfew hline hs hplain
 rw [if_neg e] at hb; clear e
 by_cases e:name = "extend"
 ·subst e; rw [if_pos rfl] at hb; cases hb
  exact pV F.hK PySem.F.plainAttrs_list PySem.F.slot_list_extend PySem.F.type_list_extend DZ ho ha hbase hfew hline hs hplain
 rw [if_neg e] at hb; cases hb
end
end EV

namespace EV
open PySem PySem.Spec PyProof.Rows L2
section
variable (Γ:Gx) (sub:Sub) (cf:Str->List D->M D)
structure ClE (X:Cx) (xw:XW) (e:PySem.Expr) (e':E):Prop where
 pe:PE X e (tM Γ xw (ev sub cf e'))
 pt:PT X e (tMT Γ xw (evT sub cf e'))
 pw:(∃ op vs p,e=.BoolOp op vs p)->PW X e (tMT Γ xw (evT sub cf e'))
end
section
variable {Γ:Gx} {W:XW->Prop} {CX:CXT} {EW:XW->XK} {gt:List (Str × GE)} {cf:Str->List D->M D} {sub:Sub} {X:Cx} {xw:XW}
theorem qB {e:PySem.Expr}:PT X e (tMT Γ xw fun _=>bad):=fun _ _ _ _ _ _ h=>by
 obtain ⟨_,_,_,_,_,ho⟩:=h
 exact ho.elim
theorem noBool {e:PySem.Expr} (h:∀ op vs p,e≠.BoolOp op vs p) {P:Prop}:(∃ op vs p,e=.BoolOp op vs p)->P:=fun ⟨op,vs,p,q⟩=>(h op vs p q).elim
theorem bG {e:PySem.Expr} {e':E} (hK:Γ.K=X.K) (h:PE X e (tM Γ xw (ev sub cf e'))) (he:∀ whole,isTrue e X.env whole=(do let v <- whole; standAt e.pos; holding [v] (truthy v)))
  (hb:(evT sub cf e'=fun σ=>ev sub cf e' σ>>=truth)\/evT sub cf e'=fun _=>bad) (hn:∀ op vs p,e≠.BoolOp op vs p):ClE Γ sub cf X xw e e':=by
 refine ⟨h,?_,noBool hn⟩
 rcases hb with q|q
 ·rw [q]; exact A5 hK h he
 ·rw [q]; exact qB
theorem uf {c:TC} {x:Str} {p:Pos} {e':E} (F:Fam Γ W CX EW c.gt cf X xw) (C:Cok c X) (h:lB c x=some e'):ClE Γ sub cf X xw (.Name x p) e':=by
 unfold lB at h
 by_cases h1:bM x=true
 ·rw [if_pos h1] at h
  obtain ⟨d1,d2⟩:=cy h1
  by_cases h2:fD c.sc x=true
  ·rw [if_pos h2] at h
   cases q:idx c.N x with
   | none=>rw [q] at h; cases h
   | some i =>
    rw [q] at h; cases h
    exact bG F.hK (xE (by rw [C.N]; exact fB q) (by rw [C.sc]; exact xW h2) d1 d2) (fun _=>rfl) (.inl rfl) (fun _ _ _ z=>nomatch z)
  ·rw [if_neg h2] at h
   by_cases h3:glB c x=true
   ·rw [if_pos h3] at h
    cases q:c.gt.lookup x with
    | none=>rw [q] at h; cases h
    | some g =>
     rw [q] at h
     cases g with
     | val d =>
      cases h
      obtain ⟨u,v,hm,r,hv⟩:=F.val x d q
      exact bG F.hK (iF (CD (C.gl h3) hm r d1) hv) (fun _=>rfl) (.inl rfl) (fun _ _ _ z=>nomatch z)
     | _=>cases h
   ·rw [if_neg h3] at h; cases h
 ·rw [if_neg h1] at h; cases h
theorem Dw {k:Const} {j:Nat} {p:Pos} {e':E} (hK:Γ.K=X.K) (h:qg k=some e'):ClE Γ sub cf X xw (.Constant k j p) e':=by
 cases k <;> first|(cases h; done)|skip
 ·cases h; exact bG hK (iF Df fun _ _=>.non) (fun _=>rfl) (.inl rfl) (fun _ _ _ z=>nomatch z)
 ·cases h; exact bG hK (iF EJ fun _ _=>.bl _) (fun _=>rfl) (.inl rfl) (fun _ _ _ z=>nomatch z)
 ·cases h; exact bG hK (iF tY fun _ _=>.int _) (fun _=>rfl) (.inl rfl) (fun _ _ _ z=>nomatch z)
 ·cases h; exact bG hK (iF n6 fun _ _=>.str _) (fun _=>rfl) (.inl rfl) (fun _ _ _ z=>nomatch z)
theorem tX (hK:Γ.K=X.K) {op:Operator} {o:Op2} (h:op2 op=some o):OpR X (binaryOp op) (aU Γ xw (opD o)):=by
 cases op <;> cases h
 ·exact ED hK
 ·exact Av
 ·exact yZ hK
 ·exact Fv
 ·exact BA
 ·exact vM
theorem gp (F:Fam Γ W CX EW gt cf X xw) {op:CmpOp} {o:Cm} (h:cmO op=some o):OpR X (compareOp op) (aU Γ xw (cmD o)):=by
 cases op <;> cases h
 ·exact s_eq F.hK F.un
 ·exact CV F.hK F.un
 ·exact vG
 ·exact yQ
 ·exact vK
 ·exact E9
 ·exact wN F.hK F.un
 ·exact wL F.hK F.un
theorem mw {o:Cm}:∀ (x y:D) (S:aa) (d:D) (S':aa),cmD o x y S=.ok d S'->∃ k,d=.bl k:=by
 intro x y S d S' h
 have intc:∀ p:Int->Int->Bool,fU p x y S=.ok d S'->∃ k,d=.bl k:=fun p h=>by
  cases x <;> first|(cases h; done)|skip
  cases y <;> first|(cases h; done)|skip
  cases h; exact ⟨_,rfl⟩
 have inc:∀ neg,inM neg x y S=.ok d S'->∃ k,d=.bl k:=fun neg h=>by
  unfold inM at h
  rcases ia y S with ⟨ds,e⟩|e
  ·rw [aj e] at h
   unfold inA at h
   cases q:inL S x ds with
   | none=>rw [q] at h; cases h
   | some k=>rw [q] at h; cases h; exact ⟨_,rfl⟩
  ·rw [aR e] at h; cases h
 cases o with
 | lt=>exact intc _ h
 | le=>exact intc _ h
 | gt=>exact intc _ h
 | ge=>exact intc _ h
 | eq =>
  have h:(eqM x y>>=fun b=>pure (.bl b)) S=.ok d S':=h
  rw [bX] at h
  unfold eqM at h
  cases q:eqD deep S x y with
  | none=>rw [q] at h; cases h
  | some k=>rw [q] at h; cases h; exact ⟨_,rfl⟩
 | ne =>
  have h:guard (ee x y) (eqM x y>>=fun b=>pure (.bl (!b))) S=.ok d S':=h
  cases q:ee x y with
  | false=>rw [q] at h; cases h
  | true =>
   rw [q] at h
   have h:(eqM x y>>=fun b=>pure (.bl (!b))) S=.ok d S':=h
   rw [bX] at h
   unfold eqM at h
   cases q:eqD deep S x y with
   | none=>rw [q] at h; cases h
   | some k=>rw [q] at h; cases h; exact ⟨_,rfl⟩
 | isin=>exact inc _ h
 | cg=>exact inc _ h
theorem cY {c:TC} {n:Nat} (F:Fam Γ W CX EW c.gt cf X xw) (C:Cok c X) (ih:∀ e e',trE n c e=some e'->ClE Γ sub cf X xw e e'):∀ {es:List PySem.Expr} {es':E},bA (trE n c) es=some es'->PA X es (tMA Γ xw (evs sub cf es'))
 | [],_,h=>by cases h; exact BJ
 | e::r,_,h=>by
  obtain ⟨a,b,h1,h2,rfl⟩:=bD h
  exact wM (ih e a h1).pe (cY F C ih h2) (aY h1 r X.env)
theorem nA {c:TC} {n:Nat} (ih:∀ e e',trE n c e=some e'->ClE Γ sub cf X xw e e') {o:Option PySem.Expr} {e':E} (h:trO (trE n c) o=some e'):PO X o (tMO Γ xw fun σ=>if e'.aX=true then pure none else ev sub cf e' σ>>=fF):=by
 cases o with
 | none=>cases h; exact vX
 | some e =>
  have h:(match trE n c e with|some .nl=>none|o=>o)=some e':=h
  cases q:trE n c e with
  | none=>rw [q] at h; cases h
  | some f =>
   rw [q] at h
   have hf:f=e'/\f.aX=false:=by
    cases f <;> first|(cases h; done)|(cases h; exact ⟨rfl,rfl⟩)
   obtain ⟨rfl,hn⟩:=hf
   rw [hn]
   simp only [Bool.false_eq_true,if_false]
   exact Eg (ih e f q).pe
theorem jN {c:TC} (hK:Γ.K=X.K) (hc:X.calm=true) (C:Cok c X) {tg:PySem.Expr} {t:Tg} (h:gU c tg=some t):PG X tg (tMG Γ t):=by
 have names:∀ (es:List PySem.Expr) (is:List Nat),fH c es=some is->jh X es is:=by
  intro es
  induction es with
  | nil=>intro is h; cases h; exact .nil
  | cons e r ih =>
   intro is h
   cases e with
   | Name x p =>
    unfold fH at h
    by_cases hl:dY c x=true
    ·rw [if_pos hl] at h
     cases q:idx c.N x with
     | none=>rw [q] at h; cases h
     | some i =>
      rw [q] at h
      cases q2:fH c r with
      | none=>rw [q2] at h; cases h
      | some js =>
       rw [q2] at h; cases h
       exact .cons ⟨x,p,rfl,by rw [C.N]; exact fB q,(C.loc hl).1,(C.loc hl).2⟩ (ih js q2)
    ·rw [if_neg hl] at h; cases h
   | _=>cases h
 cases tg with
 | Name x p =>
  have h:(if dY c x=true then (idx c.N x).map Tg.one else none)=some t:=h
  by_cases hl:dY c x=true
  ·rw [if_pos hl] at h
   cases q:idx c.N x with
   | none=>rw [q] at h; cases h
   | some i =>
    rw [q] at h; cases h
    exact zW C.nd (by rw [C.N]; exact fB q) (C.loc hl).1 (C.loc hl).2
  ·rw [if_neg hl] at h; cases h
 | Tuple es k p =>
  have h:(fH c es).map Tg.many=some t:=h
  cases q:fH c es with
  | none=>rw [q] at h; cases h
  | some is =>
   rw [q] at h; cases h
   exact Bv hK hc C.nd (names es is q)
 | _=>cases h
theorem zd {e:PySem.Expr} (h:kF e=true) (env:Env):∀ x,foldedSetIterable e env x=pure x:=by
 intro x
 cases e <;> first|rfl|cases h
theorem dM {c:TC} (C:Cok c X) {x:Str} (h:cM c x=true):Gl X x/\c.gt.lookup x=none:=by
 unfold cM at h
 rw [Bool.and_eq_true] at h
 exact ⟨C.gl h.1,by simpa using h.2⟩
theorem lN {f:PySem.Expr->Option E}:∀ {es:List PySem.Expr} {es':E},bA f es=some es'->∀ (σ:Sg) (S:aa) (ds:List D) (S':aa),evs sub cf es' σ S=.ok ds S'->ds.length=es.length
 | [],_,h,σ,S,ds,S',q=>by
  cases h
  have q:(Res.ok [] S:Res (List D))=.ok ds S':=q
  cases q; rfl
 | e::r,_,h,σ,S,ds,S',q=>by
  obtain ⟨a,b,h1,h2,rfl⟩:=bD h
  have q:(ev sub cf a σ>>=fun x=>evs sub cf b σ>>=fun xs=>pure (x::xs)) S=.ok ds S':=q
  cases q1:ev sub cf a σ S with
  | ok d S1 =>
   rw [aj q1] at q
   cases q2:evs sub cf b σ S1 with
   | ok xs S2 =>
    rw [aj q2] at q
    cases q
    show xs.length+1=r.length+1
    rw [lN h2 σ S1 xs _ q2]
   | exc k S2=>rw [cP q2] at q; cases q
   | bad=>rw [aR q2] at q; cases q
  | exc k S2=>rw [cP q1] at q; cases q
  | bad=>rw [aR q1] at q; cases q
theorem lF {c:TC} {n:Nat} (F:Fam Γ W CX EW c.gt cf X xw) (C:Cok c X) (ih:∀ e e',trE n c e=some e'->ClE Γ sub cf X xw e e') {tg e:PySem.Expr} {e':E} (h:trI (trE n c) c tg e=some e') :
  PI X tg e (tMI Γ xw (evI sub cf e'))/\∀ x,foldedSetIterable e X.env x=pure x:=by
 unfold trI at h
 by_cases hs:kF e=true
 ·rw [if_pos hs] at h
  refine ⟨?_,zd hs X.env⟩
  have seq:(trE n c e).map E.iSeq=some e'->PI X tg e (tMI Γ xw (evI sub cf e')):=fun h=>by
   cases q:trE n c e with
   | none=>rw [q] at h; cases h
   | some a=>rw [q] at h; cases h; exact wD F.hK (ih e a q).pe
  split at h
  ·rename_i x p args pos
   by_cases hr:iL c x=true
   ·rw [if_pos hr] at h
    unfold iL at hr
    rw [Bool.and_eq_true] at hr
    have hx:x = "range":=of_decide_eq_true hr.2
    subst hx
    obtain ⟨hg,hn⟩:=dM C hr.1
    have hm:X.mg "range" = none:=F.blt _ (by decide +kernel) hn
    by_cases hf:few args=true
    ·rw [if_pos hf] at h
     cases q:bA (trE n c) args with
     | none=>rw [q] at h; cases h
     | some es =>
      rw [q] at h; cases h
      have ha:=cY F C ih q
      have hl:=lN (sub:=sub) (cf:=cf) q
      match args,q,ha,hl,hf with
      | [],_,_,_,hf=>exact absurd hf (by decide)
      | [a],q,ha,hl,_ =>
       obtain ⟨a',b',q1,q2,_⟩:=bD q
       exact BK hg hm ha (aY q1 [] X.env) hl
      | [a,b],q,ha,hl,_ =>
       obtain ⟨a',r',q1,q2,_⟩:=bD q
       obtain ⟨b',r2,q3,q4,_⟩:=bD q2
       exact yb hg hm ha (by rw [aY q1,aY q3]; rfl) (aY q3 [] X.env) hl
      | [a,b,d],q,ha,hl,_ =>
       obtain ⟨a',r',q1,q2,_⟩:=bD q
       obtain ⟨b',r2,q3,q4,_⟩:=bD q2
       obtain ⟨d',r3,q5,q6,_⟩:=bD q4
       exact zJ hg hm ha (by rw [aY q1,aY q3,aY q5]; rfl) (by rw [aY q3,aY q5]; rfl) hl
      | _::_::_::_::r,_,_,_,hf =>
       unfold few at hf
       rw [Bool.and_eq_true] at hf
       have:=of_decide_eq_true hf.2
       simp at this
    ·rw [if_neg hf] at h; cases h
   ·rw [if_neg hr] at h
    by_cases he:jV c x=true
    ·rw [if_pos he] at h
     unfold jV at he
     rw [Bool.and_eq_true] at he
     have hx:x = "enumerate":=of_decide_eq_true he.2
     subst hx
     obtain ⟨hg,hn⟩:=dM C he.1
     have hm:X.mg "enumerate" = none:=F.blt _ (by decide +kernel) hn
     cases tg with
     | Tuple es k tp =>
      match args,h with
      | [a],h =>
       have h:(trE n c a).map E.iEnum=some e':=h
       cases q:trE n c a with
       | none=>rw [q] at h; cases h
       | some a'=>rw [q] at h; cases h; exact yt F.hK hg hm boot_enumerate (ih a a' q).pe (aY q [] X.env)
      | [],h=>cases h
      | _::_::_,h=>cases h
     | _=>cases h
    ·rw [if_neg he] at h
     exact seq h
  ·exact seq h
 ·rw [if_neg hs] at h; cases h
end
end EV

namespace EV
open PySem PySem.Spec PyProof.Rows L2
section
variable {Γ:Gx} {W:XW->Prop} {CX:CXT} {EW:XW->XK} {cf:Str->List D->M D} {sub:Sub}
theorem uA {α:Type} {m m':M α} (h:∀ S,m S=m' S):m=m':=funext h
theorem nG (m:M D) (f:List D->M D):((m>>=fun x=>(pure []:M (List D))>>=fun xs=>pure (x::xs))>>=f)=(m>>=fun x=>f [x]):=by
 refine uA fun S=>?_
 rw [bX,bX,bX]
 cases m S <;> rfl
theorem dR {α β:Type} {o:Option α} {f:α->β} {d:β} (h:o.map f=some d):∃ a,o=some a/\d=f a:=by
 cases o with
 | none=>cases h
 | some a=>cases h; exact ⟨a,rfl,rfl⟩
theorem pZ {t:Tg} {n:Nat} (h:t.oK n=true):∀ j,j < n->t.has j=false:=by
 intro j hj
 cases t with
 | one i =>
  have:n<=i:=of_decide_eq_true h
  show (i==j)=false
  simp; omega
 | many is =>
  show is.contains j=false
  have h:(is.all fun i=>decide (n<=i))=true:=h
  rw [List.all_eq_true] at h
  cases q:is.contains j with
  | false=>rfl
  | true =>
   have hm:j∈is:=List.contains_iff_mem.mp q
   have:=of_decide_eq_true (h j hm)
   omega
theorem yj {c:TC} {n:Nat} {X:Cx} {xw:XW} (F:Fam Γ W CX EW c.gt cf X xw) (C:Cok c X) (ih:∀ e e',trE n c e=some e'->ClE Γ sub cf X xw e e') {x:Str} {args ra:List PySem.Expr} {b:Bi} {es:E} {p pos:Pos} (hn:c.gt.lookup x=none) (hg:Gl X x)
  (h:kH c x args=some (b,ra)) (h1:bA (trE n c) ra=some es):PE X (.Call (.Name x p) args [] pos) (tM Γ xw (ev sub cf (.bi b es))):=by
 unfold kH at h
 split at h
 ·rename_i r p1 ra' p2
  split at h
  ·rename_i hr
   rw [Bool.and_eq_true] at hr
   obtain ⟨hr1,hr2⟩:=hr
   unfold iL at hr1
   rw [Bool.and_eq_true] at hr1
   have hx:r = "range":=of_decide_eq_true hr1.2
   subst hx
   obtain ⟨hgr,hnr⟩:=dM C hr1.1
   have hmr:X.mg "range" = none:=F.blt _ (by decide +kernel) hnr
   have hra:ra'=ra:=by
    split at h
    ·cases h; rfl
    ·cases h
   subst hra
   have ha:=cY F C ih h1
   have hl:=lN (sub:=sub) (cf:=cf) h1
   have hk:ra'.length=1\/ra'.length=2:=by
    unfold two at hr2
    rcases Bool.or_eq_true_iff.mp hr2 with z|z
    ·exact .inl (of_decide_eq_true z)
    ·exact .inr (of_decide_eq_true z)
   have hr:PE X (.Call (.Name "range" p1) ra' [] p2) (gJ (tMA Γ xw (evs sub cf es))):=by
    match ra',h1,ha,hl,hk with
    | [a],h1,ha,hl,_ =>
     obtain ⟨a',b',q1,q2,_⟩:=bD h1
     exact uP hgr hmr ha (aY q1 [] X.env) (rB hl)
    | [a,b],h1,ha,hl,_ =>
     obtain ⟨a',r',q1,q2,_⟩:=bD h1
     obtain ⟨b',r2,q3,q4,_⟩:=bD q2
     exact Bb hgr hmr ha (by rw [aY q1,aY q3]; rfl) (aY q3 [] X.env) (rB hl)
    | [],_,_,_,hk=>rcases hk with hk|hk <;> cases hk
    | _::_::_::_,_,_,_,hk=>simp at hk
   by_cases e:x = "tuple"
   ·subst e; rw [if_pos rfl] at h; cases h
    exact Ay hk F.calm hl hr rfl hg (F.blt _ (by decide +kernel) hn)
   rw [if_neg e] at h; cases h
  ·split at h
   ·rename_i hx
    simp only [Bool.and_eq_true] at hx
    obtain ⟨⟨hx1,hx2⟩,hx3⟩:=hx
    have hx:x = "sorted":=of_decide_eq_true hx1
    subst hx
    unfold nO at hx2
    rw [Bool.and_eq_true] at hx2
    have hr:r = "set":=of_decide_eq_true hx2.2
    subst hr
    obtain ⟨hgr,hnr⟩:=dM C hx2.1
    cases h
    match ra,h1,hx3 with
    | [a],h1,_ =>
     obtain ⟨a',b',q1,q2,q3⟩:=bD h1
     cases q2
     cases q3
     have key:(fun σ=>ev sub cf (.bi .sortedSet (.cs a' .nl)) σ)=fun σ=>ev sub cf a' σ>>=fun d=>bi1 sub .sortedSet d:=by
      funext σ
      exact nG (ev sub cf a' σ) (biD sub .sortedSet)
     show PE X _ (tM Γ xw (fun σ=>ev sub cf (.bi .sortedSet (.cs a' .nl)) σ))
     rw [key]
     have hu:=F.un
     exact wZ F.hK F.calm (by omega) hg (F.blt _ (by decide +kernel) hn) boot_sorted hgr (F.blt _ (by decide +kernel) hnr) boot_set (ih a a' q1).pe (by decide +kernel) (by decide +kernel) (by decide +kernel) (by decide +kernel) (aY q1 [] X.env)
   ·cases h
 ·cases h
theorem pP {b:PySem.Expr} (h:jG b=true):∃ x j p,b=.Constant (.str x) j p:=by
 cases b with
 | Constant k j p=>cases k <;> first|exact ⟨_,_,_,rfl⟩|cases h
 | _=>cases h
theorem dZ:∀ (n:Nat) (c:TC) (e:PySem.Expr) (e':E),trE n c e=some e'->∀ (X:Cx) (xw:XW),Fam Γ W CX EW c.gt cf X xw->Cok c X->ClE Γ sub cf X xw e e':=by
 intro n
 induction n with
 | zero=>intro c e e' h; cases h
 | succ n ihn =>
  intro c e e' h X xw F C
  have ih:∀ e e',trE n c e=some e'->ClE Γ sub cf X xw e e':=fun e e' h=>ihn c e e' h X xw F C
  cases e with
  | Name x p=>exact uf F C h
  | Constant k j p=>exact Dw F.hK h
  | BinOp a op b p =>
   simp only [trE] at h
   split at h
   rotate_left
   ·cases h
   rename_i o a' b' h1 h2 h3
   cases h
   exact bG F.hK (vQ (tX F.hK h1) (ih a a' h2).pe (ih b b' h3).pe) (fun _=>rfl) (.inr rfl) (fun _ _ _ z=>nomatch z)
  | UnaryOp op a p =>
   cases op with
   | Not =>
    obtain ⟨a',h1,rfl⟩:∃ a',trE n c a=some a'/\e'=.not a':=by
     cases q:trE n c a with
     | none=>simp only [trE,q] at h; cases h
     | some a'=>simp only [trE,q] at h; cases h; exact ⟨a',rfl,rfl⟩
    exact ⟨wo (ih a a' h1).pe,FD (ih a a' h1).pt,fun ⟨_,_,_,z⟩=>by cases z⟩
   | USub =>
    obtain ⟨a',h1,rfl⟩:∃ a',trE n c a=some a'/\e'=.neg a':=by
     cases q:trE n c a with
     | none=>simp only [trE,q] at h; cases h
     | some a'=>simp only [trE,q] at h; cases h; exact ⟨a',rfl,rfl⟩
    exact bG F.hK (xK (ih a a' h1).pe) (fun _=>rfl) (.inr rfl) (fun _ _ _ z=>nomatch z)
   | _ =>
    exfalso
    cases q:trE n c a with
    | none=>simp only [trE,q] at h; cases h
    | some a'=>simp only [trE,q] at h; cases h
  | BoolOp op vs p =>
   match vs,h with
   | [],h=>cases h
   | [a],h =>
    have h:trE n c a=some e':=h
    have ca:=ih a e' h
    cases op with
    | And=>exact ⟨fun pins s σ H Q I hw=>nK ca.pe pins s σ H Q I hw,(sG ca.pt).pt,fun _=>sG ca.pt⟩
    | Or=>exact ⟨fun pins s σ H Q I hw=>nK ca.pe pins s σ H Q I hw,(pI ca.pt).pt,fun _=>pI ca.pt⟩
   | a::b::r,h =>
    cases op with
    | And =>
     obtain ⟨a',b',h1,h2,rfl⟩:∃ a' b',trE n c a=some a'/\trE n c (.BoolOp .And (b::r) p)=some b'/\e'=.and a' b':=by
      cases q:trE n c a with
      | none=>simp only [trE,q] at h; cases h
      | some a' =>
       cases q2:trE n c (.BoolOp .And (b::r) p) with
       | none=>simp only [trE,q,q2] at h; cases h
       | some b'=>simp only [trE,q,q2] at h; cases h; exact ⟨a',b',rfl,rfl,rfl⟩
     have ca:=ih _ _ h1
     have cb:=ih _ _ h2
     exact ⟨zD ca.pe cb.pe,(oV ca.pt (cb.pw ⟨_,_,_,rfl⟩)).pt,fun _=>oV ca.pt (cb.pw ⟨_,_,_,rfl⟩)⟩
    | Or =>
     obtain ⟨a',b',h1,h2,rfl⟩:∃ a' b',trE n c a=some a'/\trE n c (.BoolOp .Or (b::r) p)=some b'/\e'=.or a' b':=by
      cases q:trE n c a with
      | none=>simp only [trE,q] at h; cases h
      | some a' =>
       cases q2:trE n c (.BoolOp .Or (b::r) p) with
       | none=>simp only [trE,q,q2] at h; cases h
       | some b'=>simp only [trE,q,q2] at h; cases h; exact ⟨a',b',rfl,rfl,rfl⟩
     have ca:=ih _ _ h1
     have cb:=ih _ _ h2
     exact ⟨ET ca.pe cb.pe,(p7 ca.pt (cb.pw ⟨_,_,_,rfl⟩)).pt,fun _=>p7 ca.pt (cb.pw ⟨_,_,_,rfl⟩)⟩
  | IfExp t a b p =>
   simp only [trE] at h
   split at h
   rotate_left
   ·cases h
   rename_i t' a' b' h1 h2 h3
   cases h
   refine ⟨vO (ih t t' h1).pt (ih a a' h2).pe (ih b b' h3).pe,qB,fun ⟨_,_,_,z⟩=>by cases z⟩
  | Tuple es k p =>
   obtain ⟨es',h1,rfl⟩:=dR (f:=E.tup) h
   exact bG F.hK (D4 (cY F C ih h1)) (fun _=>rfl) (.inr rfl) (fun _ _ _ z=>nomatch z)
  | Dict ks vs p =>
   have h:(none:Option E)=some _:=h
   cases h
  | List es p =>
   obtain ⟨es',h1,rfl⟩:=dR (f:=E.lst) h
   exact bG F.hK (z0 (cY F C ih h1)) (fun _=>rfl) (.inr rfl) (fun _ _ _ z=>nomatch z)
  | Compare a ops cs p =>
   simp only [trE] at h
   split at h
   ·rename_i op b
    split at h
    ·rename_i o a' b' h1 h2 h3 h4
     cases h
     exact ⟨xh (gp F h1) (ih a a' h2).pe (ih b b' h3).pe h4,vS mw (gp F h1) (ih a a' h2).pe (ih b b' h3).pe h4,fun ⟨_,_,_,z⟩=>by cases z⟩
    ·cases h
   ·rename_i op op' b d
    split at h
    ·rename_i o o' a' b' d' h1 h2 h3 h4 h5 h6
     cases h
     exact ⟨FA (gp F h1) (gp F h2) (ih a a' h3).pe (ih b b' h4).pe (ih d d' h5).pe h6,Co mw mw (gp F h1) (gp F h2) (ih a a' h3).pe (ih b b' h4).pe (ih d d' h5).pe h6,fun ⟨_,_,_,z⟩=>by cases z⟩
    ·cases h
   ·cases h
  | Subscript a i p =>
   simp only [trE] at h
   split at h
   ·rename_i lo hi p2
    split at h
    ·rename_i a' l u h1 h2 h3
     cases h
     exact bG F.hK (D9 F.hK (ih a a' h1).pe (nA ih h2) (nA ih h3)) (fun _=>rfl) (.inr rfl) (fun _ _ _ z=>nomatch z)
    ·cases h
   ·cases h
   ·cases h
   ·rename_i hs1 hs2 hs3
    split at h
    ·rename_i a' i' h1 h2
     cases h
     have hp:lI i:=by
      intro o j
      cases i with
      | Slice lo hi st p2 =>
       cases st with
       | none=>exact (hs1 lo hi p2 rfl).elim
       | some x=>exact (hs2 lo hi x p2 rfl).elim
      | _=>rfl
     exact bG F.hK (DT F.hK (ih a a' h1).pe (ih i i' h2).pe hp) (fun _=>rfl) (.inl rfl) (fun _ _ _ z=>nomatch z)
    ·cases h
  | Call f args kws cpos =>
   simp only [trE] at h
   split at h
   ·rename_i x p
    by_cases hx:(bM x&&glB c x)=true
    ·rw [if_pos hx] at h
     rw [Bool.and_eq_true] at hx
     have hd:=(cy hx.1).1
     have hg:=C.gl hx.2
     split at h
     ·rename_i hi
      obtain ⟨es',h1,rfl⟩:=dR (f:=E.call x) h
      cases args with
      | nil =>
       cases h1
       refine bG F.hK ?_ (fun _=>rfl) (.inl rfl) (fun _ _ _ z=>nomatch z)
       exact xj F hi hg hd
      | cons a r =>
       obtain ⟨a',b',q1,q2,_⟩:=bD h1
       exact bG F.hK (BH F hi hg hd (cY F C ih h1) (aY q1 r X.env) (eN q2 X.env cpos).1) (fun _=>rfl) (.inl rfl) (fun _ _ _ z=>nomatch z)
     ·cases h
     ·rename_i hn
      by_cases hi:x = "isinstance"
      ·rw [if_pos hi] at h
       subst hi
       split at h
       ·rename_i a y p2
        by_cases hy:(bM y&&cM c y)=true
        ·rw [if_pos hy] at h
         rw [Bool.and_eq_true] at hy
         split at h
         ·rename_i t a' h1 h2
          cases h
          obtain ⟨hg2,hn2⟩:=dM C hy.2
          obtain ⟨T,t1,t2,t3,t4,t5⟩:=AA F h1 hn2
          have hm:X.mg "isinstance" = none:=F.blt _ (by decide +kernel) hn
          have key:(fun σ=>ev sub cf (.bi (.inst t) (.cs a' .nl)) σ)=fun σ=>ev sub cf a' σ>>=fun d=>gM sub t d:=by
           funext σ
           exact nG (ev sub cf a' σ) (biD sub (.inst t))
          refine bG F.hK ?_ (fun _=>rfl) (.inl rfl) (fun _ _ _ z=>nomatch z)
          show PE X _ (tM Γ xw (fun σ=>ev sub cf (.bi (.inst t) (.cs a' .nl)) σ))
          rw [key]
          exact FG F.hK t1 hg hm boot_isinstance hg2 t3 t2 (ih a a' h2).pe (by decide +kernel) (by decide +kernel) t4 t5 (aY h2 _ X.env)
         ·cases h
        ·rw [if_neg hy] at h; cases h
       ·cases h
      ·rw [if_neg hi] at h
       split at h
       ·rename_i b ra hr
        obtain ⟨es,h1,rfl⟩:=dR (f:=E.bi b) h
        exact bG F.hK (yj F C ih hn hg hr h1) (fun _=>rfl) (.inl rfl) (fun _ _ _ z=>nomatch z)
       ·split at h
        ·cases h
        ·rename_i a r hrn
         split at h
         ·rename_i b es h1 h2
          cases h
          obtain ⟨a',b',q1,q2,_⟩:=bD h2
          exact bG F.hK (Dp F h1 hn hg (cY F C ih h2) (aY q1 r X.env) (eN q2 X.env cpos).1) (fun _=>rfl) (.inl rfl) (fun _ _ _ z=>nomatch z)
         ·cases h
    ·rw [if_neg hx] at h; cases h
   ·rename_i o name apos
    split at h
    ·cases h
    ·rename_i a r
     split at h
     ·rename_i hx
      simp only [Bool.and_eq_true] at hx
      obtain ⟨⟨x1,x2⟩,x3⟩:=hx
      split at h
      ·rename_i m o' es h1 h2 h3
       cases h
       obtain ⟨a',b',q1,q2,_⟩:=bD h3
       exact bG F.hK (FF F h1 (ih o o' h2).pe (cY F C ih h3) x1 (of_decide_eq_true x3) (eN h3 X.env cpos).2 x2 (aY q1 r X.env) (eN q2 X.env cpos).1) (fun _=>rfl) (.inr rfl) (fun _ _ _ z=>nomatch z)
      ·cases h
     ·cases h
   ·cases h
  | ListComp elt gens scope p =>
   simp only [trE] at h
   split at h
   ·rename_i tg iter ifs asy
    split at h
    ·rename_i hx
     rw [Bool.and_eq_true] at hx
     have ha:asy=0:=of_decide_eq_true hx.1
     subst ha
     obtain ⟨CO,CK⟩:=m_ C hx.2
     split at h
     ·rename_i it t el tt h1 h2 h3 h4
      split at h
      ·rename_i hge
       cases h
       obtain ⟨PI1,hs⟩:=lF F C ih h1
       have ihc:∀ cl fp s3 H3 e e',trE n (inComp c scope) e=some e'->ClE Γ sub cf (aF X scope cl (inComp c scope).N fp s3 H3) XF e e' :=
        fun cl fp s3 H3 e e' h=>ihn (inComp c scope) e e' h _ XF (F.comp scope cl _ fp s3 H3) (CK cl fp s3 H3)
       have htt:∀ cl fp s3 H3,PF (aF X scope cl (inComp c scope).N fp s3 H3) ifs (tMT Γ XF fun σ=>if tt.aX=true then pure true else evT sub cf tt σ):=fun cl fp s3 H3=>by
        match ifs,h4 with
        | [],h4 =>
         cases h4
         exact fun pins s σ H Q I h=>tN pins s σ H Q I (by
          obtain ⟨σd,ι,S,he,hs,ho⟩:=h
          exact ho.here hs)
        | [t0],h4 =>
         have h4:(match trE n (inComp c scope) t0 with|some .nl=>none|o=>o)=some tt:=h4
         cases q:trE n (inComp c scope) t0 with
         | none=>rw [q] at h4; cases h4
         | some f =>
          rw [q] at h4
          have hf:f=tt/\f.aX=false:=by
           cases f <;> first|(cases h4; done)|(cases h4; exact ⟨rfl,rfl⟩)
          obtain ⟨rfl,hn⟩:=hf
          rw [hn]
          simp only [Bool.false_eq_true,if_false]
          exact qK (ihc cl fp s3 H3 t0 f q).pt
        | _::_::_,h4=>cases h4
       refine bG F.hK ?_ (fun _=>rfl) (.inr rfl) (fun _ _ _ z=>nomatch z)
       exact uD CO F.calm (by rw [C.N]; exact pZ hge) PI1 (fun cl fp s3 H3=>jN (X:=aF X scope cl (inComp c scope).N fp s3 H3) F.hK F.calm (CK cl fp s3 H3) h2) htt (fun cl fp s3 H3=>(ihc cl fp s3 H3 elt el h3).pe) hs
      ·cases h
     ·cases h
    ·cases h
   ·cases h
  | _=>cases h
end
end EV

namespace EV
open PySem PySem.Spec PyProof.Rows L2
section
variable {Γ:Gx} {W:XW->Prop} {CX:CXT} {EW:XW->XK} {cf:Str->List D->M D} {sub:Sub}
theorem xB {n:Nat} {c:TC} {elt:PySem.Expr} {gens:List Comprehension} {scope:Scope} {p:Pos} {e':E} (h:trE n c (.ListComp elt gens scope p)=some e') {X:Cx} {xw:XW} (F:Fam Γ W CX EW c.gt cf X xw) (C:Cok c X) :
  ∃ tg iter ifs it t el tt,gens=[⟨tg,iter,ifs,0⟩]/\e'=.comp (own scope).length el t it tt/\eB X scope (inComp c scope).N (own scope).length/\(∀ j,j < X.N.length->t.has j=false)/\PI X tg iter (tMI Γ xw (evI sub cf it)) /\
   (∀ cl fp s3 H3,PG (aF X scope cl (inComp c scope).N fp s3 H3) tg (tMG Γ t))/\(∀ cl fp s3 H3,PF (aF X scope cl (inComp c scope).N fp s3 H3) ifs (tMT Γ XF fun σ=>if tt.aX=true then pure true else evT sub cf tt σ)) /\
   (∀ cl fp s3 H3,PE (aF X scope cl (inComp c scope).N fp s3 H3) elt (tM Γ XF (ev sub cf el)))/\∀ x,foldedSetIterable iter X.env x=pure x:=by
 cases n with
 | zero=>cases h
 | succ n =>
  have ih:∀ e e',trE n c e=some e'->ClE Γ sub cf X xw e e':=fun e e' h=>dZ n c e e' h X xw F C
  simp only [trE] at h
  split at h
  ·rename_i tg iter ifs asy
   split at h
   ·rename_i hx
    rw [Bool.and_eq_true] at hx
    have ha:asy=0:=of_decide_eq_true hx.1
    subst ha
    obtain ⟨CO,CK⟩:=m_ C hx.2
    split at h
    ·rename_i it t el tt h1 h2 h3 h4
     split at h
     ·rename_i hge
      cases h
      obtain ⟨PI1,hs⟩:=lF F C ih h1
      have ihc:∀ cl fp s3 H3 e e',trE n (inComp c scope) e=some e'->ClE Γ sub cf (aF X scope cl (inComp c scope).N fp s3 H3) XF e e' :=
       fun cl fp s3 H3 e e' h=>dZ n (inComp c scope) e e' h _ XF (F.comp scope cl _ fp s3 H3) (CK cl fp s3 H3)
      have htt:∀ cl fp s3 H3,PF (aF X scope cl (inComp c scope).N fp s3 H3) ifs (tMT Γ XF fun σ=>if tt.aX=true then pure true else evT sub cf tt σ):=fun cl fp s3 H3=>by
       match ifs,h4 with
       | [],h4 =>
        cases h4
        exact fun pins s σ H Q I h=>tN pins s σ H Q I (by
         obtain ⟨σd,ι,S,he,hs,ho⟩:=h
         exact ho.here hs)
       | [t0],h4 =>
        have h4:(match trE n (inComp c scope) t0 with|some .nl=>none|o=>o)=some tt:=h4
        cases q:trE n (inComp c scope) t0 with
        | none=>rw [q] at h4; cases h4
        | some f =>
         rw [q] at h4
         have hf:f=tt/\f.aX=false:=by
          cases f <;> first|(cases h4; done)|(cases h4; exact ⟨rfl,rfl⟩)
         obtain ⟨rfl,hn⟩:=hf
         rw [hn]
         simp only [Bool.false_eq_true,if_false]
         exact qK (ihc cl fp s3 H3 t0 f q).pt
       | _::_::_,h4=>cases h4
      exact ⟨tg,iter,ifs,it,t,el,tt,rfl,rfl,CO,by rw [C.N]; exact pZ hge,PI1,fun cl fp s3 H3=>jN (X:=aF X scope cl (inComp c scope).N fp s3 H3) F.hK F.calm (CK cl fp s3 H3) h2,htt,fun cl fp s3 H3=>(ihc cl fp s3 H3 elt el h3).pe,hs⟩
     ·cases h
    ·cases h
   ·cases h
  ·cases h
theorem i_ {e:PySem.Expr} (h:fK e=true) (t:Option PySem.Expr) (l:Nat) (env:Env):swapsWith e t l env=pure false:=by
 cases e <;> first|rfl|cases h
theorem A2 {m:Nat} {c:TC} {X:Cx} {xw:XW} (F:Fam Γ W CX EW c.gt cf X xw) (C:Cok c X) {tg e:PySem.Expr} {t:Tg} {e':E} {pos:Pos} (ha:pO tg e=true) (h1:gU c tg=some t) (h2:trE m c e=some e') :
  PS X (.Assign [tg] e pos) (tMS Γ xw (exec sub cf (.set t e'))):=by
 have hg:PG X tg (tMG Γ t):=jN F.hK F.calm C h1
 have he:=(dZ (sub:=sub) m c e e' h2 X xw F C).pe
 cases tg with
 | Name y py =>
  by_cases hc:fK e=true
  ·exact lC he hg (show swapsWithSole [.Name y py] e pos.line X.env=pure false from i_ hc (some (.Name y py)) pos.line X.env) rfl rfl
  ·cases e with
   | ListComp elt gens scope p =>
    obtain ⟨tg,iter,ifs,it,t2,el,tt,rfl,rfl,CO,hslot,PI1,PG1,PF1,PE1,hs⟩:=xB (sub:=sub) h2 F C
    have h1':(if dY c y=true then (idx c.N y).map Tg.one else none)=some t:=h1
    by_cases hl:dY c y=true
    ·rw [if_pos hl] at h1'
     obtain ⟨j,hj,rfl⟩:=dR h1'
     have sw:swapsWith (.ListComp elt [⟨tg,iter,ifs,0⟩] scope p) (some (.Name y py)) pos.line X.env=pure (X.env.blockKind==.function&&X.env.kindOf y==some .local&&py.line==p.line
      &&!(scope.names.any fun (n,k)=>n==y&&(k==.local||k==.cell))):=rfl
     cases q:(X.env.blockKind==.function&&X.env.kindOf y==some .local&&py.line==p.line&&!(scope.names.any fun (n,k)=>n==y&&(k==.local||k==.cell))) with
     | true =>
      rw [q] at sw
      simp only [Bool.and_eq_true] at q
      have hy:X.env.scope.names.lookup y=some .local:=eq_of_beq q.1.1.2
      exact DS CO F.calm hslot PI1 PG1 PF1 PE1 C.nd (by rw [C.N]; exact fB hj) hy sw hs
     | false =>
      rw [q] at sw
      exact lC he hg sw rfl rfl
    ·rw [if_neg hl] at h1'; cases h1'
   | SetComp _ _ _ _=>cases m <;> cases h2
   | DictComp _ _ _ _ _=>cases m <;> cases h2
   | _=>exact absurd rfl hc
 | Tuple es k p =>
  have ha:(!isTup e&&fK e)=true:=ha
  rw [Bool.and_eq_true] at ha
  refine lC he hg (show swapsWithSole [.Tuple es k p] e pos.line X.env=pure false from i_ ha.2 (some (.Tuple es k p)) pos.line X.env) ?_ rfl
  cases e <;> first|rfl|exact absurd ha.1 (by simp [isTup])
 | _=>cases ha
theorem uc {m:Nat} {c:TC} {X:Cx} {xw:XW} (F:Fam Γ W CX EW c.gt cf X xw) (C:Cok c X) {tg e:PySem.Expr} {s':S} {pos:Pos} (h:j7 (trE m c) e tg=some s'):PS X (.Assign [tg] e pos) (tMS Γ xw (exec sub cf s')):=by
 have ce:∀ {e e'},trE m c e=some e'->PE X e (tM Γ xw (ev sub cf e')):=fun {e e'} h=>(dZ m c e e' h X xw F C).pe
 unfold j7 at h
 split at h
 ·cases h
 ·rename_i o i p _
  split at h
  ·rename_i ha
   rw [Bool.and_eq_true] at ha
   split at h
   ·rename_i a b d h1 h2 h3
    cases h
    refine Be (ce h3) (ce h1) (ce h2) (fun _ _ _ _ z=>?_) (show swapsWithSole [.Subscript o i p] e pos.line X.env=pure false from i_ ha.1 (some (.Subscript o i p)) pos.line X.env)
    rw [z] at ha; exact absurd ha.2 (by simp [sd])
   ·cases h
  ·cases h
 ·cases h
theorem gA {f:Stmt->Option S} {X:Cx} {xw:XW} (ih:∀ s s',f s=some s'->PS X s (tMS Γ xw (exec sub cf s'))):∀ {ss:List Stmt} {s':S},cS f ss=some s'->PSs X ss (tMS Γ xw (exec sub cf s'))
 | [],_,h=>by cases h; exact Ca
 | [s],_,h=>CQ (ih _ _ h)
 | s::s2::r,s',h=>by
  have h:(match f s,cS f (s2::r) with|some a,some b=>some (.seq a b)|_,_=>none)=some s':=h
  split at h
  ·rename_i a b h1 h2
   cases h
   exact vD (ih s a h1) (gA ih h2)
  ·cases h
theorem CW {c:TC} {X:Cx} {xw:XW} {e:PySem.Expr} {s':S} {pos:Pos} (F:Fam Γ W CX EW c.gt cf X xw) (C:Cok c X) (h:lZ c e=some s'):PS X (.Raise (some e) none pos) (tMS Γ xw (exec sub cf s')):=by
 unfold lZ at h
 split at h
 case h_2=>cases h
 rename_i f args kws cpos
 split at h
 case h_2=>cases h
 rename_i x np
 split at h
 case isFalse=>cases h
 rename_i hc
 rw [Bool.and_eq_true,Bool.and_eq_true] at hc
 split at h
 case h_2=>cases h
 rename_i hl
 cases h
 match args,hc.1 with
 | [a],hd =>
  obtain ⟨v,j,q,rfl⟩:=pP (show jG a=true from hd)
  obtain ⟨⟨C1,newId,initId,B,bmB,hns,hex,FB,_⟩,hmg⟩:=F.cls x hl
  refine PS.imp (CI (E:=EW xw) FB hex (hmg C1 hns) (C.gl hc.2.2) F.calm (cy hc.2.1).1 n6 rfl F.rp) fun D σ H h=>?_
  obtain ⟨σd,ι,S,hE,hs,ho⟩:=h
  have hx:xw x S ι H:=ho ι H .refl hs
  rw [F.ew]
  exact ⟨x,C1,rfl,hns,S,ι,hx⟩
theorem o6 {c:TC} {X:Cx} {xw:XW} {n:Str} {i:Nat} {C1 L:Addr} {e:PySem.Expr} (F:Fam Γ W CX EW c.gt cf X xw) (C:Cok c X) (hi:X.N[i]?=some n) (hk:X.env.kindOf n=some .local) (hd:(n==("__debug__" : Str))=false)
  (v1:PySem.W.kitOne X.K (.ref C1) (.type "ValueError")=some true) (l1:PySem.W.nsIn X.K mainGlobals "LapError" = some (some (.ref L))) (l2:PySem.W.kitOne X.K (.ref C1) (.ref L)=some true) (h:eK c n e=true):PV X i C1 e (.bl true):=by
 unfold eK at h
 split at h
 case h_2=>cases h
 rename_i x p1 y p2 d p3 pos
 rw [Bool.and_eq_true,Bool.and_eq_true,Bool.and_eq_true,Bool.or_eq_true] at h
 obtain ⟨⟨hx,hy⟩,hb,hcd⟩:=h
 have hx:=of_decide_eq_true hx
 have hy:=of_decide_eq_true hy
 subst hx hy
 obtain ⟨b1,b2⟩:=dM C hb
 have nb:d8 X "isinstance" (.builtin "isinstance"):=⟨b1,by decide +kernel,.inr ⟨F.blt _ (by decide +kernel) b2,boot_isinstance,by decide +kernel⟩⟩
 have hv:Vis X.env.scope y:=by
  have z:X.env.scope.names.lookup y=some .local:=hk
  unfold Vis; simp [z]
 rcases hcd with h|h
 ·rw [Bool.and_eq_true,Bool.and_eq_true] at h
  obtain ⟨⟨e1,e2⟩,e3⟩:=h
  have e1:=of_decide_eq_true e1
  subst e1
  have e4:c.gt.lookup ("LapError" : Str)=some .cls:=by
   split at e3
   ·assumption
   ·cases e3
  exact rL hi hk hd hv nb ⟨C.gl e2,by decide +kernel,.inl ((F.cls _ e4).2 _ l1)⟩ l2
 ·rw [Bool.and_eq_true] at h
  obtain ⟨e1,e2⟩:=h
  have e1:=of_decide_eq_true e1
  subst e1
  obtain ⟨g1,g2⟩:=dM C e2
  exact rL hi hk hd hv nb ⟨g1,by decide +kernel,.inr ⟨F.blt _ (by decide +kernel) g2,by decide +kernel,by decide +kernel⟩⟩ v1
theorem tH {c:TC} {X:Cx} {xw:XW} {n k:Str} {i:Nat} {C1:Addr} {e:PySem.Expr} (F:Fam Γ W CX EW c.gt cf X xw) (C:Cok c X) (hi:X.N[i]?=some n) (hk:X.env.kindOf n=some .local) (hd:(n==("__debug__" : Str))=false)
  (np:k = "NoLoop"->∀ P,PySem.W.nsIn X.K mainGlobals "NoPlan" = some (some (.ref P))->dX X.K C1/\PySem.W.kitOne X.K (.ref C1) (.ref P)=some false) (h:eU c n k e=true):PV X i C1 e (.bl true):=by
 unfold eU at h
 split at h
 case h_2=>cases h
 rename_i x p1 y p2 d p3 pos p4
 rw [Bool.and_eq_true,Bool.and_eq_true,Bool.and_eq_true,Bool.and_eq_true,Bool.and_eq_true,Bool.and_eq_true] at h
 obtain ⟨⟨hx,hy⟩,hb,⟨⟨h1,h2⟩,h3⟩,h4⟩:=h
 have hx:=of_decide_eq_true hx
 have hy:=of_decide_eq_true hy
 have h1:=of_decide_eq_true h1
 have h2:=of_decide_eq_true h2
 subst hx hy h1 h2
 obtain ⟨b1,b2⟩:=dM C hb
 have nb:d8 X "isinstance" (.builtin "isinstance"):=⟨b1,by decide +kernel,.inr ⟨F.blt _ (by decide +kernel) b2,boot_isinstance,by decide +kernel⟩⟩
 have hv:Vis X.env.scope y:=by
  have z:X.env.scope.names.lookup y=some .local:=hk
  unfold Vis; simp [z]
 have e4:c.gt.lookup ("NoPlan" : Str)=some .cls:=by
  split at h4
  ·assumption
  ·cases h4
 obtain ⟨⟨P,_,_,_,_,hP,_⟩,hmg⟩:=F.cls _ e4
 obtain ⟨T,e⟩:=np rfl P hP
 exact tZ hi hk hd hv nb ⟨C.gl h3,by decide +kernel,.inl (hmg P hP)⟩ T e
theorem j6 {c:TC} {X:Cx} {n k:Str} {i:Nat} {C1:Addr} {pos:Pos} (h1:∀ e,eK c n e=true->PV X i C1 e (.bl true)) (h2:∀ e,eU c n k e=true->PV X i C1 e (.bl true)):∀ {ts:List PySem.Expr},iM c n k ts=true->PV X i C1 (.BoolOp .And ts pos) (.bl true)
 | [],h=>by cases h
 | [t],h=>by
  have h:(eK c n t||eU c n k t)=true:=h
  rw [Bool.or_eq_true] at h
  exact vZ (h.elim (h1 t) (h2 t))
 | t::t2::r,h=>by
  have h:((eK c n t||eU c n k t)&&iM c n k (t2::r))=true:=h
  rw [Bool.and_eq_true,Bool.or_eq_true] at h
  exact yS (h.1.elim (h1 t) (h2 t)) (j6 h1 h2 h.2)
noncomputable def kxV:D->V
 | .bl b=>.bl b
 | .str x=>.str x
 | _=>.non
theorem oz {c:TC} {X:Cx} {xw:XW} {n k:Str} {i:Nat} {C1:Addr} {kx:PySem.Expr} {d:D} (F:Fam Γ W CX EW c.gt cf X xw) (C:Cok c X)
  (h1:∀ e,eK c n e=true->PV X i C1 e (.bl true)) (h2:∀ e,eU c n k e=true->PV X i C1 e (.bl true)) (h:jI c n k kx=some d):PV X i C1 kx (kxV d)/\∀ ι H,Rep Γ ι H d (kxV d):=by
 unfold jI at h
 split at h
 ·split at h
  ·rename_i q; cases h
   exact ⟨j6 h1 h2 q,fun _ _=>.bl _⟩
  ·cases h
 ·split at h
  ·rename_i q; cases h
   rw [Bool.and_eq_true,Bool.and_eq_true] at q
   obtain ⟨⟨q1,q2⟩,q3⟩:=q
   have q1:=of_decide_eq_true q1
   subst q1
   obtain ⟨b1,b2⟩:=dM C q2
   exact ⟨Fj (BX (k:=true) ⟨b1,by decide +kernel,.inr ⟨F.blt _ (by decide +kernel) b2,PyProof.Rows.boot_int,by decide +kernel⟩⟩ (j6 h1 h2 q3) rfl),fun _ _=>.str _⟩
  ·cases h
 ·cases h
theorem Al {m:Nat} {c:TC} {X:Cx} {xw:XW} {body:List Stmt} {hs:List ExceptHandler} {s':S} {pos:Pos} (F:Fam Γ W CX EW c.gt cf X xw) (C:Cok c X) (h:lH c (trE m c) body hs=some s'):PS X (.Try body hs [] [] pos) (tMS Γ xw (exec sub cf s')):=by
 unfold lH at h
 split at h
 case h_3=>cases h
 ·rename_i x p a as cpos rpos k np n kx rp2 hpos
  split at h
  case isFalse=>cases h
  rename_i hc
  rw [Bool.and_eq_true,Bool.and_eq_true,Bool.and_eq_true,Bool.and_eq_true,Bool.and_eq_true,Bool.and_eq_true] at hc
  obtain ⟨⟨⟨ht,hx1,hx2⟩,hk1,hk2⟩,hn1,hn2⟩:=hc
  split at h
  case h_2=>cases h
  rename_i es d i h1 h2 h3 h4 h5
  cases h
  have hi:X.N[i]?=some n:=by rw [C.N]; exact fB h5
  have hkn:X.env.kindOf n=some .local:=by show X.env.scope.names.lookup n=_; rw [C.sc]; exact of_decide_eq_true hn2
  obtain ⟨n1,f,fd,ps,hf,hr,hm,hk,hb,hl⟩:=F.fn x h1
  obtain ⟨⟨C1,newId,initId,B,bmB,hns,hex,FB,v1,⟨L,l1,l2⟩,noP⟩,hmg⟩:=F.cls k h2
  rw [F.cx] at hf
  obtain ⟨a',b',q1,q2,_⟩:=bD h3
  obtain ⟨pv,rep⟩:=oz F C (fun e h=>o6 F C hi hkn (cy hn1).1 v1 l1 l2 h) (fun e h=>tH F C hi hkn (cy hn1).1 noP h) h4
  refine PS.imp (xG hf hr (C.gl hx2) hm hk hb (cy hx1).1 (cY (sub:=sub) F.nox C.nox (fun e e' h=>dZ m c e e' h X.nox XF F.nox C.nox) h3) (aY q1 as X.env) (eN q2 X.env cpos).1 (C.gl hk2) (hmg C1 hns) (cy hk1).1 hex FB.hasBase (C.stk ht) C.nd hi hkn pv) fun D σ H h=>?_
  obtain ⟨σd,ι,S,hE,hs,ho⟩:=h
  have ho:Out Γ xw ι H ((quiet (evs sub cf es σd)>>=fun ds=>eZ k d (cf x ds)>>=fun v=>pure (Fl.rt v)) S) (FlK Γ D):=ho
  refine ⟨σd,ι,S,hE,hs,(Out.quiet ho.bind XF).mono fun ds S1 ι1 H1 _ _ ⟨s1,e1,o1⟩ vs rs=>?_⟩
  refine ⟨EW fun c' _ _ H'=>c'=k/\D.rt (kxV d) H',fun cls H' z=>?_,?_⟩
  ·rw [F.ew] at z
   obtain ⟨c',C',rfl,hn,_,_,rfl,q⟩:=z
   rw [hns] at hn; cases hn
   exact ⟨rfl,q⟩
  ·have hlen:vs.length=ps.length:=by
    by_cases z:ds.length=ps.length
    ·rw [<- rs.length]; exact z
    ·rw [bX] at o1
     unfold eZ at o1
     rw [hl ds S1 z] at o1
     exact o1.elim
   refine ⟨hlen,_,F.wt _,rfl,ι1,S1,ds,s1,rs,?_⟩
   rw [bX] at o1
   unfold eZ at o1
   cases q:cf x ds S1 with
   | bad=>rw [q] at o1; exact o1.elim
   | ok d S2=>rw [q] at o1; exact o1
   | exc c' S2 =>
    rw [q] at o1
    dsimp only at o1
    by_cases z:c'=k
    ·rw [if_pos z] at o1
     exact fun ι' H' e' s2=>⟨z,o1 ι' H' e' s2 _ (rep _ _)⟩
    ·rw [if_neg z] at o1; exact o1.elim
 ·rename_i x p a as cpos rpos k np n kx rp2 hpos
  split at h
  case isFalse=>cases h
  rename_i hc
  rw [Bool.and_eq_true,Bool.and_eq_true,Bool.and_eq_true,Bool.and_eq_true,Bool.and_eq_true,Bool.and_eq_true] at hc
  obtain ⟨⟨⟨ht,hx1,hx2⟩,hk1,hk2⟩,hn1,hn2⟩:=hc
  split at h
  case h_2=>cases h
  rename_i es d i h1 h2 h3 h4 h5
  cases h
  have hi:X.N[i]?=some n:=by rw [C.N]; exact fB h5
  have hkn:X.env.kindOf n=some .local:=by show X.env.scope.names.lookup n=_; rw [C.sc]; exact of_decide_eq_true hn2
  obtain ⟨n1,f,fd,ps,hf,hr,hm,hk,hb,hl⟩:=F.fn x h1
  obtain ⟨⟨C1,newId,initId,B,bmB,hns,hex,FB,v1,⟨L,l1,l2⟩,noP⟩,hmg⟩:=F.cls k h2
  rw [F.cx] at hf
  obtain ⟨a',b',q1,q2,_⟩:=bD h3
  obtain ⟨pv,rep⟩:=oz F C (fun e h=>o6 F C hi hkn (cy hn1).1 v1 l1 l2 h) (fun e h=>tH F C hi hkn (cy hn1).1 noP h) h4
  refine PS.imp (Ck hf hr (C.gl hx2) hm hk hb (cy hx1).1 (cY (sub:=sub) F.nox C.nox (fun e e' h=>dZ m c e e' h X.nox XF F.nox C.nox) h3) (aY q1 as X.env) (eN q2 X.env cpos).1 (C.gl hk2) (hmg C1 hns) (cy hk1).1 hex FB.hasBase (C.stk ht) C.nd hi hkn pv) fun D σ H h=>?_
  obtain ⟨σd,ι,S,hE,hs,ho⟩:=h
  have ho:Out Γ xw ι H ((quiet (evs sub cf es σd)>>=fun ds=>gy k d σd (cf x ds)) S) (FlK Γ D):=ho
  refine ⟨σd,ι,S,hE,hs,(Out.quiet ho.bind XF).mono fun ds S1 ι1 H1 _ _ ⟨s1,e1,o1⟩ vs rs=>?_⟩
  refine ⟨EW fun c' _ _ H'=>c'=k/\D.rt (kxV d) H',fun cls H' z=>?_,?_⟩
  ·rw [F.ew] at z
   obtain ⟨c',C',rfl,hn,_,_,rfl,q⟩:=z
   rw [hns] at hn; cases hn
   exact ⟨rfl,q⟩
  ·have hlen:vs.length=ps.length:=by
    by_cases z:ds.length=ps.length
    ·rw [<- rs.length]; exact z
    ·unfold gy at o1
     rw [hl ds S1 z] at o1
     exact o1.elim
   refine ⟨hlen,_,F.wt _,rfl,ι1,S1,ds,s1,rs,?_⟩
   unfold gy at o1
   cases q:cf x ds S1 with
   | bad=>rw [q] at o1; exact o1.elim
   | ok d' S2 =>
    rw [q] at o1
    exact fun ι' H' e' s2 v r=>o1 ι' H' e' s2 σ (hE.ext (e1.trans e'))
   | exc c' S2 =>
    rw [q] at o1
    dsimp only at o1
    by_cases z:c'=k
    ·rw [if_pos z] at o1
     exact fun ι' H' e' s2=>⟨z,o1 ι' H' e' s2 _ (rep _ _)⟩
    ·rw [if_neg z] at o1; exact o1.elim
theorem zu {m:Nat} {c:TC} {X:Cx} {xw:XW} {body:List Stmt} {hs:List ExceptHandler} {s':S} {pos:Pos} (F:Fam Γ W CX EW c.gt cf X xw) (C:Cok c X) (h:k_ c (trE m c) body hs=some s'):PS X (.Try body hs [] [] pos) (tMS Γ xw (exec sub cf s')):=by
 unfold k_ at h
 split at h
 case h_2=>exact Al F C h
 rename_i x p a as cpos rpos k np j kp rp2 hpos
 split at h
 case isFalse=>cases h
 rename_i hc
 rw [Bool.and_eq_true,Bool.and_eq_true,Bool.and_eq_true,Bool.and_eq_true] at hc
 obtain ⟨⟨ht,hx1,hx2⟩,hk1,hk2⟩:=hc
 split at h
 case h_2=>cases h
 rename_i es h1 h2 h3
 cases h
 obtain ⟨n,f,fd,ps,hf,hr,hm,hk,hb,hl⟩:=F.fn x h1
 obtain ⟨⟨C1,newId,initId,B,bmB,hns,hex,FB,_⟩,hmg⟩:=F.cls k h2
 rw [F.cx] at hf
 obtain ⟨a',b',q1,q2,_⟩:=bD h3
 refine PS.imp (Bf (kv:=.non) hf hr (C.gl hx2) hm hk hb (cy hx1).1 (cY (sub:=sub) F.nox C.nox (fun e e' h=>dZ m c e e' h X.nox XF F.nox C.nox) h3) (aY q1 as X.env) (eN q2 X.env cpos).1 (C.gl hk2) (hmg C1 hns) (cy hk1).1 hex FB.hasBase (C.stk ht) fun A E s Q q=>Constant_none (q s.toks .none rfl)) fun D σ H h=>?_
 obtain ⟨σd,ι,S,hE,hs,ho⟩:=h
 have ho:Out Γ xw ι H ((quiet (evs sub cf es σd)>>=fun ds=>eZ k .non (cf x ds)>>=fun v=>pure (Fl.rt v)) S) (FlK Γ D):=ho
 refine ⟨σd,ι,S,hE,hs,(Out.quiet ho.bind XF).mono fun ds S1 ι1 H1 _ _ ⟨s1,e1,o1⟩ vs rs=>?_⟩
 refine ⟨EW fun c' _ _ H'=>c'=k/\D.rt .non H',fun cls H' z=>?_,?_⟩
 ·rw [F.ew] at z
  obtain ⟨c',C',rfl,hn,_,_,rfl,q⟩:=z
  rw [hns] at hn; cases hn
  exact ⟨rfl,q⟩
 ·have hlen:vs.length=ps.length:=by
   by_cases z:ds.length=ps.length
   ·rw [<- rs.length]; exact z
   ·rw [bX] at o1
    unfold eZ at o1
    rw [hl ds S1 z] at o1
    exact o1.elim
  refine ⟨hlen,_,F.wt _,rfl,ι1,S1,ds,s1,rs,?_⟩
  rw [bX] at o1
  unfold eZ at o1
  cases q:cf x ds S1 with
  | bad=>rw [q] at o1; exact o1.elim
  | ok d S2=>rw [q] at o1; exact o1
  | exc c' S2 =>
   rw [q] at o1
   dsimp only at o1
   by_cases z:c'=k
   ·rw [if_pos z] at o1
    exact fun ι' H' e' s2=>⟨z,o1 ι' H' e' s2 .non .non⟩
   ·rw [if_neg z] at o1; exact o1.elim
theorem DL (m:Nat):∀ (n:Nat) (c:TC) (s:Stmt) (s':S),trS m n c s=some s'->∀ (X:Cx) (xw:XW),Fam Γ W CX EW c.gt cf X xw->Cok c X->PS X s (tMS Γ xw (exec sub cf s')):=by
 intro n
 induction n with
 | zero=>intro c s s' h; cases h
 | succ n ihn =>
  intro c s s' h X xw F C
  have ih:∀ s s',trS m n c s=some s'->PS X s (tMS Γ xw (exec sub cf s')):=fun s s' h=>ihn c s s' h X xw F C
  have ihx:∀ s s',trS m n c s=some s'->PS X.nox s (tMS Γ XF (exec sub cf s')):=fun s s' h=>ihn c s s' h X.nox XF F.nox C.nox
  have ce:∀ {e e'},trE m c e=some e'->ClE Γ sub cf X xw e e':=fun {e e'} h=>dZ m c e e' h X xw F C
  have cx:∀ {e e'},trE m c e=some e'->ClE Γ sub cf X.nox XF e e':=fun {e e'} h=>dZ m c e e' h X.nox XF F.nox C.nox
  cases s with
  | Return v p =>
   cases v with
   | none=>cases h; exact wg
   | some e =>
    obtain ⟨e',h1,rfl⟩:=dR (f:=S.ret) h
    exact xx (ce h1).pe
  | Expr e p =>
   simp only [trS] at h
   split at h
   ·rename_i hd
    obtain ⟨x,j,q,rfl⟩:=pP hd
    cases h; exact vv
   ·split at h
    ·rename_i hn
     obtain ⟨e',h1,rfl⟩:=dR (f:=S.ex) h
     exact we (ce h1).pe (i_ hn _ _ _)
    ·cases h
  | Pass p=>cases h; exact DY
  | Assign ts e p =>
   simp only [trS] at h
   split at h
   ·rename_i tg
    split at h
    ·rename_i ha
     split at h
     ·rename_i t e' h1 h2
      cases h
      exact A2 F C ha h1 h2
     ·cases h
    ·exact uc F C h
   ·cases h
  | If t a b p =>
   simp only [trS] at h
   split at h
   ·rename_i t' a' b' h1 h2 h3
    cases h
    exact vR (ce h1).pt (gA ih h2) (gA ih h3)
   ·cases h
  | For tg it body els p =>
   simp only [trS] at h
   split at h
   ·rename_i t i b h1 h2 h3
    cases h
    obtain ⟨PI1,hs⟩:=lF (X:=X.nox) (xw:=XF) F.nox C.nox (fun e e' h=>cx h) h2
    exact vC F.calm PI1 (jN (X:=X.nox) F.hK F.calm C.nox h1) (gA ihx h3) hs
   ·cases h
  | Raise e cause p =>
   cases e with
   | none=>cases cause <;> cases h
   | some e =>
    cases cause with
    | none=>exact CW F C h
    | some _=>cases h
  | Try body hs els fin p =>
   cases els with
   | cons _ _=>cases h
   | nil =>
    cases fin with
    | cons _ _=>cases h
    | nil=>exact zu F C h
  | _=>cases h
end
end EV

namespace EV
open PySem PySem.Spec PyProof.Rows L2
theorem lR:∀ {ns:List Str} {us:List Value} {i:Nat} {x:Str} {u:Value},ns.Nodup->ns[i]?=some x->us[i]?=some u->(ns.zip us).lookup x=some u
 | [],_,_,_,_,_,h,_=>by simp at h
 | _::_,[],_,_,_,_,_,h=>by simp at h
 | y::ns,v::us,0,x,u,_,h1,h2=>by
  simp at h1 h2; subst h1; subst h2
  simp [List.lookup]
 | y::ns,v::us,i+1,x,u,nd,h1,h2=>by
  have h1':ns[i]?=some x:=by simpa using h1
  have hne:¬ x=y:=fun e=>by
   subst e; exact (List.nodup_cons.mp nd).1 (List.mem_of_getElem? h1')
  have hb:(x==y)=false:=by simpa using hne
  show List.lookup x ((y,v)::ns.zip us)=some u
  rw [List.lookup_cons,hb]
  exact lR (List.nodup_cons.mp nd).2 h1' (by simpa using h2)
theorem xA {ns:List Str} {us:List Value} (nd:ns.Nodup) (hl:us.length=ns.length):ns.filterMap (fun n=>((ns.zip us).lookup n).map (n,·))=ns.zip us:=by
 have all:∀ (ms:List Str) (vs:List Value),vs.length=ms.length->(∀ (i:Nat) x u,ms[i]?=some x->vs[i]?=some u->(ns.zip us).lookup x=some u)->ms.filterMap (fun n=>((ns.zip us).lookup n).map (n,·))=ms.zip vs:=by
  intro ms
  induction ms with
  | nil=>intro vs _ _; rfl
  | cons m ms ih =>
   intro vs hl h
   cases vs with
   | nil=>simp at hl
   | cons v vs =>
    rw [List.filterMap_cons,h 0 m v rfl rfl]
    show (m,v)::_=(m,v)::ms.zip vs
    rw [ih vs (by simpa using hl) fun i x u h1 h2=>h (i+1) x u (by simpa using h1) (by simpa using h2)]
 exact all ns us hl fun i x u h1 h2=>lR nd h1 h2
theorem qZ {x qual:Str} {a:Arguments} {body:List Stmt} {sc:Scope} {kV doc pm cdv ct:Value} {an:Option Addr} (hp:iP a=true) (nd:(argNames a).Nodup) {us:List Value} (hl:us.length=(argNames a).length) :
  bindArgs (PySem.W.fnOf x qual a body sc .none kV doc pm an cdv ct) ⟨us,[]⟩=pure ((argNames a).zip us):=by
 obtain ⟨po,as,va,ko,kd,kw,df⟩:=a
 unfold iP at hp
 simp only [Bool.and_eq_true,List.isEmpty_iff,Option.isNone_iff_eq_none] at hp
 obtain ⟨⟨⟨⟨⟨rfl,rfl⟩,rfl⟩,rfl⟩,rfl⟩,rfl⟩:=hp
 have nd:(as.map (·.arg)).Nodup:=nd
 have hl:us.length=(as.map (·.arg)).length:=hl
 show bindArgs _ _=pure ((as.map (·.arg)).zip us)
 unfold bindArgs
 simp only [PySem.W.fnOf,List.map_nil,List.nil_append,List.append_nil]
 generalize as.map (·.arg)=ns at nd hl
 have hnot:¬ us.length > ns.length:=by rw [hl]; exact Nat.lt_irrefl _
 have hmiss:(List.take ns.length ns).filter (fun n=>((ns.zip us).lookup n).isNone)=[]:=by
  rw [List.filter_eq_nil_iff]
  intro n hn
  obtain ⟨i,hi⟩:=List.getElem?_of_mem (List.mem_of_mem_take hn)
  have hi':i < us.length:=by rw [hl]; exact (List.getElem?_eq_some_iff.mp hi).1
  rw [lR nd hi (List.getElem?_eq_getElem hi')]
  simp
 have hb:=xA nd hl
 have hd:seqItems? .none=pure none:=rfl
 rw [hd]
 have hz:(#[]:Array Value).toList=[]:=rfl
 have hdec:decide (us.length > ns.length)=false:=decide_eq_false hnot
 simp only [List.forIn_nil,pure_bind,Option.getD_none,hz,List.length_nil,Nat.zero_sub,List.drop_nil,Nat.sub_zero,hmiss,hdec,Bool.false_and,Bool.false_eq_true,if_false,List.isEmpty_nil,Bool.not_true,List.zip_nil_right,hb]
noncomputable def mV (xw:XW):XW:=fun c _ _ H=>∃ S ι,xw c S ι H
structure Txt (K:PySem.W.Frag) (mg:Str->Option Value) (gt:List (Str × GE)) (defs:List (Str × Stmt)):Prop where
 fn:∀ x,gt.lookup x=some .fn->∃ st f fd,defs.lookup x=some st/\mg x=some (.ref f)/\Fun K x x st f fd
 blt:∀ x∈dJ,gt.lookup x=none->mg x=none
 val:∀ x d,gt.lookup x=some (.val d)->∃ u v,mg x=some u/\RelV v u/\∀ ι H,Rep ⟨K⟩ ι H d v
 cls:∀ x,gt.lookup x=some .cls->ClsAt K x/\∀ C,PySem.W.nsIn K mainGlobals x=some (some (.ref C))->mg x=some (.ref C)
theorem uR {Γ:Gx} {ι:List Addr} {H:Hp} {ds:List D} {vs:List V} (rs:ao Γ ι H ds vs) (N:List Str) {k:Nat} (hk:k=N.length):aO Γ ι H (L2.start N vs) (ds.map some++List.replicate (k - ds.length) none):=by
 have hl:=rs.length
 refine ⟨by unfold L2.start; simp [hl,hk],fun i d h=>?_⟩
 by_cases hi:i < ds.length
 ·rw [List.getElem?_append_left (by simpa using hi),List.getElem?_map] at h
  have h:ds[i]?=some d:=by
   rw [List.getElem?_eq_getElem hi] at h ⊢
   simpa using h
  obtain ⟨v,hv,r⟩:=Paired.get rs h
  refine ⟨v,?_,r⟩
  unfold L2.start
  rw [List.getElem?_append_left (by rw [List.length_map,<- hl]; exact hi),List.getElem?_map,hv]
  rfl
 ·rw [List.getElem?_append_right (by simpa using hi),List.getElem?_replicate] at h
  split at h <;> cases h
theorem l5 {a:Arguments} {sc:Scope} (h:cW a sc=true):lU (namesOf a sc) (argNames a) sc/\iP a=true:=by
 unfold cW at h
 simp only [Bool.and_eq_true] at h
 obtain ⟨⟨⟨⟨⟨⟨h1,h2⟩,h3⟩,h4⟩,h5⟩,h6⟩,h7⟩:=h
 rw [List.all_eq_true] at h6 h7
 refine ⟨⟨of_decide_eq_true h2,by simpa using h3,by simpa using h4,jg h5,?_,fun x hx=>?_,fun y hy hf=>?_⟩,h1⟩
 ·unfold namesOf; rw [List.take_append_of_le_length (Nat.le_refl _),List.take_length]
 ·have:=h6 x hx
  cases q:sc.names.lookup x with
  | none=>rw [q] at this; cases this
  | some k=>rw [q] at this; cases k <;> first|exact .inl rfl|exact .inr rfl|cases this
 ·have:=h7 y hy
  rw [hf] at this; simp at this
theorem pX {CX:CXT} {P:Program} {w:World} {K:PySem.W.Frag} {mg:Str->Option Value} {base:Heap} {N:List Str} {qual:Str} {scope:Scope} {f:Addr} {cd:Value} {A:Around} {outer:List Env} {s:Shared} {H:Hp} {E:XK} {pins:List (Addr × Obj)} {σ:L2.St} {H1:Hp} {s1:Shared} (I:Inv (cH CX P w K mg base N qual scope f cd A outer s H E) pins σ H1 s1):A.frames=some outer:=by
 have z:A.frames.map (envOfC qual scope s.heap.objs.size f cd :: ·)=some (envOfC qual scope s.heap.objs.size f cd::outer):=I.ok.frames
 cases q:A.frames with
 | none=>rw [q] at z; cases z
 | some l=>rw [q] at z; cases z; rfl
section
variable {P:Program} {w:World} {K:PySem.W.Frag} {mg:Str->Option Value} {base:Heap} {W:XW->Prop} {sub:Sub} {gt:List (Str × GE)} {defs:List (Str × Stmt)} {Pd:Prg}
theorem uM (T:Txt K mg gt defs) (hW:∀ xw,W xw) (hP:∀ x st,defs.lookup x=some st->∃ F,trF gt st=some F/\Pd.lookup x=some F) :
  ∀ (n:Nat) (x:Str) (st:Stmt) (f:Addr) (fd:FuncData),defs.lookup x=some st->Fun K x x st f fd->cD P w K mg base (CXe P w) n f fd (argNames (cZ st)) (spF ⟨K⟩ W (EWx K) (ai sub Pd n x) (argNames (cZ st)).length):=by
 intro n
 induction n with
 | zero =>
  intro x st f fd _ _
  refine ⟨fun vs H Q E h=>h.1,fun A outer s H args us vs Q E _ _ _ _ h=>?_⟩
  obtain ⟨_,_,_,_,_,_,_,_,_,ho⟩:=h
  exact ho.elim
 | succ n ih =>
  intro x st f fd hst Fu
  obtain ⟨F,hF,hPi⟩:=hP x st hst
  cases st with
  | FunctionDef x0 a body d1 d2 d3 sc d4 d5 d6 =>
   have hF:(if cW a sc=true then (cS (trS depth depth (e8 gt a sc)) body).map fun b=>(⟨(argNames a).length,(namesOf a sc).length,b⟩:Fn) else none)=some F:=hF
   by_cases hs:cW a sc=true
   ·rw [if_pos hs] at hF
    obtain ⟨b,hb,rfl⟩:=dR hF
    obtain ⟨SC,hpl⟩:=l5 hs
    obtain ⟨oc,od,kV,doc,pm,an,cdv,ct,osl,rfl,lk,hcd⟩:=Fu.ex
    refine yh (N:=namesOf a sc) lk hcd SC (fun vs H Q E h=>h.1) fun A outer s H vs Q E hr hsp=>?_
    obtain ⟨hl,xw,hw,rfl,ι,S,ds,hS,rs,ho⟩:=hsp
    have hew:∀ C H,EWx K (mV xw) (.ref C) none H->EWx K xw (.ref C) none H:=fun C H z=>by
     obtain ⟨c,C',z1,z2,_,_,S',ι',z3⟩:=z
     exact ⟨c,C',z1,z2,S',ι',z3⟩
    have FM:Fam ⟨K⟩ W (CXe P w) (EWx K) gt (ai sub Pd n) (cH (CXe P w) P w K mg base (namesOf a sc) x sc f cdv A outer s H (EWx K xw)) (mV xw):=by
     refine ⟨rfl,rfl,hr.units,T.blt,T.val,fun y hy=>?_,fun pins σ H1 s1 v s2 I hx=>tP (fun _ _ _ _ z=>.inr z) hew (pX I) I hx,fun pins σ H1 s1 v s2 I hx=>tP (fun _ _ _ _ z=>.inl z) hew (pX I) I hx,T.cls,rfl,rfl,hW⟩
     obtain ⟨st2,f2,fd2,h1,h2,h3⟩:=T.fn y hy
     obtain ⟨F2,hF2,hPj⟩:=hP y st2 h1
     have hb2:Binds K fd2 (argNames (cZ st2)) []:=by
      cases st2 with
      | FunctionDef x1 a1 body1 e1 e2 e3 sc1 e4 e5 e6 =>
       have hF2:(if cW a1 sc1=true then (cS (trS depth depth (e8 gt a1 sc1)) body1).map fun b=>(⟨(argNames a1).length,(namesOf a1 sc1).length,b⟩:Fn) else none)=some F2:=hF2
       by_cases hs1:cW a1 sc1=true
       ·obtain ⟨SC1,hpl1⟩:=l5 hs1
        refine h3.binds fun _ _ _ _ _ _ us hl=>?_
        have nd1:(argNames a1).Nodup:=by rw [<- SC1.pre]; exact SC1.nd.sublist (List.take_sublist _ _)
        exact qZ hpl1 nd1 hl
       ·rw [if_neg hs1] at hF2; cases hF2
      | _=>cases hF2
     refine ⟨n,f2,fd2,argNames (cZ st2),ih y st2 f2 fd2 h1 h3,hr,h2,h3.kp,hb2,fun ds S hne=>?_⟩
     cases n with
     | zero=>rfl
     | succ n =>
      have hpar:F2.par=(argNames (cZ st2)).length:=by
       cases st2 with
       | FunctionDef x1 a1 body1 e1 e2 e3 sc1 e4 e5 e6 =>
        have hF2:(if cW a1 sc1=true then (cS (trS depth depth (e8 gt a1 sc1)) body1).map fun b=>(⟨(argNames a1).length,(namesOf a1 sc1).length,b⟩:Fn) else none)=some F2:=hF2
        by_cases hs1:cW a1 sc1=true
        ·rw [if_pos hs1] at hF2
         obtain ⟨b1,_,rfl⟩:=dR hF2
         rfl
        ·rw [if_neg hs1] at hF2; cases hF2
       | _=>cases hF2
      exact Cv hPj (by rw [hpar]; exact hne)
    have CK:Cok (e8 gt a sc) (cH (CXe P w) P w K mg base (namesOf a sc) x sc f cdv A outer s H (EWx K xw)):=⟨rfl,rfl,SC.nd,SC.kind,fun _ _=>rfl,fun _=>⟨rfl,rfl⟩⟩
    refine ⟨tMS ⟨K⟩ (mV xw) (exec sub (ai sub Pd n) b),gA (fun s s' h=>DL depth depth (e8 gt a sc) s s' h _ _ FM CK) hb,?_⟩
    have hdl:ds.length=(argNames a).length:=rs.length.trans hl
    refine ⟨ds.map some++List.replicate ((namesOf a sc).length - ds.length) none,ι,S,uR rs _ rfl,hS,?_⟩
    have ho:Out ⟨K⟩ xw ι H (ai sub Pd (n+1) x ds S) _:=ho
    rw [b8 hPi hdl] at ho
    unfold frame at ho
    cases q:exec sub (ai sub Pd n) b (ds.map some++List.replicate ((namesOf a sc).length - ds.length) none) S with
    | bad=>rw [q] at ho; exact ho.elim
    | exc k S' =>
     rw [q] at ho
     intro ι' H' e' s'
     have ho:Out ⟨K⟩ xw ι H (if S'.take S.length=S then .exc k S else .exc k S') _:=ho
     by_cases ht:S'.take S.length=S
     ·rw [if_pos ht] at ho
      exact ⟨S,ι,ho ι H' e'.back (ak.back e' hS s' ht)⟩
     ·rw [if_neg ht] at ho
      exact ⟨S',ι',ho ι' H' e' s'⟩
    | ok fl S' =>
     rw [q] at ho
     intro ι' H' e' s'
     cases fl with
     | nx σ'=>exact fun σv hv=>nP hS e' s' .non ho
     | rt d=>exact fun v r=>nP hS e' s' r ho
     | bk σ'=>exact ho.elim
     | ct σ'=>exact ho.elim
   ·rw [if_neg hs] at hF; cases hF
  | _=>cases hF
end
end EV

namespace EV
open PySem PySem.Spec PyProof.Rows L2
inductive dj (K:PySem.W.Frag):List (Str × Stmt)->Prop
 | nil:dj K []
 | cons {x:Str} {st:Stmt} {r:List (Str × Stmt)} {f:Addr} {oc:Value} {od an:Option Addr} {osl:Array (Option Value)} {kV doc pm cdv ct:Value} :
   PySem.W.nsIn K mainGlobals x=some (some (.ref f)) ->
   K.lookup f=some ⟨oc,od,.func (PySem.W.fnOf x x (cZ st) (iK st) (gB st) .none kV doc pm an cdv ct),osl⟩ ->
   PySem.W.codeIn K cdv x=true->PySem.W.keepIn K (.ref f)=true->dj K r->dj K ((x,st)::r)
inductive eO:D->Value->Prop
 | non:eO .non .none
 | bl (b:Bool):eO (.bl b) (.bool b)
 | int (i:Int) (t:Tok):eO (.int i) (.int i t)
 | str (x:Str) (t:Tok):eO (.str x) (.str x t)
inductive eS:List D->List Value->Prop
 | nil:eS [] []
 | cons {d:D} {u:Value} {ds:List D} {us:List Value}:eO d u->eS ds us->eS (d::ds) (u::us)
inductive cu (K:PySem.W.Frag):List (Str × D)->Prop
 | nil:cu K []
 | flat {x:Str} {d:D} {u:Value} {r:List (Str × D)}:PySem.W.nsIn K mainGlobals x=some (some u)->eO d u->cu K r->cu K ((x,d)::r)
 | tup {x:Str} {ds:List D} {a:Addr} {od:Option Addr} {us:List Value} {n:Nat} {sl:Array (Option Value)} {r:List (Str × D)}:PySem.W.nsIn K mainGlobals x=some (some (.ref a)) ->
   K.lookup a=some ⟨.type "tuple",od,.seq us.toArray n,sl⟩->us.length<=1000->eS ds us->cu K r->cu K ((x,.tup ds)::r)
inductive dH (K:PySem.W.Frag):List Str->Prop
 | nil:dH K []
 | cons {x:Str} {r:List Str}:PySem.W.nsIn K mainGlobals x=some none->dH K r->dH K (x::r)
noncomputable def iY:D->V
 | .bl b=>.bl b
 | .int i=>.int i
 | .str x=>.str x
 | _=>.non
theorem eO.rel {d:D} {u:Value} (h:eO d u):RelV (iY d) u/\∀ Γ ι H,Rep Γ ι H d (iY d):=by
 cases h with
 | non=>exact ⟨rfl,fun _ _ _=>.non⟩
 | bl b=>exact ⟨rfl,fun _ _ _=>.bl b⟩
 | int i t=>exact ⟨⟨t,rfl⟩,fun _ _ _=>.int i⟩
 | str x t=>exact ⟨⟨t,rfl⟩,fun _ _ _=>.str x⟩
theorem eS.rel:∀ {ds:List D} {us:List Value},eS ds us->Vals (ds.map iY) us/\∀ Γ ι H,ao Γ ι H ds (ds.map iY)
 | _,_,.nil=>⟨.nil,fun _ _ _=>.nil⟩
 | _,_,.cons h r=>⟨.cons h.rel.1 (eS.rel r).1,fun Γ ι H=>.cons (h.rel.2 Γ ι H) ((eS.rel r).2 Γ ι H)⟩
theorem dj.get {K:PySem.W.Frag}:∀ {fns:List (Str × Stmt)} {x:Str} {st:Stmt},dj K fns->(x,st)∈fns->∃ f fd,PySem.W.nsIn K mainGlobals x=some (some (.ref f))/\Fun K x x st f fd
 | _,_,_,.nil,h=>by simp at h
 | _,_,_,.cons a l c k r,h=>by
  rcases List.mem_cons.mp h with e|h
  ·cases e; exact ⟨_,_,a,AS l c k⟩
  ·exact dj.get r h
theorem cu.get {K:PySem.W.Frag}:∀ {vals:List (Str × D)} {x:Str} {d:D},cu K vals->(x,d)∈vals->∃ u v,PySem.W.nsIn K mainGlobals x=some (some u)/\RelV v u/\∀ ι H,Rep ⟨K⟩ ι H d v
 | _,_,_,.nil,h=>by simp at h
 | _,x,d,.flat a f r,h=>by
  rcases List.mem_cons.mp h with e|h
  ·cases e; exact ⟨_,_,a,f.rel.1,fun ι H=>f.rel.2 _ ι H⟩
  ·exact cu.get r h
 | _,x,d,.tup a l z f r,h=>by
  rcases List.mem_cons.mp h with e|h
  ·cases e
   refine ⟨_,.ref _,a,rfl,fun ι H=>?_⟩
   have hz:∀ {us:List Value},us.length<=1000->us.toArray.size<=sizeLine:=fun {us} h=>by rw [List.size_toArray,sizeLine_eq]; omega
   exact .f_ (.inr ⟨_,_,_,l,rfl,rfl,hz z,by simpa using f.rel.1⟩) (f.rel.2 _ ι H)
  ·exact cu.get r h
theorem dH.get {K:PySem.W.Frag}:∀ {l:List Str} {x:Str},dH K l->x∈l->PySem.W.nsIn K mainGlobals x=some none
 | _,_,.nil,h=>by simp at h
 | _,_,.cons a r,h=>by
  rcases List.mem_cons.mp h with rfl|h
  ·exact a
  ·exact dH.get r h
inductive bP (K:PySem.W.Frag):List Str->Prop
 | nil:bP K []
 | cons {x:Str} {r:List Str} {C L:Addr} (a:PySem.W.nsIn K mainGlobals x=some (some (.ref C))) (b:PySem.W.excIn K C [.type "ValueError",.type "Exception",.type "BaseException",.type "object"] "ValueError.__new__" = true)
   (v:PySem.W.kitOne K (.ref C) (.type "ValueError")=some true) (l1:PySem.W.nsIn K mainGlobals "LapError" = some (some (.ref L))) (l2:PySem.W.kitOne K (.ref C) (.ref L)=some true) (n:x≠"NoLoop") (c:bP K r):bP K (x::r)
 | consN {r:List Str} {C L:Addr} (a:PySem.W.nsIn K mainGlobals "NoLoop" = some (some (.ref C))) (b:PySem.W.excIn K C [.type "ValueError",.type "Exception",.type "BaseException",.type "object"] "ValueError.__new__" = true)
   (v:PySem.W.kitOne K (.ref C) (.type "ValueError")=some true) (l1:PySem.W.nsIn K mainGlobals "LapError" = some (some (.ref L))) (l2:PySem.W.kitOne K (.ref C) (.ref L)=some true) (n:PySem.W.nsIn K mainGlobals "NoPlan" = some none) (c:bP K r):bP K ("NoLoop" :: r)
 | consP {r:List Str} {C L P:Addr} (a:PySem.W.nsIn K mainGlobals "NoLoop" = some (some (.ref C))) (b:PySem.W.excIn K C [.type "ValueError",.type "Exception",.type "BaseException",.type "object"] "ValueError.__new__" = true)
   (v:PySem.W.kitOne K (.ref C) (.type "ValueError")=some true) (l1:PySem.W.nsIn K mainGlobals "LapError" = some (some (.ref L))) (l2:PySem.W.kitOne K (.ref C) (.ref L)=some true)
   (n:PySem.W.nsIn K mainGlobals "NoPlan" = some (some (.ref P))) (p:PySem.W.kitOne K (.ref C) (.ref P)=some false)
   (e1:PySem.W.findIn K (.ref C) "__getattribute__" = some (some (.builtin "BaseException.__getattribute__")))
   (e2:PySem.W.findIn K (.ref C) "__getattr__" = some none)
   (e3:PySem.W.findIn K (.ref C) "__class__" = some (some (.builtin "object.__class__")))
   (e4:PySem.W.specialIn K (.builtin "object.__class__") "__get__" = some (some (.builtin "getset_descriptor.__get__")))
   (e5:PySem.W.takesIn K (.builtin "object.__class__")=some true)
   (e6:PySem.W.mroIn K C (.type "object")=some true)
   (e7:PySem.W.mroIn K C (.type "BaseException")=some true) (c:bP K r):bP K ("NoLoop" :: r)
theorem bP.get {K:PySem.W.Frag}:∀ {l:List Str} {x:Str},bP K l->x∈l->ClsAt K x
 | _,_,.nil,h=>by cases h
 | _,_,.cons a b v l1 l2 n r,h=>by
  rcases List.mem_cons.mp h with rfl|h
  ·exact ⟨_,_,_,_,_,a,b,PySem.F.excBase_ValueError,v,⟨_,l1,l2⟩,fun z=>absurd z n⟩
  ·exact bP.get r h
 | _,_,.consN a b v l1 l2 n r,h=>by
  rcases List.mem_cons.mp h with rfl|h
  ·exact ⟨_,_,_,_,_,a,b,PySem.F.excBase_ValueError,v,⟨_,l1,l2⟩,fun _ P z=>by rw [n] at z; cases z⟩
  ·exact bP.get r h
 | _,_,.consP a b v l1 l2 n p e1 e2 e3 e4 e5 e6 e7 r,h=>by
  rcases List.mem_cons.mp h with rfl|h
  ·exact ⟨_,_,_,_,_,a,b,PySem.F.excBase_ValueError,v,⟨_,l1,l2⟩,fun _ P z=>by rw [n] at z; cases z; exact ⟨⟨e1,e2,e3,e4,e5,e6,e7,by obtain ⟨cd,q,_⟩:=Option.bind_eq_some_iff.mp e6; rw [q]; rfl⟩,p⟩⟩
  ·exact bP.get r h
noncomputable def dN (fns:List (Str × Stmt)) (vals:List (Str × D)) (cls:List Str):List (Str × GE):=(fns.map fun p=>(p.1,.fn))++(vals.map fun p=>(p.1,.val p.2))++cls.map fun x=>(x,.cls)
theorem mX {α β γ:Type} {f:Str × α->Str × β} (hf:∀ p,(f p).1=p.1) {g:Str × α->γ}:∀ {l:List (Str × α)} {x:Str} {b:β},(l.map f).lookup x=some b->∃ p∈l,p.1=x/\(f p).2=b/\l.lookup x=some p.2
 | [],_,_,h=>by simp at h
 | p::r,x,b,h=>by
  have e:f p=(p.1,(f p).2):=by rw [<- hf p]
  rw [List.map_cons,e,List.lookup_cons] at h
  obtain ⟨y,a⟩:=p
  cases q:x==y with
  | true =>
   simp only [q] at h
   have e:x=y:=by simpa using q
   subst e
   exact ⟨(x,a),List.mem_cons_self,rfl,by simpa using h,by rw [List.lookup_cons,q]⟩
  | false =>
   simp only [q] at h
   obtain ⟨p,h1,h2,h3,h4⟩:=mX hf (g:=g) h
   exact ⟨p,List.mem_cons_of_mem _ h1,h2,h3,by rw [List.lookup_cons,q]; exact h4⟩
theorem l6 {β:Type}:∀ {l m:List (Str × β)} {x:Str},(l++m).lookup x=(match l.lookup x with|some b=>some b|none=>m.lookup x)
 | [],m,x=>by simp
 | (y,a)::r,m,x=>by
  rw [List.cons_append,List.lookup_cons,List.lookup_cons]
  cases x==y with
  | true=>rfl
  | false=>exact l6
theorem gE {α:Type}:∀ {l:List (Str × α)} {x:Str} {a:α},l.lookup x=some a->(x,a)∈l
 | [],_,_,h=>by simp at h
 | (y,b)::r,x,a,h=>by
  rw [List.lookup_cons] at h
  cases q:x==y with
  | true =>
   rw [q] at h
   have e:x=y:=by simpa using q
   subst e
   have e:b=a:=by simpa using h
   subst e
   exact List.mem_cons_self
  | false=>rw [q] at h; exact List.mem_cons_of_mem _ (gE h)
theorem nS {K:PySem.W.Frag} {h:Heap} {mg:Str->Option Value} {fns:List (Str × Stmt)} {vals:List (Str × D)} {cls:List Str} (X:K.In h) (G:h.Ns mainGlobals mg) (hd:dj K fns) (hv:cu K vals) (hc:∀ x∈cls,ClsAt K x)
  (hb:∀ x∈dJ,(dN fns vals cls).lookup x=none->PySem.W.nsIn K mainGlobals x=some none):Txt K mg (dN fns vals cls) fns where
 fn:=fun x hx=>by
  unfold dN at hx
  rw [l6,l6] at hx
  cases q:(fns.map fun p=>(p.1,GE.fn)).lookup x with
  | some b =>
   obtain ⟨p,h1,h2,_,h4⟩:=mX (g:=fun _=>()) (f:=fun p=>(p.1,GE.fn)) (fun _=>rfl) q
   obtain ⟨y,st⟩:=p
   have h2:y=x:=h2
   subst h2
   obtain ⟨f,fd,a,F⟩:=hd.get h1
   exact ⟨st,f,fd,h4,PySem.W.mg_of X G a,F⟩
  | none =>
   rw [q] at hx
   cases q2:(vals.map fun p=>(p.1,GE.val p.2)).lookup x with
   | some b =>
    rw [q2] at hx
    obtain ⟨p,h1,h2,h3,_⟩:=mX (g:=fun _=>()) (f:=fun p=>(p.1,GE.val p.2)) (fun _=>rfl) q2
    have hx:b=.fn:=by simpa using hx
    rw [hx] at h3; cases h3
   | none =>
    rw [q2] at hx
    have hm:=gE hx
    obtain ⟨p,_,e⟩:=List.mem_map.mp hm; cases e
 blt:=fun x hx hn=>PySem.W.mg_none_of X G (hb x hx hn)
 val:=fun x d hx=>by
  have hm:=gE hx
  unfold dN at hm
  rcases List.mem_append.mp hm with hm|hm
  ·rcases List.mem_append.mp hm with hm|hm
   ·obtain ⟨p,hp,e⟩:=List.mem_map.mp hm; cases e
   ·obtain ⟨p,hp,e⟩:=List.mem_map.mp hm
    cases e
    obtain ⟨u,v,a,r,q⟩:=hv.get hp
    exact ⟨u,v,PySem.W.mg_of X G a,r,q⟩
  ·obtain ⟨p,_,e⟩:=List.mem_map.mp hm; cases e
 cls:=fun x hx=>by
  have hm:=gE hx
  unfold dN at hm
  have hx:x∈cls:=by
   rcases List.mem_append.mp hm with hm|hm
   ·rcases List.mem_append.mp hm with hm|hm
    ·obtain ⟨p,_,e⟩:=List.mem_map.mp hm; cases e
    ·obtain ⟨p,_,e⟩:=List.mem_map.mp hm; cases e
   ·obtain ⟨p,hp,e⟩:=List.mem_map.mp hm; cases e; exact hp
  exact ⟨hc x hx,fun C a=>PySem.W.mg_of X G a⟩
theorem B_ {K:PySem.W.Frag} {H:Hp} {a:Addr} {ns:List Int} (hO:ie H) (hS:SqL K H a (ns.map V.int)):ak ⟨K⟩ [] H []/\ao ⟨K⟩ [] H [.fro (ns.map .int)] [.ref a]:=by
 refine ⟨⟨rfl,List.nodup_nil,fun l c h=>by simp at h⟩,.cons ?_ .nil⟩
 have hp:ao ⟨K⟩ [] H (ns.map D.int) (ns.map V.int):=iJ ns
 have hf:Fro K H a (ns.map V.int):=by
  rcases hS with (h|⟨o,h⟩)|h
  ·rcases hO a with z|⟨o,xs,z⟩
   ·rw [h] at z; cases z
   ·rw [h] at z; cases z
  ·exact .inl ⟨o,h⟩
  ·exact .inr fun H=>.inr h
 exact .fro hf (by simp) fun i d v e1 e2=>by
  obtain ⟨y,e,f⟩:=Paired.get hp e1
  rw [e2] at e; cases e; exact f
theorem Dv {fns:List (Str × Stmt)} {gt:List (Str × GE)} {Pd:Prg} (hP:fns.map (fun p=>(p.1,trF gt p.2))=Pd.map fun p=>(p.1,some p.2)):∀ x st,fns.lookup x=some st->∃ F,trF gt st=some F/\Pd.lookup x=some F:=by
 have all:∀ (fns:List (Str × Stmt)) (Pd:Prg),(fns.map (fun p=>(p.1,trF gt p.2))=Pd.map fun p=>(p.1,some p.2))->∀ x st,fns.lookup x=some st->∃ F,trF gt st=some F/\Pd.lookup x=some F:=by
  intro fns
  induction fns with
  | nil=>intro Pd _ x st h; simp at h
  | cons p r ih =>
   intro Pd hP x st h
   cases Pd with
   | nil=>simp at hP
   | cons F Pd =>
    obtain ⟨y,st0⟩:=p
    obtain ⟨y2,F⟩:=F
    rw [List.map_cons,List.map_cons] at hP
    injection hP with e1 e2
    have e1a:y=y2:=congrArg Prod.fst e1
    have e1b:trF gt st0=some F:=congrArg Prod.snd e1
    subst e1a
    rw [List.lookup_cons] at h
    rw [List.lookup_cons]
    cases q:x==y with
    | true =>
     rw [q] at h
     have h:st0=st:=by simpa using h
     subst h
     exact ⟨F,e1b,rfl⟩
    | false=>rw [q] at h; exact ih Pd e2 x st h
 exact all fns Pd hP
theorem yL {l:PySem.W.OpenLaw} {q:Program} {loose:List Str} {XP:(Str->Option Value)->Heap->Prop} {YP:World->Heap->Prop} {d:DefRec} {K:Params->PySem.W.Frag} {fns:List (Str × Stmt)} {vals:List (Str × D)} {cls:List Str} {Pd:Prg} {sub:Sub} {n:Nat} {st:Stmt} {x:Str}
  (hn:l.most=some 63) (hdf:d.params.defaults=[]) (hr:bu n callerA) (hY:∀ (w:World) (h:Heap),YP w h->(K w.params).In h)
  (hP:fns.map (fun p=>(p.1,trF (dN fns vals cls) p.2))=Pd.map fun p=>(p.1,some p.2)) (hL:fns.lookup d.name=some st) (hx:argNames (cZ st)=[x])
  (hT:∀ w:World,∀ h:Heap,(K w.params).In h->dj (K w.params) fns/\cu (K w.params) vals/\bP (K w.params) cls/\∀ x∈dJ,(dN fns vals cls).lookup x=none->PySem.W.nsIn (K w.params) mainGlobals x=some none)
  (hmain:∀ ns:List Int,ns.length<=63->∃ S',ai sub Pd n d.name [.fro (ns.map .int)] []=.ok (.bl true) S') :
  PySem.W.WalkO q loose XP YP l.row.toRowW d [] (fun f vs=>PySem.call f vs):=by
 have hP':=Dv hP
 refine L2.qM (n:=63) (k:=n) (x:=x) (CX:=fun w=>CXe l.prog w) (sp:=fun w=>spF ⟨K w.params⟩ (fun _=>True) (EWx (K w.params)) (ai sub Pd n d.name) 1) hn (by decide) hdf hr hY (fun w mg fa h KX G hmg=>?_) (fun w H a ns hl hO hS=>?_) fun _ _ _ _ _ ⟨_,_,_,_,_,_,_,_,_,_,_,_,z⟩=>z
 ·obtain ⟨h1,h2,h4,h3⟩:=hT w h KX
  have T:=nS KX G h1 h2 (fun x hx=>h4.get hx) h3
  obtain ⟨f,fd,a,F⟩:=h1.get (gE hL)
  have e:=hmg.symm.trans (PySem.W.mg_of KX G a)
  cases e
  refine ⟨fd,fun s u=>?_,fun base kb nb=>?_⟩
  ·obtain ⟨F2,hF2,_⟩:=hP' d.name st hL
   obtain ⟨oc,od,kV,doc,pm,an,cdv,ct,osl,rfl,lk,hcd⟩:=F.ex
   cases st with
   | FunctionDef x1 a1 body1 e1 e2 e3 sc1 e4 e5 e6 =>
    have hF2:(if cW a1 sc1=true then (cS (trS depth depth (e8 (dN fns vals cls) a1 sc1)) body1).map fun b=>(⟨(argNames a1).length,(namesOf a1 sc1).length,b⟩:Fn) else none)=some F2:=hF2
    by_cases hs1:cW a1 sc1=true
    ·obtain ⟨SC1,hpl1⟩:=l5 hs1
     have nd1:(argNames a1).Nodup:=by rw [<- SC1.pre]; exact SC1.nd.sublist (List.take_sublist _ _)
     have hx:argNames a1=[x]:=hx
     have:=qZ (x:=d.name) (qual:=d.name) (body:=body1) (sc:=sc1) (kV:=kV) (doc:=doc) (pm:=pm) (cdv:=cdv) (ct:=ct) (an:=an) hpl1 nd1 (us:=[u]) (by rw [hx]; rfl)
     rw [hx] at this
     exact .of_eq this
    ·rw [if_neg hs1] at hF2; cases hF2
   | _=>cases hF2
  ·have T':=nS kb nb h1 h2 (fun x hx=>h4.get hx) h3
   have:=uM (sub:=sub) (P:=l.prog) (w:=w) (base:=base) T' (W:=fun _=>True) (fun _=>trivial) hP' n d.name st fa fd hL F
   rw [hx] at this
   exact this
 ·obtain ⟨hs,rs⟩:=B_ hO hS
  obtain ⟨S',hm⟩:=hmain ns hl
  refine ⟨rfl,XF,trivial,funext fun _=>funext fun _=>funext fun _=>propext ⟨fun z=>z.elim,fun z=>(ewF z).elim⟩,[],[],[.fro (ns.map .int)],hs,rs,?_⟩
  rw [hm]
  intro ι' H' _ _ v r
  cases r
  rfl
end EV

namespace EV
open PySem
variable {α β:Type}
noncomputable def Res.bind (r:Res α) (f:α->aa->Res β):Res β:=match r with
 | .ok a S=>f a S
 | .exc c S=>.exc c S
 | .bad=>.bad
@[simp] theorem Res.aj (a:α) (S:aa) (f:α->aa->Res β):(Res.ok a S).bind f=f a S:=id rfl
@[simp] theorem Res.cP (c:Str) (S:aa) (f:α->aa->Res β):(Res.exc c S:Res α).bind f=.exc c S:=id rfl
@[simp] theorem Res.aR (f:α->aa->Res β):(Res.bad:Res α).bind f=.bad:=id rfl
theorem av (m:M α) (f:α->M β) (S:aa):(m>>=f) S=(m S).bind fun a S'=>f a S':=by
 rw [bX]; cases m S <;> rfl
@[simp] theorem n_ (a:α) (S:aa):(pure a:M α) S=.ok a S:=id rfl
@[simp] theorem fT (b:Bool) (m:M α) (S:aa):guard b m S=if b=true then m S else .bad:=by cases b <;> rfl
@[simp] theorem iz (a:α) (S:aa):opt (some a) S=.ok a S:=id rfl
@[simp] theorem rq (c:Cell) (S:aa):alloc c S=.ok (.loc S.length) (S++[c]):=id rfl
theorem yf (m:M α) (S:aa):quiet m S=match m S with|.ok a S'=>.ok a S'|_=>.bad:=rfl
theorem e9 {m:M α} {S S':aa} {a:α} (h:m S=.ok a S'):quiet m S=.ok a S':=by rw [yf,h]
section
variable (sub:Sub) (cf:Str->List D->M D) (σ:Sg) (S:aa)
@[simp] theorem pK (i:Nat):ev sub cf (.v i) σ S=bq σ i S:=id rfl
@[simp] theorem FP (d:D):ev sub cf (.c d) σ S=.ok d S:=id rfl
@[simp] theorem tV (o:Op2) (a b:E):ev sub cf (.bin o a b) σ S=(ev sub cf a σ S).bind fun x S1=>(ev sub cf b σ S1).bind fun y S2=>opD o x y S2:=by
 show (ev sub cf a σ>>=fun x=>ev sub cf b σ>>=fun y=>opD o x y) S=_
 simp only [av]
@[simp] theorem qi (o:Cm) (a b:E):ev sub cf (.cmp o a b) σ S=(ev sub cf a σ S).bind fun x S1=>(ev sub cf b σ S1).bind fun y S2=>cmD o x y S2:=by
 show (ev sub cf a σ>>=fun x=>ev sub cf b σ>>=fun y=>cmD o x y) S=_
 simp only [av]
@[simp] theorem xy (o o':Cm) (a b c:E):ev sub cf (.chn o o' a b c) σ S=(ev sub cf a σ S).bind fun x S1=>(ev sub cf b σ S1).bind fun y S2=>(cmD o x y S2).bind fun r S3=>match r with
  | .bl true=>(ev sub cf c σ S3).bind fun z S4=>cmD o' y z S4
  | .bl false=>.ok (.bl false) S3
  | _=>.bad:=by
 show (ev sub cf a σ>>=fun x=>ev sub cf b σ>>=fun y=>cmD o x y>>=fun r=>match r with|.bl true=>ev sub cf c σ>>=fun z=>cmD o' y z|.bl false=>pure (D.bl false)|_=>bad) S=_
 simp only [av]
 congr 1; funext x S1; congr 1; funext y S2; congr 1; funext r S3
 cases r <;> first|rfl|(rename_i b; cases b <;> simp [av])
@[simp] theorem Eo (a b:E):ev sub cf (.and a b) σ S=(ev sub cf a σ S).bind fun r S1=>match r with|.bl true=>ev sub cf b σ S1|.bl false=>.ok (.bl false) S1|_=>.bad:=by
 show (ev sub cf a σ>>=fun r=>match r with|.bl true=>ev sub cf b σ|.bl false=>pure (D.bl false)|_=>bad) S=_
 rw [av]; congr 1; funext r S1
 cases r <;> first|rfl|(rename_i b; cases b <;> rfl)
@[simp] theorem t_ (a:E):ev sub cf (.neg a) σ S=(ev sub cf a σ S).bind fun r S1=>match r with|.int i=>.ok (.int (-i)) S1|_=>.bad:=by
 show (ev sub cf a σ>>=fun r=>match r with|.int i=>pure (D.int (-i))|_=>bad) S=_
 rw [av]; congr 1; funext r S1; cases r <;> rfl
@[simp] theorem r_ (c a b:E):ev sub cf (.ite c a b) σ S=(evT sub cf c σ S).bind fun k S1=>if k=true then ev sub cf a σ S1 else ev sub cf b σ S1:=by
 show (evT sub cf c σ>>=fun k=>if k=true then ev sub cf a σ else ev sub cf b σ) S=_
 rw [av]; congr 1; funext k S1; cases k <;> rfl
@[simp] theorem C6:evs sub cf .nl σ S=.ok [] S:=id rfl
@[simp] theorem tK (a r:E):evs sub cf (.cs a r) σ S=(ev sub cf a σ S).bind fun x S1=>(evs sub cf r σ S1).bind fun xs S2=>.ok (x::xs) S2:=by
 show (ev sub cf a σ>>=fun x=>evs sub cf r σ>>=fun xs=>pure (x::xs)) S=_
 simp only [av]; rfl
@[simp] theorem vc (es:E):ev sub cf (.tup es) σ S=(evs sub cf es σ S).bind fun ds S1=>if fits ds.length=true then .ok (.tup ds) S1 else .bad:=by
 show (evs sub cf es σ>>=fun ds=>guard (fits ds.length) (pure (D.tup ds))) S=_
 rw [av]; simp only [fT,n_]
@[simp] theorem uN (es:E):ev sub cf (.lst es) σ S=(evs sub cf es σ S).bind fun ds S1=>if fits ds.length=true then .ok (.loc S1.length) (S1++[.lst ds]) else .bad:=by
 show (evs sub cf es σ>>=fun ds=>guard (fits ds.length) (alloc (.lst ds))) S=_
 rw [av]; simp only [fT,rq]
@[simp] theorem y_ (a i:E):ev sub cf (.ix a i) σ S=(ev sub cf a σ S).bind fun x S1=>(ev sub cf i σ S1).bind fun y S2=>ixD x y S2:=by
 show (ev sub cf a σ>>=fun x=>ev sub cf i σ>>=fun y=>ixD x y) S=_
 simp only [av]
noncomputable def cT (e:E) (S:aa):Res (Option Int):=if e.aX=true then .ok none S else (ev sub cf e σ S).bind fun d S1=>fF d S1
@[simp] theorem uC (a lo hi:E):ev sub cf (.sl a lo hi) σ S=(ev sub cf a σ S).bind fun x S1=>(cT sub cf σ lo S1).bind fun l S2=>(cT sub cf σ hi S2).bind fun h S3=>slD x l h S3:=by
 show (ev sub cf a σ>>=fun x=>(if lo.aX=true then pure none else ev sub cf lo σ>>=fF)>>=fun l=>(if hi.aX=true then pure none else ev sub cf hi σ>>=fF)>>=fun h=>slD x l h) S=_
 simp only [av]
 congr 1; funext x S1
 unfold cT
 cases lo.aX <;> cases hi.aX <;> simp [av]
@[simp] theorem zf (f:Str) (es:E):ev sub cf (.call f es) σ S=(evs sub cf es σ S).bind fun ds S1=>cf f ds S1:=by
 show (evs sub cf es σ>>=fun ds=>cf f ds) S=_
 rw [av]
@[simp] theorem As (b:Bi) (es:E):ev sub cf (.bi b es) σ S=(evs sub cf es σ S).bind fun ds S1=>biD sub b ds S1:=by
 show (evs sub cf es σ>>=fun ds=>biD sub b ds) S=_
 rw [av]
@[simp] theorem m8 (m:Me) (o es:E):ev sub cf (.me m o es) σ S=(ev sub cf o σ S).bind fun x S1=>if x.dG S1=true then (evs sub cf es σ S1).bind fun ds S2=>meD m x ds S2 else .bad:=by
 show (ev sub cf o σ>>=fun x=>jF x (evs sub cf es σ>>=fun ds=>meD m x ds)) S=_
 rw [av]; congr 1; funext x S1
 show guard (x.dG S1) (evs sub cf es σ>>=fun ds=>meD m x ds) S1=_
 rw [fT,av]
theorem iD (k:Nat) (el:E) (t:Tg) (it tt:E):ev sub cf (.comp k el t it tt) σ S=(evI sub cf it σ S).bind fun s S1=>(quiet (bx s (fun d=>aJ t d (σ++List.replicate k none)>>=fun σ'=>(if tt.aX=true then pure true else evT sub cf tt σ')>>=fun b=>if b=true then ev sub cf el σ'>>=fun y=>pure (some y) else pure none) s.its) S1).bind fun ys S2=>if fits ys.length=true then .ok (.loc S2.length) (S2++[.lst ys]) else .bad:=by
 show (evI sub cf it σ>>=fun s=>quiet (bx s (fun d=>aJ t d (σ++List.replicate k none)>>=fun σ'=>(if tt.aX=true then pure true else evT sub cf tt σ')>>=fun b=>if b=true then ev sub cf el σ'>>=fun y=>pure (some y) else pure none) s.its)>>=fun ys=>guard (fits ys.length) (alloc (.lst ys))) S=_
 simp only [av,fT,rq]
@[simp] theorem nI (a b:E):evT sub cf (.and a b) σ S=(evT sub cf a σ S).bind fun k S1=>if k=true then evT sub cf b σ S1 else .ok false S1:=by
 show (evT sub cf a σ>>=fun k=>if k=true then evT sub cf b σ else pure false) S=_
 rw [av]; congr 1; funext k S1; cases k <;> rfl
@[simp] theorem tD (a b:E):evT sub cf (.or a b) σ S=(evT sub cf a σ S).bind fun k S1=>if k=true then .ok true S1 else evT sub cf b σ S1:=by
 show (evT sub cf a σ>>=fun k=>if k=true then pure true else evT sub cf b σ) S=_
 rw [av]; congr 1; funext k S1; cases k <;> rfl
@[simp] theorem Bs (a:E):evT sub cf (.not a) σ S=(evT sub cf a σ S).bind fun k S1=>.ok (!k) S1:=by
 show (evT sub cf a σ>>=fun k=>pure (!k)) S=_
 rw [av]; rfl
@[simp] theorem Eb (o:Cm) (a b:E):evT sub cf (.cmp o a b) σ S=(ev sub cf a σ S).bind fun x S1=>(ev sub cf b σ S1).bind fun y S2=>(cmD o x y S2).bind fun r S3=>truth r S3:=by
 show (ev sub cf a σ>>=fun x=>ev sub cf b σ>>=fun y=>cmD o x y>>=fun r=>truth r) S=_
 simp only [av]
@[simp] theorem DF (f:Str) (es:E):evT sub cf (.call f es) σ S=(ev sub cf (.call f es) σ S).bind fun d S1=>truth d S1:=by
 show (ev sub cf (.call f es) σ>>=truth) S=_
 rw [av]
@[simp] theorem vJ (b:Bi) (es:E):evT sub cf (.bi b es) σ S=(ev sub cf (.bi b es) σ S).bind fun d S1=>truth d S1:=by
 show (ev sub cf (.bi b es) σ>>=truth) S=_
 rw [av]
@[simp] theorem ua (a:E):evI sub cf (.iSeq a) σ S=(ev sub cf a σ S).bind fun d S1=>srcOf d S1:=by
 show (ev sub cf a σ>>=srcOf) S=_
 rw [av]
@[simp] theorem DH (a:E):evI sub cf (.iEnum a) σ S=(ev sub cf a σ S).bind fun d S1=>(srcOf d S1).bind fun s S2=>.ok { s with its:=num 0 s.its } S2:=by
 show (ev sub cf a σ>>=fun d=>srcOf d>>=fun s=>pure { s with its:=num 0 s.its }) S=_
 simp only [av]; rfl
@[simp] theorem CZ (es:E):evI sub cf (.iRng es) σ S=(evs sub cf es σ S).bind fun ds S1=>(opt (bO ds) S1).bind fun is S2=>.ok ⟨is.map .int,none,[]⟩ S2:=by
 show (evs sub cf es σ>>=fun ds=>opt (bO ds)>>=fun is=>pure (⟨is.map .int,none,[]⟩:Src)) S=_
 simp only [av]; rfl
@[simp] theorem iV (e:E):exec sub cf (.ret e) σ S=(ev sub cf e σ S).bind fun d S1=>.ok (.rt d) S1:=by
 show (ev sub cf e σ>>=fun d=>pure (Fl.rt d)) S=_
 rw [av]; rfl
@[simp] theorem lQ (t:Tg) (e:E):exec sub cf (.set t e) σ S=(ev sub cf e σ S).bind fun d S1=>(aJ t d σ S1).bind fun σ' S2=>.ok (.nx σ') S2:=by
 show (ev sub cf e σ>>=fun d=>aJ t d σ>>=fun σ'=>pure (Fl.nx σ')) S=_
 simp only [av]; rfl
@[simp] theorem nZ (e:E):exec sub cf (.ex e) σ S=(ev sub cf e σ S).bind fun _ S1=>.ok (.nx σ) S1:=by
 show (ev sub cf e σ>>=fun _=>pure (Fl.nx σ)) S=_
 rw [av]; rfl
@[simp] theorem jv (c:E) (a b:EV.S):exec sub cf (.ite c a b) σ S=(evT sub cf c σ S).bind fun k S1=>if k=true then exec sub cf a σ S1 else exec sub cf b σ S1:=by
 show (evT sub cf c σ>>=fun k=>if k=true then exec sub cf a σ else exec sub cf b σ) S=_
 rw [av]; congr 1; funext k S1; cases k <;> rfl
theorem yX (t:Tg) (it:E) (b:EV.S):exec sub cf (.forS t it b) σ S=quiet (evI sub cf it σ>>=fun s=>forL s (fun d σ=>aJ t d σ>>=fun σ'=>exec sub cf b σ') s.its σ) S:=rfl
@[simp] theorem FZ (c:Str):exec sub cf (.rais c) σ S=.exc c S:=id rfl
@[simp] theorem D7:exec sub cf .skip σ S=.ok (.nx σ) S:=id rfl
noncomputable def eF (b:EV.S) (r:Res Fl):Res Fl:=r.bind fun f S1=>match f with|.nx σ'=>exec sub cf b σ' S1|f=>.ok f S1
@[simp] theorem qN (b:EV.S) (σ':Sg) (S1:aa):eF sub cf b (.ok (.nx σ') S1)=exec sub cf b σ' S1:=id rfl
@[simp] theorem xJ (b:EV.S) (d:D) (S1:aa):eF sub cf b (.ok (.rt d) S1)=.ok (.rt d) S1:=id rfl
@[simp] theorem F_ (b:EV.S) (c:Str) (S1:aa):eF sub cf b (.exc c S1)=.exc c S1:=id rfl
@[simp] theorem gF (a b:EV.S):exec sub cf (.seq a b) σ S=eF sub cf b (exec sub cf a σ S):=by
 show (exec sub cf a σ>>=fun f=>match f with|.nx σ'=>exec sub cf b σ'|f=>pure f) S=_
 rw [av]; unfold eF; congr 1; funext f S1; cases f <;> rfl
end
theorem b_ {sub:Sub} {cf:Str->List D->M D} {σ:Sg} {S:aa} {c e:E} {r:EV.S} (h:evT sub cf c σ S=.ok true S):exec sub cf (.seq (.ite c (.ret e) .skip) r) σ S=exec sub cf (.ret e) σ S:=by
 rw [gF,jv,h,iV]
 show eF sub cf r (exec sub cf (.ret e) σ S)=_
 rw [iV]
 cases ev sub cf e σ S <;> rfl
theorem dz {sub:Sub} {cf:Str->List D->M D} {σ:Sg} {S:aa} {c:E} {a r:EV.S} (h:evT sub cf c σ S=.ok false S):exec sub cf (.seq (.ite c a .skip) r) σ S=exec sub cf r σ S:=by
 rw [gF,jv,h]
 show eF sub cf r (exec sub cf .skip σ S)=_
 rw [D7,qN]
theorem EU {sub:Sub} {cf:Str->List D->M D} {σ σ':Sg} {S S':aa} {a r:EV.S} (h:exec sub cf a σ S=.ok (.nx σ') S'):exec sub cf (.seq a r) σ S=exec sub cf r σ' S':=by
 rw [gF,h,qN]
theorem Cs {sub:Sub} {cf:Str->List D->M D} {σ:Sg} {S:aa} {i:Nat} {e:E} {r:EV.S} {d:D} {S':aa} (h:ev sub cf e σ S=.ok d S'):exec sub cf (.seq (.set (.one i) e) r) σ S=exec sub cf r (σ.set i (some d)) S':=by
 rw [gF,lQ,h]
 show eF sub cf r ((aJ (.one i) d σ S').bind fun σ' S2=>.ok (.nx σ') S2)=_
 rfl
theorem C7 (σ:Sg) (i:Nat) (S:aa):bq σ i S=match σ[i]? with|some (some d)=>.ok d S|_=>.bad:=by
 unfold bq
 cases σ[i]? with
 | none=>rfl
 | some x=>cases x <;> rfl
@[simp] theorem FN (d:D) (σ:Sg) (S:aa):bq (some d::σ) 0 S=.ok d S:=id rfl
@[simp] theorem F7 (x:Option D) (σ:Sg) (i:Nat) (S:aa):bq (x::σ) (i+1) S=bq σ i S:=id rfl
@[simp] theorem ig (i:Nat) (d:D) (σ:Sg) (S:aa):aJ (.one i) d σ S=.ok (σ.set i (some d)) S:=id rfl
@[simp] theorem mY (is:List Nat) (ds:List D) (σ:Sg) (S:aa):aJ (.many is) (.tup ds) σ S=if ds.length=is.length then .ok (bT is ds σ) S else .bad:=by
 show guard (decide (ds.length=is.length)) (pure (bT is ds σ)) S=_
 simp
@[simp] theorem jH (i j:Int) (S:aa):opD .add (.int i) (.int j) S=.ok (.int (i+j)) S:=id rfl
@[simp] theorem BU (xs ys:List D) (S:aa):opD .add (.tup xs) (.tup ys) S=if fits (xs.length+ys.length)=true then .ok (.tup (xs++ys)) S else .bad:=by
 show guard _ _ S=_
 simp
@[simp] theorem gz (i j:Int) (S:aa):opD .sub (.int i) (.int j) S=.ok (.int (i - j)) S:=id rfl
@[simp] theorem vz (i j:Int) (S:aa):opD .mul (.int i) (.int j) S=if (small i||small j)=true then .ok (.int (i * j)) S else .bad:=by
 show guard _ _ S=_
 simp
@[simp] theorem Bw (i j:Int) (S:aa):opD .fdiv (.int i) (.int j) S=if (decide (0 < j)&&decide (j < 1073741824))=true then .ok (.int (i / j)) S else .bad:=by
 show guard _ _ S=_
 simp
theorem F0 (i j:Int) (S:aa):opD .pow (.int i) (.int j) S=if (decide (0<=j)&&decide (j<=1000)&&decide (i.natAbs < 2 ^ 64))=true then .ok (.int (i ^ j.toNat)) S else .bad:=by
 show guard _ _ S=_
 simp
@[simp] theorem x9 (i j:Int) (S:aa):opD .mod (.int i) (.int j) S=if 0 < j then .ok (.int (i % j)) S else .bad:=by
 show guard _ _ S=_
 simp
@[simp] theorem iu {n:Nat} (h:n<=1000):fits n=true:=decide_eq_true (by unfold aS; omega)
@[simp] theorem sF (i j:Int) (S:aa):cmD .lt (.int i) (.int j) S=.ok (.bl (decide (i < j))) S:=id rfl
@[simp] theorem lu (i j:Int) (S:aa):cmD .le (.int i) (.int j) S=.ok (.bl (decide (i<=j))) S:=id rfl
@[simp] theorem vj (i j:Int) (S:aa):cmD .gt (.int i) (.int j) S=.ok (.bl (decide (j < i))) S:=id rfl
@[simp] theorem zy (i j:Int) (S:aa):cmD .ge (.int i) (.int j) S=.ok (.bl (decide (j<=i))) S:=id rfl
theorem sO (x y:D) (S:aa):cmD .eq x y S=match eqD deep S x y with|some k=>.ok (.bl k) S|none=>.bad:=by
 show (eqM x y>>=fun b=>pure (D.bl b)) S=_
 rw [av]
 unfold eqM
 cases eqD deep S x y <;> rfl
theorem sI (x y:D) (S:aa):cmD .ne x y S=if ee x y=true then (match eqD deep S x y with|some k=>.ok (.bl (!k)) S|none=>.bad) else .bad:=by
 show guard (ee x y) (eqM x y>>=fun b=>pure (D.bl (!b))) S=_
 rw [fT,av]
 unfold eqM
 cases eqD deep S x y <;> rfl
@[simp] theorem gk (i j:Int) (S:aa):cmD .eq (.int i) (.int j) S=.ok (.bl (i==j)) S:=id rfl
@[simp] theorem jP (i j:Str) (S:aa):cmD .eq (.str i) (.str j) S=.ok (.bl (i==j)) S:=id rfl
@[simp] theorem vq (i j:Int) (S:aa):cmD .ne (.int i) (.int j) S=.ok (.bl (!(i==j))) S:=id rfl
@[simp] theorem FO (b:Bool) (S:aa):truth (.bl b) S=.ok b S:=id rfl
@[simp] theorem Fo (ds:List D) (S:aa):items (.tup ds) S=.ok ds S:=id rfl
@[simp] theorem F1 (ds:List D) (S:aa):items (.fro ds) S=.ok ds S:=id rfl
theorem eY {l:Nat} {ds:List D} {S:aa} (h:S[l]?=some (.lst ds)):items (.loc l) S=.ok ds S:=by
 show (match listAt S l with|some ds=>Res.ok ds S|none=>.bad)=_
 unfold listAt; rw [h]
theorem mR (a:D) (j:Int) (S:aa):ixD a (.int j) S=(items a S).bind fun xs S1=>opt (atI xs j) S1:=by
 show (items a>>=fun xs=>opt (atI xs j)) S=_
 rw [av]
@[simp] theorem AX (xs:List D) (j:Int) (S:aa):ixD (.tup xs) (.int j) S=opt (atI xs j) S:=by rw [mR]; rfl
@[simp] theorem Dz (xs:List D) (j:Int) (S:aa):ixD (.fro xs) (.int j) S=opt (atI xs j) S:=by rw [mR]; rfl
theorem ya {l:Nat} {xs:List D} {j:Int} {S:aa} (h:S[l]?=some (.lst xs)):ixD (.loc l) (.int j) S=opt (atI xs j) S:=by rw [mR,eY h]; rfl
theorem dI {xs:List D} {j:Nat}:atI xs (j:Int)=xs[j]?:=by
 unfold atI ixN
 rw [if_pos (by omega)]
 by_cases h:j < xs.length
 ·rw [if_pos (by omega)]; simp
 ·rw [if_neg (by omega)]; rw [List.getElem?_eq_none (by omega)]; rfl
@[simp] theorem rm (xs:List D):atI xs 0=xs[0]?:=dI (j:=0)
@[simp] theorem F4 (xs:List D):atI xs 1=xs[1]?:=dI (j:=1)
@[simp] theorem FI (xs:List D):atI xs 2=xs[2]?:=dI (j:=2)
@[simp] theorem FT (xs:List D):atI xs 3=xs[3]?:=dI (j:=3)
@[simp] theorem F8 (xs:List D):atI xs 4=xs[4]?:=dI (j:=4)
@[simp] theorem mO (sub:Sub) (d:D) (S:aa):biD sub .len [d] S=(items d S).bind fun ds S1=>.ok (.int ds.length) S1:=by
 show (items d>>=fun ds=>pure (D.int ds.length)) S=_
 rw [av]; rfl
@[simp] theorem yJ (sub:Sub) (t:Ty) (d:D) (S:aa):biD sub (.inst t) [d] S=match cC sub S d t with|some k=>.ok (.bl k) S|none=>.bad:=id rfl
@[simp] theorem Di (sub:Sub) (d:D) (S:aa):biD sub .tuple [d] S=(items d S).bind fun ds S1=>.ok (.tup ds) S1:=by
 show (items d>>=fun ds=>pure (D.tup ds)) S=_
 rw [av]; rfl
theorem Aa (sub:Sub) (d:D) (S:aa):biD sub .all [d] S=(items d S).bind fun ds S1=>(opt (dc ds) S1).bind fun bs S2=>.ok (.bl (bs.all id)) S2:=by
 show (items d>>=fun ds=>opt (dc ds)>>=fun bs=>pure (D.bl (bs.all id))) S=_
 simp only [av]; rfl
theorem qO {l:Nat} {ds:List D} {d:D} {S:aa} (h:S[l]?=some (.lst ds)) (hz:ds.length < aS):meD .append (.loc l) [d] S=.ok .non (S.set l (.lst (ds++[d]))):=by
 show bg l (fun ds=>guard (gH ds.length) (put l (.lst (ds++[d])))) S=_
 unfold bg
 rw [h]
 simp [gH,hz,put]
theorem zF {l k:Nat} {ds es:List D} {S:aa} (h:S[l]?=some (.lst ds)) (h2:S[k]?=some (.lst es)) (hz:ds.length+es.length<=aS):meD .extend (.loc l) [.loc k] S=.ok .non (S.set l (.lst (ds++es))):=by
 show bg l (fun ds=>bg k fun es=>guard (fits (ds.length+es.length)) (put l (.lst (ds++es)))) S=_
 unfold bg
 rw [h]
 simp only
 rw [h2]
 simp [fits,hz,put]
@[simp] theorem d_ (S T:aa) (c:Cell):(S++c::T)[S.length]?=some c:=by simp
@[simp] theorem Bk (S T:aa) (k:Nat):(S++T)[S.length+k]?=T[k]?:=by
 rw [List.getElem?_append_right (by omega)]; congr 1; omega
@[simp] theorem iy (S T:aa) (c d:Cell):(S++c::T).set S.length d=S++d::T:=by simp
@[simp] theorem fM (S T:aa):(S++T).take S.length=S:=by simp
theorem zU {S T:aa} {xs:List D} {d:D} (h:xs.length<=1000000):meD .append (.loc S.length) [d] (S++.lst xs::T)=.ok .non (S++.lst (xs++[d])::T):=by
 rw [qO (ds:=xs) (d_ S T _) (by unfold aS; omega),iy]
theorem EF (its raw:List D) (S:aa):aE ⟨its,none,raw⟩ S=.ok () S:=rfl
theorem jJ (s:Src) (f:D->Sg->M Fl) (σ:Sg) (S:aa):forL s f [] σ S=(aE s S).bind fun _ S1=>.ok (.nx σ) S1:=by
 show (aE s>>=fun _=>pure (Fl.nx σ)) S=_
 rw [av]; rfl
theorem jj (s:Src) (f:D->Sg->M Fl) (d:D) (ds:List D) (σ:Sg) (S:aa):forL s f (d::ds) σ S=(aE s S).bind fun _ S1=>(f d σ S1).bind fun fl S2=>match fl with
  | .nx σ'=>forL s f ds σ' S2|.ct σ'=>forL s f ds σ' S2|.bk σ'=>.ok (.nx σ') S2|.rt d=>.ok (.rt d) S2:=by
 show (aE s>>=fun _=>f d σ>>=fun fl=>match fl with|.nx σ'=>forL s f ds σ'|.ct σ'=>forL s f ds σ'|.bk σ'=>pure (Fl.nx σ')|.rt d=>pure (Fl.rt d)) S=_
 simp only [av]
 congr 1; funext _ S1; congr 1; funext fl S2; cases fl <;> rfl
theorem o7 (s:Src) (f:D->M (Option D)) (S:aa):bx s f [] S=(aE s S).bind fun _ S1=>.ok [] S1:=by
 show (aE s>>=fun _=>pure []) S=_
 rw [av]; rfl
theorem rD (s:Src) (f:D->M (Option D)) (d:D) (ds:List D) (S:aa):bx s f (d::ds) S=(aE s S).bind fun _ S1=>(f d S1).bind fun y S2=>(bx s f ds S2).bind fun ys S3=>.ok (match y with|some y=>y::ys|none=>ys) S3:=by
 show (aE s>>=fun _=>f d>>=fun y=>bx s f ds>>=fun ys=>pure (match y with|some y=>y::ys|none=>ys)) S=_
 simp only [av]; rfl
theorem jk {s:Src} {f:D->M (Option D)} {g:D->Option D} {S:aa} (hs:aE s S=.ok () S):∀ {its:List D},(∀ d∈its,f d S=.ok (g d) S)->bx s f its S=.ok (its.filterMap g) S
 | [],_=>by rw [o7,hs]; rfl
 | d::ds,h=>by
  rw [rD,hs]
  simp only [Res.aj]
  rw [h d List.mem_cons_self]
  simp only [Res.aj]
  rw [jk hs fun e he=>h e (List.mem_cons_of_mem _ he)]
  simp only [Res.aj,List.filterMap_cons]
  cases g d <;> rfl
theorem yD (S S':aa) (d:D):aH S (.ok (.rt d) S')=leave S d S':=rfl
mutual
theorem qY:∀ {d:D} {n m:Nat},n<=m->d.low n=true->d.low m=true
 | .tup ds,n,m,h,q=>iI h q
 | .fro ds,n,m,h,q=>iI h q
 | .loc l,n,m,h,q=>decide_eq_true (Nat.lt_of_lt_of_le (of_decide_eq_true q) h)
 | .non,_,_,_,_=>rfl
 | .bl _,_,_,_,_=>rfl
 | .int _,_,_,_,_=>rfl
 | .str _,_,_,_,_=>rfl
 | .exn _,_,_,_,_=>rfl
theorem iI:∀ {ds:List D} {n m:Nat},n<=m->D.lows n ds=true->D.lows m ds=true
 | [],_,_,_,_=>rfl
 | d::r,n,m,h,q=>by
  rw [D.lows,Bool.and_eq_true] at q ⊢
  exact ⟨qY h q.1,iI h q.2⟩
end
abbrev D.cl (d:D):Prop:=d.low 0=true
theorem cU {S S':aa} {d:D} (h:d.cl) (ht:S'.take S.length=S):leave S d S'=.ok d S:=by
 unfold leave
 rw [if_pos ht,if_pos (qY (Nat.zero_le _) h)]
theorem leave_new {S T:aa} {ds:List D} {k:Nat} (h:T[k]?=some (.lst ds)) (hc:D.lows 0 ds=true):leave S (.loc (S.length+k)) (S++T)=.ok (.loc S.length) (S++[.lst ds]):=by
 unfold leave
 rw [if_pos (by simp)]
 rw [if_neg (by show ¬ decide (S.length+k < S.length)=true; simp)]
 simp only
 rw [Bk,h]
 simp only
 rw [if_pos (show Cell.low S.length (.lst ds)=true from iI (Nat.zero_le _) hc)]
theorem kZ {n:Nat}:∀ {ds:List D},D.lows n ds=true ↔ ∀ d∈ds,d.low n=true
 | []=>by simp [D.lows]
 | d::r=>by rw [D.lows,Bool.and_eq_true,kZ]; simp
theorem AO {n:Nat} (is:List Int):D.lows n (is.map .int)=true:=kZ.mpr fun d h=>by
 obtain ⟨i,_,rfl⟩:=List.mem_map.mp h; rfl
theorem jC {α:Type} {n:Nat} {f:α->D} (hf:∀ a,(f a).low n=true) (l:List α):D.lows n (l.map f)=true:=kZ.mpr fun d h=>by
 obtain ⟨i,_,rfl⟩:=List.mem_map.mp h; exact hf i
theorem Bp (is:List Bool):dc (is.map .bl)=some is:=by
 induction is with
 | nil=>rfl
 | cons i r ih=>simp [dc,ih]
section
variable {sub:Sub} {cf:Str->List D->M D} {σ:Sg} {S S1:aa} {k i:Nat} {el it tt:E} {s:Src}
theorem comp_map {g:D->D} (hi:evI sub cf it σ S=.ok s S1) (hs:aE s S1=.ok () S1) (hg:∀ d∈s.its,ev sub cf el ((σ++List.replicate k none).set i (some d)) S1=.ok (g d) S1) (hz:s.its.length<=aS) :
  ev sub cf (.comp k el (.one i) it .nl) σ S=.ok (.loc S1.length) (S1++[.lst (s.its.map g)]):=by
 rw [iD,hi]
 simp only [Res.aj]
 have:=jk (s:=s) (f:=fun d=>aJ (.one i) d (σ++List.replicate k none)>>=fun σ'=>(if E.aX .nl=true then pure true else evT sub cf .nl σ')>>=fun b=>if b=true then ev sub cf el σ'>>=fun y=>pure (some y) else pure none) (g:=fun d=>some (g d)) (S:=S1) hs (its:=s.its) (fun d hd=>by
  simp only [av,ig,Res.aj]
  show (ev sub cf el ((σ++List.replicate k none).set i (some d))>>=fun y=>pure (some y)) S1=_
  rw [av,hg d hd]; rfl)
 rw [e9 this]
 have e:s.its.filterMap (fun d=>some (g d))=s.its.map g:=by rw [<- List.filterMap_eq_map]; rfl
 rw [e]
 simp [fits,hz]
theorem CY {g:D->D} {p:D->Bool} (hn:tt.aX=false) (hi:evI sub cf it σ S=.ok s S1) (hs:aE s S1=.ok () S1) (hp:∀ d∈s.its,evT sub cf tt ((σ++List.replicate k none).set i (some d)) S1=.ok (p d) S1)
  (hg:∀ d∈s.its,p d=true->ev sub cf el ((σ++List.replicate k none).set i (some d)) S1=.ok (g d) S1) (hz:s.its.length<=aS) :
  ev sub cf (.comp k el (.one i) it tt) σ S=.ok (.loc S1.length) (S1++[.lst ((s.its.filter p).map g)]):=by
 rw [iD,hi]
 simp only [Res.aj]
 have:=jk (s:=s) (f:=fun d=>aJ (.one i) d (σ++List.replicate k none)>>=fun σ'=>(if tt.aX=true then pure true else evT sub cf tt σ')>>=fun b=>if b=true then ev sub cf el σ'>>=fun y=>pure (some y) else pure none) (g:=fun d=>if p d=true then some (g d) else none) (S:=S1) hs (its:=s.its) (fun d hd=>by
  simp only [av,ig,Res.aj,hn,Bool.false_eq_true,if_false]
  rw [hp d hd]
  cases q:p d with
  | false=>simp
  | true=>simp [av,hg d hd q])
 rw [e9 this]
 have e:s.its.filterMap (fun d=>if p d=true then some (g d) else none)=(s.its.filter p).map g:=by
  induction s.its with
  | nil=>rfl
  | cons a r ih=>cases q:p a <;> simp [q,ih]
 rw [e]
 have hz':((s.its.filter p).map g).length<=aS:=by
  rw [List.length_map]; exact Nat.le_trans (List.length_filter_le _ _) hz
 simp only [Res.aj]
 rw [if_pos (show fits ((s.its.filter p).map g).length=true from decide_eq_true hz')]
theorem o9 {is:List Nat} {g:D->D} (hi:evI sub cf it σ S=.ok s S1) (hs:aE s S1=.ok () S1) (hg:∀ d∈s.its,∃ ds,d=.tup ds/\ds.length=is.length/\ev sub cf el (bT is ds (σ++List.replicate k none)) S1=.ok (g d) S1) (hz:s.its.length<=aS) :
  ev sub cf (.comp k el (.many is) it .nl) σ S=.ok (.loc S1.length) (S1++[.lst (s.its.map g)]):=by
 rw [iD,hi]
 simp only [Res.aj]
 have:=jk (s:=s) (f:=fun d=>aJ (.many is) d (σ++List.replicate k none)>>=fun σ'=>(if E.aX .nl=true then pure true else evT sub cf .nl σ')>>=fun b=>if b=true then ev sub cf el σ'>>=fun y=>pure (some y) else pure none) (g:=fun d=>some (g d)) (S:=S1) hs (its:=s.its) (fun d hd=>by
  obtain ⟨ds,rfl,hl,hd⟩:=hg d hd
  simp only [av,mY,hl,if_true,Res.aj]
  show (ev sub cf el (bT is ds (σ++List.replicate k none))>>=fun y=>pure (some y)) S1=_
  rw [av,hd]; rfl)
 rw [e9 this]
 have e:s.its.filterMap (fun d=>some (g d))=s.its.map g:=by rw [<- List.filterMap_eq_map]; rfl
 rw [e]
 simp [fits,hz]
end
@[simp] theorem FH (ds:List D) (S:aa):srcOf (.tup ds) S=.ok ⟨ds,none,ds⟩ S:=id rfl
theorem fS {sub:Sub} {S:aa} {α:Type} (l:List α) (g:α->Bool):biD sub .all [.loc S.length] (S++[.lst (l.map fun a=>.bl (g a))])=.ok (.bl (l.all g)) (S++[.lst (l.map fun a=>.bl (g a))]):=by
 rw [Aa,eY (ds:=l.map fun a=>D.bl (g a)) (d_ S [] _)]
 simp only [Res.aj]
 rw [show dc (l.map fun a=>D.bl (g a))=some (l.map g) from by rw [<- Bp,List.map_map]; rfl]
 simp [List.all_map]
section
variable {sub:Sub} {cf:Str->List D->M D} {σ:Sg} {S S1 S2:aa} {t:Tg} {it:E} {b:EV.S} {s:Src} {fl:Fl}
noncomputable def bY (sub:Sub) (cf:Str->List D->M D) (t:Tg) (b:EV.S):D->Sg->M Fl:=fun d σ=>aJ t d σ>>=fun σ'=>exec sub cf b σ'
theorem i7 (i:Nat) (b:EV.S) (d:D) (σ:Sg) (S:aa):bY sub cf (.one i) b d σ S=exec sub cf b (σ.set i (some d)) S:=by
 unfold bY; rw [av]; rfl
theorem t6 (is:List Nat) (b:EV.S) (ds:List D) (σ:Sg) (S:aa) (h:ds.length=is.length):bY sub cf (.many is) b (.tup ds) σ S=exec sub cf b (bT is ds σ) S:=by
 unfold bY; rw [av,mY,if_pos h]; rfl
theorem gC (hi:evI sub cf it σ S=.ok s S1) (hf:forL s (bY sub cf t b) s.its σ S1=.ok fl S2):exec sub cf (.forS t it b) σ S=.ok fl S2:=by
 rw [yX]
 apply e9
 rw [av,hi]
 exact hf
end
section
variable {sub:Sub} {cf:Str->List D->M D} {s:Src} {i j l:Nat} {e:E} {g:D->D}
noncomputable def fu (i:Nat) (its:List D) (σ:Sg):Sg:=match its.getLast? with
 | some d=>σ.set i (some d)
 | none=>σ
@[simp] theorem F5 (i:Nat) (σ:Sg):fu i [] σ=σ:=id rfl
theorem za (i:Nat) (d:D) (its:List D) (σ:Sg):fu i (d::its) σ=fu i its (σ.set i (some d)):=by
 unfold fu
 rw [List.getLast?_cons]
 cases q:its.getLast? with
 | none=>rfl
 | some e=>simp [List.set_set]
theorem gP {α:Type} {S:List α} {l:Nat} {c:α} (h:S[l]?=some c):S.set l c=S:=by
 apply List.ext_getElem?
 intro k
 rw [List.getElem?_set]
 split
 ·rename_i e; subst e
  split
  ·exact h.symm
  ·rename_i h2; exact absurd (List.getElem?_eq_some_iff.mp h).1 h2
 ·rfl
theorem get_set {α:Type} {S:List α} {l:Nat} {c d:α} (h:S[l]?=some c):(S.set l d)[l]?=some d:=by
 rw [List.getElem?_set_self (List.getElem?_eq_some_iff.mp h).1]
theorem vL {σ:Sg} {S:aa} {xs:List D} {d:D} (hj:σ[j]?=some (some (.loc l))) (hS:S[l]?=some (.lst xs)) (he:ev sub cf e σ S=.ok d S) (hz:xs.length < aS) :
  exec sub cf (.ex (.me .append (.v j) (.cs e .nl))) σ S=.ok (.nx σ) (S.set l (.lst (xs++[d]))):=by
 have hv:bq σ j S=.ok (.loc l) S:=by rw [C7,hj]
 have hL:(D.loc l).dG S=true:=by show (match S[l]? with|some (.lst _)=>true|_=>false)=true; rw [hS]
 simp only [nZ,m8,pK,hv,Res.aj,hL,if_true,tK,he,C6,qO hS hz]
theorem qW {α:Type} {f g:α->D} (hij:i≠j):∀ {ks:List α} {σ:Sg} {S:aa} {xs:List D},σ[j]?=some (some (.loc l))->S[l]?=some (.lst xs)->(∀ ys,aE s (S.set l (.lst ys))=.ok () (S.set l (.lst ys))) ->
  (∀ a∈ks,∀ ys,ev sub cf e (σ.set i (some (f a))) (S.set l (.lst ys))=.ok (g a) (S.set l (.lst ys)))->xs.length+ks.length<=aS ->
  forL s (bY sub cf (.one i) (.ex (.me .append (.v j) (.cs e .nl)))) (ks.map f) σ S=.ok (.nx (fu i (ks.map f) σ)) (S.set l (.lst (xs++ks.map g)))
 | [],σ,S,xs,h1,h2,h3,h4,h5=>by
  have:=h3 xs
  rw [gP h2] at this
  rw [List.map_nil,jJ,this]
  simp [gP h2]
 | d::ks,σ,S,xs,h1,h2,h3,h4,h5=>by
  have hst:=h3 xs
  rw [gP h2] at hst
  rw [List.map_cons,jj,hst]
  simp only [Res.aj,i7]
  have h1':(σ.set i (some (f d)))[j]?=some (some (.loc l)):=by rw [List.getElem?_set_ne hij]; exact h1
  have hd:=h4 d List.mem_cons_self xs
  rw [gP h2] at hd
  rw [vL h1' h2 hd (by simp at h5; omega)]
  simp only [Res.aj]
  rw [qW hij (xs:=xs++[g d]) h1' (get_set h2) (fun ys=>by rw [List.set_set]; exact h3 ys)
   (fun a ha ys=>by rw [List.set_set,List.set_set]; exact h4 a (List.mem_cons_of_mem _ ha) ys) (by simp at h5 ⊢; omega)]
  rw [za,List.set_set,List.map_cons,List.append_assoc]
  rfl
end
theorem vd {i:Nat} {its:List D} {σ:Sg} (h:i < σ.length):∃ x,fu i its σ=σ.set i x:=by
 unfold fu
 cases its.getLast? with
 | some d=>exact ⟨_,rfl⟩
 | none=>exact ⟨σ[i],(gP (List.getElem?_eq_getElem h)).symm⟩
theorem BV {i:Int} (h1:-1000000000<=i) (h2:i<=1000000000):near i=true:=decide_eq_true ⟨by omega,by omega⟩
theorem B4 (j:Int):rng 0 j 1=(List.range j.toNat).map fun (k:Nat)=>(k:Int):=by
 unfold rng
 rw [if_pos (by decide)]
 have:(j - 0+1 - 1) / 1=j:=by rw [Int.ediv_one]; omega
 rw [this]
 simp
theorem E0 {j:Int} (h1:-1000000000<=j) (h2:j<=1000000000):bO [.int j]=some ((List.range j.toNat).map fun (k:Nat)=>(k:Int)):=by
 show (if near j=true then some (rng 0 j 1) else none)=_
 rw [if_pos (BV h1 h2),B4]
theorem lW {sub:Sub} {cf:Str->List D->M D} {i j l:Nat} {it e:E} {σ:Sg} {S S1:aa} {xs:List D} {α:Type} {ks:List α} {f g:α->D} {o:Option Nat} {raw:List D}
  (hit:evI sub cf it σ S=.ok ⟨ks.map f,o,raw⟩ S1) (hj:σ[j]?=some (some (.loc l))) (hS:S1[l]?=some (.lst xs)) (hij:i≠j) (hi:i < σ.length) (hst:∀ ys,aE ⟨ks.map f,o,raw⟩ (S1.set l (.lst ys))=.ok () (S1.set l (.lst ys)))
  (he:∀ a∈ks,∀ ys,ev sub cf e (σ.set i (some (f a))) (S1.set l (.lst ys))=.ok (g a) (S1.set l (.lst ys))) (hz:xs.length+ks.length<=aS) :
  ∃ x,exec sub cf (.forS (.one i) it (.ex (.me .append (.v j) (.cs e .nl)))) σ S=.ok (.nx (σ.set i x)) (S1.set l (.lst (xs++ks.map g))):=by
 obtain ⟨x,hx⟩:=vd (i:=i) (its:=ks.map f) (σ:=σ) hi
 refine ⟨x,?_⟩
 rw [<- hx]
 exact gC hit (qW hij hj hS hst he hz)
theorem sj {S:aa} {a b:Nat} {xs ys:List D} (ha:S[a]?=some (.lst xs)) (hb:S[b]?=some (.lst ys)):eqD deep S (.loc a) (.loc b)=if xs.length=ys.length then bf (eqD 11 S) xs ys else some false:=by
 have e1:listAt S a=some xs:=by unfold listAt; rw [ha]
 have e2:listAt S b=some ys:=by unfold listAt; rw [hb]
 show (match listAt S a,listAt S b with|some xs,some ys=>if xs.length=ys.length then bf (eqD 11 S) xs ys else some false|_,_=>none)=_
 rw [e1,e2]
theorem r6 {S:aa} {a b:Nat} {xs:List D} (ha:S[a]?=some (.lst xs)) (hb:S[b]?=some (.lst [])):cmD .eq (.loc a) (.loc b) S=.ok (.bl xs.isEmpty) S:=by
 rw [sO,sj ha hb]
 cases xs <;> simp [bf]
theorem pY {s:Src} {f:D->Sg->M Fl}:∀ {its:List D} (I:Nat->Sg->aa->Prop) {σ:Sg} {S:aa},I 0 σ S->(∀ i σ T,I i σ T->aE s T=.ok () T) ->
  (∀ i (h:i < its.length) σ T,I i σ T->∃ σ' T',f its[i] σ T=.ok (.nx σ') T'/\I (i+1) σ' T')->∃ σ' T',forL s f its σ S=.ok (.nx σ') T'/\I its.length σ' T'
 | [],I,σ,S,h0,h1,_=>⟨σ,S,by rw [jJ,h1 0 σ S h0]; rfl,h0⟩
 | d::ds,I,σ,S,h0,h1,h2=>by
  obtain ⟨σ1,T1,e1,i1⟩:=h2 0 (by simp) σ S h0
  obtain ⟨σ2,T2,e2,i2⟩:=pY (its:=ds) (fun i=>I (i+1)) i1 (fun i=>h1 (i+1)) fun i hi=>h2 (i+1) (by simpa using hi)
  refine ⟨σ2,T2,?_,i2⟩
  rw [jj,h1 0 σ S h0]
  simp only [Res.aj]
  rw [show f d σ S=.ok (.nx σ1) T1 from e1]
  exact e2
theorem mJ {sub:Sub} {cf:Str->List D->M D} {t:Tg} {it:E} {b:EV.S} {σ:Sg} {S S1:aa} {s:Src} (I:Nat->Sg->aa->Prop) (hi:evI sub cf it σ S=.ok s S1) (h0:I 0 σ S1) (h1:∀ i σ T,I i σ T->aE s T=.ok () T)
  (h2:∀ i (h:i < s.its.length) σ T,I i σ T->∃ σ' T',bY sub cf t b s.its[i] σ T=.ok (.nx σ') T'/\I (i+1) σ' T'):∃ σ' T',exec sub cf (.forS t it b) σ S=.ok (.nx σ') T'/\I s.its.length σ' T':=by
 obtain ⟨σ',T',e,i⟩:=pY I h0 h1 h2
 exact ⟨σ',T',gC hi e,i⟩
theorem lE {α:Type} {s:Src} {fn:D->M (Option D)} {f:α->D} {g:α->Option D} {S:aa} (hs:aE s S=.ok () S):∀ {ks:List α},(∀ a∈ks,fn (f a) S=.ok (g a) S)->bx s fn (ks.map f) S=.ok (ks.filterMap g) S
 | [],_=>by rw [List.map_nil,o7,hs]; rfl
 | d::ds,h=>by
  rw [List.map_cons,rD,hs]
  simp only [Res.aj]
  rw [h d List.mem_cons_self]
  simp only [Res.aj]
  rw [lE hs fun e he=>h e (List.mem_cons_of_mem _ he)]
  simp only [Res.aj,List.filterMap_cons]
  cases g d <;> rfl
theorem qh {sub:Sub} {cf:Str->List D->M D} {σ:Sg} {S S1:aa} {k i:Nat} {el it:E} {α:Type} {ks:List α} {f g:α->D} {o:Option Nat} {raw:List D} (hi:evI sub cf it σ S=.ok ⟨ks.map f,o,raw⟩ S1) (hs:aE ⟨ks.map f,o,raw⟩ S1=.ok () S1)
  (hg:∀ a∈ks,ev sub cf el ((σ++List.replicate k none).set i (some (f a))) S1=.ok (g a) S1) (hz:ks.length<=aS) :
  ev sub cf (.comp k el (.one i) it .nl) σ S=.ok (.loc S1.length) (S1++[.lst (ks.map g)]):=by
 rw [iD,hi]
 simp only [Res.aj]
 have:=lE (s:=⟨ks.map f,o,raw⟩) (f:=f) (fn:=fun d=>aJ (.one i) d (σ++List.replicate k none)>>=fun σ'=>(if E.aX .nl=true then pure true else evT sub cf .nl σ')>>=fun b=>if b=true then ev sub cf el σ'>>=fun y=>pure (some y) else pure none) (g:=fun a=>some (g a)) (S:=S1) hs (ks:=ks) (fun d hd=>by
  simp only [av,ig,Res.aj]
  show (ev sub cf el ((σ++List.replicate k none).set i (some (f d)))>>=fun y=>pure (some y)) S1=_
  rw [av,hg d hd]; rfl)
 rw [e9 this]
 have e:ks.filterMap (fun d=>some (g d))=ks.map g:=by rw [<- List.filterMap_eq_map]; rfl
 rw [e]
 simp only [Res.aj]
 rw [if_pos (show fits (ks.map g).length=true from decide_eq_true (by rw [List.length_map]; exact hz))]
section
variable {sub:Sub} {cf:Str->List D->M D} {σ:Sg} {S:aa}
@[simp] theorem jU:cT sub cf σ .nl S=.ok none S:=id rfl
@[simp] theorem xU (i:Int):cT sub cf σ (.c (.int i)) S=.ok (some i) S:=id rfl
theorem xR {k:Nat} {i:Int} (h:bq σ k S=.ok (.int i) S):cT sub cf σ (.v k) S=.ok (some i) S:=by
 unfold cT
 simp only [E.aX,Bool.false_eq_true,if_false,pK,h,Res.aj]
 rfl
theorem rz (n d m:Nat):sIx n d (some (m:Int))=min m n:=by
 show (if (m:Int) < 0 then ((m:Int)+(n:Int)).toNat else min (m:Int).toNat n)=_
 rw [if_neg (by omega)]; simp
theorem pJ (n d:Nat):sIx n d none=d:=rfl
theorem iw (xs:List D) (m:Nat):cut xs none (some (m:Int))=xs.take m:=by
 unfold cut
 rw [rz,pJ,List.drop_zero,Nat.sub_zero]
 by_cases h:m<=xs.length
 ·rw [Nat.min_eq_left h]
 ·rw [Nat.min_eq_right (by omega),List.take_of_length_le (Nat.le_refl _),List.take_of_length_le (by omega)]
theorem BQ (xs:List D) (m:Nat):cut xs (some (m:Int)) none=xs.drop m:=by
 unfold cut
 rw [rz,pJ]
 by_cases h:m<=xs.length
 ·rw [Nat.min_eq_left h,List.take_of_length_le (by simp)]
 ·rw [Nat.min_eq_right (by omega),List.drop_eq_nil_of_le (Nat.le_refl _),List.drop_eq_nil_of_le (by omega)]
  simp
@[simp] theorem j8 (xs:List D) (lo hi:Option Int):slD (.tup xs) lo hi S=.ok (.tup (cut xs lo hi)) S:=id rfl
theorem z9 {a b:Nat} {xs:List D} (ha:S[a]?=some (.lst xs)) (hb:S[b]?=some (.lst xs)) (h:bf (eqD 11 S) xs xs=some true):cmD .ne (.loc a) (.loc b) S=.ok (.bl false) S:=by
 rw [sI,if_pos (show ee (.loc a) (.loc b)=true from rfl),sj ha hb,if_pos rfl,h]
 rfl
theorem jl {f:D->D->Option Bool}:∀ {xs:List D},(∀ x∈xs,f x x=some true)->bf f xs xs=some true
 | [],_=>rfl
 | x::r,h=>by
  show (match f x x,bf f r r with|some a,some b=>some (a&&b)|_,_=>none)=_
  rw [h x List.mem_cons_self,jl fun y hy=>h y (List.mem_cons_of_mem _ hy)]
  rfl
theorem dF (n:Nat) (i:Int):eqD (n+1) S (.int i) (.int i)=some true:=by
 show some (i==i)=_
 simp
theorem qJ (n:Nat) (is:List Int):eqD (n+2) S (.tup (is.map .int)) (.tup (is.map .int))=some true:=by
 show (bf (eqD (n+1) S) (is.map .int) (is.map .int)).map (fun r=>r&&((is.map D.int).length==(is.map D.int).length))=_
 rw [jl fun x hx=>by obtain ⟨i,_,rfl⟩:=List.mem_map.mp hx; exact dF n i]
 simp
end
theorem mq (ds:List D):∀ (k i:Nat) (h:i < (num k ds).length),(num k ds)[i]=.tup [.int ((k+i:Nat):Int),ds[i]'(by have:(num k ds).length=ds.length:=(by clear h; induction ds generalizing k with|nil=>rfl|cons _ _ ih=>simp [num,ih]); omega)]:=by
 induction ds with
 | nil=>intro k i h; simp [num] at h
 | cons d r ih =>
  intro k i h
  cases i with
  | zero=>simp [num]
  | succ i =>
   simp only [num,List.getElem_cons_succ]
   rw [ih (k+1) i (by simpa [num] using h)]
   congr 3
   omega
theorem gT:∀ (ds:List D) (k:Nat),(num k ds).length=ds.length
 | [],_=>rfl
 | _::r,k=>by simp [num,gT r]
end EV

namespace GO
open PySem EV
theorem lS {S:aa} {l:Nat} {ds:List D} (h:S[l]?=some (.lst ds)):(D.loc l).dG S=true:=by show (match S[l]? with|some (.lst _)=>true|_=>false)=true; rw [h]
theorem Ar (T:aa) (ds:List D):(D.loc T.length).dG (T++[.lst ds])=true:=lS (ds:=ds) (by simp)
theorem oH (T:aa) (ds:List D) (G:aa):(D.loc T.length).dG (T++.lst ds::G)=true:=lS (ds:=ds) (by simp)
theorem FL (T:aa) (ds:List D) (G U:aa):(D.loc T.length).dG ((T++.lst ds::G)++U)=true:=by rw [List.append_assoc,List.cons_append]; exact oH _ _ _
section
variable {sub:Sub} {cf:Str->List D->M D} {σ σ1:Sg} {S S1 S2 S3:aa} {R:Res D} {RF:Res Fl} {x y z d:D} {ds:List D} {a b c r es:E} {u v w:EV.S}
theorem r_v {i:Nat} (h:bq σ i S=.ok d S):ev sub cf (.v i) σ S=.ok d S:=h
theorem r_c:ev sub cf (.c d) σ S=.ok d S:=id rfl
theorem a_ {o:Op2} (ha:ev sub cf a σ S=.ok x S1) (hb:ev sub cf b σ S1=.ok y S2) (h:opD o x y S2=R):ev sub cf (.bin o a b) σ S=R:=by rw [tV,ha,Res.aj,hb,Res.aj,h]
theorem bw {o:Cm} (ha:ev sub cf a σ S=.ok x S1) (hb:ev sub cf b σ S1=.ok y S2) (h:cmD o x y S2=R):ev sub cf (.cmp o a b) σ S=R:=by rw [qi,ha,Res.aj,hb,Res.aj,h]
theorem fh (ha:ev sub cf a σ S=.ok (.bl true) S1) (hb:ev sub cf b σ S1=R):ev sub cf (.and a b) σ S=R:=by rw [Eo,ha]; exact hb
theorem yU {i:Int} (ha:ev sub cf a σ S=.ok (.int i) S1):ev sub cf (.neg a) σ S=.ok (.int (-i)) S1:=by rw [t_,ha]; rfl
theorem BE (hc:evT sub cf c σ S=.ok true S1) (ha:ev sub cf a σ S1=R):ev sub cf (.ite c a b) σ S=R:=by rw [r_,hc,Res.aj,if_pos rfl,ha]
theorem E1 (hc:evT sub cf c σ S=.ok false S1) (hb:ev sub cf b σ S1=R):ev sub cf (.ite c a b) σ S=R:=by rw [r_,hc,Res.aj,if_neg (by decide),hb]
theorem ah:evs sub cf .nl σ S=.ok [] S:=id rfl
theorem af (ha:ev sub cf a σ S=.ok x S1) (hr:evs sub cf r σ S1=.ok ds S2):evs sub cf (.cs a r) σ S=.ok (x::ds) S2:=by rw [tK,ha,Res.aj,hr,Res.aj]
theorem br (hs:evs sub cf es σ S=.ok ds S1) (hz:fits ds.length=true):ev sub cf (.tup es) σ S=.ok (.tup ds) S1:=by rw [vc,hs,Res.aj,if_pos hz]
theorem cI (hs:evs sub cf es σ S=.ok ds S1) (hz:fits ds.length=true):ev sub cf (.lst es) σ S=.ok (.loc S1.length) (S1++[.lst ds]):=by rw [uN,hs,Res.aj,if_pos hz]
theorem aA (ha:ev sub cf a σ S=.ok x S1) (hb:ev sub cf b σ S1=.ok y S2) (h:ixD x y S2=R):ev sub cf (.ix a b) σ S=R:=by rw [y_,ha,Res.aj,hb,Res.aj,h]
theorem lV {lo hi:E} {p q:Option Int} (ha:ev sub cf a σ S=.ok x S1) (hl:cT sub cf σ lo S1=.ok p S2) (hh:cT sub cf σ hi S2=.ok q S3) (h:slD x p q S3=R):ev sub cf (.sl a lo hi) σ S=R:=by
 rw [uC,ha,Res.aj,hl,Res.aj,hh,Res.aj,h]
theorem aD {f:Str} (hs:evs sub cf es σ S=.ok ds S1) (h:cf f ds S1=R):ev sub cf (.call f es) σ S=R:=by rw [zf,hs,Res.aj,h]
theorem aQ {o:Bi} (hs:evs sub cf es σ S=.ok ds S1) (h:biD sub o ds S1=R):ev sub cf (.bi o es) σ S=R:=by rw [As,hs,Res.aj,h]
theorem gr {m:Me} {l:Nat} (ha:ev sub cf a σ S=.ok (.loc l) S1) (hs:evs sub cf es σ S1=.ok ds S2) (h:meD m (.loc l) ds S2=R) (hL:(D.loc l).dG S1=true:=by first|assumption|exact Ar _ _|exact oH _ _ _|exact lS (by assumption)):ev sub cf (.me m a es) σ S=R:=by
 rw [m8,ha,Res.aj,if_pos hL,hs,Res.aj,h]
theorem j5 {k:Bool} (h:ev sub cf a σ S=.ok (.bl k) S1) (ht:evT sub cf a σ S=(ev sub cf a σ S).bind fun d S1=>truth d S1):evT sub cf a σ S=.ok k S1:=by rw [ht,h]; rfl
theorem bU {f:Str} {k:Bool} (h:ev sub cf (.call f es) σ S=.ok (.bl k) S1):evT sub cf (.call f es) σ S=.ok k S1:=j5 h (DF _ _ _ _ _ _)
theorem gf {o:Bi} {k:Bool} (h:ev sub cf (.bi o es) σ S=.ok (.bl k) S1):evT sub cf (.bi o es) σ S=.ok k S1:=j5 h (vJ _ _ _ _ _ _)
theorem aW {o:Cm} {k:Bool} (h:ev sub cf (.cmp o a b) σ S=.ok (.bl k) S1):evT sub cf (.cmp o a b) σ S=.ok k S1:=j5 h (by
 rw [Eb,qi]; cases ev sub cf a σ S <;> simp [Res.bind]; rename_i q Q; cases ev sub cf b σ Q <;> simp [Res.bind])
theorem iC {k:Bool} (ha:evT sub cf a σ S=.ok true S1) (hb:evT sub cf b σ S1=.ok k S2):evT sub cf (.and a b) σ S=.ok k S2:=by rw [nI,ha,Res.aj,if_pos rfl,hb]
theorem iX (ha:evT sub cf a σ S=.ok false S1):evT sub cf (.and a b) σ S=.ok false S1:=by rw [nI,ha,Res.aj,if_neg (by decide)]
theorem Af (ha:evT sub cf a σ S=.ok true S1):evT sub cf (.or a b) σ S=.ok true S1:=by rw [tD,ha,Res.aj,if_pos rfl]
theorem cN {k:Bool} (ha:evT sub cf a σ S=.ok false S1) (hb:evT sub cf b σ S1=.ok k S2):evT sub cf (.or a b) σ S=.ok k S2:=by rw [tD,ha,Res.aj,if_neg (by decide),hb]
theorem bJ {k:Bool} (ha:evT sub cf a σ S=.ok k S1):evT sub cf (.not a) σ S=.ok (!k) S1:=by rw [Bs,ha,Res.aj]
theorem t_k {k k':Bool} (h:evT sub cf a σ S=.ok k' S1) (e:k'=k):evT sub cf a σ S=.ok k S1:=by rw [h,e]
theorem Cj (h:Nat.ble ds.length 1000=true):fits ds.length=true:=iu (Nat.le_of_ble_eq_true h)
theorem eW {i j:Int} (h:0 < j):opD .mod (.int i) (.int j) S=.ok (.int (i % j)) S:=by rw [x9,if_pos h]
theorem oN {i j:Int} (h:(small i||small j)=true):opD .mul (.int i) (.int j) S=.ok (.int (i * j)) S:=by rw [vz,if_pos h]
theorem oW {i:Int} (h:-1000000000000 < i/\i < 1000000000000):small i=true:=decide_eq_true ⟨by omega,by omega⟩
theorem Fz {i j:Int} (h:-1000000000000 < i/\i < 1000000000000):opD .mul (.int i) (.int j) S=.ok (.int (i * j)) S:=oN (by rw [oW h,Bool.true_or])
theorem p_ {i j:Int} (h:-1000000000000 < j/\j < 1000000000000):opD .mul (.int i) (.int j) S=.ok (.int (i * j)) S:=oN (by rw [oW h,Bool.or_true])
theorem jM {i j:Int} (h:0 < j/\j < 1073741824):opD .fdiv (.int i) (.int j) S=.ok (.int (i / j)) S:=by rw [Bw,if_pos (by rw [decide_eq_true h.1,decide_eq_true h.2]; rfl)]
theorem j4 {xs ys:List D} (h:fits (xs.length+ys.length)=true):opD .add (.tup xs) (.tup ys) S=.ok (.tup (xs++ys)) S:=by rw [BU,if_pos h]
theorem aC {xs:List D} {j:Int} (h:atI xs j=some d):ixD (.tup xs) (.int j) S=.ok d S:=by rw [AX,h,iz]
theorem qH {xs:List D} {j:Int} (h:atI xs j=some d):ixD (.fro xs) (.int j) S=.ok d S:=by rw [Dz,h,iz]
theorem qV {xs:List D} {j:Int} {l:Nat} (hl:S[l]?=some (.lst xs)) (h:atI xs j=some d):ixD (.loc l) (.int j) S=.ok d S:=by rw [ya hl,h,iz]
theorem eu {xs:List D}:biD sub .len [.tup xs] S=.ok (.int xs.length) S:=by rw [mO]; rfl
theorem ni {xs:List D}:biD sub .len [.fro xs] S=.ok (.int xs.length) S:=by rw [mO]; rfl
theorem qD {xs:List D} {l:Nat} (hl:S[l]?=some (.lst xs)):biD sub .len [.loc l] S=.ok (.int xs.length) S:=by rw [mO,eY hl]; rfl
theorem eg {xs:List D} {l:Nat} (hl:S[l]?=some (.lst xs)):biD sub .tuple [.loc l] S=.ok (.tup xs) S:=by rw [Di,eY hl]; rfl
theorem fO {t:Ty} {k:Bool} (h:cC sub S x t=some k):biD sub (.inst t) [x] S=.ok (.bl k) S:=by rw [yJ,h]
theorem bZ {α:Type} (T:List α) (c:α):(T++[c])[T.length]?=some c:=by simp
theorem vN {T:aa} {xs:List D} {j:Int} (h:atI xs j=some d):ixD (.loc T.length) (.int j) (T++[.lst xs])=.ok d (T++[.lst xs]):=qV (bZ T _) h
theorem sL {T:aa} {xs:List D}:biD sub .tuple [.loc T.length] (T++[.lst xs])=.ok (.tup xs) (T++[.lst xs]):=eg (bZ T _)
theorem yz {T:aa} {xs:List D}:biD sub .len [.loc T.length] (T++[.lst xs])=.ok (.int xs.length) (T++[.lst xs]):=qD (bZ T _)
theorem ic {s:Src} (ha:ev sub cf a σ S=.ok x S1) (h:srcOf x S1=.ok s S2):evI sub cf (.iSeq a) σ S=.ok s S2:=by rw [ua,ha,Res.aj,h]
theorem DJ {is:List Int} (hs:evs sub cf es σ S=.ok ds S1) (h:bO ds=some is):evI sub cf (.iRng es) σ S=.ok ⟨is.map .int,none,[]⟩ S1:=by rw [CZ,hs,Res.aj,h,iz,Res.aj]
theorem iO {j:Int} {k:Nat} {f:Nat->D} (hs:evs sub cf es σ S=.ok [.int j] S1) (hj:j=(k:Int)) (hk:k<=1000000) (hf:∀ i:Nat,f i=.int (i:Int)):evI sub cf (.iRng es) σ S=.ok ⟨(List.range k).map f,none,[]⟩ S1:=by
 subst hj
 rw [DJ hs (E0 (by omega) (by omega)),Int.toNat_natCast,List.map_map,show (D.int ∘ fun k:Nat=>(k:Int))=f from funext fun i=>(hf i).symm]
theorem aZ {i:Nat} (h:ev sub cf a σ S=.ok d S1):exec sub cf (.set (.one i) a) σ S=.ok (.nx (σ.set i (some d))) S1:=by rw [lQ,h,Res.aj,ig,Res.aj]
theorem sZ {is:List Nat} (h:ev sub cf a σ S=.ok (.tup ds) S1) (hl:ds.length=is.length):exec sub cf (.set (.many is) a) σ S=.ok (.nx (bT is ds σ)) S1:=by rw [lQ,h,Res.aj,mY,if_pos hl,Res.aj]
theorem gD (h:ev sub cf a σ S=.ok d S1):exec sub cf (.ex a) σ S=.ok (.nx σ) S1:=by rw [nZ,h,Res.aj]
theorem aN (h:ev sub cf a σ S=.ok d S1):exec sub cf (.ret a) σ S=.ok (.rt d) S1:=by rw [iV,h,Res.aj]
theorem dD (hc:evT sub cf c σ S=.ok true S1) (h:exec sub cf u σ S1=RF):exec sub cf (.ite c u v) σ S=RF:=by rw [jv,hc,Res.aj,if_pos rfl,h]
theorem aK (hc:evT sub cf c σ S=.ok false S1) (h:exec sub cf v σ S1=RF):exec sub cf (.ite c u v) σ S=RF:=by rw [jv,hc,Res.aj,if_neg (by decide),h]
theorem aq (hu:exec sub cf u σ S=.ok (.nx σ1) S1) (h:exec sub cf v σ1 S1=RF):exec sub cf (.seq u v) σ S=RF:=(EU hu).trans h
theorem d9 (hu:exec sub cf u σ S=.ok (.rt d) S1):exec sub cf (.seq u v) σ S=.ok (.rt d) S1:=by rw [gF,hu,xJ]
theorem aL:exec sub cf .skip σ S=.ok (.nx σ) S:=id rfl
theorem x_call {P:Prg} {n:Nat} {f:Str} {F:Fn} (hP:P.lookup f=some F) (hl:ds.length=F.par) (hb:exec sub (ai sub P n) F.body (frame F ds) S=.ok (.rt d) S1) (h:leave S d S1=R):ai sub P (n+1) f ds S=R:=by
 rw [b8 hP hl,hb,yD,h]
theorem uu {i:Nat} (h:exec sub cf u (σ.set i (some d)) S=RF):bY sub cf (.one i) u d σ S=RF:=(i7 i u d σ S).trans h
theorem oU {is:List Nat} (hl:ds.length=is.length) (h:exec sub cf u (bT is ds σ) S=RF):bY sub cf (.many is) u (.tup ds) σ S=RF:=(t6 is u ds σ S hl).trans h
theorem CA {P:Prg} {n:Nat} {f:Str} {F:Fn} (hP:P.lookup f=some F) (hl:ds.length=F.par) (hb:exec sub (ai sub P n) F.body (frame F ds) S=RF) (h:∃ S',RF=.ok (.rt d) S'/\S'.take S.length=S) (hc:d.cl):ai sub P (n+1) f ds S=.ok d S:=by
 obtain ⟨S',e,ht⟩:=h
 exact x_call hP hl (hb.trans e) (cU hc ht)
end
end GO

namespace RL
open PySem EV GO
noncomputable def d7:Fn:=⟨3,3,(.seq (.ite (.or (.not (.bi (.inst .int) (.cs (.v 0) .nl))) (.bi (.inst .bool) (.cs (.v 0) .nl)))
  (.ret (.c (.bl false)))
  .skip)
 (.ret (.chn .le .le (.v 1) (.v 0) (.v 2))))⟩
noncomputable def iH:Fn:=⟨1,1,(.ret (.call "is_whole" (.cs (.v 0) (.cs (.c (.int 0)) (.cs (.bin .sub (.c (.int 9973)) (.c (.int 1))) .nl)))))⟩
noncomputable def dU:Fn:=⟨3,3,(.ret (.and (.bi (.inst .tuple) (.cs (.v 0) .nl)) (.chn .le .le (.v 1) (.bi .len (.cs (.v 0) .nl)) (.v 2))))⟩
noncomputable def g6:Fn:=⟨1,1,(.ret (.and (.call "is_row" (.cs (.v 0) (.cs (.c (.int 2)) (.cs (.c (.int 2)) .nl)))) (.and (.call "is_whole" (.cs (.ix (.v 0) (.c (.int 0))) (.cs (.c (.int 1)) (.cs (.c (.int 3)) .nl)))) (.call "is_whole" (.cs (.ix (.v 0) (.c (.int 1))) (.cs (.c (.int 1)) (.cs (.c (.int 4)) .nl)))))))⟩
noncomputable def g7:Fn:=⟨1,1,(.ret (.and (.call "is_row" (.cs (.v 0) (.cs (.c (.int 1)) (.cs (.c (.int 3)) .nl)))) (.bi .all (.cs (.comp 2 (.call "is_crew" (.cs (.v 2) .nl)) (.one 2) (.iSeq (.v 0)) .nl) .nl))))⟩
noncomputable def fJ:Fn:=⟨3,4,(.seq (.ite (.or (.not (.call "is_row" (.cs (.v 0) (.cs (.c (.int 3)) (.cs (.c (.int 3)) .nl))))) (.not (.call "is_whole" (.cs (.ix (.v 0) (.c (.int 2))) (.cs (.c (.int 0)) (.cs (.c (.int 3)) .nl))))))
  (.ret (.c (.bl false)))
  .skip)
 (.seq (.set (.one 3) (.ite (.cmp .eq (.ix (.v 0) (.c (.int 2))) (.c (.int 0))) (.v 1) (.v 2)))
 (.ret (.call "is_whole" (.cs (.ix (.v 0) (.c (.int 1))) (.cs (.c (.int 0)) (.cs (.bin .sub (.v 3) (.c (.int 1))) .nl)))))))⟩
noncomputable def jq:Fn:=⟨4,4,(.seq (.ite (.or (.not (.call "is_row" (.cs (.v 0) (.cs (.c (.int 2)) (.cs (.c (.int 3)) .nl))))) (.not (.bi (.inst .str) (.cs (.ix (.v 0) (.c (.int 0))) .nl))))
  (.ret (.c (.bl false)))
  .skip)
 (.seq (.ite (.cmp .eq (.ix (.v 0) (.c (.int 0))) (.c (.str "work")))
  (.ret (.call "is_work_source" (.cs (.v 0) (.cs (.v 1) (.cs (.v 2) .nl)))))
  .skip)
 (.seq (.ite (.cmp .ne (.bi .len (.cs (.v 0) .nl)) (.c (.int 2)))
  (.ret (.c (.bl false)))
  .skip)
 (.seq (.ite (.cmp .eq (.ix (.v 0) (.c (.int 0))) (.c (.str "input")))
  (.ret (.call "is_whole" (.cs (.ix (.v 0) (.c (.int 1))) (.cs (.c (.int 0)) (.cs (.bin .sub (.v 3) (.c (.int 1))) .nl)))))
  .skip)
 (.ret (.and (.cmp .eq (.ix (.v 0) (.c (.int 0))) (.c (.str "value"))) (.call "is_value" (.cs (.ix (.v 0) (.c (.int 1))) .nl))))))))⟩
noncomputable def gW:Fn:=⟨1,1,(.ret (.and (.call "is_row" (.cs (.v 0) (.cs (.c (.int 3)) (.cs (.c (.int 3)) .nl)))) (.bi .all (.cs (.comp 2 (.call "is_value" (.cs (.v 2) .nl)) (.one 2) (.iSeq (.v 0)) .nl) .nl))))⟩
noncomputable def jy:Fn:=⟨5,6,(.seq (.ite (.not (.call "is_row" (.cs (.v 0) (.cs (.c (.int 5)) (.cs (.c (.int 5)) .nl)))))
  (.ret (.c (.bl false)))
  .skip)
 (.seq (.ite (.or (.not (.call "is_whole" (.cs (.ix (.v 0) (.c (.int 0))) (.cs (.c (.int 0)) (.cs (.bin .sub (.v 4) (.c (.int 1))) .nl))))) (.not (.call "is_whole" (.cs (.ix (.v 0) (.c (.int 1))) (.cs (.c (.int 1)) (.cs (.c (.int 8)) .nl))))))
  (.ret (.c (.bl false)))
  .skip)
 (.seq (.ite (.or (.not (.bi (.inst .str) (.cs (.ix (.v 0) (.c (.int 2))) .nl))) (.cmp .cg (.ix (.v 0) (.c (.int 2))) (.c (.tup [(.str "plus"),(.str "less"),(.str "times"),(.str "least"),(.str "greatest")]))))
  (.ret (.c (.bl false)))
  .skip)
 (.seq (.set (.one 5) (.ix (.v 0) (.c (.int 3))))
 (.seq (.ite (.or (.not (.call "is_row" (.cs (.v 5) (.cs (.c (.int 1)) (.cs (.c (.int 3)) .nl))))) (.not (.call "are_starts" (.cs (.ix (.v 0) (.c (.int 4))) .nl))))
  (.ret (.c (.bl false)))
  .skip)
 (.ret (.bi .all (.cs (.comp 2 (.call "is_source" (.cs (.v 7) (.cs (.v 1) (.cs (.v 2) (.cs (.v 3) .nl))))) (.one 7) (.iSeq (.v 5)) .nl) .nl))))))))⟩
noncomputable def gZ:Fn:=⟨3,4,(.seq (.ite (.not (.call "is_row" (.cs (.v 0) (.cs (.c (.int 1)) (.cs (.c (.int 8)) .nl)))))
  (.ret (.c (.bl false)))
  .skip)
 (.seq (.set (.one 3) (.bi .len (.cs (.v 0) .nl)))
 (.ret (.bi .all (.cs (.comp 3 (.call "is_work" (.cs (.v 6) (.cs (.v 5) (.cs (.v 3) (.cs (.v 1) (.cs (.v 2) .nl)))))) (.many [5,6]) (.iEnum (.v 0)) .nl) .nl)))))⟩
noncomputable def fP:Fn:=⟨2,4,(.seq (.ite (.not (.call "is_row" (.cs (.v 0) (.cs (.c (.int 1)) (.cs (.v 1) .nl)))))
  (.ret (.c (.bl false)))
  .skip)
 (.seq (.set (.one 2) (.c (.int 0)))
 (.seq (.forS (.one 3) (.iSeq (.v 0))
  (.seq (.ite (.not (.call "is_whole" (.cs (.v 3) (.cs (.v 2) (.cs (.bin .sub (.v 1) (.c (.int 1))) .nl)))))
  (.ret (.c (.bl false)))
  .skip)
 (.set (.one 2) (.bin .add (.v 3) (.c (.int 1))))))
 (.ret (.c (.bl true))))))⟩
noncomputable def jz:Fn:=⟨1,1,(.seq (.ite (.not (.call "is_row" (.cs (.v 0) (.cs (.c (.int 4)) (.cs (.c (.int 4)) .nl)))))
  (.ret (.c (.bl false)))
  .skip)
 (.seq (.ite (.or (.not (.call "is_whole" (.cs (.ix (.v 0) (.c (.int 0))) (.cs (.c (.int 0)) (.cs (.c (.int 6)) .nl))))) (.not (.call "are_crews" (.cs (.ix (.v 0) (.c (.int 1))) .nl))))
  (.ret (.c (.bl false)))
  .skip)
 (.ret (.and (.call "are_works" (.cs (.ix (.v 0) (.c (.int 2))) (.cs (.ix (.v 0) (.c (.int 0))) (.cs (.bi .len (.cs (.ix (.v 0) (.c (.int 1))) .nl)) .nl)))) (.call "are_outs" (.cs (.ix (.v 0) (.c (.int 3))) (.cs (.bi .len (.cs (.ix (.v 0) (.c (.int 2))) .nl)) .nl)))))))⟩
noncomputable def iZ:Fn:=⟨1,1,(.seq (.ite (.not (.call "is_loop" (.cs (.v 0) .nl)))
  (.rais "NoLoop")
  .skip)
 (.ret (.v 0)))⟩
noncomputable def cE:List Str:=["plus","less","times","least","greatest"]
noncomputable def aM (S:aa):Prop:=∀ (l:Nat) c,S[l]?=some c->∃ ds,c=.lst ds
noncomputable def Has (P:Prg) (x:String) (F:Fn):Prop:=P.lookup (Str.ofString x)=some F
inductive Srs where|val (v:Int)|inp (k:Nat)|wrk (w b:Nat)
noncomputable def Srs.toD:Srs->D
 | .val v=>.tup [.str "value",.int v]
 | .inp k=>.tup [.str "input",.int k]
 | .wrk w b=>.tup [.str "work",.int w,.int b]
structure Wk where
 crew:Nat
 long:Nat
 doing:Str
 srcs:List Srs
 starts:List Int
noncomputable def Wk.toD (w:Wk):D:=.tup [.int w.crew,.int w.long,.str w.doing,.tup (w.srcs.map Srs.toD),.tup (w.starts.map .int)]
structure Lp where
 streams:Nat
 crews:List (Nat × Nat)
 works:List Wk
 outs:List Nat
noncomputable def az (c:Nat × Nat):D:=.tup [.int c.1,.int c.2]
noncomputable def au (k:Nat):D:=.int k
noncomputable def Lp.toD (l:Lp):D:=.tup [.int l.streams,.tup (l.crews.map az),.tup (l.works.map Wk.toD),.tup (l.outs.map au)]
noncomputable def Srs.WF (own many streams:Nat):Srs->Prop
 | .val v=>0<=v/\v<=9972
 | .inp k=>k < streams
 | .wrk w b=>b<=3/\w < (if b=0 then own else many)
structure Wk.WF (own many streams ncrews:Nat) (w:Wk):Prop where
 crew:w.crew < ncrews
 long:1<=w.long/\w.long<=8
 doing:w.doing∈cE
 some:1<=w.srcs.length/\w.srcs.length<=3
 srcs:∀ s∈w.srcs,s.WF own many streams
 three:w.starts.length=3
 starts:∀ v∈w.starts,0<=v/\v<=9972
noncomputable def ck:Nat->Nat->List Nat->Prop
 | _,_,[]=>True
 | many,least,k::r=>least<=k/\k < many/\ck many (k+1) r
structure Lp.WF (l:Lp):Prop where
 streams:l.streams<=6
 ncrews:1<=l.crews.length/\l.crews.length<=3
 crews:∀ c∈l.crews,(1<=c.1/\c.1<=3)/\(1<=c.2/\c.2<=4)
 nworks:1<=l.works.length/\l.works.length<=8
 works:∀ (i:Nat) w,l.works[i]?=some w->w.WF i l.works.length l.streams l.crews.length
 nouts:1<=l.outs.length
 outs:ck l.works.length 0 l.outs
structure HB (P:Prg):Prop where
 whole:Has P "is_whole" d7
 value:Has P "is_value" iH
 row:Has P "is_row" dU
 crew:Has P "is_crew" g6
 crews:Has P "are_crews" g7
 worksource:Has P "is_work_source" fJ
 source:Has P "is_source" jq
 starts:Has P "are_starts" gW
 work:Has P "is_work" jy
 works:Has P "are_works" gZ
 outs:Has P "are_outs" fP
 loop:Has P "is_loop" jz
 checked:Has P "checked" iZ
variable {sub:Sub} {P:Prg} {n:Nat} {S:aa}
@[simp] theorem jt (S T:aa) (b:Bool):leave S (.bl b) (S++T)=.ok (.bl b) S:=cU rfl (fM _ _)
@[simp] theorem dw (S:aa) (b:Bool):leave S (.bl b) S=.ok (.bl b) S:=cU rfl (List.take_length)
@[simp] theorem nX (S T:aa) (b:Int):leave S (.int b) (S++T)=.ok (.int b) S:=cU rfl (fM _ _)
@[simp] theorem xq (S:aa) (b:Int):leave S (.int b) S=.ok (.int b) S:=cU rfl (List.take_length)
@[simp] theorem F9 (S S':aa) (d:D):aH S (.ok (.rt d) S')=leave S d S':=id rfl
theorem short {ds:List D} {k:Int} (h:(ds.length:Int)<=k) (hk:k<=1000):ds.length<=aS:=by unfold aS; omega
theorem pW {σ:Sg} {cf:Str->List D->M D} {a b c:E} {i j k:Int} (ha:ev sub cf a σ S=.ok (.int i) S) (hb:ev sub cf b σ S=.ok (.int j) S) (hc:ev sub cf c σ S=.ok (.int k) S) (h1:i<=j) (h2:j<=k) :
  ev sub cf (.chn .le .le a b c) σ S=.ok (.bl true) S:=by
 rw [xy,ha,Res.aj,hb,Res.aj,lu,Res.aj,decide_eq_true h1]
 show (ev sub cf c σ S).bind _=_
 rw [hc,Res.aj,lu,decide_eq_true h2]
theorem c9 (h:Has P "is_whole" d7) {i lo hi:Int} (h1:lo<=i) (h2:i<=hi):ai sub P (n+1) "is_whole" [.int i,.int lo,.int hi] S=.ok (.bl true) S :=
 x_call h rfl (aq (aK (cN (bJ (k:=true) (gf (aQ (af (r_v rfl) ah) (fO rfl)))) (k:=false) (gf (aQ (af (r_v rfl) ah) (fO rfl)))) aL) (aN (pW (r_v rfl) (r_v rfl) (r_v rfl) h1 h2))) (dw _ _)
theorem sP (h:HB P) {v:Int} (h1:0<=v) (h2:v<=9972):ai sub P (n+2) "is_value" [.int v] S=.ok (.bl true) S :=
 x_call h.value rfl (aN (aD (af (r_v rfl) (af r_c (af (a_ r_c r_c (gz _ _ _)) ah))) (c9 h.whole h1 h2))) (dw _ _)
theorem fX (h:Has P "is_row" dU) {ds:List D} {lo hi:Int} (h1:lo<=(ds.length:Int)) (h2:(ds.length:Int)<=hi):ai sub P (n+1) "is_row" [.tup ds,.int lo,.int hi] S=.ok (.bl true) S :=
 x_call h rfl (aN (fh (aQ (af (r_v rfl) ah) (fO rfl)) (pW (r_v rfl) (aQ (af (r_v rfl) ah) eu) (r_v rfl) h1 h2))) (dw _ _)
theorem iA (h:Has P "is_row" dU) {ds:List D} {lo hi:Int} (m:Nat) (hm:ds.length=m) (h1:lo<=(m:Int)) (h2:(m:Int)<=hi):ai sub P (n+1) "is_row" [.tup ds,.int lo,.int hi] S=.ok (.bl true) S :=
 fX h (by rw [hm]; exact h1) (by rw [hm]; exact h2)
theorem CP (h:HB P) {c:Nat × Nat} (hc:(1<=c.1/\c.1<=3)/\(1<=c.2/\c.2<=4)):ai sub P (n+2) "is_crew" [az c] S=.ok (.bl true) S :=
 x_call h.crew rfl (aN (fh (aD (af (r_v rfl) (af r_c (af r_c ah))) (iA h.row 2 rfl (by decide) (by decide)))
  (fh (aD (af (aA (r_v rfl) r_c (aC rfl)) (af r_c (af r_c ah))) (c9 h.whole (Int.ofNat_le.mpr hc.1.1) (Int.ofNat_le.mpr hc.1.2)))
   (aD (af (aA (r_v rfl) r_c (aC rfl)) (af r_c (af r_c ah))) (c9 h.whole (Int.ofNat_le.mpr hc.2.1) (Int.ofNat_le.mpr hc.2.2)))))) (dw _ _)
theorem jT {cf:Str->List D->M D} {σ:Sg} {i k:Nat} {el a:E} {α:Type} {l:List α} {f:α->D} (ha:ev sub cf a σ S=.ok (.tup (l.map f)) S) (hn:l.length<=1000) (h:∀ x∈l,ev sub cf el ((σ++List.replicate k none).set i (some (f x))) S=.ok (.bl true) S) :
  ∃ T,ev sub cf (.bi .all (.cs (.comp k el (.one i) (.iSeq a) .nl) .nl)) σ S=.ok (.bl true) (S++T):=by
 have hc:=qh (sub:=sub) (cf:=cf) (k:=k) (i:=i) (el:=el) (it:=.iSeq a) (σ:=σ) (S:=S) (S1:=S) (ks:=l) (f:=f) (g:=fun _=>.bl true) (o:=none) (raw:=l.map f) (ic ha rfl) rfl h (by unfold aS; omega)
 refine ⟨[.lst (l.map fun _=>.bl true)],aQ (R:=.ok (.bl true) _) (af hc ah) ((fS l fun _=>true).trans ?_)⟩
 rw [List.all_eq_true.mpr fun _ _=>rfl]
theorem zP (h:HB P) {cs:List (Nat × Nat)} (h1:1<=cs.length) (h2:cs.length<=3) (hc:∀ c∈cs,(1<=c.1/\c.1<=3)/\(1<=c.2/\c.2<=4)):ai sub P (n+3) "are_crews" [.tup (cs.map az)] S=.ok (.bl true) S:=by
 obtain ⟨T,e⟩:=jT (sub:=sub) (cf:=ai sub P (n+2)) (σ:=[some (.tup (cs.map az))]) (S:=S) (i:=2) (k:=2) (el:=.call "is_crew" (.cs (.v 2) .nl)) (a:=.v 0) (l:=cs) (f:=az) (r_v rfl) (by omega) (fun c hm=>aD (af (r_v rfl) ah) (CP h (hc c hm)))
 exact x_call h.crews rfl (aN (fh (aD (af (r_v rfl) (af r_c (af r_c ah))) (fX h.row (by rw [List.length_map]; omega) (by rw [List.length_map]; omega))) e)) (jt _ _ _)
theorem D5 (h:HB P) {vs:List Int} (h1:vs.length=3) (hv:∀ v∈vs,0<=v/\v<=9972):ai sub P (n+3) "are_starts" [.tup (vs.map .int)] S=.ok (.bl true) S:=by
 obtain ⟨T,e⟩:=jT (sub:=sub) (cf:=ai sub P (n+2)) (σ:=[some (.tup (vs.map .int))]) (S:=S) (i:=2) (k:=2) (el:=.call "is_value" (.cs (.v 2) .nl)) (a:=.v 0) (l:=vs) (f:=.int) (r_v rfl) (by omega) (fun c hm=>aD (af (r_v rfl) ah) (sP h (hv c hm).1 (hv c hm).2))
 exact x_call h.starts rfl (aN (fh (aD (af (r_v rfl) (af r_c (af r_c ah))) (fX h.row (by rw [List.length_map,h1]; decide) (by rw [List.length_map,h1]; decide))) e)) (jt _ _ _)
theorem AF (h:HB P) {x:D} {w b own many:Nat} (hb:b<=3) (hw:w < (if b=0 then own else many)):ai sub P (n+2) "is_work_source" [.tup [x,.int w,.int b],.int own,.int many] S=.ok (.bl true) S:=by
 have h0:∀ k:Nat,(0:Int)<=(k:Int):=fun k=>Int.natCast_nonneg k
 refine x_call h.worksource rfl (aq (aK (cN (bJ (k:=true) (bU (aD (af (r_v rfl) (af r_c (af r_c ah))) (iA h.row 3 rfl (by decide) (by decide)))))
  (k:=false) (bJ (k:=true) (bU (aD (af (aA (r_v rfl) r_c (aC rfl)) (af r_c (af r_c ah))) (c9 h.whole (h0 b) (Int.ofNat_le.mpr hb)))))) aL)
  (aq (aZ (d:=.int ((if b=0 then own else many:Nat):Int)) (S1:=S) ?_) (aN (aD (af (aA (r_v rfl) r_c (aC rfl)) (af r_c (af (a_ (r_v rfl) r_c (gz _ _ _)) ah))) (c9 h.whole (h0 w) (by omega)))))) (dw _ _)
 by_cases z:b=0
 ·rw [if_pos z]; subst z
  exact BE (S1:=S) (aW (bw (aA (r_v rfl) r_c (aC rfl)) r_c (gk _ _ _))) (r_v rfl)
 ·rw [if_neg z]
  exact E1 (S1:=S) (t_k (aW (bw (aA (r_v rfl) r_c (aC rfl)) r_c (gk _ _ _))) (beq_false_of_ne (by omega))) (r_v rfl)
theorem ug (h:HB P) {s:Srs} {own many streams:Nat} (hs:s.WF own many streams):ai sub P (n+3) "is_source" [s.toD,.int own,.int many,.int streams] S=.ok (.bl true) S:=by
 have first:∀ {x:Str} {r:List D} {σ:Sg} (e:bq σ 0 S=.ok (.tup (.str x::r)) S) (m:Nat) (hm:(D.str x::r).length=m) (h1:2<=(m:Int)) (h2:(m:Int)<=3),evT sub (ai sub P (n+2)) (.or (.not (.call "is_row" (.cs (.v 0) (.cs (.c (.int 2)) (.cs (.c (.int 3)) .nl))))) (.not (.bi (.inst .str) (.cs (.ix (.v 0) (.c (.int 0))) .nl)))) σ S=.ok false S:=fun {x r σ} e m hm h1 h2 =>
  cN (bJ (k:=true) (bU (aD (af (r_v e) (af r_c (af r_c ah))) (iA h.row m hm h1 h2)))) (k:=false) (bJ (k:=true) (gf (aQ (af (aA (r_v e) r_c (aC (d:=.str x) (rm _))) ah) (fO rfl))))
 have word:∀ {x:Str} {r:List D} {σ:Sg} (y:Str) {k:Bool} (e:bq σ 0 S=.ok (.tup (.str x::r)) S) (hk:(x==y)=k),ev sub (ai sub P (n+2)) (.cmp .eq (.ix (.v 0) (.c (.int 0))) (.c (.str y))) σ S=.ok (.bl k) S:=fun y k e hk=>by
  rw [<- hk]; exact bw (aA (r_v e) r_c (aC (rm _))) r_c (jP _ _ _)
 have two:∀ {x y:D} {σ:Sg} (e:bq σ 0 S=.ok (.tup [x,y]) S),evT sub (ai sub P (n+2)) (.cmp .ne (.bi .len (.cs (.v 0) .nl)) (.c (.int 2))) σ S=.ok false S:=fun e =>
  aW (bw (aQ (af (r_v e) ah) eu) r_c (vq _ _ _))
 cases s with
 | val v =>
  exact x_call h.source rfl (aq (aK (first (x:="value") rfl 2 rfl (by decide) (by decide)) aL) (aq (aK (aW (word "work" (x:="value") rfl (by decide +kernel))) aL) (aq (aK (two rfl) aL) (aq (aK (aW (word "input" (x:="value") rfl (by decide +kernel))) aL)
   (aN (fh (word "value" (x:="value") rfl (by decide +kernel)) (aD (af (aA (r_v rfl) r_c (aC rfl)) ah) (sP h hs.1 hs.2)))))))) (dw _ _)
 | inp k =>
  have hk:k < streams:=hs
  exact x_call h.source rfl (aq (aK (first (x:="input") rfl 2 rfl (by decide) (by decide)) aL) (aq (aK (aW (word "work" (x:="input") rfl (by decide +kernel))) aL) (aq (aK (two rfl) aL) (d9 (dD (aW (word "input" (x:="input") rfl (by decide +kernel)))
   (aN (aD (af (aA (r_v rfl) r_c (aC rfl)) (af r_c (af (a_ (r_v rfl) r_c (gz _ _ _)) ah))) (c9 h.whole (Int.natCast_nonneg k) (by omega))))))))) (dw _ _)
 | wrk w b =>
  exact x_call h.source rfl (aq (aK (first (x:="work") rfl 3 rfl (by decide) (by decide)) aL) (d9 (dD (aW (word "work" (x:="work") rfl (by decide +kernel))) (aN (aD (af (r_v rfl) (af (r_v rfl) (af (r_v rfl) ah))) (AF h hs.1 hs.2)))))) (dw _ _)
theorem y9 {x:Str} (h:x∈cE):cmD .cg (.str x) (.tup [(.str "plus"),(.str "less"),(.str "times"),(.str "least"),(.str "greatest")]) S=.ok (.bl false) S:=by
 have h:x = "plus"\/x = "less"\/x = "times"\/x = "least"\/x = "greatest":=by simpa [cE] using h
 rcases h with rfl|rfl|rfl|rfl|rfl <;> rfl
theorem zR (h:HB P) {w:Wk} {own many streams ncrews:Nat} (hw:w.WF own many streams ncrews):ai sub P (n+4) "is_work" [w.toD,.int own,.int many,.int streams,.int ncrews] S=.ok (.bl true) S:=by
 have hc:=hw.crew
 obtain ⟨T,e⟩:=jT (sub:=sub) (cf:=ai sub P (n+3)) (σ:=[some w.toD,some (.int own),some (.int many),some (.int streams),some (.int ncrews),some (.tup (w.srcs.map Srs.toD))]) (S:=S) (i:=7) (k:=2) (el:=.call "is_source" (.cs (.v 7) (.cs (.v 1) (.cs (.v 2) (.cs (.v 3) .nl))))) (a:=.v 5) (l:=w.srcs) (f:=Srs.toD) (r_v rfl) (by have:=hw.some; omega) (fun s hm=>aD (af (r_v rfl) (af (r_v rfl) (af (r_v rfl) (af (r_v rfl) ah)))) (ug h (hw.srcs s hm)))
 refine x_call h.work rfl (aq (aK (bJ (k:=true) (bU (aD (af (r_v rfl) (af r_c (af r_c ah))) (iA h.row 5 rfl (by decide) (by decide))))) aL)
  (aq (aK (cN (bJ (k:=true) (bU (aD (af (aA (r_v rfl) r_c (aC rfl)) (af r_c (af (a_ (r_v rfl) r_c (gz _ _ _)) ah))) (c9 h.whole (Int.natCast_nonneg _) (by omega))))) (k:=false)
   (bJ (k:=true) (bU (aD (af (aA (r_v rfl) r_c (aC rfl)) (af r_c (af r_c ah))) (c9 h.whole (Int.ofNat_le.mpr hw.long.1) (Int.ofNat_le.mpr hw.long.2)))))) aL)
  (aq (aK (cN (bJ (k:=true) (gf (aQ (af (aA (r_v rfl) r_c (aC rfl)) ah) (fO rfl)))) (aW (bw (aA (r_v rfl) r_c (aC rfl)) r_c (y9 hw.doing)))) aL)
  (aq (aZ (aA (r_v rfl) r_c (aC rfl)))
  (aq (aK (cN (bJ (k:=true) (bU (aD (af (r_v rfl) (af r_c (af r_c ah))) (fX h.row (ds:=w.srcs.map Srs.toD) ?_ ?_)))) (k:=false) (bJ (k:=true) (bU (aD (af (aA (r_v rfl) r_c (aC rfl)) ah) (D5 h hw.three hw.starts))))) aL)
  (aN e)))))) (jt _ _ _)
 ·rw [List.length_map]; have:=hw.some; omega
 ·rw [List.length_map]; have:=hw.some; omega
theorem wj (h:HB P) {ws:List Wk} {streams ncrews:Nat} (h1:1<=ws.length) (h2:ws.length<=8) (hw:∀ (i:Nat) w,ws[i]?=some w->w.WF i ws.length streams ncrews):ai sub P (n+5) "are_works" [.tup (ws.map Wk.toD),.int streams,.int ncrews] S=.ok (.bl true) S:=by
 have hc:=o9 (sub:=sub) (cf:=ai sub P (n+4)) (k:=3) (is:=[5,6]) (el:=.call "is_work" (.cs (.v 6) (.cs (.v 5) (.cs (.v 3) (.cs (.v 1) (.cs (.v 2) .nl)))))) (it:=.iEnum (.v 0))
  (σ:=[some (.tup (ws.map Wk.toD)),some (.int streams),some (.int ncrews),some (.int ws.length)]) (S:=S) (S1:=S) (s:=⟨num 0 (ws.map Wk.toD),none,ws.map Wk.toD⟩) (g:=fun _=>.bl true) rfl rfl (fun d hd=>by
   obtain ⟨i,hi,rfl⟩:=List.mem_iff_getElem.mp hd
   have hi':i < ws.length:=by rw [gT,List.length_map] at hi; exact hi
   refine ⟨_,mq _ 0 i hi,rfl,?_⟩
   rw [List.getElem_map,Nat.zero_add]
   exact aD (af (r_v rfl) (af (r_v rfl) (af (r_v rfl) (af (r_v rfl) (af (r_v rfl) ah))))) (zR h (hw i _ (List.getElem?_eq_getElem hi')))) (by unfold aS; rw [gT,List.length_map]; omega)
 have ha:ev sub (ai sub P (n+4)) (.bi .all (.cs (.comp 3 (.call "is_work" (.cs (.v 6) (.cs (.v 5) (.cs (.v 3) (.cs (.v 1) (.cs (.v 2) .nl)))))) (.many [5,6]) (.iEnum (.v 0)) .nl) .nl)) [some (.tup (ws.map Wk.toD)),some (.int streams),some (.int ncrews),some (.int ws.length)] S=.ok (.bl true) (S++[.lst ((num 0 (ws.map Wk.toD)).map fun _=>.bl true)]) :=
  aQ (af hc ah) ((fS _ fun _=>true).trans (by rw [List.all_eq_true.mpr fun _ _=>rfl]))
 refine x_call h.works rfl (aq (aK (bJ (k:=true) (bU (aD (af (r_v rfl) (af r_c (af r_c ah))) (fX h.row (ds:=ws.map Wk.toD) ?_ ?_)))) aL)
  (aq (aZ (d:=.int ws.length) (S1:=S) ?_) (aN ha))) (jt _ _ _)
 ·rw [List.length_map]; omega
 ·rw [List.length_map]; omega
 ·have:=eu (sub:=sub) (S:=S) (xs:=ws.map Wk.toD)
  rw [List.length_map] at this
  exact aQ (af (r_v rfl) ah) this
theorem rC (h:HB P) {d0:D} {many:Nat} {s:Src} (hs:∀ T,aE s T=.ok () T):∀ (l:List Nat) (least:Nat) (x:Option D),ck many least l->∃ σ',forL s (bY sub (ai sub P (n+1)) (.one 3) (.seq (.ite (.not (.call "is_whole" (.cs (.v 3) (.cs (.v 2) (.cs (.bin .sub (.v 1) (.c (.int 1))) .nl))))) (.ret (.c (.bl false))) .skip) (.set (.one 2) (.bin .add (.v 3) (.c (.int 1))))))
   (l.map au) [some d0,some (.int many),some (.int least),x] S=.ok (.nx σ') S
 | [],least,x,_=>⟨_,by rw [List.map_nil,jJ,hs,Res.aj]⟩
 | k::r,least,x,⟨h1,h2,h3⟩=>by
  obtain ⟨σ',e⟩:=rC h hs r (k+1) (some (au k)) h3
  refine ⟨σ',?_⟩
  rw [List.map_cons,jj,hs,Res.aj,i7,aq (aK (bJ (k:=true) (bU (aD (af (r_v rfl) (af (r_v rfl) (af (a_ (r_v rfl) r_c (gz _ _ _)) ah))) (c9 h.whole (Int.ofNat_le.mpr h1) (by omega))))) aL) (aZ (a_ (r_v rfl) r_c (jH _ _ _)))]
  exact e
theorem jK {many:Nat}:∀ {l:List Nat} {least:Nat},ck many least l->least<=many->l.length+least<=many
 | [],_,_,h=>by simpa using h
 | k::r,least,⟨h1,h2,h3⟩,_=>by
  have:=jK h3 (by omega)
  simp only [List.length_cons]; omega
theorem zL (h:HB P) {os:List Nat} {many:Nat} (h1:1<=os.length) (hr:ck many 0 os):ai sub P (n+2) "are_outs" [.tup (os.map au),.int many] S=.ok (.bl true) S:=by
 have hl:=jK hr (Nat.zero_le _)
 obtain ⟨σ',e⟩:=rC (sub:=sub) (n:=n) (S:=S) (d0:=.tup (os.map au)) (s:=⟨os.map au,none,os.map au⟩) h (fun _=>rfl) os 0 none hr
 exact x_call h.outs rfl (aq (aK (bJ (k:=true) (bU (aD (af (r_v rfl) (af r_c (af (r_v rfl) ah))) (fX h.row (ds:=os.map au) (by rw [List.length_map]; omega) (by rw [List.length_map]; omega))))) aL)
  (aq (aZ r_c) (aq (gC (ic (r_v rfl) rfl) e) (aN r_c)))) (dw _ _)
theorem Ce (h:HB P) {l:Lp} (hl:l.WF):ai sub P (n+6) "is_loop" [l.toD] S=.ok (.bl true) S:=by
 have e1:=eu (sub:=sub) (S:=S) (xs:=l.crews.map az)
 have e2:=eu (sub:=sub) (S:=S) (xs:=l.works.map Wk.toD)
 rw [List.length_map] at e1 e2
 exact x_call h.loop rfl (aq (aK (bJ (k:=true) (bU (aD (af (r_v rfl) (af r_c (af r_c ah))) (iA h.row 4 rfl (by decide) (by decide))))) aL)
  (aq (aK (cN (bJ (k:=true) (bU (aD (af (aA (r_v rfl) r_c (aC rfl)) (af r_c (af r_c ah))) (c9 h.whole (Int.natCast_nonneg _) (Int.ofNat_le.mpr hl.streams))))) (k:=false)
   (bJ (k:=true) (bU (aD (af (aA (r_v rfl) r_c (aC rfl)) ah) (zP h hl.ncrews.1 hl.ncrews.2 hl.crews))))) aL)
  (aN (fh (aD (af (aA (r_v rfl) r_c (aC rfl)) (af (aA (r_v rfl) r_c (aC rfl)) (af (aQ (af (aA (r_v rfl) r_c (aC rfl)) ah) e1) ah))) (wj h hl.nworks.1 hl.nworks.2 hl.works))
   (aD (af (aA (r_v rfl) r_c (aC rfl)) (af (aQ (af (aA (r_v rfl) r_c (aC rfl)) ah) e2) ah)) (zL h hl.nouts hl.outs)))))) (dw _ _)
end RL

namespace RL
open PySem EV GO
section
local macro_rules|`(tactic| done)=>`(tactic| (first|with_reducible exact r_c|((with_reducible apply r_v); exact rfl)|with_reducible apply a_|with_reducible apply bw|with_reducible apply aA|with_reducible apply aD|with_reducible exact ah|with_reducible apply af|with_reducible apply aQ|with_reducible apply gr|with_reducible apply br|with_reducible apply cI|((with_reducible apply Cj); exact rfl)|with_reducible apply yU|with_reducible apply bU|with_reducible apply gf|with_reducible apply aW|with_reducible exact jH _ _ _|with_reducible exact gz _ _ _|((with_reducible apply eW); first|decide|assumption|omega)|((with_reducible apply Fz); first|decide|omega)|((with_reducible apply p_); first|decide|omega)|((with_reducible apply jM); decide)|with_reducible exact sF _ _ _|with_reducible exact lu _ _ _|with_reducible exact vj _ _ _|with_reducible exact zy _ _ _|with_reducible exact gk _ _ _|with_reducible exact jP _ _ _|((with_reducible apply vN); assumption)|with_reducible exact sL|with_reducible exact yz|with_reducible exact eu|with_reducible exact ni|((with_reducible apply aC); exact rfl)|with_reducible assumption|((apply eW); first|decide|assumption)|apply gk|apply jP))
noncomputable def qT:Fn:=⟨2,2,(.seq (.ite (.cmp .lt (.v 1) (.bi .len (.cs (.v 0) .nl)))
  (.ret (.ix (.v 0) (.v 1)))
  .skip)
 (.seq (.ite (.cmp .eq (.v 0) (.lst .nl))
  (.ret (.c (.int 0)))
  .skip)
 (.ret (.bin .add (.bin .mul (.ix (.v 0) (.bin .mod (.v 1) (.bi .len (.cs (.v 0) .nl)))) (.c (.int 31))) (.v 1)))))⟩
noncomputable def nB:Fn:=⟨3,4,(.seq (.set (.one 3) (.bin .mod (.bin .mul (.bin .add (.bin .add (.call "_law_cell_at" (.cs (.v 0) (.cs (.v 1) .nl))) (.bin .mul (.c (.int 7919)) (.v 1))) (.c (.int 1))) (.c (.int 48271))) (.c (.int 2147483647))))
 (.ret (.bin .mod (.bin .mod (.bin .add (.bin .add (.bin .mul (.v 3) (.v 3)) (.bin .mul (.c (.int 7)) (.v 3))) (.v 1)) (.c (.int 2147483629))) (.v 2))))⟩
noncomputable def qy:Fn:=⟨5,7,(.seq (.set (.one 5) (.call "_law_mixed" (.cs (.v 0) (.cs (.v 1) (.cs (.c (.int 7)) .nl)))))
 (.seq (.ite (.or (.cmp .eq (.v 5) (.c (.int 0))) (.and (.cmp .eq (.v 5) (.c (.int 1))) (.cmp .eq (.v 2) (.c (.int 0)))))
  (.ret (.tup (.cs (.c (.str "value")) (.cs (.call "_law_mixed" (.cs (.v 0) (.cs (.bin .add (.v 1) (.c (.int 1))) (.cs (.c (.int 9973)) .nl)))) .nl))))
  .skip)
 (.seq (.ite (.cmp .eq (.v 5) (.c (.int 1)))
  (.ret (.tup (.cs (.c (.str "input")) (.cs (.call "_law_mixed" (.cs (.v 0) (.cs (.bin .add (.v 1) (.c (.int 1))) (.cs (.v 2) .nl)))) .nl))))
  .skip)
 (.seq (.set (.one 6) (.call "_law_mixed" (.cs (.v 0) (.cs (.bin .add (.v 1) (.c (.int 1))) (.cs (.v 3) .nl)))))
 (.seq (.ite (.and (.cmp .lt (.v 6) (.v 4)) (.cmp .lt (.v 5) (.c (.int 5))))
  (.ret (.tup (.cs (.c (.str "work")) (.cs (.v 6) (.cs (.c (.int 0)) .nl)))))
  .skip)
 (.ret (.tup (.cs (.c (.str "work")) (.cs (.v 6) (.cs (.bin .add (.c (.int 1)) (.call "_law_mixed" (.cs (.v 0) (.cs (.bin .add (.v 1) (.c (.int 2))) (.cs (.c (.int 3)) .nl))))) .nl))))))))))⟩
noncomputable def tQ:Fn:=⟨4,12,(.seq (.set (.many [4,5,6]) (.v 2))
 (.seq (.set (.one 7) (.lst .nl))
 (.seq (.forS (.one 8) (.iRng (.cs (.bin .add (.c (.int 1)) (.call "_law_mixed" (.cs (.v 0) (.cs (.bin .add (.v 1) (.c (.int 2))) (.cs (.c (.int 2)) .nl))))) .nl))
  (.ex (.me .append (.v 7) (.cs (.call "_law_source" (.cs (.v 0) (.cs (.bin .add (.bin .add (.v 1) (.c (.int 3))) (.bin .mul (.c (.int 3)) (.v 8))) (.cs (.v 4) (.cs (.v 6) (.cs (.v 3) .nl)))))) .nl))))
 (.seq (.set (.one 9) (.ix (.lst (.cs (.c (.str "plus")) (.cs (.c (.str "less")) (.cs (.c (.str "times")) (.cs (.c (.str "least")) (.cs (.c (.str "greatest")) .nl)))))) (.call "_law_mixed" (.cs (.v 0) (.cs (.v 1) (.cs (.c (.int 5)) .nl))))))
 (.seq (.set (.one 10) (.bin .add (.c (.int 1)) (.call "_law_mixed" (.cs (.v 0) (.cs (.bin .add (.v 1) (.c (.int 1))) (.cs (.ix (.lst (.cs (.c (.int 2)) (.cs (.c (.int 5)) .nl))) (.call "_law_mixed" (.cs (.v 0) (.cs (.bin .add (.v 1) (.c (.int 2))) (.cs (.c (.int 2)) .nl))))) .nl))))))
 (.seq (.set (.one 11) (.bi .tuple (.cs (.comp 2 (.call "_law_mixed" (.cs (.v 0) (.cs (.bin .add (.v 1) (.v 13)) (.cs (.c (.int 9973)) .nl)))) (.one 13) (.iSeq (.tup (.cs (.c (.int 0)) (.cs (.c (.int 5)) (.cs (.c (.int 6)) .nl))))) .nl) .nl)))
 (.ret (.tup (.cs (.call "_law_mixed" (.cs (.v 0) (.cs (.bin .add (.v 1) (.c (.int 7))) (.cs (.v 5) .nl)))) (.cs (.v 10) (.cs (.v 9) (.cs (.bi .tuple (.cs (.v 7) .nl)) (.cs (.v 11) .nl)))))))))))))⟩
noncomputable def oJ:Fn:=⟨3,9,(.seq (.set (.one 3) (.call "_law_mixed" (.cs (.v 0) (.cs (.v 1) (.cs (.c (.int 3)) .nl)))))
 (.seq (.set (.one 4) (.bin .add (.c (.int 1)) (.call "_law_mixed" (.cs (.v 0) (.cs (.bin .add (.v 1) (.c (.int 1))) (.cs (.v 2) .nl))))))
 (.seq (.set (.one 5) (.lst .nl))
 (.seq (.forS (.one 6) (.iRng (.cs (.bin .add (.c (.int 1)) (.call "_law_mixed" (.cs (.v 0) (.cs (.bin .add (.v 1) (.c (.int 2))) (.cs (.c (.int 2)) .nl))))) .nl))
  (.ex (.me .append (.v 5) (.cs (.tup (.cs (.bin .add (.c (.int 1)) (.call "_law_mixed" (.cs (.v 0) (.cs (.bin .add (.bin .add (.v 1) (.c (.int 3))) (.v 6)) (.cs (.c (.int 2)) .nl))))) (.cs (.bin .add (.c (.int 1)) (.bin .fdiv (.call "_law_mixed" (.cs (.v 0) (.cs (.bin .add (.bin .add (.v 1) (.c (.int 5))) (.v 6)) (.cs (.c (.int 5)) .nl)))) (.c (.int 2)))) .nl))) .nl))))
 (.seq (.set (.one 7) (.lst .nl))
 (.seq (.forS (.one 6) (.iRng (.cs (.v 4) .nl))
  (.ex (.me .append (.v 7) (.cs (.call "_law_work" (.cs (.v 0) (.cs (.bin .add (.bin .add (.v 1) (.c (.int 7))) (.bin .mul (.c (.int 9)) (.v 6))) (.cs (.tup (.cs (.v 3) (.cs (.bi .len (.cs (.v 5) .nl)) (.cs (.v 4) .nl)))) (.cs (.v 6) .nl))))) .nl))))
 (.seq (.set (.one 8) (.comp 2 (.v 10) (.one 10) (.iRng (.cs (.v 4) .nl)) (.cmp .gt (.call "_law_mixed" (.cs (.v 0) (.cs (.bin .add (.bin .add (.v 1) (.c (.int 7))) (.v 10)) (.cs (.c (.int 3)) .nl)))) (.c (.int 0)))))
 (.seq (.ite (.cmp .eq (.v 8) (.lst .nl))
  (.set (.one 8) (.lst (.cs (.bin .sub (.v 4) (.c (.int 1))) .nl)))
  .skip)
 (.ret (.tup (.cs (.v 3) (.cs (.bi .tuple (.cs (.v 5) .nl)) (.cs (.bi .tuple (.cs (.v 7) .nl)) (.cs (.bi .tuple (.cs (.v 8) .nl)) .nl))))))))))))))⟩
theorem Srs.cl (s:Srs):s.toD.cl:=by cases s <;> rfl
theorem Wk.cl (w:Wk):w.toD.cl:=by
 show (true&&(true&&(true&&(D.lows 0 (w.srcs.map Srs.toD)&&(D.lows 0 (w.starts.map .int)&&true)))))=true
 rw [jC Srs.cl,AO]; rfl
theorem Lp.cl (l:Lp):l.toD.cl:=by
 show (true&&(D.lows 0 (l.crews.map az)&&(D.lows 0 (l.works.map Wk.toD)&&(D.lows 0 (l.outs.map au)&&true))))=true
 rw [jC (f:=az) fun _=>rfl,jC Wk.cl,jC (f:=au) fun _=>rfl]; rfl
theorem nN {sub:Sub} {P:Prg} {n:Nat} {S:aa} (h:HB P) {l:Lp} (hw:l.WF):ai sub P (n+7) "checked" [l.toD] S=.ok l.toD S :=
 x_call h.checked rfl (aq (aK (bJ (k:=true) (bU (aD (af (r_v rfl) ah) (Ce h hw)))) aL) (aN (r_v rfl))) (cU l.cl List.take_length)
noncomputable def cellAt (ns:List Int) (k:Int):Int:=if k < ns.length then ns.getD k.toNat 0 else if ns.length=0 then 0 else ns.getD (k % (ns.length:Int)).toNat 0 * 31+k
noncomputable def drawn (ns:List Int) (k:Int):Int:=(cellAt ns k+7919 * k+1) * 48271 % 2147483647
noncomputable def mixed (ns:List Int) (k m:Int):Int:=(drawn ns k * drawn ns k+7 * drawn ns k+k) % 2147483629 % m
theorem vI (ns:List Int) (k:Int) {m:Int} (h:0 < m):0<=mixed ns k m/\mixed ns k m < m:=⟨Int.emod_nonneg _ (by omega),Int.emod_lt_of_pos _ h⟩
structure HG (P:Prg):Prop where
 cell:Has P "_law_cell_at" qT
 mix:Has P "_law_mixed" nB
 source:Has P "_law_source" qy
 work:Has P "_law_work" tQ
 loop:Has P "_law_loop" oJ
variable {sub:Sub} {P:Prg} {n:Nat} {S:aa}
theorem qU {ns:List Int} {k:Int} (h0:0<=k) (h:k < ns.length):atI (ns.map D.int) k=some (.int (ns.getD k.toNat 0)):=by
 obtain ⟨j,rfl⟩:=Int.eq_ofNat_of_zero_le h0
 rw [dI]
 have hj:j < ns.length:=by omega
 simp [hj]
theorem eq_empty (ns:List Int) (S:aa):cmD .eq (.fro (ns.map .int)) (.loc S.length) (S++[.lst []])=.ok (.bl (decide (ns.length=0))) (S++[.lst []]):=by
 rw [sO]
 have:eqD deep (S++[.lst []]) (.fro (ns.map .int)) (.loc S.length)=some (decide (ns.length=0)):=by
  show (match some (ns.map D.int),listAt (S++[.lst []]) S.length with|some xs,some ys=>if xs.length=ys.length then bf _ xs ys else some false|_,_=>none)=_
  have e:listAt (S++[.lst []]) S.length=some []:=by unfold listAt; simp
  rw [e]
  cases ns <;> simp [bf]
 rw [this]
theorem AJ (h:HG P) (ns:List Int) {k:Int} (hk:0<=k):ai sub P (n+1) "_law_cell_at" [.fro (ns.map .int),.int k] S=.ok (.int (cellAt ns k)) S:=by
 have hl:∀ S:aa,biD sub .len [.fro (ns.map .int)] S=.ok (.int ns.length) S:=fun S=>by
  have:=ni (sub:=sub) (S:=S) (xs:=ns.map .int)
  rw [List.length_map] at this
  exact this
 have e1:∀ {b:Bool},decide (k < (ns.length:Int))=b->evT sub (ai sub P n) (.cmp .lt (.v 1) (.bi .len (.cs (.v 0) .nl))) [some (.fro (ns.map .int)),some (.int k)] S=.ok b S:=fun e=>t_k (aW (bw (r_v rfl) (aQ (af (r_v rfl) ah) (hl _)) (sF _ _ _))) e
 have e2:∀ {b:Bool},decide (ns.length=0)=b->evT sub (ai sub P n) (.cmp .eq (.v 0) (.lst .nl)) [some (.fro (ns.map .int)),some (.int k)] S=.ok b (S++[.lst []]):=fun e=>t_k (aW (bw (r_v rfl) (cI ah rfl) (eq_empty ns S))) e
 unfold cellAt
 by_cases h1:k < ns.length
 ·rw [if_pos h1]
  exact x_call h.cell rfl (d9 (dD (e1 (decide_eq_true h1)) (aN (aA (r_v rfl) (r_v rfl) (qH (qU hk h1)))))) (xq _ _)
 rw [if_neg h1]
 by_cases h2:ns.length=0
 ·rw [if_pos h2]
  exact x_call h.cell rfl (aq (aK (e1 (decide_eq_false h1)) aL) (d9 (dD (e2 (decide_eq_true h2)) (aN r_c)))) (nX _ _ _)
 ·rw [if_neg h2]
  have h3:0 < (ns.length:Int):=by omega
  exact x_call h.cell rfl (aq (aK (e1 (decide_eq_false h1)) aL) (aq (aK (e2 (decide_eq_false h2)) aL) (aN (a_ (a_ (aA (r_v rfl) (a_ (r_v rfl) (aQ (af (r_v rfl) ah) (hl _)) (eW h3)) (qH (qU (Int.emod_nonneg k (by omega)) (Int.emod_lt_of_pos k h3)))) r_c (p_ (by decide))) (r_v rfl) (jH _ _ _))))) (nX _ _ _)
theorem Bu (h:HG P) (ns:List Int) {k m:Int} (hk:0<=k) (hm:0 < m):ai sub P (n+2) "_law_mixed" [.fro (ns.map .int),.int k,.int m] S=.ok (.int (mixed ns k m)) S:=by
 have hc:=AJ (sub:=sub) (n:=n) (S:=S) h ns hk
 have h1:0<=drawn ns k:=Int.emod_nonneg _ (by decide)
 have h2:drawn ns k < 2147483647:=Int.emod_lt_of_pos _ (by decide)
 refine x_call h.mix rfl (aq (aZ (d:=.int (drawn ns k)) (S1:=S) ?_) (aN (d:=.int (mixed ns k m)) (S1:=S) ?_)) (cU rfl (by simp)) <;> (repeat' done)
structure Mix (P:Prg) (mx:List Int->Int->Int->Int):Prop where
 ok:∀ {sub:Sub} {n:Nat} {S:aa} (ns:List Int) {k m:Int},0<=k->0 < m->ai sub P (n+2) "_law_mixed" [.fro (ns.map .int),.int k,.int m] S=.ok (.int (mx ns k m)) S
 rng:∀ (ns:List Int) (k:Int) {m:Int},0 < m->0<=mx ns k m/\mx ns k m < m
theorem BN (h:HG P):∃ mx,Mix P mx:=⟨mixed,fun ns _ _ hk hm=>Bu h ns hk hm,fun ns k _ h=>vI ns k h⟩
variable {mx:List Int->Int->Int->Int}
noncomputable def dP (mx:List Int->Int->Int->Int) (ns:List Int) (at':Int) (streams many own:Nat):Srs :=
 if mx ns at' 7=0\/(mx ns at' 7=1/\streams=0) then .val (mx ns (at' + 1) 9973)
 else if mx ns at' 7=1 then .inp (mx ns (at' + 1) streams).toNat
 else if (mx ns (at' + 1) many).toNat < own/\mx ns at' 7 < 5 then .wrk (mx ns (at' + 1) many).toNat 0
 else .wrk (mx ns (at' + 1) many).toNat (1+mx ns (at' + 2) 3).toNat
theorem Ag (S:aa) (s:Srs):leave S s.toD S=.ok s.toD S:=cU s.cl (by simp)
theorem toNat_cast {i:Int} (h:0<=i):((i.toNat:Nat):Int)=i:=Int.toNat_of_nonneg h
theorem EA (h:HG P) (M:Mix P mx) (ns:List Int) {at':Int} {streams many own:Nat} (hat:0<=at') (hm:0 < many):ai sub P (n+3) "_law_source" [.fro (ns.map .int),.int at',.int streams,.int many,.int own] S=.ok (dP mx ns at' streams many own).toD S:=by
 have hm':(0:Int) < many:=by omega
 have a1:0<=at' + 1:=by omega
 have a2:0<=at' + 2:=by omega
 have m0:=M.ok (sub:=sub) (n:=n) (S:=S) ns (k:=at') (m:=7) hat (by decide)
 have r3:=M.rng ns (at' + 1) hm'
 have m1:=M.ok (sub:=sub) (n:=n) (S:=S) ns (k:=at' + 1) (m:=9973) a1 (by decide)
 have m3:=M.ok (sub:=sub) (n:=n) (S:=S) ns (k:=at' + 1) (m:=many) a1 hm'
 have m4:=M.ok (sub:=sub) (n:=n) (S:=S) ns (k:=at' + 2) (m:=3) a2 (by decide)
 have r4:=M.rng ns (at' + 2) (show (0:Int) < 3 by decide)
 unfold dP
 generalize hw:mx ns at' 7=w at m0
 refine x_call (S1:=S) h.source rfl (aq (aZ (d:=.int w) (S1:=S) (by (repeat' done))) ?_) (Ag S _)
 by_cases w0:w=0\/(w=1/\streams=0)
 ·rw [if_pos w0]
  refine d9 (dD (S1:=S) ?_ (show _=Res.ok (Fl.rt (.tup [.str "value",.int _])) S from aN (by (repeat' done))))
  rcases w0 with rfl|⟨rfl,rfl⟩
  ·exact Af (t_k (by (repeat' done)) rfl)
  ·exact cN (t_k (S1:=S) (by (repeat' done)) rfl) (iC (t_k (S1:=S) (by (repeat' done)) rfl) (t_k (by (repeat' done)) rfl))
 ·rw [if_neg w0]
  refine aq (aK (S1:=S) ?_ aL) ?_
  ·by_cases z:w=0
   ·exact (w0 (.inl z)).elim
   ·by_cases z1:w=1
    ·have hs2:¬ (streams=0):=fun q=>w0 (.inr ⟨z1,q⟩)
     exact cN (t_k (S1:=S) (by (repeat' done)) (beq_false_of_ne z)) (iC (t_k (S1:=S) (by (repeat' done)) (beq_iff_eq.mpr z1)) (t_k (by (repeat' done)) (by simp [hs2])))
    ·exact cN (t_k (S1:=S) (by (repeat' done)) (beq_false_of_ne z)) (iX (t_k (by (repeat' done)) (beq_false_of_ne z1)))
  ·by_cases w1:w=1
   ·have hs':(0:Int) < streams:=by have:¬ streams=0:=fun q=>w0 (.inr ⟨w1,q⟩); omega
    have m2:=M.ok (sub:=sub) (n:=n) (S:=S) ns (k:=at' + 1) (m:=streams) a1 hs'
    have r2:=toNat_cast (M.rng ns (at' + 1) hs').1
    rw [if_pos w1]
    refine d9 (dD (S1:=S) (t_k (by (repeat' done)) (beq_iff_eq.mpr w1)) ?_)
    show _=Res.ok (Fl.rt (.tup [.str "input",.int _])) S
    rw [r2]
    exact aN (by (repeat' done))
   ·rw [if_neg w1]
    have t3:=toNat_cast r3.1
    generalize hv:mx ns (at' + 1) many=v at m3 r3 t3
    refine aq (aK (S1:=S) (t_k (by (repeat' done)) (beq_false_of_ne w1)) aL) (aq (aZ (d:=.int v) (S1:=S) (by (repeat' done))) ?_)
    by_cases w2:v.toNat < own/\w < 5
    ·rw [if_pos w2]
     refine d9 (dD (S1:=S) (iC (t_k (S1:=S) (by (repeat' done)) (decide_eq_true (by omega))) (t_k (by (repeat' done)) (decide_eq_true w2.2))) ?_)
     show _=Res.ok (Fl.rt (.tup [.str "work",.int _,.int 0])) S
     rw [t3]
     exact aN (by (repeat' done))
    ·rw [if_neg w2]
     refine aq (aK (S1:=S) ?_ aL) ?_
     ·by_cases w3:v < own
      ·exact iC (t_k (S1:=S) (by (repeat' done)) (decide_eq_true w3)) (t_k (by (repeat' done)) (decide_eq_false fun z=>w2 ⟨by omega,z⟩))
      ·exact iX (t_k (by (repeat' done)) (decide_eq_false w3))
     ·show _=Res.ok (Fl.rt (.tup [.str "work",.int _,.int _])) S
      rw [t3,toNat_cast (show 0<=1+mx ns (at' + 2) 3 by omega)]
      exact aN (by (repeat' done))
theorem xF (M:Mix P mx) (ns:List Int) (at':Int) {streams many own:Nat} (hm:0 < many):(dP mx ns at' streams many own).WF own many streams:=by
 have r1:=M.rng ns (at' + 1) (show (0:Int) < 9973 by decide)
 have r3:=M.rng ns (at' + 1) (show (0:Int) < many by omega)
 have r4:=M.rng ns (at' + 2) (show (0:Int) < 3 by decide)
 unfold dP
 by_cases w0:mx ns at' 7=0\/(mx ns at' 7=1/\streams=0)
 ·rw [if_pos w0]; exact ⟨r1.1,by omega⟩
 ·rw [if_neg w0]
  by_cases w1:mx ns at' 7=1
  ·rw [if_pos w1]
   have hs:streams≠0:=fun z=>w0 (.inr ⟨w1,z⟩)
   have r2:=M.rng ns (at' + 1) (show (0:Int) < streams by omega)
   show _ < streams
   omega
  ·rw [if_neg w1]
   split
   ·rename_i h; exact ⟨by omega,by simpa using h.1⟩
   ·refine ⟨by omega,?_⟩
    rw [if_neg (by omega)]
    omega
noncomputable def cL (i:Int):Int:=if i=0 then 2 else 5
noncomputable def c6 (mx:List Int->Int->Int->Int) (ns:List Int) (at':Int) (streams ncrews many own:Nat):Wk where
 crew:=(mx ns (at' + 7) ncrews).toNat
 long:=(1+mx ns (at' + 1) (cL (mx ns (at' + 2) 2))).toNat
 doing:=cE.getD (mx ns at' 5).toNat "plus"
 srcs:=(List.range (1+mx ns (at' + 2) 2).toNat).map fun (k:Nat)=>dP mx ns (at' + 3+3 * (k:Int)) streams many own
 starts:=[mx ns (at' + 0) 9973,mx ns (at' + 5) 9973,mx ns (at' + 6) 9973]
theorem dW (k:Nat):au k=.int (k:Int):=rfl
theorem EM {i:Int} (h:0<=i/\i < 2):atI [D.int 2,D.int 5] i=some (.int (cL i)):=by
 rcases (show i=0\/i=1 by omega) with rfl|rfl <;> rfl
theorem wJ {i:Int} (h:0<=i/\i < 5):atI [D.str "plus",D.str "less",D.str "times",D.str "least",D.str "greatest"] i=some (.str (cE.getD i.toNat "plus")):=by
 obtain ⟨k,rfl⟩:=Int.eq_ofNat_of_zero_le h.1
 rw [dI]
 have hk:k < 5:=by omega
 exact (by decide:∀ k:Fin 5,[D.str "plus",D.str "less",D.str "times",D.str "least",D.str "greatest"][k.1]?=some (.str (cE.getD ((k.1:Nat):Int).toNat "plus"))) ⟨k,hk⟩
theorem Ft (h:HG P) (M:Mix P mx) (ns:List Int) {at':Int} {streams ncrews many own:Nat} (hat:0<=at') (hm:0 < many) (hc:0 < ncrews) :
  ai sub P (n+4) "_law_work" [.fro (ns.map .int),.int at',.tup [.int streams,.int ncrews,.int many],.int own] S=.ok (c6 mx ns at' streams ncrews many own).toD S:=by
 have r2:=M.rng ns (at' + 2) (show (0:Int) < 2 by decide)
 have rl:0 < cL (mx ns (at' + 2) 2):=by unfold cL; split <;> decide
 have hn:(0:Int) < ncrews:=by omega
 have m (k m:Int) (hk:0<=k) (hm:0 < m) (S:aa):ai sub P (n+3) "_law_mixed" [.fro (ns.map .int),.int k,.int m] S=.ok (.int (mx ns k m)) S:=M.ok ns hk hm
 have m2:=m (at' + 2) 2 (by omega) (by decide)
 have m0:=m at' 5 hat (by decide)
 have m7:=m (at' + 7) ncrews (by omega) hn
 have m1:=m (at' + 1) (cL (mx ns (at' + 2) 2)) (by omega) rl
 have hw:=wJ (M.rng ns at' (show (0:Int) < 5 by decide))
 have h25:=EM r2
 have val:(c6 mx ns at' streams ncrews many own).toD=.tup [.int (mx ns (at' + 7) ncrews),.int (1+mx ns (at' + 1) (cL (mx ns (at' + 2) 2))),.str (cE.getD (mx ns at' 5).toNat "plus"),
   .tup ((List.range (1+mx ns (at' + 2) 2).toNat).map fun (k:Nat)=>(dP mx ns (at' + 3+3 * (k:Int)) streams many own).toD),.tup [.int (mx ns (at' + 0) 9973),.int (mx ns (at' + 5) 9973),.int (mx ns (at' + 6) 9973)]]:=by
  have e1:=toNat_cast (M.rng ns (at' + 7) hn).1
  have e2:=toNat_cast (i:=1+mx ns (at' + 1) (cL (mx ns (at' + 2) 2))) (by have:=M.rng ns (at' + 1) rl; omega)
  unfold c6 Wk.toD
  rw [e1,e2,List.map_map]; rfl
 have hcl:=(c6 mx ns at' streams ncrews many own).cl
 rw [val] at hcl ⊢
 generalize hq:(1+mx ns (at' + 2) 2).toNat=q at hcl
 have hq':(1+mx ns (at' + 2) 2)=(q:Int):=by omega
 obtain ⟨x,loop⟩:=lW (sub:=sub) (cf:=ai sub P (n+3)) (i:=8) (j:=7) (l:=S.length)
   (it:=.iRng (.cs (.bin .add (.c (.int 1)) (.call "_law_mixed" (.cs (.v 0) (.cs (.bin .add (.v 1) (.c (.int 2))) (.cs (.c (.int 2)) .nl))))) .nl))
   (e:=.call "_law_source" (.cs (.v 0) (.cs (.bin .add (.bin .add (.v 1) (.c (.int 3))) (.bin .mul (.c (.int 3)) (.v 8))) (.cs (.v 4) (.cs (.v 6) (.cs (.v 3) .nl))))))
   (σ:=[some (.fro (ns.map .int)),some (.int at'),some (.tup [.int streams,.int ncrews,.int many]),some (.int own),some (.int streams),some (.int ncrews),some (.int many),some (.loc S.length),none,none,none,none])
   (S:=S++[.lst []]) (S1:=S++[.lst []]) (xs:=[]) (ks:=List.range q) (f:=au) (g:=fun (k:Nat)=>(dP mx ns (at' + 3+3 * (k:Int)) streams many own).toD) (o:=none) (raw:=[])
   (iO (by (repeat' (first|done|with_reducible exact m2 _))) hq' (by omega) dW) rfl (bZ _ _) (by decide) (Nat.lt_of_sub_pos (by exact Nat.succ_pos 3)) (fun _=>rfl)
   (fun k _ ys=>by
    have:=EA (sub:=sub) (n:=n) (S:=List.set (S++[.lst []]) S.length (.lst ys)) h M ns (at':=at' + 3+3 * (k:Int)) (streams:=streams) (many:=many) (own:=own) (by omega) hm
    rw [dW]
    (repeat' done)) (by unfold aS; rw [List.length_range,List.length_nil]; omega)
 rw [iy,List.nil_append] at loop
 have comp:∀ (y:Option D) (d1 d2:D) (T:aa),ev sub (ai sub P (n+3)) (.comp 2 (.call "_law_mixed" (.cs (.v 0) (.cs (.bin .add (.v 1) (.v 13)) (.cs (.c (.int 9973)) .nl)))) (.one 13) (.iSeq (.tup (.cs (.c (.int 0)) (.cs (.c (.int 5)) (.cs (.c (.int 6)) .nl))))) .nl)
   [some (.fro (ns.map .int)),some (.int at'),some (.tup [.int streams,.int ncrews,.int many]),some (.int own),some (.int streams),some (.int ncrews),some (.int many),some (.loc S.length),y,some d1,some d2,none] T =
   .ok (.loc T.length) (T++[.lst [.int (mx ns (at' + 0) 9973),.int (mx ns (at' + 5) 9973),.int (mx ns (at' + 6) 9973)]]):=fun y d1 d2 T =>
  qh (ks:=[0,5,6]) (f:=D.int) (g:=fun k=>.int (mx ns (at' + k) 9973)) (ic (x:=.tup [.int 0,.int 5,.int 6]) (by (repeat' done)) rfl) rfl (fun k hk=>by
   have hk:0<=k:=by
    have:k=0\/k=5\/k=6:=by simpa using hk
    omega
   have:=m (at' + k) 9973 (by omega) (by decide) T
   (repeat' done)) (by decide)
 have go:∀ (T:aa),(S++.lst ((List.range q).map fun (k:Nat)=>(dP mx ns (at' + 3+3 * (k:Int)) streams many own).toD)::T)[S.length]?=some (.lst ((List.range q).map fun (k:Nat)=>(dP mx ns (at' + 3+3 * (k:Int)) streams many own).toD)):=fun T=>d_ S T _
 refine x_call h.work rfl (aq (sZ (ds:=[.int streams,.int ncrews,.int many]) (r_v rfl) rfl) (aq (aZ (cI ah rfl)) (aq loop (aq (aZ (by (repeat' (first|done|with_reducible exact m0 _))))
  (aq (aZ (by (repeat' (first|done|with_reducible exact m2 _|with_reducible exact m1 _)))) (aq (aZ (aQ (af (comp _ _ _ _) ah) sL)) (aN (br (af (by (repeat' (first|done|with_reducible exact m7 _))) (af (r_v rfl) (af (r_v rfl) (af (aQ (af (r_v rfl) ah) (eg (by rw [List.append_assoc,List.append_assoc,List.append_assoc]; exact go _))) (af (r_v rfl) ah))))) rfl)))))))) (cU hcl (by rw [List.append_assoc,List.append_assoc,List.append_assoc]; exact fM _ _))
theorem xH (M:Mix P mx) (ns:List Int) (at':Int) {streams ncrews many own:Nat} (hm:0 < many) (hc:0 < ncrews):(c6 mx ns at' streams ncrews many own).WF own many streams ncrews:=by
 have r2:=M.rng ns (at' + 2) (show (0:Int) < 2 by decide)
 have r5:=M.rng ns at' (show (0:Int) < 5 by decide)
 have rl:0 < cL (mx ns (at' + 2) 2)/\cL (mx ns (at' + 2) 2)<=5:=by unfold cL; split <;> decide
 have r1:=M.rng ns (at' + 1) rl.1
 have r7:=M.rng ns (at' + 7) (show (0:Int) < ncrews by omega)
 refine ⟨?_,⟨?_,?_⟩,?_,⟨?_,?_⟩,fun s hs=>?_,rfl,fun v hv=>?_⟩
 ·show (mx ns (at' + 7) ncrews).toNat < ncrews; omega
 ·show 1<=(1+mx ns (at' + 1) (cL (mx ns (at' + 2) 2))).toNat; omega
 ·show (1+mx ns (at' + 1) (cL (mx ns (at' + 2) 2))).toNat<=8; omega
 ·show cE.getD (mx ns at' 5).toNat "plus"∈cE
  rw [List.getD_eq_getElem?_getD,List.getElem?_eq_getElem (show (mx ns at' 5).toNat < cE.length by show _ < 5; omega)]
  exact List.getElem_mem _
 ·show 1<=((List.range (1+mx ns (at' + 2) 2).toNat).map _).length
  rw [List.length_map,List.length_range]; omega
 ·show ((List.range (1+mx ns (at' + 2) 2).toNat).map _).length<=3
  rw [List.length_map,List.length_range]; omega
 ·obtain ⟨k,_,rfl⟩:=List.mem_map.mp hs
  exact xF M ns _ hm
 ·have:∀ k,0<=mx ns k 9973/\mx ns k 9973<=9972:=fun k=>by have:=M.rng ns k (show (0:Int) < 9973 by decide); omega
  have hv:v∈[mx ns (at' + 0) 9973,mx ns (at' + 5) 9973,mx ns (at' + 6) 9973]:=hv
  simp at hv
  rcases hv with rfl|rfl|rfl <;> exact this _
noncomputable def gb (mx:List Int->Int->Int->Int) (ns:List Int) (at':Int) (k:Nat):Nat × Nat:=((1+mx ns (at' + 3+(k:Int)) 2).toNat,(1+mx ns (at' + 5+(k:Int)) 5 / 2).toNat)
noncomputable def cz (mx:List Int->Int->Int->Int) (ns:List Int) (at':Int) (many:Nat):List Nat:=(List.range many).filter fun k=>decide (0 < mx ns (at' + 7+(k:Int)) 3)
noncomputable def cK (mx:List Int->Int->Int->Int) (ns:List Int) (at' most:Int):Lp where
 streams:=(mx ns at' 3).toNat
 crews:=(List.range (1+mx ns (at' + 2) 2).toNat).map (gb mx ns at')
 works:=(List.range (1+mx ns (at' + 1) most).toNat).map fun (k:Nat)=>c6 mx ns (at' + 7+9 * (k:Int)) (mx ns at' 3).toNat (1+mx ns (at' + 2) 2).toNat (1+mx ns (at' + 1) most).toNat k
 outs:=if cz mx ns at' (1+mx ns (at' + 1) most).toNat=[] then [(1+mx ns (at' + 1) most).toNat - 1] else cz mx ns at' (1+mx ns (at' + 1) most).toNat
theorem CT (M:Mix P mx) (ns:List Int) {at' most:Int} {nc many:Nat} {os:List Nat} (hq:(1+mx ns (at' + 2) 2).toNat=nc) (hw:(1+mx ns (at' + 1) most).toNat=many) (ho:(if cz mx ns at' many=[] then [many - 1] else cz mx ns at' many)=os):(cK mx ns at' most).toD =
  .tup [.int (mx ns at' 3),.tup ((List.range nc).map fun (k:Nat)=>az (gb mx ns at' k)),.tup ((List.range many).map fun (k:Nat)=>(c6 mx ns (at' + 7+9 * (k:Int)) (mx ns at' 3).toNat nc many k).toD),.tup (os.map au)]:=by
 have e0:=toNat_cast (M.rng ns at' (show (0:Int) < 3 by decide)).1
 unfold cK Lp.toD
 simp only [hq,hw,ho,e0,List.map_map]
 rfl
theorem CG (h:HG P) (M:Mix P mx) (ns:List Int) {at' most:Int} (hat:0<=at') (hmo:0 < most) (hmo2:most<=8) :
  ai sub P (n+5) "_law_loop" [.fro (ns.map .int),.int at',.int most] S=.ok (cK mx ns at' most).toD S:=by
 have r1:=M.rng ns (at' + 1) hmo
 have r2:=M.rng ns (at' + 2) (show (0:Int) < 2 by decide)
 have m (k m:Int) (hk:0<=k) (hm:0 < m) (S:aa):ai sub P (n+4) "_law_mixed" [.fro (ns.map .int),.int k,.int m] S=.ok (.int (mx ns k m)) S:=M.ok ns hk hm
 have m0:=m at' 3 hat (by decide)
 have m1:=m (at' + 1) most (by omega) hmo
 have m2:=m (at' + 2) 2 (by omega) (by decide)
 have e0:=toNat_cast (M.rng ns at' (show (0:Int) < 3 by decide)).1
 generalize hq:(1+mx ns (at' + 2) 2).toNat=nc
 generalize hw:(1+mx ns (at' + 1) most).toNat=many
 have hq':(1+mx ns (at' + 2) 2)=(nc:Int):=by omega
 have hw':(1+mx ns (at' + 1) most)=(many:Int):=by omega
 have hcl:=(cK mx ns at' most).cl
 generalize ho:(if cz mx ns at' many=[] then [many - 1] else cz mx ns at' many)=os
 rw [CT M ns hq hw ho] at hcl ⊢
 generalize hs:(mx ns at' 3).toNat=streams at e0 hcl ⊢
 obtain ⟨x,loop1⟩:=lW (sub:=sub) (cf:=ai sub P (n+4)) (i:=6) (j:=5) (l:=S.length) (it:=.iRng (.cs (.bin .add (.c (.int 1)) (.call "_law_mixed" (.cs (.v 0) (.cs (.bin .add (.v 1) (.c (.int 2))) (.cs (.c (.int 2)) .nl))))) .nl))
   (e:=.tup (.cs (.bin .add (.c (.int 1)) (.call "_law_mixed" (.cs (.v 0) (.cs (.bin .add (.bin .add (.v 1) (.c (.int 3))) (.v 6)) (.cs (.c (.int 2)) .nl))))) (.cs (.bin .add (.c (.int 1)) (.bin .fdiv (.call "_law_mixed" (.cs (.v 0) (.cs (.bin .add (.bin .add (.v 1) (.c (.int 5))) (.v 6)) (.cs (.c (.int 5)) .nl)))) (.c (.int 2)))) .nl)))
   (σ:=[some (.fro (ns.map .int)),some (.int at'),some (.int most),some (.int (mx ns at' 3)),some (.int (1+mx ns (at' + 1) most)),some (.loc S.length),none,none,none])
   (S:=S++[.lst []]) (S1:=S++[.lst []]) (xs:=[]) (ks:=List.range nc) (f:=au) (g:=fun (k:Nat)=>az (gb mx ns at' k)) (o:=none) (raw:=[])
   (iO (by (repeat' (first|done|with_reducible exact m2 _))) hq' (by omega) dW) rfl (bZ _ _) (by decide) (Nat.lt_of_sub_pos (by exact Nat.succ_pos 2)) (fun _=>rfl)
   (fun k _ ys=>by
    have q1:=m (at' + 3+(k:Int)) 2 (by omega) (by decide)
    have q2:=m (at' + 5+(k:Int)) 5 (by omega) (by decide)
    have g1:=M.rng ns (at' + 3+(k:Int)) (show (0:Int) < 2 by decide)
    have g2:=M.rng ns (at' + 5+(k:Int)) (show (0:Int) < 5 by decide)
    have t1:=toNat_cast (i:=1+mx ns (at' + 3+(k:Int)) 2) (by omega)
    have t2:=toNat_cast (i:=1+mx ns (at' + 5+(k:Int)) 5 / 2) (by omega)
    rw [dW]
    unfold az gb
    rw [t1,t2]
    (repeat' (first|done|with_reducible exact q1 _|with_reducible exact q2 _))) (by unfold aS; rw [List.length_range,List.length_nil]; omega)
 rw [iy,List.nil_append] at loop1
 generalize hcr:((List.range nc).map fun (k:Nat)=>az (gb mx ns at' k))=cr at loop1 hcl ⊢
 have hcrl:cr.length=nc:=by rw [<- hcr,List.length_map,List.length_range]
 obtain ⟨y,loop2⟩:=lW (sub:=sub) (cf:=ai sub P (n+4)) (i:=6) (j:=7) (l:=(S++[Cell.lst cr]).length) (it:=.iRng (.cs (.v 4) .nl))
   (e:=.call "_law_work" (.cs (.v 0) (.cs (.bin .add (.bin .add (.v 1) (.c (.int 7))) (.bin .mul (.c (.int 9)) (.v 6))) (.cs (.tup (.cs (.v 3) (.cs (.bi .len (.cs (.v 5) .nl)) (.cs (.v 4) .nl)))) (.cs (.v 6) .nl)))))
   (σ:=[some (.fro (ns.map .int)),some (.int at'),some (.int most),some (.int (mx ns at' 3)),some (.int (1+mx ns (at' + 1) most)),some (.loc S.length),x,some (.loc (S++[Cell.lst cr]).length),none])
   (S:=(S++[.lst cr])++[.lst []]) (S1:=(S++[.lst cr])++[.lst []]) (xs:=[]) (ks:=List.range many) (f:=au)
   (g:=fun (k:Nat)=>(c6 mx ns (at' + 7+9 * (k:Int)) streams nc many k).toD) (o:=none) (raw:=[])
   (iO (by (repeat' done)) hw' (by omega) dW) rfl (bZ _ _) (by decide) (Nat.lt_of_sub_pos (by exact Nat.succ_pos 2)) (fun _=>rfl)
   (fun k _ ys=>by
    rw [iy,dW]
    have hd:=Ft (sub:=sub) (n:=n) (S:=(S++[.lst cr])++[.lst ys]) h M ns (at':=at' + 7+9 * (k:Int)) (streams:=streams) (ncrews:=nc) (many:=many) (own:=k) (by omega) (by omega) (by omega)
    rw [e0,<- hw'] at hd
    have hl:biD sub .len [.loc S.length] ((S++[.lst cr])++[.lst ys])=.ok (.int (nc:Int)) ((S++[.lst cr])++[.lst ys]):=by
     rw [<- hcrl]; exact qD (by rw [List.append_assoc]; exact d_ _ _ _)
    (repeat' done)) (by unfold aS; rw [List.length_range,List.length_nil]; omega)
 rw [iy,List.nil_append] at loop2
 generalize hwk:((List.range many).map fun (k:Nat)=>(c6 mx ns (at' + 7+9 * (k:Int)) streams nc many k).toD)=wk at loop2 hcl ⊢
 generalize hT:(S++[Cell.lst cr])++[Cell.lst wk]=T at loop2
 have gc:∀ U:aa,(T++U)[S.length]?=some (.lst cr):=fun U=>by rw [<- hT,List.append_assoc,List.append_assoc]; exact d_ _ _ _
 have gw:∀ U:aa,(T++U)[(S++[Cell.lst cr]).length]?=some (.lst wk):=fun U=>by rw [<- hT,List.append_assoc]; exact d_ _ _ _
 have tk:∀ U:aa,(T++U).take S.length=S:=fun U=>by rw [<- hT,List.append_assoc,List.append_assoc]; exact fM _ _
 have comp:=CY (sub:=sub) (cf:=ai sub P (n+4)) (k:=2) (i:=10) (el:=.v 10) (it:=.iRng (.cs (.v 4) .nl)) (tt:=.cmp .gt (.call "_law_mixed" (.cs (.v 0) (.cs (.bin .add (.bin .add (.v 1) (.c (.int 7))) (.v 10)) (.cs (.c (.int 3)) .nl)))) (.c (.int 0)))
   (σ:=[some (.fro (ns.map .int)),some (.int at'),some (.int most),some (.int (mx ns at' 3)),some (.int (1+mx ns (at' + 1) most)),some (.loc S.length),y,some (.loc (S++[Cell.lst cr]).length),none]) (S:=T) (S1:=T) (s:=⟨(List.range many).map au,none,[]⟩) (g:=id) (p:=fun d=>match d with|.int k=>decide (0 < mx ns (at' + 7+k) 3)|_=>false) rfl
   (iO (by (repeat' done)) hw' (by omega) dW) rfl
   (fun d hd=>by
    obtain ⟨k,_,rfl⟩:=List.mem_map.mp hd
    have:=m (at' + 7+(k:Int)) 3 (by omega) (by decide) T
    rw [dW]
    (repeat' done))
   (fun d hd _=>r_v rfl) (by unfold aS; rw [List.length_map,List.length_range]; omega)
 rw [List.map_id,List.filter_map,show List.filter ((fun d=>match d with|.int k=>decide (0 < mx ns (at' + 7+k) 3)|_=>false) ∘ au) (List.range many)=cz mx ns at' many from rfl] at comp
 refine CA h.loop rfl (aq (aZ (by (repeat' (first|done|with_reducible exact m0 _)))) (aq (aZ (by (repeat' (first|done|with_reducible exact m1 _)))) (aq (aZ (cI ah rfl)) (aq loop1 (aq (aZ (cI ah rfl)) (aq loop2 (aq (aZ comp) rfl))))))) ?_ hcl
 cases hu:cz mx ns at' many with
 | nil =>
  rw [hu,if_pos rfl] at ho
  subst ho
  have t3:((many - 1:Nat):Int)=1+mx ns (at' + 1) most - 1:=by omega
  have hE:cmD .eq (.loc T.length) (.loc (T++[Cell.lst []]).length) ((T++[.lst []])++[.lst []])=.ok (.bl true) ((T++[.lst []])++[.lst []]):=r6 (xs:=[]) (by rw [List.append_assoc]; exact d_ _ _ _) (bZ _ _)
  refine ⟨_,aq (dD (aW (bw (r_v rfl) (cI ah rfl) hE)) (aZ (by (repeat' done)))) (aN (br (af (r_v rfl) (af (aQ (af (r_v rfl) ah) (eg ?_)) (af (aQ (af (r_v rfl) ah) (eg ?_)) (af (aQ (af (r_v rfl) ah) (eg ?_)) ah)))) rfl)),?_⟩
  ·rw [List.append_assoc,List.append_assoc]; exact gc _
  ·rw [List.append_assoc,List.append_assoc]; exact gw _
  ·rw [List.map_cons,dW,t3]; exact bZ _ _
  ·rw [List.append_assoc,List.append_assoc]; exact tk _
 | cons a r =>
  rw [hu,if_neg (by intro z; cases z)] at ho
  subst ho
  have hE:cmD .eq (.loc T.length) (.loc (T++[Cell.lst ((a::r).map au)]).length) ((T++[.lst ((a::r).map au)])++[.lst []])=.ok (.bl false) ((T++[.lst ((a::r).map au)])++[.lst []]):=r6 (xs:=(a::r).map au) (by rw [List.append_assoc]; exact d_ _ _ _) (bZ _ _)
  refine ⟨_,aq (aK (aW (bw (r_v rfl) (cI ah rfl) hE)) aL) (aN (br (af (r_v rfl) (af (aQ (af (r_v rfl) ah) (eg ?_)) (af (aQ (af (r_v rfl) ah) (eg ?_)) (af (aQ (af (r_v rfl) ah) (eg ?_)) ah)))) rfl)),?_⟩
  ·rw [List.append_assoc]; exact gc _
  ·rw [List.append_assoc]; exact gw _
  ·rw [List.append_assoc]; exact d_ _ _ _
  ·rw [List.append_assoc]; exact tk _
theorem pS (p:Nat->Bool) (many:Nat):∀ (k c:Nat),k+c<=many->ck many k ((List.range' k c).filter p)
 | k,0,_=>trivial
 | k,c+1,h=>by
  rw [List.range'_succ,List.filter_cons]
  have:=pS p many (k+1) c (by omega)
  split
  ·exact ⟨Nat.le_refl _,by omega,this⟩
  ·have low:∀ (l:List Nat) (a b:Nat),a<=b->ck many b l->ck many a l:=by
    intro l
    cases l with
    | nil=>intros; trivial
    | cons x r=>intro a b hab ⟨h1,h2,h3⟩; exact ⟨by omega,h2,h3⟩
   exact low _ _ _ (Nat.le_succ _) this
theorem C_ (M:Mix P mx) (ns:List Int) {at' most:Int} (hmo:0 < most) (hmo2:most<=8):(cK mx ns at' most).WF:=by
 have r0:=M.rng ns at' (show (0:Int) < 3 by decide)
 have r1:=M.rng ns (at' + 1) hmo
 have r2:=M.rng ns (at' + 2) (show (0:Int) < 2 by decide)
 have hw:(cK mx ns at' most).works.length=(1+mx ns (at' + 1) most).toNat:=by simp [cK]
 have hc:(cK mx ns at' most).crews.length=(1+mx ns (at' + 2) 2).toNat:=by simp [cK]
 refine ⟨?_,?_,fun c hcm=>?_,?_,fun i w hi=>?_,?_,?_⟩
 ·show (mx ns at' 3).toNat<=6; omega
 ·rw [hc]; omega
 ·obtain ⟨k,_,rfl⟩:=List.mem_map.mp hcm
  have q1:=M.rng ns (at' + 3+(k:Int)) (show (0:Int) < 2 by decide)
  have q2:=M.rng ns (at' + 5+(k:Int)) (show (0:Int) < 5 by decide)
  simp only [gb]
  omega
 ·rw [hw]; omega
 ·rw [hw,hc]
  have hi':i < (1+mx ns (at' + 1) most).toNat:=by rw [<- hw]; exact (List.getElem?_eq_some_iff.mp hi).1
  have hi:((List.range (1+mx ns (at' + 1) most).toNat).map fun (k:Nat)=>c6 mx ns (at' + 7+9 * (k:Int)) (mx ns at' 3).toNat (1+mx ns (at' + 2) 2).toNat (1+mx ns (at' + 1) most).toNat k)[i]?=some w:=hi
  rw [List.getElem?_map,List.getElem?_range hi'] at hi
  cases hi
  exact xH M ns _ (by omega) (by omega)
 ·show 1<=(if cz mx ns at' (1+mx ns (at' + 1) most).toNat=[] then [(1+mx ns (at' + 1) most).toNat - 1] else cz mx ns at' (1+mx ns (at' + 1) most).toNat).length
  split
  ·simp
  ·rename_i h; exact List.length_pos_iff.mpr h
 ·rw [hw]
  show ck _ 0 (if cz mx ns at' (1+mx ns (at' + 1) most).toNat=[] then [(1+mx ns (at' + 1) most).toNat - 1] else cz mx ns at' (1+mx ns (at' + 1) most).toNat)
  split
  ·exact ⟨Nat.zero_le _,by omega,trivial⟩
  ·unfold cz
   rw [List.range_eq_range']
   exact pS _ _ 0 _ (by omega)
end
end RL

namespace RL
open PySem EV GO
noncomputable def nV:Fn:=⟨1,5,(.seq (.set (.one 1) (.ix (.call "checked" (.cs (.v 0) .nl)) (.c (.int 2))))
 (.seq (.set (.one 2) (.lst .nl))
 (.seq (.forS (.many [3,4]) (.iEnum (.v 1))
  (.ex (.me .extend (.v 2) (.cs (.comp 2 (.tup (.cs (.ix (.v 6) (.c (.int 1))) (.cs (.v 3) (.cs (.ix (.v 6) (.c (.int 2))) .nl)))) (.one 6) (.iSeq (.ix (.v 4) (.c (.int 3)))) (.cmp .eq (.ix (.v 6) (.c (.int 0))) (.c (.str "work")))) .nl))))
 (.ret (.bi .sortedSet (.cs (.v 2) .nl))))))⟩
noncomputable def tupI (t:List Int):D:=.tup (t.map .int)
noncomputable def bV (behind:Nat):Srs->Option (List Int)
 | .wrk w b=>some [(w:Int),(behind:Int),(b:Int)]
 | _=>none
noncomputable def aT:Nat->List Wk->List (List Int)
 | _,[]=>[]
 | k,w::r=>w.srcs.filterMap (bV k)++aT (k+1) r
theorem Eh {sub:Sub} {cf:Str->List D->M D} {σ:Sg} {S S1:aa} {k i:Nat} {el it tt:E} {α:Type} {ks:List α} {f:α->D} {g:α->Option D} {o:Option Nat} {raw:List D} (hn:tt.aX=false) (hi:evI sub cf it σ S=.ok ⟨ks.map f,o,raw⟩ S1) (hs:aE ⟨ks.map f,o,raw⟩ S1=.ok () S1)
  (hp:∀ a∈ks,evT sub cf tt ((σ++List.replicate k none).set i (some (f a))) S1=.ok (g a).isSome S1) (hg:∀ a∈ks,∀ d,g a=some d->ev sub cf el ((σ++List.replicate k none).set i (some (f a))) S1=.ok d S1) (hz:ks.length<=aS) :
  ev sub cf (.comp k el (.one i) it tt) σ S=.ok (.loc S1.length) (S1++[.lst (ks.filterMap g)]):=by
 rw [iD,hi]
 simp only [Res.aj]
 have:=lE (s:=⟨ks.map f,o,raw⟩) (f:=f) (fn:=fun d=>aJ (.one i) d (σ++List.replicate k none)>>=fun σ'=>(if tt.aX=true then pure true else evT sub cf tt σ')>>=fun b=>if b=true then ev sub cf el σ'>>=fun y=>pure (some y) else pure none) (g:=g) (S:=S1) hs (ks:=ks) (fun d hd=>by
  simp only [av,ig,Res.aj,hn,Bool.false_eq_true,if_false]
  rw [hp d hd]
  cases q:g d with
  | none=>rfl
  | some y=>simp [av,hg d hd y q])
 rw [e9 this]
 simp only [Res.aj]
 rw [if_pos (show fits (ks.filterMap g).length=true from decide_eq_true (Nat.le_trans (List.length_filterMap_le _ _) hz))]
theorem jx:∀ (ws:List Wk) (k i:Nat) (h:i < ws.length),aT k (ws.take (i+1))=aT k (ws.take i)++(ws[i]).srcs.filterMap (bV (k+i))
 | w::r,k,0,_=>by simp [aT]
 | w::r,k,i+1,h=>by
  have:=jx r (k+1) i (by simpa using h)
  simp only [List.take_succ_cons,aT,List.getElem_cons_succ]
  rw [this,List.append_assoc,show k+1+i=k+(i+1) by omega]
theorem lM:∀ (ws:List Wk) (k:Nat),(∀ w∈ws,w.srcs.length<=3)->(aT k ws).length<=3 * ws.length
 | [],_,_=>Nat.le_refl _
 | w::r,k,h=>by
  have h1:=lM r (k+1) fun v hv=>h v (List.mem_cons_of_mem _ hv)
  have h2:=h w List.mem_cons_self
  have h3:(w.srcs.filterMap (bV k)).length<=w.srcs.length:=List.length_filterMap_le _ _
  simp only [aT,List.length_append,List.length_cons]
  omega
theorem mU:∀ {ws:List Wk} {k:Nat} {t:List Int},t∈aT k ws->∃ i w b x,ws[i]?=some w/\Srs.wrk x b∈w.srcs/\t=[(x:Int),((k+i:Nat):Int),(b:Int)]
 | w::r,k,t,h=>by
  rcases List.mem_append.mp h with h|h
  ·obtain ⟨s,hs,e⟩:=List.mem_filterMap.mp h
   cases s with
   | wrk x b=>cases e; exact ⟨0,w,b,x,rfl,hs,rfl⟩
   | _=>cases e
  ·obtain ⟨i,v,b,x,h1,h2,h3⟩:=mU h
   exact ⟨i+1,v,b,x,h1,h2,by rw [h3,show k+1+i=k+(i+1) by omega]⟩
theorem allI (t:List Int):allInts (t.map .int)=some t:=by
 induction t with
 | nil=>rfl
 | cons a r ih=>show (allInts (r.map .int)).map (a :: ·)=_; rw [ih]; rfl
theorem kq:∀ ts:List (List Int),tups (ts.map tupI)=some ts
 | []=>rfl
 | t::r=>by
  show (match allInts (t.map .int),tups (r.map tupI) with|some t,some q=>some (t::q)|_,_=>none)=_
  rw [allI,kq r]
theorem yN (t:List Int):D.lows 0 (t.map .int)=true:=by
 induction t with
 | nil=>rfl
 | cons a r ih=>show (D.low 0 (.int a)&&D.lows 0 (r.map .int))=true; rw [ih]; rfl
theorem qp (ts:List (List Int)):D.lows 0 (ts.map tupI)=true:=by
 induction ts with
 | nil=>rfl
 | cons t r ih=>show (D.lows 0 (t.map .int)&&D.lows 0 (r.map tupI))=true; rw [yN,ih]; rfl
section
variable {sub:Sub} {P:Prg} {n:Nat} {S:aa}
theorem yE {cf:Str->List D->M D} {x0 x1 x2:Option D} {i:Nat} {w:Wk} {T:aa} (hw:w.srcs.length<=3) :
  ev sub cf (.comp 2 (.tup (.cs (.ix (.v 6) (.c (.int 1))) (.cs (.v 3) (.cs (.ix (.v 6) (.c (.int 2))) .nl)))) (.one 6) (.iSeq (.ix (.v 4) (.c (.int 3)))) (.cmp .eq (.ix (.v 6) (.c (.int 0))) (.c (.str "work"))))
   [x0,x1,x2,some (.int (i:Int)),some w.toD] T=.ok (.loc T.length) (T++[.lst ((w.srcs.filterMap (bV i)).map tupI)]):=by
 have h:=Eh (sub:=sub) (cf:=cf) (k:=2) (i:=6) (el:=.tup (.cs (.ix (.v 6) (.c (.int 1))) (.cs (.v 3) (.cs (.ix (.v 6) (.c (.int 2))) .nl)))) (it:=.iSeq (.ix (.v 4) (.c (.int 3)))) (tt:=.cmp .eq (.ix (.v 6) (.c (.int 0))) (.c (.str "work")))
  (σ:=[x0,x1,x2,some (.int (i:Int)),some w.toD]) (S:=T) (S1:=T) (ks:=w.srcs) (f:=Srs.toD) (g:=fun s=>(bV i s).map tupI) (o:=none) (raw:=w.srcs.map Srs.toD) rfl (ic (aA (r_v rfl) r_c (aC rfl)) rfl) rfl
  (fun s _=>by
   cases s with
   | val v=>exact aW (bw (aA (r_v rfl) r_c (aC rfl)) r_c rfl)
   | inp k=>exact aW (bw (aA (r_v rfl) r_c (aC rfl)) r_c rfl)
   | wrk x b=>exact aW (bw (aA (r_v rfl) r_c (aC rfl)) r_c rfl))
  (fun s _ d hd=>by
   cases s with
   | val v=>cases hd
   | inp k=>cases hd
   | wrk x b =>
    cases hd
    exact br (af (aA (r_v rfl) r_c (aC rfl)) (af (r_v rfl) (af (aA (r_v rfl) r_c (aC rfl)) ah))) rfl)
  (by unfold aS; omega)
 rw [h,List.map_filterMap]
theorem Ac {T:aa} {a b:Cell} {G:aa}:(T++a::G).set T.length b=T++b::G:=by
 rw [List.set_append_right _ _ (Nat.le_refl _),Nat.sub_self]; rfl
theorem sA {T:aa} {a:Cell} {G:aa}:(T++a::G)[T.length]?=some a:=by
 rw [List.getElem?_append_right (Nat.le_refl _),Nat.sub_self]; rfl
theorem BC {T:aa} {k:Nat} {ts:List (List Int)} (hk:T[k]?=some (.lst (ts.map tupI))) (h1:ts.length<=18) (h2:(ts.all fun t=>!t.isEmpty)=true):biD sub .sortedSet [.loc k] T=.ok (.loc T.length) (T++[.lst ((aP ts).map tupI)]):=by
 show (c8 (.loc k)>>=fun ds=>opt (tups ds)>>=fun ts=>guard (decide (ts.length<=18)&&ts.all fun t=>!t.isEmpty) (alloc (.lst ((aP ts).map fun t=>.tup (t.map .int))))) T=_
 have e:c8 (.loc k) T=.ok (ts.map tupI) T:=eY hk
 rw [av,e]
 simp only [Res.aj]
 rw [av,kq]
 simp only [iz,Res.aj]
 rw [h2,decide_eq_true h1]
 rfl
theorem pA {T:aa} {ds:List D} {m:Nat} (hm:S.length<=m) (ht:T.take S.length=S) (h:T[m]?=some (.lst ds)) (hc:D.lows 0 ds=true):leave S (.loc m) T=.ok (.loc S.length) (S++[.lst ds]):=by
 unfold leave
 rw [if_pos ht,if_neg (by show ¬ decide (m < S.length)=true; simp; omega)]
 simp only [h]
 rw [if_pos (show Cell.low S.length (.lst ds)=true from iI (Nat.zero_le _) hc)]
theorem yu (h:HB P) (hn:Has P "needs" nV) {l:Lp} (hl:l.WF) (h6:l.works.length<=6):ai sub P (n+8) "needs" [l.toD] S=.ok (.loc S.length) (S++[.lst ((aP (aT 0 l.works)).map tupI)]):=by
 have h3:∀ w∈l.works,w.srcs.length<=3:=fun w hw=>by
  obtain ⟨i,hi⟩:=List.getElem?_of_mem hw
  exact (hl.works i w hi).some.2
 have hnl:∀ i,(aT 0 (l.works.take i)).length<=18:=fun i=>by
  have:=lM (l.works.take i) 0 fun w hw=>h3 w (List.mem_of_mem_take hw)
  rw [List.length_take] at this
  omega
 have hnum:(num 0 (l.works.map Wk.toD)).length=l.works.length:=by rw [gT,List.length_map]
 obtain ⟨σ',T',e,x3,x4,G,rfl,rfl⟩:=mJ (sub:=sub) (cf:=ai sub P (n+7)) (t:=.many [3,4]) (it:=.iEnum (.v 1)) (b:=.ex (.me .extend (.v 2) (.cs (.comp 2 (.tup (.cs (.ix (.v 6) (.c (.int 1))) (.cs (.v 3) (.cs (.ix (.v 6) (.c (.int 2))) .nl)))) (.one 6) (.iSeq (.ix (.v 4) (.c (.int 3)))) (.cmp .eq (.ix (.v 6) (.c (.int 0))) (.c (.str "work")))) .nl)))
  (σ:=[some l.toD,some (.tup (l.works.map Wk.toD)),some (.loc S.length),none,none]) (S:=S++[.lst []]) (S1:=S++[.lst []]) (s:=⟨num 0 (l.works.map Wk.toD),none,l.works.map Wk.toD⟩)
  (fun i σ T=>∃ x3 x4 G,σ=[some l.toD,some (.tup (l.works.map Wk.toD)),some (.loc S.length),x3,x4]/\T=S++.lst ((aT 0 (l.works.take i)).map tupI)::G)
  (by simp) ⟨none,none,[],rfl,rfl⟩ (fun _ _ _ _=>rfl) (fun i hi σ T ⟨x3,x4,G,hσ,hT⟩=>by
   subst hσ; subst hT
   have hi':i < l.works.length:=by rw [<- hnum]; exact hi
   have hit:(num 0 (l.works.map Wk.toD))[i]=.tup [.int (i:Int),(l.works[i]).toD]:=by
    rw [mq]; simp
   show ∃ σ' T',bY sub (ai sub P (n+7)) _ _ (num 0 (l.works.map Wk.toD))[i] _ _=_/\_
   rw [hit]
   refine ⟨_,_,oU rfl (gD (gr (r_v rfl) (af (yE (h3 _ (List.getElem_mem hi'))) ah) (zF (l:=S.length) (ds:=(aT 0 (l.works.take i)).map tupI) (k:=(S++.lst ((aT 0 (l.works.take i)).map tupI)::G).length) ?_ (bZ _ _) ?_))),some (.int (i:Int)),some (l.works[i]).toD,G++[.lst (((l.works[i]).srcs.filterMap (bV i)).map tupI)],rfl,?_⟩
   ·exact (List.getElem?_append_left (by simp)).trans sA
   ·have h1:=hnl (i+1)
    rw [jx _ _ _ hi',List.length_append,Nat.zero_add] at h1
    rw [List.length_map,List.length_map]
    unfold aS; omega
   ·rw [List.append_assoc,List.cons_append,Ac,<- List.map_append,jx _ _ _ hi',Nat.zero_add])
 rw [hnum,List.take_length] at e
 have ne:((aT 0 l.works).all fun t=>!t.isEmpty)=true:=List.all_eq_true.mpr fun t ht=>by
  obtain ⟨i,w,b,x,_,_,rfl⟩:=mU ht
  rfl
 have hl18:=hnl l.works.length
 rw [List.take_length] at hl18
 refine x_call (ds:=[l.toD]) hn rfl (aq (aZ (aA (aD (af (r_v rfl) ah) (nN h hl)) r_c (aC rfl))) (aq (aZ (cI ah rfl)) (aq e (aN (aQ (af (r_v rfl) ah) (BC sA hl18 ne)))))) (pA (by simp) ?_ (bZ _ _) (qp _))
 rw [List.append_assoc,fM]
end
end RL

namespace RL
open PySem EV GO
noncomputable def nq:Fn:=⟨1,5,(.seq (.set (.one 1) (.lst .nl))
 (.seq (.forS (.many [2,3]) (.iEnum (.ix (.v 0) (.c (.int 2))))
  (.forS (.one 4) (.iSeq (.ix (.v 3) (.c (.int 3))))
  (.ite (.and (.cmp .eq (.ix (.v 4) (.c (.int 0))) (.c (.str "work"))) (.cmp .cg (.tup (.cs (.ix (.v 4) (.c (.int 1))) (.cs (.v 2) (.cs (.ix (.v 4) (.c (.int 2))) .nl)))) (.v 1)))
  (.ex (.me .append (.v 1) (.cs (.tup (.cs (.ix (.v 4) (.c (.int 1))) (.cs (.v 2) (.cs (.ix (.v 4) (.c (.int 2))) .nl)))) .nl)))
  .skip)))
 (.ret (.bi .sorted (.cs (.v 1) .nl)))))⟩
noncomputable def cj (acc:List (List Int)) (t:List Int):List (List Int):=if t∈acc then acc else acc++[t]
noncomputable def uniq (acc ts:List (List Int)):List (List Int):=ts.foldl cj acc
theorem zg (acc:List (List Int)) (t x:List Int):x∈cj acc t ↔ x∈acc\/x=t:=by
 unfold cj
 split
 ·rename_i h
  exact ⟨.inl,fun q=>q.elim id fun e=>e ▸ h⟩
 ·simp
theorem uH {acc:List (List Int)} (t:List Int) (h:acc.Nodup):(cj acc t).Nodup:=by
 unfold cj
 split
 ·exact h
 ·rename_i q
  refine List.nodup_append.mpr ⟨h,by simp,fun a ha b hb e=>?_⟩
  rw [List.mem_singleton.mp hb] at e
  exact q (e ▸ ha)
theorem uL (acc:List (List Int)) (t:List Int):(cj acc t).length<=acc.length+1:=by
 unfold cj
 split
 ·omega
 ·simp
theorem lA (x:List Int):∀ (ts acc:List (List Int)),x∈uniq acc ts ↔ x∈acc\/x∈ts
 | [],acc=>by unfold uniq; simp
 | t::r,acc=>by
  show x∈uniq (cj acc t) r ↔ _
  rw [lA x r,zg,List.mem_cons,or_assoc]
theorem om:∀ (ts acc:List (List Int)),acc.Nodup->(uniq acc ts).Nodup
 | [],_,h=>h
 | t::r,_,h=>om r _ (uH t h)
theorem lq:∀ (ts acc:List (List Int)),(uniq acc ts).length<=acc.length+ts.length
 | [],acc=>by unfold uniq; simp
 | t::r,acc=>by
  have h1:=lq r (cj acc t)
  have h2:=uL acc t
  show (uniq (cj acc t) r).length<=_
  rw [List.length_cons]
  omega
theorem qS (acc xs ys:List (List Int)):uniq acc (xs++ys)=uniq (uniq acc xs) ys:=List.foldl_append
theorem Ax (ts:List (List Int)):aP (uniq [] ts)=aP ts:=mL (jE _) fun y=>by
 rw [lJ,lA]; simp
noncomputable def jc:List Int->List Int->Bool
 | a::r,b::q=>(a==b)&&jc r q
 | _,_=>true
theorem pC:∀ u t:List Int,(jc u t&&(u.length==t.length))=decide (u=t)
 | [],[]=>rfl
 | [],_::_=>rfl
 | _::_,[]=>rfl
 | a::r,b::q=>by
  have ih:=pC r q
  have e1:((a::r).length==(b::q).length)=(r.length==q.length):=by
   rw [List.length_cons,List.length_cons]
   by_cases h:r.length=q.length
   ·rw [h,beq_self_eq_true,beq_self_eq_true]
   ·rw [beq_eq_false_iff_ne.mpr h,beq_eq_false_iff_ne.mpr (by omega)]
  show ((a==b)&&jc r q&&((a::r).length==(b::q).length))=_
  rw [e1,Bool.and_assoc,ih]
  by_cases h:a=b
  ·subst h
   rw [beq_self_eq_true,Bool.true_and]
   by_cases h:r=q
   ·subst h; rw [decide_eq_true rfl,decide_eq_true rfl]
   ·rw [decide_eq_false h,decide_eq_false fun e=>h (List.cons.inj e).2]
  ·rw [beq_eq_false_iff_ne.mpr h,Bool.false_and,decide_eq_false fun e=>h (List.cons.inj e).1]
theorem pQ {S:aa} (n:Nat):∀ u t:List Int,bf (eqD (n+1) S) (u.map .int) (t.map .int)=some (jc u t)
 | [],[]=>rfl
 | [],_::_=>rfl
 | _::_,[]=>rfl
 | a::r,b::q=>by
  show (match eqD (n+1) S (.int a) (.int b),bf (eqD (n+1) S) (r.map .int) (q.map .int) with|some a,some b=>some (a&&b)|_,_=>none)=_
  rw [pQ n r q]; rfl
theorem vF {S:aa} (u t:List Int):eqD deep S (tupI u) (tupI t)=some (decide (u=t)):=by
 show (bf (eqD 11 S) (u.map .int) (t.map .int)).map (fun r=>r&&((u.map D.int).length==(t.map D.int).length))=_
 rw [pQ 10,List.length_map,List.length_map,<- pC]; rfl
theorem rG {S:aa} (t:List Int):∀ ts:List (List Int),inL S (tupI t) (ts.map tupI)=some (decide (t∈ts))
 | []=>by simp [inL]
 | u::r=>by
  show (match eqD deep S (tupI u) (tupI t),inL S (tupI t) (r.map tupI) with|some a,some b=>some (a||b)|_,_=>none)=_
  rw [vF,rG t r]
  show some (decide (u=t)||decide (t∈r))=_
  congr 1
  by_cases h:u=t
  ·subst h; simp
  ·rw [decide_eq_false h,Bool.false_or]
   by_cases q:t∈r
   ·rw [decide_eq_true q,decide_eq_true (List.mem_cons_of_mem _ q)]
   ·rw [decide_eq_false q,decide_eq_false]
    intro z
    rcases List.mem_cons.mp z with z|z
    ·exact h z.symm
    ·exact q z
section
variable {sub:Sub} {P:Prg} {n:Nat} {S:aa}
theorem EB {T:aa} {k:Nat} {ts:List (List Int)} {t:List Int} (hk:T[k]?=some (.lst (ts.map tupI))):cmD .cg (tupI t) (.loc k) T=.ok (.bl (!decide (t∈ts))) T:=by
 show (items (.loc k)>>=fun ys=>inA true (tupI t) ys) T=_
 rw [av,eY hk]
 simp only [Res.aj]
 unfold inA
 rw [rG]
 show Res.ok (D.bl (decide (t∈ts) != true)) T=_
 cases decide (t∈ts) <;> rfl
theorem zE {T:aa} {k:Nat} {ts:List (List Int)} (hk:T[k]?=some (.lst (ts.map tupI))) (h1:ts.length < 64) (h2:ts.Nodup) (h3:(ts.all fun t=>!t.isEmpty)=true):biD sub .sorted [.loc k] T=.ok (.loc T.length) (T++[.lst ((aP ts).map tupI)]):=by
 show (items (.loc k)>>=fun ds=>iW ds) T=_
 rw [av,eY hk]
 simp only [Res.aj]
 cases ts with
 | nil=>rfl
 | cons t r =>
  show j9 (tups ((t::r).map tupI)) T=_
  rw [kq]
  show guard (decide ((t::r).length < 64)&&decide (t::r).Nodup&&(t::r).all fun t=>!t.isEmpty) (alloc (.lst ((aP (t::r)).map tupI))) T=_
  rw [h3,decide_eq_true h1,decide_eq_true h2]; rfl
noncomputable def gX:EV.S:=.ite (.and (.cmp .eq (.ix (.v 4) (.c (.int 0))) (.c (.str "work"))) (.cmp .cg (.tup (.cs (.ix (.v 4) (.c (.int 1))) (.cs (.v 2) (.cs (.ix (.v 4) (.c (.int 2))) .nl)))) (.v 1)))
  (.ex (.me .append (.v 1) (.cs (.tup (.cs (.ix (.v 4) (.c (.int 1))) (.cs (.v 2) (.cs (.ix (.v 4) (.c (.int 2))) .nl)))) .nl)))
  .skip
theorem need_one {cf:Str->List D->M D} {l0:D} {i:Nat} {w:D} {s:Srs} {acc:List (List Int)} (hz:acc.length<=1000) :
  exec sub cf gX [some l0,some (.loc S.length),some (.int (i:Int)),some w,some s.toD] (S++[.lst (acc.map tupI)])=.ok (.nx [some l0,some (.loc S.length),some (.int (i:Int)),some w,some s.toD]) (S++[.lst ((match bV i s with|some t=>cj acc t|none=>acc).map tupI)]):=by
 cases s with
 | val v=>exact aK (iX (aW (bw (aA (r_v rfl) r_c (aC rfl)) r_c rfl))) aL
 | inp k=>exact aK (iX (aW (bw (aA (r_v rfl) r_c (aC rfl)) r_c rfl))) aL
 | wrk x b =>
  have hn:=EB (t:=[(x:Int),(i:Int),(b:Int)]) (bZ S (.lst (acc.map tupI)))
  have ht:evT sub cf (.and (.cmp .eq (.ix (.v 4) (.c (.int 0))) (.c (.str "work"))) (.cmp .cg (.tup (.cs (.ix (.v 4) (.c (.int 1))) (.cs (.v 2) (.cs (.ix (.v 4) (.c (.int 2))) .nl)))) (.v 1)))
    [some l0,some (.loc S.length),some (.int (i:Int)),some w,some (Srs.wrk x b).toD] (S++[.lst (acc.map tupI)])=.ok (!decide ([(x:Int),(i:Int),(b:Int)]∈acc)) (S++[.lst (acc.map tupI)]) :=
   iC (aW (bw (aA (r_v rfl) r_c (aC rfl)) r_c rfl)) (aW (bw (br (af (aA (r_v rfl) r_c (aC rfl)) (af (r_v rfl) (af (aA (r_v rfl) r_c (aC rfl)) ah))) rfl) (r_v rfl) hn))
  show _=Res.ok (Fl.nx _) (S++[.lst ((cj acc [(x:Int),(i:Int),(b:Int)]).map tupI)])
  unfold cj
  by_cases h:[(x:Int),(i:Int),(b:Int)]∈acc
  ·rw [if_pos h]
   rw [decide_eq_true h] at ht
   exact aK ht aL
  ·rw [if_neg h]
   rw [decide_eq_false h] at ht
   rw [List.map_append]
   exact dD ht (gD (gr (r_v rfl) (af (br (af (aA (r_v rfl) r_c (aC rfl)) (af (r_v rfl) (af (aA (r_v rfl) r_c (aC rfl)) ah))) rfl) ah) (zU (by rw [List.length_map]; omega))))
theorem E7 (i:Nat) (s:Srs) (acc:List (List Int)) (ss:List Srs):uniq acc ((ss++[s]).filterMap (bV i))=match bV i s with|some t=>cj (uniq acc (ss.filterMap (bV i))) t|none=>uniq acc (ss.filterMap (bV i)):=by
 rw [List.filterMap_append,qS]
 cases h:bV i s with
 | none=>rw [List.filterMap_cons_none h]; rfl
 | some t=>rw [List.filterMap_cons_some h]; rfl
theorem E2 {cf:Str->List D->M D} {l0:D} {i:Nat} {w:Wk} {acc:List (List Int)} {x4:Option D} (hz:acc.length<=100) (hw:w.srcs.length<=3) :
  ∃ x4',exec sub cf (.forS (.one 4) (.iSeq (.ix (.v 3) (.c (.int 3)))) gX) [some l0,some (.loc S.length),some (.int (i:Int)),some w.toD,x4] (S++[.lst (acc.map tupI)]) =
   .ok (.nx [some l0,some (.loc S.length),some (.int (i:Int)),some w.toD,x4']) (S++[.lst ((uniq acc (w.srcs.filterMap (bV i))).map tupI)]):=by
 obtain ⟨σ',T',e,x4',rfl,rfl⟩:=mJ (sub:=sub) (cf:=cf) (t:=.one 4) (it:=.iSeq (.ix (.v 3) (.c (.int 3)))) (b:=gX) (σ:=[some l0,some (.loc S.length),some (.int (i:Int)),some w.toD,x4]) (S:=S++[.lst (acc.map tupI)]) (S1:=S++[.lst (acc.map tupI)]) (s:=⟨w.srcs.map Srs.toD,none,w.srcs.map Srs.toD⟩)
  (fun j σ T=>∃ x4,σ=[some l0,some (.loc S.length),some (.int (i:Int)),some w.toD,x4]/\T=S++[.lst ((uniq acc ((w.srcs.take j).filterMap (bV i))).map tupI)])
  (ic (aA (r_v rfl) r_c (aC rfl)) rfl) ⟨x4,rfl,rfl⟩ (fun _ _ _ _=>rfl) (fun j hj σ T ⟨x4,hσ,hT⟩=>by
   subst hσ; subst hT
   have hj':j < w.srcs.length:=by simpa using hj
   have hit:(w.srcs.map Srs.toD)[j]'hj=(w.srcs[j]).toD:=List.getElem_map _
   show ∃ σ' T',bY sub cf (.one 4) gX ((w.srcs.map Srs.toD)[j]'hj) _ _=_/\_
   rw [hit]
   have h1:=lq ((w.srcs.take j).filterMap (bV i)) acc
   have h2:((w.srcs.take j).filterMap (bV i)).length<=(w.srcs.take j).length:=List.length_filterMap_le _ _
   rw [List.length_take] at h2
   refine ⟨_,_,uu (need_one (by omega)),some (w.srcs[j]).toD,rfl,?_⟩
   rw [List.take_succ_eq_append_getElem hj',E7])
 rw [List.length_map,List.take_length] at e
 exact ⟨x4',e⟩
theorem wO (hn:Has P "_law_needs" nq) {l:Lp} (hl:l.WF) (h6:l.works.length<=6):ai sub P (n+1) "_law_needs" [l.toD] S=.ok (.loc S.length) (S++[.lst ((aP (aT 0 l.works)).map tupI)]):=by
 have h3:∀ w∈l.works,w.srcs.length<=3:=fun w hw=>by
  obtain ⟨i,hi⟩:=List.getElem?_of_mem hw
  exact (hl.works i w hi).some.2
 have hnl:∀ i,(uniq [] (aT 0 (l.works.take i))).length<=18:=fun i=>by
  have h1:=lM (l.works.take i) 0 fun w hw=>h3 w (List.mem_of_mem_take hw)
  have h2:=lq (aT 0 (l.works.take i)) []
  rw [List.length_take] at h1
  rw [List.length_nil] at h2
  omega
 have hnum:(num 0 (l.works.map Wk.toD)).length=l.works.length:=by rw [gT,List.length_map]
 obtain ⟨σ',T',e,x2,x3,x4,rfl,rfl⟩:=mJ (sub:=sub) (cf:=ai sub P n) (t:=.many [2,3]) (it:=.iEnum (.ix (.v 0) (.c (.int 2)))) (b:=.forS (.one 4) (.iSeq (.ix (.v 3) (.c (.int 3)))) gX)
  (σ:=[some l.toD,some (.loc S.length),none,none,none]) (S:=S++[.lst []]) (S1:=S++[.lst []]) (s:=⟨num 0 (l.works.map Wk.toD),none,l.works.map Wk.toD⟩)
  (fun i σ T=>∃ x2 x3 x4,σ=[some l.toD,some (.loc S.length),x2,x3,x4]/\T=S++[.lst ((uniq [] (aT 0 (l.works.take i))).map tupI)])
  (by rw [DH,aA (r_v rfl) r_c (aC rfl),Res.aj]; rfl) ⟨none,none,none,rfl,rfl⟩ (fun _ _ _ _=>rfl) (fun i hi σ T ⟨x2,x3,x4,hσ,hT⟩=>by
   subst hσ; subst hT
   have hi':i < l.works.length:=by rw [<- hnum]; exact hi
   have hit:(num 0 (l.works.map Wk.toD))[i]=.tup [.int (i:Int),(l.works[i]).toD]:=by
    rw [mq]; simp
   show ∃ σ' T',bY sub (ai sub P n) _ _ (num 0 (l.works.map Wk.toD))[i] _ _=_/\_
   rw [hit]
   have h1:=hnl i
   obtain ⟨x4',e⟩:=E2 (sub:=sub) (cf:=ai sub P n) (S:=S) (l0:=l.toD) (i:=i) (w:=l.works[i]) (acc:=uniq [] (aT 0 (l.works.take i))) (x4:=x4) (by omega) (h3 _ (List.getElem_mem hi'))
   refine ⟨_,_,oU rfl e,some (.int (i:Int)),some (l.works[i]).toD,x4',rfl,?_⟩
   rw [jx _ _ _ hi',Nat.zero_add,qS])
 rw [hnum,List.take_length] at e
 have ne:((uniq [] (aT 0 l.works)).all fun t=>!t.isEmpty)=true:=List.all_eq_true.mpr fun t ht=>by
  obtain ⟨i,w,b,x,_,_,rfl⟩:=mU (((lA t _ _).mp ht).elim (fun z=>by cases z) id)
  rfl
 have hl18:=hnl l.works.length
 rw [List.take_length] at hl18
 rw [<- Ax]
 refine x_call (ds:=[l.toD]) hn rfl (aq (aZ (cI ah rfl)) (aq e (aN (aQ (af (r_v rfl) ah) (zE (bZ _ _) (by omega) (om _ _ List.nodup_nil) ne))))) (pA (by simp) ?_ (bZ _ _) (qp _))
 rw [List.append_assoc,fM]
end
end RL

namespace RB
open PySem EV GO
open RL (d7 iH dU g6 g7 fJ jq gW jy gZ fP jz iZ Has aM HB short cE)
mutual
noncomputable def fit (n:Nat):D->Bool
 | .tup ds=>fits' n ds
 | .fro ds=>fits' n ds
 | .loc l=>decide (l < n)
 | .exn _=>false
 | .non=>true
 | .bl _=>true
 | .int _=>true
 | .str _=>true
noncomputable def fits' (n:Nat):List D->Bool
 | []=>true
 | d::r=>fit n d&&fits' n r
end
theorem bC {n:Nat}:∀ {ds:List D},fits' n ds=true ↔ ∀ d∈ds,fit n d=true
 | []=>by simp [fits']
 | d::r=>by rw [fits',Bool.and_eq_true,bC]; simp
noncomputable def aI (d:D) (lo hi:Int):Bool:=match d with|.int i=>decide (lo<=i)&&decide (i<=hi)|_=>false
noncomputable def aG (d:D) (lo hi:Int):Bool:=match d with|.tup ds=>decide (lo<=(ds.length:Int))&&decide ((ds.length:Int)<=hi)|_=>false
noncomputable def pt (d:D) (i:Nat):D:=match d with|.tup ds=>ds.getD i .non|_=>.non
variable {sub:Sub} {P:Prg} {n:Nat} {S:aa}
theorem mD {l:Nat} {t:Ty} (hS:aM S) (h:l < S.length) (ht:∀ c,t≠.cls c):cC sub S (.loc l) t=some (decide (t=.list)):=by
 obtain ⟨ds,e⟩:=hS l S[l] (List.getElem?_eq_getElem h)
 have e:S[l]?=some (.lst ds):=by rw [List.getElem?_eq_getElem h,e]
 cases t <;> first|exact absurd rfl (ht _)|(simp [cC,e])
theorem bH (h:Has P "is_whole" d7) {d:D} {lo hi:Int} (hS:aM S) (hd:fit S.length d=true):ai sub P (n+1) "is_whole" [d,.int lo,.int hi] S=.ok (.bl (aI d lo hi)) S:=by
 rw [b8 h rfl]
 cases d with
 | loc l =>
  have hl:l < S.length:=of_decide_eq_true hd
  simp [d7,frame,mD hS hl,aI]
 | exn c=>cases hd
 | int i =>
  by_cases q:lo<=i <;> simp [d7,frame,cC,aI,q]
 | _=>simp [d7,frame,cC,aI]
theorem oS (h:Has P "is_whole" d7) (h2:Has P "is_value" iH) {d:D} (hS:aM S) (hd:fit S.length d=true):ai sub P (n+2) "is_value" [d] S=.ok (.bl (aI d 0 9972)) S:=by
 rw [b8 h2 rfl]
 simp [iH,frame,bH h hS hd]
theorem aV (h:Has P "is_row" dU) {d:D} {lo hi:Int} (hS:aM S) (hd:fit S.length d=true):ai sub P (n+1) "is_row" [d,.int lo,.int hi] S=.ok (.bl (aG d lo hi)) S:=by
 rw [b8 h rfl]
 cases d with
 | loc l =>
  have hl:l < S.length:=of_decide_eq_true hd
  simp [dU,frame,mD hS hl,aG]
 | exn c=>cases hd
 | tup ds=>by_cases q:lo<=(ds.length:Int) <;> simp [dU,frame,cC,aG,q]
 | _=>simp [dU,frame,cC,aG]
theorem cJ {d:D} {lo hi:Int} (h:aG d lo hi=true):∃ ds,d=.tup ds/\lo<=(ds.length:Int)/\(ds.length:Int)<=hi:=by
 cases d <;> first|(cases h; done)|skip
 rename_i ds
 simp only [aG,Bool.and_eq_true,decide_eq_true_eq] at h
 exact ⟨ds,rfl,h.1,h.2⟩
theorem b6 {n:Nat} {ds:List D} {i:Nat} {d:D} (h:fit n (.tup ds)=true) (e:ds[i]?=some d):fit n d=true:=bC.mp h d (List.mem_of_getElem? e)
noncomputable def gO (d:D):Bool:=aG d 2 2&&(aI (pt d 0) 1 3&&aI (pt d 1) 1 4)
theorem E6 (h:HB P) {d:D} (hS:aM S) (hd:fit S.length d=true):ai sub P (n+2) "is_crew" [d] S=.ok (.bl (gO d)) S:=by
 rw [b8 h.crew rfl]
 cases q:aG d 2 2 with
 | false=>simp [g6,frame,aV h.row hS hd,q,gO]
 | true =>
  obtain ⟨ds,rfl,h1,h2⟩:=cJ q
  match ds,h1,h2 with
  | [a,b],_,_ =>
   have ha:=b6 (i:=0) hd rfl
   have hb:=b6 (i:=1) hd rfl
   cases q2:aI a 1 3 <;> simp [g6,frame,aV h.row hS hd,q,gO,pt,bH h.whole hS ha,bH h.whole hS hb,q2]
  | [],h1,_=>simp at h1
  | [_],h1,_=>simp at h1
  | _::_::_::_,_,h2=>simp at h2; omega
noncomputable def tuB (d:D) (f:D->Bool):Bool:=match d with|.tup ds=>ds.all f|_=>false
noncomputable def eT (d:D):Bool:=aG d 1 3&&tuB d gO
theorem tw (h:HB P) {d:D} (hS:aM S) (hd:fit S.length d=true):ai sub P (n+3) "are_crews" [d] S=.ok (.bl (eT d)) S:=by
 rw [b8 h.crews rfl]
 cases q:aG d 1 3 with
 | false=>simp [g7,frame,aV h.row hS hd,q,eT]
 | true =>
  obtain ⟨ds,rfl,h1,h2⟩:=cJ q
  have hc:ev sub (ai sub P (n+2)) (.comp 2 (.call "is_crew" (.cs (.v 2) .nl)) (.one 2) (.iSeq (.v 0)) .nl) [some (.tup ds)] S=.ok (.loc S.length) (S++[.lst (ds.map fun e=>.bl (gO e))]) :=
   comp_map (s:=⟨ds,none,ds⟩) (by simp) rfl (fun e he=>by simp [E6 h hS (bC.mp hd e he)]) (short h2 (by decide))
  simp [g7,frame,aV h.row hS hd,q,eT,hc,fS,tuB]
noncomputable def dm (d:D):Bool:=aG d 3 3&&tuB d fun e=>aI e 0 9972
theorem pR (h:HB P) {d:D} (hS:aM S) (hd:fit S.length d=true):ai sub P (n+3) "are_starts" [d] S=.ok (.bl (dm d)) S:=by
 rw [b8 h.starts rfl]
 cases q:aG d 3 3 with
 | false=>simp [gW,frame,aV h.row hS hd,q,dm]
 | true =>
  obtain ⟨ds,rfl,h1,h2⟩:=cJ q
  have hc:ev sub (ai sub P (n+2)) (.comp 2 (.call "is_value" (.cs (.v 2) .nl)) (.one 2) (.iSeq (.v 0)) .nl) [some (.tup ds)] S=.ok (.loc S.length) (S++[.lst (ds.map fun e=>.bl (aI e 0 9972))]) :=
   comp_map (s:=⟨ds,none,ds⟩) (by simp) rfl (fun e he=>by simp [oS h.whole h.value hS (bC.mp hd e he)]) (short h2 (by decide))
  simp [gW,frame,aV h.row hS hd,q,dm,hc,fS,tuB]
noncomputable def isZ:D->Bool
 | .int i=>i==0
 | _=>false
noncomputable def wsB (d:D) (own many:Int):Bool:=aG d 3 3&&(aI (pt d 2) 0 3&&aI (pt d 1) 0 ((if isZ (pt d 2)=true then own else many) - 1))
theorem k9 {d:D} {lo hi:Int} (h:aI d lo hi=true):∃ i,d=.int i/\lo<=i/\i<=hi:=by
 cases d <;> first|(cases h; done)|skip
 rename_i i
 simp only [aI,Bool.and_eq_true,decide_eq_true_eq] at h
 exact ⟨i,rfl,h.1,h.2⟩
theorem Ae (h:HB P) {d:D} {own many:Int} (hS:aM S) (hd:fit S.length d=true):ai sub P (n+2) "is_work_source" [d,.int own,.int many] S=.ok (.bl (wsB d own many)) S:=by
 rw [b8 h.worksource rfl]
 cases q:aG d 3 3 with
 | false=>simp [fJ,frame,aV h.row hS hd,q,wsB]
 | true =>
  obtain ⟨ds,rfl,h1,h2⟩:=cJ q
  match ds,h1,h2 with
  | [a,b,c],_,_ =>
   have hb:=b6 (i:=1) hd rfl
   have hc:=b6 (i:=2) hd rfl
   cases q2:aI c 0 3 with
   | false=>simp [fJ,frame,aV h.row hS hd,q,wsB,pt,bH h.whole hS hc,q2]
   | true =>
    obtain ⟨i,rfl,_,_⟩:=k9 q2
    by_cases q3:i=0
    ·subst q3; simp [fJ,frame,aV h.row hS hd,q,wsB,pt,bH h.whole hS hc,bH h.whole hS hb,q2,isZ]
    ·simp [fJ,frame,aV h.row hS hd,q,wsB,pt,bH h.whole hS hc,bH h.whole hS hb,q2,isZ, *]
  | [],h1,_=>simp at h1
  | [_],h1,_=>simp at h1
  | [_,_],h1,_=>simp at h1
  | _::_::_::_::_,_,h2=>simp at h2; omega
noncomputable def f6:D->Bool
 | .str _=>true
 | _=>false
noncomputable def isS (x:Str):D->Bool
 | .str y=>y==x
 | _=>false
noncomputable def c7 (d:D) (own many streams:Int):Bool:=aG d 2 3&&(f6 (pt d 0)&&(if isS "work" (pt d 0)=true then wsB d own many else aG d 2 2&&(if isS "input" (pt d 0)=true then aI (pt d 1) 0 (streams - 1) else isS "value" (pt d 0)&&aI (pt d 1) 0 9972)))
theorem g8 {d:D} (hS:aM S) (hd:fit S.length d=true):cC sub S d .str=some (f6 d):=by
 cases d with
 | loc l=>rw [mD hS (of_decide_eq_true hd) (by simp)]; rfl
 | exn c=>cases hd
 | _=>rfl
theorem Ec (h:HB P) {d:D} {own many streams:Int} (hS:aM S) (hd:fit S.length d=true):ai sub P (n+3) "is_source" [d,.int own,.int many,.int streams] S=.ok (.bl (c7 d own many streams)) S:=by
 rw [b8 h.source rfl]
 show aH S (exec sub (ai sub P (n+2)) jq.body [some d,some (.int own),some (.int many),some (.int streams)] S)=_
 cases q:aG d 2 3 with
 | false =>
  refine (congrArg (aH S) (b_ (by simp [aV h.row hS hd,q]))).trans ?_
  simp [c7,q]
 | true =>
  obtain ⟨ds,rfl,h1,h2⟩:=cJ q
  obtain ⟨a,b,r,rfl⟩:∃ a b r,ds=a::b::r:=by
   rcases ds with _|⟨a,_|⟨b,r⟩⟩
   case cons.cons=>exact ⟨_,_,_,rfl⟩
   all_goals simp at h1
  have ha:=b6 (i:=0) hd rfl
  have hb:=b6 (i:=1) hd rfl
  have hw:c7 (.tup (a::b::r)) own many streams=(f6 a&&(if isS "work" a=true then wsB (.tup (a::b::r)) own many else aG (.tup (a::b::r)) 2 2&&(if isS "input" a=true then aI b 0 (streams - 1) else isS "value" a&&aI b 0 9972))):=by
   unfold c7; rw [q]; rfl
  rw [hw]
  clear hw
  cases q2:f6 a with
  | false =>
   refine (congrArg (aH S) (b_ (by simp [aV h.row hS hd,q,g8 hS ha,q2]))).trans ?_
   simp
  | true =>
   refine (congrArg (aH S) (dz (by simp [aV h.row hS hd,q,g8 hS ha,q2]))).trans ?_
   obtain ⟨x,rfl⟩:∃ x,a=.str x:=by
    cases a <;> first|(cases q2; done)|exact ⟨_,rfl⟩
   cases q3:(x==("work" : Str)) with
   | true =>
    refine (congrArg (aH S) (b_ (by simp [q3]))).trans ?_
    simp [q3,isS,Ae h hS hd]
   | false =>
    have q3':¬ x=("work" : Str):=by simpa using q3
    refine (congrArg (aH S) (dz (by simp [q3']))).trans ?_
    cases r with
    | cons c r =>
     have h4:¬ ((r.length:Int)+1+1+1=2):=by omega
     have h3:aG (.tup (.str x::b::c::r)) 2 2=false:=by simp [aG]; omega
     refine (congrArg (aH S) (b_ (by simp [h4]))).trans ?_
     simp [h3,isS,q3']
    | nil =>
     have h3:aG (.tup [.str x,b]) 2 2=true:=by simp [aG]
     refine (congrArg (aH S) (dz (by simp))).trans ?_
     cases q4:(x==("input" : Str)) with
     | true =>
      refine (congrArg (aH S) (b_ (by simp [q4]))).trans ?_
      simp [q3',q4,isS,h3,bH h.whole hS hb]
     | false =>
      have q4':¬ x=("input" : Str):=by simpa using q4
      refine (congrArg (aH S) (dz (by simp [q4']))).trans ?_
      cases q5:(x==("value" : Str)) with
      | true=>simp [q3',q4',q5,isS,h3,oS h.whole h.value hS hb]
      | false=>simp [q3',q4',q5,isS,h3]
noncomputable def fj:D->Bool
 | .str x=>decide (x∈cE)
 | _=>false
theorem notin_words (x:Str):cmD .cg (.str x) (.tup [(.str "plus"),(.str "less"),(.str "times"),(.str "least"),(.str "greatest")]) S=.ok (.bl (!fj (.str x))) S:=by
 have e:∀ a b:Str,eqD deep S (.str a) (.str b)=some (a==b):=fun _ _=>rfl
 show (items _>>=fun ys=>inA true (.str x) ys) S=_
 rw [av]
 simp only [Fo,Res.aj]
 unfold inA
 simp only [inL,e]
 congr 2
 simp only [fj,cE]
 have:∀ a:Str,(a==x)=decide (x=a):=fun a=>by
  by_cases h:x=a
  ·subst h; simp
  ·rw [decide_eq_false h]; simpa using fun q=>h q.symm
 simp [this,Bool.or_assoc]
noncomputable def bQ (d:D) (own many streams ncrews:Int):Bool:=aG d 5 5&&((aI (pt d 0) 0 (ncrews - 1)&&aI (pt d 1) 1 8)&&(fj (pt d 2)&&((aG (pt d 3) 1 3&&dm (pt d 4))&&tuB (pt d 3) fun e=>c7 e own many streams)))
theorem Ef {d:D} (h:fj d=true):∃ x,d=.str x:=by cases d <;> first|(cases h; done)|exact ⟨_,rfl⟩
theorem zT {ds:List D} (h1:5<=(ds.length:Int)) (h2:(ds.length:Int)<=5):∃ a b c e f,ds=[a,b,c,e,f]:=by
 rcases ds with _|⟨a,_|⟨b,_|⟨c,_|⟨e,_|⟨f,_|⟨g,r⟩⟩⟩⟩⟩⟩
 case cons.cons.cons.cons.cons.nil=>exact ⟨a,b,c,e,f,rfl⟩
 all_goals (simp at h1 h2; try omega)
theorem vU (h:HB P) {d:D} {own many streams ncrews:Int} (hS:aM S) (hd:fit S.length d=true) :
  aH S (exec sub (ai sub P (n+3)) jy.body [some d,some (.int own),some (.int many),some (.int streams),some (.int ncrews),none] S)=.ok (.bl (bQ d own many streams ncrews)) S:=by
 cases q:aG d 5 5 with
 | false =>
  refine (congrArg (aH S) (b_ (by simp [aV h.row hS hd,q]))).trans ?_
  simp [bQ,q]
 | true =>
  refine (congrArg (aH S) (dz (by simp [aV h.row hS hd,q]))).trans ?_
  obtain ⟨ds,rfl,h1,h2⟩:=cJ q
  obtain ⟨a,b,c,e,f,rfl⟩:=zT h1 h2
  have ha:=b6 (i:=0) hd rfl
  have hb:=b6 (i:=1) hd rfl
  have hc:=b6 (i:=2) hd rfl
  have he:=b6 (i:=3) hd rfl
  have hf:=b6 (i:=4) hd rfl
  have hw:bQ (.tup [a,b,c,e,f]) own many streams ncrews=((aI a 0 (ncrews - 1)&&aI b 1 8)&&(fj c&&((aG e 1 3&&dm f)&&tuB e fun e=>c7 e own many streams))):=by
   unfold bQ; rw [q]; rfl
  rw [hw]
  clear hw
  cases q1:aI a 0 (ncrews - 1) with
  | false =>
   refine (congrArg (aH S) (b_ (by simp [bH h.whole hS ha,q1]))).trans ?_
   simp
  | true =>
  cases q2:aI b 1 8 with
  | false =>
   refine (congrArg (aH S) (b_ (by simp [bH h.whole hS ha,bH h.whole hS hb,q1,q2]))).trans ?_
   simp
  | true =>
  refine (congrArg (aH S) (dz (by simp [bH h.whole hS ha,bH h.whole hS hb,q1,q2]))).trans ?_
  cases q3:fj c with
  | false =>
   refine (congrArg (aH S) (b_ ?_)).trans (by simp)
   cases q4:f6 c with
   | false=>simp [g8 hS hc,q4]
   | true =>
    obtain ⟨x,rfl⟩:∃ x,c=.str x:=by
     cases c <;> first|(cases q4; done)|exact ⟨_,rfl⟩
    simp [g8 hS hc,q4,notin_words,q3]
  | true =>
  obtain ⟨x,rfl⟩:=Ef q3
  refine (congrArg (aH S) (dz (by simp [g8 hS hc,f6,notin_words,q3]))).trans ?_
  refine (congrArg (aH S) (Cs (d:=e) (S':=S) (by simp))).trans ?_
  cases q5:aG e 1 3 with
  | false =>
   refine (congrArg (aH S) (b_ (by simp [aV h.row hS he,q5]))).trans (by simp)
  | true =>
  cases q6:dm f with
  | false =>
   refine (congrArg (aH S) (b_ (by simp [aV h.row hS he,pR h hS hf,q5,q6]))).trans (by simp)
  | true =>
  refine (congrArg (aH S) (dz (by simp [aV h.row hS he,pR h hS hf,q5,q6]))).trans ?_
  obtain ⟨es,rfl,e1,e2⟩:=cJ q5
  have hcm:ev sub (ai sub P (n+3)) (.comp 2 (.call "is_source" (.cs (.v 7) (.cs (.v 1) (.cs (.v 2) (.cs (.v 3) .nl))))) (.one 7) (.iSeq (.v 5)) .nl) [some (.tup [a,b,.str x,.tup es,f]),some (.int own),some (.int many),some (.int streams),some (.int ncrews),some (.tup es)] S =
    .ok (.loc S.length) (S++[.lst (es.map fun e=>.bl (c7 e own many streams))]) :=
   comp_map (s:=⟨es,none,es⟩) (by simp) rfl (fun e hm=>by simp [Ec h hS (bC.mp he e hm)]) (short e2 (by decide))
  refine (congrArg (aH S) (iV ..)).trans ?_
  simp [hcm,fS,tuB]
theorem yq (h:HB P) {d:D} {own many streams ncrews:Int} (hS:aM S) (hd:fit S.length d=true):ai sub P (n+4) "is_work" [d,.int own,.int many,.int streams,.int ncrews] S=.ok (.bl (bQ d own many streams ncrews)) S:=by
 rw [b8 h.work rfl]
 exact vU h hS hd
noncomputable def allFrom (k:Nat) (f:Nat->D->Bool):List D->Bool
 | []=>true
 | d::r=>f k d&&allFrom (k+1) f r
noncomputable def ez (d:D) (streams ncrews:Int):Bool:=aG d 1 8&&(match d with|.tup ds=>allFrom 0 (fun own w=>bQ w own ds.length streams ncrews) ds|_=>false)
theorem qx:∀ {ds:List D} {k:Nat} {d:D},d∈num k ds->∃ (i:Nat) (e:D),d=.tup [.int (i:Nat),e]/\e∈ds
 | [],_,_,h=>by simp [num] at h
 | x::r,k,d,h=>by
  rcases List.mem_cons.mp h with rfl|h
  ·exact ⟨k,x,rfl,List.mem_cons_self⟩
  ·obtain ⟨i,e,h1,h2⟩:=qx h; exact ⟨i,e,h1,List.mem_cons_of_mem _ h2⟩
theorem rA {f:Nat->D->Bool} {F:D->Bool} (hF:∀ (i:Nat) e,F (.tup [.int (i:Nat),e])=f i e):∀ (ds:List D) (k:Nat),(num k ds).all F=allFrom k f ds
 | [],_=>rfl
 | d::r,k=>by simp [num,allFrom,hF,rA hF r]
theorem ng:∀ (ds:List D) (k:Nat),(num k ds).length=ds.length
 | [],_=>rfl
 | _::r,k=>by simp [num,ng r]
noncomputable def ptI (d:D) (i:Nat):Int:=match pt d i with|.int j=>j|_=>0
theorem qo (h:HB P) {d:D} {streams ncrews:Int} (hS:aM S) (hd:fit S.length d=true):ai sub P (n+5) "are_works" [d,.int streams,.int ncrews] S=.ok (.bl (ez d streams ncrews)) S:=by
 rw [b8 h.works rfl]
 cases q:aG d 1 8 with
 | false=>simp [gZ,frame,aV h.row hS hd,q,ez]
 | true =>
  obtain ⟨ds,rfl,h1,h2⟩:=cJ q
  have hcm:ev sub (ai sub P (n+4)) (.comp 3 (.call "is_work" (.cs (.v 6) (.cs (.v 5) (.cs (.v 3) (.cs (.v 1) (.cs (.v 2) .nl)))))) (.many [5,6]) (.iEnum (.v 0)) .nl) [some (.tup ds),some (.int streams),some (.int ncrews),some (.int ds.length)] S =
    .ok (.loc S.length) (S++[.lst ((num 0 ds).map fun e=>.bl (bQ (pt e 1) (ptI e 0) ds.length streams ncrews))]) :=
   o9 (s:=⟨num 0 ds,none,ds⟩) (by simp) rfl (fun e hm=>by
    obtain ⟨i,w,rfl,hw⟩:=qx hm
    exact ⟨_,rfl,rfl,by simp [bT,yq h hS (bC.mp hd w hw),pt,ptI]⟩) (by show (num 0 ds).length<=_; rw [ng]; exact short h2 (by decide))
  have hall:=rA (f:=fun own w=>bQ w own ds.length streams ncrews) (F:=fun e=>bQ (pt e 1) (ptI e 0) ds.length streams ncrews) (fun i e=>rfl) ds 0
  simp [gZ,frame,aV h.row hS hd,q,ez,hcm,fS,hall]
noncomputable def cO (many:Int):Int->List D->Bool
 | _,[]=>true
 | least,d::r=>match d with|.int i=>(decide (least<=i)&&decide (i<=many - 1))&&cO many (i+1) r|_=>false
noncomputable def fk (d:D) (many:Int):Bool:=aG d 1 many&&(match d with|.tup ds=>cO many 0 ds|_=>false)
theorem qA (h:HB P) {D0:D} {many:Int} (hS:aM S) (all:List D):∀ (ds:List D) (least:Int) (x:Option D),(∀ d∈ds,fit S.length d=true) ->
  (cO many least ds=true/\∃ σ',forL ⟨all,none,all⟩ (bY sub (ai sub P (n+1)) (.one 3) (.seq (.ite (.not (.call "is_whole" (.cs (.v 3) (.cs (.v 2) (.cs (.bin .sub (.v 1) (.c (.int 1))) .nl))))) (.ret (.c (.bl false))) .skip) (.set (.one 2) (.bin .add (.v 3) (.c (.int 1)))))) ds [some D0,some (.int many),some (.int least),x] S=.ok (.nx σ') S) \/
  (cO many least ds=false/\forL ⟨all,none,all⟩ (bY sub (ai sub P (n+1)) (.one 3) (.seq (.ite (.not (.call "is_whole" (.cs (.v 3) (.cs (.v 2) (.cs (.bin .sub (.v 1) (.c (.int 1))) .nl))))) (.ret (.c (.bl false))) .skip) (.set (.one 2) (.bin .add (.v 3) (.c (.int 1)))))) ds [some D0,some (.int many),some (.int least),x] S=.ok (.rt (.bl false)) S)
 | [],least,x,_=>.inl ⟨rfl,_,by rw [jJ]; rfl⟩
 | d::r,least,x,hf=>by
  rw [jj]
  have hd:=hf d List.mem_cons_self
  simp only [EF,Res.aj,i7]
  cases q:aI d least (many - 1) with
  | false =>
   refine .inr ⟨?_,by simp [bH h.whole hS hd,q]⟩
   cases d <;> first|rfl|skip
   rename_i i
   have q:(decide (least<=i)&&decide (i<=many - 1))=false:=q
   simp only [cO,q,Bool.false_and]
  | true =>
   have q0:=q
   obtain ⟨i,rfl,h1,h2⟩:=k9 q
   have e:cO many least (.int i::r)=cO many (i+1) r:=by
    have q:(decide (least<=i)&&decide (i<=many - 1))=true:=q
    simp only [cO,q,Bool.true_and]
   rw [e]
   have:=qA h (D0:=D0) (many:=many) hS all r (i+1) (some (.int i)) fun d hd=>hf d (List.mem_cons_of_mem _ hd)
   simpa [bH h.whole hS hd,q0] using this
theorem vm (h:HB P) {d:D} {many:Int} (hS:aM S) (hd:fit S.length d=true):ai sub P (n+2) "are_outs" [d,.int many] S=.ok (.bl (fk d many)) S:=by
 rw [b8 h.outs rfl]
 cases q:aG d 1 many with
 | false=>simp [fP,frame,aV h.row hS hd,q,fk]
 | true =>
  obtain ⟨ds,rfl,h1,h2⟩:=cJ q
  rcases qA (sub:=sub) (n:=n) h (D0:=.tup ds) (many:=many) hS ds ds 0 none (bC.mp hd) with ⟨e,σ',hl⟩|⟨e,hl⟩
  ·have:=gC (sub:=sub) (cf:=ai sub P (n+1)) (t:=.one 3) (it:=.iSeq (.v 0)) (σ:=[some (.tup ds),some (.int many),some (.int 0),none]) (S:=S) (s:=⟨ds,none,ds⟩) (by simp) hl
   simp [fP,frame,aV h.row hS hd,q,fk,this,e]
  ·have:=gC (sub:=sub) (cf:=ai sub P (n+1)) (t:=.one 3) (it:=.iSeq (.v 0)) (σ:=[some (.tup ds),some (.int many),some (.int 0),none]) (S:=S) (s:=⟨ds,none,ds⟩) (by simp) hl
   simp [fP,frame,aV h.row hS hd,q,fk,this,e]
noncomputable def ek:D->Int
 | .tup ds=>ds.length
 | _=>0
noncomputable def cV (d:D):Bool:=aG d 4 4&&((aI (pt d 0) 0 6&&eT (pt d 1))&&(ez (pt d 2) (ptI d 0) (ek (pt d 1))&&fk (pt d 3) (ek (pt d 2))))
theorem four {ds:List D} (h1:4<=(ds.length:Int)) (h2:(ds.length:Int)<=4):∃ a b c e,ds=[a,b,c,e]:=by
 rcases ds with _|⟨a,_|⟨b,_|⟨c,_|⟨e,_|⟨g,r⟩⟩⟩⟩⟩
 case cons.cons.cons.cons.nil=>exact ⟨a,b,c,e,rfl⟩
 all_goals (simp at h1 h2; try omega)
theorem Et (h:HB P) {d:D} (hS:aM S) (hd:fit S.length d=true):ai sub P (n+6) "is_loop" [d] S=.ok (.bl (cV d)) S:=by
 rw [b8 h.loop rfl]
 show aH S (exec sub (ai sub P (n+5)) jz.body [some d] S)=_
 cases q:aG d 4 4 with
 | false =>
  refine (congrArg (aH S) (b_ (by simp [aV h.row hS hd,q]))).trans ?_
  simp [cV,q]
 | true =>
  refine (congrArg (aH S) (dz (by simp [aV h.row hS hd,q]))).trans ?_
  obtain ⟨ds,rfl,h1,h2⟩:=cJ q
  obtain ⟨a,b,c,e,rfl⟩:=four h1 h2
  have ha:=b6 (i:=0) hd rfl
  have hb:=b6 (i:=1) hd rfl
  have hc:=b6 (i:=2) hd rfl
  have he:=b6 (i:=3) hd rfl
  cases q1:aI a 0 6 with
  | false =>
   refine (congrArg (aH S) (b_ (by simp [bH h.whole hS ha,q1]))).trans ?_
   simp [cV,q,pt,q1]
  | true =>
   cases q2:eT b with
   | false =>
    refine (congrArg (aH S) (b_ (by simp [bH h.whole hS ha,q1,q2,tw h hS hb]))).trans ?_
    simp [cV,q,pt,q1,q2]
   | true =>
    refine (congrArg (aH S) (dz (by simp [bH h.whole hS ha,q1,q2,tw h hS hb]))).trans ?_
    have q1':=q1
    have q2':=q2
    obtain ⟨i,rfl,_,_⟩:=k9 q1
    unfold eT at q2
    rw [Bool.and_eq_true] at q2
    obtain ⟨bs,rfl,_,_⟩:=cJ q2.1
    cases q3:ez c i bs.length with
    | false=>simp [q,cV,pt,ptI,ek,q1',q2',q3,qo h hS hc]
    | true =>
     have q3':=q3
     unfold ez at q3
     rw [Bool.and_eq_true] at q3
     obtain ⟨cs,rfl,_,_⟩:=cJ q3.1
     simp [q,cV,pt,ptI,ek,q1',q2',q3',qo h hS hc,vm h hS he]
theorem B9 (h:HB P) {d:D} (hS:aM S) (hd:fit S.length d=true) (hl:cV d=false):ai sub P (n+7) "checked" [d] S=.exc "NoLoop" S:=by
 rw [b8 h.checked rfl]
 simp [iZ,frame,Et h hS hd,hl,aH]
end RB

namespace K01
open PySem EV GO
open RL (Has aM HB Srs Wk Lp az au)
open RB
noncomputable def iN:Fn:=⟨2,9,(.seq (.set (.many [2,3,4,5,6]) (.v 0))
 (.seq (.set (.one 7) (.lst (.cs (.sl (.v 0) .nl (.c (.int 4))) (.cs (.bin .add (.v 0) (.tup (.cs (.c (.int 1)) .nl))) (.cs (.bi .list (.cs (.v 0) .nl)) (.cs (.tup (.cs (.c (.int 3)) (.cs (.v 3) (.cs (.v 4) (.cs (.v 5) (.cs (.v 6) .nl)))))) (.cs (.tup (.cs (.neg (.c (.int 1))) (.cs (.v 3) (.cs (.v 4) (.cs (.v 5) (.cs (.v 6) .nl)))))) .nl)))))))
 (.seq (.ex (.me .extend (.v 7) (.cs (.lst (.cs (.tup (.cs (.v 2) (.cs (.c (.int 0)) (.cs (.v 4) (.cs (.v 5) (.cs (.v 6) .nl)))))) (.cs (.tup (.cs (.v 2) (.cs (.c (.int 9)) (.cs (.v 4) (.cs (.v 5) (.cs (.v 6) .nl)))))) .nl))) .nl)))
 (.seq (.ex (.me .extend (.v 7) (.cs (.lst (.cs (.tup (.cs (.v 2) (.cs (.c (.bl true)) (.cs (.v 4) (.cs (.v 5) (.cs (.v 6) .nl)))))) (.cs (.tup (.cs (.v 2) (.cs (.v 3) (.cs (.c (.str "more")) (.cs (.v 5) (.cs (.v 6) .nl)))))) .nl))) .nl)))
 (.seq (.ex (.me .extend (.v 7) (.cs (.lst (.cs (.tup (.cs (.v 2) (.cs (.v 3) (.cs (.c .non) (.cs (.v 5) (.cs (.v 6) .nl)))))) (.cs (.tup (.cs (.v 2) (.cs (.v 3) (.cs (.v 4) (.cs (.tup .nl) (.cs (.v 6) .nl)))))) .nl))) .nl)))
 (.seq (.ex (.me .extend (.v 7) (.cs (.lst (.cs (.tup (.cs (.v 2) (.cs (.v 3) (.cs (.v 4) (.cs (.bi .list (.cs (.v 5) .nl)) (.cs (.v 6) .nl)))))) (.cs (.tup (.cs (.v 2) (.cs (.v 3) (.cs (.v 4) (.cs (.v 5) (.cs (.sl (.v 6) .nl (.c (.int 2))) .nl)))))) .nl))) .nl)))
 (.seq (.ex (.me .extend (.v 7) (.cs (.lst (.cs (.tup (.cs (.v 2) (.cs (.v 3) (.cs (.v 4) (.cs (.v 5) (.cs (.bi .list (.cs (.v 6) .nl)) .nl)))))) (.cs (.tup (.cs (.v 2) (.cs (.v 3) (.cs (.v 4) (.cs (.v 5) (.cs (.tup (.cs (.c (.int 0)) (.cs (.c (.int 0)) (.cs (.c (.int 9973)) .nl)))) .nl)))))) .nl))) .nl)))
 (.seq (.set (.one 8) (.lst (.cs (.tup (.cs (.c (.str "value")) (.cs (.c (.int 9973)) .nl))) (.cs (.tup (.cs (.c (.str "value")) (.cs (.c (.bl true)) .nl))) (.cs (.tup (.cs (.c (.str "input")) (.cs (.c (.int 6)) .nl))) (.cs (.tup (.cs (.c (.str "input")) (.cs (.neg (.c (.int 1))) .nl))) (.cs (.tup (.cs (.c (.str "work")) (.cs (.c (.int 0)) (.cs (.c (.int 4)) .nl)))) (.cs (.tup (.cs (.c (.str "work")) (.cs (.c (.int 9)) (.cs (.c (.int 1)) .nl)))) (.cs (.tup (.cs (.c (.str "work")) (.cs (.c (.int 0)) .nl))) .nl)))))))))
 (.seq (.ex (.me .extend (.v 8) (.cs (.lst (.cs (.tup (.cs (.c (.str "work")) (.cs (.c (.int 0)) (.cs (.neg (.c (.int 1))) .nl)))) (.cs (.tup (.cs (.c (.str "work")) (.cs (.c (.bl true)) (.cs (.c (.int 1)) .nl)))) (.cs (.lst (.cs (.c (.str "value")) (.cs (.c (.int 1)) .nl))) (.cs (.tup (.cs (.c (.str "name")) (.cs (.c (.int 1)) .nl))) (.cs (.c .non) (.cs (.tup (.cs (.c (.str "value")) (.cs (.c (.int 1)) (.cs (.c (.int 1)) .nl)))) (.cs (.tup .nl) (.cs (.tup (.cs (.c (.int 1)) (.cs (.c (.int 1)) .nl))) .nl))))))))) .nl)))
 (.seq (.ex (.me .extend (.v 7) (.cs (.comp 2 (.tup (.cs (.v 2) (.cs (.v 3) (.cs (.v 4) (.cs (.tup (.cs (.v 10) .nl)) (.cs (.v 6) .nl)))))) (.one 10) (.iSeq (.v 8)) .nl) .nl)))
 (.seq (.ex (.me .append (.v 7) (.cs (.tup (.cs (.v 2) (.cs (.v 3) (.cs (.v 4) (.cs (.bin .mul (.tup (.cs (.tup (.cs (.c (.str "value")) (.cs (.c (.int 1)) .nl))) .nl)) (.c (.int 4))) (.cs (.v 6) .nl)))))) .nl)))
 (.ret (.ix (.v 7) (.bin .mod (.v 1) (.c (.int 31))))))))))))))))⟩
noncomputable def mQ:Fn:=⟨2,8,(.seq (.set (.many [2,3,4,5]) (.v 0))
 (.seq (.ite (.cmp .eq (.bin .mod (.v 1) (.c (.int 2))) (.c (.int 0)))
  (.seq (.set (.one 6) (.bin .mod (.bin .fdiv (.v 1) (.c (.int 2))) (.bi .len (.cs (.v 4) .nl))))
 (.ret (.tup (.cs (.v 2) (.cs (.v 3) (.cs (.bin .add (.bin .add (.sl (.v 4) .nl (.v 6)) (.tup (.cs (.call "_law_odd_work" (.cs (.ix (.v 4) (.v 6)) (.cs (.bin .fdiv (.v 1) (.c (.int 17))) .nl))) .nl))) (.sl (.v 4) (.bin .add (.v 6) (.c (.int 1))) .nl)) (.cs (.v 5) .nl)))))))
  .skip)
 (.seq (.set (.one 7) (.lst (.cs (.bi .list (.cs (.v 0) .nl)) (.cs (.sl (.v 0) .nl (.c (.int 3))) (.cs (.bin .add (.v 0) (.tup (.cs (.c (.int 1)) .nl))) (.cs (.c .non) (.cs (.tup (.cs (.neg (.c (.int 1))) (.cs (.v 3) (.cs (.v 4) (.cs (.v 5) .nl))))) (.cs (.tup (.cs (.c (.int 7)) (.cs (.v 3) (.cs (.v 4) (.cs (.v 5) .nl))))) .nl))))))))
 (.seq (.ex (.me .extend (.v 7) (.cs (.lst (.cs (.tup (.cs (.c (.bl true)) (.cs (.v 3) (.cs (.v 4) (.cs (.v 5) .nl))))) (.cs (.tup (.cs (.v 2) (.cs (.tup .nl) (.cs (.v 4) (.cs (.v 5) .nl))))) (.cs (.tup (.cs (.v 2) (.cs (.bin .mul (.v 3) (.c (.int 4))) (.cs (.v 4) (.cs (.v 5) .nl))))) .nl)))) .nl)))
 (.seq (.ex (.me .extend (.v 7) (.cs (.lst (.cs (.tup (.cs (.v 2) (.cs (.bin .mul (.tup (.cs (.tup (.cs (.c (.int 0)) (.cs (.c (.int 1)) .nl))) .nl)) (.c (.int 3))) (.cs (.v 4) (.cs (.v 5) .nl))))) (.cs (.tup (.cs (.v 2) (.cs (.bin .mul (.tup (.cs (.tup (.cs (.c (.int 4)) (.cs (.c (.int 1)) .nl))) .nl)) (.c (.int 3))) (.cs (.v 4) (.cs (.v 5) .nl))))) .nl))) .nl)))
 (.seq (.ex (.me .extend (.v 7) (.cs (.lst (.cs (.tup (.cs (.v 2) (.cs (.bin .mul (.tup (.cs (.tup (.cs (.c (.int 1)) (.cs (.c (.int 0)) .nl))) .nl)) (.c (.int 3))) (.cs (.v 4) (.cs (.v 5) .nl))))) (.cs (.tup (.cs (.v 2) (.cs (.bin .mul (.tup (.cs (.tup (.cs (.c (.int 1)) (.cs (.c (.int 5)) .nl))) .nl)) (.c (.int 3))) (.cs (.v 4) (.cs (.v 5) .nl))))) .nl))) .nl)))
 (.seq (.ex (.me .extend (.v 7) (.cs (.lst (.cs (.tup (.cs (.v 2) (.cs (.v 3) (.cs (.tup .nl) (.cs (.v 5) .nl))))) (.cs (.tup (.cs (.v 2) (.cs (.v 3) (.cs (.sl (.bin .mul (.v 4) (.c (.int 9))) .nl (.c (.int 9))) (.cs (.v 5) .nl))))) (.cs (.tup (.cs (.v 2) (.cs (.v 3) (.cs (.v 4) (.cs (.tup .nl) .nl))))) .nl)))) .nl)))
 (.seq (.ex (.me .extend (.v 7) (.cs (.lst (.cs (.tup (.cs (.v 2) (.cs (.v 3) (.cs (.v 4) (.cs (.bin .add (.v 5) (.v 5)) .nl))))) (.cs (.tup (.cs (.v 2) (.cs (.v 3) (.cs (.v 4) (.cs (.tup (.cs (.bi .len (.cs (.v 4) .nl)) .nl)) .nl))))) .nl))) .nl)))
 (.seq (.ex (.me .extend (.v 7) (.cs (.lst (.cs (.tup (.cs (.v 2) (.cs (.v 3) (.cs (.v 4) (.cs (.bi .list (.cs (.v 5) .nl)) .nl))))) (.cs (.tup (.cs (.v 2) (.cs (.v 3) (.cs (.v 4) (.cs (.tup (.cs (.c (.bl true)) .nl)) .nl))))) .nl))) .nl)))
 (.seq (.ex (.me .append (.v 7) (.cs (.tup (.cs (.v 2) (.cs (.v 3) (.cs (.tup (.cs (.tup (.cs (.c (.int 0)) (.cs (.c (.int 1)) (.cs (.c (.str "plus")) (.cs (.tup (.cs (.tup (.cs (.c (.str "work")) (.cs (.c (.int 0)) (.cs (.c (.int 0)) .nl)))) .nl)) (.cs (.tup (.cs (.c (.int 0)) (.cs (.c (.int 0)) (.cs (.c (.int 0)) .nl)))) .nl)))))) .nl)) (.cs (.tup (.cs (.c (.int 0)) .nl)) .nl))))) .nl)))
 (.ret (.ix (.v 7) (.bin .mod (.bin .fdiv (.v 1) (.c (.int 2))) (.c (.int 21)))))))))))))))⟩
mutual
theorem rS:∀ {d:D} {n m:Nat},fit m d=true->d.low n=true->fit n d=true
 | .non,_,_,_,_=>rfl
 | .bl _,_,_,_,_=>rfl
 | .int _,_,_,_,_=>rfl
 | .str _,_,_,_,_=>rfl
 | .tup ds,n,m,h,l=>jO (ds:=ds) (n:=n) (m:=m) h l
 | .fro ds,n,m,h,l=>jO (ds:=ds) (n:=n) (m:=m) h l
 | .loc l,_,_,_,h=>h
 | .exn _,_,_,h,_=>by cases h
theorem jO:∀ {ds:List D} {n m:Nat},fits' m ds=true->D.lows n ds=true->fits' n ds=true
 | [],_,_,_,_=>rfl
 | d::r,n,m,h,l=>by
  rw [fits',Bool.and_eq_true] at h ⊢
  have l:(D.low n d&&D.lows n r)=true:=l
  rw [Bool.and_eq_true] at l
  exact ⟨rS h.1 l.1,jO h.2 l.2⟩
end
theorem qk {S S':aa} (ht:S'.take S.length=S) (h:aM S'):aM S:=fun l c e=>by
 have hl:l < S.length:=(List.getElem?_eq_some_iff.mp e).1
 refine h l c ?_
 rw [<- ht,List.getElem?_take_of_lt hl] at e
 exact e
theorem kQ {S S':aa} {d:D} (ht:S'.take S.length=S) (hL:aM S') (hf:fit S'.length d=true):∃ d' T,leave S d S'=.ok d' T/\aM T/\fit T.length d'=true/\(d'=d\/∃ l,d'=.loc l)/\T.take S.length=S:=by
 unfold leave
 rw [if_pos ht]
 by_cases hl:d.low S.length=true
 ·rw [if_pos hl]
  exact ⟨d,S,rfl,qk ht hL,rS hf hl,.inl rfl,List.take_length⟩
 ·rw [if_neg hl]
  cases d with
  | loc l =>
   have hl':l < S'.length:=of_decide_eq_true hf
   dsimp only
   rw [List.getElem?_eq_getElem hl']
   dsimp only
   split
   ·refine ⟨_,_,rfl,fun k c e=>?_,decide_eq_true (by rw [List.length_append]; simp),.inr ⟨_,rfl⟩,by rw [List.take_append_of_le_length (Nat.le_refl _),List.take_length]⟩
    by_cases hk:k < S.length
    ·rw [List.getElem?_append_left hk] at e
     exact qk ht hL k c e
    ·have:k=S.length:=by
      have:=(List.getElem?_eq_some_iff.mp e).1
      rw [List.length_append] at this
      simp at this
      omega
     subst this
     rw [bZ] at e
     cases e
     exact hL l _ (List.getElem?_eq_getElem hl')
   ·exact ⟨_,_,rfl,hL,hf,.inl rfl,ht⟩
  | _=>exact ⟨_,_,rfl,hL,hf,.inl rfl,ht⟩
theorem bE {d:D} {own many streams ncrews:Int} (h:aG d 5 5=false\/aI (pt d 0) 0 (ncrews - 1)=false\/aI (pt d 1) 1 8=false\/fj (pt d 2)=false\/aG (pt d 3) 1 3=false\/dm (pt d 4)=false\/tuB (pt d 3) (fun e=>c7 e own many streams)=false):bQ d own many streams ncrews=false:=by
 unfold bQ
 rcases h with h|h|h|h|h|h|h <;> rw [h] <;> simp
noncomputable def fq:List D:=[.tup [.str "value",.int 9973],.tup [.str "value",.bl true],.tup [.str "input",.int 6],.tup [.str "input",.int (-1)],.tup [.str "work",.int 0,.int 4],.tup [.str "work",.int 9,.int 1],.tup [.str "work",.int 0],
 .tup [.str "work",.int 0,.int (-1)],.tup [.str "work",.bl true,.int 1],.loc 12,.tup [.str "name",.int 1],.non,.tup [.str "value",.int 1,.int 1],.tup [],.tup [.int 1,.int 1]]
noncomputable def fZ (crew long doing srcs starts:D) (work:List D) (st2:D):List D:=[.tup [crew,long,doing,srcs],.tup (work++[.int 1]),.loc 2,.tup [.int 3,long,doing,srcs,starts],.tup [.int (-1),long,doing,srcs,starts],
 .tup [crew,.int 0,doing,srcs,starts],.tup [crew,.int 9,doing,srcs,starts],.tup [crew,.bl true,doing,srcs,starts],.tup [crew,long,.str "more",srcs,starts],.tup [crew,long,.non,srcs,starts],.tup [crew,long,doing,.tup [],starts],
 .tup [crew,long,doing,.loc 7,starts],.tup [crew,long,doing,srcs,st2],.tup [crew,long,doing,srcs,.loc 9],.tup [crew,long,doing,srcs,.tup [.int 0,.int 0,.int 9973]]] ++
 fq.map (fun s=>.tup [crew,long,doing,.tup [s],starts])++[.tup [crew,long,doing,.tup [.tup [.str "value",.int 1],.tup [.str "value",.int 1],.tup [.str "value",.int 1],.tup [.str "value",.int 1]],starts]]
theorem wm {own many streams:Int} (hm:many<=8) (hs:streams<=6):∀ s∈fq,c7 s own many streams=false:=by
 unfold fq
 simp only [List.forall_mem_cons]
 refine ⟨rfl,rfl,?_,rfl,rfl,?_,rfl,rfl,rfl,rfl,rfl,rfl,rfl,rfl,rfl,fun _ h=>nomatch h⟩
 ·show decide ((6:Int)<=streams - 1)=false
  exact decide_eq_false (by omega)
 ·show decide ((9:Int)<=many - 1)=false
  exact decide_eq_false (by omega)
theorem A0 {crew long doing srcs starts st2:D} {work:List D} {own many streams ncrews:Int} (hm:many<=8) (hs:streams<=6) (hc:ncrews<=3) (hw:work=[crew,long,doing,srcs,starts]) (h2:dm st2=false):∀ d∈fZ crew long doing srcs starts work st2,bQ d own many streams ncrews=false:=by
 subst hw
 unfold fZ
 intro d hd
 rcases List.mem_append.mp hd with hd|hd
 ·rcases List.mem_append.mp hd with hd|hd
  ·have all:∀ d∈[D.tup [crew,long,doing,srcs],.tup ([crew,long,doing,srcs,starts]++[.int 1]),.loc 2,.tup [.int 3,long,doing,srcs,starts],.tup [.int (-1),long,doing,srcs,starts],
     .tup [crew,.int 0,doing,srcs,starts],.tup [crew,.int 9,doing,srcs,starts],.tup [crew,.bl true,doing,srcs,starts],.tup [crew,long,.str "more",srcs,starts],.tup [crew,long,.non,srcs,starts],.tup [crew,long,doing,.tup [],starts],
     .tup [crew,long,doing,.loc 7,starts],.tup [crew,long,doing,srcs,st2],.tup [crew,long,doing,srcs,.loc 9],.tup [crew,long,doing,srcs,.tup [.int 0,.int 0,.int 9973]]],bQ d own many streams ncrews=false:=by
    simp only [List.forall_mem_cons]
    refine ⟨bE (.inl rfl),bE (.inl rfl),bE (.inl rfl),bE (.inr (.inl ?_)),bE (.inr (.inl rfl)),bE (.inr (.inr (.inl rfl))),bE (.inr (.inr (.inl rfl))),bE (.inr (.inr (.inl rfl))),bE (.inr (.inr (.inr (.inl rfl)))),bE (.inr (.inr (.inr (.inl rfl)))),
     bE (.inr (.inr (.inr (.inr (.inl rfl))))),bE (.inr (.inr (.inr (.inr (.inl rfl))))),bE (.inr (.inr (.inr (.inr (.inr (.inl h2)))))),bE (.inr (.inr (.inr (.inr (.inr (.inl rfl)))))),bE (.inr (.inr (.inr (.inr (.inr (.inl rfl)))))),fun _ h=>nomatch h⟩
    show decide ((3:Int)<=ncrews - 1)=false
    exact decide_eq_false (by omega)
   exact all d hd
  ·obtain ⟨s,hs',rfl⟩:=List.mem_map.mp hd
   refine bE (.inr (.inr (.inr (.inr (.inr (.inr ?_))))))
   show (c7 s own many streams&&true)=false
   rw [wm hm hs s hs']; rfl
 ·rw [List.mem_singleton.mp hd]
  exact bE (.inr (.inr (.inr (.inr (.inl rfl)))))
end K01

namespace K01
open PySem EV GO
open RL (Has aM HB Srs Wk Lp az au)
open RB
theorem qw (n:Nat) (s:Srs):fit n s.toD=true:=by cases s <;> rfl
theorem fC {α:Type} {f:α->D} {n:Nat} (h:∀ a,fit n (f a)=true) (l:List α):fits' n (l.map f)=true:=bC.mpr fun d hd=>by
 obtain ⟨a,_,rfl⟩:=List.mem_map.mp hd
 exact h a
theorem t8 (n:Nat) (w:Wk):fit n w.toD=true:=by
 show (true&&(true&&(true&&(fits' n (w.srcs.map Srs.toD)&&(fits' n (w.starts.map .int)&&true)))))=true
 rw [fC (qw n),fC fun _=>rfl]; rfl
theorem pick {S:aa} {l:Nat} {xs:List D} {j:Int} (hl:S[l]?=some (.lst xs)) (h0:0<=j) (h1:j < (xs.length:Int)):∃ d∈xs,ixD (.loc l) (.int j) S=.ok d S:=by
 obtain ⟨k,rfl⟩:=Int.eq_ofNat_of_zero_le h0
 have hk:k < xs.length:=by omega
 exact ⟨xs[k],List.getElem_mem hk,qV hl (by rw [dI]; exact List.getElem?_eq_getElem hk)⟩
noncomputable def gh (A B:List D) (w:Wk):aa:=[.lst A,.lst B,.lst [.int w.crew,.int w.long,.str w.doing,.tup (w.srcs.map Srs.toD),.tup (w.starts.map .int)],
 .lst (fZ (.int w.crew) (.int w.long) (.str w.doing) (.tup (w.srcs.map Srs.toD)) (.tup (w.starts.map .int)) [.int w.crew,.int w.long,.str w.doing,.tup (w.srcs.map Srs.toD),.tup (w.starts.map .int)] (.tup (cut (w.starts.map .int) none (some 2)))),
 .lst [.tup [.int w.crew,.int 0,.str w.doing,.tup (w.srcs.map Srs.toD),.tup (w.starts.map .int)],.tup [.int w.crew,.int 9,.str w.doing,.tup (w.srcs.map Srs.toD),.tup (w.starts.map .int)]],
 .lst [.tup [.int w.crew,.bl true,.str w.doing,.tup (w.srcs.map Srs.toD),.tup (w.starts.map .int)],.tup [.int w.crew,.int w.long,.str "more",.tup (w.srcs.map Srs.toD),.tup (w.starts.map .int)]],
 .lst [.tup [.int w.crew,.int w.long,.non,.tup (w.srcs.map Srs.toD),.tup (w.starts.map .int)],.tup [.int w.crew,.int w.long,.str w.doing,.tup [],.tup (w.starts.map .int)]],
 .lst (w.srcs.map Srs.toD),
 .lst [.tup [.int w.crew,.int w.long,.str w.doing,.loc 7,.tup (w.starts.map .int)],.tup [.int w.crew,.int w.long,.str w.doing,.tup (w.srcs.map Srs.toD),.tup (cut (w.starts.map .int) none (some 2))]],
 .lst (w.starts.map .int),
 .lst [.tup [.int w.crew,.int w.long,.str w.doing,.tup (w.srcs.map Srs.toD),.loc 9],.tup [.int w.crew,.int w.long,.str w.doing,.tup (w.srcs.map Srs.toD),.tup [.int 0,.int 0,.int 9973]]],
 .lst fq,.lst [.str "value",.int 1],.lst (fq.drop 7),.lst (fq.map (fun s=>.tup [.int w.crew,.int w.long,.str w.doing,.tup [s],.tup (w.starts.map .int)]))]
theorem uF (cf:Str->List D->M D) (A B:List D) (w:Wk) (q:Int):exec (fun _ _=>false) cf iN.body (frame iN [w.toD,.int q]) [.lst A,.lst B]=(ixD (.loc 3) (.int (q % 31)) (gh A B w)).bind fun d S1=>.ok (.rt d) S1:=by kernel_rfl
theorem r8 (n:Nat) (vs:List Int):fits' n (vs.map .int)=true:=fC (fun _=>rfl) vs
theorem xQ (n:Nat) (vs:List Int):fits' n (cut (vs.map .int) none (some 2))=true:=by
 rw [show (2:Int)=((2:Nat):Int) from rfl,iw,<- List.map_take]
 exact r8 n _
theorem EY (w:Wk):∀ d∈fZ (.int w.crew) (.int w.long) (.str w.doing) (.tup (w.srcs.map Srs.toD)) (.tup (w.starts.map .int)) [.int w.crew,.int w.long,.str w.doing,.tup (w.srcs.map Srs.toD),.tup (w.starts.map .int)] (.tup (cut (w.starts.map .int) none (some 2))),fit 15 d=true:=by
 refine bC.mp ?_
 have h1:fits' 15 (w.srcs.map Srs.toD)=true:=fC (qw 15) _
 have h2:=r8 15 w.starts
 have h3:=xQ 15 w.starts
 unfold fZ fq
 simp only [List.map_cons,List.map_nil,List.cons_append,List.nil_append,fits',fit,h1,h2,h3,Bool.and_true,Bool.true_and]
 decide
theorem C0 (A B:List D) (w:Wk):aM (gh A B w):=fun l c h=>by
 unfold gh at h
 have:=List.mem_of_getElem? h
 simp only [List.mem_cons,List.not_mem_nil,or_false] at this
 rcases this with rfl|rfl|rfl|rfl|rfl|rfl|rfl|rfl|rfl|rfl|rfl|rfl|rfl|rfl|rfl <;> exact ⟨_,rfl⟩
theorem EG {P:Prg} {n:Nat} (hP:Has P "_law_odd_work" iN) (A B:List D) {w:Wk} (h3:w.starts.length=3) {q own many streams ncrews:Int} (hm:many<=8) (hs:streams<=6) (hc:ncrews<=3) :
  ∃ d T,ai (fun _ _=>false) P (n+1) "_law_odd_work" [w.toD,.int q] [.lst A,.lst B]=.ok d T/\aM T/\fit T.length d=true/\bQ d own many streams ncrews=false/\T.take 2=[.lst A,.lst B]:=by
 have r0:0<=q % 31:=Int.emod_nonneg _ (by decide)
 have r1:q % 31 < 31:=Int.emod_lt_of_pos _ (by decide)
 have h2:dm (.tup (cut (w.starts.map .int) none (some 2)))=false:=by
  rw [show (2:Int)=((2:Nat):Int) from rfl,iw]
  unfold dm aG
  dsimp only
  rw [List.length_take,List.length_map,h3]; rfl
 obtain ⟨d,hd,e⟩:=pick (S:=gh A B w) (l:=3) (xs:=fZ (.int w.crew) (.int w.long) (.str w.doing) (.tup (w.srcs.map Srs.toD)) (.tup (w.starts.map .int)) [.int w.crew,.int w.long,.str w.doing,.tup (w.srcs.map Srs.toD),.tup (w.starts.map .int)] (.tup (cut (w.starts.map .int) none (some 2)))) rfl r0 (show q % 31 < ((31:Nat):Int) from r1)
 have hf:=EY w d hd
 have hb:=A0 (own:=own) hm hs hc rfl h2 d hd
 obtain ⟨d',T,e',hL,hf',hor,ht⟩:=kQ (S:=[.lst A,.lst B]) (S':=gh A B w) (d:=d) rfl (C0 A B w) hf
 refine ⟨d',T,x_call hP rfl (d:=d) (S1:=gh A B w) ?_ e',hL,hf',?_,ht⟩
 ·rw [uF,e]; rfl
 ·rcases hor with rfl|⟨l,rfl⟩
  ·exact hb
  ·exact bE (.inl rfl)
end K01

namespace K01
open PySem EV GO
open RL (Has aM HB Srs Wk Lp az au ck)
open RB
theorem bK {a b c e:D} (h:aI a 0 6=false\/eT b=false\/ez c (ptI (.tup [a,b,c,e]) 0) (ek b)=false\/fk e (ek c)=false):cV (.tup [a,b,c,e])=false:=by
 show (true&&((aI a 0 6&&eT b)&&(ez c (ptI (.tup [a,b,c,e]) 0) (ek b)&&fk e (ek c))))=false
 rcases h with h|h|h|h <;> rw [h] <;> simp
theorem nU {f:Nat->D->Bool} {x:D} {ys:List D}:∀ {xs:List D} {k:Nat},f (k+xs.length) x=false->allFrom k f (xs++x::ys)=false
 | [],k,h=>by
  show (f k x&&allFrom (k+1) f ys)=false
  rw [show f k x=false from h]; rfl
 | z::zs,k,h=>by
  show (f k z&&allFrom (k+1) f (zs++x::ys))=false
  rw [nU (xs:=zs) (k:=k+1) (by rw [show k+1+zs.length=k+(z::zs).length by simp; omega]; exact h)]
  simp
theorem oY {many:Nat}:∀ (xs ys:List Nat) (least:Nat),ck many least xs->(∀ k r,ys=k::r->k < least\/∃ x∈xs,k<=x)->ys≠[]->cO (many:Int) (least:Int) ((xs++ys).map au)=false
 | [],k::r,least,_,hk,_=>by
  have:=hk k r rfl
  have hlt:k < least:=this.elim id fun ⟨x,hx,_⟩=>by simp at hx
  show (aI (au k) (least:Int) ((many:Int) - 1)&&_)=false
  rw [show aI (au k) (least:Int) ((many:Int) - 1)=false from by
   show (decide ((least:Int)<=(k:Int))&&_)=false
   rw [decide_eq_false (by omega)]; rfl]
  rfl
 | [],[],_,_,_,h=>absurd rfl h
 | x::xs,ys,least,hr,hk,h=>by
  obtain ⟨h1,h2,h3⟩:=hr
  have:=oY xs ys (x+1) h3 (fun k r e=>by
   rcases hk k r e with z|⟨y,hy,hky⟩
   ·exact .inl (by omega)
   ·rcases List.mem_cons.mp hy with rfl|hy
    ·exact .inl (by omega)
    ·exact .inr ⟨y,hy,hky⟩) h
  show (aI (au x) (least:Int) ((many:Int) - 1)&&cO (many:Int) (ptI (.tup [au x]) 0+1) ((xs++ys).map au))=false
  rw [show ptI (.tup [au x]) 0+1=((x+1:Nat):Int) from rfl,this]
  simp
end K01

namespace K01
open PySem EV GO
open RL (Has aM HB Srs Wk Lp az au ck)
open RB
noncomputable def spL (st:D) (cs ws os c4 w9:List D):List D:=[.loc 2,.tup [st,.tup cs,.tup ws],.tup [st,.tup cs,.tup ws,.tup os,.int 1],.non,.tup [.int (-1),.tup cs,.tup ws,.tup os],.tup [.int 7,.tup cs,.tup ws,.tup os],.tup [.bl true,.tup cs,.tup ws,.tup os],.tup [st,.tup [],.tup ws,.tup os],.tup [st,.tup c4,.tup ws,.tup os],.tup [st,.tup [.tup [.int 0,.int 1],.tup [.int 0,.int 1],.tup [.int 0,.int 1]],.tup ws,.tup os],.tup [st,.tup [.tup [.int 4,.int 1],.tup [.int 4,.int 1],.tup [.int 4,.int 1]],.tup ws,.tup os],.tup [st,.tup [.tup [.int 1,.int 0],.tup [.int 1,.int 0],.tup [.int 1,.int 0]],.tup ws,.tup os],.tup [st,.tup [.tup [.int 1,.int 5],.tup [.int 1,.int 5],.tup [.int 1,.int 5]],.tup ws,.tup os],.tup [st,.tup cs,.tup [],.tup os],.tup [st,.tup cs,.tup (cut w9 none (some 9)),.tup os],.tup [st,.tup cs,.tup ws,.tup []],.tup [st,.tup cs,.tup ws,.tup (os++os)],.tup [st,.tup cs,.tup ws,.tup [.int (ws.length:Int)]],.tup [st,.tup cs,.tup ws,.loc 9],.tup [st,.tup cs,.tup ws,.tup [.bl true]],.tup [st,.tup cs,.tup [.tup [.int 0,.int 1,.str "plus",.tup [.tup [.str "work",.int 0,.int 0]],.tup [.int 0,.int 0,.int 0]]],.tup [.int 0]]]
noncomputable def spS (st:D) (cs ws os c4 w9 A B:List D) (n:Nat) (G:aa):aa:=[.lst A,.lst B,.lst [st,.tup cs,.tup ws,.tup os],.lst ((spL st cs ws os c4 w9).take n)]++G
abbrev sgS (st:D) (cs ws os:List D) (c:D) (x6:Option D):Sg:=[some (D.tup [st,.tup cs,.tup ws,.tup os]),some c,some st,some (D.tup cs),some (D.tup ws),some (D.tup os),x6,some (D.loc 3)]
section
variable {st:D} {cs ws os c4 w9 A B:List D} {cf:Str->List D->M D} {c:D} {x6:Option D}
theorem sp2:exec (fun _ _=>false) cf (.set (.one 7) (.lst (.cs (.bi .list (.cs (.v 0) .nl)) (.cs (.sl (.v 0) .nl (.c (.int 3))) (.cs (.bin .add (.v 0) (.tup (.cs (.c (.int 1)) .nl))) (.cs (.c .non) (.cs (.tup (.cs (.neg (.c (.int 1))) (.cs (.v 3) (.cs (.v 4) (.cs (.v 5) .nl))))) (.cs (.tup (.cs (.c (.int 7)) (.cs (.v 3) (.cs (.v 4) (.cs (.v 5) .nl))))) .nl)))))))) [some (D.tup [st,.tup cs,.tup ws,.tup os]),some c,some st,some (D.tup cs),some (D.tup ws),some (D.tup os),x6,none] [.lst A,.lst B]=.ok (.nx (sgS st cs ws os c x6)) (spS st cs ws os c4 w9 A B 6 []):=by kernel_rfl
theorem sp3 (hm4:∀ S,opD .mul (.tup cs) (.int 4) S=.ok (.tup c4) S):exec (fun _ _=>false) cf (.ex (.me .extend (.v 7) (.cs (.lst (.cs (.tup (.cs (.c (.bl true)) (.cs (.v 3) (.cs (.v 4) (.cs (.v 5) .nl))))) (.cs (.tup (.cs (.v 2) (.cs (.tup .nl) (.cs (.v 4) (.cs (.v 5) .nl))))) (.cs (.tup (.cs (.v 2) (.cs (.bin .mul (.v 3) (.c (.int 4))) (.cs (.v 4) (.cs (.v 5) .nl))))) .nl)))) .nl))) (sgS st cs ws os c x6) (spS st cs ws os c4 w9 A B 6 [])=.ok (.nx (sgS st cs ws os c x6)) (spS st cs ws os c4 w9 A B 9 [.lst (((spL st cs ws os c4 w9).drop 6).take 3)]) :=
 gD (d:=.non) (gr (l:=3) (S1:=(spS st cs ws os c4 w9 A B 6 [])) (r_v rfl) (af (cI (af (br (af r_c (af (r_v rfl) (af (r_v rfl) (af (r_v rfl) ah)))) rfl) (af (br (af (r_v rfl) (af (br ah rfl) (af (r_v rfl) (af (r_v rfl) ah)))) rfl) (af (br (af (r_v rfl) (af (a_ (r_v rfl) r_c (hm4 _)) (af (r_v rfl) (af (r_v rfl) ah)))) rfl) ah))) rfl) ah) (show meD .extend (.loc 3) [.loc (spS st cs ws os c4 w9 A B 6 []).length] ((spS st cs ws os c4 w9 A B 6 [])++[.lst (((spL st cs ws os c4 w9).drop 6).take 3)])=.ok .non (spS st cs ws os c4 w9 A B 9 [.lst (((spL st cs ws os c4 w9).drop 6).take 3)]) from by kernel_rfl) (by kernel_rfl))
theorem sp4:exec (fun _ _=>false) cf (.ex (.me .extend (.v 7) (.cs (.lst (.cs (.tup (.cs (.v 2) (.cs (.bin .mul (.tup (.cs (.tup (.cs (.c (.int 0)) (.cs (.c (.int 1)) .nl))) .nl)) (.c (.int 3))) (.cs (.v 4) (.cs (.v 5) .nl))))) (.cs (.tup (.cs (.v 2) (.cs (.bin .mul (.tup (.cs (.tup (.cs (.c (.int 4)) (.cs (.c (.int 1)) .nl))) .nl)) (.c (.int 3))) (.cs (.v 4) (.cs (.v 5) .nl))))) .nl))) .nl))) (sgS st cs ws os c x6) (spS st cs ws os c4 w9 A B 9 [.lst (((spL st cs ws os c4 w9).drop 6).take 3)])=.ok (.nx (sgS st cs ws os c x6)) (spS st cs ws os c4 w9 A B 11 [.lst (((spL st cs ws os c4 w9).drop 6).take 3),.lst (((spL st cs ws os c4 w9).drop 9).take 2)]):=by kernel_rfl
theorem sp5:exec (fun _ _=>false) cf (.ex (.me .extend (.v 7) (.cs (.lst (.cs (.tup (.cs (.v 2) (.cs (.bin .mul (.tup (.cs (.tup (.cs (.c (.int 1)) (.cs (.c (.int 0)) .nl))) .nl)) (.c (.int 3))) (.cs (.v 4) (.cs (.v 5) .nl))))) (.cs (.tup (.cs (.v 2) (.cs (.bin .mul (.tup (.cs (.tup (.cs (.c (.int 1)) (.cs (.c (.int 5)) .nl))) .nl)) (.c (.int 3))) (.cs (.v 4) (.cs (.v 5) .nl))))) .nl))) .nl))) (sgS st cs ws os c x6) (spS st cs ws os c4 w9 A B 11 [.lst (((spL st cs ws os c4 w9).drop 6).take 3),.lst (((spL st cs ws os c4 w9).drop 9).take 2)])=.ok (.nx (sgS st cs ws os c x6)) (spS st cs ws os c4 w9 A B 13 [.lst (((spL st cs ws os c4 w9).drop 6).take 3),.lst (((spL st cs ws os c4 w9).drop 9).take 2),.lst (((spL st cs ws os c4 w9).drop 11).take 2)]):=by kernel_rfl
theorem sp6 (hm9:∀ S,opD .mul (.tup ws) (.int 9) S=.ok (.tup w9) S):exec (fun _ _=>false) cf (.ex (.me .extend (.v 7) (.cs (.lst (.cs (.tup (.cs (.v 2) (.cs (.v 3) (.cs (.tup .nl) (.cs (.v 5) .nl))))) (.cs (.tup (.cs (.v 2) (.cs (.v 3) (.cs (.sl (.bin .mul (.v 4) (.c (.int 9))) .nl (.c (.int 9))) (.cs (.v 5) .nl))))) (.cs (.tup (.cs (.v 2) (.cs (.v 3) (.cs (.v 4) (.cs (.tup .nl) .nl))))) .nl)))) .nl))) (sgS st cs ws os c x6) (spS st cs ws os c4 w9 A B 13 [.lst (((spL st cs ws os c4 w9).drop 6).take 3),.lst (((spL st cs ws os c4 w9).drop 9).take 2),.lst (((spL st cs ws os c4 w9).drop 11).take 2)])=.ok (.nx (sgS st cs ws os c x6)) (spS st cs ws os c4 w9 A B 16 [.lst (((spL st cs ws os c4 w9).drop 6).take 3),.lst (((spL st cs ws os c4 w9).drop 9).take 2),.lst (((spL st cs ws os c4 w9).drop 11).take 2),.lst (((spL st cs ws os c4 w9).drop 13).take 3)]) :=
 gD (d:=.non) (gr (l:=3) (S1:=(spS st cs ws os c4 w9 A B 13 [.lst (((spL st cs ws os c4 w9).drop 6).take 3),.lst (((spL st cs ws os c4 w9).drop 9).take 2),.lst (((spL st cs ws os c4 w9).drop 11).take 2)])) (r_v rfl) (af (cI (af (br (af (r_v rfl) (af (r_v rfl) (af (br ah rfl) (af (r_v rfl) ah)))) rfl) (af (br (af (r_v rfl) (af (r_v rfl) (af (lV (a_ (r_v rfl) r_c (hm9 _)) jU (xU _) (j8 _ _ _)) (af (r_v rfl) ah)))) rfl) (af (br (af (r_v rfl) (af (r_v rfl) (af (r_v rfl) (af (br ah rfl) ah)))) rfl) ah))) rfl) ah) (show meD .extend (.loc 3) [.loc (spS st cs ws os c4 w9 A B 13 [.lst (((spL st cs ws os c4 w9).drop 6).take 3),.lst (((spL st cs ws os c4 w9).drop 9).take 2),.lst (((spL st cs ws os c4 w9).drop 11).take 2)]).length] ((spS st cs ws os c4 w9 A B 13 [.lst (((spL st cs ws os c4 w9).drop 6).take 3),.lst (((spL st cs ws os c4 w9).drop 9).take 2),.lst (((spL st cs ws os c4 w9).drop 11).take 2)])++[.lst (((spL st cs ws os c4 w9).drop 13).take 3)])=.ok .non (spS st cs ws os c4 w9 A B 16 [.lst (((spL st cs ws os c4 w9).drop 6).take 3),.lst (((spL st cs ws os c4 w9).drop 9).take 2),.lst (((spL st cs ws os c4 w9).drop 11).take 2),.lst (((spL st cs ws os c4 w9).drop 13).take 3)]) from by kernel_rfl) (by kernel_rfl))
theorem sp7 (ha:∀ S,opD .add (.tup os) (.tup os) S=.ok (.tup (os++os)) S):exec (fun _ _=>false) cf (.ex (.me .extend (.v 7) (.cs (.lst (.cs (.tup (.cs (.v 2) (.cs (.v 3) (.cs (.v 4) (.cs (.bin .add (.v 5) (.v 5)) .nl))))) (.cs (.tup (.cs (.v 2) (.cs (.v 3) (.cs (.v 4) (.cs (.tup (.cs (.bi .len (.cs (.v 4) .nl)) .nl)) .nl))))) .nl))) .nl))) (sgS st cs ws os c x6) (spS st cs ws os c4 w9 A B 16 [.lst (((spL st cs ws os c4 w9).drop 6).take 3),.lst (((spL st cs ws os c4 w9).drop 9).take 2),.lst (((spL st cs ws os c4 w9).drop 11).take 2),.lst (((spL st cs ws os c4 w9).drop 13).take 3)])=.ok (.nx (sgS st cs ws os c x6)) (spS st cs ws os c4 w9 A B 18 [.lst (((spL st cs ws os c4 w9).drop 6).take 3),.lst (((spL st cs ws os c4 w9).drop 9).take 2),.lst (((spL st cs ws os c4 w9).drop 11).take 2),.lst (((spL st cs ws os c4 w9).drop 13).take 3),.lst (((spL st cs ws os c4 w9).drop 16).take 2)]) :=
 gD (d:=.non) (gr (l:=3) (S1:=(spS st cs ws os c4 w9 A B 16 [.lst (((spL st cs ws os c4 w9).drop 6).take 3),.lst (((spL st cs ws os c4 w9).drop 9).take 2),.lst (((spL st cs ws os c4 w9).drop 11).take 2),.lst (((spL st cs ws os c4 w9).drop 13).take 3)])) (r_v rfl) (af (cI (af (br (af (r_v rfl) (af (r_v rfl) (af (r_v rfl) (af (a_ (r_v rfl) (r_v rfl) (ha _)) ah)))) rfl) (af (br (af (r_v rfl) (af (r_v rfl) (af (r_v rfl) (af (br (af (aQ (af (r_v rfl) ah) eu) ah) rfl) ah)))) rfl) ah)) rfl) ah) (show meD .extend (.loc 3) [.loc (spS st cs ws os c4 w9 A B 16 [.lst (((spL st cs ws os c4 w9).drop 6).take 3),.lst (((spL st cs ws os c4 w9).drop 9).take 2),.lst (((spL st cs ws os c4 w9).drop 11).take 2),.lst (((spL st cs ws os c4 w9).drop 13).take 3)]).length] ((spS st cs ws os c4 w9 A B 16 [.lst (((spL st cs ws os c4 w9).drop 6).take 3),.lst (((spL st cs ws os c4 w9).drop 9).take 2),.lst (((spL st cs ws os c4 w9).drop 11).take 2),.lst (((spL st cs ws os c4 w9).drop 13).take 3)])++[.lst (((spL st cs ws os c4 w9).drop 16).take 2)])=.ok .non (spS st cs ws os c4 w9 A B 18 [.lst (((spL st cs ws os c4 w9).drop 6).take 3),.lst (((spL st cs ws os c4 w9).drop 9).take 2),.lst (((spL st cs ws os c4 w9).drop 11).take 2),.lst (((spL st cs ws os c4 w9).drop 13).take 3),.lst (((spL st cs ws os c4 w9).drop 16).take 2)]) from by kernel_rfl) (by kernel_rfl))
theorem sp8:exec (fun _ _=>false) cf (.ex (.me .extend (.v 7) (.cs (.lst (.cs (.tup (.cs (.v 2) (.cs (.v 3) (.cs (.v 4) (.cs (.bi .list (.cs (.v 5) .nl)) .nl))))) (.cs (.tup (.cs (.v 2) (.cs (.v 3) (.cs (.v 4) (.cs (.tup (.cs (.c (.bl true)) .nl)) .nl))))) .nl))) .nl))) (sgS st cs ws os c x6) (spS st cs ws os c4 w9 A B 18 [.lst (((spL st cs ws os c4 w9).drop 6).take 3),.lst (((spL st cs ws os c4 w9).drop 9).take 2),.lst (((spL st cs ws os c4 w9).drop 11).take 2),.lst (((spL st cs ws os c4 w9).drop 13).take 3),.lst (((spL st cs ws os c4 w9).drop 16).take 2)])=.ok (.nx (sgS st cs ws os c x6)) (spS st cs ws os c4 w9 A B 20 [.lst (((spL st cs ws os c4 w9).drop 6).take 3),.lst (((spL st cs ws os c4 w9).drop 9).take 2),.lst (((spL st cs ws os c4 w9).drop 11).take 2),.lst (((spL st cs ws os c4 w9).drop 13).take 3),.lst (((spL st cs ws os c4 w9).drop 16).take 2),.lst os,.lst (((spL st cs ws os c4 w9).drop 18).take 2)]):=by kernel_rfl
theorem sp9:exec (fun _ _=>false) cf (.ex (.me .append (.v 7) (.cs (.tup (.cs (.v 2) (.cs (.v 3) (.cs (.tup (.cs (.tup (.cs (.c (.int 0)) (.cs (.c (.int 1)) (.cs (.c (.str "plus")) (.cs (.tup (.cs (.tup (.cs (.c (.str "work")) (.cs (.c (.int 0)) (.cs (.c (.int 0)) .nl)))) .nl)) (.cs (.tup (.cs (.c (.int 0)) (.cs (.c (.int 0)) (.cs (.c (.int 0)) .nl)))) .nl)))))) .nl)) (.cs (.tup (.cs (.c (.int 0)) .nl)) .nl))))) .nl))) (sgS st cs ws os c x6) (spS st cs ws os c4 w9 A B 20 [.lst (((spL st cs ws os c4 w9).drop 6).take 3),.lst (((spL st cs ws os c4 w9).drop 9).take 2),.lst (((spL st cs ws os c4 w9).drop 11).take 2),.lst (((spL st cs ws os c4 w9).drop 13).take 3),.lst (((spL st cs ws os c4 w9).drop 16).take 2),.lst os,.lst (((spL st cs ws os c4 w9).drop 18).take 2)])=.ok (.nx (sgS st cs ws os c x6)) (spS st cs ws os c4 w9 A B 21 [.lst (((spL st cs ws os c4 w9).drop 6).take 3),.lst (((spL st cs ws os c4 w9).drop 9).take 2),.lst (((spL st cs ws os c4 w9).drop 11).take 2),.lst (((spL st cs ws os c4 w9).drop 13).take 3),.lst (((spL st cs ws os c4 w9).drop 16).take 2),.lst os,.lst (((spL st cs ws os c4 w9).drop 18).take 2)]):=by kernel_rfl
end
end K01

namespace K01
open PySem EV GO
open RL (Has aM HB Srs Wk Lp az au ck)
open RB
section
variable {st:D} {cs ws os c4 w9:List D}
theorem zQ {streams:Nat} {outs:List Nat} {many:Nat} (h4:4<=c4.length) (h9:9<=w9.length) (hw:ws.length=many) (ho:os=outs.map au) (hr:ck many 0 outs) (hn:1<=outs.length):∀ d∈spL (.int streams) cs ws os c4 w9,cV d=false:=by
 unfold spL
 simp only [List.forall_mem_cons]
 refine ⟨rfl,rfl,rfl,rfl,bK (.inl rfl),bK (.inl rfl),bK (.inl rfl),bK (.inr (.inl rfl)),bK (.inr (.inl ?_)),bK (.inr (.inl rfl)),bK (.inr (.inl rfl)),bK (.inr (.inl rfl)),bK (.inr (.inl rfl)),
  bK (.inr (.inr (.inl rfl))),bK (.inr (.inr (.inl ?_))),bK (.inr (.inr (.inr rfl))),bK (.inr (.inr (.inr ?_))),bK (.inr (.inr (.inr ?_))),bK (.inr (.inr (.inr rfl))),bK (.inr (.inr (.inr ?_))),bK (.inr (.inr (.inl ?_))),fun _ h=>nomatch h⟩
 ·show ((decide ((1:Int)<=(c4.length:Int))&&decide ((c4.length:Int)<=3))&&_)=false
  rw [decide_eq_false (show ¬ ((c4.length:Int)<=3) by omega)]; simp
 ·have e:(cut w9 none (some 9)).length=9:=by
   rw [show (9:Int)=((9:Nat):Int) from rfl,iw,List.length_take]; omega
  show ((decide ((1:Int)<=((cut w9 none (some 9)).length:Int))&&decide (((cut w9 none (some 9)).length:Int)<=8))&&_)=false
  rw [e]; rfl
 ·have:=RL.jK hr (Nat.zero_le _)
  show (_&&cO (ws.length:Int) 0 (os++os))=false
  rw [hw,ho,<- List.map_append]
  have:=oY (many:=many) outs outs 0 hr (fun k r e=>.inr ⟨k,by rw [e]; exact List.mem_cons_self,Nat.le_refl _⟩) (fun z=>by rw [z] at hn; simp at hn)
  rw [show (0:Int)=((0:Nat):Int) from rfl,this]; simp
 ·show (_&&((decide ((0:Int)<=(ws.length:Int))&&decide ((ws.length:Int)<=(ws.length:Int) - 1))&&_))=false
  rw [decide_eq_false (show ¬ ((ws.length:Int)<=(ws.length:Int) - 1) by omega)]; simp
 ·show (_&&false)=false
  simp
 ·show (true&&(bQ _ _ _ _ _&&true))=false
  rw [bE (.inr (.inr (.inr (.inr (.inr (.inr rfl))))))]; rfl
theorem C8 {streams:Nat} (hc:fits' 11 cs=true) (hw:fits' 11 ws=true) (ho:fits' 11 os=true) (hc4:fits' 11 c4=true) (hw9:fits' 11 (cut w9 none (some 9))=true) (hoo:fits' 11 (os++os)=true):∀ d∈spL (.int streams) cs ws os c4 w9,fit 11 d=true:=by
 refine bC.mp ?_
 unfold spL
 simp only [fits',fit,hc,hw,ho,hc4,hw9,hoo,Bool.and_true,Bool.true_and]
 decide
theorem yo {A B:List D}:aM (spS st cs ws os c4 w9 A B 21 [.lst (((spL st cs ws os c4 w9).drop 6).take 3),.lst (((spL st cs ws os c4 w9).drop 9).take 2),.lst (((spL st cs ws os c4 w9).drop 11).take 2),.lst (((spL st cs ws os c4 w9).drop 13).take 3),.lst (((spL st cs ws os c4 w9).drop 16).take 2),.lst os,.lst (((spL st cs ws os c4 w9).drop 18).take 2)]):=fun l c h=>by
 have:=List.mem_of_getElem? h
 unfold spS at this
 simp only [List.mem_append,List.mem_cons,List.not_mem_nil,or_false] at this
 rcases this with (rfl|rfl|rfl|rfl)|(rfl|rfl|rfl|rfl|rfl|rfl|rfl) <;> exact ⟨_,rfl⟩
end
theorem oM {n k:Nat} {xs:List D} (h:fits' n xs=true):fits' n (List.replicate k xs).flatten=true:=bC.mpr fun d hd=>by
 obtain ⟨l,hl,hd⟩:=List.mem_flatten.mp hd
 rw [List.eq_of_mem_replicate hl] at hd
 exact bC.mp h d hd
theorem qj {n k:Nat} {xs:List D} (h:fits' n xs=true):fits' n (xs.take k)=true:=bC.mpr fun d hd=>bC.mp h d (List.mem_of_mem_take hd)
theorem C3 {n k:Nat} {xs:List D} (h:fits' n xs=true):fits' n (xs.drop k)=true:=bC.mpr fun d hd=>bC.mp h d (List.mem_of_mem_drop hd)
theorem j3 {n:Nat} {xs ys:List D} (h:fits' n xs=true) (h2:fits' n ys=true):fits' n (xs++ys)=true:=bC.mpr fun d hd=>(List.mem_append.mp hd).elim (bC.mp h d) (bC.mp h2 d)
theorem Bj {xs:List D} {j:Int} {S:aa}:opD .mul (.tup xs) (.int j) S=guard (decide (-(2 ^ 63)<=j)&&decide (j < 2 ^ 63)&&fits (xs.length * j.toNat)) (pure (.tup (List.replicate j.toNat xs).flatten)) S:=id rfl
theorem qm {xs:List D} {k:Nat} {S:aa} (hk:k<=10) (h:xs.length<=100):opD .mul (.tup xs) (.int (k:Int)) S=.ok (.tup (List.replicate k xs).flatten) S:=by
 have h1:xs.length * k<=1000:=Nat.le_trans (Nat.mul_le_mul h hk) (by decide)
 have h2:decide (-(2 ^ 63)<=(k:Int))=true:=decide_eq_true (by omega)
 have h3:decide ((k:Int) < 2 ^ 63)=true:=decide_eq_true (by omega)
 rw [Bj,fT,h2,h3,Int.toNat_natCast,iu h1,Bool.and_self,Bool.and_self,if_pos rfl,n_]
theorem oF (k:Nat) (xs:List D):(List.replicate k xs).flatten.length=k * xs.length:=by
 induction k with
 | zero=>simp
 | succ k ih=>rw [List.replicate_succ,List.flatten_cons,List.length_append,ih,Nat.succ_mul,Nat.add_comm]
section
variable {P:Prg} {n:Nat}
theorem uq (hO:Has P "_law_odd_work" iN) (hS:Has P "_law_spoilt" mQ) (A B:List D) {l:Lp} (hl:l.WF) {c:Int} (h0:0<=c) :
  ∃ d T,ai (fun _ _=>false) P (n+2) "_law_spoilt" [l.toD,.int c] [.lst A,.lst B]=.ok d T/\aM T/\fit T.length d=true/\cV d=false:=by
 have hw8:=hl.nworks
 have hc3:=hl.ncrews
 have hol:=RL.jK hl.outs (Nat.zero_le _)
 have f1:∀ m,fits' m (l.crews.map az)=true:=fun m=>fC (fun _=>rfl) _
 have f2:∀ m,fits' m (l.works.map Wk.toD)=true:=fun m=>fC (t8 m) _
 have f3:∀ m,fits' m (l.outs.map au)=true:=fun m=>fC (fun _=>rfl) _
 have h00:exec (fun _ _=>false) (ai (fun _ _=>false) P (n+1)) (.set (.many [2,3,4,5]) (.v 0)) (frame mQ [l.toD,.int c]) [.lst A,.lst B]=.ok (.nx [some l.toD,some (.int c),some (.int (l.streams:Int)),some (.tup (l.crews.map az)),some (.tup (l.works.map Wk.toD)),some (.tup (l.outs.map au)),none,none]) [.lst A,.lst B]:=sZ (ds:=[.int (l.streams:Int),.tup (l.crews.map az),.tup (l.works.map Wk.toD),.tup (l.outs.map au)]) (r_v rfl) rfl
 by_cases he:c % 2=0
 ·-- a work that is none
  have test:evT (fun _ _=>false) (ai (fun _ _=>false) P (n+1)) (.cmp .eq (.bin .mod (.v 1) (.c (.int 2))) (.c (.int 0))) [some l.toD,some (.int c),some (.int (l.streams:Int)),some (.tup (l.crews.map az)),some (.tup (l.works.map Wk.toD)),some (.tup (l.outs.map au)),none,none] [.lst A,.lst B]=.ok true [.lst A,.lst B] :=
   t_k (aW (bw (a_ (r_v rfl) r_c (eW (by decide))) r_c (gk _ _ _))) (by rw [he]; rfl)
  have hlen:biD (fun _ _=>false) .len [.tup (l.works.map Wk.toD)] [.lst A,.lst B]=.ok (.int (l.works.length:Int)) [.lst A,.lst B]:=by rw [eu,List.length_map]
  obtain ⟨k,hk⟩:∃ k:Nat,c / 2 % (l.works.length:Int)=(k:Int):=⟨(c / 2 % (l.works.length:Int)).toNat,by have:=Int.emod_nonneg (c / 2) (show (l.works.length:Int)≠0 by omega); omega⟩
  have hkl:k < l.works.length:=by have:=Int.emod_lt_of_pos (c / 2) (show (0:Int) < (l.works.length:Int) by omega); omega
  have h6:exec (fun _ _=>false) (ai (fun _ _=>false) P (n+1)) (.set (.one 6) (.bin .mod (.bin .fdiv (.v 1) (.c (.int 2))) (.bi .len (.cs (.v 4) .nl)))) [some l.toD,some (.int c),some (.int (l.streams:Int)),some (.tup (l.crews.map az)),some (.tup (l.works.map Wk.toD)),some (.tup (l.outs.map au)),none,none] [.lst A,.lst B]=.ok (.nx [some l.toD,some (.int c),some (.int (l.streams:Int)),some (.tup (l.crews.map az)),some (.tup (l.works.map Wk.toD)),some (.tup (l.outs.map au)),some (.int (k:Int)),none]) [.lst A,.lst B]:=by
   have:=aZ (i:=6) (a_ (a_ (r_v (sub:=fun _ _=>false) (cf:=ai (fun _ _=>false) P (n+1)) (σ:=[some l.toD,some (.int c),some (.int (l.streams:Int)),some (.tup (l.crews.map az)),some (.tup (l.works.map Wk.toD)),some (.tup (l.outs.map au)),none,none]) (S:=[.lst A,.lst B]) (i:=1) rfl) (r_c (d:=.int 2)) (jM (by decide))) (aQ (af (r_v (i:=4) rfl) ah) hlen) (eW (by omega)))
   rw [hk] at this
   exact this
  obtain ⟨d,T,eo,hL,hf,hb,ht⟩:=EG (n:=n) hO A B (w:=l.works[k]) (hl.works k _ (List.getElem?_eq_getElem hkl)).three (q:=c / 17) (own:=(k:Int)) (many:=(l.works.length:Int)) (streams:=(l.streams:Int)) (ncrews:=(l.crews.length:Int)) (by omega) (by have:=hl.streams; omega) (by omega)
  have hix:atI (l.works.map Wk.toD) (k:Int)=some l.works[k].toD:=by rw [dI,List.getElem?_map,List.getElem?_eq_getElem hkl]; rfl
  have hsl:∀ S,slD (.tup (l.works.map Wk.toD)) none (some (k:Int)) S=.ok (.tup ((l.works.map Wk.toD).take k)) S:=fun S=>by rw [j8,iw]
  have hsr:∀ S,slD (.tup (l.works.map Wk.toD)) (some ((k:Int)+1)) none S=.ok (.tup ((l.works.map Wk.toD).drop (k+1))) S:=fun S=>by rw [j8,show (k:Int)+1=((k+1:Nat):Int) from rfl,BQ]
  have hl1:((l.works.map Wk.toD).take k).length=k:=by rw [List.length_take,List.length_map]; omega
  have hl2:((l.works.map Wk.toD).drop (k+1)).length=l.works.length - (k+1):=by rw [List.length_drop,List.length_map]
  have hlow:∀ S:aa,cT (fun _ _=>false) (ai (fun _ _=>false) P (n+1)) [some l.toD,some (.int c),some (.int (l.streams:Int)),some (.tup (l.crews.map az)),some (.tup (l.works.map Wk.toD)),some (.tup (l.outs.map au)),some (.int (k:Int)),none] (.bin .add (.v 6) (.c (.int 1))) S=.ok (some ((k:Int)+1)) S:=fun S=>by
   unfold cT
   rw [if_neg (by decide),a_ (r_v rfl) r_c (jH _ _ _)]; rfl
  have hret:=aN (br (af (r_v (sub:=fun _ _=>false) (cf:=ai (fun _ _=>false) P (n+1)) (σ:=[some l.toD,some (.int c),some (.int (l.streams:Int)),some (.tup (l.crews.map az)),some (.tup (l.works.map Wk.toD)),some (.tup (l.outs.map au)),some (.int (k:Int)),none]) (S:=[.lst A,.lst B]) (i:=2) rfl) (af (r_v (i:=3) rfl) (af (a_ (a_ (lV (r_v (i:=4) rfl) jU (xR (k:=6) rfl) (hsl _)) (br (af (aD (af (aA (r_v (i:=4) rfl) (r_v (i:=6) rfl) (aC hix)) (af (a_ (r_v (i:=1) rfl) (r_c (d:=.int 17)) (jM (by decide))) ah)) eo) ah) rfl) (j4 (iu (by rw [hl1]; simp; omega)))) (lV (r_v (i:=4) rfl) (hlow _) jU (hsr _)) (j4 (iu (by rw [List.length_append,hl1,hl2]; simp; omega)))) (af (r_v (i:=5) rfl) ah)))) rfl)
  generalize hWW:(l.works.map Wk.toD).take k++[d]++(l.works.map Wk.toD).drop (k+1)=WW at hret
  have hWl:WW.length=l.works.length:=by rw [<- hWW,List.length_append,List.length_append,hl1,hl2]; simp; omega
  have hbad:cV (.tup [.int (l.streams:Int),.tup (l.crews.map az),.tup WW,.tup (l.outs.map au)])=false:=by
   refine bK (.inr (.inr (.inl ?_)))
   show (_&&allFrom 0 (fun own w=>bQ w own WW.length (l.streams:Int) ((l.crews.map az).length:Int)) WW)=false
   rw [hWl,List.length_map,<- hWW,List.append_assoc,List.singleton_append,nU (by rw [Nat.zero_add,hl1]; exact hb)]
   simp
  have hfit:fit T.length (.tup [.int (l.streams:Int),.tup (l.crews.map az),.tup WW,.tup (l.outs.map au)])=true:=by
   have:fits' T.length WW=true:=by
    rw [<- hWW]
    refine j3 (j3 (qj (f2 _)) ?_) (C3 (f2 _))
    show (fit T.length d&&true)=true
    rw [hf]; rfl
   show (true&&(fits' T.length (l.crews.map az)&&(fits' T.length WW&&(fits' T.length (l.outs.map au)&&true))))=true
   rw [f1,f3,this]; rfl
  obtain ⟨d',T',e',hL',hf',hor,_⟩:=kQ (S:=[.lst A,.lst B]) (S':=T) ht hL hfit
  refine ⟨d',T',x_call (ds:=[l.toD,.int c]) hS rfl (aq h00 (d9 (dD test (aq h6 hret)))) e',hL',hf',?_⟩
  rcases hor with rfl|⟨j,rfl⟩
  ·exact hbad
  ·rfl
 ·-- parts that are none
  have test:evT (fun _ _=>false) (ai (fun _ _=>false) P (n+1)) (.cmp .eq (.bin .mod (.v 1) (.c (.int 2))) (.c (.int 0))) [some l.toD,some (.int c),some (.int (l.streams:Int)),some (.tup (l.crews.map az)),some (.tup (l.works.map Wk.toD)),some (.tup (l.outs.map au)),none,none] [.lst A,.lst B]=.ok false [.lst A,.lst B] :=
   t_k (aW (bw (a_ (r_v rfl) r_c (eW (by decide))) r_c (gk _ _ _))) (beq_eq_false_iff_ne.mpr he)
  have hm4:∀ S,opD .mul (.tup (l.crews.map az)) (.int 4) S=.ok (.tup (List.replicate 4 (l.crews.map az)).flatten) S:=fun S=>qm (k:=4) (by decide) (by rw [List.length_map]; omega)
  have hm9:∀ S,opD .mul (.tup (l.works.map Wk.toD)) (.int 9) S=.ok (.tup (List.replicate 9 (l.works.map Wk.toD)).flatten) S:=fun S=>qm (k:=9) (by decide) (by rw [List.length_map]; omega)
  have ha:∀ S,opD .add (.tup (l.outs.map au)) (.tup (l.outs.map au)) S=.ok (.tup (l.outs.map au++l.outs.map au)) S:=fun S=>j4 (iu (by rw [List.length_map]; omega))
  have g4:4<=(List.replicate 4 (l.crews.map az)).flatten.length:=by rw [oF,List.length_map]; omega
  have g9:9<=(List.replicate 9 (l.works.map Wk.toD)).flatten.length:=by rw [oF,List.length_map]; omega
  have q4:=oM (k:=4) (f1 11)
  have q9:fits' 11 (cut (List.replicate 9 (l.works.map Wk.toD)).flatten none (some 9))=true:=by
   rw [show (9:Int)=((9:Nat):Int) from rfl,iw]
   exact qj (oM (f2 11))
  have r0:0<=c / 2 % 21:=Int.emod_nonneg _ (by decide)
  have r1:c / 2 % 21 < 21:=Int.emod_lt_of_pos _ (by decide)
  generalize (List.replicate 4 (l.crews.map az)).flatten=c4 at hm4 g4 q4
  generalize (List.replicate 9 (l.works.map Wk.toD)).flatten=w9 at hm9 g9 q9
  obtain ⟨d,hd,e⟩:=pick (S:=spS (.int (l.streams:Int)) (l.crews.map az) (l.works.map Wk.toD) (l.outs.map au) c4 w9 A B 21 [.lst (((spL (.int (l.streams:Int)) (l.crews.map az) (l.works.map Wk.toD) (l.outs.map au) c4 w9).drop 6).take 3),.lst (((spL (.int (l.streams:Int)) (l.crews.map az) (l.works.map Wk.toD) (l.outs.map au) c4 w9).drop 9).take 2),.lst (((spL (.int (l.streams:Int)) (l.crews.map az) (l.works.map Wk.toD) (l.outs.map au) c4 w9).drop 11).take 2),.lst (((spL (.int (l.streams:Int)) (l.crews.map az) (l.works.map Wk.toD) (l.outs.map au) c4 w9).drop 13).take 3),.lst (((spL (.int (l.streams:Int)) (l.crews.map az) (l.works.map Wk.toD) (l.outs.map au) c4 w9).drop 16).take 2),.lst (l.outs.map au),.lst (((spL (.int (l.streams:Int)) (l.crews.map az) (l.works.map Wk.toD) (l.outs.map au) c4 w9).drop 18).take 2)]) (l:=3) (xs:=spL (.int (l.streams:Int)) (l.crews.map az) (l.works.map Wk.toD) (l.outs.map au) c4 w9) rfl r0 (show c / 2 % 21 < ((21:Nat):Int) from r1)
  have hb:=zQ g4 g9 (List.length_map _) rfl hl.outs hl.nouts d hd
  have hf:=C8 (f1 11) (f2 11) (f3 11) q4 q9 (j3 (f3 11) (f3 11)) d hd
  obtain ⟨d',T',e',hL',hf',hor,_⟩:=kQ (S:=[.lst A,.lst B]) (d:=d) (S':=spS (.int (l.streams:Int)) (l.crews.map az) (l.works.map Wk.toD) (l.outs.map au) c4 w9 A B 21 [.lst (((spL (.int (l.streams:Int)) (l.crews.map az) (l.works.map Wk.toD) (l.outs.map au) c4 w9).drop 6).take 3),.lst (((spL (.int (l.streams:Int)) (l.crews.map az) (l.works.map Wk.toD) (l.outs.map au) c4 w9).drop 9).take 2),.lst (((spL (.int (l.streams:Int)) (l.crews.map az) (l.works.map Wk.toD) (l.outs.map au) c4 w9).drop 11).take 2),.lst (((spL (.int (l.streams:Int)) (l.crews.map az) (l.works.map Wk.toD) (l.outs.map au) c4 w9).drop 13).take 3),.lst (((spL (.int (l.streams:Int)) (l.crews.map az) (l.works.map Wk.toD) (l.outs.map au) c4 w9).drop 16).take 2),.lst (l.outs.map au),.lst (((spL (.int (l.streams:Int)) (l.crews.map az) (l.works.map Wk.toD) (l.outs.map au) c4 w9).drop 18).take 2)]) rfl yo hf
  refine ⟨d',T',x_call (ds:=[l.toD,.int c]) hS rfl (aq h00 (aq (aK test aL) (aq sp2 (aq (sp3 hm4) (aq sp4 (aq sp5 (aq (sp6 hm9) (aq (sp7 ha) (aq sp8 (aq sp9 (aN (aA (r_v rfl) (a_ (a_ (r_v rfl) r_c (jM (by decide))) r_c (eW (by decide))) e)))))))))))) e',hL',hf',?_⟩
  rcases hor with rfl|⟨j,rfl⟩
  ·exact hb
  ·rfl
end
end K01

namespace K01
open PySem EV GO RL
section
variable {S:aa}
theorem dg {n:Nat} {xs:List D} (h:∀ x∈xs,eqD n S x x=some true):eqD (n+1) S (.tup xs) (.tup xs)=some true:=by
 show (bf (eqD n S) xs xs).map (fun r=>r&&(xs.length==xs.length))=_
 rw [jl h]
 simp
theorem jm (n:Nat) (x:Str):eqD (n+1) S (.str x) (.str x)=some true:=by
 show some (x==x)=_
 simp
theorem Bq (n:Nat) (s:Srs):eqD (n+2) S s.toD s.toD=some true:=by
 cases s with
 | val v=>exact dg fun x hx=>by rcases (by simpa using hx:x=_\/x=_) with rfl|rfl; exact jm _ _; exact dF _ _
 | inp v=>exact dg fun x hx=>by rcases (by simpa using hx:x=_\/x=_) with rfl|rfl; exact jm _ _; exact dF _ _
 | wrk a b=>exact dg fun x hx=>by rcases (by simpa using hx:x=_\/x=_\/x=_) with rfl|rfl|rfl; exact jm _ _; exact dF _ _; exact dF _ _
theorem Dj (n:Nat) (w:Wk):eqD (n+4) S w.toD w.toD=some true:=dg fun x hx=>by
 rcases (by simpa using hx:x=_\/x=_\/x=_\/x=_\/x=_) with rfl|rfl|rfl|rfl|rfl
 ·exact dF _ _
 ·exact dF _ _
 ·exact jm _ _
 ·exact dg fun x hx=>by obtain ⟨s,_,rfl⟩:=List.mem_map.mp hx; exact Bq n s
 ·exact qJ _ _
theorem vt (l:Lp):eqD 12 S l.toD l.toD=some true:=dg fun x hx=>by
 rcases (by simpa using hx:x=_\/x=_\/x=_\/x=_) with rfl|rfl|rfl|rfl
 ·exact dF _ _
 ·exact dg fun x hx=>by
   obtain ⟨c,_,rfl⟩:=List.mem_map.mp hx
   exact dg fun x hx=>by rcases (by simpa using hx:x=_\/x=_) with rfl|rfl <;> exact dF _ _
 ·exact dg fun x hx=>by obtain ⟨w,_,rfl⟩:=List.mem_map.mp hx; exact Dj 6 w
 ·exact dg fun x hx=>by obtain ⟨k,_,rfl⟩:=List.mem_map.mp hx; exact dF _ _
theorem xV (l:Lp):cmD .ne l.toD l.toD S=.ok (.bl false) S:=by
 rw [sI,if_pos (show ee l.toD l.toD=true from rfl),show deep=12 from rfl,vt]; rfl
end
theorem Cc {sub:Sub} {cf:Str->List D->M D} {σ:Sg} {S S1 S2:aa} {f c:Str} {es:E} {ds:List D} {d:D} (hs:evs sub cf es σ S=.ok ds S1) (h:cf f ds S1=.exc c S2):exec sub cf (.tryE f es c d) σ S=.ok (.rt d) S2:=by
 show (quiet (evs sub cf es σ)>>=fun ds=>gy c d σ (cf f ds)) S=_
 rw [av,e9 hs,Res.aj]
 unfold gy
 rw [h]
 dsimp only
 rw [if_pos rfl]
noncomputable def mZ:Fn:=⟨1,2,(.seq (.tryE "checked" (.cs (.v 0) .nl) "NoLoop" (.bl true))
 (.ret (.c (.bl false))))⟩
noncomputable def rj:Fn:=⟨1,3,(.seq (.set (.one 1) (.call "_law_loop" (.cs (.v 0) (.cs (.c (.int 2)) (.cs (.c (.int 4)) .nl)))))
 (.seq (.set (.one 2) (.call "needs" (.cs (.v 1) .nl)))
 (.seq (.ite (.or (.cmp .ne (.call "checked" (.cs (.v 1) .nl)) (.v 1)) (.or (.not (.bi (.inst .list) (.cs (.v 2) .nl))) (.cmp .ne (.v 2) (.call "_law_needs" (.cs (.v 1) .nl)))))
  (.ret (.c (.bl false)))
  .skip)
 (.ret (.call "_law_refused" (.cs (.call "_law_spoilt" (.cs (.v 1) (.cs (.call "_law_mixed" (.cs (.v 0) (.cs (.c (.int 0)) (.cs (.bin .pow (.c (.int 10)) (.c (.int 6))) .nl)))) .nl))) .nl))))))⟩
noncomputable def Pd:Prg:=[(("is_whole" : Str),d7),(("is_value" : Str),iH),(("is_row" : Str),dU),(("is_crew" : Str),g6),(("are_crews" : Str),g7),(("is_work_source" : Str),fJ),(("is_source" : Str),jq),(("are_starts" : Str),gW),(("is_work" : Str),jy),(("are_works" : Str),gZ),(("are_outs" : Str),fP),(("is_loop" : Str),jz),(("checked" : Str),iZ),(("needs" : Str),nV),(("_law_cell_at" : Str),qT),(("_law_mixed" : Str),nB),(("_law_source" : Str),qy),(("_law_work" : Str),tQ),(("_law_loop" : Str),oJ),(("_law_needs" : Str),nq),(("_law_odd_work" : Str),iN),(("_law_spoilt" : Str),mQ),(("_law_refused" : Str),mZ),(("law" : Str),rj)]
theorem hB:HB Pd:=⟨rfl,rfl,rfl,rfl,rfl,rfl,rfl,rfl,rfl,rfl,rfl,rfl,rfl⟩
theorem hG:HG Pd:=⟨rfl,rfl,rfl,rfl,rfl⟩
theorem main (ns:List Int) (h:ns.length<=63):∃ S',ai (fun _ _=>false) Pd 30 "law" [.fro (ns.map .int)] []=.ok (.bl true) S':=by
 obtain ⟨mx,M⟩:=BN hG
 have hl:=C_ M ns (at':=2) (most:=4) (by decide) (by decide)
 have ed:=CG (sub:=fun _ _=>false) (n:=24) (S:=[]) hG M ns (at':=2) (most:=4) (by decide) (by decide) (by decide)
 have h6:(cK mx ns 2 4).works.length<=6:=by
  have:=M.rng ns (2+1) (show (0:Int) < 4 by decide)
  simp only [cK,List.length_map,List.length_range]
  omega
 generalize cK mx ns 2 4=l at hl ed h6
 have rg:=M.rng ns 0 (show (0:Int) < 1000000 by decide)
 have mt:∀ S,ai (fun _ _=>false) Pd 29 "_law_mixed" [.fro (ns.map .int),.int 0,.int 1000000] S=.ok (.int (mx ns 0 1000000)) S:=fun S=>M.ok (n:=27) ns (by decide) (by decide)
 have en:ai (fun _ _=>false) Pd 29 "needs" [l.toD] []=.ok (.loc 0) [.lst ((aP (aT 0 l.works)).map tupI)]:=yu (P:=Pd) (n:=21) (S:=[]) hB rfl hl h6
 have el:ai (fun _ _=>false) Pd 29 "_law_needs" [l.toD] [.lst ((aP (aT 0 l.works)).map tupI)]=.ok (.loc 1) [.lst ((aP (aT 0 l.works)).map tupI),.lst ((aP (aT 0 l.works)).map tupI)]:=wO (P:=Pd) (n:=28) (S:=[.lst ((aP (aT 0 l.works)).map tupI)]) rfl hl h6
 have hck:∀ S,ai (fun _ _=>false) Pd 29 "checked" [l.toD] S=.ok l.toD S:=fun S=>nN (n:=22) hB hl
 generalize aP (aT 0 l.works)=N at en el
 have hne:cmD .ne (.loc 0) (.loc 1) [.lst (N.map tupI),.lst (N.map tupI)]=.ok (.bl false) [.lst (N.map tupI),.lst (N.map tupI)]:=z9 (xs:=N.map tupI) rfl rfl (jl fun x hx=>by
  obtain ⟨t,_,rfl⟩:=List.mem_map.mp hx
  exact qJ 9 t)
 have hnl:∀ S,cmD .ne l.toD l.toD S=.ok (.bl false) S:=fun S=>xV l
 obtain ⟨d,T,es,hLi,hf,hb⟩:=uq (P:=Pd) (n:=27) rfl rfl (N.map tupI) (N.map tupI) hl (c:=mx ns 0 1000000) rg.1
 have er:ai (fun _ _=>false) Pd 29 "_law_refused" [d] T=.ok (.bl true) T :=
  x_call (n:=28) (ds:=[d]) (show Has Pd "_law_refused" mZ from rfl) rfl (d9 (Cc (af (r_v rfl) ah) (RB.B9 (n:=21) hB hLi hf hb))) (cU rfl List.take_length)
 have hpow:∀ S:aa,opD .pow (.int 10) (.int 6) S=.ok (.int 1000000) S:=fun S=>rfl
 exact ⟨[],x_call (ds:=[.fro (ns.map .int)]) (show Has Pd "law" rj from rfl) rfl (aq (aZ (aD (af (r_v rfl) (af r_c (af r_c ah))) ed)) (aq (aZ (aD (af (r_v rfl) ah) en))
  (aq (aK (cN (aW (bw (aD (af (r_v rfl) ah) (hck _)) (r_v rfl) (hnl _))) (cN (bJ (k:=true) (gf (aQ (af (r_v rfl) ah) (fO rfl)))) (aW (bw (r_v rfl) (aD (af (r_v rfl) ah) el) hne)))) aL)
   (aN (aD (af (aD (af (r_v rfl) (af (aD (af (r_v rfl) (af r_c (af (a_ r_c r_c (hpow _)) ah))) (mt _)) ah)) es) ah) er))))) (cU (S:=[]) (d:=.bl true) rfl rfl)⟩
end K01

namespace K01
open PySem EV RL
noncomputable def top (i:Nat):Stmt:=PySem.Challenge.pw_roundlap_k01_loops.main.body.getD i (.Pass ⟨0,0,0,0⟩)
noncomputable def fns:List (Str × Stmt):=[(("is_whole" : Str),top 15),(("is_value" : Str),top 16),(("is_row" : Str),top 17),(("is_crew" : Str),top 18),(("are_crews" : Str),top 19),(("is_work_source" : Str),top 20),(("is_source" : Str),top 21),(("are_starts" : Str),top 22),(("is_work" : Str),top 23),(("are_works" : Str),top 24),(("are_outs" : Str),top 25),(("is_loop" : Str),top 26),(("checked" : Str),top 27),(("needs" : Str),top 28),(("_law_cell_at" : Str),top 30),(("_law_mixed" : Str),top 31),(("_law_source" : Str),top 32),(("_law_work" : Str),top 33),(("_law_loop" : Str),top 34),(("_law_needs" : Str),top 35),(("_law_odd_work" : Str),top 36),(("_law_spoilt" : Str),top 37),(("_law_refused" : Str),top 38),(("law" : Str),top 39)]
noncomputable def vals:List (Str × D):=[("REST",(.int 9973)),("MOST_STREAMS",(.int 6)),("MOST_CREWS",(.int 3)),("MOST_MACHINES",(.int 3)),("MOST_BUSY",(.int 4)),("MOST_WORKS",(.int 8)),("MOST_LONG",(.int 8)),("MOST_SOURCES",(.int 3)),("MOST_BACK",(.int 3)),("WORDS",(.tup [(.str "plus"),(.str "less"),(.str "times"),(.str "least"),(.str "greatest")]))]
noncomputable def cls:List Str:=["LapError","NoLoop","NoPlan"]
set_option maxRecDepth 100000 in
set_option maxHeartbeats 0 in
theorem hP:fns.map (fun p=>(p.1,trF (dN fns vals cls) p.2))=Pd.map fun p=>(p.1,some p.2):=by kernel_rfl
end K01
noncomputable def PySem.W.Fast.tw7533402962746278628:Nat:=0
noncomputable def PySem.W.Fast.tw7243149396030075899:Nat:=0
noncomputable def PySem.W.Fast.tw2442619011954886402:Nat:=0
noncomputable def PySem.W.Fast.tw16541556071978130470:Nat:=0
noncomputable def PySem.W.Fast.tw11731538918599314003:Nat:=0
noncomputable def PySem.W.Fast.tw7287945060735787877:Nat:=0
noncomputable def PySem.W.Fast.tw7021543033714108793:Nat:=0
noncomputable def PySem.W.Fast.tw1505906892218270716:Nat:=0
noncomputable def PySem.W.Fast.tw4940714459506827666:Nat:=0
noncomputable def PySem.W.Fast.tw17852072611680291530:Nat:=0
noncomputable def PySem.W.Fast.tw4985939066478709311:Nat:=0
noncomputable def PySem.W.Fast.tw1605596047522115737:Nat:=0
noncomputable def PySem.W.Fast.tw8408551595834722593:Nat:=0
noncomputable def PySem.W.Fast.tw2759932911855195875:Nat:=0
noncomputable def PySem.W.Fast.tw6874781337357296630:Nat:=0
noncomputable def PySem.W.Fast.tw7871941736145321446:Nat:=0
noncomputable def PySem.W.Fast.tw14680191404446747677:Nat:=0
noncomputable def PySem.W.Fast.tw975627236602492228:Nat:=0
noncomputable def PySem.W.Fast.tw4793964311228237581:Nat:=0
noncomputable def PySem.W.Fast.tw12716081682454276820:Nat:=0
noncomputable def PySem.W.Fast.tw9332585352020443329:Nat:=0
noncomputable def PySem.W.Fast.tw12431360785803009478:Nat:=0
noncomputable def PySem.W.Fast.tw11644089281204742162:Nat:=0
noncomputable def PySem.W.Fast.tw16942129702658077256:Nat:=0
noncomputable def PySem.W.Fast.tw18160173439834283270:Nat:=0
noncomputable def PySem.W.Fast.tw6021289494207207166:Nat:=0
noncomputable def PySem.W.Fast.tw12026013008274958048:Nat:=0
noncomputable def PySem.W.Fast.tw15455629790476760738:Nat:=0
noncomputable def PySem.W.Fast.tw4591189734416249932:Nat:=0
noncomputable def PySem.W.Fast.tw16278563622616928799:Nat:=0
noncomputable def PySem.W.Fast.tw845177662871489674:Nat:=0
noncomputable def PySem.W.Fast.tw13096639967999143195:Nat:=0
noncomputable def PySem.W.Fast.tw17481138328441335200:Nat:=0
noncomputable def PySem.W.Fast.tw3398034596449993118:Nat:=0
noncomputable def PySem.W.Fast.tw6495094003468970470:Nat:=0
noncomputable def PySem.W.Fast.tw7043952741788374319:Nat:=0
noncomputable def PySem.W.Fast.tw1441681394176702067:Nat:=0
noncomputable def PySem.W.Fast.tw5078548469640493634:Nat:=0
noncomputable def PySem.W.Fast.tw18062823238919192367:Nat:=0
noncomputable def PySem.W.Fast.tw3152982114004473169:Nat:=0
noncomputable def PySem.W.Fast.tw14735108099617406164:Nat:=0
noncomputable def PySem.W.Fast.tw14277535761060347608:Nat:=0
noncomputable def PySem.W.Fast.tw15310931849304741371:Nat:=0
noncomputable def PySem.W.Fast.tw16653328605443769552:Nat:=0
noncomputable def PySem.W.Fast.tw12658736268672799366:Nat:=0
noncomputable def PySem.W.Fast.tw2953619695725901734:Nat:=0
noncomputable def PySem.W.Fast.tw13955126847180582565:Nat:=0
noncomputable def PySem.W.Fast.tw17141550478423577289:Nat:=0
noncomputable def PySem.W.Fast.tw14143192571548918916:Nat:=0
noncomputable def PySem.W.Fast.tw1190960222355407873:Nat:=0
noncomputable def PySem.W.Fast.tw13025046401649201872:Nat:=0
noncomputable def PySem.W.Fast.tw1528906428425916823:Nat:=0
noncomputable def PySem.W.Fast.tw4354980885581613988:Nat:=0
noncomputable def PySem.W.Fast.tw4759721820763978811:Nat:=0
noncomputable def PySem.W.Fast.tw12821175915537370058:Nat:=0
noncomputable def PySem.W.Fast.tw7385267939921343302:Nat:=0
noncomputable def PySem.W.Fast.tw811976605161879360:Nat:=0
noncomputable def PySem.W.Fast.tw10099098668577583652:Nat:=0
noncomputable def PySem.W.Fast.tw4675310635329416852:Nat:=0
noncomputable def PySem.W.Fast.tw3724572753906525936:Nat:=0
noncomputable def PySem.W.Fast.tw6328216434861538842:Nat:=0
noncomputable def PySem.W.Fast.tw14984224269494301626:Nat:=0
noncomputable def PySem.W.Fast.tw1657759777937787360:Nat:=0
noncomputable def PySem.W.Fast.tw3916664831427936637:Nat:=0
noncomputable def PySem.W.Fast.tw15468044670621310021:Nat:=0
noncomputable def PySem.W.Fast.tw4141748628645278755:Nat:=0
noncomputable def PySem.W.Fast.tw16609779788529437308:Nat:=0
noncomputable def PySem.W.Fast.tw9405601324846606075:Nat:=0
noncomputable def PySem.W.Fast.tw16270767111263923753:Nat:=0
noncomputable def PySem.W.Fast.tw17089237743209114276:Nat:=0
noncomputable def PySem.W.Fast.tw7574854334324885197:Nat:=0
noncomputable def PySem.W.Fast.tw2556530866249500901:Nat:=0
noncomputable def PySem.W.Fast.tw8293708395070179964:Nat:=0
noncomputable def PySem.W.Fast.tw7295533586882103029:Nat:=0
noncomputable def PySem.W.Fast.tw14222270430270081453:Nat:=0
noncomputable def PySem.W.Fast.tw14074606180404480937:Nat:=0
noncomputable def PySem.W.Fast.tw16100074962785498431:Nat:=0
noncomputable def PySem.W.Fast.tw5476152968487617518:Nat:=0
noncomputable def PySem.W.Fast.tw16854292835690092714:Nat:=0
noncomputable def PySem.W.Fast.tw10742577568746455453:Nat:=0
noncomputable def PySem.W.Fast.tw10760227099433676722:Nat:=0
noncomputable def PySem.W.Fast.tw1877614198255459851:Nat:=0
noncomputable def PySem.W.Fast.tw16563342203777716704:Nat:=0
noncomputable def PySem.W.Fast.tw8563607401748358715:Nat:=0
noncomputable def PySem.W.Fast.tw7880857253393821450:Nat:=0
noncomputable def PySem.W.Fast.tw4812837185033297463:Nat:=0
noncomputable def PySem.W.Fast.tw10553249472681785907:Nat:=0
noncomputable def PySem.W.Fast.tw15775111456400996529:Nat:=0
noncomputable def PySem.W.Fast.tw4747166454074687663:Nat:=0
noncomputable def PySem.W.Fast.tw7642807415427079094:Nat:=0
noncomputable def PySem.W.Fast.tw716343342786830812:Nat:=0
noncomputable def PySem.W.Fast.tw5855977983518645276:Nat:=0
noncomputable def PySem.W.Fast.tw11327897853479406765:Nat:=0
noncomputable def PySem.W.Fast.tw14632243704386695571:Nat:=0
noncomputable def PySem.W.Fast.tw3538508411262395294:Nat:=0
noncomputable def PySem.W.Fast.tw10960999444986983311:Nat:=0
noncomputable def PySem.W.Fast.tw12046195653082330012:Nat:=0
noncomputable def PySem.W.Fast.tw10006883987166659414:Nat:=0
noncomputable def PySem.W.Fast.tw9829501852147401594:Nat:=0
noncomputable def PySem.W.Fast.tw16142578646255856473:Nat:=0
noncomputable def PySem.W.Fast.tw4385048073802405001:Nat:=0
noncomputable def PySem.W.Fast.tw8968127508573527220:Nat:=0
noncomputable def PySem.W.Fast.tw10853592168367407516:Nat:=0
noncomputable def PySem.W.Fast.tw12936611860805987782:Nat:=0
noncomputable def PySem.W.Fast.tw7542528090670150477:Nat:=0
noncomputable def PySem.W.Fast.tw15561108897812896749:Nat:=0
noncomputable def PySem.W.Fast.tw13732347002421383498:Nat:=0
noncomputable def PySem.W.Fast.tw14914524097484680283:Nat:=0
noncomputable def PySem.W.Fast.tw16122695163073239633:Nat:=0
noncomputable def PySem.W.Fast.tw437041824930221775:Nat:=0
noncomputable def PySem.W.Fast.tw56985196199377871:Nat:=0
noncomputable def PySem.W.Fast.tw857852169268354775:Nat:=0
noncomputable def PySem.W.Fast.tw17692903868371202156:Nat:=0
noncomputable def PySem.W.Fast.tw17521931351134658793:Nat:=0
noncomputable def PySem.W.Fast.tw2699491777582148310:Nat:=0
noncomputable def PySem.W.Fast.tw12395898645312042760:Nat:=0
noncomputable def PySem.W.Fast.tw16156022823292048607:Nat:=0
noncomputable def PySem.W.Fast.tw3697201886898195986:Nat:=0
noncomputable def PySem.W.Fast.tw14270411010209090757:Nat:=0
noncomputable def PySem.W.Fast.tw18103911393989942007:Nat:=0
noncomputable def PySem.W.Fast.tw1041964209993495833:Nat:=0
noncomputable def PySem.W.Fast.tw12092999525784767468:Nat:=0
noncomputable def PySem.W.Fast.tw6169367853607749548:Nat:=0
noncomputable def PySem.W.Fast.tw14511247824184489240:Nat:=0
noncomputable def PySem.W.Fast.tw173722820360639149:Nat:=0
noncomputable def PySem.W.Fast.tw14696420763443910362:Nat:=0
noncomputable def PySem.W.Fast.tw5780444828286725476:Nat:=0
noncomputable def PySem.W.Fast.tw11496334034491377065:Nat:=0
noncomputable def PySem.W.Fast.tw994598820808457483:Nat:=0
noncomputable def PySem.W.Fast.tw3350745199459440489:Nat:=0
noncomputable def PySem.W.Fast.tw10764342686749873210:Nat:=0
noncomputable def PySem.W.Fast.tw1443356145234944732:Nat:=0
noncomputable def PySem.W.Fast.tw14993350250096139441:Nat:=0
noncomputable def PySem.W.Fast.tw8218260045160869105:Nat:=0
noncomputable def PySem.W.Fast.tw736533414826242515:Nat:=0
noncomputable def PySem.W.Fast.tw15910272533592506279:Nat:=0
noncomputable def PySem.W.Fast.tw8086293416846306179:Nat:=0
noncomputable def PySem.W.Fast.tw4745712611656998113:Nat:=0
noncomputable def PySem.W.Fast.tw55527475083826607:Nat:=0
noncomputable def PySem.W.Fast.tw15550973432653283422:Nat:=0
noncomputable def PySem.W.Fast.tw3566848136039694249:Nat:=0
noncomputable def PySem.W.Fast.tw16435827150454936559:Nat:=0
noncomputable def PySem.W.Fast.tw10422378143018193141:Nat:=0
noncomputable def PySem.W.Fast.tw509436253525542729:Nat:=0
noncomputable def PySem.W.Fast.tw13414733112291586533:Nat:=0
noncomputable def PySem.W.Fast.tw15523406724446231831:Nat:=0
noncomputable def PySem.W.Fast.tw7708594512289038258:Nat:=0
noncomputable def PySem.W.Fast.tw11466728042844658874:Nat:=0
noncomputable def PySem.W.Fast.tw13361692758036878105:Nat:=0
noncomputable def PySem.W.Fast.tw7744774577756865076:Nat:=0
noncomputable def PySem.W.Fast.tw6552885497538773847:Nat:=0
noncomputable def PySem.W.Fast.tw15189175414306262512:Nat:=0
noncomputable def PySem.W.Fast.tw1124441552303310437:Nat:=0
noncomputable def PySem.W.Fast.tw10839139089814304663:Nat:=0
noncomputable def PySem.W.Fast.tw12158924603188581373:Nat:=0
noncomputable def PySem.W.Fast.tw5018858052642366735:Nat:=0
noncomputable def PySem.W.Fast.tw5342712293589440698:Nat:=0
noncomputable def PySem.W.Fast.tw12268066629180782577:Nat:=0
noncomputable def PySem.W.Fast.tw2391070549979856846:Nat:=0
noncomputable def PySem.W.Fast.tw17481020041965420849:Nat:=0
noncomputable def PySem.W.Fast.tw5216176825758337964:Nat:=0
noncomputable def PySem.W.Fast.tw11637217010113760816:Nat:=0
noncomputable def PySem.W.Fast.tw3631170503423658881:Nat:=0
noncomputable def PySem.W.Fast.tw5751530060040384330:Nat:=0
noncomputable def PySem.W.Fast.tw18355583509625379976:Nat:=0
noncomputable def PySem.W.Fast.tw17242668797008153036:Nat:=0
noncomputable def PySem.W.Fast.tw15575973330133078448:Nat:=0
noncomputable def PySem.W.Fast.tw14353539396775646268:Nat:=0
noncomputable def PySem.W.Fast.tw968762828925642122:Nat:=0
noncomputable def PySem.W.Fast.tw6854623068911050172:Nat:=0
noncomputable def PySem.W.Fast.tw17003759684687707769:Nat:=0
noncomputable def PySem.W.Fast.tw17019749472515962099:Nat:=0
noncomputable def PySem.W.Fast.tw12825496860160226990:Nat:=0
noncomputable def PySem.W.Fast.tw4163090958113000336:Nat:=0
noncomputable def PySem.W.Fast.tw16779356200343447692:Nat:=0
noncomputable def PySem.W.Fast.tw5274143429495017685:Nat:=0
noncomputable def PySem.W.Fast.tw2789976890474790356:Nat:=0
noncomputable def PySem.W.Fast.tw16198524404348668564:Nat:=0
noncomputable def PySem.W.Fast.tw3336940248740716983:Nat:=0
noncomputable def PySem.W.Fast.tw1128560553972636876:Nat:=0
noncomputable def PySem.W.Fast.tw5521674318049823915:Nat:=0
noncomputable def PySem.W.Fast.tw13781927675369012491:Nat:=0
noncomputable def PySem.W.Fast.tw7425038555064541292:Nat:=0
noncomputable def PySem.W.Fast.tw11529914228513601945:Nat:=0
noncomputable def PySem.W.Fast.tw14640790986820354849:Nat:=0
noncomputable def PySem.W.Fast.tw9430045269390641835:Nat:=0
noncomputable def PySem.W.Fast.tw5575209861456084990:Nat:=0
noncomputable def PySem.W.Fast.tw5028487066026767025:Nat:=0
noncomputable def PySem.W.Fast.tw1310685858620924413:Nat:=0
noncomputable def PySem.W.Fast.tw12654894030060232967:Nat:=0
open PySem PySem.W PyProof.Rows
set_option maxRecDepth 100000 in
set_option maxHeartbeats 0 in
theorem PySem.Challenge.cw_roundlap_k01_loops_holds : PySem.Challenge.rw_roundlap_k01_loops.Holds := by
 w_on; o_law; k_head; (case hw=>w_witness2)
 k_fill
 refine EV.yL (l:=PySem.Challenge.rw_roundlap_k01_loops) (fns:=K01.fns) (vals:=K01.vals) (cls:=K01.cls) (Pd:=K01.Pd) (sub:=fun _ _=>false) (n:=30) (st:=K01.top 39) (x:="_law_script") rfl rfl ⟨rfl,by decide,by decide⟩ (fun w h Y=>PySem.W.kIn_of Y) K01.hP rfl rfl ?T K01.main
 case T =>
  intro w h KX
  refine ⟨?_,?_,?_,?_⟩
  ·unfold K01.fns
   repeat (apply EV.dj.cons; k_is; k_is; k_is; k_is)
   exact EV.dj.nil
  ·unfold K01.vals
   repeat first
    | (apply EV.cu.flat; k_is; constructor)
    | (apply EV.cu.tup; k_is; k_is; decide; (focus (repeat' constructor)))
   exact EV.cu.nil
  ·unfold K01.cls
   repeat first
    | (apply EV.bP.cons; k_is; k_exc; kit_is; k_is; kit_is; decide +kernel)
    | (apply EV.bP.consN; k_is; k_exc; kit_is; k_is; kit_is; k_is)
    | (apply EV.bP.consP; k_is; k_exc; kit_is; k_is; kit_is; k_is; kit_is; k_is; k_is; k_is; k_is; k_is; k_is; k_is)
   exact EV.bP.nil
  ·refine fun x hx _=>EV.dH.get (l:=EV.dJ) ?hNone0 hx
   unfold EV.dJ
   repeat (apply EV.dH.cons; k_is)
   exact EV.dH.nil
end
