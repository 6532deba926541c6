import PyProof.Rows.All
import Wide.All
import OpenK.AllK
import Wide.FinOn
import Lean
import PyProof.EqAt
import PyProof.EqKinds
import PyProof.TupleCall
import PyProof.ListRange
import PyProof.TupleOfSeq
import PySem.SetTable
import PyProof.SetScanFacts
import PyProof.TupleKey
import PyProof.SetKind
import PyProof.IsRules
import PyProof.DictKinds
import PyProof.InstSpecial
import PyProof.Rows.SetFrom
import PyProof.WalksS
import PyProof.Walks
import PyProof.Seq
import PyProof.FactsAll.set_1
import PyProof.Comp
import PyProof.CollectWalk
import PyProof.SetNew
import PyProof.FactsAll.set_2
import PyProof.Rows.SortShellK
import PyProof.Rows.SortWalk
import PyProof.ZipIter
import PySem.Str
import PySem.Eval
import PySem.Challenge.RW_roundlap_k02_answers
set_option genSizeOfSpec false
set_option bootstrap.genMatcherCode false
noncomputable section
set_option Elab.async false
set_option linter.all false
set_option maxRecDepth 100000
namespace L2
open PySem PySem.Spec PyProof.Rows
abbrev Key:=Sum Int Str
noncomputable def f9:Key->Value->Bool
 | .inl k,v=>Value.isInt k v
 | .inr x,v=>Value.isStrOf x v
noncomputable def yQ (w:World):Key->Int
 | .inl k=>hashInt k
 | .inr x=>hashStr w x
theorem dS:∀ {k:Key} {v:Value},f9 k v=true->(∃ i t,k=Sum.inl i/\v=Value.int i t)\/(∃ x t,k=Sum.inr x/\v=Value.str x t)
 | .inl i,v,h=>by
  obtain ⟨t,e⟩:=Value.isInt_shape (k:=i) (v:=v) h
  exact .inl ⟨i,t,rfl,e⟩
 | .inr x,v,h=>by
  obtain ⟨t,e⟩:=Value.isStrOf_shape (x:=x) (v:=v) h
  exact .inr ⟨x,t,rfl,e⟩
theorem Eh (i:Int) (t:Tok):f9 (.inl i) (.int i t)=true:=by simp [f9,Value.isInt]
theorem uD (x:Str) (t:Tok):f9 (.inr x) (.str x t)=true:=by simp [f9,Value.isStrOf]
theorem C6 (a b:Int):decide ((Sum.inl a:Key)=Sum.inl b)=(a==b):=by
 by_cases e:a=b
 ·subst e; simp
 ·have h:¬ (Sum.inl a:Key)=Sum.inl b:=fun q=>e (Sum.inl.inj q)
  rw [decide_eq_false h]
  exact (beq_eq_false_iff_ne.mpr e).symm
theorem Ar (a b:Str):decide ((Sum.inr a:Key)=Sum.inr b)=decide (a=b):=by
 by_cases e:a=b
 ·subst e; simp
 ·have h:¬ (Sum.inr a:Key)=Sum.inr b:=fun q=>e (Sum.inr.inj q)
  rw [decide_eq_false h,decide_eq_false e]
theorem uv (a:Int) (b:Str):decide ((Sum.inl a:Key)=Sum.inr b)=false:=decide_eq_false (fun q=>nomatch q)
theorem Aq (a:Str) (b:Int):decide ((Sum.inr a:Key)=Sum.inl b)=false:=decide_eq_false (fun q=>nomatch q)
noncomputable def b7 (prog:Program) (w:World):PySem.KeyKind prog w Key where
 is:=f9
 hash:=yQ w
 inj:=fun v a b ha hb=>by
  rcases dS ha with ⟨i,t,rfl,rfl⟩|⟨x,t,rfl,rfl⟩
  ·rcases dS hb with ⟨j,u,rfl,e⟩|⟨y,u,rfl,e⟩
   ·injection e with e1 _; rw [e1]
   ·exact nomatch e
  ·rcases dS hb with ⟨j,u,rfl,e⟩|⟨y,u,rfl,e⟩
   ·exact nomatch e
   ·injection e with e1 _; rw [e1]
 byValue:=fun k v h=>by
  rcases dS h with ⟨i,t,rfl,rfl⟩|⟨x,t,rfl,rfl⟩ <;> rfl
 pyHash:=fun hv h=>by
  rcases dS hv with ⟨i,t,rfl,rfl⟩|⟨x,t,rfl,rfl⟩
  ·exact wpAny_pyHash_int h
  ·exact wpAny_pyHash_str h
 eqBool:=fun hu hv h=>by
  rcases dS hu with ⟨i,t,rfl,rfl⟩|⟨x,t,rfl,rfl⟩
  ·rcases dS hv with ⟨j,u,rfl,rfl⟩|⟨y,u,rfl,rfl⟩
   ·rw [C6] at h; exact wpAny_eqBool_int h
   ·rw [uv] at h; exact SeqAt.EqAt.int_str i t y u _ _ _ _ h
  ·rcases dS hv with ⟨j,u,rfl,rfl⟩|⟨y,u,rfl,rfl⟩
   ·rw [Aq] at h; exact SeqAt.EqAt.str_int x t j u _ _ _ _ h
   ·rw [Ar] at h; exact wpAny_eqBool_str h
 «strs»:=fun k x t v h=>by
  rcases dS h with ⟨i,u,rfl,e⟩|⟨y,u,rfl,e⟩
  ·exact nomatch e
  ·injection e with e1 _
   subst e1
   cases v <;> rfl
theorem vG (prog:Program) (w:World) (i:Int) (t:Tok):(b7 prog w).is (.inl i) (.int i t)=true:=Eh i t
theorem vO (prog:Program) (w:World) (x:Str) (t:Tok):(b7 prog w).is (.inr x) (.str x t)=true:=uD x t
end L2
namespace L2
open PySem PySem.Spec PyProof.Rows
inductive V where
 | non|bl (b:Bool)|int (i:Int)|str (x:Str)|byt (b:Array UInt8)|flt (b:UInt64)|ref (a:Addr)|ty (n:String)
 deriving DecidableEq
noncomputable def RelV:V->Value->Prop
 | .non,u=>u=Value.none
 | .bl b,u=>u=Value.bool b
 | .int i,u=>∃ t,u=Value.int i t
 | .str x,u=>∃ t,u=Value.str x t
 | .byt b,u=>∃ t,u=Value.bytes b t
 | .flt b,u=>∃ t,u=Value.float b t
 | .ref a,u=>u=Value.ref a
 | .ty n,u=>u=Value.type n
abbrev Vals:List V->List Value->Prop:=Paired RelV
theorem Vals.length {xs:List V} {us:List Value} (r:Vals xs us):xs.length=us.length:=Paired.length r
theorem Vals.get:∀ {xs:List V} {us:List Value} {i:Nat} {x:V},Vals xs us->xs[i]?=some x->∃ u,us[i]?=some u/\RelV x u
 | _,_,_,_,.nil,e=>by simp at e
 | _,_,0,_,.cons r _,e=>by simp at e; subst e; exact ⟨_,rfl,r⟩
 | _,_,i+1,x,.cons _ t,e=>by
  obtain ⟨u,h1,h2⟩:=Vals.get (i:=i) (x:=x) t (by simpa using e)
  exact ⟨u,by simpa using h1,h2⟩
theorem Vals.set {x:V} {u:Value} (r:RelV x u):∀ {xs:List V} {us:List Value} (i:Nat),Vals xs us->Vals (xs.set i x) (us.set i u)
 | _,_,_,.nil=>.nil
 | _,_,0,.cons _ t=>.cons r t
 | _,_,i+1,.cons q t=>.cons q (Vals.set r i t)
theorem Vals.append:∀ {xs ys:List V} {us ws:List Value},Vals xs us->Vals ys ws->Vals (xs++ys) (us++ws)
 | _,_,_,_,.nil,s=>s
 | _,_,_,_,.cons r t,s=>.cons r (Vals.append t s)
theorem Vals.take:∀ {xs:List V} {us:List Value} (n:Nat),Vals xs us->Vals (xs.take n) (us.take n)
 | _,_,0,_=>.nil
 | _,_,_+1,.nil=>.nil
 | _,_,n+1,.cons r t=>.cons r (Vals.take n t)
theorem Vals.drop:∀ {xs:List V} {us:List Value} (n:Nat),Vals xs us->Vals (xs.drop n) (us.drop n)
 | _,_,0,r=>r
 | _,_,_+1,.nil=>.nil
 | _,_,n+1,.cons _ t=>Vals.drop n t
noncomputable def dh:Option V->Option Value->Prop
 | some v,some u=>RelV v u
 | none,none=>True
 | _,_=>False
noncomputable def KV {κ:Type}:List (κ × V)->List (κ × Value)->Prop:=Paired fun (p:κ × V) (q:κ × Value)=>p.1=q.1/\RelV p.2 q.2
noncomputable def kV:Key->V
 | .inl i=>.int i
 | .inr x=>.str x
inductive HO where
 /-- a list -/
 | lst (xs:List V)
 /-- a tuple (never changes) -/
 | tup (xs:List V)
 /-- a dict whose keys are ints and texts; one whose keys are tuples of ints and texts (the empty one is both) -/
 | dK (kvs:List (Key × V))|dT (kvs:List (List Key × V))
 /-- a set of ints: its members,its size -/
 | set (S:Int->Bool) (n:Nat)
 /-- an instance of the class at C,its dict at dx,its attributes -/
 | ins (C dx:Addr) (fs:List (Str × V))
 /-- the dict of the instance at x -/
 | own (x:Addr)
 /-- the dict of an exception -/
 | xd (fs:List (Str × V))
 /-- a bound method,f of x -/
 | met (f x:Addr)
 /-- a range object lo,lo+1,.. below hi -/
 | rng (lo hi:Int)
 /-- a thing that is known to the object (the script; a dict while a loop walks it): read,never written while it is so -/
 | frz (o:Obj) (u:HO)
 /-- a code object's table -/
 | tbl (ps:Array Value)
 /-- any other thing,by what is true of its one object (a def of one's own: SetO a S n:=HO.ext fun h=>..) -/
 | ext (φ:Heap->Prop)
abbrev Hp:=Addr->Option HO
noncomputable def upd (H:Hp) (a:Addr) (o:HO):Hp:=fun b=>if b=a then some o else H b
theorem bU {H:Hp} {a:Addr} {o:HO}:upd H a o a=some o:=by unfold upd; rw [if_pos rfl]
theorem aB {H:Hp} {a b:Addr} {o:HO} (h:b≠a):upd H a o b=H b:=by unfold upd; rw [if_neg h]
theorem lM {H:Hp} {a b:Addr} {o u:HO} (h:H a=some o) (h':H b=some u) (d:o≠u):a≠b:=by
 intro e; subst e; rw [h] at h'; exact d (Option.some.inj h')
theorem aT {H:Hp} {a b:Addr} {o:HO} (h:H a=some o) (h':H b=none):a≠b:=by
 intro e; subst e; rw [h] at h'; cases h'
section
variable (P:Program) (w:World)
noncomputable def bg (H:Hp) (h:Heap) (a:Addr):HO->Prop
 | .lst xs=>xs.length<=sizeLine/\∃ (its:List Value) (n:Nat),Vals xs its/\h.get? a=some { cls:=.type "list",data:=.seq its.toArray n }
 | .tup xs=>xs.length<=sizeLine/\∃ its:List Value,Vals xs its/\IsTup h a its.toArray
 | .dK kvs=>kvs.length<=sizeLine/\(a==sysModules)=false/\∃ vs,KV kvs vs/\h.DictOf (b7 P w) a vs
 | .dT kvs=>kvs.length<=sizeLine/\(a==sysModules)=false/\∃ xs:List (List Key × Addr × Value),
   Paired (fun (p:List Key × V) (q:List Key × Addr × Value)=>p.1=q.1/\H q.2.1=some (.tup (p.1.map kV))/\RelV p.2 q.2.2) kvs xs /\
   ∃ o es ep,h.get? a=some o/\o.ExactDict/\o.data=.dict es ep/\es.toList=xs.map (entryOfKey (tupleKind (b7 P w)))/\(xs.map (·.1)).Nodup
 | .set S n=>h.SetOf (intKind P w) a S n
 | .ins C dx fs=>H dx=some (.own a)/\fs.length<=1000/\dx≠a/\h.get? a=some (PySem.W.instObj C dx) /\
   ∃ mA,h.Ns1 dx mA/\(∀ f,dh (fs.lookup f) (mA f))/\PySem.Within mA (fs.map (·.1))
 | .own _=>∃ o,h.get? a=some o
 | .xd fs=>∃ mA,h.Ns1 a mA/\∀ f,dh (fs.lookup f) (mA f)
 | .rng lo hi=>∃ t u v,h.get? a=some { cls:=.type "range",data:=.fields #[.int lo t,.int hi u,.int 1 v] }
 | .frz o u=>h.get? a=some o/\bg H h a u
 | .tbl ps=>h.get? a=some { cls:=.none,data:=.fields ps }
 | .met f x=>h.get? a=some (PySem.W.methodObj (.ref f) (.ref x))
 | .ext φ=>φ h/\(∃ o,h.get? a=some o)/\∀ h1 h2:Heap,φ h1->(∀ o,h1.get? a=some o->h2.get? a=some o)->φ h2
noncomputable def HOk (H:Hp) (h:Heap):Prop:=∀ a o,H a=some o->bg P w H h a o
end
section
variable {P:Program} {w:World} {H H':Hp} {h h':Heap} {a:Addr} {o:HO}
theorem bg.lt (x:bg P w H h a o):a < h.objs.size:=by
 cases o with
 | lst xs=>obtain ⟨_,_,_,_,e⟩:=x; exact Heap.lt_size e
 | tup xs=>obtain ⟨_,_,_,p⟩:=x; exact p.lt
 | dK kvs=>obtain ⟨_,_,_,_,o,_,_,e,_⟩:=x; exact Heap.lt_size e
 | dT kvs=>obtain ⟨_,_,_,_,o,_,_,e,_⟩:=x; exact Heap.lt_size e
 | set S n=>obtain ⟨o,_,_,_,e,_⟩:=x; exact Heap.lt_size e
 | ins C dx fs=>obtain ⟨_,_,_,e,_⟩:=x; exact Heap.lt_size e
 | own y=>obtain ⟨_,e⟩:=x; exact Heap.lt_size e
 | xd fs=>obtain ⟨_,⟨_,_,_,e,_⟩,_⟩:=x; exact Heap.lt_size e
 | rng lo hi=>obtain ⟨_,_,_,e⟩:=x; exact Heap.lt_size e
 | frz ob u=>obtain ⟨e,_⟩:=x; exact Heap.lt_size e
 | tbl ps=>exact Heap.lt_size (show h.get? a=some _ from x)
 | met f y=>exact Heap.lt_size (show h.get? a=some _ from x)
 | ext φ=>obtain ⟨_,⟨_,e⟩,_⟩:=x; exact Heap.lt_size e
theorem Paired.mD {α β:Type} {F G:α->β->Prop}:∀ {l₁:List α} {l₂:List β},Paired F l₁ l₂->(∀ a b,F a b->G a b)->Paired G l₁ l₂
 | _,_,.nil,_=>.nil
 | _,_,.cons r t,f=>.cons (f _ _ r) (Paired.mD t f)
theorem bg.stay (x:bg P w H h a o) (k:∀ b u,(b=a\/H b=some (.own a))->h.get? b=some u->h'.get? b=some u)
  (ho:∀ b,H b=some (.own a)->H' b=some (.own a)) (ht:∀ b xs,H b=some (.tup xs)->H' b=some (.tup xs)):bg P w H' h' a o:=by
 induction o with
 | lst xs=>obtain ⟨z,its,n,r,e⟩:=x; exact ⟨z,its,n,r,k _ _ (.inl rfl) e⟩
 | tup xs=>obtain ⟨z,its,r,ob,e,c⟩:=x; exact ⟨z,its,r,ob,k _ _ (.inl rfl) e,c⟩
 | dK kvs=>obtain ⟨z,y,vs,r,ob,es,ep,e,c⟩:=x; exact ⟨z,y,vs,r,ob,es,ep,k _ _ (.inl rfl) e,c⟩
 | dT kvs =>
  obtain ⟨z,y,xs,r,ob,es,ep,e,c⟩:=x
  exact ⟨z,y,xs,Paired.mD r fun p q z=>⟨z.1,ht _ _ z.2.1,z.2.2⟩,ob,es,ep,k _ _ (.inl rfl) e,c⟩
 | set S n=>obtain ⟨ob,es,ep,t,e,c⟩:=x; exact ⟨ob,es,ep,t,k _ _ (.inl rfl) e,c⟩
 | ins C dx fs =>
  obtain ⟨d,z,ne,e,mA,⟨od,es,ep,e2,c⟩,r⟩:=x
  exact ⟨ho _ d,z,ne,k _ _ (.inl rfl) e,mA,⟨od,es,ep,k _ _ (.inr d) e2,c⟩,r⟩
 | own y=>obtain ⟨ob,e⟩:=x; exact ⟨ob,k _ _ (.inl rfl) e⟩
 | xd fs=>obtain ⟨mA,⟨od,es,ep,e,c⟩,r⟩:=x; exact ⟨mA,⟨od,es,ep,k _ _ (.inl rfl) e,c⟩,r⟩
 | rng lo hi=>obtain ⟨t,u,v,e⟩:=x; exact ⟨t,u,v,k _ _ (.inl rfl) e⟩
 | frz ob u ih=>obtain ⟨e,q⟩:=x; exact ⟨k _ _ (.inl rfl) e,ih q⟩
 | tbl ps =>
  have e:h.get? a=some { cls:=.none,data:=.fields ps }:=x
  show h'.get? a=some { cls:=.none,data:=.fields ps }
  exact k a _ (.inl rfl) e
 | met f y =>
  have e:h.get? a=some (PySem.W.methodObj (.ref f) (.ref y)):=x
  show h'.get? a=some (PySem.W.methodObj (.ref f) (.ref y))
  exact k a _ (.inl rfl) e
 | ext φ=>obtain ⟨p,⟨o,e⟩,st⟩:=x; exact ⟨st _ _ p fun o q=>k _ _ (.inl rfl) q,⟨o,k _ _ (.inl rfl) e⟩,st⟩
theorem HOk.lt (x:HOk P w H h) (e:H a=some o):a < h.objs.size:=(x a o e).lt
theorem HOk.fresh (x:HOk P w H h) (e:h.objs.size<=a):H a=none:=by
 cases q:H a with
 | none=>rfl
 | some u=>exact absurd (Nat.lt_of_lt_of_le (x.lt q) e) (Nat.lt_irrefl _)
theorem HOk.kept (x:HOk P w H h) (k:∀ b u,h.get? b=some u->h'.get? b=some u):HOk P w H h':=fun a o e =>
 (x a o e).stay (fun b u _ q=>k b u q) (fun _ q=>q) fun _ _ q=>q
theorem HOk.laid (x:HOk P w H h) (k:∀ b u,h.get? b=some u->h'.get? b=some u) (hp:h.objs.size<=a) (new:bg P w (upd H a o) h' a o):HOk P w (upd H a o) h':=fun b u e=>by
 have hn:=x.fresh hp
 by_cases hb:b=a
 ·subst hb; rw [bU] at e; cases e; exact new
 ·rw [aB hb] at e
  exact (x b u e).stay (fun c v _ q=>k c v q) (fun c q=>by rw [aB (aT q hn)]; exact q) fun c xs q=>by rw [aB (aT q hn)]; exact q
end
noncomputable def Rd (H:Hp) (a:Addr) (u:HO):Prop:=H a=some u\/∃ o,H a=some (.frz o u)
theorem Rd.ok {P:Program} {w:World} {H:Hp} {h:Heap} {a:Addr} {u:HO} (r:Rd H a u) (x:HOk P w H h):bg P w H h a u:=by
 rcases r with r|⟨o,r⟩
 ·exact x a u r
 ·obtain ⟨_,q⟩:=x a _ r
  exact q
noncomputable def Mut:Option HO->Prop
 | some (.lst _)=>True
 | some (.dK _)=>True
 | some (.dT _)=>True
 | some (.set _ _)=>True
 | some (.ins _ _ _)=>True
 | some (.ext _)=>True
 | _=>False
section
variable {P:Program} {w:World} {H:Hp} {h h':Heap} {x e:Addr} {o':HO}
theorem HOk.write (ok:HOk P w H h) (mu:Mut (H x)) (he:e=x\/H e=some (.own x)) (k:∀ b u,b≠e->h.get? b=some u->h'.get? b=some u) (heo:∃ u,h'.get? e=some u)
  (new:bg P w (upd H x o') h' x o'):HOk P w (upd H x o') h':=fun b u q=>by
 have nown:∀ c y,H c=some (.own y)->c≠x:=fun c y r z=>by subst z; rw [r] at mu; exact mu
 have ntup:∀ c xs,H c=some (.tup xs)->c≠x:=fun c xs r z=>by subst z; rw [r] at mu; exact mu
 by_cases hb:b=x
 ·subst hb; rw [bU] at q; cases q; exact new
 ·rw [aB hb] at q
  by_cases hbe:b=e
  ·have q':H b=some (.own x):=by
    rcases he with z|z
    ·exact absurd (hbe.trans z) hb
    ·rw [hbe]; exact z
   rw [q] at q'; cases q'
   obtain ⟨v,hv⟩:=heo
   exact ⟨v,by rw [hbe]; exact hv⟩
  ·refine (ok b u q).stay (fun c v hc r=>k c v ?_ r) (fun c r=>by rw [aB (nown c b r)]; exact r) fun c xs r=>by rw [aB (ntup c xs r)]; exact r
   rcases hc with rfl|hc
   ·exact hbe
   ·rintro rfl
    rcases he with z|z
    ·exact nown c b hc z
    ·rw [hc] at z; cases z; exact hb rfl
end
structure Un (fs ex:List Addr) (H H':Hp) (h h':Heap):Prop where
 keep:∀ b o,h.get? b=some o->H b=none->b ∉ fs->b ∉ ex->h'.get? b=some o
 slot:∀ b o,h.get? b=some o->H b=none->b∈fs->b ∉ ex->∃ sl,h'.get? b=some { o with slots:=sl }
 free:∀ b o,h.get? b=some o->H b=none->b ∉ ex->H' b=none
 there:∀ b o,h.get? b=some o->b ∉ ex->∃ o',h'.get? b=some o'
 tups:∀ b xs,H b=some (.tup xs)->H' b=some (.tup xs)
 frzs:∀ b o u,H b=some (.frz o u)->H' b=some (.frz o u)
 tbls:∀ b ps,H b=some (.tbl ps)->∃ more,H' b=some (.tbl (ps++more))
section
variable {fs fs' ex ex':List Addr} {H H1 H2:Hp} {h h1 h2 h':Heap} {a x e:Addr} {o:HO}
theorem Un.any (u:Un fs ex H H1 h h1) {b:Addr} {ob:Obj} (q:h.get? b=some ob) (n:H b=none) (hx:b ∉ ex):∃ sl,h1.get? b=some { ob with slots:=sl }:=by
 by_cases hb:b∈fs
 ·exact u.slot b ob q n hb hx
 ·exact ⟨ob.slots,u.keep b ob q n hb hx⟩
theorem Un.kept (k:∀ b u,h.get? b=some u->h'.get? b=some u):Un fs ex H H h h' :=
 ⟨fun b ob q _ _ _=>k b ob q,fun b ob q _ _ _=>⟨ob.slots,k b ob q⟩,fun _ _ _ n _=>n,fun b ob q _=>⟨ob,k b ob q⟩,fun _ _ q=>q,fun _ _ _ q=>q,fun _ ps q=>⟨#[],by rw [q]; simp⟩⟩
theorem Un.refl:Un fs ex H H h h:=Un.kept fun _ _ q=>q
theorem Un.laid (k:∀ b u,h.get? b=some u->h'.get? b=some u) (hp:h.objs.size<=a) (hn:H a=none):Un fs ex H (upd H a o) h h' where
 keep:=fun b u q _ _ _=>k b u q
 slot:=fun b u q _ _ _=>⟨u.slots,k b u q⟩
 free:=fun b u q n _=>by rw [aB (Nat.ne_of_lt (Nat.lt_of_lt_of_le (Heap.lt_size q) hp))]; exact n
 there:=fun b u q _=>⟨u,k b u q⟩
 tups:=fun b xs q=>by rw [aB (aT q hn)]; exact q
 frzs:=fun b u xs q=>by rw [aB (aT q hn)]; exact q
 tbls:=fun b ps q=>⟨#[],by rw [aB (aT q hn),q]; simp⟩
theorem Un.write (mu:Mut (H x)) (he:e=x\/H e=some (.own x)) (k:∀ b u,b≠e->h.get? b=some u->h'.get? b=some u) (heo:∃ u,h'.get? e=some u):Un fs ex H (upd H x o) h h':=by
 have hx:∀ b,H b=none->b≠x:=fun b n z=>by subst z; rw [n] at mu; exact mu
 have hb:∀ b,H b=none->b≠e:=fun b n z=>by
  subst z
  rcases he with r|r
  ·exact hx b n r
  ·rw [n] at r; cases r
 have hm:∀ b u,H b=some u->¬ Mut (some u)->b≠x:=fun b u q nm z=>by subst z; rw [q] at mu; exact nm mu
 refine ⟨fun b u q n _ _=>k b u (hb b n) q,fun b u q n _ _=>⟨u.slots,k b u (hb b n) q⟩,fun b u q n _=>by rw [aB (hx b n)]; exact n,fun b u q _=>?_,
  fun b xs q=>by rw [aB (hm b _ q fun z=>z)]; exact q,fun b u xs q=>by rw [aB (hm b _ q fun z=>z)]; exact q,fun b ps q=>⟨#[],by rw [aB (hm b _ q fun z=>z),q]; simp⟩⟩
 by_cases hbe:b=e
 ·subst hbe; exact heo
 ·exact ⟨u,k b u hbe q⟩
end
noncomputable def trk (h:Heap) (H:Hp):List Addr:=(List.range h.objs.size).filter fun a=>(H a).isSome
noncomputable def dW (h:Heap) (H:Hp):Heap:=PySem.W.hideAll h (trk h H)
theorem uU (h:Heap) (H:Hp):(dW h H).objs.size=h.objs.size:=PySem.W.hideAll_size _ _
theorem Bb {h:Heap} {H:Hp} {b:Addr} {o:Obj} (e:h.get? b=some o) (n:H b=none):(dW h H).get? b=some o :=
 PySem.W.hideAll_get _ e fun hm=>by
  have q:(H b).isSome=true:=(List.mem_filter.mp hm).2
  rw [n] at q; simp at q
theorem CQ {h:Heap} {H:Hp} {b:Addr} {o:Obj} (e:(dW h H).get? b=some o):h.get? b=some o/\H b=none:=by
 have e':h.get? b=some o:=PySem.W.of_hideAll (trk h H) e
 refine ⟨e',?_⟩
 cases q:H b with
 | none=>rfl
 | some x =>
  have hm:b∈trk h H:=List.mem_filter.mpr ⟨List.mem_range.mpr (Heap.lt_size e'),by simp [q]⟩
  have z:(dW h H).get? b=none:=PySem.W.hideAll_none (trk h H) hm
  rw [z] at e; cases e
end L2
namespace L2
open PySem PySem.Spec PyProof.Rows
structure Mod (K:PySem.W.Frag) (mg:Str->Option Value) (base:Heap):Prop where
 kin:K.In base
 glob:base.Ns mainGlobals mg
 blt:∃ mb,base.Ns builtinsNs mb/\∀ x:Str,x≠"__name__"->mb x=bootBuiltins x
 nolimit:base.NoLimit
structure Cx where
 prog:Program
 w:World
 K:PySem.W.Frag
 mg:Str->Option Value
 base:Heap
 A:Around
 N:List Str
 s₀:Shared
 H₀:Hp
 env:Env
 outer:List Env
 stack:List Env
 ex:List Addr
 fn:Str->Bool
 calm:Bool
 pn:List (Addr × Obj)
 xe:Value->Shared->Prop
noncomputable def frs (l:List Env):List Addr:=l.filterMap (·.frame)
abbrev Cx.fs (X:Cx):List Addr:=frs X.outer
noncomputable def Vis (sc:Scope) (x:Str):Prop:=sc.names.lookup x=some .local\/sc.names.lookup x=some .cell\/sc.names.lookup x=some .free
noncomputable def Loc (sc:Scope) (x:Str):Prop:=sc.names.lookup x=some .local\/sc.names.lookup x=some .cell
noncomputable def Look (env:Env) (h:Heap) (m:Str->Option Value) (x:Str) (u:Value):Prop :=
 (env.kindOf x=some .local/\m x=some u)\/((env.kindOf x=some .cell\/env.kindOf x=some .free)/\∃ c,env.cells.lookup x=some c/\h.IsCell c (some u))
structure Cx.Ok (X:Cx):Prop where
 mod:Mod X.K X.mg X.base
 kind:X.env.scope.kind=.function
 glob:X.env.globals=mainGlobals
 blt:X.env.builtins=builtinsNs
 above:X.s₀.heap.objs.size<=X.env.locals
 inj:∀ x y c,X.env.cells.lookup x=some c->X.env.cells.lookup y=some c->x=y
 has:∀ x,(X.env.kindOf x=some .cell\/X.env.kindOf x=some .free)->∃ c,X.env.cells.lookup x=some c
 cab:∀ x c,X.fn x=true->X.env.cells.lookup x=some c->X.s₀.heap.objs.size<=c
 hd:X.calm=true->X.A.handled=none
 frames:X.A.frames=some X.stack
 stk:X.stack=X.outer\/(X.stack=X.env::X.outer/\X.env.frame=some X.env.locals)
 exf:∀ b∈X.ex,b≠X.env.locals/\∀ x c,X.env.cells.lookup x=some c->c≠b
 bs:∀ b o,X.base.get? b=some o->X.s₀.heap.get? b=some o/\X.H₀ b=none
 bsz:X.base.objs.size<=X.s₀.heap.objs.size
 noex:∀ b o,X.base.get? b=some o->b ∉ X.ex
 exfs:∀ b∈X.ex,b ∉ X.fs
 cP:X.s₀.heap.FunFrames X.base X.outer
 frf:∀ b∈X.fs,X.H₀ b=none
structure Inv (X:Cx) (pins:List (Addr × Obj)) (σ:List (Option V)) (H:Hp) (s:Shared):Prop where
 ok:X.Ok
 os:s.os=X.s₀.os
 bare:AllBare s.gens
 base:Un X.fs X.ex X.H₀ H X.s₀.heap s.heap
 loc:∃ m,s.heap.Ns X.env.locals m/\∀ (i:Nat) (x:Str) (v:V),X.N[i]?=some x->σ[i]?=some (some v)->Vis X.env.scope x->∃ u,RelV v u/\Look X.env s.heap m x u
 cell:∀ x c,X.env.cells.lookup x=some c->∃ v,s.heap.IsCell c v
 free:H X.env.locals=none
 freeC:∀ x c,X.env.cells.lookup x=some c->H c=none
 pin:∀ p∈X.pn++pins,s.heap.get? p.1=some p.2/\H p.1=none/\p.1≠X.env.locals/\p.1 ∉ X.fs/\∀ v,p.2.data≠.cell v
 hok:HOk X.prog X.w H s.heap
 len:σ.length=X.N.length
section
variable {X:Cx} {pins:List (Addr × Obj)} {σ:List (Option V)} {H H':Hp} {s:Shared} {h':Heap}
theorem Cx.Ok.DX (ok:X.Ok) {b:Addr} {o:Obj} (e:X.base.get? b=some o):b ∉ X.fs:=fun hb=>by
 have:=(ok.cP.mem hb).1
 rw [e] at this; cases this
theorem Inv.bs (I:Inv X pins σ H s):∀ b o,X.base.get? b=some o->s.heap.get? b=some o/\H b=none:=fun b o e =>
 ⟨I.base.keep b o (I.ok.bs b o e).1 (I.ok.bs b o e).2 (I.ok.DX e) (I.ok.noex b o e),I.base.free b o (I.ok.bs b o e).1 (I.ok.bs b o e).2 (I.ok.noex b o e)⟩
theorem Inv.bk (I:Inv X pins σ H s):∀ b o,X.base.get? b=some o->s.heap.get? b=some o:=fun b o e=>(I.bs b o e).1
theorem Inv.mod (I:Inv X pins σ H s):Mod X.K X.mg X.base:=I.ok.mod
theorem Inv.kIn (I:Inv X pins σ H s):X.K.In s.heap:=I.ok.mod.kin.keeps I.bk
theorem Inv.lt (I:Inv X pins σ H s):X.env.locals < s.heap.objs.size:=let ⟨_,hn,_⟩:=I.loc; hn.lt
theorem Inv.sz (I:Inv X pins σ H s):X.s₀.heap.objs.size<=s.heap.objs.size:=Nat.le_trans I.ok.above (Nat.le_of_lt I.lt)
theorem Inv.zz (I:Inv X pins σ H s) {a:Addr} (h:s.heap.objs.size<=a):a ∉ X.fs:=fun hb=>by
 obtain ⟨_,o,ho,_⟩:=I.ok.cP.mem hb
 exact absurd (Nat.lt_of_lt_of_le (Heap.lt_size ho) (Nat.le_trans I.sz h)) (Nat.lt_irrefl _)
theorem Inv.cne (I:Inv X pins σ H s):∀ x c,X.env.cells.lookup x=some c->c≠X.env.locals:=fun x c e z=>by
 obtain ⟨v,o,ho,hd⟩:=I.cell x c e
 obtain ⟨m,⟨o',es,ep,ho',hd',_⟩,_⟩:=I.loc
 rw [z,ho'] at ho; cases ho; rw [hd'] at hd; cases hd
theorem Inv.cP (I:Inv X pins σ H s):s.heap.FunFrames X.base X.outer:=by
 have all:∀ (l:List Env),(∀ b∈frs l,b∈X.fs)->X.s₀.heap.FunFrames X.base l->s.heap.FunFrames X.base l:=by
  intro l
  induction l with
  | nil=>intro _ _; trivial
  | cons env r ih =>
   intro hs hl
   obtain ⟨hk,⟨L,o,hf,hn,ho,hd⟩,hr⟩:=hl
   have hL:L∈X.fs:=hs L (by unfold frs; rw [List.filterMap_cons,hf]; exact List.mem_cons_self)
   obtain ⟨sl,e⟩:=I.base.slot L o ho (I.ok.frf L hL) hL fun z=>I.ok.exfs L z hL
   exact ⟨hk,⟨L,_,hf,hn,e,hd⟩,ih (fun b hb=>hs b (by unfold frs; rw [List.filterMap_cons,hf]; exact List.mem_cons_of_mem _ hb)) hr⟩
 exact all X.outer (fun _ hb=>hb) I.ok.cP
theorem Inv.stack (I:Inv X pins σ H s):s.heap.FunFrames X.base X.stack:=by
 rcases I.ok.stk with e|⟨e,hf⟩
 ·rw [e]; exact I.cP
 ·rw [e]
  obtain ⟨m,hn,_⟩:=I.loc
  refine .cons (by rw [I.ok.kind]; decide) hf hn ?_ I.cP
  exact Heap.get?_none_of_le (Nat.le_trans I.ok.bsz I.ok.above)
theorem Inv.j3 (I:Inv X pins σ H s):∀ b∈frs X.stack,b∈X.env.locals::X.fs:=fun b hb=>by
 rcases I.ok.stk with e|⟨e,hf⟩
 ·rw [e] at hb; exact List.mem_cons_of_mem _ hb
 ·rw [e] at hb
  unfold frs at hb
  rw [List.filterMap_cons,hf] at hb
  exact hb
theorem Inv.pQ (I:Inv X pins σ H s):∀ b∈frs X.stack,H b=none:=fun b hb=>by
 rcases List.mem_cons.mp (I.j3 b hb) with e|hb
 ·rw [e]; exact I.free
 ·obtain ⟨_,o,ho,_⟩:=I.ok.cP.mem hb
  exact I.base.free b o ho (I.ok.frf b hb) fun z=>I.ok.exfs b z hb
theorem Inv.step {g':Array GenState} {t':Nat} {d':Drawn} {ch:List Addr} (I:Inv X pins σ H s)
  (hch:∀ b∈ch,(b∈X.ex\/X.s₀.heap.objs.size<=b)/\b≠X.env.locals/\(∀ x c,X.env.cells.lookup x=some c->c≠b)/\∀ p∈X.pn++pins,p.1≠b)
  (keep:∀ b o,b≠X.env.locals->b ∉ X.fs->b ∉ ch->s.heap.get? b=some o->H b=none->h'.get? b=some o)
  (slot:∀ b o,b≠X.env.locals->b∈X.fs->b ∉ ch->s.heap.get? b=some o->H b=none->∃ sl,h'.get? b=some { o with slots:=sl }) (free:∀ b o,b ∉ ch->s.heap.get? b=some o->H b=none->H' b=none)
  (there:∀ b o,b ∉ ch->s.heap.get? b=some o->∃ o',h'.get? b=some o')
  (tups:∀ b xs,H b=some (.tup xs)->H' b=some (.tup xs)) (frzs:∀ b o u,H b=some (.frz o u)->H' b=some (.frz o u)) (tbls:∀ b ps,H b=some (.tbl ps)->∃ more,H' b=some (.tbl (ps++more)))
  (ns:∀ m,s.heap.Ns X.env.locals m->h'.Ns X.env.locals m) (hok:HOk X.prog X.w H' h') (hg:AllBare g') :
  Inv X pins σ H' { s with heap:=h',gens:=g',drawn:=d',toks:=t' }:=by
 have neL:∀ b o,X.s₀.heap.get? b=some o->b≠X.env.locals:=fun b o e=>Nat.ne_of_lt (Nat.lt_of_lt_of_le (Heap.lt_size e) I.ok.above)
 have neC:∀ b o,X.s₀.heap.get? b=some o->b ∉ X.ex->b ∉ ch:=fun b o e hx hb=>by
  rcases (hch b hb).1 with z|z
  ·exact hx z
  ·exact absurd (Nat.lt_of_lt_of_le (Heap.lt_size e) z) (Nat.lt_irrefl _)
 have cellK:∀ x c,X.env.cells.lookup x=some c->∀ v,s.heap.IsCell c v->h'.IsCell c v:=fun x c e v ⟨o,ho,hd⟩=>by
  have nch:c ∉ ch:=fun z=>(hch c z).2.2.1 x c e rfl
  by_cases hc:c∈X.fs
  ·obtain ⟨sl,q⟩:=slot c o (I.cne x c e) hc nch ho (I.freeC x c e)
   exact ⟨_,q,hd⟩
  ·exact ⟨o,keep c o (I.cne x c e) hc nch ho (I.freeC x c e),hd⟩
 refine ⟨I.ok,I.os,hg,⟨fun b o e n hb hx=>?_,fun b o e n hb hx=>?_,fun b o e n hx=>?_,fun b o e hx=>?_,fun b xs e=>tups b xs (I.base.tups b xs e),fun b o xs e=>frzs b o xs (I.base.frzs b o xs e),fun b ps e=>?_⟩,?_,fun x c e=>?_,?_,fun x c e=>?_,fun p hp=>?_,hok,I.len⟩
 ·exact keep b o (neL b o e) hb (neC b o e hx) (I.base.keep b o e n hb hx) (I.base.free b o e n hx)
 ·obtain ⟨sl,e1⟩:=I.base.slot b o e n hb hx
  obtain ⟨sl',e2⟩:=slot b _ (neL b o e) hb (neC b o e hx) e1 (I.base.free b o e n hx)
  exact ⟨sl',e2⟩
 ·obtain ⟨o',e1⟩:=I.base.there b o e hx
  exact free b o' (neC b o e hx) e1 (I.base.free b o e n hx)
 ·obtain ⟨o',e1⟩:=I.base.there b o e hx
  exact there b o' (neC b o e hx) e1
 ·obtain ⟨m1,e1⟩:=I.base.tbls b ps e
  obtain ⟨m2,e2⟩:=tbls b _ e1
  exact ⟨m1++m2,by rw [e2,Array.append_assoc]⟩
 ·obtain ⟨m,hn,hl⟩:=I.loc
  refine ⟨m,ns m hn,fun i x v e1 e2 e3=>?_⟩
  obtain ⟨u,r,l⟩:=hl i x v e1 e2 e3
  refine ⟨u,r,?_⟩
  rcases l with l|⟨k,c,e,z⟩
  ·exact .inl l
  ·exact .inr ⟨k,c,e,cellK x c e _ z⟩
 ·obtain ⟨v,z⟩:=I.cell x c e
  exact ⟨v,cellK x c e v z⟩
 ·obtain ⟨m,⟨o,_,_,ho,_⟩,_⟩:=I.loc
  exact free _ o (fun z=>(hch _ z).2.1 rfl) ho I.free
 ·obtain ⟨v,o,ho,hd⟩:=I.cell x c e
  exact free c o (fun z=>(hch c z).2.2.1 x c e rfl) ho (I.freeC x c e)
 ·obtain ⟨e,n,ne,nf,d⟩:=I.pin p hp
  have nch:p.1 ∉ ch:=fun z=>(hch p.1 z).2.2.2 p hp rfl
  exact ⟨keep p.1 p.2 ne nf nch e n,free p.1 p.2 nch e n,ne,nf,d⟩
theorem Inv.un {t':Nat} (I:Inv X pins σ H s) (u:Un X.fs [] H H' s.heap h') (hok:HOk X.prog X.w H' h'):Inv X pins σ H' { s with heap:=h',toks:=t' }:=by
 obtain ⟨m,⟨o,es,ep,ho,r⟩,_⟩:=id I.loc
 obtain ⟨sl,hL⟩:=u.any ho I.free (by simp)
 exact I.step (g':=s.gens) (d':=s.drawn) (ch:=[]) (fun _ z=>nomatch z) (fun b o _ hb _ e n=>u.keep b o e n hb (by simp)) (fun b o _ hb _ e n=>u.slot b o e n hb (by simp)) (fun b o _ e n=>u.free b o e n (by simp)) (fun b o _ e=>u.there b o e (by simp)) u.tups u.frzs u.tbls (fun m' hm=>by
  obtain ⟨o',es',ep',ho',r'⟩:=hm
  rw [ho] at ho'; cases ho'
  exact ⟨_,es',ep',hL,r'⟩) hok I.bare
theorem Inv.call {g':Array GenState} {t':Nat} {d':Drawn} {ch:List Addr} (I:Inv X pins σ H s) (u:Un (frs X.stack) ch H H' s.heap h') (hok:HOk X.prog X.w H' h') (hg:AllBare g')
  (hch:∀ b∈ch,(b∈X.ex\/X.s₀.heap.objs.size<=b)/\b≠X.env.locals/\(∀ x c,X.env.cells.lookup x=some c->c≠b)/\∀ p∈X.pn++pins,p.1≠b) :
  Inv X pins σ H' { s with heap:=h',gens:=g',drawn:=d',toks:=t' }:=by
 obtain ⟨m,⟨o,es,ep,ho,r⟩,_⟩:=id I.loc
 obtain ⟨sl,hL⟩:=u.any ho I.free fun z=>(hch _ z).2.1 rfl
 exact I.step (ch:=ch) hch (fun b o hL hb hc e n=>u.keep b o e n (fun z=>(List.mem_cons.mp (I.j3 b z)).elim hL hb) hc) (fun b o _ _ hc e n=>u.any e n hc) (fun b o hc e n=>u.free b o e n hc) (fun b o hc e=>u.there b o e hc) u.tups u.frzs u.tbls (fun m' hm=>by
  obtain ⟨o',es',ep',ho',r'⟩:=hm
  rw [ho] at ho'; cases ho'
  exact ⟨_,es',ep',hL,r'⟩) hok hg
theorem Inv.turned {t':Nat} {it:Addr} (I:Inv X pins σ H s) (k:∀ b o,b≠it->s.heap.get? b=some o->h'.get? b=some o) (hn:H it=none) (hL:it≠X.env.locals)
  (h1:it∈X.ex\/X.s₀.heap.objs.size<=it) (h2:∀ x c,X.env.cells.lookup x=some c->c≠it) (h3:∀ p∈X.pn++pins,p.1≠it):Inv X pins σ H { s with heap:=h',toks:=t' }:=by
 have nit:∀ b u,H b=some u->b≠it:=fun b u e z=>by rw [z,hn] at e; cases e
 refine I.step (g':=s.gens) (d':=s.drawn) (ch:=[it]) (fun b hb=>?_) (fun b o _ _ hc e _=>k b o (fun z=>hc (by simp [z])) e) (fun b o _ _ hc e _=>⟨o.slots,k b o (fun z=>hc (by simp [z])) e⟩) (fun _ _ _ _ n=>n)
  (fun b o hc e=>⟨o,k b o (fun z=>hc (by simp [z])) e⟩) (fun _ _ e=>e) (fun _ _ _ e=>e) (fun b ps e=>⟨#[],by rw [e]; simp⟩) (fun m hm=>?_) (fun b u e=>?_) I.bare
 ·have e:b=it:=by simpa using hb
  subst e
  exact ⟨h1,hL,h2,h3⟩
 ·obtain ⟨o,es,ep,ho,r⟩:=hm
  exact ⟨o,es,ep,k _ o (Ne.symm hL) ho,r⟩
 ·refine (I.hok b u e).stay (fun c v hc q=>k c v ?_ q) (fun _ q=>q) fun _ _ q=>q
  rcases hc with z|z
  ·rw [z]; exact nit b u e
  ·exact nit c _ z
theorem Inv.tok (I:Inv X pins σ H s) (t:Nat):Inv X pins σ H { s with toks:=t }:=I.un (h':=s.heap) (t':=t) Un.refl I.hok
theorem Inv.kept {t':Nat} (I:Inv X pins σ H s) (k:∀ b u,s.heap.get? b=some u->h'.get? b=some u):Inv X pins σ H { s with heap:=h',toks:=t' }:=I.un (Un.kept k) (I.hok.kept k)
theorem Inv.laid {a:Addr} {o:HO} {t':Nat} (I:Inv X pins σ H s) (k:∀ b u,s.heap.get? b=some u->h'.get? b=some u) (hp:s.heap.objs.size<=a) (new:bg X.prog X.w (upd H a o) h' a o) :
  Inv X pins σ (upd H a o) { s with heap:=h',toks:=t' }:=I.un (Un.laid k hp (I.hok.fresh hp)) (I.hok.laid k hp new)
theorem Inv.write {x e:Addr} {o:HO} {t':Nat} (I:Inv X pins σ H s) (mu:Mut (H x)) (he:e=x\/H e=some (.own x)) (k:∀ b u,b≠e->s.heap.get? b=some u->h'.get? b=some u) (heo:∃ u,h'.get? e=some u)
  (new:bg X.prog X.w (upd H x o) h' x o):Inv X pins σ (upd H x o) { s with heap:=h',toks:=t' }:=I.un (Un.write mu he k heo) (I.hok.write mu he k heo new)
theorem Inv.weak {σ':List (Option V)} (I:Inv X pins σ H s) (hl:σ'.length=σ.length) (w:∀ (i:Nat) v,σ'[i]?=some (some v)->σ[i]?=some (some v)):Inv X pins σ' H s :=
 ⟨I.ok,I.os,I.bare,I.base,let ⟨m,hn,hl'⟩:=I.loc; ⟨m,hn,fun i x v e1 e2 e3=>hl' i x v e1 (w i v e2) e3⟩,I.cell,I.free,I.freeC,I.pin,I.hok,hl.trans I.len⟩
theorem Inv.qM {pins':List (Addr × Obj)} (I:Inv X pins σ H s) (h:∀ p∈pins',s.heap.get? p.1=some p.2/\H p.1=none/\p.1≠X.env.locals/\p.1 ∉ X.fs/\∀ v,p.2.data≠.cell v):Inv X pins' σ H s :=
 ⟨I.ok,I.os,I.bare,I.base,I.loc,I.cell,I.free,I.freeC,fun p hp=>(List.mem_append.mp hp).elim (fun z=>I.pin p (List.mem_append_left _ z)) (h p),I.hok,I.len⟩
theorem o6 {N:List Str} (hN:N.Nodup) {i j:Nat} {x:Str} (a:N[i]?=some x) (b:N[j]?=some x):i=j:=by
 obtain ⟨h1,e1⟩:=List.getElem?_eq_some_iff.mp a
 obtain ⟨h2,e2⟩:=List.getElem?_eq_some_iff.mp b
 exact (List.getElem_inj hN).mp (e1.trans e2.symm)
theorem o9 {M:Model} {A:Around} {E:Value->Shared->Prop} {i:Nat} {x:Str} {v:V} {u:Value} {Q:Unit->Shared->Prop} (I:Inv X pins σ H s) (hN:X.N.Nodup) (hi:X.N[i]?=some x) (hx:Loc X.env.scope x) (r:RelV v u)
  (h:∀ s',Inv X pins (σ.set i (some v)) H s'->(∃ a,Heap.SameBut a s.heap s'.heap/\(a=X.env.locals\/X.env.cells.lookup x=some a))->Q () s') (hf:X.fn x=true\/X.env.scope.names.lookup x=some .local:=by first|exact .inl rfl|exact .inr rfl|assumption):wpAny M A (storeName X.env x u) Q E s:=by
 obtain ⟨m,hn,hl⟩:=id I.loc
 have hcls:(X.env.scope.kind==.class||(X.env.scope.kind==.module&&X.env.locals != X.env.globals))=false:=by rw [I.ok.kind]; rfl
 have hiσ:i < σ.length:=by rw [I.len]; exact (List.getElem?_eq_some_iff.mp hi).1
 have cne:=I.cne
 have tracked:∀ {a:Addr} {h':Heap},(∃ o,s.heap.get? a=some o/\H a=none)->Heap.SameBut a s.heap h'->HOk X.prog X.w H h':=fun {a h'} ha hs b ob e=>by
  obtain ⟨_,_,hfree⟩:=ha
  refine (I.hok b ob e).stay (fun c w' hc q=>(hs.2 c ?_).trans q) (fun _ q=>q) fun _ _ q=>q
  rintro rfl
  rcases hc with rfl|hc
  ·rw [hfree] at e; cases e
  ·rw [hfree] at hc; cases hc
 rcases hx with hk|hk
 ·refine wpAny_storeName_local hk hn (fun h' hn' hs=>?_) hcls
  obtain ⟨oL,_,_,hoL,_⟩:=id hn
  refine h _ ⟨I.ok,I.os,I.bare,⟨fun b o e n hb hx=>?_,fun b o e n hb hx=>?_,I.base.free,fun b o e hx=>?_,I.base.tups,I.base.frzs,I.base.tbls⟩,⟨_,hn',fun j y v' e1 e2 e3=>?_⟩,fun y c e=>?_,I.free,I.freeC,fun p hp=>?_,tracked ⟨oL,hoL,I.free⟩ hs,by simpa using I.len⟩ ⟨_,hs,.inl rfl⟩
  ·exact (hs.2 b (Nat.ne_of_lt (Nat.lt_of_lt_of_le (Heap.lt_size e) I.ok.above))).trans (I.base.keep b o e n hb hx)
  ·obtain ⟨sl,e1⟩:=I.base.slot b o e n hb hx
   exact ⟨sl,(hs.2 b (Nat.ne_of_lt (Nat.lt_of_lt_of_le (Heap.lt_size e) I.ok.above))).trans e1⟩
  ·obtain ⟨o',e1⟩:=I.base.there b o e hx
   exact ⟨o',(hs.2 b (Nat.ne_of_lt (Nat.lt_of_lt_of_le (Heap.lt_size e) I.ok.above))).trans e1⟩
  ·by_cases hj:j=i
   ·subst hj
    rw [hi] at e1; cases e1
    rw [List.getElem?_set_self hiσ] at e2
    cases e2
    exact ⟨u,r,.inl ⟨hk,by simp⟩⟩
   ·rw [List.getElem?_set_ne (Ne.symm hj)] at e2
    obtain ⟨u',r',q⟩:=hl j y v' e1 e2 e3
    refine ⟨u',r',?_⟩
    rcases q with ⟨k,e⟩|⟨k,c,e,z⟩
    ·refine .inl ⟨k,?_⟩
     have:y≠x:=fun e=>hj (o6 hN e1 (e ▸ hi))
     simp [this,e]
    ·exact .inr ⟨k,c,e,z.sameBut hs (cne y c e)⟩
  ·obtain ⟨w',z⟩:=I.cell y c e
   exact ⟨w',z.sameBut hs (cne y c e)⟩
  ·obtain ⟨e,n,ne,nf,d⟩:=I.pin p hp
   exact ⟨(hs.2 p.1 ne).trans e,n,ne,nf,d⟩
 ·have hfn:X.fn x=true:=by
   rcases hf with z|z
   ·exact z
   ·rw [z] at hk; cases hk
  obtain ⟨c,hc⟩:=I.ok.has x (.inl hk)
  obtain ⟨w',z⟩:=I.cell x c hc
  refine wpAny_storeName_cell I.ok.kind hk hc z (fun h' hc' hs=>?_)
  obtain ⟨oc,hoc,hocd⟩:=id z
  refine h { s with heap:=h' } ⟨I.ok,I.os,I.bare,⟨fun b o e n hb hx=>?_,fun b o e n hb hx=>?_,I.base.free,fun b o e hx=>?_,I.base.tups,I.base.frzs,I.base.tbls⟩,⟨m,hn.sameBut hs (Ne.symm (cne x c hc)),fun j y v' e1 e2 e3=>?_⟩,fun y c' e=>?_,I.free,I.freeC,fun p hp=>?_,tracked ⟨oc,hoc,I.freeC x c hc⟩ hs,by simpa using I.len⟩ ⟨c,hs,.inr hc⟩
  ·exact (hs.2 b (Nat.ne_of_lt (Nat.lt_of_lt_of_le (Heap.lt_size e) (I.ok.cab x c hfn hc)))).trans (I.base.keep b o e n hb hx)
  ·obtain ⟨sl,e1⟩:=I.base.slot b o e n hb hx
   exact ⟨sl,(hs.2 b (Nat.ne_of_lt (Nat.lt_of_lt_of_le (Heap.lt_size e) (I.ok.cab x c hfn hc)))).trans e1⟩
  ·obtain ⟨o',e1⟩:=I.base.there b o e hx
   exact ⟨o',(hs.2 b (Nat.ne_of_lt (Nat.lt_of_lt_of_le (Heap.lt_size e) (I.ok.cab x c hfn hc)))).trans e1⟩
  ·by_cases hj:j=i
   ·subst hj
    rw [hi] at e1; cases e1
    rw [List.getElem?_set_self hiσ] at e2
    cases e2
    exact ⟨u,r,.inr ⟨.inl hk,c,hc,hc'⟩⟩
   ·rw [List.getElem?_set_ne (Ne.symm hj)] at e2
    obtain ⟨u',r',q⟩:=hl j y v' e1 e2 e3
    refine ⟨u',r',?_⟩
    rcases q with q|⟨k,c',e,z'⟩
    ·exact .inl q
    ·refine .inr ⟨k,c',e,z'.sameBut hs ?_⟩
     rintro rfl
     exact hj (o6 hN e1 (I.ok.inj _ _ _ e hc ▸ hi))
  ·by_cases hcc:c'=c
   ·subst hcc; exact ⟨_,hc'⟩
   ·obtain ⟨w2,z2⟩:=I.cell y c' e
    exact ⟨w2,z2.sameBut hs hcc⟩
  ·obtain ⟨e,n,ne,nf,d⟩:=I.pin p hp
   refine ⟨(hs.2 p.1 ?_).trans e,n,ne,nf,d⟩
   intro q
   rw [q,hoc] at e
   have q':oc=p.2:=Option.some.inj e
   exact d w' (by rw [<- q']; exact hocd)
theorem Bw {M:Model} {A:Around} {E:Value->Shared->Prop} {i:Nat} {x:Str} {v:V} {u:Value} {Q:Unit->Shared->Prop} (I:Inv X pins σ H s) (hN:X.N.Nodup) (hi:X.N[i]?=some x) (hx:Loc X.env.scope x) (r:RelV v u)
  (h:∀ s',Inv X pins (σ.set i (some v)) H s'->Q () s') (hf:X.fn x=true\/X.env.scope.names.lookup x=some .local:=by first|exact .inl rfl|exact .inr rfl|assumption):wpAny M A (storeName X.env x u) Q E s :=
 o9 I hN hi hx r (fun s' I' _=>h s' I') hf
theorem Inv.vt {s':Shared} {ch:List Addr} (I:Inv X pins σ H s) (ho:s'.os=s.os) (u:Un (frs X.stack) ch H H' s.heap s'.heap) (hok:HOk X.prog X.w H' s'.heap) (hg:AllBare s'.gens)
  (hch:∀ b∈ch,(b∈X.ex\/X.s₀.heap.objs.size<=b)/\b≠X.env.locals/\(∀ x c,X.env.cells.lookup x=some c->c≠b)/\∀ p∈X.pn++pins,p.1≠b):Inv X pins σ H' s':=by
 obtain ⟨h',g',d',t',o'⟩:=s'
 have e:o'=s.os:=ho
 subst e
 exact I.call (g':=g') (t':=t') (d':=d') u hok hg hch
end
abbrev XK:=Value->Option Addr->Hp->Prop
abbrev St:=List (Option V)
abbrev VK:=V->Hp->Prop
abbrev TE:=St->Hp->VK->Prop
abbrev TT:=St->Hp->(Bool->Hp->Prop)->Prop
abbrev TA:=St->Hp->(List V->Hp->Prop)->Prop
structure Ends where
 nx:St->Hp->Prop
 rt:VK
 bk:St->Hp->Prop:=fun _ _=>False
 ct:St->Hp->Prop:=fun _ _=>False
abbrev TS:=Ends->St->Hp->Prop
noncomputable def EP (X:Cx) (pins:List (Addr × Obj)) (σ:St) (Q:VK) (u:Value) (s':Shared):Prop:=∃ v H',Inv X pins σ H' s'/\RelV v u/\Q v H'
noncomputable def TP (X:Cx) (pins:List (Addr × Obj)) (σ:St) (Q:Bool->Hp->Prop) (b:Bool) (s':Shared):Prop:=∃ H',Inv X pins σ H' s'/\Q b H'
noncomputable def AP (X:Cx) (pins:List (Addr × Obj)) (σ:St) (Q:List V->Hp->Prop) (us:List Value) (s':Shared):Prop:=∃ vs H',Inv X pins σ H' s'/\Vals vs us/\Q vs H'
noncomputable def SP (X:Cx) (pins:List (Addr × Obj)) (D:Ends) (f:Flow) (s':Shared):Prop :=
 match f with
 | .next=>∃ σ' H',Inv X pins σ' H' s'/\D.nx σ' H'
 | .brk=>∃ σ' H',Inv X pins σ' H' s'/\D.bk σ' H'
 | .cont=>∃ σ' H',Inv X pins σ' H' s'/\D.ct σ' H'
 | .ret u=>∃ v σ' H',Inv X pins σ' H' s'/\RelV v u/\D.rt v H'
noncomputable def PE (X:Cx) (e:Expr) (t:TE):Prop :=
 ∀ (pins:List (Addr × Obj)) (s:Shared) (σ:St) (H:Hp) (Q:VK),Inv X pins σ H s->t σ H Q->wpAny (model X.prog X.w) X.A (eval e X.env) (EP X pins σ Q) X.xe s
noncomputable def PT (X:Cx) (e:Expr) (t:TT):Prop :=
 ∀ (pins:List (Addr × Obj)) (s:Shared) (σ:St) (H:Hp) (Q:Bool->Hp->Prop),Inv X pins σ H s->t σ H Q->wpAny (model X.prog X.w) X.A (isTrue e X.env (eval e X.env)) (TP X pins σ Q) X.xe s
noncomputable def PW (X:Cx) (e:Expr) (t:TT):Prop :=
 ∀ (whole:Sem Value) (pins:List (Addr × Obj)) (s:Shared) (σ:St) (H:Hp) (Q:Bool->Hp->Prop),Inv X pins σ H s->t σ H Q->wpAny (model X.prog X.w) X.A (isTrue e X.env whole) (TP X pins σ Q) X.xe s
theorem PW.pt {X:Cx} {e:Expr} {t:TT} (h:PW X e t):PT X e t:=h _
noncomputable def PA (X:Cx) (es:List Expr) (t:TA):Prop :=
 ∀ (pos:Pos) (pins:List (Addr × Obj)) (s:Shared) (σ:St) (H:Hp) (Q:List V->Hp->Prop),Inv X pins σ H s->t σ H Q->wpAny (model X.prog X.w) X.A (spliced (backTo pos (starEach es X.env))) (AP X pins σ Q) X.xe s
noncomputable def PS (X:Cx) (st:Stmt) (t:TS):Prop :=
 ∀ (pins:List (Addr × Obj)) (s:Shared) (σ:St) (H:Hp) (D:Ends),Inv X pins σ H s->t D σ H->wpAny (model X.prog X.w) X.A (exec st X.env) (SP X pins D) X.xe s
noncomputable def PSs (X:Cx) (st:List Stmt) (t:TS):Prop :=
 ∀ (pins:List (Addr × Obj)) (s:Shared) (σ:St) (H:Hp) (D:Ends),Inv X pins σ H s->t D σ H->wpAny (model X.prog X.w) X.A (execs st X.env) (SP X pins D) X.xe s
theorem thn {α:Type} {t:Sem α} {Q Q':α->Shared->Prop} {M:Model} {A:Around} {E:Value->Shared->Prop} {s:Shared} (h:wpAny M A t Q E s) (hQ:∀ a s,Q a s->Q' a s):wpAny M A t Q' E s:=wpAny_mono h hQ fun _ _ x=>x
end L2
namespace L2
open PySem PySem.Spec PyProof.Rows
section
variable {X:Cx}
noncomputable def w6 (i:Nat):TE:=fun σ H Q=>∃ v,σ[i]?=some (some v)/\Q v H
noncomputable def tC (v:V):TE:=fun _ H Q=>Q v H
theorem Du {i:Nat} {x:Str} {pos:Pos} (hN:X.N[i]?=some x) (hv:Vis X.env.scope x) (hd:(x==("__debug__" : Str))=false:=by decide) (hcd:(x==("__classdict__" : Str))=false:=by decide):PE X (.Name x pos) (w6 i):=by
 intro pins s σ H Q I h
 obtain ⟨v,e,h⟩:=h
 obtain ⟨m,hn,hl⟩:=I.loc
 obtain ⟨u,r,l⟩:=hl i x v hN e hv
 have fin:EP X pins σ Q u s:=⟨v,H,I,r,h⟩
 rcases l with ⟨hk,hm⟩|⟨hk,c,hc,hcell⟩
 ·exact wpAny_Name (wpAny_loadName_local I.ok.kind hk hn hm fin) hd
 ·rcases hk with hk|hk
  ·exact wpAny_Name (wpAny_loadName_cell I.ok.kind hk hc hcell fin) hd
  ·exact wpAny_Name (wpAny_loadName_free I.ok.kind hk hc hcell fin hcd) hd
theorem v9 {i j pos}:PE X (.Constant (.int i) j pos) (tC (.int i)):=fun _ _ _ H _ I h=>wpAny_Constant_int ⟨.int i,H,I.tok _,⟨_,rfl⟩,h⟩
theorem AZ {b j pos}:PE X (.Constant (.bool b) j pos) (tC (.bl b)):=fun _ _ _ H _ I h=>Constant_bool ⟨.bl b,H,I,rfl,h⟩
theorem DN {j pos}:PE X (.Constant .none j pos) (tC .non):=fun _ _ _ H _ I h=>Constant_none ⟨.non,H,I,rfl,h⟩
theorem Co {x j pos}:PE X (.Constant (.str x) j pos) (tC (.str x)):=fun _ _ _ H _ I h=>Calls.Constant_str ⟨.str x,H,I.tok _,⟨_,rfl⟩,h⟩
noncomputable def Gl (X:Cx) (x:Str):Prop:=X.env.kindOf x=some .globalImplicit
theorem kZ {E:Value->Shared->Prop} {pins:List (Addr × Obj)} {s:Shared} {σ:St} {H:Hp} {x:Str} {u:Value} {pos:Pos} {Q:Value->Shared->Prop} (I:Inv X pins σ H s) (hg:Gl X x) (hm:X.mg x=some u) (h:Q u s)
  (hd:(x==("__debug__" : Str))=false:=by decide):wpAny (model X.prog X.w) X.A (eval (.Name x pos) X.env) Q E s :=
 Calls.Name_function_global I.ok.kind hg (Calls.loadGlobal_global (by rw [I.ok.glob]; exact I.mod.glob.keeps I.bk) hm h) hd
theorem cF {E:Value->Shared->Prop} {pins:List (Addr × Obj)} {s:Shared} {σ:St} {H:Hp} {x:Str} {u:Value} {pos:Pos} {Q:Value->Shared->Prop} (I:Inv X pins σ H s) (hg:Gl X x) (hm:X.mg x=none) (hv:bootBuiltins x=some u) (h:Q u s)
  (hn:x≠"__name__":=by decide) (hd:(x==("__debug__" : Str))=false:=by decide):wpAny (model X.prog X.w) X.A (eval (.Name x pos) X.env) Q E s:=by
 obtain ⟨mb,h1,h2⟩:=I.mod.blt
 exact Calls.Name_function_global I.ok.kind hg (Calls.loadGlobal_builtin (by rw [I.ok.glob]; exact I.mod.glob.keeps I.bk) hm (by rw [I.ok.blt]; exact h1.keeps I.bk) ((h2 x hn).trans hv) h) hd
theorem DV {x:Str} {v:V} {u:Value} {pos:Pos} (hg:Gl X x) (hm:X.mg x=some u) (r:RelV v u) (hd:(x==("__debug__" : Str))=false:=by decide):PE X (.Name x pos) (tC v) :=
 fun _ _ _ H _ I h=>kZ I hg hm ⟨v,H,I,r,h⟩ hd
theorem D4 {x:Str} {v:V} {u:Value} {pos:Pos} (hg:Gl X x) (hm:X.mg x=none) (hv:bootBuiltins x=some u) (r:RelV v u) (hn:x≠"__name__":=by decide) (hd:(x==("__debug__" : Str))=false:=by decide):PE X (.Name x pos) (tC v) :=
 fun _ _ _ H _ I h=>cF I hg hm hv ⟨v,H,I,r,h⟩ hn hd
variable {a b:Expr} {ta tb:TE} {pos:Pos}
variable {tA tB':TT} {rest:List Expr}
noncomputable def A6 (t u:TT):TT:=fun σ H Q=>t σ H fun c H1=>if c=true then u σ H1 Q else Q false H1
noncomputable def tOr (t u:TT):TT:=fun σ H Q=>t σ H fun c H1=>if c=true then Q true H1 else u σ H1 Q
noncomputable def Bd (t:TT):TT:=fun σ H Q=>t σ H fun c H1=>Q (!c) H1
theorem oU (ha:PT X a tA):PW X (.BoolOp .And [a] pos) tA:=by
 intro wh pins s σ H Q I h
 refine isTrue_and (thn (ha pins s σ H Q I h) fun c s1 e=>?_)
 cases c with
 | true=>exact isTrue_and_nil e
 | false=>exact e
theorem mW (ha:PT X a tA):PW X (.BoolOp .Or [a] pos) tA:=by
 intro wh pins s σ H Q I h
 refine isTrue_or (thn (ha pins s σ H Q I h) fun c s1 e=>?_)
 cases c with
 | false=>exact isTrue_or_nil e
 | true=>exact e
theorem C4 (ha:PT X a tA) (hb:PW X (.BoolOp .And (b::rest) pos) tB'):PW X (.BoolOp .And (a::b::rest) pos) (A6 tA tB'):=by
 intro wh pins s σ H Q I h
 refine isTrue_and (thn (ha pins s σ H _ I h) fun c s1 ⟨H1,I1,q1⟩=>?_)
 cases c with
 | true=>exact hb wh pins s1 σ H1 Q I1 q1
 | false=>exact ⟨H1,I1,q1⟩
theorem Ca (ha:PT X a tA) (hb:PW X (.BoolOp .Or (b::rest) pos) tB'):PW X (.BoolOp .Or (a::b::rest) pos) (tOr tA tB'):=by
 intro wh pins s σ H Q I h
 refine isTrue_or (thn (ha pins s σ H _ I h) fun c s1 ⟨H1,I1,q1⟩=>?_)
 cases c with
 | true=>exact ⟨H1,I1,q1⟩
 | false=>exact hb wh pins s1 σ H1 Q I1 q1
theorem Eb (ha:PT X a tA):PT X (.UnaryOp .Not a pos) (Bd tA):=by
 intro pins s σ H Q I h
 exact isTrue_not (ha pins s σ H (fun c H1=>Q (!c) H1) I h)
noncomputable def uN (ta tb:TE):TE:=fun σ H Q=>ta σ H fun x H1=>∃ c,x=.bl c/\if c=true then tb σ H1 Q else Q (.bl false) H1
noncomputable def zL (ta tb:TE):TE:=fun σ H Q=>ta σ H fun x H1=>∃ c,x=.bl c/\if c=true then Q (.bl true) H1 else tb σ H1 Q
noncomputable def vW (ta:TE):TE:=fun σ H Q=>ta σ H fun x H1=>∃ c,x=.bl c/\Q (.bl (!c)) H1
theorem mR {op} {t:TE} (h:PE X a t):PE X (.BoolOp op [a] pos) t:=fun pins s σ H Q I hw=>BoolOp_one (h pins s σ H Q I hw)
theorem Bf (ha:PE X a ta) (hb:PE X (.BoolOp .And (b::rest) pos) tb):PE X (.BoolOp .And (a::b::rest) pos) (uN ta tb):=by
 intro pins s σ H Q I h
 refine BoolOp_and (thn (ha pins s σ H _ I h) fun v s1 ⟨x,H1,I1,r1,q1⟩=>?_)
 obtain ⟨c,rfl,q1⟩:=q1
 cases r1
 refine wpAny_truthy_bool ?_
 cases c with
 | true=>exact hb pins s1 σ H1 Q I1 q1
 | false=>exact ⟨.bl false,H1,I1,rfl,q1⟩
theorem t6 (ha:PE X a ta) (hb:PE X (.BoolOp .Or (b::rest) pos) tb):PE X (.BoolOp .Or (a::b::rest) pos) (zL ta tb):=by
 intro pins s σ H Q I h
 refine BoolOp_or (thn (ha pins s σ H _ I h) fun v s1 ⟨x,H1,I1,r1,q1⟩=>?_)
 obtain ⟨c,rfl,q1⟩:=q1
 cases r1
 refine wpAny_truthy_bool ?_
 cases c with
 | false=>exact hb pins s1 σ H1 Q I1 q1
 | true=>exact ⟨.bl true,H1,I1,rfl,q1⟩
theorem A_ (ha:PE X a ta):PE X (.UnaryOp .Not a pos) (vW ta):=by
 intro pins s σ H Q I h
 refine UnaryOp_ (thn (ha pins s σ H _ I h) fun v s1 ⟨x,H1,I1,r1,q1⟩=>?_)
 obtain ⟨c,rfl,q1⟩:=q1
 cases r1
 exact not_of (wpAny_truthy_bool ⟨.bl (!c),H1,I1,rfl,q1⟩)
noncomputable def tIf (t:TT) (ta tb:TE):TE:=fun σ H Q=>t σ H fun c H1=>if c=true then ta σ H1 Q else tb σ H1 Q
theorem CW {c:Expr} (hc:PT X c tA) (ha:PE X a ta) (hb:PE X b tb):PE X (.IfExp c a b pos) (tIf tA ta tb):=by
 intro pins s σ H Q I h
 refine wpAny_IfExp (thn (hc pins s σ H _ I h) fun d s1 ⟨H1,I1,q1⟩=>?_)
 cases d with
 | true=>exact ha pins s1 σ H1 Q I1 q1
 | false=>exact hb pins s1 σ H1 Q I1 q1
end
end L2
namespace L2
open PySem PySem.Spec PyProof.Rows
noncomputable def SqL (K:PySem.W.Frag) (H:Hp) (a:Addr) (xs:List V):Prop :=
 Rd H a (.lst xs) \/
  ∃ (o:Obj) (its:Array Value) (n:Nat),K.lookup a=some o/\o.cls=.type "list"/\o.dict=none/\o.data=.seq its n/\its.size<=sizeLine/\Vals xs its.toList
noncomputable def SqT (K:PySem.W.Frag) (H:Hp) (a:Addr) (xs:List V):Prop :=
 Rd H a (.tup xs) \/
  ∃ (o:Obj) (its:Array Value) (n:Nat),K.lookup a=some o/\o.cls=.type "tuple"/\o.data=.seq its n/\its.size<=sizeLine/\Vals xs its.toList
noncomputable def CF:Value->Option V
 | .none=>some .non
 | .bool b=>some (.bl b)
 | .int i _=>some (.int i)
 | .str x _=>some (.str x)
 | .bytes b _=>some (.byt b)
 | .float b _=>some (.flt b)
 | .ref a=>some (.ref a)
 | .type n=>some (.ty n)
 | _=>none
theorem RelV.abs {x:V} {u:Value} (r:RelV x u):CF u=some x:=by
 cases x with
 | non=>cases r; rfl
 | bl _=>cases r; rfl
 | int _=>obtain ⟨t,rfl⟩:=r; rfl
 | str _=>obtain ⟨t,rfl⟩:=r; rfl
 | byt _=>obtain ⟨t,rfl⟩:=r; rfl
 | flt _=>obtain ⟨t,rfl⟩:=r; rfl
 | ref _=>cases r; rfl
 | ty _=>cases r; rfl
theorem RelV.inj {x y:V} {u:Value} (r:RelV x u) (q:RelV y u):x=y:=Option.some.inj (r.abs.symm.trans q.abs)
theorem Vals.inj:∀ {xs ys:List V} {us:List Value},Vals xs us->Vals ys us->xs=ys
 | _,_,_,.nil,.nil=>rfl
 | _,_,_,.cons r t,.cons r' t'=>by rw [r.inj r',Vals.inj t t']
section
variable {X:Cx} {pins:List (Addr × Obj)} {σ:St} {H:Hp} {s:Shared} {a:Addr} {xs ys:List V}
theorem SqL.of {K:PySem.W.Frag} (h:H a=some (.lst xs)):SqL K H a xs:=.inl (.inl h)
theorem SqT.of {K:PySem.W.Frag} (h:H a=some (.tup xs)):SqT K H a xs:=.inl (.inl h)
theorem Inv.list (I:Inv X pins σ H s) (h:SqL X.K H a xs):∃ its:List Value,Vals xs its/\PlainL s.heap a its.toArray/\xs.length<=sizeLine:=by
 rcases h with h|⟨o,its,n,hk,hc,hd,hs,hz,r⟩
 ·obtain ⟨z,its,n,r,e⟩:=h.ok I.hok
  exact ⟨its,r,⟨_,n,e,rfl,rfl,rfl⟩,z⟩
 ·refine ⟨its.toList,r,⟨o,n,I.kIn a o hk,hc,hd,by simpa using hs⟩,?_⟩
  have e:=r.length
  simp only [Array.length_toList] at e
  omega
theorem Inv.tuple (I:Inv X pins σ H s) (h:SqT X.K H a xs):∃ its:List Value,Vals xs its/\IsTup s.heap a its.toArray/\xs.length<=sizeLine:=by
 rcases h with h|⟨o,its,n,hk,hc,hs,hz,r⟩
 ·obtain ⟨z,its,r,p⟩:=h.ok I.hok
  exact ⟨its,r,p,z⟩
 ·refine ⟨its.toList,r,⟨o,I.kIn a o hk,hc,n,by simpa using hs⟩,?_⟩
  have e:=r.length
  simp only [Array.length_toList] at e
  omega
theorem Inv.jw (I:Inv X pins σ H s) (h:SqL X.K H a xs) (h':SqL X.K H a ys):xs=ys:=by
 obtain ⟨its,r,⟨o,n,e,_,_,d⟩,_⟩:=I.list h
 obtain ⟨its',r',⟨o',n',e',_,_,d'⟩,_⟩:=I.list h'
 rw [e] at e'; cases e'
 rw [d] at d'
 injection d' with d1 _
 have:its=its':=by simpa using congrArg Array.toList d1
 subst this
 exact r.inj r'
theorem Inv.jn (I:Inv X pins σ H s) (h:SqT X.K H a xs) (h':SqT X.K H a ys):xs=ys:=by
 obtain ⟨its,r,⟨o,e,_,n,d⟩,_⟩:=I.tuple h
 obtain ⟨its',r',⟨o',e',_,n',d'⟩,_⟩:=I.tuple h'
 rw [e] at e'; cases e'
 rw [d] at d'
 injection d' with d1 _
 have:its=its':=by simpa using congrArg Array.toList d1
 subst this
 exact r.inj r'
end
abbrev Cx.cY (X:Cx) (E:Value->Shared->Prop):Cx:={ X with xe:=E }
abbrev Cx.nox (X:Cx):Cx:=X.cY fun _ _=>False
theorem Cx.Ok.cY {X:Cx} (ok:X.Ok) (E:Value->Shared->Prop):(X.cY E).Ok :=
 ⟨ok.mod,ok.kind,ok.glob,ok.blt,ok.above,ok.inj,ok.has,ok.cab,ok.hd,ok.frames,ok.stk,ok.exf,ok.bs,ok.bsz,ok.noex,ok.exfs,ok.cP,ok.frf⟩
theorem Cx.Ok.eB {X:Cx} {E:Value->Shared->Prop} (ok:(X.cY E).Ok):X.Ok :=
 ⟨ok.mod,ok.kind,ok.glob,ok.blt,ok.above,ok.inj,ok.has,ok.cab,ok.hd,ok.frames,ok.stk,ok.exf,ok.bs,ok.bsz,ok.noex,ok.exfs,ok.cP,ok.frf⟩
section
variable {X:Cx} {pins:List (Addr × Obj)} {σ:St} {H:Hp} {s:Shared} {E:Value->Shared->Prop}
theorem Inv.cY (I:Inv X pins σ H s) (E:Value->Shared->Prop):Inv (X.cY E) pins σ H s:=⟨I.ok.cY E,I.os,I.bare,I.base,I.loc,I.cell,I.free,I.freeC,I.pin,I.hok,I.len⟩
theorem Inv.eB (I:Inv (X.cY E) pins σ H s):Inv X pins σ H s:=⟨I.ok.eB,I.os,I.bare,I.base,I.loc,I.cell,I.free,I.freeC,I.pin,I.hok,I.len⟩
theorem SP.eB {D:Ends} {f:Flow} {s':Shared} (h:SP (X.cY E) pins D f s'):SP X pins D f s':=by
 cases f with
 | next=>obtain ⟨σ',H',I,q⟩:=h; exact ⟨σ',H',I.eB,q⟩
 | brk=>obtain ⟨σ',H',I,q⟩:=h; exact ⟨σ',H',I.eB,q⟩
 | cont=>obtain ⟨σ',H',I,q⟩:=h; exact ⟨σ',H',I.eB,q⟩
 | ret u=>obtain ⟨v,σ',H',I,r,q⟩:=h; exact ⟨v,σ',H',I.eB,r,q⟩
end
section
variable {X:Cx} {st:Stmt} {rest:List Stmt} {t u:TS} {e:Expr} {te:TE} {pos:Pos}
noncomputable def kq:TS:=fun D σ H=>D.nx σ H
noncomputable def An (t u:TS):TS:=fun D σ H=>t { D with nx:=u D } σ H
theorem Fj:PSs X [] kq:=fun _ _ σ H _ I h=>wpAny_execs_nil ⟨σ,H,I,h⟩
theorem u7 (h1:PS X st t) (h2:PSs X rest u):PSs X (st::rest) (An t u):=by
 intro pins s σ H D I h
 refine wpAny_execs_cons (thn (h1 pins s σ H { D with nx:=u D } I h) fun f s1 q=>?_)
 cases f with
 | next =>
  obtain ⟨σ',H',I',q⟩:=q
  exact h2 pins s1 σ' H' D I' q
 | ret v=>exact q
 | brk=>exact q
 | cont=>exact q
theorem uM (h1:PS X st t):PSs X [st] t:=by
 intro pins s σ H D I h
 refine wpAny_execs_cons (thn (h1 pins s σ H D I h) fun f s1 q=>?_)
 cases f with
 | next=>exact wpAny_execs_nil q
 | ret v=>exact q
 | brk=>exact q
 | cont=>exact q
theorem BR:PS X (.Pass pos) kq:=fun _ _ σ H _ I h=>wpAny_Pass ⟨σ,H,I,h⟩
theorem Inv.quiet {pins:List (Addr × Obj)} {σ:St} {H:Hp} {s:Shared} (I:Inv X pins σ H s):interactive X.env=false:=by simp [interactive,I.ok.kind]
theorem DG {x j pos pos'}:PS X (.Expr (.Constant (.str x) j pos) pos') kq:=fun _ s σ H _ I h=>wpAny_Expr (Calls.Constant_str (show SP X _ _ .next { s with toks:=s.toks+1 } from ⟨σ,H,I.tok _,h⟩)) I.quiet
noncomputable def Az (te:TE):TS:=fun D σ H=>te σ H fun _ H1=>D.nx σ H1
theorem uq (he:PE X e te) (hs:swapsWith e none pos.line X.env=pure false:=by rfl):PS X (.Expr e pos) (Az te):=by
 intro pins s σ H D I h
 exact wpAny_Expr_any (thn (he pins s σ H _ I h) fun v s1 ⟨x,H1,I1,r1,q1⟩=>⟨σ,H1,I1,q1⟩) I.quiet hs
noncomputable def u6 (te:TE):TS:=fun D σ H=>te σ H D.rt
theorem Cy (he:PE X e te):PS X (.Return (some e) pos) (u6 te):=by
 intro pins s σ H D I h
 exact wpAny_Return_some (thn (he pins s σ H _ I h) fun v s1 ⟨x,H1,I1,r1,q1⟩=>⟨x,σ,H1,I1,r1,q1⟩)
noncomputable def vN:TS:=fun D _ H=>D.rt .non H
theorem uz:PS X (.Return none pos) vN:=fun _ _ σ H _ I h=>wpAny_Return_none ⟨.non,σ,H,I,rfl,h⟩
noncomputable def vH (c:TT) (t u:TS):TS:=fun D σ H=>c σ H fun b H1=>if b=true then t D σ H1 else u D σ H1
theorem ud {c:Expr} {a b:List Stmt} {tc:TT} (hc:PT X c tc) (ha:PSs X a t) (hb:PSs X b u):PS X (.If c a b pos) (vH tc t u):=by
 intro pins s σ H D I h
 refine wpAny_If (thn (hc pins s σ H _ I h) fun d s1 ⟨H1,I1,q1⟩=>?_)
 cases d with
 | true=>exact ha pins s1 σ H1 D I1 q1
 | false=>exact hb pins s1 σ H1 D I1 q1
noncomputable def xU:TS:=fun _ _ _=>False
theorem vv:PS X st xU:=fun _ _ _ _ _ _ h=>h.elim
end
abbrev TG:=V->St->Hp->(St->Hp->Prop)->Prop
abbrev TGs:=List V->St->Hp->(St->Hp->Prop)->Prop
noncomputable def PG (X:Cx) (target:Expr) (t:TG):Prop :=
 ∀ (pins:List (Addr × Obj)) (s:Shared) (σ:St) (H:Hp) (v:V) (u:Value) (Q:St->Hp->Prop),Inv X pins σ H s->RelV v u->t v σ H Q ->
  wpAny (model X.prog X.w) X.A (assign target X.env u) (fun _ s'=>∃ σ' H',Inv X pins σ' H' s'/\Q σ' H') X.xe s
noncomputable def PGs (X:Cx) (ts:List Expr) (t:TGs):Prop :=
 ∀ (pins:List (Addr × Obj)) (s:Shared) (σ:St) (H:Hp) (vs:List V) (us:List Value) (Q:St->Hp->Prop),Inv X pins σ H s->Vals vs us->t vs σ H Q ->
  wpAny (model X.prog X.w) X.A (assignInOrder ((assignEach ts X.env).map (·.2)) us) (fun _ s'=>∃ σ' H',Inv X pins σ' H' s'/\Q σ' H') X.xe s
abbrev bM:=V->V->V->Hp->(Hp->Prop)->Prop
noncomputable def jG (X:Cx) (t:bM):Prop :=
 ∀ (pins:List (Addr × Obj)) (s:Shared) (σ:St) (H:Hp) (o i v:V) (ov iv u:Value) (Q:Hp->Prop),Inv X pins σ H s->RelV o ov->RelV i iv->RelV v u->t o i v H Q ->
  wpAny (model X.prog X.w) X.A (setItem ov iv u) (fun _ s'=>∃ H',Inv X pins σ H' s'/\Q H') X.xe s
section
variable {X:Cx} {pos:Pos}
noncomputable def g_ (i:Nat):TG:=fun v σ H Q=>Q (σ.set i (some v)) H
theorem qZ {i:Nat} {x:Str} (hN:X.N.Nodup) (hi:X.N[i]?=some x) (hx:Loc X.env.scope x) (hf:X.fn x=true\/X.env.scope.names.lookup x=some .local:=by first|exact .inl rfl|exact .inr rfl|assumption):PG X (.Name x pos) (g_ i):=by
 intro pins s σ H v u Q I r h
 exact wpAny_assign_Name (Bw I hN hi hx r (fun s' I'=>⟨_,H,I',h⟩) hf)
noncomputable def pG:TGs:=fun vs σ H Q=>vs=[]/\Q σ H
noncomputable def rR (t:TG) (u:TGs):TGs:=fun vs σ H Q=>∃ v r,vs=v::r/\t v σ H fun σ' H'=>u r σ' H' Q
theorem zE:PGs X [] pG:=by
 intro pins s σ H vs us Q I r h
 obtain ⟨e,h⟩:=h
 subst e
 cases r
 exact assignInOrder_nil ⟨σ,H,I,h⟩
theorem zm {e:Expr} {es:List Expr} {t:TG} {u:TGs} (h1:PG X e t) (h2:PGs X es u)
  (hs:(assignEach (e::es) X.env).map (·.2)=assign e X.env::(assignEach es X.env).map (·.2):=by rfl):PGs X (e::es) (rR t u):=by
 intro pins s σ H vs us Q I r h
 obtain ⟨v,vr,e1,h⟩:=h
 subst e1
 cases r with
 | cons r rr =>
  rw [hs]
  refine assignInOrder_cons (thn (h1 pins s σ H _ _ _ I r h) fun _ s1 ⟨σ1,H1,I1,q1⟩=>?_)
  exact h2 pins s1 σ1 H1 _ _ Q I1 rr q1
noncomputable def BH (K:PySem.W.Frag) (n:Nat) (t:TGs):TG:=fun v σ H Q=>∃ a xs,v=.ref a/\SqT K H a xs/\xs.length=n/\t xs σ H Q
theorem Ay {es:List Expr} {k:Nat} {t:TGs} {n:Nat} (hc:X.calm=true) (h:PGs X es t)
  (hn:(assignEach es X.env).length=n:=by rfl) (hst:(assignEach es X.env).findIdx? (·.1)=none:=by rfl):PG X (.Tuple es k pos) (BH X.K n t):=by
 intro pins s σ H v u Q I r hw
 obtain ⟨a,xs,e1,hq,hl,hw⟩:=hw
 subst e1
 cases r
 obtain ⟨its,rv,ht,hz⟩:=I.tuple hq
 refine assign_Tuple_tuple (I.ok.hd hc) ht (by simp [hn,<- hl,rv.length]) hst fun h' hx=>?_
 have I1:Inv X pins σ H { s with heap:=h' }:=I.kept (t':=s.toks) fun b o e=>hx b o (Nat.ne_of_lt (Heap.lt_size e)) e
 exact h pins _ σ H xs _ Q I1 (by simpa using rv) hw
noncomputable def sC (to ti:TE) (t:bM):TG:=fun v σ H Q=>to σ H fun o H1=>ti σ H1 fun i H2=>t o i v H2 fun H3=>Q σ H3
theorem xJ {o i:Expr} {to ti:TE} {t:bM} (ho:PE X o to) (hi:PE X i ti) (hs:jG X t)
  (ha:∀ v,assign (.Subscript o i pos) X.env v=(do
   let ov <- holding [v] (eval o X.env)
   let iv <- holding [v,ov] (eval i X.env)
   standAt pos
   holding [v,ov,iv] (setItem ov iv v)
   release [v,ov,iv] []):=by intro _; rfl):PG X (.Subscript o i pos) (sC to ti t):=by
 intro pins s σ H v u Q I r h
 rw [ha]
 refine wpAny_bind (wpAny_holding (thn (ho pins s σ H _ I h) fun ov s1 ⟨x,H1,I1,r1,q1⟩=>?_))
 refine wpAny_bind (wpAny_holding (thn (hi pins s1 σ H1 _ I1 q1) fun iv s2 ⟨y,H2,I2,r2,q2⟩=>?_))
 refine wpAny_bind (wpAny_standAt (wpAny_bind (wpAny_holding (thn (hs pins s2 σ H2 x y v ov iv u _ I2 r1 r2 r q2) fun _ s3 ⟨H3,I3,q3⟩=>?_))))
 exact wpAny_release ⟨σ,H3,I3,q3⟩
noncomputable def kI (te:TE) (g:TG):TS:=fun D σ H=>te σ H fun x H1=>g x σ H1 D.nx
theorem mY {tg e:Expr} {te:TE} {g:TG} (he:PE X e te) (hg:PG X tg g) (hs:swapsWithSole [tg] e pos.line X.env=pure false:=by rfl) (hw:swappedStores [tg] e X.env=pure none:=by rfl)
  (h1:(assignEach [tg] X.env).map (·.2)=[assign tg X.env]:=by rfl):PS X (.Assign [tg] e pos) (kI te g):=by
 intro pins s σ H D I h
 refine wpAny_Assign_stores (thn (he pins s σ H _ I h) fun v s1 ⟨x,H1,I1,r1,q1⟩=>?_) hs hw
 rw [h1]
 exact thn (hg pins s1 σ H1 x v _ I1 r1 q1) fun _ s2 q=>q
end
section
variable {X:Cx} {pos:Pos}
end
structure It where
 go:Nat->Hp->Prop
 yld:Nat->Hp->V->Hp->Prop
 stop:Nat->Hp->Prop
noncomputable def cy (X:Cx) (pins:List (Addr × Obj)) (H:Hp) (b:Addr):Prop :=
 H b=none/\b≠X.env.locals/\b ∉ X.fs/\(b∈X.ex\/X.s₀.heap.objs.size<=b)/\(∀ x c,X.env.cells.lookup x=some c->c≠b)/\∀ p∈X.pn++pins,p.1≠b
theorem Inv.fk {X:Cx} {pins:List (Addr × Obj)} {σ:St} {H H':Hp} {s:Shared} {b:Addr} (I:Inv X pins σ H s) (hb:s.heap.objs.size<=b) (hn:H' b=none):cy X pins H' b:=by
 refine ⟨hn,Nat.ne_of_gt (Nat.lt_of_lt_of_le I.lt hb),I.zz hb,.inr (Nat.le_trans I.sz hb),fun x c e z=>?_,fun p hp z=>?_⟩
 ·obtain ⟨v,q⟩:=I.cell x c e
  exact absurd (Nat.lt_of_lt_of_le q.lt (by rw [z]; exact hb)) (Nat.lt_irrefl _)
 ·exact absurd (Nat.lt_of_lt_of_le (Heap.lt_size (I.pin p hp).1) (by rw [z]; exact hb)) (Nat.lt_irrefl _)
structure Turn (P:Program) (w:World) (K:PySem.W.Frag) (tg:Expr) (J:It) (fp:List Addr) (it:Addr) (tn:Nat->Heap->Prop):Prop where
 mem:it∈fp
 obj:∀ i h,tn i h->∀ b∈fp,∃ o,h.get? b=some o/\∀ v,o.data≠.cell v
 keep:∀ i h h',tn i h->(∀ b∈fp,∀ o,h.get? b=some o->h'.get? b=some o)->tn i h'
 item:∀ (X:Cx),X.prog=P->X.w=w->X.K=K->X.calm=true->∀ (i:Nat) (pins:List (Addr × Obj)) (s:Shared) (σ:St) (H:Hp) (E:Value->Shared->Prop),Inv X pins σ H s->(∀ b∈fp,cy X pins H b)->tn i s.heap->J.go i H ->
  wpAny (model P w) X.A (pyNext (.ref it)) (fun r s1=>∃ u,r=some u /\
   wpAny (model P w) X.A (letOwnedTupleGo tg (.ref it) u) (fun _ s2=>∃ x H',Inv X pins σ H' s2/\RelV x u/\J.yld i H x H'/\tn (i+1) s2.heap/\∀ b∈fp,H' b=none) E s1) E s
 done:∀ (X:Cx),X.prog=P->X.w=w->X.K=K->X.calm=true->∀ (i:Nat) (pins:List (Addr × Obj)) (s:Shared) (σ:St) (H:Hp) (E:Value->Shared->Prop),Inv X pins σ H s->(∀ b∈fp,cy X pins H b)->tn i s.heap->J.stop i H ->
  wpAny (model P w) X.A (pyNext (.ref it)) (fun r s1=>r=none/\Inv X pins σ H s1) E s
 self:∀ (A:Around) (i:Nat) (s:Shared) (Q:Value->Shared->Prop) (E:Value->Shared->Prop),tn i s.heap->Q (.ref it) s->wpAny (model P w) A (pyIter (.ref it)) Q E s
abbrev TI:=St->Hp->(It->Hp->Prop)->Prop
noncomputable def PIE (X:Cx) (pins:List (Addr × Obj)) (σ:St) (tg:Expr) (R:It->Hp->Prop) (itv:Value) (s2:Shared):Prop :=
 ∃ (it:Addr) (fp:List Addr) (tn:Nat->Heap->Prop) (J:It) (H':Hp),itv=.ref it/\Inv X pins σ H' s2/\Turn X.prog X.w X.K tg J fp it tn/\tn 0 s2.heap/\(∀ b∈fp,cy X pins H' b)/\R J H'
noncomputable def PI (X:Cx) (tg iter:Expr) (wi:TI):Prop :=
 ∀ (pins:List (Addr × Obj)) (s:Shared) (σ:St) (H:Hp) (R:It->Hp->Prop),Inv X pins σ H s->wi σ H R ->
  wpAny (model X.prog X.w) X.A (eval iter X.env) (fun v s1=>wpAny (model X.prog X.w) X.A (pyIter v) (PIE X pins σ tg R) X.xe s1) X.xe s
theorem iV {M:Model} {A:Around} {E:Value->Shared->Prop} {s:Shared} {tg:Expr} {it:Addr} {u:Value} {o:Obj} {n:String} {vs:Array Value} {Q:Unit->Shared->Prop} (ho:s.heap.get? it=some o) (hc:o.cls=.type n) (hd:o.data=.fields vs)
  (hn:["enumerate","zip","dict_itemiterator","dict_reverseitemiterator","odict_iterator","itertools.zip_longest","itertools.pairwise"].contains n=false) (hQ:Q () s):wpAny M A (letOwnedTupleGo tg (.ref it) u) Q E s:=by
 unfold letOwnedTupleGo
 cases tg <;> first
  | exact wpAny_pure hQ
  | (cases u <;> first
    | exact wpAny_pure hQ
    | (
      refine wpAny_bind (wpAny_load ho ?_)
      rw [hc,hd]
      show wpAny M A (if (["enumerate","zip","dict_itemiterator","dict_reverseitemiterator","odict_iterator","itertools.zip_longest","itertools.pairwise"].contains n&&vs[0]?==some (rawInt _))=true then _ else _) Q E s
      rw [if_neg (by intro h; rw [hn,Bool.false_and] at h; cases h)]
      exact wpAny_pure hQ))
noncomputable def Itl (K:PySem.W.Frag) (a:Addr):It :=
 ⟨fun i H=>∃ xs x,SqL K H a xs/\xs[i]?=some x,fun i H x H'=>H'=H/\∀ xs,SqL K H a xs->xs[i]?=some x,fun i H=>∃ xs,SqL K H a xs/\xs.length<=i⟩
noncomputable def Itt (K:PySem.W.Frag) (a:Addr):It :=
 ⟨fun i H=>∃ xs x,SqT K H a xs/\xs[i]?=some x,fun i H x H'=>H'=H/\∀ xs,SqT K H a xs->xs[i]?=some x,fun i H=>∃ xs,SqT K H a xs/\xs.length<=i⟩
noncomputable def Itr (lo:Int) (n:Nat):It:=⟨fun i _=>i < n,fun i H x H'=>H'=H/\x=.int (lo+i),fun i _=>n<=i⟩
theorem yG {P:Program} {w:World} {K:PySem.W.Frag} {tg:Expr} (a it:Addr):Turn P w K tg (Itl K a) [it] it (fun i h=>h.IsListIter it a i) where
 mem:=by simp
 obj:=fun i h st b hb=>by
  have e:b=it:=by simpa using hb
  subst e
  obtain ⟨o,e,c,d⟩:=st
  exact ⟨o,e,fun v z=>by rw [d] at z; cases z⟩
 keep:=fun i h h' st k=>st.at fun o e=>k it (by simp) o e
 item:=by
  intro X hP hw hK hc i pins s σ H E I hf st hg
  subst hP hw hK
  obtain ⟨xs,x,hq,hx⟩:=hg
  obtain ⟨its,rv,p,hz⟩:=I.list hq
  obtain ⟨u,hu,ru⟩:=rv.get hx
  obtain ⟨f0,f1,f2,f3,f4,f5⟩:=hf it (by simp)
  refine wpAny_pyNext_list_item st p.isList (x:=u) (by simpa using hu) fun h' st' sb=>?_
  have I1:Inv X pins σ H { s with heap:=h' }:=I.turned (t':=s.toks) (fun b o hb e=>(sb.2 b hb).trans e) f0 f1 f3 f4 f5
  obtain ⟨o,e,c,d⟩:=id st'
  exact ⟨u,rfl,iV (s:={ s with heap:=h' }) e c d (by decide) ⟨x,H,I1,ru,⟨rfl,fun ys hy=>by rw [I.jw hy hq]; exact hx⟩,st',fun b hb=>(hf b hb).1⟩⟩
 done:=by
  intro X hP hw hK hc i pins s σ H E I hf st hg
  subst hP hw hK
  obtain ⟨xs,hq,hx⟩:=hg
  obtain ⟨its,rv,p,hz⟩:=I.list hq
  obtain ⟨f0,f1,f2,f3,f4,f5⟩:=hf it (by simp)
  have hl:=rv.length
  exact wpAny_pyNext_list_end (I.ok.hd hc) st p.isList (by simp; omega) fun h' eb=>⟨rfl,I.turned (t':=s.toks) (fun b o hb e=>eb b o hb e) f0 f1 f3 f4 f5⟩
 self:=fun _ _ _ _ _ st h=>wpAny_pyIter_listiter st h
theorem EI {P:Program} {w:World} {K:PySem.W.Frag} {tg:Expr} (a it:Addr):Turn P w K tg (Itt K a) [it] it (fun i h=>h.IsTupleIter it a i) where
 mem:=by simp
 obj:=fun i h st b hb=>by
  have e:b=it:=by simpa using hb
  subst e
  obtain ⟨o,e,c,d⟩:=st
  exact ⟨o,e,fun v z=>by rw [d] at z; cases z⟩
 keep:=fun i h h' st k=>st.at fun o e=>k it (by simp) o e
 item:=by
  intro X hP hw hK hc i pins s σ H E I hf st hg
  subst hP hw hK
  obtain ⟨xs,x,hq,hx⟩:=hg
  obtain ⟨its,rv,p,hz⟩:=I.tuple hq
  obtain ⟨u,hu,ru⟩:=rv.get hx
  obtain ⟨f0,f1,f2,f3,f4,f5⟩:=hf it (by simp)
  refine wpAny_pyNext_tuple_item st (show s.heap.IsTuple a its.toArray from p) (x:=u) (by simpa using hu) fun h' st' sb=>?_
  have I1:Inv X pins σ H { s with heap:=h' }:=I.turned (t':=s.toks) (fun b o hb e=>(sb.2 b hb).trans e) f0 f1 f3 f4 f5
  obtain ⟨o,e,c,d⟩:=id st'
  exact ⟨u,rfl,iV (s:={ s with heap:=h' }) e c d (by decide) ⟨x,H,I1,ru,⟨rfl,fun ys hy=>by rw [I.jn hy hq]; exact hx⟩,st',fun b hb=>(hf b hb).1⟩⟩
 done:=by
  intro X hP hw hK hc i pins s σ H E I hf st hg
  subst hP hw hK
  obtain ⟨xs,hq,hx⟩:=hg
  obtain ⟨its,rv,p,hz⟩:=I.tuple hq
  obtain ⟨f0,f1,f2,f3,f4,f5⟩:=hf it (by simp)
  have hl:=rv.length
  exact wpAny_pyNext_tuple_end (I.ok.hd hc) st (show s.heap.IsTuple a its.toArray from p) (by simp; omega) fun h' eb=>⟨rfl,I.turned (t':=s.toks) (fun b o hb e=>eb b o hb e) f0 f1 f3 f4 f5⟩
 self:=fun _ _ _ _ _ st h=>wpAny_pyIter_tupleiter st h
theorem AB {P:Program} {w:World} {K:PySem.W.Frag} {tg:Expr} (it:Addr) (lo:Int) (n:Nat):Turn P w K tg (Itr lo n) [it] it (fun i h=>IsRangeIter h it (lo+(i:Nat) * 1) ((n:Int) - (i:Nat)) 1) where
 mem:=by simp
 obj:=fun i h st b hb=>by
  have e:b=it:=by simpa using hb
  subst e
  exact ⟨_,st,fun v z=>by
   have z':Data.fields _=Data.cell v:=z
   cases z'⟩
 keep:=fun i h h' st k=>k it (by simp) _ st
 item:=by
  intro X hP hw hK hc i pins s σ H E I hf st hg
  subst hP hw hK
  obtain ⟨f0,f1,f2,f3,f4,f5⟩:=hf it (by simp)
  have W:=Walks.range (prog:=X.prog) (w:=X.w) (I.ok.hd hc) it lo 1 n
  refine W.item i s _ _ hg st fun v h' tk hv st' kk=>?_
  obtain ⟨t,rfl⟩:=hv
  have I1:Inv X pins σ H { s with heap:=h',toks:=tk }:=I.turned (fun b o hb e=>kk b o (by simpa using hb) e) f0 f1 f3 f4 f5
  refine ⟨_,rfl,iV (s:={ s with heap:=h',toks:=tk }) (n:="range_iterator") st' rfl rfl (by decide) ⟨.int (lo+i),H,I1,⟨t,?_⟩,⟨rfl,rfl⟩,st',fun b hb=>(hf b hb).1⟩⟩
  rw [Int.mul_one]
 done:=by
  intro X hP hw hK hc i pins s σ H E I hf st hg
  subst hP hw hK
  obtain ⟨f0,f1,f2,f3,f4,f5⟩:=hf it (by simp)
  exact wpAny_pyNext_range_end (I.ok.hd hc) st (by have:n<=i:=hg; omega) fun h' eb=>⟨rfl,I.turned (t':=s.toks) (fun b o hb e=>eb b o hb e) f0 f1 f3 f4 f5⟩
 self:=fun _ _ _ _ _ st h=>wpAny_pyIter_rangeiter st h
end L2
namespace L2
open PySem PySem.Spec PyProof.Rows
section
variable {X:Cx} {tg:Expr}
theorem pJ {pins:List (Addr × Obj)} {σ:St} {H:Hp} {s:Shared} {R:It->Hp->Prop} {E:Value->Shared->Prop} {lo hi:Int} {t u v:Tok} {tk:Nat} (I:Inv X pins σ H s) (h1:-(2 ^ 62)<=lo) (h2:lo < 2 ^ 62) (h3:-(2 ^ 62)<=hi) (h4:hi < 2 ^ 62)
  (q:R (Itr lo (hi - lo).toNat) H):wpAny (model X.prog X.w) X.A (pyIter (.ref s.heap.objs.size)) (PIE X pins σ tg R) E { s with heap:=s.heap.push { cls:=.type "range",data:=.fields #[.int lo t,.int hi u,.int 1 v] },toks:=tk }:=by
 refine wpAny_pyIter_range (IsRange.new ..) (small_one h1 h2 h3 h4) ?_
 have I1:Inv X pins σ H { s with heap:=s.heap.push { cls:=.type "range",data:=.fields #[.int lo t,.int hi u,.int 1 v] },toks:=tk }:=I.kept fun b o e=>Heap.get?_push_of_some _ e
 refine ⟨(s.heap.push { cls:=.type "range",data:=.fields #[.int lo t,.int hi u,.int 1 v] }).objs.size,[(s.heap.push { cls:=.type "range",data:=.fields #[.int lo t,.int hi u,.int 1 v] }).objs.size],_,_,H,rfl,
  I1.kept (t':=tk) fun b o e=>Heap.get?_push_of_some _ e,AB _ lo (hi - lo).toNat,?_,fun b hb=>?_,q⟩
 ·have e1:lo+((0:Nat):Int) * 1=lo:=by simp
  have e2:(((hi - lo).toNat:Nat):Int) - ((0:Nat):Int)=Builtin.Range.rangeSize lo hi 1:=by rw [rangeSize_one]; split <;> omega
  show IsRangeIter _ _ (lo+((0:Nat):Int) * 1) ((((hi - lo).toNat:Nat):Int) - ((0:Nat):Int)) 1
  rw [e1,e2]
  exact Heap.get?_push_size _ rfl
 ·have e:b=(s.heap.push { cls:=.type "range",data:=.fields #[.int lo t,.int hi u,.int 1 v] }).objs.size:=by simpa using hb
  subst e
  exact I1.fk (Nat.le_refl _) (I1.hok.fresh (Nat.le_refl _))
noncomputable def AK (ta:TA):TI:=fun σ H R=>ta σ H fun vs H1=>∃ j:Int,vs=[.int j]/\-(2 ^ 62)<=j/\j < 2 ^ 62/\R (Itr 0 j.toNat) H1
noncomputable def wj (ta:TA):TI:=fun σ H R=>ta σ H fun vs H1=>∃ i j:Int,vs=[.int i,.int j]/\(-(2 ^ 62)<=i/\i < 2 ^ 62/\-(2 ^ 62)<=j/\j < 2 ^ 62)/\R (Itr i (j - i).toNat) H1
theorem Dv {a:Expr} {ta:TA} {p pos:Pos} (hg:Gl X "range") (hm:X.mg "range" = none) (ha:PA X [a] ta) (hs:starEach [a] X.env=[(false,eval a X.env)]:=by rfl):PI X tg (.Call (.Name "range" p) [a] [] pos) (AK ta):=by
 intro pins s σ H R I h
 refine Call_ (cF I hg hm boot_range (PyProof.Rows.callWith_type1 (thn (ha pos pins s σ H _ I h) fun us s1 ⟨vs,H1,I1,r1,q1⟩=>?_) hs rfl))
 obtain ⟨j,e,q1,q2,q⟩:=q1
 subst e
 cases r1 with
 | cons r rr =>
  cases rr
  obtain ⟨t,rfl⟩:=r
  exact call_range_1 (pJ I1 (by omega) (by omega) q1 q2 (by simpa using q))
theorem EO {a b:Expr} {ta:TA} {p pos:Pos} (hg:Gl X "range") (hm:X.mg "range" = none) (ha:PA X [a,b] ta) (hs:starEach [a,b] X.env=[(false,eval a X.env),(false,eval b X.env)]:=by rfl) (hs2:starEach [b] X.env=[(false,eval b X.env)]:=by rfl) :
  PI X tg (.Call (.Name "range" p) [a,b] [] pos) (wj ta):=by
 intro pins s σ H R I h
 refine Call_ (cF I hg hm boot_range (PyProof.Rows.callWith_type1 (thn (ha pos pins s σ H _ I h) fun us s1 ⟨vs,H1,I1,r1,q1⟩=>?_) (by rw [hs,hs2]) (by rw [hs2]; rfl)))
 obtain ⟨i,j,e,⟨q1,q2,q3,q4⟩,q⟩:=q1
 subst e
 cases r1 with
 | cons r rr =>
  cases rr with
  | cons r' rr =>
   cases rr
   obtain ⟨t,rfl⟩:=r
   obtain ⟨t',rfl⟩:=r'
   exact call_range_2 (pJ I1 q1 q2 q3 q4 q)
noncomputable def sU (wi:TI) (g:TG) (tb:TS):TS:=fun D σ H=>wi σ H fun J H1=>∃ W:Nat->Nat->St->Hp->Prop,(∃ m,W 0 m σ H1)/\∀ i m σ H,W i m σ H ->
 (J.stop i H/\D.nx σ H)\/(J.go i H/\∃ N:St->Hp->Prop,(∀ σ' H',N σ' H'->∃ m',m' < m/\W (i+1) m' σ' H')/\∀ x H',J.yld i H x H'->g x σ H' fun σ2 H2=>tb { D with nx:=N,ct:=N,bk:=D.nx } σ2 H2)
noncomputable def gP (fp:List Addr) (h:Heap):List (Addr × Obj):=fp.filterMap fun b=>(h.get? b).map fun o=>(b,o)
theorem iQ {fp:List Addr} {h:Heap} {b:Addr} {o:Obj} (hb:b∈fp) (e:h.get? b=some o):(b,o)∈gP fp h:=List.mem_filterMap.mpr ⟨b,hb,by rw [e]; rfl⟩
theorem DT {fp:List Addr} {h:Heap} {p:Addr × Obj} (hp:p∈gP fp h):p.1∈fp/\h.get? p.1=some p.2:=by
 obtain ⟨b,hb,e⟩:=List.mem_filterMap.mp hp
 cases q:h.get? b with
 | none=>rw [q] at e; cases e
 | some o =>
  rw [q] at e
  have e':(b,o)=p:=Option.some.inj e
  subst e'
  exact ⟨hb,q⟩
theorem Inv.pinned {pins:List (Addr × Obj)} {σ:St} {H:Hp} {s:Shared} {fp:List Addr} (I:Inv X pins σ H s) (hf:∀ b∈fp,cy X pins H b) (ho:∀ b∈fp,∃ o,s.heap.get? b=some o/\∀ v,o.data≠.cell v):Inv X (pins++gP fp s.heap) σ H s :=
 I.qM fun p hp=>(List.mem_append.mp hp).elim (fun z=>I.pin p (List.mem_append_right _ z)) fun z=>by
  obtain ⟨hb,e⟩:=DT z
  obtain ⟨f0,f1,f2,_⟩:=hf p.1 hb
  obtain ⟨o,e',d⟩:=ho p.1 hb
  rw [e] at e'; cases e'
  exact ⟨e,f0,f1,f2,d⟩
theorem Inv.jj {pins pl:List (Addr × Obj)} {σ:St} {H:Hp} {s:Shared} (I:Inv X (pins++pl) σ H s):Inv X pins σ H s:=I.qM fun p hp=>I.pin p (List.mem_append_right _ (List.mem_append_left _ hp))
theorem vf {iter:Expr} {body:List Stmt} {wi:TI} {g:TG} {tb:TS} {pos:Pos} (hp:PassesOwn (model X.prog X.w) X.A X.env X.xe) (hc:X.calm=true) (hi:PI X tg iter wi) (hg:PG X tg g) (hb:PSs X body tb)
  (hs:∀ x,foldedSetIterable iter X.env x=pure x:=by intro _; rfl):PS X (.For tg iter body [] pos) (sU wi g tb):=by
 intro pins s σ H D I h
 refine wpAny_For (thn (hi pins s σ H _ I h) fun v s1 h1=>thn h1 fun itv s2 h2=>?_) hs
 obtain ⟨it,fp,tn,J,H2,e,I2,T,st2,f2,W,⟨m0,w0⟩,turn⟩:=h2
 subst e
 have stat:∀ {H':Hp},(∀ b∈fp,H' b=none)->∀ b∈fp,cy X pins H' b:=fun hn b hb=>⟨hn b hb,(f2 b hb).2⟩
 refine codeAny_forLoop_any (fun n s'=>∃ i σ' H',Inv X pins σ' H' s'/\tn i s'.heap/\(∀ b∈fp,H' b=none)/\W i n σ' H') ?_ m0 ⟨0,σ,H2,I2,st2,fun b hb=>(f2 b hb).1,w0⟩
 rintro n s3 ⟨i,σ3,H3,I3,st3,fr3,w3⟩
 rcases turn i n σ3 H3 w3 with ⟨stop,qn⟩|⟨go,N,hN,step⟩
 ·refine wpAny_passesOwn hp (thn (T.done X rfl rfl rfl hc i pins s3 σ3 H3 X.xe I3 (stat fr3) st3 stop) fun r s4 ⟨hr,I4⟩=>?_)
  subst hr
  exact wpAny_execs_nil ⟨σ3,H3,I4,qn⟩
 ·refine wpAny_passesOwn hp (thn (T.item X rfl rfl rfl hc i pins s3 σ3 H3 X.xe I3 (stat fr3) st3 go) fun r s4 ⟨u,hr,h4⟩=>?_)
  subst hr
  refine wpAny_passesOwn hp (thn h4 fun _ s5 ⟨x,H5,I5,r5,y5,st5,fr5⟩=>?_)
  have I5':=I5.pinned (stat fr5) (T.obj _ _ st5)
  refine wpAny_passesOwn hp (thn (hg _ s5 σ3 H5 x u _ I5' r5 (step x H5 y5)) fun _ s6 ⟨σ6,H6,I6,q6⟩=>?_)
  refine wpAny_passesOwn hp (thn (hb _ s6 σ6 H6 _ I6 q6) fun f s7 q7=>?_)
  have again:∀ {σ7:St} {H7:Hp},Inv X (pins++gP fp s5.heap) σ7 H7 s7->N σ7 H7->∃ m,m < n/\∃ i σ' H',Inv X pins σ' H' s7/\tn i s7.heap/\(∀ b∈fp,H' b=none)/\W i m σ' H':=fun {σ7 H7} I7 n7=>by
   obtain ⟨m',hm,w7⟩:=hN σ7 H7 n7
   refine ⟨m',hm,i+1,σ7,H7,I7.jj,T.keep _ _ _ st5 fun b hb o e=>(I7.pin (b,o) (List.mem_append_right _ (List.mem_append_right _ (iQ hb e)))).1,fun b hb=>?_,w7⟩
   obtain ⟨o,e,d⟩:=T.obj _ _ st5 b hb
   exact (I7.pin (b,o) (List.mem_append_right _ (List.mem_append_right _ (iQ hb e)))).2.1
  cases f with
  | next=>obtain ⟨σ7,H7,I7,n7⟩:=q7; exact again I7 n7
  | cont=>obtain ⟨σ7,H7,I7,n7⟩:=q7; exact again I7 n7
  | brk=>obtain ⟨σ7,H7,I7,q7⟩:=q7; exact ⟨σ7,H7,I7.jj,q7⟩
  | ret v=>obtain ⟨x7,σ7,H7,I7,r7,q7⟩:=q7; exact ⟨x7,σ7,H7,I7.jj,r7,q7⟩
end
end L2
namespace L2
open PySem PySem.Spec PyProof.Rows
abbrev R2:=V->V->Hp->VK->Prop
noncomputable def OpR (X:Cx) (f:Value->Value->Sem Value) (r:R2):Prop :=
 ∀ (pins:List (Addr × Obj)) (s:Shared) (σ:St) (H:Hp) (x y:V) (v u:Value) (Q:VK),Inv X pins σ H s->RelV x v->RelV y u->r x y H Q ->
  wpAny (model X.prog X.w) X.A (f v u) (EP X pins σ Q) X.xe s
noncomputable def UnR (X:Cx) (f:Value->Sem Value) (r:V->Hp->VK->Prop):Prop :=
 ∀ (pins:List (Addr × Obj)) (s:Shared) (σ:St) (H:Hp) (x:V) (v:Value) (Q:VK),Inv X pins σ H s->RelV x v->r x H Q ->
  wpAny (model X.prog X.w) X.A (f v) (EP X pins σ Q) X.xe s
noncomputable def bz (X:Cx) (f:Value) (r:List V->Hp->VK->Prop):Prop :=
 ∀ (pins:List (Addr × Obj)) (s:Shared) (σ:St) (H:Hp) (xs:List V) (us:List Value) (Q:VK),Inv X pins σ H s->Vals xs us->r xs H Q ->
  wpAny (model X.prog X.w) X.A (call f us) (EP X pins σ Q) X.xe s
noncomputable def rg (X:Cx) (r:V->Hp->(Bool->Hp->Prop)->Prop):Prop :=
 ∀ (pins:List (Addr × Obj)) (s:Shared) (σ:St) (H:Hp) (x:V) (v:Value) (Q:Bool->Hp->Prop),Inv X pins σ H s->RelV x v->r x H Q ->
  wpAny (model X.prog X.w) X.A (truthy v) (TP X pins σ Q) X.xe s
noncomputable def tOp (r:R2) (ta tb:TE):TE:=fun σ H Q=>ta σ H fun x H1=>tb σ H1 fun y H2=>r x y H2 Q
noncomputable def tUn (r:V->Hp->VK->Prop) (ta:TE):TE:=fun σ H Q=>ta σ H fun x H1=>r x H1 Q
noncomputable def rI (C:Int->Int->Prop) (g:Int->Int->V):R2:=fun x y H Q=>∃ i j,x=.int i/\y=.int j/\C i j/\Q (g i j) H
noncomputable def rI0 (g:Int->Int->V):R2:=fun x y H Q=>∃ i j,x=.int i/\y=.int j/\Q (g i j) H
noncomputable def rU (g:Int->V):V->Hp->VK->Prop:=fun x H Q=>∃ i,x=.int i/\Q (g i) H
section
variable {X:Cx} {a b c:Expr} {ta tb tc:TE} {pos:Pos}
theorem lZ (ha:PE X a ta) (hb:PE X b tb) {pins:List (Addr × Obj)} {s:Shared} {σ:St} {H:Hp} {R:V->V->Hp->Prop} (I:Inv X pins σ H s)
  (h:ta σ H fun x H1=>tb σ H1 fun y H2=>R x y H2) {Q:Value->Shared->Prop} {f:Value->Value->Sem Value}
  (hf:∀ v u s2 x y H2,Inv X pins σ H2 s2->RelV x v->RelV y u->R x y H2->wpAny (model X.prog X.w) X.A (f v u) Q X.xe s2) :
  wpAny (model X.prog X.w) X.A (eval a X.env) (fun v s₁=>wpAny (model X.prog X.w) X.A (eval b X.env) (fun u s₂=>wpAny (model X.prog X.w) X.A (f v u) Q X.xe s₂) X.xe s₁) X.xe s:=by
 refine thn (ha pins s σ H _ I h) fun v s1 ⟨x,H1,I1,r1,q1⟩=>?_
 refine thn (hb pins s1 σ H1 _ I1 q1) fun u s2 ⟨y,H2,I2,r2,q2⟩=>?_
 exact hf v u s2 x y H2 I2 r1 r2 q2
theorem Aa {op:Operator} {r:R2} (ho:OpR X (binaryOp op) r) (ha:PE X a ta) (hb:PE X b tb):PE X (.BinOp a op b pos) (tOp r ta tb):=by
 intro pins s σ H Q I h
 exact wpAny_BinOp (lZ ha hb I h fun v u s2 x y H2 I2 rx ry q=>ho pins s2 σ H2 x y v u Q I2 rx ry q)
theorem Ej {op:UnaryOp} {r:V->Hp->VK->Prop} (ho:UnR X (unaryOp op) r) (ha:PE X a ta):PE X (.UnaryOp op a pos) (tUn r ta):=by
 intro pins s σ H Q I h
 exact UnaryOp_ (thn (ha pins s σ H _ I h) fun v s1 ⟨x,H1,I1,r1,q1⟩=>ho pins s1 σ H1 x v Q I1 r1 q1)
theorem opI {f:Value->Value->Sem Value} {C:Int->Int->Prop} {g:Int->Int->Int}
  (rule:∀ (i j:Int) (t u:Tok) (s:Shared) (Q:Value->Shared->Prop) (E:Value->Shared->Prop),C i j->Q (.int (g i j) s.toks) { s with toks:=s.toks+1 }->wpAny (model X.prog X.w) X.A (f (.int i t) (.int j u)) Q E s) :
  OpR X f (rI C fun i j=>.int (g i j)):=by
 intro pins s σ H x y v u Q I rx ry h
 obtain ⟨i,j,rfl,rfl,hc,q⟩:=h
 obtain ⟨t,rfl⟩:=rx
 obtain ⟨t',rfl⟩:=ry
 exact rule i j t t' s _ _ hc ⟨.int (g i j),H,I.tok _,⟨_,rfl⟩,q⟩
theorem rB {f:Value->Value->Sem Value} {g:Int->Int->Int}
  (rule:∀ (i j:Int) (t u:Tok) (s:Shared) (Q:Value->Shared->Prop) (E:Value->Shared->Prop),Q (.int (g i j) s.toks) { s with toks:=s.toks+1 }->wpAny (model X.prog X.w) X.A (f (.int i t) (.int j u)) Q E s) :
  OpR X f (rI0 fun i j=>.int (g i j)):=by
 intro pins s σ H x y v u Q I rx ry h
 obtain ⟨i,j,rfl,rfl,q⟩:=h
 obtain ⟨t,rfl⟩:=rx
 obtain ⟨t',rfl⟩:=ry
 exact rule i j t t' s _ _ ⟨.int (g i j),H,I.tok _,⟨_,rfl⟩,q⟩
theorem iT {f:Value->Value->Sem Value} {g:Int->Int->Bool}
  (rule:∀ (i j:Int) (t u:Tok) (s:Shared) (Q:Value->Shared->Prop) (E:Value->Shared->Prop),Q (.bool (g i j)) s->wpAny (model X.prog X.w) X.A (f (.int i t) (.int j u)) Q E s) :
  OpR X f (rI0 fun i j=>.bl (g i j)):=by
 intro pins s σ H x y v u Q I rx ry h
 obtain ⟨i,j,rfl,rfl,q⟩:=h
 obtain ⟨t,rfl⟩:=rx
 obtain ⟨t',rfl⟩:=ry
 exact rule i j t t' s _ _ ⟨.bl (g i j),H,I,rfl,q⟩
noncomputable def xP (i j:Int):Prop:=0 < j/\j < 1073741824
noncomputable def yU (i j:Int):Prop:=0<=j/\j<=1000000/\i.natAbs < 2 ^ 64
noncomputable def lO (i j:Int):Prop:=(-(2 ^ 64) < i/\i < 2 ^ 64)\/(-(2 ^ 64) < j/\j < 2 ^ 64)
theorem lO.ok {i j:Int} (h:lO i j):IntMulOk i j:=by
 rcases h with ⟨h1,h2⟩|⟨h1,h2⟩
 ·exact .of_left (intBits_le_64 h1 h2)
 ·exact .of_right (intBits_le_64 h1 h2)
theorem w_:OpR X (binaryOp .Add) (rI0 fun i j=>.int (i+j)):=rB fun _ _ _ _ _ _ _ q=>add_int q
theorem xR:OpR X (binaryOp .Sub) (rI0 fun i j=>.int (i - j)):=rB fun _ _ _ _ _ _ _ q=>sub_int q
theorem Cc:OpR X (binaryOp .Mult) (rI lO fun i j=>.int (i * j)):=opI fun _ _ _ _ _ _ _ hc q=>mul_int q hc.ok
theorem yP:OpR X (binaryOp .FloorDiv) (rI xP fun i j=>.int (i / j)):=opI fun i j _ _ _ _ _ hc q=>by
 have h1:(0:Int) < j:=hc.1
 have h2:j < 1073741824:=hc.2
 exact floordiv_int (by omega) (by rw [Int.fdiv_eq_ediv_of_nonneg i (by omega)]; exact q) (.inl (PyProof.noPylong_small (by omega)))
theorem ug:OpR X (binaryOp .Mod) (rI (fun _ j=>0 < j) fun i j=>.int (i % j)):=opI fun i j _ _ _ _ _ hc q=>by
 have h1:(0:Int) < j:=hc
 exact mod_int' (by omega) (by rw [Int.fmod_eq_emod_of_nonneg i (by omega)]; exact q)
theorem xM:OpR X (binaryOp .Pow) (rI yU fun i j=>.int (i ^ j.toNat)):=opI fun _ _ _ _ _ _ _ hc q=>pow_int_small hc.1 hc.2.1 hc.2.2 q
theorem unI {f:Value->Sem Value} {g:Int->Int}
  (rule:∀ (i:Int) (t:Tok) (s:Shared) (Q:Value->Shared->Prop) (E:Value->Shared->Prop),Q (.int (g i) s.toks) { s with toks:=s.toks+1 }->wpAny (model X.prog X.w) X.A (f (.int i t)) Q E s) :
  UnR X f (rU fun i=>.int (g i)):=by
 intro pins s σ H x v Q I rx h
 obtain ⟨i,rfl,q⟩:=h
 obtain ⟨t,rfl⟩:=rx
 exact rule i t s _ _ ⟨.int (g i),H,I.tok _,⟨_,rfl⟩,q⟩
theorem yV:UnR X (unaryOp .USub) (rU fun i=>.int (-i)):=unI fun _ _ _ _ _ q=>neg_int q
end
noncomputable def tE:V->V->Bool
 | .non,.non=>true|.non,.int _=>true|.int _,.non=>true|.non,.bl _=>true|.bl _,.non=>true|.non,.str _=>true|.str _,.non=>true
 | .int _,.int _=>true|.bl _,.bl _=>true|.str _,.str _=>true|.byt _,.byt _=>true
 | .int _,.str _=>true|.str _,.int _=>true|.bl _,.str _=>true|.str _,.bl _=>true
 | _,_=>false
noncomputable def rNe:R2:=fun x y H Q=>tE x y=true/\Q (.bl (!decide (x=y))) H
theorem mw {i j:Int}:decide (V.int i=V.int j)=(i==j):=by
 rw [Bool.eq_iff_iff]
 simp
theorem su {i j:Bool}:decide (V.bl i=V.bl j)=(i==j):=by
 rw [Bool.eq_iff_iff]
 simp
theorem nv {i j:Str}:decide (V.str i=V.str j)=(i==j):=by
 rw [Bool.eq_iff_iff]
 simp
theorem wJ {i j:Array UInt8}:decide (V.byt i=V.byt j)=(i.toList==j.toList):=by
 rw [Bool.eq_iff_iff]
 cases i
 cases j
 simp
section
variable {X:Cx} {a b c:Expr} {ta tb tc:TE} {pos:Pos}
theorem bT {pins:List (Addr × Obj)} {σ:St} {H:Hp} {s:Shared} {Q:VK} {k k':Bool} (I:Inv X pins σ H s) (q:Q (.bl k) H) (e:k=k'):EP X pins σ Q (.bool k') s:=by
 subst e
 exact ⟨.bl k,H,I,rfl,q⟩
theorem uK:OpR X (compareOp .NotEq) rNe:=by
 intro pins s σ H x y v u Q I rx ry h
 obtain ⟨hs,q⟩:=h
 cases x with
 | non =>
  cases rx
  cases y with
  | non=>cases ry; exact PySem.EqNone.ne_none_none (bT I q (by simp))
  | bl j=>cases ry; exact PySem.EqNone.ne_none_bool (bT I q (by simp))
  | int j=>obtain ⟨t',rfl⟩:=ry; exact PySem.EqNone.ne_none_int (bT I q (by simp))
  | str j=>obtain ⟨t',rfl⟩:=ry; exact PySem.EqNone.ne_none_str (bT I q (by simp))
  | _=>exact absurd (show false=true from hs) Bool.false_ne_true
 | bl i =>
  cases rx
  cases y with
  | non=>cases ry; exact PySem.EqNone.ne_bool_none (bT I q (by simp))
  | bl j=>cases ry; exact ne_bool (bT I q (congrArg not su))
  | str j=>obtain ⟨t',rfl⟩:=ry; exact PySem.EqMixed.ne_bool_str (bT I q (by simp))
  | _=>exact absurd (show false=true from hs) Bool.false_ne_true
 | int i =>
  obtain ⟨t,rfl⟩:=rx
  cases y with
  | non=>cases ry; exact PySem.EqNone.ne_int_none (bT I q (by simp))
  | int j=>obtain ⟨t',rfl⟩:=ry; exact ne_int (bT I q (congrArg not mw))
  | str j=>obtain ⟨t',rfl⟩:=ry; exact PySem.EqMixed.ne_int_str (bT I q (by simp))
  | _=>exact absurd (show false=true from hs) Bool.false_ne_true
 | str i =>
  obtain ⟨t,rfl⟩:=rx
  cases y with
  | non=>cases ry; exact PySem.EqNone.ne_str_none (bT I q (by simp))
  | bl j=>cases ry; exact PySem.EqMixed.ne_str_bool (bT I q (by simp))
  | int j=>obtain ⟨t',rfl⟩:=ry; exact PySem.EqMixed.ne_str_int (bT I q (by simp))
  | str j=>obtain ⟨t',rfl⟩:=ry; exact ne_str (bT I q (congrArg not nv))
  | _=>exact absurd (show false=true from hs) Bool.false_ne_true
 | byt i =>
  obtain ⟨t,rfl⟩:=rx
  cases y with
  | byt j=>obtain ⟨t',rfl⟩:=ry; exact PySem.W.ne_bytes (bT I q (congrArg not wJ))
  | _=>exact absurd (show false=true from hs) Bool.false_ne_true
 | _=>cases y <;> exact absurd (show false=true from hs) Bool.false_ne_true
theorem Fi:OpR X (compareOp .Lt) (rI0 fun i j=>.bl (decide (i < j))):=iT fun _ _ _ _ _ _ _ q=>lt_int q
theorem wX:OpR X (compareOp .LtE) (rI0 fun i j=>.bl (decide (i<=j))):=iT fun _ _ _ _ _ _ _ q=>le_int q
theorem v7:OpR X (compareOp .Gt) (rI0 fun i j=>.bl (decide (j < i))):=iT fun _ _ _ _ _ _ _ q=>gt_int q
theorem vV:OpR X (compareOp .GtE) (rI0 fun i j=>.bl (decide (j<=i))):=iT fun _ _ _ _ _ _ _ q=>ge_int q
theorem AU {op:CmpOp} {r:R2} (ho:OpR X (compareOp op) r) (ha:PE X a ta) (hb:PE X b tb) (hm:behindInMarks op b=false):PE X (.Compare a [op] [b] pos) (tOp r ta tb):=by
 intro pins s σ H Q I h
 exact wpAny_Compare1 (lZ ha hb I h fun v u s2 x y H2 I2 rx ry q=>ho pins s2 σ H2 x y v u Q I2 rx ry q) hm
noncomputable def sZ (t:TE):TT:=fun σ H Q=>t σ H fun x H'=>∃ k,x=.bl k/\Q k H'
theorem zM {op:CmpOp} {r:R2} (ho:OpR X (compareOp op) r) (ha:PE X a ta) (hb:PE X b tb) (hm:behindInMarks op b=false):PT X (.Compare a [op] [b] pos) (sZ (tOp r ta tb)):=by
 intro pins s σ H Q I h
 refine wpAny_isTrue_Compare1 (thn (ha pins s σ H _ I h) fun v s1 ⟨x,H1,I1,r1,q1⟩=>thn (hb pins s1 σ H1 _ I1 q1) fun u s2 ⟨y,H2,I2,r2,q2⟩ =>
  thn (ho pins s2 σ H2 x y v u _ I2 r1 r2 q2) fun c s3 ⟨z,H3,I3,r3,k,e,q3⟩=>?_) hm
 subst e
 cases r3
 exact wpAny_truthy_bool ⟨H3,I3,q3⟩
noncomputable def pY (r r':R2) (ta tb tc:TE):TE:=fun σ H Q=>ta σ H fun x H1=>tb σ H1 fun y H2=>r x y H2 fun z H3=>∃ k,z=.bl k /\
 (if k=true then tc σ H3 fun w' H4=>r' y w' H4 Q else Q (.bl false) H3)
theorem yu {op op':CmpOp} {r r':R2} (ho:OpR X (compareOp op) r) (ho':OpR X (compareOp op') r') (ha:PE X a ta) (hb:PE X b tb) (hc:PE X c tc)
  (hm:lastMarks [op,op'] [b,c]=false:=by with_unfolding_all rfl):PE X (.Compare a [op,op'] [b,c] pos) (pY r r' ta tb tc):=by
 intro pins s σ H Q I h
 refine Compare_chain (thn (ha pins s σ H _ I h) fun v s1 ⟨x,H1,I1,r1,q1⟩=>chain_link (thn (hb pins s1 σ H1 _ I1 q1) fun u s2 ⟨y,H2,I2,r2,q2⟩ =>
  thn (ho pins s2 σ H2 x y v u _ I2 r1 r2 q2) fun d s3 ⟨z,H3,I3,r3,k,e,q3⟩=>?_)) hm
 subst e
 cases r3
 refine wpAny_truthy_bool ?_
 cases k with
 | false=>exact ite_ff ⟨.bl false,H3,I3,rfl,q3⟩
 | true=>exact ite_tt (chain_last (thn (hc pins s3 σ H3 _ I3 q3) fun w' s4 ⟨z',H4,I4,r4,q4⟩=>ho' pins s4 σ H4 y z' u w' Q I4 r2 r4 q4))
theorem yp {op op':CmpOp} {r r':R2} (ho:OpR X (compareOp op) r) (ho':OpR X (compareOp op') r') (ha:PE X a ta) (hb:PE X b tb) (hc:PE X c tc)
  (hm:lastMarks [op,op'] [b,c]=false:=by with_unfolding_all rfl):PT X (.Compare a [op,op'] [b,c] pos) (sZ (pY r r' ta tb tc)):=by
 intro pins s σ H Q I h
 refine isTrue_chain (thn (ha pins s σ H _ I h) fun v s1 ⟨x,H1,I1,r1,q1⟩=>test_link (thn (hb pins s1 σ H1 _ I1 q1) fun u s2 ⟨y,H2,I2,r2,q2⟩ =>
  thn (ho pins s2 σ H2 x y v u _ I2 r1 r2 q2) fun d s3 ⟨z,H3,I3,r3,k,e,q3⟩=>?_)) hm
 subst e
 cases r3
 refine wpAny_truthy_bool ?_
 cases k with
 | false =>
  obtain ⟨k',e',q'⟩:=q3
  cases e'
  exact ite_ff ⟨H3,I3,q'⟩
 | true =>
  refine ite_tt (test_last (thn (hc pins s3 σ H3 _ I3 q3) fun w' s4 ⟨z',H4,I4,r4,q4⟩=>thn (ho' pins s4 σ H4 y z' u w' _ I4 r2 r4 q4) fun d' s5 ⟨z2,H5,I5,r5,k2,e2,q5⟩=>?_))
  subst e2
  cases r5
  exact wpAny_truthy_bool ⟨H5,I5,q5⟩
noncomputable def Ad (K:PySem.W.Frag) (x:V) (H:Hp) (k:Bool):Prop :=
 match x with
 | .non=>k=false
 | .bl b=>k=b
 | .int i=>k=(i != 0)
 | .str y=>y.length<=sizeLine/\k=((y.length:Int) != 0)
 | .byt y=>y.size<=sizeLine/\k=((y.size:Int) != 0)
 | .ref p=>(∃ xs,SqL K H p xs/\k=!xs.isEmpty)\/(∃ xs,SqT K H p xs/\k=!xs.isEmpty)\/∃ kvs,H p=some (.dK kvs)/\k=!kvs.isEmpty
 | _=>False
theorem Bt {κ:Type} {kvs:List (κ × V)} {vs:List (κ × Value)} (r:KV kvs vs):(!vs.isEmpty)=!kvs.isEmpty:=by
 cases r <;> rfl
theorem r6 {xs:List V} {its:List Value} (r:Vals xs its):(!its.toArray.isEmpty)=!xs.isEmpty:=by
 cases r <;> simp
theorem ie:(sizeLine:Nat) < 2 ^ 63:=by rw [sizeLine_eq]; decide
theorem BI:rg X (fun x H Q=>∃ k,Ad X.K x H k/\Q k H):=by
 intro pins s σ H x v Q I rx h
 obtain ⟨k,e,q⟩:=h
 have hl:=ie
 have hs:sizeLine=16777216:=sizeLine_eq
 cases x with
 | non =>
  cases rx
  have e':k=false:=e
  subst e'
  exact truthy_none ⟨H,I,q⟩
 | bl b =>
  cases rx
  have e':k=b:=e
  subst e'
  exact wpAny_truthy_bool ⟨H,I,q⟩
 | int i =>
  obtain ⟨t,rfl⟩:=rx
  have e':k=(i != 0):=e
  subst e'
  exact PySem.P.truthy_int ⟨H,I,q⟩
 | str y =>
  obtain ⟨t,rfl⟩:=rx
  obtain ⟨hy,e'⟩:y.length<=sizeLine/\k=((y.length:Int) != 0):=e
  subst e'
  exact PySem.P.truthy_str (by omega) ⟨H,I.tok _,q⟩
 | byt y =>
  obtain ⟨t,rfl⟩:=rx
  obtain ⟨hy,e'⟩:y.size<=sizeLine/\k=((y.size:Int) != 0):=e
  subst e'
  exact PySem.W.truthy_bytes (by omega) ⟨H,I.tok _,q⟩
 | ref p =>
  cases rx
  have e':(∃ xs,SqL X.K H p xs/\k=!xs.isEmpty)\/(∃ xs,SqT X.K H p xs/\k=!xs.isEmpty)\/∃ kvs,H p=some (.dK kvs)/\k=!kvs.isEmpty:=e
  rcases e' with ⟨xs,hx,e'⟩|⟨xs,hx,e'⟩|⟨kvs,hx,e'⟩
  ·subst e'
   obtain ⟨its,r,pl,hz⟩:=I.list hx
   have hlen:=r.length
   exact wpAny_truthy_list pl.isList (by simp only [List.size_toArray]; omega) ⟨H,I.tok _,by rw [r6 r]; exact q⟩
  ·subst e'
   obtain ⟨its,r,pl,hz⟩:=I.tuple hx
   have hlen:=r.length
   exact truthy_tuple pl (by simp only [List.size_toArray]; omega) ⟨H,I.tok _,by rw [r6 r]; exact q⟩
  ·subst e'
   obtain ⟨hz,hS,vs,r,m⟩:kvs.length<=sizeLine/\(p==sysModules)=false/\∃ vs,KV kvs vs/\s.heap.DictOf (b7 X.prog X.w) p vs:=I.hok p _ hx
   have hlen:kvs.length=vs.length:=Paired.length r
   exact wpAny_truthy_dict hS m (by omega) ⟨H,I.tok _,by rw [Bt r]; exact q⟩
 | _=>exact (show False from e).elim
theorem E1:OpR X (binaryOp .Add) (fun x y H Q=>∃ i j,x=.str i/\y=.str j/\i.length+j.length<=sizeLine/\Q (.str (i++j)) H):=by
 intro pins s σ H x y v u Q I rx ry h
 obtain ⟨i,j,rfl,rfl,hz,q⟩:=h
 obtain ⟨t,rfl⟩:=rx
 obtain ⟨t',rfl⟩:=ry
 exact add_str (fun t' tk=>⟨.str (i++j),H,I.tok _,⟨_,rfl⟩,q⟩) hz
theorem vals1 {x:V} {us:List Value} (r:Vals [x] us):∃ u,us=[u]/\RelV x u:=by
 cases r with
 | cons r1 r2=>cases r2; exact ⟨_,rfl,r1⟩
theorem vals2 {x y:V} {us:List Value} (r:Vals [x,y] us):∃ u w',us=[u,w']/\RelV x u/\RelV y w':=by
 cases r with
 | cons r1 r2 =>
  cases r2 with
  | cons r3 r4=>cases r4; exact ⟨_,_,rfl,r1,r3⟩
theorem Am (hc:X.calm=true):bz X (.builtin "max") (fun xs H Q=>∃ i j,xs=[.int i,.int j]/\Q (.int (if j > i then j else i)) H):=by
 intro pins s σ H xs us Q I r h
 obtain ⟨i,j,rfl,q⟩:=h
 obtain ⟨u,w',rfl,⟨t,rfl⟩,⟨t',rfl⟩⟩:=vals2 r
 refine max_two_ints (I.ok.hd hc) fun h' tk k=>⟨_,H,I.kept k,?_,q⟩
 by_cases hj:j > i
 ·rw [if_pos hj,if_pos hj]; exact ⟨_,rfl⟩
 ·rw [if_neg hj,if_neg hj]; exact ⟨_,rfl⟩
theorem xQ (hc:X.calm=true):bz X (.builtin "min") (fun xs H Q=>∃ i j,xs=[.int i,.int j]/\Q (.int (if j < i then j else i)) H):=by
 intro pins s σ H xs us Q I r h
 obtain ⟨i,j,rfl,q⟩:=h
 obtain ⟨u,w',rfl,⟨t,rfl⟩,⟨t',rfl⟩⟩:=vals2 r
 refine min_two_ints (I.ok.hd hc) fun h' tk k=>⟨_,H,I.kept k,?_,q⟩
 by_cases hj:j < i
 ·rw [if_pos hj,if_pos hj]; exact ⟨_,rfl⟩
 ·rw [if_neg hj,if_neg hj]; exact ⟨_,rfl⟩
theorem n9:bz X (.type "int") (fun xs H Q=>(∃ i,xs=[.int i]/\Q (.int i) H)\/∃ k,xs=[.bl k]/\Q (.int (if k then 1 else 0)) H):=by
 intro pins s σ H xs us Q I r h
 rcases h with ⟨i,rfl,q⟩|⟨k,rfl,q⟩
 ·obtain ⟨u,rfl,t,rfl⟩:=vals1 r
  exact call_int_int ⟨.int i,H,I,⟨_,rfl⟩,q⟩
 ·obtain ⟨u,rfl,r1⟩:=vals1 r
  cases r1
  exact call_int_bool ⟨.int (if k then 1 else 0),H,I.tok _,⟨_,rfl⟩,q⟩
end
end L2
namespace L2
open PySem PySem.Spec PyProof.Rows
structure FE (h:Heap) (x dx C:Addr) (mA:Str->Option Value):Prop where
 obj:h.get? x=some (PySem.W.instObj C dx)
 ns:h.Ns1 dx mA
 ne:dx≠x
section
variable {prog:Program} {w:World} {A:Around} {E:Value->Shared->Prop} {s:Shared} {K:PySem.W.Frag} {x dx C f:Addr} {mA:Str->Option Value} {name:Str} {v:Value}
end
theorem dh.some_of {v:V} {o:Option Value} (r:dh (some v) o):∃ u,o=some u/\RelV v u:=by
 cases o with
 | none=>exact (show False from r).elim
 | some u=>exact ⟨u,rfl,r⟩
section
variable {P:Program} {w:World} {H H':Hp} {h h':Heap} {a C dx:Addr} {fs fs':List (Str × V)}
end
structure Cls (K:PySem.W.Frag) (C:Addr):Prop where
 pg:PySem.W.plainGet K C Str.empty=true
 hd:PySem.W.hasDictIn K C=true
 po:PySem.W.plainOver K C=true
 sa:PySem.W.findIn K (.ref C) "__setattr__" = some (some (.builtin "object.__setattr__"))
structure Con (K:PySem.W.Frag) (C:Addr) (f:Str) (v:V) (u:Value):Prop where
 at_:PySem.W.findIn K (.ref C) f=some (some u)
 rel:RelV v u
 get:PySem.W.specialIn K u "__get__" = some none
 cp:PySem.W.copiedNames.contains f=false
section
variable {X:Cx} {pins:List (Addr × Obj)} {σ:St} {H:Hp} {s:Shared} {a C dx:Addr} {fs:List (Str × V)} {f:Str} {v:V} {A:Around} {E:Value->Shared->Prop}
end
section
variable {X:Cx} {o e value:Expr} {f:Str} {pos pos' tpos:Pos} {ta tv:TE}
end
section
variable {X:Cx} {pins:List (Addr × Obj)} {σ:St} {H:Hp} {s:Shared} {A:Around} {E:Value->Shared->Prop} {Q:Value->Shared->Prop} {c:Value} {b:Bool}
inductive cO (K:PySem.W.Frag) (H:Hp):V->Value->Prop where
 | non:cO K H .non (.type "NoneType")
 | bl (x:Bool):cO K H (.bl x) (.type "bool")
 | int (i:Int):cO K H (.int i) (.type "int")
 | str (x:Str):cO K H (.str x) (.type "str")
 | flt (x:UInt64):cO K H (.flt x) (.type "float")
 | lst {a:Addr} {xs:List V} (e:H a=some (.lst xs)):cO K H (.ref a) (.type "list")
 | frz {a:Addr} {o:Obj} {xs:List V} (e:H a=some (.frz o (.lst xs))):cO K H (.ref a) (.type "list")
 | tup {a:Addr} {xs:List V} (e:H a=some (.tup xs)):cO K H (.ref a) (.type "tuple")
 | dK {a:Addr} {kvs:List (Key × V)} (e:H a=some (.dK kvs)):cO K H (.ref a) (.type "dict")
 | dT {a:Addr} {kvs:List (List Key × V)} (e:H a=some (.dT kvs)):cO K H (.ref a) (.type "dict")
 | ins {a C dx:Addr} {fs:List (Str × V)} (e:H a=some (.ins C dx fs)) (cl:Cls K C) (ha:PySem.W.findIn K (.ref C) "__class__" = some (some (.builtin "object.__class__")))
   (hn:PySem.W.specialIn K (.builtin "object.__class__") "__get__" = some (some (.builtin "getset_descriptor.__get__"))) (htk:PySem.W.takesIn K (.builtin "object.__class__")=some true)
   (hm:PySem.W.mroIn K C (.type "object")=some true):cO K H (.ref a) (.ref C)
end
end L2
namespace L2
open PySem PySem.Spec PyProof.Rows
structure bJ (k:Nat) (A:Around):Prop where
 hd:A.handled=none
 dp:A.depth+3 * k+5 < recursionLimit
 un:A.units+16 * k+200 < cLine
theorem bJ.deeper {k:Nat} {A:Around} (r:bJ (k+1) A) (env:Env):bJ k (A.deeper env) :=
 ⟨r.hd,by have:=r.dp; show A.depth+1+3 * k+5 < _; omega,by have:=r.un; show A.units+3+16 * k+200 < _; omega⟩
theorem bJ.depth {k:Nat} {A:Around} (r:bJ k A):A.depth < recursionLimit:=by have:=r.dp; omega
theorem bJ.units {k:Nat} {A:Around} (r:bJ k A):A.units+64 < cLine:=by have:=r.un; omega
noncomputable def qA:TA:=fun _ H Q=>Q [] H
noncomputable def CL (ta:TE) (tr:TA):TA:=fun σ H Q=>ta σ H fun x H1=>tr σ H1 fun xs H2=>Q (x::xs) H2
section
variable {X:Cx} {e:Expr} {es:List Expr} {te:TE} {t:TA} {pos:Pos}
theorem iR:PA X [] qA:=fun _ _ _ _ H Q I h=>Calls.spliced_nil ⟨[],H,I,.nil,h⟩
theorem gW (ha:PE X e te) (hr:PA X es t) (hs:starEach (e::es) X.env=(false,eval e X.env)::starEach es X.env:=by rfl):PA X (e::es) (CL te t):=by
 intro pos pins s σ H Q I h
 rw [hs]
 show wpAny _ _ (spliced ((false,eval e X.env)::backTo pos (starEach es X.env))) _ _ s
 refine Calls.spliced_cons (thn (ha pins s σ H _ I h) fun u s1 ⟨x,H1,I1,r1,q1⟩=>?_)
 exact thn (hr pos pins s1 σ H1 _ I1 q1) fun us s2 ⟨xs,H2,I2,r2,q2⟩=>⟨x::xs,H2,I2,.cons r1 r2,q2⟩
noncomputable def Dd (t:TA):TE:=fun σ H Q=>t σ H fun xs H1=>xs.length<=sizeLine/\∀ p,H1 p=none->Q (.ref p) (upd H1 p (.tup xs))
noncomputable def vz (t:TA):TE:=fun σ H Q=>t σ H fun xs H1=>xs.length<=sizeLine/\∀ p,H1 p=none->Q (.ref p) (upd H1 p (.lst xs))
theorem kr {x1} (h:PA X es t):PE X (.Tuple es x1 pos) (Dd t):=by
 intro pins s σ H Q I hq
 refine wpAny_Tuple_spliced (thn (h pos pins s σ H _ I hq) fun us s1 ⟨xs,H1,I1,r,z,q⟩=>⟨by rw [<- r.length]; exact z,?_⟩)
 have hf:H1 s1.heap.objs.size=none:=I1.hok.fresh (Nat.le_refl _)
 refine ⟨.ref s1.heap.objs.size,upd H1 s1.heap.objs.size (.tup xs),I1.laid (t':=s1.toks) (fun b u e=>Heap.get?_push_of_some _ e) (Nat.le_refl _) ?_,rfl,q _ hf⟩
 exact ⟨z,us,r,⟨_,Heap.get?_push_size _ rfl,rfl,_,rfl⟩⟩
theorem AE (h:PA X es t):PE X (.List es pos) (vz t):=by
 intro pins s σ H Q I hq
 refine wpAny_List_spliced (thn (h pos pins s σ H _ I hq) fun us s1 ⟨xs,H1,I1,r,z,q⟩=>⟨by rw [<- r.length]; exact z,?_⟩)
 have hf:H1 s1.heap.objs.size=none:=I1.hok.fresh (Nat.le_refl _)
 refine ⟨.ref s1.heap.objs.size,upd H1 s1.heap.objs.size (.lst xs),I1.laid (t':=s1.toks) (fun b u e=>Heap.get?_push_of_some _ e) (Nat.le_refl _) ?_,rfl,q _ hf⟩
 exact ⟨z,us,0,r,Heap.get?_push_size _ rfl⟩
end
abbrev Sp:=List V->Hp->VK->XK->Prop
abbrev CXT:=List Env->Hp->Shared->XK->Value->Shared->Prop
structure jf (P:Program) (w:World) (K:PySem.W.Frag) (mg:Str->Option Value) (base:Heap) (A:Around) (outer:List Env) (s:Shared) (H:Hp):Prop where
 frames:A.frames=some outer
 mod:Mod K mg base
 bs:∀ b o,base.get? b=some o->s.heap.get? b=some o/\H b=none
 bsz:base.objs.size<=s.heap.objs.size
 cP:s.heap.FunFrames base outer
 frf:∀ b∈frs outer,H b=none
 hok:HOk P w H s.heap
 bare:AllBare s.gens
noncomputable def CE (outer:List Env) (P:Program) (w:World) (H:Hp) (s:Shared) (Q:VK) (u:Value) (s':Shared):Prop :=
 ∃ v H',s'.os=s.os/\AllBare s'.gens/\Un (frs outer) [] H H' s.heap s'.heap/\HOk P w H' s'.heap/\RelV v u/\Q v H'
noncomputable def CR (CX:CXT) (outer:List Env) (P:Program) (w:World) (H:Hp) (s:Shared) (Q:VK) (E:XK) (r:Result) (s':Shared):Prop :=
 match r with
 | .ok (.ret u)=>CE outer P w H s Q u s'
 | .ok _=>False
 | .error e=>CX outer H s E e s'
structure dR (P:Program) (w:World) (K:PySem.W.Frag) (mg:Str->Option Value) (base:Heap) (CX:CXT) (k:Nat) (f:Addr) (fd:FuncData) (ps:List Str) (sp:Sp):Prop where
 len:∀ vs H Q E,sp vs H Q E->vs.length=ps.length
 run:∀ (A:Around) (outer:List Env) (s:Shared) (H:Hp) (args:Args) (us:List Value) (vs:List V) (Q:VK) (E:XK),bJ k A->jf P w K mg base A outer s H->BindsTo s fd args (ps.zip us)->Vals vs us->sp vs H Q E ->
  codeAny (model P w) A (.call (.ref f) args) (CR CX outer P w H s Q E) s
section
variable {X:Cx} {pins:List (Addr × Obj)} {σ:St} {H:Hp} {s s':Shared}
theorem Inv.Ed (I:Inv X pins σ H s):jf X.prog X.w X.K X.mg X.base X.A X.stack s H :=
 ⟨I.ok.frames,I.ok.mod,I.bs,Nat.le_trans I.ok.bsz I.sz,I.stack,I.pQ,I.hok,I.bare⟩
theorem Inv.after {Q:VK} {u:Value} (I:Inv X pins σ H s) (h:CE X.stack X.prog X.w H s Q u s'):EP X pins σ Q u s':=by
 obtain ⟨v,H',os,bare,un,hok,r,q⟩:=h
 obtain ⟨hh,g,d,t,os'⟩:=s'
 obtain rfl:os'=s.os:=os
 exact ⟨v,H',I.call (h':=hh) (g':=g) (d':=d) (t':=t) (ch:=[]) un hok bare (fun b z=>absurd z (by simp)),r,q⟩
end
noncomputable def jF (sp:Sp) (dvs:List V) (E:XK) (t:TA):TE:=fun σ H Q=>t σ H fun vs H1=>sp (vs++dvs) H1 Q E
noncomputable def Binds (K:PySem.W.Frag) (fd:FuncData) (ps:List Str) (ds:List Value):Prop :=
 ∀ (s:Shared) (us:List Value),K.In s.heap->(us++ds).length=ps.length->BindsTo s fd ⟨us,[]⟩ (ps.zip (us++ds))
theorem Binds.all {K:PySem.W.Frag} {fd:FuncData} {ps:List Str} (h:∀ us:List Value,us.length=ps.length->bindArgs fd ⟨us,[]⟩=pure (ps.zip us)):Binds K fd ps []:=fun s us _ hl=>by
 rw [List.append_nil] at hl ⊢
 exact .of_eq (h us hl)
noncomputable def Passes (CX:CXT) (X:Cx) (E:XK):Prop:=∀ (pins:List (Addr × Obj)) (σ:St) (H:Hp) (s:Shared) (e:Value) (s':Shared),Inv X pins σ H s->CX X.stack H s E e s'->X.xe e s'
section
variable {X:Cx} {CX:CXT} {k:Nat} {f C:Addr} {fd:FuncData} {ps:List Str} {sp:Sp} {dvs:List V} {ds:List Value} {E:XK} {x m:Str} {p pos apos:Pos} {e o:Expr} {es:List Expr} {ta:TE} {t:TA}
theorem r9 {pins:List (Addr × Obj)} {σ:St} {H:Hp} {s:Shared} {Q:VK} {us:List Value} {vs:List V} (F:dR X.prog X.w X.K X.mg X.base CX k f fd ps sp) (hr:bJ k X.A) (hb:Binds X.K fd ps ds) (hd:Vals dvs ds) (hx:Passes CX X E)
  (I:Inv X pins σ H s) (r:Vals vs us) (h:sp (vs++dvs) H Q E):wpAny (model X.prog X.w) X.A (call (.ref f) us) (EP X pins σ Q) X.xe s:=by
 have r2:Vals (vs++dvs) (us++ds):=r.append hd
 have hl:(us++ds).length=ps.length:=by rw [<- r2.length]; exact F.len _ _ _ _ h
 refine wpAny_call (codeAny_mono (F.run X.A X.stack s H ⟨us,[]⟩ (us++ds) (vs++dvs) Q E hr I.Ed (hb s us I.kIn hl) r2 h) fun r s' hq=>?_)
 cases r with
 | error e=>exact hx pins σ H s e s' I hq
 | ok fl =>
  cases fl with
  | ret u=>exact I.after hq
  | next=>exact False.elim hq
  | brk=>exact False.elim hq
  | cont=>exact False.elim hq
theorem wV (F:dR X.prog X.w X.K X.mg X.base CX k f fd ps sp) (hr:bJ k X.A) (hg:Gl X x) (hm:X.mg x=some (.ref f)) (hk:PySem.W.keepIn X.K (.ref f)=true) (hb:Binds X.K fd ps ds) (hd:Vals dvs ds) (hx:Passes CX X E)
  (ha:PA X (e::es) t) (hdb:(x==("__debug__" : Str))=false:=by decide) (he:starEach (e::es) X.env=(false,eval e X.env)::starEach es X.env:=by rfl) (hpl:(backTo pos (starEach es X.env)).any (·.1)=false:=by rfl) :
  PE X (.Call (.Name x p) (e::es) [] pos) (jF sp dvs E t):=by
 intro pins s σ H Q I h
 refine wpAny_Call_Name_kw (kZ I hg hm ?_ hdb)
 refine PySem.W.callWith_K (h₀:=X.base) I.ok.mod.kin hk (thn (ha pos pins s σ H _ I h) fun us s1 ⟨vs,H1,I1,r,q⟩=>⟨I1.kIn,?_⟩) he hpl
 exact r9 F hr hb hd hx I1 r q
theorem Ce (F:dR X.prog X.w X.K X.mg X.base CX k f fd ps sp) (hr:bJ k X.A) (hg:Gl X x) (hm:X.mg x=some (.ref f)) (hk:PySem.W.keepIn X.K (.ref f)=true) (hb:Binds X.K fd ps ds) (hd:Vals dvs ds) (hx:Passes CX X E)
  (hdb:(x==("__debug__" : Str))=false:=by decide):PE X (.Call (.Name x p) [] [] pos) (jF sp dvs E qA):=by
 intro pins s σ H Q I h
 refine wpAny_Call_Name_kw (kZ I hg hm ?_ hdb)
 exact PySem.W.callWith_K0 I.kIn hk (r9 (us:=[]) F hr hb hd hx I .nil h)
structure Mk (K:PySem.W.Frag) (C f:Addr):Prop where
 makes:PySem.W.makesIn K C=true
 init:PySem.W.findIn K (.ref C) "__init__" = some (some (.ref f))
 fn:PySem.W.isFn K (.ref f)=true
 kp:PySem.W.keepIn K (.ref C)=true
end
section
variable {X:Cx} {CX:CXT} {k:Nat} {f C:Addr} {fd:FuncData} {ps ks:List Str} {sp:Sp} {E:XK} {x m:Str} {p pos apos kpos:Pos} {e o:Expr} {es:List Expr} {kws:List Keyword} {te ta:TE} {t tk:TA} {nm:Option Str}
structure FA (K:PySem.W.Frag) (fd:FuncData) (ps ks:List Str) (g:List Value->List Value->List Value) (gV:List V->List V->List V):Prop where
 to:∀ (s:Shared) (us ws:List Value),K.In s.heap->(g us ws).length=ps.length->BindsTo s fd ⟨us,ks.zip ws⟩ (ps.zip (g us ws))
 rel:∀ {vs:List V} {us:List Value} {zs:List V} {ws:List Value},Vals vs us->Vals zs ws->Vals (gV vs zs) (g us ws)
variable {g:List Value->List Value->List Value} {gV:List V->List V->List V}
end
structure jU (N P:List Str) (sc:Scope):Prop where
 kind:sc.kind=.function
 co:sc.isCoroutine=false
 gen:sc.isGenerator=false
 nd:N.Nodup
 pre:N.take P.length=P
 par:∀ x∈P,sc.names.lookup x=some .local\/sc.names.lookup x=some .cell
 nofree:∀ y∈sc.names,y.2≠.free
theorem rJ {kindOf:Str->Option NameKind} {x:Str}:∀ {binds:List (Str × Value)} {m:Str->Option Value},(∀ v,(x,v) ∉ binds)->bindL kindOf binds m x=m x
 | [],_,_=>rfl
 | (n,v)::r,m,h=>by
  unfold bindL
  rw [rJ fun w hw=>h w (List.mem_cons_of_mem _ hw)]
  split
  ·have:x≠n:=by rintro rfl; exact h v List.mem_cons_self
   simp [this]
  ·rfl
theorem qS {kindOf:Str->Option NameKind} {x:Str}:∀ {binds:List (Str × Value)} {m:Str->Option Value},(∀ v,(x,v) ∉ binds)->bindC kindOf binds m x=m x
 | [],_,_=>rfl
 | (n,v)::r,m,h=>by
  unfold bindC
  rw [qS fun w hw=>h w (List.mem_cons_of_mem _ hw)]
  split
  ·rfl
  ·have:x≠n:=by rintro rfl; exact h v List.mem_cons_self
   simp [this]
theorem qh {kindOf:Str->Option NameKind} {x:Str} {v:Value}:∀ {P:List Str} {vs:List Value} {i:Nat} {m:Str->Option Value},P.Nodup->P[i]?=some x->vs[i]?=some v->kindOf x=some .local ->
  bindL kindOf (P.zip vs) m x=some v
 | [],_,_,_,_,h,_,_=>by simp at h
 | _::_,[],_,_,_,_,h,_=>by simp at h
 | p::P,w::vs,0,m,nd,h1,h2,hk=>by
  simp at h1 h2; subst h1; subst h2
  show bindL kindOf ((p,w)::P.zip vs) m p=_
  unfold bindL
  rw [rJ fun v hv=>(List.nodup_cons.mp nd).1 (List.of_mem_zip hv).1,if_pos hk]
  simp
 | p::P,w::vs,i+1,m,nd,h1,h2,hk=>by
  show bindL kindOf ((p,w)::P.zip vs) m x=_
  unfold bindL
  exact qh (i:=i) (List.nodup_cons.mp nd).2 (by simpa using h1) (by simpa using h2) hk
theorem r8 {kindOf:Str->Option NameKind} {x:Str} {v:Value}:∀ {P:List Str} {vs:List Value} {i:Nat} {m:Str->Option Value},P.Nodup->P[i]?=some x->vs[i]?=some v->kindOf x≠some .local ->
  bindC kindOf (P.zip vs) m x=some v
 | [],_,_,_,_,h,_,_=>by simp at h
 | _::_,[],_,_,_,_,h,_=>by simp at h
 | p::P,w::vs,0,m,nd,h1,h2,hk=>by
  simp at h1 h2; subst h1; subst h2
  show bindC kindOf ((p,w)::P.zip vs) m p=_
  unfold bindC
  rw [qS fun v hv=>(List.nodup_cons.mp nd).1 (List.of_mem_zip hv).1,if_neg hk]
  simp
 | p::P,w::vs,i+1,m,nd,h1,h2,hk=>by
  show bindC kindOf ((p,w)::P.zip vs) m x=_
  unfold bindC
  exact r8 (i:=i) (List.nodup_cons.mp nd).2 (by simpa using h1) (by simpa using h2) hk
noncomputable def start (N:List Str) (vs:List V):St:=vs.map some++List.replicate (N.length - vs.length) none
noncomputable def d9 (CX:CXT) (P:Program) (w:World) (K:PySem.W.Frag) (mg:Str->Option Value) (base:Heap) (N:List Str) (qual:Str) (scope:Scope) (f:Addr) (cd:Value) (A:Around) (outer:List Env) (s:Shared) (H:Hp) (E:XK):Cx where
 prog:=P
 w:=w
 K:=K
 mg:=mg
 base:=base
 A:=A.deeper (envOfC qual scope s.heap.objs.size f cd)
 N:=N
 s₀:=s
 H₀:=H
 env:=envOfC qual scope s.heap.objs.size f cd
 outer:=outer
 stack:=envOfC qual scope s.heap.objs.size f cd::outer
 ex:=[]
 calm:=true
 fn:=fun _=>true
 pn:=[]
 xe:=fun e s'=>wpAny (model P w) (A.deeper (envOfC qual scope s.heap.objs.size f cd)) (leaving (envOfC qual scope s.heap.objs.size f cd) e) (fun _ s''=>CX outer H s E e s'') (fun e' s''=>CX outer H s E e' s'') s'
theorem kL {sc:Scope} {n:Nat} {x:Str} (h:sc.names.lookup x=some .cell):∃ c,(cellsFrom n sc.names []).lookup x=some c:=by
 have q:=PySem.W.cellsFrom_some sc.names n [] (.inl h)
 exact Option.isSome_iff_exists.mp q
theorem yY {CX:CXT} {P:Program} {w:World} {K:PySem.W.Frag} {mg:Str->Option Value} {base:Heap} {N ps:List Str} {qual:Str} {scope:Scope} {f:Addr} {cd:Value} {A:Around} {outer:List Env} {s s1:Shared} {H:Hp} {E:XK} {us:List Value} {vs:List V}
  (S:jU N ps scope) (hd:A.handled=none) (e0:jf P w K mg base A outer s H) (hl:vs.length=ps.length) (r:Vals vs us)
  (x:InCallC s s.heap.objs.size (bindL (envOfC qual scope s.heap.objs.size f cd).kindOf (ps.zip us) fun _=>none) (cellsFrom (s.heap.objs.size+1) scope.names []) (bindC (envOfC qual scope s.heap.objs.size f cd).kindOf (ps.zip us) fun _=>none) s1) :
  Inv (d9 CX P w K mg base N qual scope f cd A outer s H E) [] (start N vs) H s1:=by
 have hpl:ps.length<=N.length:=by have:=congrArg List.length S.pre; rw [List.length_take] at this; omega
 obtain ⟨h1,tk,rfl,hk⟩:=x.done
 have noA:∀ b:Addr,b ∉ (d9 CX P w K mg base N qual scope f cd A outer s H E).ex:=fun b z=>absurd (show b∈([]:List Addr) from z) (by simp)
 refine ⟨⟨e0.mod,S.kind,rfl,rfl,Nat.le_refl _,fun y z c h1 h2=>?_,fun y hy=>?_,fun y c _ h=>?_,fun _=>hd,Around.frames_deeper e0.frames,.inr ⟨rfl,rfl⟩,fun b z=>absurd z (noA b),e0.bs,e0.bsz,fun b _ _=>noA b,fun b z=>absurd z (noA b),e0.cP,e0.frf⟩,
  rfl,e0.bare,Un.kept hk,⟨_,x.toInCall.ns,fun i y v h1 h2 h3=>?_⟩,fun y c h=>⟨_,x.cell y c h⟩,e0.hok.fresh (Nat.le_refl _),fun y c h=>?_,fun p hp=>absurd (show p∈([]:List (Addr × Obj)) from hp) (by simp),e0.hok.kept hk,?_⟩
 ·exact name_of_addr x.apart (PySem.mem_of_lookup h1) (PySem.mem_of_lookup h2)
 ·have hy:scope.names.lookup y=some .cell\/scope.names.lookup y=some .free:=hy
  rcases hy with hy|hy
  ·exact kL hy
  ·exact absurd rfl (S.nofree _ (PySem.mem_of_lookup hy))
 ·exact Nat.le_of_lt (x.above y c (PySem.mem_of_lookup h))
 ·have hi:i < vs.length:=by
   unfold start at h2
   by_cases hi:i < vs.length
   ·exact hi
   ·rw [List.getElem?_append_right (by simpa using hi)] at h2
    rw [List.getElem?_replicate] at h2
    split at h2 <;> cases h2
  have ha:vs[i]?=some v:=by
   unfold start at h2
   rw [List.getElem?_append_left (by simpa using hi),List.getElem?_map] at h2
   cases e:vs[i]? with
   | none=>rw [e] at h2; cases h2
   | some a=>rw [e] at h2; cases h2; rfl
  obtain ⟨u,hu,rv⟩:=r.get ha
  have hp:ps[i]?=some y:=by
   rw [<- S.pre,List.getElem?_take_of_lt (by omega)]; exact h1
  have ndP:ps.Nodup:=by rw [<- S.pre]; exact S.nd.sublist (List.take_sublist _ _)
  refine ⟨u,rv,?_⟩
  rcases S.par y (List.mem_of_getElem? hp) with k|k
  ·exact .inl ⟨k,qh ndP hp hu k⟩
  ·obtain ⟨c,e⟩:=kL (n:=s.heap.objs.size+1) k
   refine .inr ⟨.inl k,c,e,?_⟩
   have q:=x.cell y c e
   rw [r8 ndP hp hu (by show scope.names.lookup y≠_; rw [k]; decide)] at q
   exact q
 ·exact e0.hok.fresh (Nat.le_of_lt (x.above y c (PySem.mem_of_lookup h)))
 ·unfold start
  show _=N.length
  rw [List.length_append,List.length_map,List.length_replicate]
  omega
theorem Cp {CX:CXT} {P:Program} {w:World} {K:PySem.W.Frag} {mg:Str->Option Value} {base:Heap} {k:Nat} {f:Addr} {name qual:Str} {params:Arguments} {body:List Stmt} {scope:Scope} {dV kV doc pm cdv ct oc:Value} {an od:Option Addr}
  {osl:Array (Option Value)} {N ps:List Str} {sp:Sp} (lk:K.lookup f=some ⟨oc,od,.func (PySem.W.fnOf name qual params body scope dV kV doc pm an cdv ct),osl⟩) (hcd:PySem.W.codeIn K cdv qual=true) (S:jU N ps scope)
  (len:∀ vs H Q E,sp vs H Q E->vs.length=ps.length)
  (hbody:∀ (A:Around) (outer:List Env) (s:Shared) (H:Hp) (vs:List V) (Q:VK) (E:XK),bJ k (A.deeper (envOfC qual scope s.heap.objs.size f cdv))->sp vs H Q E ->
   ∃ t,PSs (d9 CX P w K mg base N qual scope f cdv A outer s H E) body t/\t { nx:=fun _ H'=>Q .non H',rt:=Q } (start N vs) H) :
  dR P w K mg base CX (k+1) f (PySem.W.fnOf name qual params body scope dV kV doc pm an cdv ct) ps sp:=by
 refine ⟨len,fun A outer s H args us vs Q E hr e0 hb r hsp=>?_⟩
 have hl:=len _ _ _ _ hsp
 have KX:K.In s.heap:=e0.mod.kin.keeps fun b o e=>(e0.bs b o e).1
 have lim:s.heap.NoLimit:=e0.mod.nolimit.keeps fun b o e=>(e0.bs b o e).1
 have hkind:∀ y∈ps.zip us,scope.names.lookup y.1=some .local\/(scope.names.lookup y.1=some .cell/\((cellsFrom (s.heap.objs.size+1) scope.names []).lookup y.1).isSome=true):=fun ⟨n,v⟩ hy=>by
  rcases S.par n (List.of_mem_zip hy).1 with q|q
  ·exact .inl q
  ·exact .inr ⟨q,PySem.W.cellsFrom_some _ _ _ (.inl q)⟩
 refine codeAny_call_function hr.depth (KX _ _ lk) rfl S.co S.gen rfl (PySem.W.codeRec_of KX hcd) (hb _ _ _ _ ?_)
 refine wpAny_newFunctionEnv_cells S.kind hkind fun env he s1 x=>?_
 subst he
 refine ⟨lim.keeps x.toInCall.keep,codeAny_func ?_⟩
 obtain ⟨t,ht,hq⟩:=hbody A outer s H vs Q E (hr.deeper _) hsp
 have I:Inv (d9 CX P w K mg base N qual scope f cdv A outer s H E) [] (start N vs) H s1:=yY S hr.hd e0 hl r x
 refine wpAny_mono (ht [] s1 (start N vs) H _ I hq) (fun fl s' hs=>?_) fun e s' hs=>hs
 have fin:∀ {σ':St} {H':Hp} {v:V} {u:Value},Inv (d9 CX P w K mg base N qual scope f cdv A outer s H E) [] σ' H' s'->RelV v u->Q v H'->CE outer P w H s Q u s' :=
  fun {σ' H' v u} J rv q=>⟨v,H',J.os,J.bare,J.base,J.hok,rv,q⟩
 cases fl with
 | ret u =>
  obtain ⟨v,σ',H',J,rv,q⟩:=hs
  exact fin J rv q
 | next =>
  obtain ⟨σ',H',J,q⟩:=hs
  exact fin (v:=V.non) (u:=Value.none) J rfl q
 | brk =>
  obtain ⟨_,_,_,q⟩:=hs
  exact False.elim q
 | cont =>
  obtain ⟨_,_,_,q⟩:=hs
  exact False.elim q
end L2
namespace L2
open PySem PySem.Spec PyProof.Rows
section
variable {X:Cx} {x:Str} {p pos:Pos} {e:Expr} {es:List Expr} {t:TA} {id T:String} {r:List V->Hp->VK->Prop}
noncomputable def tCB (r:List V->Hp->VK->Prop) (t:TA):TE:=fun σ H Q=>t σ H fun vs H1=>r vs H1 Q
theorem qv (hc:bz X (.builtin id) r) (hg:Gl X x) (hm:X.mg x=none) (hv:bootBuiltins x=some (.builtin id)) (ha:PA X (e::es) t) (hn:x≠"__name__":=by decide) (hdb:(x==("__debug__" : Str))=false:=by decide)
  (he:starEach (e::es) X.env=(false,eval e X.env)::starEach es X.env:=by rfl) (hpl:(backTo pos (starEach es X.env)).any (·.1)=false:=by rfl):PE X (.Call (.Name x p) (e::es) [] pos) (tCB r t):=by
 intro pins s σ H Q I h
 refine wpAny_Call_Name_kw (cF I hg hm hv ?_ hn hdb)
 exact PyProof.Rows.callWith_builtin1 (thn (ha pos pins s σ H _ I h) fun us s1 ⟨vs,H1,I1,r1,q1⟩=>hc pins s1 σ H1 vs us Q I1 r1 q1) he hpl
theorem qx (hc:bz X (.type T) r) (hg:Gl X x) (hm:X.mg x=none) (hv:bootBuiltins x=some (.type T)) (ha:PA X (e::es) t) (hn:x≠"__name__":=by decide) (hdb:(x==("__debug__" : Str))=false:=by decide)
  (he:starEach (e::es) X.env=(false,eval e X.env)::starEach es X.env:=by rfl) (hpl:(backTo pos (starEach es X.env)).any (·.1)=false:=by rfl):PE X (.Call (.Name x p) (e::es) [] pos) (tCB r t):=by
 intro pins s σ H Q I h
 refine wpAny_Call_Name_kw (cF I hg hm hv ?_ hn hdb)
 exact PyProof.Rows.callWith_type1 (thn (ha pos pins s σ H _ I h) fun us s1 ⟨vs,H1,I1,r1,q1⟩=>hc pins s1 σ H1 vs us Q I1 r1 q1) he hpl
end
end L2
namespace HT
open PySem PyProof.Rows
section
open PySem.SeqAt
open PySem.AutoSeq1 (wpAny_loadPart')
open PySem.MeetsSeq PySem.MeetsSeq2 PySem.MeetsSeq3
end
section
variable {prog:Program} {w:World} {A:Around} {E:Value->Shared->Prop} {s:Shared}
theorem zY {t b:Addr} {vs ws:List Value} {Q:Value->Shared->Prop} (ht:IsTup s.heap t vs.toArray) (hb:IsTup s.heap b ws.toArray) (hv:vs≠[])
  (h1:ws=[]->Q (.ref t) s) (h2:ws≠[]->Q (.ref s.heap.objs.size) { s with heap:=s.heap.push { cls:=.type "tuple",data:=.seq (vs++ws).toArray } })
  (hsz:vs.length+ws.length<=sizeLine):wpAny (model prog w) A (binaryOp .Add (.ref t) (.ref b)) Q E s:=by
 obtain ⟨⟨cls,dd,data,sl⟩,ho,hc,n,hd⟩:=id ht
 obtain ⟨⟨cls2,dd2,data2,sl2⟩,ho2,hc2,n2,hd2⟩:=id hb
 simp only at hc hd hc2 hd2
 subst hc hd hc2 hd2
 have e:vs.toArray++ws.toArray=(vs++ws).toArray:=by simp
 by_cases hw:ws=[]
 ·exact concat_meets ⟨_,ho,rfl⟩ ⟨_,ho2,rfl⟩ noFill_tuple_add seq_tuple_add PySem.F.slot_tuple_add PySem.F.entry_tuple_add (PySem.F.args_tuple_add_2 _ _)
   (tuple_addW1 t b vs.toArray ws.toArray n n2 dd dd2 sl sl2 (by simpa using hv) (by simp [hw])) ⟨ho,ho2,h1 hw⟩
 ·refine concat_meets ⟨_,ho,rfl⟩ ⟨_,ho2,rfl⟩ noFill_tuple_add seq_tuple_add PySem.F.slot_tuple_add PySem.F.entry_tuple_add (PySem.F.args_tuple_add_2 _ _)
   (tuple_addW2 t b vs.toArray ws.toArray n n2 dd dd2 sl sl2 (by simpa using hv) (by simpa using hw) (by rw [List.size_toArray,List.size_toArray]; exact hsz)) ⟨ho,ho2,?_⟩
  rw [e]
  exact h2 hw
noncomputable def sIx (n d:Nat):Option Int->Nat
 | none=>d
 | some v=>if v < 0 then (v+(n:Int)).toNat else min v.toNat n
theorem zX (n d:Nat) (hd:d<=n) (o:Option Int):sIx n d o<=n:=by
 cases o with
 | none=>exact hd
 | some v =>
  show (if v < 0 then (v+(n:Int)).toNat else min v.toNat n)<=n
  by_cases hv:v < 0
  ·rw [if_pos hv]; omega
  ·rw [if_neg hv]; exact Nat.min_le_right _ _
theorem p9 (v:Int) (n d:Nat):(if v < 0 then max (v+(n:Int)) 0 else min v (n:Int))=((sIx n d (some v):Nat):Int):=by
 show (if v < 0 then max (v+(n:Int)) 0 else min v (n:Int))=(((if v < 0 then (v+(n:Int)).toNat else min v.toNat n):Nat):Int)
 by_cases hv:v < 0
 ·simp only [if_pos hv]; omega
 ·simp only [if_neg hv]; omega
theorem DP (lo hi:Option Int) (n:Nat):Builtin.Slice.sliceAdjust lo hi 1 (n:Int)=(((sIx n 0 lo:Nat):Int),((sIx n n hi:Nat):Int)):=by
 have h1:¬ ((1:Int) < 0):=by omega
 unfold Builtin.Slice.sliceAdjust
 simp only [h1,if_false]
 refine Prod.ext ?_ ?_
 ·cases lo with
  | none=>rfl
  | some v=>exact p9 v n 0
 ·cases hi with
  | none=>rfl
  | some v=>exact p9 v n n
theorem wL (i j:Nat):Builtin.Slice.slicePlaces (i:Int) (j:Int) 1=j - i:=by
 unfold Builtin.Slice.slicePlaces
 have h1:(1:Int) > 0:=by omega
 simp only [h1,if_true,Int.ediv_one]
 split <;> omega
theorem sP {v:Value} {o:Option Int} {Q:Option Int->Shared->Prop} (p:IsPart v o) (h:Q o s):wpAny (model prog w) A (Builtin.Slice.slicePartIndex v) Q E s:=by
 cases p with
 | none=>exact slicePart_none h
 | int i t=>exact slicePart_int h
theorem sL {sl:Addr} {vl vu:Value} {lo hi:Option Int} {n:Nat} {Q:Int × Int × Nat->Shared->Prop} (hs:s.heap.IsSliceOf sl vl vu .none) (pl:IsPart vl lo) (pu:IsPart vu hi)
  (h:Q (((sIx n 0 lo:Nat):Int),1,sIx n n hi - sIx n 0 lo) s):wpAny (model prog w) A (Builtin.Slice.sliceApplied (.ref sl) (pure (n:Int))) Q E s:=by
 obtain ⟨os,hos,hcs,hds⟩:=id hs
 unfold Builtin.Slice.sliceApplied Builtin.Slice.sliceFields
 refine wpAny_bind (wpAny_bind (wpAny_field hos hds (x:=vl) rfl (wpAny_bind (wpAny_field hos hds (x:=vu) rfl (wpAny_bind (wpAny_field hos hds (x:=.none) rfl (wpAny_pure ?_)))))))
 refine wpAny_bind (slicePart_none ?_)
 show wpAny _ _ (if ((1:Int)==0)=true then _ else _) _ _ s
 rw [if_neg (by decide)]
 refine wpAny_bind (sP pl (wpAny_bind (sP pu (wpAny_bind (wpAny_pure ?_)))))
 show wpAny _ _ (match Builtin.Slice.sliceAdjust lo hi 1 (n:Int) with|(lo,hi)=>pure (lo,(1:Int),Builtin.Slice.slicePlaces lo hi 1)) _ _ s
 rw [DP lo hi n]
 show wpAny _ _ (pure (((sIx n 0 lo:Nat):Int),(1:Int),Builtin.Slice.slicePlaces ((sIx n 0 lo:Nat):Int) ((sIx n n hi:Nat):Int) 1)) _ _ s
 rw [wL]
 exact wpAny_pure h
theorem x9 (xs:Array Value) (i k:Nat):((List.range k).filterMap fun (m:Nat)=>xs[((i:Int)+(m:Int) * 1).toNat]?).toArray=((xs.toList.drop i).take k).toArray:=by
 have e:(fun (m:Nat)=>xs[((i:Int)+(m:Int) * 1).toNat]?)=fun m=>xs[i+m]?:=by
  funext m
  have:((i:Int)+(m:Int) * 1).toNat=i+m:=by omega
  rw [this]
 rw [e]
 have:=pick_run xs i k
 rw [List.filterMap_map] at this
 have e2:((fun x=>xs[x]?) ∘ fun x=>i+x)=fun m=>xs[i+m]?:=rfl
 rw [e2] at this
 rw [this]
theorem vp {t sl:Addr} {items:Array Value} {vl vu:Value} {lo hi:Option Int} {Q:Value->Shared->Prop} (ht:IsTup s.heap t items) (hs:s.heap.IsSliceOf sl vl vu .none) (pl:IsPart vl lo) (pu:IsPart vu hi)
  (hw:¬ (sIx items.size 0 lo=0/\sIx items.size items.size hi=items.size))
  (h:Q (.ref s.heap.objs.size) { s with heap:=s.heap.push { cls:=.type "tuple",data:=.seq ((items.toList.drop (sIx items.size 0 lo)).take (sIx items.size items.size hi - sIx items.size 0 lo)).toArray } })
  (hsz:items.size<=sizeLine):wpAny (model prog w) A (getItem (.ref t) (.ref sl)) Q E s:=by
 have htake:sizeOk (.seq ((items.toList.drop (sIx items.size 0 lo)).take (sIx items.size items.size hi - sIx items.size 0 lo)).toArray):=by
  show ((items.toList.drop (sIx items.size 0 lo)).take (sIx items.size items.size hi - sIx items.size 0 lo)).toArray.size<=sizeLine
  rw [List.size_toArray,List.length_take,List.length_drop,Array.length_toList]
  omega
 have hj:sIx items.size items.size hi<=items.size:=zX _ _ (Nat.le_refl _) hi
 obtain ⟨os,hos,hcs,hds⟩:=id hs
 have hTs:s.TypeIs (.ref sl) "slice":=⟨os,hos,hcs⟩
 unfold getItem
 try with_reducible refine wpAny_holding ?_
 first|refine wpAny_bind (wpAny_pure ?_)|skip
 refine wpAny_bind (wpAny_sequenceKey ht.typeIs (by decide) ?_)
 refine wpAny_bind (wpAny_callSpecial?_slot (name:=Str.ofString "__getitem__") ht.typeIs PyProof.Rows.slot_tuple_getitem
  (wpAny_call_entry PyProof.Rows.slot_tuple_getitem ht.typeIs entry_tuple_getitem ?_ (args_tuple_getitem _ _)))
 show wpAny _ _ (Builtin.Tuple.tupleItemsOf (.ref t)>>=_) _ _ s
 refine wpAny_bind (tupleItemsOf_ ht ?_)
 refine wpAny_bind (wpAny_typeOf hTs ?_)
 rw [if_pos (by decide)]
 refine wpAny_bind (sL hs pl pu ?_)
 have hno:¬ ((((sIx items.size 0 lo:Nat):Int)==0&&(1:Int)==1&&(sIx items.size items.size hi - sIx items.size 0 lo)==items.size)=true):=by
  intro q
  rw [Bool.and_eq_true,Bool.and_eq_true] at q
  have q1:((sIx items.size 0 lo:Nat):Int)=0:=eq_of_beq q.1.1
  have q2:sIx items.size items.size hi - sIx items.size 0 lo=items.size:=eq_of_beq q.2
  exact hw ⟨by omega,by omega⟩
 show wpAny _ _ (if (((sIx items.size 0 lo:Nat):Int)==0&&(1:Int)==1&&(sIx items.size items.size hi - sIx items.size 0 lo)==items.size)=true then _ else _) _ _ s
 rw [if_neg hno,x9]
 first
  | exact wpAny_bind (m:=Builtin.Tuple.tupleExact _) (wpAny_newObj_type (wpAny_pure ⟨_,rfl,wpAny_pure h⟩) htake)
  | exact wpAny_bind (m:=Builtin.Tuple.tupleExact _) (wpAny_newObj_type (wpAny_bind (wpAny_pure (wpAny_pure ⟨_,rfl,wpAny_pure h⟩))) htake)
  | exact wpAny_bind (wpAny_bind (m:=Builtin.Tuple.tupleExact _) (wpAny_newObj_type (wpAny_pure (wpAny_pure ⟨_,rfl,wpAny_pure h⟩)) htake))
  | exact wpAny_bind (wpAny_bind (m:=Builtin.Tuple.tupleExact _) (wpAny_newObj_type (wpAny_pure ⟨_,rfl,wpAny_pure h⟩) htake))
end
end HT
namespace L2
open PySem PySem.Spec PyProof.Rows
abbrev TO:=St->Hp->(Option Int->Hp->Prop)->Prop
noncomputable def PO (X:Cx) (e:Option Expr) (t:TO):Prop :=
 ∀ (pins:List (Addr × Obj)) (s:Shared) (σ:St) (H:Hp) (Q:Option Int->Hp->Prop),Inv X pins σ H s->t σ H Q ->
  wpAny (model X.prog X.w) X.A (evalPart e X.env) (fun u s'=>∃ o H',Inv X pins σ H' s'/\IsPart u o/\Q o H') X.xe s
noncomputable def uw:TO:=fun _ H Q=>Q none H
noncomputable def AJ (t:TE):TO:=fun σ H Q=>t σ H fun x H1=>∃ i,x=.int i/\Q (some i) H1
theorem intsAre_of {ns:List Int}:∀ {us:List Value},Vals (ns.map V.int) us->IntsAre us ns:=by
 induction ns with
 | nil=>intro us r; rw [List.map_nil] at r; cases r; exact .nil
 | cons n ns ih =>
  intro us r
  rw [List.map_cons] at r
  cases r with
  | cons r1 r2 =>
   obtain ⟨t,e⟩:=r1
   subst e
   exact .cons n t (ih r2)
section
variable {X:Cx} {e:Expr} {te:TE} {lo hi:Option Expr} {tl th:TO} {pos p2:Pos}
theorem xG:PO X none uw:=by
 intro pins s σ H Q I h
 rw [evalPart_none]
 exact wpAny_pure ⟨none,H,I,.none,h⟩
theorem vX (h:PE X e te):PO X (some e) (AJ te):=by
 intro pins s σ H Q I hw
 rw [evalPart_some]
 refine thn (h pins s σ H _ I hw) fun u s1 ⟨x,H1,I1,r1,q1⟩=>?_
 obtain ⟨i,rfl,q⟩:=q1
 obtain ⟨t,rfl⟩:=r1
 exact ⟨some i,H1,I1,.int i t,q⟩
noncomputable def SlR (X:Cx) (r:V->Option Int->Option Int->Hp->VK->Prop):Prop :=
 ∀ (pins:List (Addr × Obj)) (s:Shared) (σ:St) (H:Hp) (x:V) (v vl vu:Value) (lo hi:Option Int) (sl:Addr) (Q:VK),Inv X pins σ H s->RelV x v->s.heap.IsSliceOf sl vl vu .none->IsPart vl lo->IsPart vu hi->r x lo hi H Q ->
  ∃ T id,typeLookup (.type T) "__getitem__" = pure (some (.builtin id))/\s.TypeIs v T/\wpAny (model X.prog X.w) X.A (getItem v (.ref sl)) (EP X pins σ Q) X.xe s
noncomputable def tSl (r:V->Option Int->Option Int->Hp->VK->Prop) (te:TE) (tl th:TO):TE:=fun σ H Q=>te σ H fun x H1=>tl σ H1 fun l H2=>th σ H2 fun u H3=>r x l u H3 Q
theorem CA {r:V->Option Int->Option Int->Hp->VK->Prop} (hr:SlR X r) (he:PE X e te) (hl:PO X lo tl) (hu:PO X hi th):PE X (.Subscript e (.Slice lo hi none p2) pos) (tSl r te tl th):=by
 intro pins s σ H Q I h
 refine Subscript_ (thn (he pins s σ H _ I h) fun v s1 ⟨x,H1,I1,r1,q1⟩=>?_)
 refine wpAny_Slice (thn (hl pins s1 σ H1 _ I1 q1) fun vl s2 ⟨l,H2,I2,pl,q2⟩=>thn (hu pins s2 σ H2 _ I2 q2) fun vu s3 ⟨u,H3,I3,pu,q3⟩=>?_)
 rw [evalPart_none]
 refine wpAny_pure ?_
 have I4:Inv X pins σ H3 { s3 with heap:=s3.heap.push { cls:=.type "slice",data:=.fields #[vl,vu,.none] } }:=I3.kept (t':=s3.toks) fun b ob q=>Heap.get?_push_of_some _ q
 obtain ⟨T,id,hT,ht,hg⟩:=hr pins { s3 with heap:=s3.heap.push { cls:=.type "slice",data:=.fields #[vl,vu,.none] } } σ H3 x v vl vu l u s3.heap.objs.size Q I4 r1 (Heap.IsSliceOf.new ..) pl pu q3
 show wpAny (model X.prog X.w) X.A (subscriptTail e (.Slice lo hi none p2) v (.ref s3.heap.objs.size)) (EP X pins σ Q) X.xe { s3 with heap:=s3.heap.push { cls:=.type "slice",data:=.fields #[vl,vu,.none] } }
 exact tail_any (ops:=[.ref s3.heap.objs.size,v]) ht hT hg (by with_unfolding_all rfl)
noncomputable def cZ (xs:List V) (lo hi:Option Int):List V:=(xs.drop (HT.sIx xs.length 0 lo)).take (HT.sIx xs.length xs.length hi - HT.sIx xs.length 0 lo)
theorem nu (xs:List V) (lo hi:Option Int):(cZ xs lo hi).length<=xs.length:=by
 unfold cZ
 rw [List.length_take,List.length_drop]
 omega
noncomputable def Ef (K:PySem.W.Frag):V->Option Int->Option Int->Hp->VK->Prop:=fun x lo hi H Q=>∃ a xs,x=.ref a/\SqT K H a xs /\
 ¬ (HT.sIx xs.length 0 lo=0/\HT.sIx xs.length xs.length hi=xs.length)/\∀ p,H p=none->Q (.ref p) (upd H p (.tup (cZ xs lo hi)))
theorem AQ:SlR X (Ef X.K):=by
 intro pins s σ H x v vl vu lo hi sl Q I rx hs pl pu h
 obtain ⟨a,xs,rfl,hx,hw,q⟩:=h
 cases rx
 obtain ⟨its,r,ht,hz⟩:=I.tuple hx
 have hlen:its.toArray.size=xs.length:=by rw [List.size_toArray]; exact r.length.symm
 refine ⟨"tuple",_,PyProof.Rows.slot_tuple_getitem.lookup,ht.typeIs,?_⟩
 refine HT.vp ht hs pl pu (by rw [hlen]; exact hw) ?_ (by rw [hlen]; exact hz)
 rw [hlen]
 refine ⟨.ref s.heap.objs.size,_,I.laid (t':=s.toks) (o:=.tup (cZ xs lo hi)) (fun b ob q=>Heap.get?_push_of_some _ q) (Nat.le_refl _) ?_,rfl,q _ (I.hok.fresh (Nat.le_refl _))⟩
 exact ⟨Nat.le_trans (nu xs lo hi) hz,_,(r.drop (HT.sIx xs.length 0 lo)).take (HT.sIx xs.length xs.length hi - HT.sIx xs.length 0 lo),IsTup.new _ _⟩
noncomputable def E8 (K:PySem.W.Frag):R2:=fun x y H Q=>∃ a b xs ys,x=.ref a/\y=.ref b/\SqT K H a xs/\SqT K H b ys/\xs≠[]/\xs.length+ys.length<=sizeLine /\
 (ys=[]->Q (.ref a) H)/\(ys≠[]->∀ p,H p=none->Q (.ref p) (upd H p (.tup (xs++ys))))
theorem Vals.k8 {xs:List V} {us:List Value} (r:Vals xs us):us=[] ↔ xs=[]:=by
 cases r with
 | nil=>simp
 | cons _ _=>simp
theorem ES:OpR X (binaryOp .Add) (E8 X.K):=by
 intro pins s σ H x y v u Q I rx ry h
 obtain ⟨a,b,xs,ys,rfl,rfl,ha,hb,hx,hz,q1,q2⟩:=h
 cases rx
 cases ry
 obtain ⟨its,r1,p1,_⟩:=I.tuple ha
 obtain ⟨its2,r2,p2,_⟩:=I.tuple hb
 refine HT.zY p1 p2 (fun z=>hx (r1.k8.mp z)) (fun z=>⟨.ref a,H,I,rfl,q1 (r2.k8.mp z)⟩) (fun z=>?_) (by rw [<- r1.length,<- r2.length]; exact hz)
 refine ⟨.ref s.heap.objs.size,_,I.laid (t':=s.toks) (o:=.tup (xs++ys)) (fun b ob q=>Heap.get?_push_of_some _ q) (Nat.le_refl _) ?_,rfl,q2 (fun w=>z (r2.k8.mpr w)) _ (I.hok.fresh (Nat.le_refl _))⟩
 exact ⟨by rw [List.length_append]; exact hz,_,r1.append r2,IsTup.new _ _⟩
end
end L2
namespace L2
open PySem PySem.Spec PyProof.Rows
noncomputable def ixN (n:Nat) (i:Int):Option Nat:=if 0<=i then (if i < n then some i.toNat else none) else if -(n:Int)<=i then some (i+n).toNat else none
noncomputable def atI {α:Type} (xs:List α) (i:Int):Option α:=(ixN xs.length i).bind fun j=>xs[j]?
theorem pN {n:Nat} {i:Int} {j:Nat} (h:ixN n i=some j):seqIndex? i n=some j/\j < n/\-(n:Int)<=i/\i < n:=by
 unfold ixN at h
 by_cases h0:0<=i
 ·rw [if_pos h0] at h
  by_cases h1:i < n
  ·rw [if_pos h1] at h
   have e:i.toNat=j:=Option.some.inj h
   exact ⟨by rw [seqIndex_of h0 h1,e],by omega,by omega,h1⟩
  ·rw [if_neg h1] at h; cases h
 ·rw [if_neg h0] at h
  by_cases h1:-(n:Int)<=i
  ·rw [if_pos h1] at h
   have e:(i+n).toNat=j:=Option.some.inj h
   exact ⟨by rw [seqIndex_neg (by omega) h1,e],by omega,h1,by omega⟩
  ·rw [if_neg h1] at h; cases h
theorem mP {α:Type} {xs:List α} {i:Int} {v:α} (h:atI xs i=some v):∃ j,seqIndex? i xs.length=some j/\xs[j]?=some v/\j < xs.length/\-(xs.length:Int)<=i/\i < xs.length:=by
 unfold atI at h
 cases e:ixN xs.length i with
 | none=>rw [e] at h; cases h
 | some j =>
  rw [e] at h
  obtain ⟨h1,h2,h3,h4⟩:=pN e
  exact ⟨j,h1,h,h2,h3,h4⟩
noncomputable def l7 (b:Expr):Prop:=∀ o i,subscripted b false o i=operate [o,i] (getItem o i)
noncomputable def IxR (X:Cx) (r:R2):Prop :=
 ∀ (value slice:Expr) (pins:List (Addr × Obj)) (s:Shared) (σ:St) (H:Hp) (x y:V) (v u:Value) (Q:VK),Inv X pins σ H s->RelV x v->RelV y u->r x y H Q ->
  subscripted slice false v u=operate [v,u] (getItem v u)->wpAny (model X.prog X.w) X.A (subscriptTail value slice v u) (EP X pins σ Q) X.xe s
noncomputable def MtR (X:Cx) (id:String) (r:V->List V->Hp->VK->Prop):Prop :=
 ∀ (pins:List (Addr × Obj)) (s:Shared) (σ:St) (H:Hp) (x:V) (xs:List V) (v:Value) (us:List Value) (Q:VK),Inv X pins σ H s->RelV x v->Vals xs us->r x xs H Q ->
  wpAny (model X.prog X.w) X.A (call (.builtin id) (v::us)) (EP X pins σ Q) X.xe s
section
variable {X:Cx} {a b:Expr} {ta tb:TE} {pos:Pos}
theorem Cs {r:R2} (hr:IxR X r) (ha:PE X a ta) (hb:PE X b tb) (hs:l7 b):PE X (.Subscript a b pos) (tOp r ta tb):=by
 intro pins s σ H Q I h
 exact Subscript_ (lZ ha hb I h fun v u s2 x y H2 I2 rx ry q=>hr a b pins s2 σ H2 x y v u Q I2 rx ry q (hs _ _))
noncomputable def zH (K:PySem.W.Frag):R2:=fun x y H Q=>∃ p xs i v,x=.ref p/\y=.int i/\SqL K H p xs/\atI xs i=some v/\Q v H
noncomputable def DC (K:PySem.W.Frag):R2:=fun x y H Q=>∃ p xs i v,x=.ref p/\y=.int i/\SqT K H p xs/\atI xs i=some v/\Q v H
theorem xu:IxR X (zH X.K):=by
 intro value slice pins s σ H x y v u Q I rx ry h hs
 obtain ⟨p,xs,i,z,rfl,rfl,hq,he,q⟩:=h
 cases rx
 obtain ⟨t,rfl⟩:=ry
 obtain ⟨its,r,pl,hz⟩:=I.list hq
 obtain ⟨j,h1,h2,h3,h4,h5⟩:=mP he
 obtain ⟨w,ew,rw'⟩:=r.get h2
 have hl:=r.length
 have hn:=ie
 have fin:EP X pins σ Q w s:=⟨z,H,I,rw',q⟩
 by_cases h0:0<=i
 ·have hj:i.toNat=j:=by
   rw [seqIndex_of h0 h5] at h1
   exact Option.some.inj h1
  exact item_listR pl.isList h0 (by omega) (by rw [hj]; simpa using ew) fin hs
 ·have hj:(i+(its.toArray.size:Int)).toNat=j:=by
   rw [seqIndex_neg (by omega) h4] at h1
   rw [List.size_toArray,<- hl]
   exact Option.some.inj h1
  exact subscriptTail_builtinR (x:=w) pl.isList.typeIs slot_list_getitem.lookup
   (wpAny_getItem_list_neg (Q:=fun r s'=>r=w/\EP X pins σ Q r s') pl.isList (by omega) (by rw [List.size_toArray] <;> omega) (by omega) (by rw [hj]; simpa using ew) ⟨rfl,fin⟩) hs
theorem yw:IxR X (DC X.K):=by
 intro value slice pins s σ H x y v u Q I rx ry h hs
 obtain ⟨p,xs,i,z,rfl,rfl,hq,he,q⟩:=h
 cases rx
 obtain ⟨t,rfl⟩:=ry
 obtain ⟨its,r,pl,hz⟩:=I.tuple hq
 obtain ⟨j,h1,h2,h3,h4,h5⟩:=mP he
 obtain ⟨w,ew,rw'⟩:=r.get h2
 have hl:=r.length
 have hn:=ie
 have fin:EP X pins σ Q w s:=⟨z,H,I,rw',q⟩
 exact subscriptTail_builtinR (x:=w) pl.typeIs slot_tuple_getitem.lookup
  (getItem_tuple (j:=j) (Q:=fun r s'=>r=w/\EP X pins σ Q r s') pl (by omega) (by omega) (by rw [List.size_toArray,<- hl]; exact h1) (by simpa using ew) ⟨rfl,fin⟩) hs
theorem yk (its:List Value) (n j:Nat) (u:Value):Obj.mapSeq (·.setIfInBounds j u) { cls:=.type "list",data:=.seq its.toArray n }={ cls:=.type "list",data:=.seq (its.set j u).toArray n }:=by
 simp [Obj.mapSeq]
theorem Inv.lst {pins:List (Addr × Obj)} {σ:St} {H:Hp} {s:Shared} {p:Addr} {xs:List V} (I:Inv X pins σ H s) (h:H p=some (.lst xs)) :
  ∃ (its:List Value) (n:Nat),Vals xs its/\s.heap.get? p=some { cls:=.type "list",data:=.seq its.toArray n }/\xs.length<=sizeLine:=by
 obtain ⟨z,its,n,r,e⟩:=I.hok p _ h
 exact ⟨its,n,r,e,z⟩
theorem Inv.BO {pins:List (Addr × Obj)} {σ:St} {H:Hp} {s:Shared} {p:Addr} {xs ys:List V} {its its':List Value} {n n':Nat} {f:Obj->Obj} (I:Inv X pins σ H s) (h:H p=some (.lst xs))
  (ho:s.heap.get? p=some { cls:=.type "list",data:=.seq its.toArray n }) (hf:f { cls:=.type "list",data:=.seq its.toArray n }={ cls:=.type "list",data:=.seq its'.toArray n' }) (r:Vals ys its') (hz:ys.length<=sizeLine) (t:Nat) :
  Inv X pins σ (upd H p (.lst ys)) { s with heap:=s.heap.update p f,toks:=t }:=by
 have e:(s.heap.update p f).get? p=some { cls:=.type "list",data:=.seq its'.toArray n' }:=by
  rw [Heap.get?_update_self f ho (by rw [hf] <;> rfl),hf]
 refine I.write (x:=p) (e:=p) (by rw [h]; trivial) (.inl rfl) (fun b u hb q=>(Heap.get?_update_other _ _ (Ne.symm hb)).trans q) ⟨_,e⟩ ?_
 exact ⟨hz,its',n',r,e⟩
noncomputable def Ag:V->V->V->Hp->(Hp->Prop)->Prop:=fun o i v H Q=>∃ p xs k j,o=.ref p/\i=.int k/\H p=some (.lst xs)/\ixN xs.length k=some j/\Q (upd H p (.lst (xs.set j v)))
theorem set_list:jG X Ag:=by
 intro pins s σ H o i v ov iv u Q I ro ri rv h
 obtain ⟨p,xs,k,j,rfl,rfl,hp,hj,q⟩:=h
 cases ro
 obtain ⟨t,rfl⟩:=ri
 obtain ⟨its,n,r,ho,hz⟩:=I.lst hp
 obtain ⟨h1,h2,h3,h4⟩:=pN hj
 have hl:=r.length
 have hn:=ie
 have I':Inv X pins σ (upd H p (.lst (xs.set j v))) { s with heap:=s.heap.update p (Obj.mapSeq (·.setIfInBounds j u)) } :=
  I.BO hp ho (yk its n j u) (r.set rv j) (by rw [List.length_set]; exact hz) s.toks
 by_cases h0:0<=k
 ·have hk:k.toNat=j:=by
   rw [seqIndex_of h0 h4] at h1
   exact Option.some.inj h1
  exact PySem.W.ki_setAt ho h0 (by omega) (by rw [List.size_toArray,<- hl]; exact h4) (by rw [hk]; exact ⟨_,I',q⟩)
 ·have hk:(k+(its.toArray.size:Int)).toNat=j:=by
   rw [seqIndex_neg (by omega) h3] at h1
   rw [List.size_toArray,<- hl]
   exact Option.some.inj h1
  exact PySem.W.ki_setBack ho (by omega) (by rw [List.size_toArray,<- hl]; exact h3) (by omega) (by rw [hk]; exact ⟨_,I',q⟩)
theorem zy (lo hi:Option Int) (n:Nat):(sliceBounds lo hi none n).1=((HT.sIx n 0 lo:Nat):Int)/\(sliceBounds lo hi none n).2.1=((HT.sIx n n hi:Nat):Int)/\(sliceBounds lo hi none n).2.2=1:=by
 refine ⟨?_,?_,rfl⟩
 ·cases lo with
  | none=>simp [sliceBounds,HT.sIx]
  | some i =>
   simp only [sliceBounds,HT.sIx,Option.getD_none,show (1:Int) > 0 by decide,if_true]
   by_cases h:i < 0
   ·simp only [h,if_true] <;> omega
   ·simp only [h,if_false] <;> omega
 ·cases hi with
  | none=>simp [sliceBounds,HT.sIx]
  | some i =>
   simp only [sliceBounds,HT.sIx,Option.getD_none,show (1:Int) > 0 by decide,if_true]
   by_cases h:i < 0
   ·simp only [h,if_true] <;> omega
   ·simp only [h,if_false] <;> omega
theorem C5 (its:List Value) (lo hi:Option Int):slicePick its.toArray lo hi none=((its.drop (HT.sIx its.length 0 lo)).take (HT.sIx its.length its.length hi - HT.sIx its.length 0 lo)).toArray:=by
 obtain ⟨h1,h2,h3⟩:=zy lo hi its.toArray.size
 unfold slicePick
 rw [h1,h2,h3]
 simp only [sliceRange_one,pick_run,List.size_toArray] <;> rfl
noncomputable def AD (K:PySem.W.Frag):V->Option Int->Option Int->Hp->VK->Prop:=fun x lo hi H Q=>∃ a xs,x=.ref a/\SqL K H a xs/\∀ p,H p=none->Q (.ref p) (upd H p (.lst (cZ xs lo hi)))
theorem oG:SlR X (AD X.K):=by
 intro pins s σ H x v vl vu lo hi sl Q I rx hs pl pu h
 obtain ⟨a,xs,rfl,hx,q⟩:=h
 cases rx
 obtain ⟨its,r,ht,hz⟩:=I.list hx
 have hlen:=r.length
 refine ⟨"list",_,slot_list_getitem.lookup,ht.isList.typeIs,?_⟩
 refine wpAny_getItem_list_slice ht.isList hs pl pu .none (by simp) ?_ (by rw [List.size_toArray] <;> omega)
 rw [C5,<- hlen]
 refine ⟨.ref s.heap.objs.size,_,I.laid (t':=s.toks) (o:=.lst (cZ xs lo hi)) (fun b ob q=>Heap.get?_push_of_some _ q) (Nat.le_refl _) ?_,rfl,q _ (I.hok.fresh (Nat.le_refl _))⟩
 exact ⟨Nat.le_trans (nu xs lo hi) hz,_,0,(r.drop (HT.sIx xs.length 0 lo)).take (HT.sIx xs.length xs.length hi - HT.sIx xs.length 0 lo),Heap.get?_push_size _ rfl⟩
noncomputable def wH:V->Bool
 | .non=>true
 | .bl _=>true
 | .int _=>true
 | .str _=>true
 | _=>false
theorem yr:bz X (.builtin "len") (fun xs H Q=>∃ p ys,xs=[.ref p]/\(SqL X.K H p ys\/SqT X.K H p ys)/\Q (.int ys.length) H):=by
 intro pins s σ H xs us Q I r h
 obtain ⟨p,ys,rfl,hq,q⟩:=h
 obtain ⟨u,rfl,rx⟩:=vals1 r
 cases rx
 have hn:=ie
 rcases hq with hq|hq
 ·obtain ⟨its,r',pl,hz⟩:=I.list hq
  have hlen:=r'.length
  exact Calls.call_len_list pl.isList (by simp only [List.size_toArray] <;> omega) ⟨.int ys.length,H,I.tok _,⟨s.toks+1,by rw [List.size_toArray,hlen]⟩,q⟩
 ·obtain ⟨its,r',pl,hz⟩:=I.tuple hq
  have hlen:=r'.length
  exact len_tuple pl (by simp only [List.size_toArray] <;> omega) ⟨.int ys.length,H,I.tok _,⟨s.toks+1,by rw [List.size_toArray,hlen]⟩,q⟩
theorem uF:bz X (.type "list") (fun xs H Q=>∃ p ys,xs=[.ref p]/\(SqL X.K H p ys\/SqT X.K H p ys)/\∀ l,H l=none->Q (.ref l) (upd H l (.lst ys))):=by
 intro pins s σ H xs us Q I r h
 obtain ⟨p,ys,rfl,hq,q⟩:=h
 obtain ⟨u,rfl,rx⟩:=vals1 r
 cases rx
 have fin:∀ (its:List Value),Vals ys its->ys.length<=sizeLine->∀ (h':Heap) (c':Nat),(∀ b o',s.heap.get? b=some o'->h'.get? b=some o') ->
   h'.get? s.heap.objs.size=some { cls:=.type "list",dict:=none,data:=.seq its.toArray c',slots:=#[] }->EP X pins σ Q (.ref s.heap.objs.size) { s with heap:=h' }:=fun its r' hz h' c' kp e =>
  ⟨.ref s.heap.objs.size,_,I.laid (t':=s.toks) kp (Nat.le_refl _) (show bg X.prog X.w _ h' _ (.lst ys) from ⟨hz,its,c',r',e⟩),rfl,q _ (I.hok.fresh (Nat.le_refl _))⟩
 rcases hq with hq|hq
 ·obtain ⟨its,r',pl,hz⟩:=I.list hq
  have hlen:=r'.length
  obtain ⟨o,ho,hc,n,hd⟩:=pl.isList
  exact call_list_seq p (.inl rfl) ho hc hd (fun h' c' kp e=>fin its r' hz h' c' kp e) (by simp only [List.size_toArray] <;> omega)
 ·obtain ⟨its,r',pl,hz⟩:=I.tuple hq
  have hlen:=r'.length
  obtain ⟨o,ho,hc,n,hd⟩:=pl
  exact call_list_seq p (.inr rfl) ho hc hd (fun h' c' kp e=>fin its r' hz h' c' kp e) (by simp only [List.size_toArray] <;> omega)
theorem mV:bz X (.type "tuple") (fun xs H Q=>∃ p ys,xs=[.ref p]/\((SqL X.K H p ys/\∀ l,H l=none->Q (.ref l) (upd H l (.tup ys)))\/(SqT X.K H p ys/\Q (.ref p) H))):=by
 intro pins s σ H xs us Q I r h
 obtain ⟨p,ys,rfl,h⟩:=h
 obtain ⟨u,rfl,rx⟩:=vals1 r
 cases rx
 rcases h with ⟨hq,q⟩|⟨hq,q⟩
 ·obtain ⟨its,r',pl,hz⟩:=I.list hq
  have hlen:=r'.length
  refine call_tuple_list pl.isList (fun h' kp=>?_) (by simp only [List.size_toArray] <;> omega)
  have I1:Inv X pins σ H { s with heap:=h' }:=I.kept (t':=s.toks) kp
  have I2:Inv X pins σ (upd H h'.objs.size (.tup ys)) { s with heap:=h'.push { cls:=.type "tuple",data:=.seq its.toArray } } :=
   I1.laid (t':=s.toks) (fun b o e=>Heap.get?_push_of_some _ e) (Nat.le_refl _) (show bg X.prog X.w _ _ _ (.tup ys) from ⟨hz,its,r',IsTup.new _ _⟩)
  exact ⟨.ref h'.objs.size,_,I2,rfl,q _ (I1.hok.fresh (Nat.le_refl _))⟩
 ·obtain ⟨its,r',pl,hz⟩:=I.tuple hq
  exact call_tuple_same pl ⟨.ref p,H,I,rfl,q⟩
noncomputable def tyV (K:PySem.W.Frag) (T:String) (x:V) (H:Hp):Prop:=match x with
 | .str _=>T = "str"
 | .int _=>T = "int"
 | .ref p=>(T = "list"/\∃ xs,SqL K H p xs)\/(T = "tuple"/\∃ o,K.lookup p=some o/\o.cls=.type "tuple"/\o.dict=none) \/
   (T = "dict"/\((∃ kvs,H p=some (.dK kvs))\/∃ kvs,H p=some (.dT kvs)))\/(T = "set"/\∃ S n,H p=some (.set S n))
 | _=>False
theorem Au {pins:List (Addr × Obj)} {σ:St} {H:Hp} {s:Shared} {T:String} {x:V} {v:Value} (I:Inv X pins σ H s) (r:RelV x v) (ty:tyV X.K T x H) :
  s.TypeIs v T/\∀ a,v=.ref a->∃ ob,s.heap.get? a=some ob/\ob.dict=none:=by
 cases x with
 | str z =>
  obtain ⟨t,rfl⟩:=r
  cases (show T = "str" from ty)
  exact ⟨typeIs_str s z t,fun _ e=>nomatch e⟩
 | int i =>
  obtain ⟨t,rfl⟩:=r
  cases (show T = "int" from ty)
  exact ⟨typeIs_int s i t,fun _ e=>nomatch e⟩
 | ref p =>
  cases r
  rcases ty with ⟨rfl,xs,hq⟩|⟨rfl,o,hk,hc,hd⟩|⟨rfl,hk⟩|⟨rfl,S,n,hk⟩
  ·obtain ⟨its,_,pl,_⟩:=I.list hq
   refine ⟨pl.isList.typeIs,fun a e=>?_⟩
   cases e
   obtain ⟨o,n,e,c,hd,_⟩:=pl
   exact ⟨o,e,hd⟩
  ·refine ⟨⟨o,I.kIn p o hk,hc⟩,fun a e=>?_⟩
   cases e
   exact ⟨o,I.kIn _ o hk,hd⟩
  ·have z:∃ o,s.heap.get? p=some o/\o.ExactDict:=by
    rcases hk with ⟨kvs,hk⟩|⟨kvs,hk⟩
    ·obtain ⟨_,_,_,_,o,_,_,e,ex,_⟩:=I.hok p _ hk
     exact ⟨o,e,ex⟩
    ·obtain ⟨_,_,_,_,o,_,_,e,ex,_⟩:=I.hok p _ hk
     exact ⟨o,e,ex⟩
   obtain ⟨o,e,ex⟩:=z
   refine ⟨⟨o,e,ex.1⟩,fun a e2=>?_⟩
   cases e2
   exact ⟨o,e,ex.2.1⟩
  ·obtain ⟨o,_,_,_,e,ex,_⟩:=I.hok p _ hk
   refine ⟨⟨o,e,ex.1⟩,fun a e2=>?_⟩
   cases e2
   exact ⟨o,e,ex.2.1⟩
 | _=>exact False.elim ty
noncomputable def tBM (K:PySem.W.Frag) (T:String) (r:V->List V->Hp->VK->Prop) (to:TE) (t:TA):TE:=fun σ H Q=>to σ H fun x H1=>tyV K T x H1/\t σ H1 fun xs H2=>r x xs H2 Q
variable {o e:Expr} {es:List Expr} {to:TE} {t:TA} {name:Str} {apos cpos:Pos} {T id:String} {r:V->List V->Hp->VK->Prop}
theorem EM (pa:PlainAttrs T) (slot:Slot T name id) (hty:typeOf (.builtin id)=pure (.type "method_descriptor")) (hm:MtR X id r) (ho:PE X o to) (ha:PA X (e::es) t)
  (hbase:attributeBase o name X.env (eval o X.env)=eval o X.env:=by rfl)
  (hfew:((backTo cpos (starEach (e::es) X.env)).all (fun x=>!x.1)&&(backToKw cpos (keywordEach [] X.env)).all (fun x=>x.1.isSome)
  &&decide ((e::es).length+([]:List Keyword).length+(if ([]:List Keyword).isEmpty then 0 else 1) < 30))=true:=by rfl)
  (hline:(apos.endLine==cpos.line)=true:=by rfl) (hs:starEach (e::es) X.env=(false,eval e X.env)::starEach es X.env:=by rfl) (hplain:(backTo cpos (starEach es X.env)).any (·.1)=false:=by rfl) :
  PE X (.Call (.Attribute o name apos) (e::es) [] cpos) (tBM X.K T r to t):=by
 intro pins s σ H Q I h
 refine wpAny_Call_method_late hbase hfew hline rfl (thn (ho pins s σ H _ I h) fun v s1 ⟨x,H1,I1,r1,ty,q1⟩=>?_)
 obtain ⟨h1,h2⟩:=Au I1 r1 ty
 refine ⟨T,id,pa,slot,hty,h1,h2,?_⟩
 have hA:=ha cpos pins s1 σ H1 _ I1 q1
 rw [hs] at hA ⊢
 refine Calls.callWith_builtin (by show (false||(backTo cpos (starEach es X.env)).any (·.1))=false; rw [hplain] <;> rfl) (Calls.evalArgs_plain ?_)
 exact thn hA fun us s2 ⟨vs,H2,I2,r2,q2⟩=>hm pins s2 σ H2 x vs v us Q I2 r1 r2 q2
/- xs.append(e),list.index on a module's tuple .. are MtR facts of 06m -/
end
end L2
namespace L2
open PySem PySem.Spec PyProof.Rows
noncomputable def MtM (X:Cx) (id:String) (r:V->List V->Hp->VK->Prop):Prop :=
 ∀ (pins:List (Addr × Obj)) (s:Shared) (σ:St) (H:Hp) (x:V) (xs:List V) (v:Value) (us:List Value) (Q:VK),Inv X pins σ H s->RelV x v->Vals xs us->r x xs H Q ->
  wpAny (model X.prog X.w) X.A (call (.builtin id) (v::us)) (EP X pins σ Q) X.xe s
theorem Vals.one:∀ {x:V} {us:List Value},Vals [x] us->∃ u,us=[u]/\RelV x u
 | _,_,.cons r .nil=>⟨_,rfl,r⟩
theorem Vals.two:∀ {x y:V} {us:List Value},Vals [x,y] us->∃ u v,us=[u,v]/\RelV x u/\RelV y v
 | _,_,_,.cons r (.cons q .nil)=>⟨_,_,rfl,r,q⟩
theorem Vals.rep {xs:List V} {us:List Value} (h:Vals xs us):∀ k:Nat,Vals (List.replicate k xs).flatten (List.replicate k us).flatten
 | 0=>.nil
 | k+1=>by
  rw [List.replicate_succ,List.replicate_succ,List.flatten_cons,List.flatten_cons]
  exact Vals.append h (Vals.rep h k)
theorem foldl_rep (its:List Value):∀ (k:Nat) (acc:List Value),
  List.foldl (fun x1 x2=>x1++x2) acc.toArray (List.replicate k its.toArray)=(acc++(List.replicate k its).flatten).toArray
 | 0,acc=>by simp
 | k+1,acc=>by
  have e:acc.toArray++its.toArray=(acc++its).toArray:=by simp
  have e2:(acc++its)++(List.replicate k its).flatten=acc++(List.replicate (k+1) its).flatten:=by
   rw [List.replicate_succ,List.flatten_cons,List.append_assoc]
  rw [<- e2,<- foldl_rep its k (acc++its),<- e,List.replicate_succ,List.foldl_cons]
section
variable {X:Cx} {pins:List (Addr × Obj)} {σ:St} {H:Hp} {s:Shared} {l b:Addr} {xs ys zs:List V}
theorem Inv.AO {its its':List Value} {n:Nat} {f:Array Value->Array Value} {t':Nat} (I:Inv X pins σ H s) (hH:H l=some (.lst xs))
  (e:s.heap.get? l=some { cls:=.type "list",data:=.seq its.toArray n }) (hf:f its.toArray=its'.toArray) (hv:Vals ys its') (hz:ys.length<=sizeLine) :
  Inv X pins σ (upd H l (.lst ys)) { s with heap:=s.heap.update l (Obj.mapSeq f),toks:=t' }:=by
 have q:=PySem.IsL.update e f
 rw [hf] at q
 refine I.write (x:=l) (e:=l) (by rw [hH]; exact trivial) (.inl rfl) (fun b' u hb hu=>(Heap.get?_update_other s.heap (Obj.mapSeq f) (Ne.symm hb)).trans hu) ⟨_,q⟩ ?_
 exact ⟨hz,its',_,hv,q⟩
theorem Inv.qc {its:List Value} {t':Nat} (I:Inv X pins σ H s) (hv:Vals ys its) (hz:ys.length<=sizeLine) :
  Inv X pins σ (upd H s.heap.objs.size (.lst ys)) { s with heap:=s.heap.push { cls:=.type "list",data:=.seq its.toArray },toks:=t' } :=
 I.laid (fun _ _ q=>Heap.get?_push_of_some _ q) (Nat.le_refl _) ⟨hz,its,0,hv,Heap.get?_push_size _ rfl⟩
theorem Inv.fresh (I:Inv X pins σ H s):H s.heap.objs.size=none:=I.hok.fresh (Nat.le_refl _)
theorem Inv.iX (I:Inv X pins σ H s) (hH:H l=some (.lst xs)):xs.length<=sizeLine/\∃ (its:List Value) (n:Nat),Vals xs its/\xs.length=its.length/\s.heap.get? l=some { cls:=.type "list",data:=.seq its.toArray n }:=by
 obtain ⟨z,its,n,r,e⟩:=I.hok l _ hH
 exact ⟨z,its,n,r,r.length,e⟩
theorem yE {n:Nat} (h:n<=sizeLine):Builtin.List.listTooLong n=false:=by
 unfold Builtin.List.listTooLong
 exact decide_eq_false (by omega)
end
section
variable {X:Cx}
noncomputable def Bq:V->List V->Hp->VK->Prop:=fun x vs H Q=>∃ l xs y,x=.ref l/\vs=[y]/\H l=some (.lst xs)/\xs.length < sizeLine/\Q .non (upd H l (.lst (xs++[y])))
theorem pC:MtM X "list.append" Bq:=by
 intro pins s σ H x vs v us Q I rx rv h
 obtain ⟨l,xs,y,rfl,rfl,hH,hz,q⟩:=h
 cases rx
 obtain ⟨u,rfl,ru⟩:=rv.one
 obtain ⟨z,its,n,r,hl,e⟩:=I.iX hH
 refine call_meets F.slot_list_append ⟨_,e,rfl⟩ F.entry_list_append (F.args_list_append_2 _ _) (PySem.list_append l its.toArray n u (by rw [List.size_toArray]; omega)) ⟨e,?_⟩
 refine ⟨.non,_,I.AO (its':=its++[u]) hH e (by simp) (r.append (.cons ru .nil)) ?_,rfl,q⟩
 rw [List.length_append,List.length_singleton]
 omega
noncomputable def BK:R2:=fun x y H Q=>∃ l b xs zs,x=.ref l/\y=.ref b/\H l=some (.lst xs)/\H b=some (.lst zs)/\xs.length+zs.length<=sizeLine/\∀ p,H p=none->Q (.ref p) (upd H p (.lst (xs++zs)))
theorem vK:OpR X (binaryOp .Add) BK:=by
 intro pins s σ H x y v u Q I rx ry h
 obtain ⟨l,b,xs,zs,rfl,rfl,hH,hB,hz,q⟩:=h
 cases rx
 cases ry
 obtain ⟨z,its,n,r,hl,e⟩:=I.iX hH
 obtain ⟨z2,its2,n2,r2,hl2,e2⟩:=I.iX hB
 refine PySem.P.add_list e e2 ?_ (by rw [List.size_toArray,List.size_toArray]; omega)
 have ea:its.toArray++its2.toArray=(its++its2).toArray:=by simp
 rw [ea]
 exact ⟨.ref _,_,I.qc (t':=s.toks) (r.append r2) (by rw [List.length_append]; omega),rfl,q _ I.fresh⟩
noncomputable def ER:R2:=fun x y H Q=>∃ l k xs,x=.ref l/\y=.int k/\H l=some (.lst xs)/\-(2 ^ 63)<=k/\k < 2 ^ 63/\xs.length * k.toNat<=sizeLine /\
 ∀ p,H p=none->Q (.ref p) (upd H p (.lst (List.replicate k.toNat xs).flatten))
theorem len_rep {α:Type} (xs:List α) (k:Nat):(List.replicate k xs).flatten.length=k * xs.length:=by
 induction k with
 | zero=>simp
 | succ k ih=>rw [List.replicate_succ,List.flatten_cons,List.length_append,ih,Nat.succ_mul,Nat.add_comm]
theorem DL:OpR X (binaryOp .Mult) ER:=by
 intro pins s σ H x y v u Q I rx ry h
 obtain ⟨l,k,xs,rfl,rfl,hH,h1,h2,hz,q⟩:=h
 cases rx
 obtain ⟨t,rfl⟩:=ry
 obtain ⟨z,its,n,r,hl,e⟩:=I.iX hH
 have hlen:its.toArray.size * k.toNat<=sizeLine:=by rw [List.size_toArray,<- hl]; exact hz
 have hcap:¬ its.toArray.size * k.toNat > (2 ^ 63 - 1) / 8:=by
  have:(sizeLine:Nat)<=(2 ^ 63 - 1) / 8:=by decide
  omega
 have hfit:¬ (!Builtin.List.listFitsIndex k)=true:=by
  rw [fitsIndex_both h1 h2]
  exact Bool.false_ne_true
 have hlong:¬ Builtin.List.listTooLong (its.toArray.size * k.toNat)=true:=by
  rw [yE hlen]
  exact Bool.false_ne_true
 have hnew:List.foldl (fun x1 x2=>x1++x2) #[] (List.replicate (if its.toArray.isEmpty=true then 0 else k.toNat) its.toArray)=(List.replicate k.toNat its).flatten.toArray:=by
  have f0:∀ m:Nat,List.foldl (fun x1 x2=>x1++x2) #[] (List.replicate m its.toArray)=(List.replicate m its).flatten.toArray:=fun m=>by
   have:=foldl_rep its m []
   rw [List.nil_append] at this
   exact this
  rw [f0]
  cases its with
  | nil=>simp
  | cons a r'=>rw [if_neg (by simp)]
 refine wpAny_binaryOp_repeat_ref (T:="list") (U:="int") (by decide) ⟨_,e,rfl⟩ (fun s'=>typeIs_int s' k t) noFill_list_mul F.fills_int_mul F.slot_int_rmul repeat_list F.slot_int_index.lookup
  (call_meets F.slot_int_rmul (typeIs_int s k t) F.entry_int_rmul (F.args_int_rmul_2 _ _) (int___rmul___int_list k t l its.toArray n)
   ⟨e,rfl,⟨_,e,rfl⟩,call_meets F.slot_list_mul ⟨_,e,rfl⟩ F.entry_list_mul (F.args_list_mul_2 _ _) (AutoListH.list___mul___list_int_3 l its.toArray n k t hfit hcap hlong) ⟨e,?_⟩⟩)
 rw [hnew]
 exact ⟨.ref _,_,I.qc (t':=s.toks) (r.rep k.toNat) (by rw [len_rep,Nat.mul_comm]; exact hz),rfl,q _ I.fresh⟩
end
section
variable {prog:Program} {w:World} {A:Around} {E:Value->Shared->Prop} {s:Shared}
end
section
variable {X:Cx}
end
end L2
namespace Att
open PySem PySem.W PySem.Calls PyProof.Rows
theorem Cw {P:Params} {h:Heap}:∀ (ns:List Int) (vs:List Value),WellAll P h vs (ns.map WData.int)->IntsAre vs ns:=by
 intro ns
 induction ns with
 | nil =>
  intro vs w
  rw [List.map_nil] at w
  cases w
  exact .nil
 | cons n ns ih =>
  intro vs w
  rw [List.map_cons] at w
  cases w with
  | cons a b =>
   cases a
   exact .cons _ _ (ih _ b)
theorem BZ {l:OpenLaw} {n:Nat} (hn:l.most=some n) {P:Params} {h:Heap} {args:List WData} {vals:List Value}
  (hpre:l.row.toRowW.claim.pre args=true) (hwl:WellAll P h vals args) :
  ∃ a vs ns,vals=[Value.ref a]/\args=[WData.list (ns.map WData.int)]/\h.get? a=some { cls:=.type "list",data:=.seq vs.toArray }/\IntsAre vs ns/\ns.length<=n:=by
 have hsh:WShape.hasAll [] args [.list .int]=true:=(pre_splitW hpre).1
 have hc:l.pre.holds [] { args:=args }=true:=(pre_splitW hpre).2
 obtain ⟨d,r,rfl,h1,h2⟩:=hasAllW_cons hsh
 obtain rfl:=hasAllW_nil h2
 obtain ⟨xs,rfl,h3⟩:=hasW_list h1
 obtain ⟨ns,rfl⟩:=items_int h3
 have hlen:ns.length<=n:=by
  unfold OpenLaw.pre at hc
  have h4:(WTm.not (.lt (.lit (.int (n:Int))) (.len (.arg 0)))).holds [] { args:=[.list (ns.map .int)] }=true:=by
   have h4:=(holds_andW hc).1
   rw [hn] at h4
   exact h4
  have h5:=condW_of h4 (w_not (w_lt w_lit (w_len_list (w_arg rfl))))
  rw [List.length_map] at h5
  refine Nat.le_of_not_lt fun q=>?_
  have q':(n:Int) < ((ns.length:Nat):Int):=by omega
  first
   | (rw [decide_eq_true q'] at h5; exact absurd h5 (by decide))
   | (simp at h5; omega)
 cases hwl with
 | cons w1 w2 =>
  cases w2
  cases w1 with
  | list ho hall=>exact ⟨_,_,ns,rfl,rfl,ho,Cw ns _ hall,hlen⟩
theorem BW (l:OpenLaw) (args:List WData):l.row.toRowW.claim.post args (.bool true) args=true :=
 postW_of (r:=l.row.toRowW) (X:=(true==true))
  (show WShape.has [] (.bool true) .bool=true by first|rfl|decide|simp [WShape.has,WShape.arms,WShape.armsAll])
  (show (WTm.eq .res (.lit (.bool true))).value [] { args:=args,res:=some (.bool true),after:=args }=some (.bool (true==true)) from w_eq_bool (w_res rfl) w_lit) rfl
theorem Cf {l:OpenLaw} {n:Nat} {q:Program} {loose:List Str} {XP:(Str->Option Value)->Heap->Prop} {YP:World->Heap->Prop} {d:DefRec}
  (hn:l.most=some n) (hdf:d.params.defaults=[])
  (call:∀ (w:World) (s₀ s₁:Shared) (mg mb:Str->Option Value) (fa:Addr) (o:Obj) (pm cd doc:Value) (a:Addr) (vs:List Value) (ns:List Int),
   Ground q loose [] XP w s₀ mg mb s₁.heap->YP w s₁.heap ->
   s₁.heap.get? fa=some o->o.data=.func (docDef d.name d.params d.body d.scope pm cd doc)->s₁.heap.CodeRec cd d.name->mg d.name=some (.ref fa) ->
   s₁.heap.get? a=some { cls:=.type "list",data:=.seq vs.toArray }->IntsAre vs ns->ns.length<=n->s₁.gens=#[] ->
   codeAny (model l.prog w) callerA (.call (.ref fa) ⟨[.ref a],[]⟩) (fun r s'=>r=.ok (.ret (.bool true))/\OldK s₁.heap s'.heap/\s'.os=s₁.os/\AllBare s'.gens) s₁) :
  WalkO q loose XP YP l.row.toRowW d [] (fun f vs=>PySem.call f vs):=by
 intro w s₀ s₁ mg mb G Y fa o pm cd doc dV kV ho hd hcd hD hmg hg args vals as hpre hlay hrd hwl hlo
 obtain rfl:dV=.none:=Dflts.none hD hdf
 obtain rfl:kV=.none:=Dflts.noKw hD
 obtain ⟨a,vs,ns,rfl,rfl,hobj,hints,hlen⟩:=BZ hn hpre hwl
 refine enter_call (codeAny_mono (call w s₀ s₁ mg mb fa o pm cd doc a vs ns G Y ho (fd_plain hd) hcd hmg hobj hints hlen hg) fun r s' hq=>?_)
 obtain ⟨rfl,h2,h3,h4⟩:=hq
 exact ⟨.inl ⟨.bool true,.bool true,[],rfl,fun _=>rfl,.bool true,BW l _,fun _=>⟨List.Pairwise.nil,fun _ hm=>(nomatch hm)⟩⟩,h2,h3,h4⟩
section
variable {prog:Program} {w:World} {A:Around} {E:Value->Shared->Prop} {s:Shared} {K:Frag}
end
end Att
namespace L2
open PySem PySem.Spec PyProof.Rows
theorem qP:∀ {vs:List Value} {ns:List Int},IntsAre vs ns->Vals (ns.map V.int) vs
 | _,_,.nil=>.nil
 | _,_,.cons n t h=>.cons ⟨t,rfl⟩ (qP h)
noncomputable def ic (H:Hp):Prop:=∀ b,H b=none\/∃ o xs,H b=some (.frz o (.lst xs))
theorem AS {P:Program} {w:World} {K:PySem.W.Frag} {mg mb:Str->Option Value} {CX:CXT} {k:Nat} {fa a:Addr} {fd:FuncData} {x:Str} {sp:Sp} {s₁:Shared} {vs:List Value} {ns:List Int}
  (KX:K.In s₁.heap) (hns:s₁.heap.Ns mainGlobals mg) (hb:s₁.heap.Ns builtinsNs mb) (hbb:∀ x:Str,x≠"__name__"->mb x=bootBuiltins x) (hlim:s₁.heap.NoLimit) (hg:s₁.gens=#[])
  (ha:s₁.heap.get? a=some { cls:=.type "list",data:=.seq vs.toArray }) (hi:IntsAre vs ns) (hl:ns.length<=sizeLine) (hr:bJ k callerA)
  (F:∀ base:Heap,K.In base->base.Ns mainGlobals mg->dR P w K mg base CX k fa fd [x] sp) (hbind:∀ (s:Shared) (u:Value),BindsTo s fd ⟨[u],[]⟩ [(x,u)])
  (hsp:∀ H:Hp,ic H->SqL K H a (ns.map V.int)->sp [.ref a] H (fun v _=>v=.bl true) fun _ _ _=>False)
  (hCX:∀ H e s',CX [] H s₁ (fun _ _ _=>False) e s'->False) :
  codeAny (model P w) callerA (.call (.ref fa) ⟨[.ref a],[]⟩) (fun r s'=>r=.ok (.ret (.bool true))/\OldK s₁.heap s'.heap/\s'.os=s₁.os/\AllBare s'.gens) s₁:=by
 have rv:=qP hi
 have lenV:=hi.length
 have core:∀ H:Hp,ic H->SqL K H a (ns.map V.int)->HOk P w H s₁.heap->(∀ b,H b≠none->b=a)->(H a≠none->K.lookup a=none) ->
   codeAny (model P w) callerA (.call (.ref fa) ⟨[.ref a],[]⟩) (fun r s'=>r=.ok (.ret (.bool true))/\OldK s₁.heap s'.heap/\s'.os=s₁.os/\AllBare s'.gens) s₁:=by
  intro H hO hS hok hA hK
  have base_of:∀ {b:Addr} {o:Obj},s₁.heap.get? b=some o->H b=none->(dW s₁.heap H).get? b=some o:=fun e n=>Bb e n
  have noA:∀ {b:Addr} {o:Obj} {es:Array DictEntry} {ep:Nat},s₁.heap.get? b=some o->o.data=.dict es ep->H b=none:=fun {b o es ep} e d=>by
   cases q:H b with
   | none=>rfl
   | some u =>
    have e':b=a:=hA b (by rw [q]; simp)
    subst e'
    rw [ha] at e; cases e
    have d':Data.seq vs.toArray _=Data.dict es ep:=d
    cases d'
  have nsK:∀ {b:Addr} {m:Str->Option Value},s₁.heap.Ns b m->(dW s₁.heap H).Ns b m:=fun {b m} ⟨o,es,ep,e,d,r⟩=>⟨o,es,ep,base_of e (noA e d),d,r⟩
  have hKb:K.In (dW s₁.heap H):=fun b o e=>base_of (KX b o e) (by
   cases q:H b with
   | none=>rfl
   | some u =>
    have e':b=a:=hA b (by rw [q]; simp)
    subst e'
    rw [hK (by rw [q]; simp)] at e; cases e)
  have hM:Mod K mg (dW s₁.heap H):=⟨hKb,nsK hns,⟨mb,nsK hb,hbb⟩,let ⟨mc,h1,h2⟩:=hlim; ⟨mc,nsK h1,h2⟩⟩
  have e0:jf P w K mg (dW s₁.heap H) callerA [] s₁ H:=⟨rfl,hM,fun b o e=>CQ e,Nat.le_of_eq (uU _ _),trivial,fun b hb=>absurd (show b∈([]:List Addr) from hb) (by simp),hok,.of_eq hg⟩
  refine codeAny_mono ((F _ hKb (nsK hns)).run callerA [] s₁ H ⟨[.ref a],[]⟩ [.ref a] [.ref a] _ _ hr e0 (hbind s₁ (.ref a)) (.cons rfl .nil) (hsp H hO hS)) fun r s' h=>?_
  cases r with
  | error e=>exact (hCX H e s' h).elim
  | ok fl =>
   cases fl with
   | next=>exact False.elim h
   | brk=>exact False.elim h
   | cont=>exact False.elim h
   | ret u =>
    obtain ⟨v,H',os,bare,un,hok',r',q⟩:=h
    have q':v=.bl true:=q
    subst q'
    obtain rfl:u=Value.bool true:=r'
    refine ⟨rfl,OldK.of_keep fun b o e=>?_,os,bare⟩
    cases q:H b with
    | none=>exact un.keep b o e q (by intro z; exact absurd (show b∈([]:List Addr) from z) (by simp)) (by simp)
    | some u =>
     rcases hO b with z|⟨ob,xs,z⟩
     ·rw [q] at z; cases z
     ·have z2:=un.frzs b ob _ z
      obtain ⟨e1,_⟩:=hok b _ z
      obtain ⟨e2,_⟩:=hok' b _ z2
      rw [e] at e1; cases e1
      exact e2
 cases hk:K.lookup a with
 | some o =>
  have e:=KX a o hk
  rw [ha] at e
  cases e
  refine core (fun _=>none) (fun _=>.inl rfl) (.inr ⟨_,vs.toArray,_,hk,rfl,rfl,rfl,by rw [List.size_toArray,lenV]; exact hl,by simpa using rv⟩) (fun b u z=>by have z':(none:Option HO)=some u:=z; cases z') (fun b z=>absurd rfl z) fun z=>absurd rfl z
 | none =>
  refine core (fun b=>if b=a then some (.frz { cls:=.type "list",data:=.seq vs.toArray } (.lst (ns.map V.int))) else none) (fun b=>?_) (.inl (.inr ⟨{ cls:=.type "list",data:=.seq vs.toArray },if_pos rfl⟩)) (fun b u z=>?_) (fun b z=>?_) fun _=>hk
  ·by_cases hb:b=a
   ·exact .inr ⟨_,_,if_pos hb⟩
   ·exact .inl (if_neg hb)
  ·by_cases hb:b=a
   ·have z':=(if_pos hb).symm.trans z
    cases z'
    subst hb
    exact ⟨ha,by rw [List.length_map]; exact hl,vs,_,rv,ha⟩
   ·have z':=(if_neg hb).symm.trans z
    cases z'
  ·by_cases hb:b=a
   ·exact hb
   ·exact absurd (if_neg hb) z
end L2
namespace L2
open PySem PySem.Spec PyProof.Rows
theorem ou {l:PySem.W.OpenLaw} {n k:Nat} {q:Program} {loose:List Str} {XP:(Str->Option Value)->Heap->Prop} {YP:World->Heap->Prop} {d:DefRec} {K:Params->PySem.W.Frag} {CX:World->CXT} {sp:World->Sp} {x:Str}
  (hn:l.most=some n) (hn2:n<=sizeLine) (hdf:d.params.defaults=[]) (hr:bJ k callerA)
  (hY:∀ (w:World) (h:Heap),YP w h->(K w.params).In h)
  (F:∀ (w:World) (mg:Str->Option Value) (fa:Addr) (h:Heap),(K w.params).In h->h.Ns mainGlobals mg->mg d.name=some (.ref fa) ->
   ∃ fd:FuncData,(∀ (s:Shared) (u:Value),BindsTo s fd ⟨[u],[]⟩ [(x,u)]) /\
    ∀ base:Heap,(K w.params).In base->base.Ns mainGlobals mg->dR l.prog w (K w.params) mg base (CX w) k fa fd [x] (sp w))
  (hsp:∀ (w:World) (H:Hp) (a:Addr) (ns:List Int),ns.length<=n->ic H->SqL (K w.params) H a (ns.map V.int)->sp w [.ref a] H (fun v _=>v=.bl true) fun _ _ _=>False)
  (hCX:∀ (w:World) (H:Hp) (s:Shared) (e:Value) (s':Shared),CX w [] H s (fun _ _ _=>False) e s'->False) :
  PySem.W.WalkO q loose XP YP l.row.toRowW d [] (fun f vs=>PySem.call f vs):=by
 refine Att.Cf hn hdf fun w s₀ s₁ mg mb fa o pm cd doc a vs ns G Y ho hd hcd hmg hobj hints hlen hg=>?_
 have KX:=hY w _ Y
 obtain ⟨fd,hb,hF⟩:=F w mg fa _ KX G.T.g hmg
 exact AS KX G.T.g G.T.b G.T.builtins G.T.nolimit hg hobj hints (Nat.le_trans hlen hn2) hr hF hb (fun H hO hS=>hsp w H a ns hlen hO hS) fun H e s'=>hCX w H s₁ e s'
theorem Fo {l:PySem.W.OpenLaw} {n k:Nat} {q:Program} {loose:List Str} {XP:(Str->Option Value)->Heap->Prop} {YP:World->Heap->Prop} {d:DefRec} {K:Params->PySem.W.Frag} {CX:CXT} {sp:PySem.W.Frag->Sp} {x:Str}
  (hn:l.most=some n) (hn2:n<=sizeLine) (hdf:d.params.defaults=[]) (hr:bJ k callerA)
  (hY:∀ (w:World) (h:Heap),YP w h->(K w.params).In h)
  (F:∀ (w:World) (mg:Str->Option Value) (fa:Addr) (h:Heap),(K w.params).In h->h.Ns mainGlobals mg->mg d.name=some (.ref fa) ->
   ∃ fd:FuncData,(∀ (s:Shared) (u:Value),BindsTo s fd ⟨[u],[]⟩ [(x,u)]) /\
    ∀ base:Heap,(K w.params).In base->base.Ns mainGlobals mg->dR l.prog w (K w.params) mg base CX k fa fd [x] (sp (K w.params)))
  (hsp:∀ (K:PySem.W.Frag) (H:Hp) (a:Addr) (ns:List Int),ns.length<=n->ic H->SqL K H a (ns.map V.int)->sp K [.ref a] H (fun v _=>v=.bl true) fun _ _ _=>False)
  (hCX:∀ (H:Hp) (s:Shared) (e:Value) (s':Shared),CX [] H s (fun _ _ _=>False) e s'->False) :
  PySem.W.WalkO q loose XP YP l.row.toRowW d [] (fun f vs=>PySem.call f vs) :=
 ou (K:=K) (CX:=fun _=>CX) (sp:=fun w=>sp (K w.params)) hn hn2 hdf hr hY F (fun w H a ns h1 h2 h3=>hsp (K w.params) H a ns h1 h2 h3) fun _ H s e s'=>hCX H s e s'
end L2
namespace L2
open PySem PySem.Spec PyProof.Rows
noncomputable def cH (s:Stmt):Arguments:=match s with
 | .FunctionDef _ a _ _ _ _ _ _ _ _=>a
 | _=>{ posonlyargs:=[],args:=[],vararg:=none,kwonlyargs:=[],kw_defaults:=[],kwarg:=none,defaults:=[] }
noncomputable def gC (s:Stmt):List Stmt:=match s with
 | .FunctionDef _ _ b _ _ _ _ _ _ _=>b
 | _=>[]
noncomputable def h_ (s:Stmt):Scope:=match s with
 | .FunctionDef _ _ _ _ _ _ sc _ _ _=>sc
 | _=>{ kind:=.function,names:=[],isGenerator:=false,isCoroutine:=false }
abbrev CX0:CXT:=fun _ _ _ _ _ _=>False
abbrev E0:XK:=fun _ _ _=>False
structure Fun (K:PySem.W.Frag) (x qual:Str) (st:Stmt) (f:Addr) (fd:FuncData):Prop where
 ex:∃ (oc:Value) (od:Option Addr) (kV doc pm:Value) (an:Option Addr) (cdv ct:Value) (osl:Array (Option Value)),
  fd=PySem.W.fnOf x qual (cH st) (gC st) (h_ st) .none kV doc pm an cdv ct/\K.lookup f=some ⟨oc,od,.func fd,osl⟩/\PySem.W.codeIn K cdv qual=true
 kp:PySem.W.keepIn K (.ref f)=true
section
variable {P:Program} {w:World} {K:PySem.W.Frag} {mg:Str->Option Value} {base:Heap}
theorem Fun.binds {x qual:Str} {st:Stmt} {f:Addr} {fd:FuncData} {ps:List Str} (F:Fun K x qual st f fd)
  (h:∀ (kV doc pm:Value) (an:Option Addr) (cdv ct:Value) (us:List Value),us.length=ps.length->bindArgs (PySem.W.fnOf x qual (cH st) (gC st) (h_ st) .none kV doc pm an cdv ct) ⟨us,[]⟩=pure (ps.zip us)):Binds K fd ps []:=by
 obtain ⟨oc,od,kV,doc,pm,an,cdv,ct,osl,rfl,lk,hcd⟩:=F.ex
 exact .all (h kV doc pm an cdv ct)
theorem E6 {x qual:Str} {st:Stmt} {f:Addr} {oc:Value} {od an:Option Addr} {osl:Array (Option Value)} {kV doc pm cdv ct:Value} (l:K.lookup f=some ⟨oc,od,.func (PySem.W.fnOf x qual (cH st) (gC st) (h_ st) .none kV doc pm an cdv ct),osl⟩)
  (c:PySem.W.codeIn K cdv qual=true) (k:PySem.W.keepIn K (.ref f)=true):Fun K x qual st f (PySem.W.fnOf x qual (cH st) (gC st) (h_ st) .none kV doc pm an cdv ct):=⟨⟨oc,od,kV,doc,pm,an,cdv,ct,osl,rfl,l,c⟩,k⟩
end
section
variable {X:Cx}
end
end L2

namespace L2
open PySem PySem.Spec PyProof.Rows
section
variable {κ:Type} [DecidableEq κ]
noncomputable def b8 (kvs:List (κ × V)) (k:κ):Option V:=(kvs.find? fun kv=>decide (kv.1=k)).map (·.2)
noncomputable def putK (kvs:List (κ × V)) (k:κ) (v:V):List (κ × V) :=
 if (kvs.any fun kv=>decide (kv.1=k))=true then kvs.map (fun kv=>if kv.1=k then (kv.1,v) else kv) else kvs++[(k,v)]
theorem lH {p:κ × V} {r:List (κ × V)} {k:κ} (e:p.1=k):b8 (p::r) k=some p.2:=by simp [b8,List.find?_cons,e]
theorem kh {p:κ × V} {r:List (κ × V)} {k:κ} (e:¬ p.1=k):b8 (p::r) k=b8 r k:=by simp [b8,List.find?_cons,e]
theorem p_ (k:κ):∀ kvs:List (κ × V),(kvs.any fun kv=>decide (kv.1=k))=(b8 kvs k).isSome
 | []=>rfl
 | p::r=>by
  rw [List.any_cons]
  by_cases e:p.1=k
  ·simp only [lH e,decide_eq_true e,Bool.true_or,Option.isSome_some]
  ·rw [kh e,decide_eq_false e,Bool.false_or]; exact p_ k r
theorem pX (kvs:List (κ × V)) (k:κ) (v:V):(putK kvs k v).length<=kvs.length+1:=by
 unfold putK
 split
 ·rw [List.length_map]; omega
 ·rw [List.length_append,List.length_cons,List.length_nil]; omega
theorem dh.BG {o:Option V} {u:Option Value} (r:dh o u):o.isSome=u.isSome:=by
 cases o with
 | none=>cases u with
  | none=>rfl
  | some _=>exact (show False from r).elim
 | some _=>cases u with
  | none=>exact (show False from r).elim
  | some _=>rfl
theorem KV.val {kvs:List (κ × V)} {vs:List (κ × Value)} (r:KV kvs vs) (k:κ):dh (b8 kvs k) (valueAt vs k):=by
 unfold KV at r
 induction r with
 | nil=>exact True.intro
 | @cons p q ps qs h t ih =>
  obtain ⟨h1,h2⟩:=h
  by_cases e:p.1=k
  ·have e':q.1=k:=h1.symm.trans e
   have b:valueAt (q::qs) k=some q.2:=by simp [valueAt,List.find?_cons,e']
   rw [lH e,b]; exact h2
  ·have e':¬ q.1=k:=fun z=>e (h1.trans z)
   have b:valueAt (q::qs) k=valueAt qs k:=by simp [valueAt,List.find?_cons,e']
   rw [kh e,b]; exact ih
theorem KV.any {kvs:List (κ × V)} {vs:List (κ × Value)} (r:KV kvs vs) (k:κ):(kvs.any fun kv=>decide (kv.1=k))=vs.any fun kv=>decide (kv.1=k):=by
 unfold KV at r
 induction r with
 | nil=>rfl
 | cons h t ih=>rw [List.any_cons,List.any_cons,ih,h.1]
theorem KV.repl {kvs:List (κ × V)} {vs:List (κ × Value)} (r:KV kvs vs) (k:κ) {y:V} {u:Value} (ry:RelV y u) :
  KV (kvs.map fun kv=>if kv.1=k then (kv.1,y) else kv) (vs.map fun kv=>if kv.1=k then (kv.1,u) else kv):=by
 unfold KV at r ⊢
 induction r with
 | nil=>exact .nil
 | @cons p q ps qs h t ih =>
  rw [List.map_cons,List.map_cons]
  refine .cons ?_ ih
  obtain ⟨h1,h2⟩:=h
  by_cases e:p.1=k
  ·rw [if_pos e,if_pos (h1.symm.trans e)]; exact ⟨h1,ry⟩
  ·rw [if_neg e,if_neg (fun z=>e (h1.trans z))]; exact ⟨h1,h2⟩
theorem KV.put {kvs:List (κ × V)} {vs:List (κ × Value)} (r:KV kvs vs) (k:κ) {y:V} {u:Value} (ry:RelV y u):KV (putK kvs k y) (stored vs k u):=by
 unfold putK stored
 rw [r.any k]
 by_cases e:(vs.any fun kv=>decide (kv.1=k))=true
 ·rw [if_pos e,if_pos e]; exact r.repl k ry
 ·rw [if_neg e,if_neg e]; exact Paired.snoc r ⟨rfl,ry⟩
theorem KV.length {kvs:List (κ × V)} {vs:List (κ × Value)} (r:KV kvs vs):kvs.length=vs.length:=Paired.length r
end
theorem j6 {P:Program} {w:World} {k:Key} {u:Value} (r:RelV (kV k) u):(b7 P w).is k u=true:=by
 cases k with
 | inl i=>obtain ⟨t,e⟩:=(show ∃ t,u=Value.int i t from r); subst e; exact vG P w i t
 | inr x=>obtain ⟨t,e⟩:=(show ∃ t,u=Value.str x t from r); subst e; exact vO P w x t
theorem pR {P:Program} {w:World}:∀ {ks:List Key} {us:List Value},Vals (ks.map kV) us->ItemsAre (b7 P w) ks us
 | [],_,r=>by rw [List.map_nil] at r; cases r; exact .nil
 | k::ks,_,r=>by
  rw [List.map_cons] at r
  cases r with
  | cons h t=>exact .cons (j6 h) (pR t)
abbrev KT (H:Hp):List (List Key × V)->List (List Key × Addr × Value)->Prop:=Paired fun p q=>p.1=q.1/\H q.2.1=some (.tup (p.1.map kV))/\RelV p.2 q.2.2
theorem KT.val {H:Hp} {kvs:List (List Key × V)} {xs:List (List Key × Addr × Value)} (r:KT H kvs xs) (k:List Key):dh (b8 kvs k) ((atKey xs k).map (·.2)):=by
 induction r with
 | nil=>exact True.intro
 | @cons p q ps qs h t ih =>
  obtain ⟨h1,_,h2⟩:=h
  by_cases e:p.1=k
  ·have e':q.1=k:=h1.symm.trans e
   have b:atKey (q::qs) k=some q.2:=by simp [atKey,List.find?_cons,e']
   rw [lH e,b]; exact h2
  ·have e':¬ q.1=k:=fun z=>e (h1.trans z)
   have b:atKey (q::qs) k=atKey qs k:=by simp [atKey,List.find?_cons,e']
   rw [kh e,b]; exact ih
theorem KT.repl {H:Hp} {kvs:List (List Key × V)} {xs:List (List Key × Addr × Value)} (r:KT H kvs xs) (k:List Key) {y:V} {u:Value} (ry:RelV y u) :
  KT H (kvs.map fun kv=>if kv.1=k then (kv.1,y) else kv) (xs.map (putAt k u)):=by
 induction r with
 | nil=>exact .nil
 | @cons p q ps qs h t ih =>
  rw [List.map_cons,List.map_cons]
  refine .cons ?_ ih
  obtain ⟨h1,h2,h3⟩:=h
  unfold putAt
  by_cases e:p.1=k
  ·rw [if_pos e,if_pos (h1.symm.trans e)]; exact ⟨h1,h2,ry⟩
  ·rw [if_neg e,if_neg (fun z=>e (h1.trans z))]; exact ⟨h1,h2,h3⟩
theorem KT.put {H:Hp} {kvs:List (List Key × V)} {xs:List (List Key × Addr × Value)} (r:KT H kvs xs) (k:List Key) {b:Addr} {y:V} {u:Value} (hb:H b=some (.tup (k.map kV))) (ry:RelV y u) :
  KT H (putK kvs k y) (storedH xs k b u):=by
 have e:(kvs.any fun kv=>decide (kv.1=k))=(atKey xs k).isSome:=by
  rw [p_,(r.val k).BG,Option.isSome_map]
 unfold putK storedH
 rw [e]
 by_cases q:(atKey xs k).isSome=true
 ·rw [if_pos q,if_pos q]; exact r.repl k ry
 ·rw [if_neg q,if_neg q]; exact Paired.snoc r ⟨rfl,hb,ry⟩
theorem KT.keeps {H H':Hp} {kvs:List (List Key × V)} {xs:List (List Key × Addr × Value)} (r:KT H kvs xs) (ht:∀ b ys,H b=some (.tup ys)->H' b=some (.tup ys)):KT H' kvs xs :=
 Paired.mD r fun _ _ z=>⟨z.1,ht _ _ z.2.1,z.2.2⟩
section
variable {P:Program} {w:World} {H:Hp} {h:Heap} {a:Addr}
theorem qp {u:HO} (ok:HOk P w H h) (e:Rd H a u):bg P w H h a u:=e.ok ok
theorem kB {kvs:List (Key × V)} (ok:HOk P w H h) (e:Rd H a (.dK kvs)):kvs.length<=sizeLine/\(a==sysModules)=false/\∃ vs,KV kvs vs/\h.DictOf (b7 P w) a vs :=
 show bg P w H h a (.dK kvs) from qp ok e
theorem Dh {kvs:List (Key × V)} (ok:HOk P w H h) (e:H a=some (.dK kvs)):kvs.length<=sizeLine/\(a==sysModules)=false/\∃ vs,KV kvs vs/\h.DictOf (b7 P w) a vs:=kB ok (.inl e)
theorem kO {ks:List Key} (ok:HOk P w H h) (e:H a=some (.tup (ks.map kV))):(tupleKind (b7 P w)).is h ks a:=by
 obtain ⟨_,its,r,o,h1,h2,n,h3⟩:=(show bg P w H h a (.tup (ks.map kV)) from ok a _ e)
 exact ⟨o,its.toArray,n,h1,h2,h3,by simpa using pR r⟩
theorem jE {kvs:List (List Key × V)} (ok:HOk P w H h) (e:Rd H a (.dT kvs)):kvs.length<=sizeLine/\(a==sysModules)=false /\
  ∃ xs,KT H kvs xs/\h.DictOfH (tupleKind (b7 P w)) a xs:=by
 obtain ⟨z,y,xs,r,o,es,ep,h1,h2,h3,h4,h5⟩:=(show bg P w H h a (.dT kvs) from qp ok e)
 refine ⟨z,y,xs,r,o,es,ep,h1,h2,h3,h4,fun x hx=>?_,h5⟩
 have all:∀ {l:List (List Key × V)} {m:List (List Key × Addr × Value)},KT H l m->∀ x∈m,(tupleKind (b7 P w)).is h x.1 x.2.1:=by
  intro l m q
  induction q with
  | nil=>intro x hx; exact nomatch hx
  | @cons p q ps qs hq t ih =>
   intro x hx
   rcases List.mem_cons.mp hx with e|hx
   ·subst e
    exact kO ok (by rw [<- hq.1]; exact hq.2.1)
   ·exact ih x hx
 exact all r x hx
theorem tV {kvs:List (List Key × V)} (ok:HOk P w H h) (e:H a=some (.dT kvs)):kvs.length<=sizeLine/\(a==sysModules)=false /\
  ∃ xs,KT H kvs xs/\h.DictOfH (tupleKind (b7 P w)) a xs:=jE ok (.inl e)
end
noncomputable def fU (H:Hp) (a:Addr) (y:V) (r:Option V):Prop :=
 (∃ kvs k,Rd H a (.dK kvs)/\y=kV k/\r=b8 kvs k)\/∃ kvs k b,Rd H a (.dT kvs)/\y=.ref b/\H b=some (.tup (k.map kV))/\r=b8 kvs k
noncomputable def gH (H:Hp) (a:Addr) (y v:V) (H':Hp):Prop :=
 (∃ kvs k,H a=some (.dK kvs)/\y=kV k/\kvs.length < sizeLine/\H'=upd H a (.dK (putK kvs k v))) \/
 ∃ kvs k b,H a=some (.dT kvs)/\y=.ref b/\H b=some (.tup (k.map kV))/\kvs.length < sizeLine/\H'=upd H a (.dT (putK kvs k v))
theorem fU.t {H:Hp} {a b:Addr} {kvs:List (List Key × V)} {k:List Key} (e:H a=some (.dT kvs)) (eb:H b=some (.tup (k.map kV))):fU H a (.ref b) (b8 kvs k):=.inr ⟨kvs,k,b,.inl e,rfl,eb,rfl⟩
theorem gH.t {H:Hp} {a b:Addr} {kvs:List (List Key × V)} {k:List Key} {v:V} (e:H a=some (.dT kvs)) (eb:H b=some (.tup (k.map kV))) (hl:kvs.length < sizeLine) :
  gH H a (.ref b) v (upd H a (.dT (putK kvs k v))):=.inr ⟨kvs,k,b,e,rfl,eb,hl,rfl⟩
section
variable {X:Cx} {pins:List (Addr × Obj)} {σ:St} {H:Hp} {s:Shared} {a:Addr} {y v:V} {u r:Value} {o:Option V} {A:Around} {E:Value->Shared->Prop}
theorem Inv.big (I:Inv X pins σ H s):sysModules < s.heap.objs.size:=by
 have h:mainGlobals < s.heap.objs.size:=(I.mod.glob.keeps I.bk).lt
 exact Nat.lt_trans (by decide) h
theorem yI {Q:Value->Shared->Prop} (hu:A.units+1 < cLine) (I:Inv X pins σ H s) (g:fU H a y (some v)) (ry:RelV y u) (h:∀ w' s',Inv X pins σ H s'->RelV v w'->Q w' s') :
  wpAny (model X.prog X.w) A (getItem (.ref a) u) Q E s:=by
 rcases g with ⟨kvs,k,e,ey,l⟩|⟨kvs,k,b,e,ey,eb,l⟩
 ·subst ey
  obtain ⟨z,hd,vs,rel,dd⟩:=kB I.hok e
  obtain ⟨w',hw,rw'⟩:=dh.some_of (v:=v) (o:=valueAt vs k) (by rw [l]; exact rel.val k)
  exact wpAny_getItem_of (j6 ry) dd.mapOf hw (h w' _ (I.tok _) rw')
 ·subst ey
  cases (show u=Value.ref b from ry)
  obtain ⟨z,hd,xs,rel,dd⟩:=jE I.hok e
  obtain ⟨w',hw,rw'⟩:=dh.some_of (v:=v) (o:=(atKey xs k).map (·.2)) (by rw [l]; exact rel.val k)
  obtain ⟨p,hp,hp2⟩:=Option.map_eq_some_iff.mp hw
  refine wpAny_getItem_heap (tupleKind_room_in1 hu) (kO I.hok eb) dd hp ?_
  rw [hp2]
  exact h w' _ (I.tok _) rw'
theorem nG {h':Heap} {t':Nat} {ob:HO} (I:Inv X pins σ H s) (mu:Mut (H a)) (hs:Heap.SameBut a s.heap h') (he:∃ q,h'.get? a=some q) (new:bg X.prog X.w (upd H a ob) h' a ob) :
  Inv X pins σ (upd H a ob) { s with heap:=h',toks:=t' } :=
 I.write (x:=a) (e:=a) mu (.inl rfl) (fun b q hb z=>(hs.2 b hb).trans z) he new
theorem wN {P:Program} {w:World} {H':Hp} {h':Heap} {kvs:List (Key × V)} {vs:List (Key × Value)} (z:kvs.length<=sizeLine) (hd:(a==sysModules)=false) (rel:KV kvs vs) (dd:h'.DictOf (b7 P w) a vs) :
  bg P w H' h' a (.dK kvs):=⟨z,hd,vs,rel,dd⟩
theorem Fd {H':Hp} {Q:Unit->Shared->Prop} (hu:A.units+1 < cLine) (I:Inv X pins σ H s) (g:gH H a y v H') (ry:RelV y u) (rv:RelV v r) (h:∀ s',Inv X pins σ H' s'->Q () s') :
  wpAny (model X.prog X.w) A (setItem (.ref a) u r) Q E s:=by
 rcases g with ⟨kvs,k,e,ey,l,eH⟩|⟨kvs,k,b,e,ey,eb,l,eH⟩
 ·subst ey eH
  obtain ⟨z,hd,vs,rel,dd⟩:=Dh I.hok e
  have hz:vs.length<=sizeLine:=by rw [<- rel.length]; exact z
  have hl:(putK kvs k v).length<=sizeLine:=by have:=pX kvs k v; omega
  refine wpAny_setItem_pairs (hsz:=hz) (j6 ry) dd fun h' dd' hs=>h _ ?_
  have he:∃ q,h'.get? a=some q:=let ⟨q,_,_,hq,_⟩:=dd'; ⟨q,hq⟩
  exact nG I (by rw [e]; exact True.intro) hs he (wN hl hd (rel.put k rv) dd')
 ·subst ey eH
  cases (show u=Value.ref b from ry)
  obtain ⟨z,hd,xs,rel,dd⟩:=tV I.hok e
  have hz:xs.length<=sizeLine:=by rw [<- Paired.length rel]; exact z
  have hl:(putK kvs k v).length<=sizeLine:=by have:=pX kvs k v; omega
  refine wpAny_setItem_heap (hsz:=hz) (tupleKind_room_in1 hu) (kO I.hok eb) dd fun h' dd' hs=>h _ ?_
  obtain ⟨q,es,ep,hq,h2,h3,h4,_,h5⟩:=dd'
  refine nG I (by rw [e]; exact True.intro) hs ⟨q,hq⟩ ⟨hl,hd,_,(rel.put k eb rv).keeps fun c ys ec=>?_,q,es,ep,hq,h2,h3,h4,h5⟩
  rw [aB (lM ec e (fun z=>nomatch z))]
  exact ec
end
section
variable {X:Cx} {pins:List (Addr × Obj)} {σ:St} {H:Hp} {s:Shared} {a:Addr} {kvs:List (Key × V)} {k:Key} {u:Value} {A:Around} {E:Value->Shared->Prop}
end
noncomputable def mG (i:Expr):Prop:=∀ ov iv,subscripted i false ov iv=operate [ov,iv] (getItem ov iv)
theorem yO {prog:Program} {w:World} {A:Around} {E:Value->Shared->Prop} {s:Shared} {env:Env} {value slice:Expr} {pos:Pos} {T id:String} {Q:Value->Shared->Prop}
  (hl:typeLookup (.type T) "__getitem__" = pure (some (.builtin id))) (hs:mG slice)
  (h:wpAny (model prog w) A (eval value env) (fun o s₁=>wpAny (model prog w) A (eval slice env) (fun i s₂=>s₂.TypeIs o T/\wpAny (model prog w) A (getItem o i) Q E s₂) E s₁) E s) :
  wpAny (model prog w) A (eval (.Subscript value slice pos) env) Q E s:=by
 refine Subscript_ (wpAny_mono h (fun o s₁ h₁=>wpAny_mono h₁ (fun i s₂ h₂=>?_) fun _ _ x=>x) fun _ _ x=>x)
 obtain ⟨hT,h₂⟩:=h₂
 unfold subscriptTail
 refine wpAny_bind ?_
 rw [getitemInPython_of_ne hT.not_modules]
 refine wpAny_bind (wpAny_specialOf hT hl ?_)
 have fin:wpAny (model prog w) A (subscripted slice false o i) (fun r s₃=>wpAny (model prog w) A (letTemporaryGo value o r>>=fun _=>pure r) Q E s₃) E s₂:=by
  rw [hs o i]
  exact wpAny_operating (wpAny_mono h₂ (fun r s₃ h₃=>wpAny_bind (wpAny_letTemporaryGo (wpAny_pure h₃))) fun _ _ x=>x)
 first
  | exact wpAny_pure (wpAny_bind fin)
  | exact wpAny_bind (wpAny_pure (wpAny_bind fin))
  | exact wpAny_bind fin
theorem EL {X:Cx} {pins:List (Addr × Obj)} {σ:St} {H:Hp} {s:Shared} {a:Addr} {y:V} {o:Option V} (I:Inv X pins σ H s) (g:fU H a y o):s.TypeIs (.ref a) "dict":=by
 rcases g with ⟨kvs,k,e,_,_⟩|⟨kvs,k,b,e,_,_,_⟩
 ·obtain ⟨_,_,vs,_,dd⟩:=kB I.hok e
  exact dd.typeIs
 ·obtain ⟨_,_,xs,_,dd⟩:=jE I.hok e
  exact dd.typeIs
noncomputable def zo (td ty:TE):TE:=fun σ H Q=>td σ H fun x H1=>ty σ H1 fun y H2=>∃ a v,x=.ref a/\fU H2 a y (some v)/\Q v H2
noncomputable def we (td ty tv:TE):TS:=fun D σ H=>tv σ H fun v H1=>td σ H1 fun x H2=>ty σ H2 fun y H3=>∃ a H4,x=.ref a/\gH H3 a y v H4/\D.nx σ H4
section
variable {X:Cx} {o i e value:Expr} {pos pos' tpos:Pos} {td ty tv:TE}
theorem uf (hu:X.A.units+1 < cLine) (ho:PE X o td) (hi:PE X i ty) (hs:mG i):PE X (.Subscript o i pos) (zo td ty):=by
 intro pins s σ H Q I h
 refine yO PySem.F.slot_dict_getitem.lookup hs (thn (ho pins s σ H _ I h) fun u s1 ⟨x,H1,I1,rx,q1⟩=>thn (hi pins s1 σ H1 _ I1 q1) fun iv s2 ⟨y,H2,I2,ry,a,v,ex,g,q2⟩=>?_)
 subst ex
 obtain rfl:u=Value.ref a:=rx
 exact ⟨EL I2 g,yI hu I2 g ry fun w' s3 I3 rw'=>⟨v,H2,I3,rw',q2⟩⟩
theorem Ax (hu:X.A.units+1 < cLine) (ho:PE X o td) (hi:PE X i ty) (hv:PE X value tv) (hs:swapsWith value (some (.Subscript o i pos')) pos.line X.env=pure false) :
  PS X (.Assign [.Subscript o i pos'] value pos) (we td ty tv):=by
 intro pins s σ H D I h
 refine wpAny_Assign_Subscript (thn (hv pins s σ H _ I h) fun r s1 ⟨v,H1,I1,rv,q1⟩=>thn (ho pins s1 σ H1 _ I1 q1) fun u s2 ⟨x,H2,I2,rx,q2⟩=>thn (hi pins s2 σ H2 _ I2 q2) fun iv s3 ⟨y,H3,I3,ry,a,H4,ex,g,q3⟩=>?_) hs
 subst ex
 obtain rfl:u=Value.ref a:=rx
 exact Fd hu I3 g ry rv fun s4 I4=>⟨σ,H4,I4,q3⟩
end
theorem zQ {P:Program} {w:World} {H:Hp} (h:Heap) (hb:sysModules < h.objs.size):bg P w H (h.push { cls:=.type "dict",data:=.dict #[] }) h.objs.size (.dT []) :=
 ⟨Nat.zero_le _,beq_eq_false_iff_ne.mpr (Ne.symm (Nat.ne_of_lt hb)),[],.nil,_,#[],0,Heap.get?_push_size _ rfl,⟨rfl,rfl,rfl⟩,rfl,rfl,List.nodup_nil⟩
noncomputable def Aj:TE:=fun _ H Q=>∀ p,H p=none->Q (.ref p) (upd H p (.dT []))
section
variable {X:Cx} {pos:Pos}
theorem zP:PE X (.Dict [] [] pos) Aj:=fun pins s σ H Q I h =>
 wpAny_Dict_empty ⟨.ref s.heap.objs.size,_,I.laid (a:=s.heap.objs.size) (o:=.dT []) (t':=s.toks) (fun _ _ q=>Heap.get?_push_of_some _ q) (Nat.le_refl _) (zQ s.heap I.big),rfl,h _ (I.hok.fresh (Nat.le_refl _))⟩
end
end L2

namespace L2
open PySem PySem.Spec PyProof.Rows
section
variable {prog:Program} {w:World} {A:Around} {R:Result->Shared->Prop} {s:Shared}
theorem BA {elt target iter:Expr} {ifs:List Expr} {scope:Scope} {pos:Pos} {it acc:Value} {env:Env} (I:Nat->Shared->Prop)
  (turn:∀ n s,I n s->wpAny (model prog w) A (pyNext it) (fun r s₁=>match r with
   | none=>R (.ok .next) s₁
   | some v=>wpAny (model prog w) A (letOwnedTupleGo target it v) (fun _ s₁'=>wpAny (model prog w) A (assign target env v) (fun _ s₂ =>
     wpAny (model prog w) A (forIn ifs true fun c r=>if r=true then do let ok <- isTrue c env (eval c env); pure (ForInStep.yield ok) else pure (ForInStep.yield r)) (fun ok s₃ =>
      if ok=true then wpAny (model prog w) A (eval elt env) (fun x s₄ =>
       wpAny (model prog w) A (call (.builtin "list.append") [acc,x]) (fun _ s₅=>∃ m,m < n/\I m s₅) (fun _ _=>False) s₄) (fun _ _=>False) s₃
      else ∃ m,m < n/\I m s₃) (fun _ _=>False) s₂) (fun _ _=>False) s₁') (fun _ _=>False) s₁) (fun _ _=>False) s)
  (n:Nat) (h:I n s) :
  codeAny (model prog w) A (.compLoop (.ListComp elt [⟨target,iter,ifs,0⟩] scope pos) 0 it acc env) R s:=by
 refine codeAny_loop rfl I (fun n s hI=>?_) n h
 show wpAny _ A ((compTurn (.ListComp elt [⟨target,iter,ifs,0⟩] scope pos) 0 it acc env).onRaise (fun x=>do noteFrame x env; theTreesLotGoes x)) _ _ s
 refine wpAny_noted ?_
 rw [compTurn_list]
 refine wpAny_bind (wpAny_standAt (wpAny_bind (wpAny_mono (turn n s hI) (fun r s₁ h₁=>?_) fun _ _ h'=>h'.elim)))
 cases r with
 | none=>exact wpAny_pure h₁
 | some v =>
  refine wpAny_bind (wpAny_mono h₁ (fun _ s₁' h₁'=>?_) fun _ _ h'=>h'.elim)
  refine wpAny_bind (wpAny_mono h₁' (fun _ s₂ h₂=>wpAny_bind (wpAny_mono h₂ (fun ok s₃ h₃=>?_) fun _ _ h'=>h'.elim)) fun _ _ h'=>h'.elim)
  cases ok with
  | false=>exact wpAny_pure ⟨rfl,h₃⟩
  | true =>
   exact wpAny_bind (wpAny_bind (wpAny_mono h₃ (fun x s₄ h₄=>wpAny_bind (wpAny_mono h₄ (fun _ s₅ h₅=>wpAny_pure (wpAny_pure ⟨rfl,h₅⟩)) fun _ _ h'=>h'.elim)) fun _ _ h'=>h'.elim))
end
theorem kU {env:Env}:∀ (names:List (Str × NameKind)) (cs:List (Str × Addr)),(∀ y∈names,y.2=.free->∃ c,env.cells.lookup y.1=some c) ->
  (∀ x c,cs.lookup x=some c->env.cells.lookup x=some c) ->
  ∃ cl,(forIn names cs fun (p:Str × NameKind) (r:List (Str × Addr))=>if (p.2==NameKind.free)=true then (do let c <- cellOf env p.1; pure (ForInStep.yield ((p.1,c)::r))) else pure (ForInStep.yield r):Sem (List (Str × Addr)))=pure cl /\
   (∀ x c,cl.lookup x=some c->env.cells.lookup x=some c)/\(∀ x c,cs.lookup x=some c->cl.lookup x=some c)/\∀ y∈names,y.2=.free->cl.lookup y.1=env.cells.lookup y.1
 | [],cs,_,hc=>⟨cs,rfl,hc,fun _ _ h=>h,fun y hy=>absurd hy (by simp)⟩
 | (x,k)::r,cs,h,hc=>by
  have hr:∀ y∈r,y.2=.free->∃ c,env.cells.lookup y.1=some c:=fun y hy=>h y (List.mem_cons_of_mem _ hy)
  by_cases hk:k=.free
  ·subst hk
   obtain ⟨c,e⟩:=h (x,.free) List.mem_cons_self rfl
   have hc':∀ z d,((x,c)::cs).lookup z=some d->env.cells.lookup z=some d:=fun z d q=>by
    by_cases hz:z=x
    ·subst hz
     rw [List.lookup_cons_self] at q
     cases q; exact e
    ·rw [List.lookup_cons,show (z==x)=false from beq_eq_false_iff_ne.mpr hz] at q
     exact hc z d q
   obtain ⟨cl,e1,e2,e3,e4⟩:=kU r ((x,c)::cs) hr hc'
   refine ⟨cl,?_,e2,fun z d q=>?_,fun y hy hf=>?_⟩
   ·rw [List.forIn_cons]
    simp only [beq_self_eq_true,if_true]
    unfold cellOf
    rw [e]
    simp only [pure_bind]
    exact e1
   ·by_cases hz:z=x
    ·subst hz
     have:=hc z d q
     rw [e] at this
     exact e3 z d (by rw [List.lookup_cons_self]; exact this)
    ·exact e3 z d (by rw [List.lookup_cons,show (z==x)=false from beq_eq_false_iff_ne.mpr hz]; exact q)
   ·rcases List.mem_cons.mp hy with z|z
    ·subst z
     rw [e3 x c (List.lookup_cons_self),e]
    ·exact e4 y z hf
  ·have hb:(k==NameKind.free)=false:=beq_eq_false_iff_ne.mpr hk
   obtain ⟨cl,e1,e2,e3,e4⟩:=kU r cs hr hc
   refine ⟨cl,?_,e2,e3,fun y hy hf=>?_⟩
   ·rw [List.forIn_cons]
    simp only [hb,Bool.false_eq_true,if_false,pure_bind]
    exact e1
   ·rcases List.mem_cons.mp hy with z|z
    ·subst z; exact absurd hf hk
    ·exact e4 y z hf
theorem qO {env:Env} {scope:Scope} (h:∀ y∈scope.names,y.2=.free->∃ c,env.cells.lookup y.1=some c) :
  ∃ cl,closureFor scope env=pure cl/\(∀ x c,cl.lookup x=some c->env.cells.lookup x=some c)/\∀ y∈scope.names,y.2=.free->cl.lookup y.1=env.cells.lookup y.1:=by
 obtain ⟨cl,e1,e2,_,e4⟩:=kU (env:=env) scope.names [] h (fun x c q=>by cases q)
 refine ⟨cl,?_,e2,e4⟩
 unfold closureFor
 show ((forIn scope.names ([]:List (Str × Addr)) fun (p:Str × NameKind) (r:List (Str × Addr))=>if (p.2==NameKind.free)=true then (do let c <- cellOf env p.1; pure (ForInStep.yield ((p.1,c)::r))) else pure (ForInStep.yield r):Sem (List (Str × Addr)))>>=fun s=>pure s)=pure cl
 rw [e1]
 rfl
noncomputable def aL (X:Cx) (scope:Scope) (cl:List (Str × Addr)) (N':List Str) (fp:List Addr) (s3:Shared) (H3:Hp):Cx :=
 { X with N:=N',s₀:=s3,H₀:=H3,env:=compEnvC scope cl s3.heap.objs.size X.env,outer:=X.stack,stack:=X.stack,ex:=fp,fn:=fun x=>decide (scope.names.lookup x=some .cell),pn:=[],xe:=fun _ _=>False }
noncomputable def PF (X:Cx) (ifs:List Expr) (t:TT):Prop :=
 ∀ (pins:List (Addr × Obj)) (s:Shared) (σ:St) (H:Hp) (Q:Bool->Hp->Prop),Inv X pins σ H s->t σ H Q ->
  wpAny (model X.prog X.w) X.A (forIn ifs true fun c r=>if r=true then do let ok <- isTrue c X.env (eval c X.env); pure (ForInStep.yield ok) else pure (ForInStep.yield r)) (TP X pins σ Q) X.xe s
theorem rf {X:Cx}:PF X [] (fun _ H Q=>Q true H):=fun _ _ _ H _ I h=>wpAny_tests_nil ⟨H,I,h⟩
theorem qD {X:Cx} {c:Expr} {t:TT} (hc:PT X c t):PF X [c] t:=fun pins s σ H Q I h=>wpAny_tests_one (hc pins s σ H Q I h)
noncomputable def jB (k:Nat) (wi:TI) (g:TG) (tt:TT) (te:TE):TE:=fun σ H Q=>wi σ H fun J H1=>∀ l,H1 l=none->∃ W:Nat->Nat->Hp->Prop,(∃ m,W 0 m (upd H1 l (.lst [])))/\∀ i m H,W i m H ->
 (J.stop i H/\Q (.ref l) H)\/(J.go i H/\∀ x H',J.yld i H x H'->g x (σ++List.replicate k none) H' fun σ2 H2=>(∀ (j:Nat) v,(σ++List.replicate k none)[j]?=some (some v)->σ2[j]?=some (some v))/\tt σ2 H2 fun b H3 =>
  if b=true then te σ2 H3 fun y H4=>∃ xs,H4 l=some (.lst xs)/\xs.length < sizeLine/\∃ m',m' < m/\W (i+1) m' (upd H4 l (.lst (xs++[y]))) else ∃ m',m' < m/\W (i+1) m' H3)
theorem i6:∀ (names:List (Str × NameKind)) (n:Nat) (acc:List (Str × Addr)),cellsFrom n names acc=cellsFrom n names []++acc
 | [],_,_=>rfl
 | (x,k)::r,n,acc=>by
  unfold cellsFrom
  split
  ·rw [i6 r (n+1) ((x,n)::acc),i6 r (n+1) [(x,n)],List.append_assoc]; rfl
  ·exact i6 r n acc
theorem mj {x:Str} {c:Addr}:∀ (names:List (Str × NameKind)) (n:Nat) (acc:List (Str × Addr)),(x,c)∈cellsFrom n names acc->(x,NameKind.cell)∈names\/(x,c)∈acc
 | [],_,_,h=>.inr h
 | (y,k)::r,n,acc,h=>by
  unfold cellsFrom at h
  split at h
  ·rename_i hk
   rcases mj r (n+1) _ h with z|z
   ·exact .inl (List.mem_cons_of_mem _ z)
   ·rcases List.mem_cons.mp z with e|e
    ·cases e
     rw [beq_iff_eq.mp hk]
     exact .inl List.mem_cons_self
    ·exact .inr e
  ·rcases mj r n acc h with z|z
   ·exact .inl (List.mem_cons_of_mem _ z)
   ·exact .inr z
theorem jx {α:Type}:∀ {l:List (Str × α)} {x:Str} {a:α},(l.map (·.1)).Nodup->(x,a)∈l->l.lookup x=some a
 | (y,b)::r,x,a,nd,h=>by
  obtain ⟨n1,n2⟩:=List.nodup_cons.mp nd
  rcases List.mem_cons.mp h with e|e
  ·cases e; exact List.lookup_cons_self
  ·have hne:x≠y:=fun z=>n1 (List.mem_map.mpr ⟨(x,a),e,z⟩)
   rw [List.lookup_cons,beq_eq_false_iff_ne.mpr hne]
   exact jx n2 e
theorem jW {scope:Scope} {n:Nat} {cl:List (Str × Addr)} (nd:(scope.names.map (·.1)).Nodup) (x:Str):(scope.names.lookup x=some .cell/\∃ c,(cellsFrom n scope.names cl).lookup x=some c/\(x,c)∈cellsFrom n scope.names [])\/(scope.names.lookup x≠some .cell/\(cellsFrom n scope.names cl).lookup x=cl.lookup x):=by
 rw [i6]
 by_cases h:scope.names.lookup x=some .cell
 ·refine .inl ⟨h,?_⟩
  obtain ⟨c,e⟩:=kL (n:=n) h
  exact ⟨c,by rw [List.lookup_append,e]; rfl,mem_of_lookup e⟩
 ·refine .inr ⟨h,?_⟩
  cases e:(cellsFrom n scope.names []).lookup x with
  | none=>rw [List.lookup_append,e]; rfl
  | some c =>
   rcases mj _ _ _ (mem_of_lookup e) with z|z
   ·exact absurd (jx nd z) h
   ·cases z
theorem BE {M:Model} {A:Around} {E:Value->Shared->Prop} {s:Shared} {scope:Scope} {cl:List (Str × Addr)} {g:Addr} {env:Env} {qual:Str} {Q:Env->Shared->Prop}
  (hQ:Q { scope:=scope,locals:=s.heap.objs.size,globals:=g,cells:=cellsFrom (s.heap.objs.size+1) scope.names cl,qual:=qual,func:=none,code:=env.code,frame:=env.frame,builtins:=env.builtins } { s with heap:=pushCells (s.heap.push { cls:=.type "dict",data:=.dict #[] }) scope.names }) :
  wpAny M A (newFunctionEnv scope g cl [] qual none .none (some env)) Q E s:=by
 simp only [newFunctionEnv,Option.isSome_some,if_true]
 refine wpAny_bind (wpAny_alloc ?_)
 refine wpAny_bind (wpAny_layCells _ (fun name kind cells=>by cases hkc:kind==NameKind.cell <;> simp [hkc]) _ _ _ _ ?_)
 rw [show ({ s with heap:=s.heap.push { cls:=.type "dict",data:=.dict #[] } }:Shared).heap.objs.size=s.heap.objs.size+1 from Heap.size_push ..]
 refine wpAny_bind ?_
 rw [List.forIn_nil]
 exact wpAny_pure (wpAny_pure hQ)
structure dZ (X:Cx) (scope:Scope) (N':List Str) (k:Nat):Prop where
 fr:∀ y∈scope.names,y.2=.free->X.env.kindOf y.1=some .cell\/X.env.kindOf y.1=some .free
 nd:(scope.names.map (·.1)).Nodup
 kind:scope.kind=.function
 names:∀ y∈scope.names,y.2=.local->scope.names.lookup y.1=some .local
 len:N'.length=X.N.length+k
 old:∀ (i:Nat) (x:Str),i < X.N.length->N'[i]?=some x->Vis (relabel scope X.env) x->X.N[i]?=some x/\(x,NameKind.free)∈scope.names/\(relabel scope X.env).names.lookup x≠some .local
section
variable {X:Cx} {scope:Scope} {N':List Str} {k:Nat} {cl:List (Str × Addr)} {pins:List (Addr × Obj)} {σ:St} {H:Hp} {s3 s4:Shared} {fp:List Addr}
theorem uA (C:dZ X scope N' k) (hc:X.calm=true) (I:Inv X pins σ H s3) (hf:∀ b∈fp,cy X pins H b) (hfl:∀ b∈fp,b < s3.heap.objs.size) (hcl1:∀ x c,cl.lookup x=some c->X.env.cells.lookup x=some c)
  (hcl2:∀ y∈scope.names,y.2=.free->cl.lookup y.1=X.env.cells.lookup y.1) {cl':List (Str × Addr)} (hcl':cl'=cellsFrom (s3.heap.objs.size+1) scope.names cl) (h':Heap) (hns:h'.Ns s3.heap.objs.size fun _=>none) (hk:∀ b o,s3.heap.get? b=some o->h'.get? b=some o) (hown:CellsOk h' (s3.heap.objs.size+1) (cellsFrom (s3.heap.objs.size+1) scope.names [])) :
  Inv (aL X scope cl' N' fp s3 H) [] (σ++List.replicate k none) H { s3 with heap:=h' }:=by
 have fpold:∀ b∈fp,∀ o,X.base.get? b≠some o:=fun b hb o e=>by
  rcases (hf b hb).2.2.2.1 with z|z
  ·exact I.ok.noex b o e z
  ·exact absurd (Nat.lt_of_lt_of_le (Heap.lt_size (I.ok.bs b o e).1) z) (Nat.lt_irrefl _)
 have own:∀ x c,cl'.lookup x=some c->(scope.names.lookup x=some .cell/\(x,c)∈cellsFrom (s3.heap.objs.size+1) scope.names []/\s3.heap.objs.size < c/\h'.IsCell c none)\/(scope.names.lookup x≠some .cell/\cl.lookup x=some c):=fun x c e=>by
  rw [hcl'] at e
  rcases jW (n:=s3.heap.objs.size+1) (cl:=cl) C.nd x with ⟨h1,c',e1,e2⟩|⟨h1,e1⟩
  ·rw [e1] at e; cases e
   have:=hown.empty x c e2
   exact .inl ⟨h1,e2,this.2,this.1⟩
  ·rw [e1] at e; exact .inr ⟨h1,e⟩
 have fre:∀ y∈scope.names,y.2=.free->cl'.lookup y.1=X.env.cells.lookup y.1:=fun y hy hf=>by
  rw [hcl']
  rcases jW (n:=s3.heap.objs.size+1) (cl:=cl) C.nd y.1 with ⟨h1,_⟩|⟨_,e1⟩
  ·have:=jx C.nd (show (y.1,y.2)∈scope.names from hy)
   rw [h1,hf] at this; cases this
  ·rw [e1]; exact hcl2 y hy hf
 have ncl:∀ x c,cl.lookup x=some c->c < s3.heap.objs.size:=fun x c e=>by
  obtain ⟨v,o,ho,_⟩:=I.cell x c (hcl1 x c e)
  exact Heap.lt_size ho
 have ok:(aL X scope cl' N' fp s3 H).Ok:=by
  refine ⟨I.ok.mod,C.kind,I.ok.glob,I.ok.blt,Nat.le_refl _,fun x y c h1 h2=>?_,fun x hx=>?_,fun x c hfn e=>?_,I.ok.hd,I.ok.frames,.inl rfl,fun b hb=>?_,I.bs,Nat.le_trans I.ok.bsz I.sz,fun b o e hb=>fpold b hb o e,fun b hb hb2=>?_,I.stack,I.pQ⟩
  ·rcases own x c h1 with ⟨a1,a2,a3,a4⟩|⟨a1,a2⟩
   ·rcases own y c h2 with ⟨b1,b2,b3,b4⟩|⟨b1,b2⟩
    ·exact name_of_addr hown.apart a2 b2
    ·exact absurd (ncl y c b2) (Nat.lt_asymm a3)
   ·rcases own y c h2 with ⟨b1,b2,b3,b4⟩|⟨b1,b2⟩
    ·exact absurd (ncl x c a2) (Nat.lt_asymm b3)
    ·exact I.ok.inj x y c (hcl1 x c a2) (hcl1 y c b2)
  ·have hx':(relabel scope X.env).names.lookup x=some .cell\/(relabel scope X.env).names.lookup x=some .free:=hx
   have:(x,NameKind.free)∈scope.names\/(x,NameKind.cell)∈scope.names:=by
    have all:∀ (ns:List (Str × NameKind)),((ns.map fun (n,k)=>if (k==.free&&X.env.scope.kind==.function&&X.env.kindOf n==some .cell) then (n,NameKind.cell) else (n,k)).lookup x=some .cell\/(ns.map fun (n,k)=>if (k==.free&&X.env.scope.kind==.function&&X.env.kindOf n==some .cell) then (n,NameKind.cell) else (n,k)).lookup x=some .free)->(x,NameKind.free)∈ns\/(x,NameKind.cell)∈ns:=by
     intro ns
     induction ns with
     | nil=>intro h; rcases h with h|h <;> simp at h
     | cons y r ih =>
      intro h
      obtain ⟨n,kd⟩:=y
      have hr:=ih
      simp only [List.map_cons] at h
      by_cases hxn:x=n
      ·subst hxn
       by_cases hkf:kd=.free
       ·subst hkf; exact .inl List.mem_cons_self
       ·have hb:(kd==NameKind.free)=false:=beq_eq_false_iff_ne.mpr hkf
        simp only [hb,Bool.false_and,Bool.false_eq_true,if_false,List.lookup_cons_self] at h
        rcases h with h|h
        ·rw [Option.some.inj h]; exact .inr List.mem_cons_self
        ·exact absurd (Option.some.inj h) hkf
      ·have hb:(x==n)=false:=beq_eq_false_iff_ne.mpr hxn
       refine (hr ?_).imp (List.mem_cons_of_mem _) (List.mem_cons_of_mem _)
       by_cases hcnd:(kd==NameKind.free&&X.env.scope.kind==.function&&X.env.kindOf n==some .cell)=true
       ·simp only [if_pos hcnd,List.lookup_cons,hb] at h
        exact h
       ·simp only [if_neg hcnd,List.lookup_cons,hb] at h
        exact h
    exact all scope.names hx'
   rcases this with this|this
   ·obtain ⟨c,e⟩:=I.ok.has x (C.fr _ this rfl)
    exact ⟨c,(fre _ this rfl).trans e⟩
   ·rcases jW (n:=s3.heap.objs.size+1) (cl:=cl) C.nd x with ⟨h1,c',e1,e2⟩|⟨h1,_⟩
    ·exact ⟨c',by show cl'.lookup x=_; rw [hcl']; exact e1⟩
    ·exact absurd (jx C.nd this) h1
  ·rcases own x c e with ⟨a1,a2,a3,a4⟩|⟨a1,a2⟩
   ·exact Nat.le_of_lt a3
   ·exact absurd (of_decide_eq_true hfn) a1
  ·obtain ⟨f0,f1,f2,f3,f4,f5⟩:=hf b hb
   refine ⟨?_,fun x c e=>?_⟩
   rotate_left
   ·rcases own x c e with ⟨a1,a2,a3,a4⟩|⟨a1,a2⟩
    ·exact fun z=>absurd (hfl b hb) (by rw [<- z]; exact Nat.lt_asymm a3)
    ·exact f4 x c (hcl1 x c a2)
   intro z
   have hz:b=s3.heap.objs.size:=z
   exact absurd (hfl b hb) (by rw [hz]; exact Nat.lt_irrefl _)
  ·obtain ⟨f0,f1,f2,f3,f4,f5⟩:=hf b hb
   rcases List.mem_cons.mp (I.j3 b hb2) with z|z
   ·exact f1 z
   ·exact f2 z
 refine ⟨ok,rfl,I.bare,Un.kept hk,⟨fun _=>none,hns,fun i x v e1 e2 e3=>?_⟩,fun x c e=>?_,I.hok.fresh (Nat.le_refl _),fun x c e=>?_,fun p hp=>absurd (show p∈([]:List (Addr × Obj)) from hp) (by simp),I.hok.kept hk,?_⟩
 ·have hi:i < σ.length:=by
   by_cases hi:i < σ.length
   ·exact hi
   ·rw [List.getElem?_append_right (by omega),List.getElem?_replicate] at e2
    split at e2 <;> cases e2
  rw [List.getElem?_append_left hi] at e2
  obtain ⟨o1,o2,o3⟩:=C.old i x (by rw [<- I.len]; exact hi) e1 e3
  obtain ⟨m,hn,hl⟩:=I.loc
  have hkk:=C.fr _ o2 rfl
  obtain ⟨u,r,l⟩:=hl i x v o1 e2 (by rcases hkk with q|q; exact .inr (.inl q); exact .inr (.inr q))
  refine ⟨u,r,?_⟩
  rcases l with ⟨q,_⟩|⟨q,c,e,z⟩
  ·rcases hkk with q'|q' <;> (rw [q] at q'; cases q')
  ·refine .inr ⟨?_,c,(fre _ o2 rfl).trans e,?_⟩
   ·rcases e3 with e3|e3|e3
    ·exact absurd e3 o3
    ·exact .inl e3
    ·exact .inr e3
   ·obtain ⟨o,ho,hd⟩:=z
    exact ⟨o,hk _ _ ho,hd⟩
 ·rcases own x c e with ⟨a1,a2,a3,a4⟩|⟨a1,a2⟩
  ·exact ⟨none,a4⟩
  ·obtain ⟨v,o,ho,hd⟩:=I.cell x c (hcl1 x c a2)
   exact ⟨v,o,hk _ _ ho,hd⟩
 ·rcases own x c e with ⟨a1,a2,a3,a4⟩|⟨a1,a2⟩
  ·exact I.hok.fresh (Nat.le_of_lt a3)
  ·exact I.freeC x c (hcl1 x c a2)
 ·show (σ++List.replicate k none).length=N'.length
  rw [List.length_append,List.length_replicate,I.len,C.len]
theorem oW {elt iter tg:Expr} {ifs:List Expr} {pos:Pos} {g:TG} {tt:TT} {te:TE} {it:Addr} {tn:Nat->Heap->Prop} {J:It} {s2:Shared} {Q:VK} {E:Value->Shared->Prop} (C:dZ X scope N' k) (hc:X.calm=true)
  (hg:∀ cl fp s3 H3,PG (aL X scope cl N' fp s3 H3) tg g) (htt:∀ cl fp s3 H3,PF (aL X scope cl N' fp s3 H3) ifs tt) (hte:∀ cl fp s3 H3,PE (aL X scope cl N' fp s3 H3) elt te)
  (hcl1:∀ x c,cl.lookup x=some c->X.env.cells.lookup x=some c) (hcl2:∀ y∈scope.names,y.2=.free->cl.lookup y.1=X.env.cells.lookup y.1)
  (I2:Inv X pins σ H s2) (T:Turn X.prog X.w X.K tg J fp it tn) (st2:tn 0 s2.heap) (f2:∀ b∈fp,cy X pins H b)
  (h2:∀ l,H l=none->∃ W:Nat->Nat->Hp->Prop,(∃ m,W 0 m (upd H l (.lst [])))/\∀ i m H,W i m H ->
   (J.stop i H/\Q (.ref l) H)\/(J.go i H/\∀ x H',J.yld i H x H'->g x (σ++List.replicate k none) H' fun σ2 H2=>(∀ (j:Nat) v,(σ++List.replicate k none)[j]?=some (some v)->σ2[j]?=some (some v))/\tt σ2 H2 fun b H3 =>
    if b=true then te σ2 H3 fun y H4=>∃ xs,H4 l=some (.lst xs)/\xs.length < sizeLine/\∃ m',m' < m/\W (i+1) m' (upd H4 l (.lst (xs++[y]))) else ∃ m',m' < m/\W (i+1) m' H3))
  {R:Value->Addr->Result->Shared->Prop} (hR:∀ l c H' s' m,Inv X pins σ H' s'->Q (.ref l) H'->s'.heap.Ns c m->cy X pins H' c->R (.ref l) c (.ok .next) s') :
  wpAny (model X.prog X.w) X.A (newList []) (fun acc s₃=>wpAny (model X.prog X.w) X.A (newFunctionEnv scope X.env.globals cl [] X.env.qual none .none (some X.env)) (fun cenv s₄ =>
   codeAny (model X.prog X.w) X.A (.compStart (.ListComp elt [⟨tg,iter,ifs,0⟩] scope pos) 0 (.ref it) acc { cenv with scope:=relabel scope X.env }) (R acc cenv.locals) s₄) E s₃) E s2:=by
 refine wpAny_newObj_type ?_
 have hl0:H s2.heap.objs.size=none:=I2.hok.fresh (Nat.le_refl _)
 obtain ⟨W,⟨m0,w0⟩,turn⟩:=h2 s2.heap.objs.size hl0
 have I3:Inv X pins σ (upd H s2.heap.objs.size (.lst [])) { s2 with heap:=s2.heap.push { cls:=.type "list",data:=.seq ([]:List Value).toArray } } :=
  I2.laid (t':=s2.toks) (fun b u e=>Heap.get?_push_of_some _ e) (Nat.le_refl _) ⟨by show 0<=_; omega,[],0,.nil,Heap.get?_push_size _ rfl⟩
 have obj2:∀ b∈fp,∃ o,s2.heap.get? b=some o/\∀ v,o.data≠.cell v:=T.obj _ _ st2
 have lt2:∀ b∈fp,b < s2.heap.objs.size:=fun b hb=>let ⟨o,e,_⟩:=obj2 b hb; Heap.lt_size e
 have f3:∀ b∈fp,cy X pins (upd H s2.heap.objs.size (.lst [])) b:=fun b hb=>⟨by rw [aB (Nat.ne_of_lt (lt2 b hb))]; exact (f2 b hb).1,(f2 b hb).2⟩
 generalize hs3:({ s2 with heap:=s2.heap.push { cls:=.type "list",data:=.seq ([]:List Value).toArray } }:Shared)=s3 at I3 ⊢
 have st3:tn 0 s3.heap:=T.keep _ _ _ st2 fun b hb o e=>by rw [<- hs3]; exact Heap.get?_push_of_some _ e
 generalize hH3:upd H s2.heap.objs.size (.lst [])=H3 at I3 w0 f3
 generalize s2.heap.objs.size=l at turn ⊢ w0
 clear hs3 hH3
 have obj3:∀ b∈fp,∃ o,s3.heap.get? b=some o/\∀ v,o.data≠.cell v:=T.obj _ _ st3
 have lt3:∀ b∈fp,b < s3.heap.objs.size:=fun b hb=>let ⟨o,e,_⟩:=obj3 b hb; Heap.lt_size e
 refine BE ?_
 have hown:=cellsFrom_ok scope.names (s3.heap.push { cls:=.type "dict",data:=.dict #[] }) (s3.heap.objs.size+1) [] ⟨fun _ _ hm=>(nomatch hm),List.Pairwise.nil⟩ (by rw [Heap.size_push]; exact Nat.le_refl _)
 rw [Heap.size_push] at hown
 have hns₁:(pushCells (s3.heap.push { cls:=.type "dict",data:=.dict #[] }) scope.names).Ns s3.heap.objs.size fun _=>none:=(Heap.Ns.new s3.heap (.type "dict")).keeps (pushCells_keeps _ _)
 have hk1:∀ b o,s3.heap.get? b=some o->(pushCells (s3.heap.push { cls:=.type "dict",data:=.dict #[] }) scope.names).get? b=some o:=fun b o e=>pushCells_keeps _ _ b o (Heap.get?_push_of_some _ e)
 generalize hcl':cellsFrom (s3.heap.objs.size+1) scope.names cl=cl'
 generalize pushCells (s3.heap.push { cls:=.type "dict",data:=.dict #[] }) scope.names=h₁ at hown hns₁ hk1
 have I4:Inv (aL X scope cl' N' fp s3 H3) [] (σ++List.replicate k none) H3 { s3 with heap:=h₁ }:=uA C hc I3 f3 lt3 hcl1 hcl2 hcl'.symm h₁ hns₁ hk1 hown
 have st4:tn 0 h₁:=T.keep _ _ _ st3 fun b _ o e=>hk1 b o e
 have stat:∀ {H':Hp},(∀ b∈fp,H' b=none)->∀ b∈fp,cy (aL X scope cl' N' fp s3 H3) [] H' b:=fun {H'} hn b hb =>
  ⟨hn b hb,(I4.ok.exf b hb).1,I4.ok.exfs b hb,.inl hb,(I4.ok.exf b hb).2,fun p hp=>absurd (show p∈([]:List (Addr × Obj)) from hp) (by simp)⟩
 have loop:∀ s4:Shared,s4={ s3 with heap:=h₁ } ->
   codeAny (model X.prog X.w) X.A (.compLoop (.ListComp elt [⟨tg,iter,ifs,0⟩] scope pos) 0 (.ref it) (.ref l) (compEnvC scope cl' s3.heap.objs.size X.env)) (R (.ref l) s3.heap.objs.size) s4:=by
  rintro s4 rfl
  refine BA (env:=(aL X scope cl' N' fp s3 H3).env) (fun n s'=>∃ i H',Inv (aL X scope cl' N' fp s3 H3) [] (σ++List.replicate k none) H' s'/\tn i s'.heap/\(∀ b∈fp,H' b=none)/\W i n H') ?_ m0 ⟨0,H3,I4,st4,fun b hb=>(f3 b hb).1,w0⟩
  rintro n s5 ⟨i,H5,I5,st5,fr5,w5⟩
  rcases turn i n H5 w5 with ⟨stop,qn⟩|⟨go,step⟩
  ·refine thn (T.done (aL X scope cl' N' fp s3 H3) rfl rfl rfl hc i [] s5 _ H5 _ I5 (stat fr5) st5 stop) fun r s6 ⟨hr,I6⟩=>?_
   subst hr
   obtain ⟨m,hnm,_⟩:=I6.loc
   have I7:Inv X pins σ H5 s6:=I3.vt (ch:=fp) I6.os I6.base I6.hok I6.bare fun b hb=>⟨(f3 b hb).2.2.2.1,(f3 b hb).2.1,(f3 b hb).2.2.2.2.1,(f3 b hb).2.2.2.2.2⟩
   exact hR l _ H5 s6 m I7 qn hnm (I3.fk (Nat.le_refl _) I6.free)
  ·refine thn (T.item (aL X scope cl' N' fp s3 H3) rfl rfl rfl hc i [] s5 _ H5 _ I5 (stat fr5) st5 go) fun r s6 ⟨u,hr,h6⟩=>?_
   subst hr
   refine thn h6 fun _ s7 ⟨x,H7,I7,r7,y7,st7,fr7⟩=>?_
   have I7':=I7.pinned (stat fr7) (T.obj _ _ st7)
   refine thn (hg cl' fp s3 H3 _ s7 _ H7 x u _ I7' r7 (step x H7 y7)) fun _ s8 ⟨σ8,H8,I8,w8,q8⟩=>?_
   refine thn (htt cl' fp s3 H3 _ s8 σ8 H8 _ I8 q8) fun b s9 ⟨H9,I9,q9⟩=>?_
   have again:∀ {H':Hp} {s':Shared},Inv (aL X scope cl' N' fp s3 H3) ([]++gP fp s7.heap) σ8 H' s'->(∃ m',m' < n/\W (i+1) m' H') ->
     ∃ m,m < n/\∃ i H',Inv (aL X scope cl' N' fp s3 H3) [] (σ++List.replicate k none) H' s'/\tn i s'.heap/\(∀ b∈fp,H' b=none)/\W i m H':=fun {H' s'} I' ⟨m',hm,w'⟩=>by
    refine ⟨m',hm,i+1,H',(I'.jj).weak (by rw [I'.len]; exact I4.len) w8,T.keep _ _ _ st7 fun b hb o e=>(I'.pin (b,o) (List.mem_append_right _ (List.mem_append_right _ (iQ hb e)))).1,fun b hb=>?_,w'⟩
    obtain ⟨o,e,d⟩:=T.obj _ _ st7 b hb
    exact (I'.pin (b,o) (List.mem_append_right _ (List.mem_append_right _ (iQ hb e)))).2.1
   cases b with
   | false=>exact again I9 (by simpa using q9)
   | true =>
    rw [if_pos rfl]
    rw [if_pos rfl] at q9
    refine thn (hte cl' fp s3 H3 _ s9 σ8 H9 _ I9 q9) fun y s10 ⟨yv,H10,I10,r10,xs,hl10,hz,q10⟩=>?_
    refine thn (pC (X:=aL X scope cl' N' fp s3 H3) _ s10 σ8 H10 (.ref l) [yv] (.ref l) [y] (fun _ H'=>∃ m',m' < n/\W (i+1) m' H') I10 rfl (.cons r10 .nil) ⟨l,xs,yv,rfl,rfl,hl10,hz,q10⟩) fun _ s11 ⟨_,H11,I11,_,q11⟩=>again I11 q11
 exact codeAny_compStart_list (loop _ rfl) (T.self _ 0 _ _ _ st4 (loop _ rfl))
theorem EC {elt iter tg:Expr} {ifs:List Expr} {pos:Pos} {wi:TI} {g:TG} {tt:TT} {te:TE} (C:dZ X scope N' k) (hc:X.calm=true) (hi:PI X tg iter wi)
  (hg:∀ cl fp s3 H3,PG (aL X scope cl N' fp s3 H3) tg g) (htt:∀ cl fp s3 H3,PF (aL X scope cl N' fp s3 H3) ifs tt) (hte:∀ cl fp s3 H3,PE (aL X scope cl N' fp s3 H3) elt te)
  (hs:∀ x,foldedSetIterable iter X.env x=pure x:=by intro _; rfl):PE X (.ListComp elt [⟨tg,iter,ifs,0⟩] scope pos) (jB k wi g tt te):=by
 intro pins s σ H Q I h
 rw [eval_ListComp]
 obtain ⟨cl,e1,e2,e3⟩:=qO (env:=X.env) (scope:=scope) fun y hy hf=>I.ok.has y.1 (C.fr y hy hf)
 refine wpAny_comprehension_free (use:=none) rfl hs e1 C.kind C.names (thn (hi pins s σ H _ I h) fun v s1 h1=>thn h1 fun itv s2 h2=>?_)
 obtain ⟨it,fp,tn,J,H2,e,I2,T,st2,f2,h2⟩:=h2
 subst e
 refine oW (R:=fun acc c=>compPost (model X.prog X.w) X.A X.xe none (EP X pins σ Q) acc c) C hc hg htt hte e2 e3 I2 T st2 f2 h2 fun l c H' s' m I' q hn fc=>?_
 obtain ⟨f0,f1,f2,f3,f4,f5⟩:=fc
 exact ⟨m,hn,fun h' hsb=>⟨.ref l,H',I'.turned (t':=s'.toks) (fun b o hb e=>(hsb.2 b hb).trans e) f0 f1 f3 f4 f5,rfl,q⟩⟩
theorem Fb {elt iter tg:Expr} {ifs:List Expr} {pos:Pos} {wi:TI} {g:TG} {tt:TT} {te:TE} {j:Nat} {y:Str} {py spos:Pos} (C:dZ X scope N' k) (hc:X.calm=true) (hi:PI X tg iter wi)
  (hg:∀ cl fp s3 H3,PG (aL X scope cl N' fp s3 H3) tg g) (htt:∀ cl fp s3 H3,PF (aL X scope cl N' fp s3 H3) ifs tt) (hte:∀ cl fp s3 H3,PE (aL X scope cl N' fp s3 H3) elt te)
  (hN:X.N.Nodup) (hj:X.N[j]?=some y) (hy:X.env.scope.names.lookup y=some .local)
  (hsw:swapsWith (.ListComp elt [⟨tg,iter,ifs,0⟩] scope pos) (some (.Name y py)) spos.line X.env=pure true)
  (hs:∀ x,foldedSetIterable iter X.env x=pure x:=by intro _; rfl):PS X (.Assign [.Name y py] (.ListComp elt [⟨tg,iter,ifs,0⟩] scope pos) spos) (kI (jB k wi g tt te) (g_ j)):=by
 intro pins s σ H D I h
 rw [exec_Assign_Name_used _ _ _ _ hsw]
 refine wpAny_bind (wpAny_standAt (wpAny_bind ?_))
 show wpAny _ X.A (do let _ <- comprehension (.ListComp elt [⟨tg,iter,ifs,0⟩] scope pos) scope X.env _ (newList []) false (eval iter X.env) (some (assign (.Name y py) X.env))) _ _ s
 obtain ⟨cl,e1,e2,e3⟩:=qO (env:=X.env) (scope:=scope) fun y hy hf=>I.ok.has y.1 (C.fr y hy hf)
 refine wpAny_bind (wpAny_mono (wpAny_comprehension_free (use:=some (assign (.Name y py) X.env)) (Q:=fun _ s'=>SP X pins D .next s') rfl hs e1 C.kind C.names
  (thn (hi pins s σ H _ I h) fun v s1 h1=>thn h1 fun itv s2 h2=>?_)) (fun _ s' hq=>wpAny_pure (wpAny_pure hq)) fun _ _ e=>e)
 obtain ⟨it,fp,tn,J,H2,e,I2,T,st2,f2,h2⟩:=h2
 subst e
 refine oW (Q:=fun x H1=>g_ j x σ H1 D.nx) (R:=fun acc c=>compPost (model X.prog X.w) X.A X.xe (some (assign (.Name y py) X.env)) (fun _ s'=>SP X pins D .next s') acc c) C hc hg htt hte e2 e3 I2 T st2 f2 h2 fun l c H' s' m I' q hn fc=>?_
 obtain ⟨f0,f1,f2,f3,f4,f5⟩:=fc
 show wpAny _ X.A (assign (.Name y py) X.env (.ref l)) _ _ _
 refine wpAny_assign_Name (o9 I' hN hj (.inl hy) (v:=.ref l) rfl (fun s'' I'' ch=>?_) (.inr hy))
 obtain ⟨a,hsb,ha⟩:=ch
 have hac:c≠a:=by
  rcases ha with z|z
  ·rw [z]; exact f1
  ·exact fun w=>f4 y a z w.symm
 refine ⟨m,hn.sameBut hsb hac,fun h' hsb2=>⟨_,H',I''.turned (t':=s''.toks) (fun b o hb e=>(hsb2.2 b hb).trans e) f0 f1 f3 f4 f5,q⟩⟩
end
end L2

namespace NEQ
open PySem PySem.SeqAt
open AutoSeq1 (wpAny_loadPart')
open MeetsSeq MeetsSeq2 MeetsSeq3 SeqRoads2
theorem AY (p q:Addr) (us ws:Array Value) (n1 n2:Nat) (d1 d2:Option Addr) (z1 z2:Array (Option Value)) (hlen:us.size=ws.size) (same:Nat->Bool) (left:Nat) :
  ∀ at_:Nat,us.size - at_=left->Meets (Builtin.«list.__eq__.loop» ⟨[.ref p,.ref q,rawInt at_,rawInt 3],[]⟩)
   (fun A R st=>st.heap.get? p=some { cls:=.type "list",dict:=d1,data:=.seq us n1,slots:=z1 }/\st.heap.get? q=some { cls:=.type "list",dict:=d2,data:=.seq ws n2,slots:=z2 } /\
    (∀ j (h1:j < us.size) (h2:j < ws.size),EqAt A.in1 st us[j] ws[j] (same j))/\R (.ok (.ret (.bool (!((List.range us.size).drop at_).all same)))) st):=by
 induction left with
 | zero =>
  intro at_ hk prog w A R st hyp
  obtain ⟨hp,g,dr,tk,os⟩:=st
  obtain ⟨hl,hb,he,fin⟩:=hyp
  wp_walk using wpAny_loadPart' hl,wpAny_loadPart' hb
  have no1:us[((at_:Nat):Int).toNat]?=none:=by simp; omega
  have no2:ws[((at_:Nat):Int).toNat]?=none:=by simp; omega
  have nil:(List.range us.size).drop at_=[]:=by simp; omega
  rw [nil] at fin
  rw [no1,no2]
  wp_walk using wpAny_loadPart' hl,wpAny_loadPart' hb
  show R (.ok (.ret (.bool (us.size != ws.size)))) _
  rw [hlen]
  simpa using fin
 | succ left ih =>
  intro at_ hk prog w A R st hyp
  obtain ⟨hp,g,dr,tk,os⟩:=st
  obtain ⟨hl,hb,he,fin⟩:=hyp
  wp_walk using wpAny_loadPart' hl,wpAny_loadPart' hb
  have lt1:at_ < us.size:=by omega
  have lt2:at_ < ws.size:=by omega
  have yes1:us[((at_:Nat):Int).toNat]?=some us[at_]:=by simp [lt1]
  have yes2:ws[((at_:Nat):Int).toNat]?=some ws[at_]:=by simp [lt2]
  have cons:(List.range us.size).drop at_=at_::(List.range us.size).drop (at_+1):=by simp [List.drop_eq_getElem_cons,lt1]
  have up:((at_:Int)+1)=((at_+1:Nat):Int):=by push_cast; rfl
  rw [cons,List.all_cons] at fin
  rw [yes1,yes2]
  refine wpAny_bind (he at_ lt1 lt2 prog w _ _ ?_)
  cases ev:same at_ with
  | true =>
   rw [ev] at fin
   wp_walk
   rw [up]
   exact ⟨plainId_quiet plain_eq_loop _,codeAny_builtin entry_eq_loop (by
    rw [Around.under_plainId plain_eq_loop _]
    exact ih (at_+1) (by omega) prog w A R _ ⟨hl,hb,he,by simpa using fin⟩)⟩
  | false =>
   rw [ev] at fin
   wp_walk using wpAny_loadPart' hl,wpAny_loadPart' hb
   rw [yes1,yes2]
   wp_walk
   simpa using fin
theorem ED (p q:Addr) (us ws:Array Value) (n1 n2:Nat) (d1 d2:Option Addr) (z1 z2:Array (Option Value)) (hlen:us.size=ws.size) (same:Nat->Bool) :
  Meets (Builtin.«list.__ne__» ⟨[.ref p,.ref q],[]⟩)
   (fun A R st=>st.heap.get? p=some { cls:=.type "list",dict:=d1,data:=.seq us n1,slots:=z1 }/\st.heap.get? q=some { cls:=.type "list",dict:=d2,data:=.seq ws n2,slots:=z2 } /\
    (∀ j (h1:j < us.size) (h2:j < ws.size),EqAt A.in1 st us[j] ws[j] (same j))/\R (.ok (.ret (.bool (!(List.range us.size).all same)))) st):=by
 intro prog w A R st hyp
 obtain ⟨hp,g,dr,tk,os⟩:=st
 obtain ⟨hl,hb,he,fin⟩:=hyp
 have f3:=AutoSeq1.sub_list_list
 have hne:¬ (us.size != ws.size)=true:=by simp [hlen]
 wp_walk using wpAny_loadPart' hl,wpAny_loadPart' hb
 exact ⟨plainId_quiet plain_eq_loop _,codeAny_builtin entry_eq_loop (by
  rw [Around.under_plainId plain_eq_loop _]
  exact AY p q us ws n1 n2 d1 d2 z1 z2 hlen same _ 0 rfl prog w A R _ ⟨hl,hb,he,by simpa using fin⟩)⟩
theorem wW (p q:Addr) (us ws:Array Value) (n1 n2:Nat) (d1 d2:Option Addr) (z1 z2:Array (Option Value)) (hlen:(us.size != ws.size)=true) :
  Meets (Builtin.«list.__ne__» ⟨[.ref p,.ref q],[]⟩)
   (fun _ R st=>st.heap.get? p=some { cls:=.type "list",dict:=d1,data:=.seq us n1,slots:=z1 }/\st.heap.get? q=some { cls:=.type "list",dict:=d2,data:=.seq ws n2,slots:=z2 } /\
    R (.ok (.ret (.bool true))) st) :=
 .of_wp fun prog w A R st hyp=>by
  obtain ⟨hp,g,dr,tk,os⟩:=st
  obtain ⟨hl,hb,fin⟩:=hyp
  have f3:=AutoSeq1.sub_list_list
  wp_walk using wpAny_loadPart' hl,wpAny_loadPart' hb
  exact ⟨_,rfl,fin⟩
theorem uC (p q:Addr) (us ws:Array Value) (n1 n2:Nat) (d1 d2:Option Addr) (z1 z2:Array (Option Value)) (same:Nat->Bool) :
  Meets (Builtin.«tuple.__ne__» ⟨[.ref p,.ref q],[]⟩)
   (fun A R st=>st.heap.get? p=some { cls:=.type "tuple",dict:=d1,data:=.seq us n1,slots:=z1 }/\st.heap.get? q=some { cls:=.type "tuple",dict:=d2,data:=.seq ws n2,slots:=z2 } /\
    (∀ j (h1:j < us.size) (h2:j < ws.size),EqAt A.in1 st us[j] ws[j] (same j)) /\
    R (.ok (.ret (.bool (!((List.range (min us.size ws.size)).all same&&us.size==ws.size))))) st) :=
 .of_wp fun prog w A R st hyp=>by
  obtain ⟨hp,g,dr,tk,os⟩:=st
  obtain ⟨hl,hb,he,fin⟩:=hyp
  have f2:=AutoSeq1.sub_tuple_tuple
  have zl:(us.toList.zip ws.toList).length=min us.size ws.size:=by simp
  wp_walk using wpAny_loadPart' hl,wpAny_loadPart' hb,wpAny_forIn_list _ (fun more b s'=>b.1=none/\s'=⟨hp,g,dr,tk,os⟩/\∃ i,more=(us.toList.zip ws.toList).drop i /\
   R (.ok (.ret (.bool (!(((List.range (min us.size ws.size)).drop i).all same&&us.size==ws.size))))) ⟨hp,g,dr,tk,os⟩) _
  case turn =>
   rintro ⟨y,x⟩ more b s' ⟨hb',rfl,i,hz,hR⟩
   have lt:i < (us.toList.zip ws.toList).length:=by
    rcases Nat.lt_or_ge i (us.toList.zip ws.toList).length with h'|h'
    ·exact h'
    ·rw [List.drop_of_length_le h'] at hz; cases hz
   have hm:i < min us.size ws.size:=zl ▸ lt
   have h1:i < us.size:=Nat.lt_of_lt_of_le hm (Nat.min_le_left _ _)
   have h2:i < ws.size:=Nat.lt_of_lt_of_le hm (Nat.min_le_right _ _)
   rw [List.drop_eq_getElem_cons lt] at hz
   injection hz with pair hmore
   have hy:y=us[i]:=by have:=congrArg Prod.fst pair; simpa using this
   have hx:x=ws[i]:=by have:=congrArg Prod.snd pair; simpa using this
   subst hy hx
   have cons:(List.range (min us.size ws.size)).drop i=i::(List.range (min us.size ws.size)).drop (i+1):=by simp [List.drop_eq_getElem_cons,hm]
   rw [cons,List.all_cons] at hR
   refine wpAny_bind (he i h1 h2 prog w _ _ ?_)
   cases ev:same i with
   | true =>
    rw [ev] at hR
    wp_walk
    exact ⟨rfl,rfl,i+1,hmore,by simpa using hR⟩
   | false =>
    rw [ev] at hR
    wp_walk
    exact ⟨_,rfl,by simpa using hR⟩
  case fin =>
   rintro ⟨b1,b2⟩ s' ⟨hb',rfl,i,hz,hR⟩
   simp only at hb'
   subst hb'
   have ge:min us.size ws.size<=i:=by
    rcases Nat.lt_or_ge i (us.toList.zip ws.toList).length with h'|h'
    ·rw [List.drop_eq_getElem_cons h'] at hz; cases hz
    ·exact zl ▸ h'
   rw [List.drop_of_length_le (by simpa using ge)] at hR
   wp_walk
   exact ⟨_,rfl,by simpa [Builtin.Tuple.tupleCompareSizes,bne] using hR⟩
  case h =>
   exact ⟨rfl,rfl,0,rfl,by simpa using fin⟩
section
variable {prog:Program} {w:World} {A:Around} {E:Value->Shared->Prop} {s:Shared}
theorem wo {l b:Addr} {us ws:Array Value} {same:Nat->Bool} {Q:Value->Shared->Prop} (hl:s.heap.IsList l us) (hb:s.heap.IsList b ws) (hlen:us.size=ws.size) (hu:A.units < cLine)
  (he:∀ j (h1:j < us.size) (h2:j < ws.size),EqAt A.in1 s us[j] ws[j] (same j)) (h:Q (.bool (!(List.range us.size).all same)) s):wpAny (model prog w) A (compareOp .NotEq (.ref l) (.ref b)) Q E s:=by
 obtain ⟨⟨c1,d1,t1,z1⟩,o1,k1,n1,e1⟩:=id hl
 obtain ⟨⟨c2,d2,t2,z2⟩,o2,k2,n2,e2⟩:=id hb
 simp only at k1 e1 k2 e2
 subst k1 e1 k2 e2
 exact richCompare_meets_room (op:=.NotEq) ⟨_,o1,rfl⟩ ⟨_,o2,rfl⟩ F.slot_list_ne F.entry_list_ne (F.args_list_ne_2 _ _) (ED l b us ws n1 n2 d1 d2 z1 z2 hlen same) ⟨o1,o2,he,⟨(fun x=>nomatch x),h⟩⟩ hu
theorem vD {l b:Addr} {us ws:Array Value} {Q:Value->Shared->Prop} (hl:s.heap.IsList l us) (hb:s.heap.IsList b ws) (hlen:(us.size != ws.size)=true) (hu:A.units < cLine)
  (h:Q (.bool true) s):wpAny (model prog w) A (compareOp .NotEq (.ref l) (.ref b)) Q E s:=by
 obtain ⟨⟨c1,d1,t1,z1⟩,o1,k1,n1,e1⟩:=id hl
 obtain ⟨⟨c2,d2,t2,z2⟩,o2,k2,n2,e2⟩:=id hb
 simp only at k1 e1 k2 e2
 subst k1 e1 k2 e2
 exact richCompare_meets_room (op:=.NotEq) ⟨_,o1,rfl⟩ ⟨_,o2,rfl⟩ F.slot_list_ne F.entry_list_ne (F.args_list_ne_2 _ _) (wW l b us ws n1 n2 d1 d2 z1 z2 hlen) ⟨o1,o2,⟨(fun x=>nomatch x),h⟩⟩ hu
theorem yL {l b:Addr} {us ws:Array Value} {same:Nat->Bool} {Q:Value->Shared->Prop} (hl:s.heap.IsTuple l us) (hb:s.heap.IsTuple b ws) (hu:A.units < cLine)
  (he:∀ j (h1:j < us.size) (h2:j < ws.size),EqAt A.in1 s us[j] ws[j] (same j)) (h:Q (.bool (!((List.range (min us.size ws.size)).all same&&us.size==ws.size))) s):wpAny (model prog w) A (compareOp .NotEq (.ref l) (.ref b)) Q E s:=by
 obtain ⟨⟨c1,d1,t1,z1⟩,o1,k1,n1,e1⟩:=id hl
 obtain ⟨⟨c2,d2,t2,z2⟩,o2,k2,n2,e2⟩:=id hb
 simp only at k1 e1 k2 e2
 subst k1 e1 k2 e2
 exact richCompare_meets_room (op:=.NotEq) ⟨_,o1,rfl⟩ ⟨_,o2,rfl⟩ F.slot_tuple_ne F.entry_tuple_ne (F.args_tuple_ne_2 _ _) (uC l b us ws n1 n2 d1 d2 z1 z2 same) ⟨o1,o2,he,⟨(fun x=>nomatch x),h⟩⟩ hu
end
end NEQ

namespace ENM
open PySem PyProof.Rows
open AutoSeq1 (wpAny_loadPart')
section
variable {prog:Program} {w:World} {A:Around} {E:Value->Shared->Prop} {s:Shared}
theorem yj {it t:Addr} {k:Nat} {us:Array Value} {u:Value} {Q:Value->Shared->Prop} (hit:s.heap.IsTupleIter it t k) (ht:s.heap.IsTuple t us) (hu:us[k]?=some u)
  (fin:∀ h',h'.IsTupleIter it t (k+1)->Heap.SameBut it s.heap h'->Q u { s with heap:=h' }):wpAny (model prog w) A (Builtin.SmallTypes.nextOf (.ref it)) Q E s:=by
 obtain ⟨ob,hob,hcl,hda⟩:=id hit
 obtain ⟨ot,hot,_,nt,hdt⟩:=ht
 unfold Builtin.SmallTypes.nextOf
 refine wpAny_bind (wpAny_callSpecial?_slot (name:=Str.ofString "__next__") hit.typeIs F.slot_tuple_iterator_next (wpAny_call_entry F.slot_tuple_iterator_next hit.typeIs F.entry_tuple_iterator_next ?_ (F.args_tuple_iterator_next_1 _)))
 show wpAny _ _ (field (.ref it) 0>>=_) _ _ s
 refine wpAny_bind (wpAny_field hob hda (x:=.ref t) rfl ?_)
 show wpAny _ _ (if (Value.ref t==Value.none)=true then _ else _) _ _ s
 rw [if_neg (show ¬ ((Value.ref t==Value.none)=true) from Bool.false_ne_true)]
 show wpAny _ _ (field (.ref it) 1>>=_) _ _ s
 refine wpAny_bind (wpAny_field hob hda (x:=.int k 0) rfl ?_)
 show wpAny _ _ (seqItems? (.ref t)>>=_) _ _ s
 refine wpAny_bind (wpAny_seqItems hot hdt ?_)
 simp only [Int.toNat_natCast,hu]
 refine wpAny_bind (wpAny_setField hob hda (by simp) (wpAny_pure ⟨u,rfl,wpAny_pure (fin _ ?_ (Heap.SameBut.update ..))⟩))
 refine ⟨_,Heap.get?_update_self _ hob (Obj.isFreed_of_fields (Obj.data_mapFields hda _)),(Obj.cls_mapFields ..).trans hcl,?_⟩
 rw [Obj.data_mapFields hda]
 simp [rawInt]
theorem wB {it t:Addr} {k:Nat} {us:Array Value} {Q:Value->Shared->Prop} (calm:A.handled=none) (hit:s.heap.IsTupleIter it t k) (ht:s.heap.IsTuple t us) (hu:us[k]?=none)
  (fin:∀ h' e,Heap.ExtBut it s.heap h'->(∃ o,h'.get? e=some o/\o.cls=.type "StopIteration")->E (.ref e) { s with heap:=h' }):wpAny (model prog w) A (Builtin.SmallTypes.nextOf (.ref it)) Q E s:=by
 obtain ⟨ob,hob,hcl,hda⟩:=id hit
 obtain ⟨ot,hot,_,nt,hdt⟩:=ht
 unfold Builtin.SmallTypes.nextOf
 refine wpAny_bind (wpAny_callSpecial?_slot (name:=Str.ofString "__next__") hit.typeIs F.slot_tuple_iterator_next (wpAny_call_entry F.slot_tuple_iterator_next hit.typeIs F.entry_tuple_iterator_next ?_ (F.args_tuple_iterator_next_1 _)))
 show wpAny _ _ (field (.ref it) 0>>=_) _ _ s
 refine wpAny_bind (wpAny_field hob hda (x:=.ref t) rfl ?_)
 show wpAny _ _ (if (Value.ref t==Value.none)=true then _ else _) _ _ s
 rw [if_neg (show ¬ ((Value.ref t==Value.none)=true) from Bool.false_ne_true)]
 show wpAny _ _ (field (.ref it) 1>>=_) _ _ s
 refine wpAny_bind (wpAny_field hob hda (x:=.int k 0) rfl ?_)
 show wpAny _ _ (seqItems? (.ref t)>>=_) _ _ s
 refine wpAny_bind (wpAny_seqItems hot hdt ?_)
 simp only [Int.toNat_natCast,hu]
 refine wpAny_bind (wpAny_rule (wpAny_bind (wpAny_setField hob hda (by simp) ?_)))
 show wpAny _ _ (newExc (.type "StopIteration") []>>=_) _ _ _
 refine wpAny_bind ?_
 simp only [newExc,newTuple]
 refine wpAny_bind (wpAny_newObj_type ?_ (by size_fits))
 refine wpAny_bind (m:=firstArgMember _ _) (wpAny_of_eq (a:=Value.none) (by first|rfl|(simp only [firstArgMember]; rfl)) ?_)
 refine wpAny_newObj_type ?_ (by size_fits)
 simp only [raiseNew]
 refine wpAny_bind (wpAny_handled ?_)
 first|rw [show A.in1.handled=none from calm]|rw [calm]
 refine wpAny_bind (wpAny_pure (wpAny_throw ?_))
 exact fin _ _ (((Heap.SameBut.update ..).extBut.push _).push _) ⟨_,Heap.get?_push_size _ rfl,rfl⟩
noncomputable def Inn (tup:Bool) (h:Heap) (it a:Addr) (k:Nat):Prop:=match tup with
 | true=>h.IsTupleIter it a k
 | false=>h.IsListIter it a k
noncomputable def Seq (tup:Bool) (h:Heap) (a:Addr) (us:Array Value):Prop:=match tup with
 | true=>h.IsTuple a us
 | false=>h.IsList a us
theorem Inn.keep {tup:Bool} {h h':Heap} {it a:Addr} {k:Nat} (x:Inn tup h it a k) (e:∀ o,h.get? it=some o->h'.get? it=some o):Inn tup h' it a k:=by
 cases tup with
 | true=>obtain ⟨o,ho,r⟩:=(show h.IsTupleIter it a k from x); exact ⟨o,e _ ho,r⟩
 | false=>obtain ⟨o,ho,r⟩:=(show h.IsListIter it a k from x); exact ⟨o,e _ ho,r⟩
theorem Inn.there {tup:Bool} {h:Heap} {it a:Addr} {k:Nat} (x:Inn tup h it a k):∃ o,h.get? it=some o/\∀ v,o.data≠.cell v:=by
 cases tup with
 | true=>obtain ⟨o,ho,_,hd⟩:=(show h.IsTupleIter it a k from x); exact ⟨o,ho,fun v z=>by rw [hd] at z; cases z⟩
 | false=>obtain ⟨o,ho,_,hd⟩:=(show h.IsListIter it a k from x); exact ⟨o,ho,fun v z=>by rw [hd] at z; cases z⟩
theorem iW {tup:Bool} {it a:Addr} {k:Nat} {us:Array Value} {u:Value} {Q:Value->Shared->Prop} (hit:Inn tup s.heap it a k) (hs:Seq tup s.heap a us) (hu:us[k]?=some u)
  (fin:∀ h',Inn tup h' it a (k+1)->Heap.SameBut it s.heap h'->Q u { s with heap:=h' }):wpAny (model prog w) A (Builtin.SmallTypes.nextOf (.ref it)) Q E s:=by
 cases tup with
 | true=>exact yj hit hs hu fin
 | false=>exact wpAny_nextOf_list_item hit hs hu fin
theorem j7 {tup:Bool} {it a:Addr} {k:Nat} {us:Array Value} {Q:Value->Shared->Prop} (calm:A.handled=none) (hit:Inn tup s.heap it a k) (hs:Seq tup s.heap a us) (hu:us[k]?=none)
  (fin:∀ h' e,Heap.ExtBut it s.heap h'->(∃ o,h'.get? e=some o/\o.cls=.type "StopIteration")->E (.ref e) { s with heap:=h' }):wpAny (model prog w) A (Builtin.SmallTypes.nextOf (.ref it)) Q E s:=by
 cases tup with
 | true=>exact wB calm hit hs hu fin
 | false=>exact wpAny_nextOf_list_end calm hit hs hu fin
theorem uR {tup:Bool} {en it a:Addr} {k:Nat} {us:Array Value} {u old:Value} {Q:Option Value->Shared->Prop} (he:IsEnum s.heap en it k old) (hit:Inn tup s.heap it a k) (hs:Seq tup s.heap a us) (hu:us[k]?=some u) (hne:en≠it)
  (fin:∀ h',IsEnumOut h' en it ((k:Int)+1) u s.heap.objs.size->Inn tup h' it a (k+1)->h'.get? s.heap.objs.size=some { cls:=.type "tuple",data:=.seq #[.int k s.toks,u] }->h'.objs.size=s.heap.objs.size+1 ->
   (∀ b o,b≠en->b≠it->s.heap.get? b=some o->h'.get? b=some o)->Q (some (.ref s.heap.objs.size)) { s with heap:=h',toks:=s.toks+1 }):wpAny (model prog w) A (pyNext (.ref en)) Q E s:=by
 have hT:s.TypeIs (.ref en) "enumerate":=⟨_,he,rfl⟩
 unfold pyNext
 refine wpAny_bind (wpAny_attempt (wpAny_callSpecial?_slot (name:=Str.ofString "__next__") hT F.slot_enumerate_next (wpAny_call_entry F.slot_enumerate_next hT F.entry_enumerate_next ?_ (F.args_enumerate_next_1 _))))
 obtain ⟨hp,g,dr,tk,os⟩:=s
 show wpAny _ _ (field (.ref en) 2>>=_) _ _ _
 refine wpAny_bind (wpAny_field he rfl (x:=.ref it) rfl ?_)
 refine wpAny_bind (iW hit hs hu fun h1 hit1 sb1=>?_)
 replace sb1:Heap.SameBut it hp h1:=sb1
 have he1:IsEnum h1 en it k old:=(sb1.2 en hne).trans he
 show wpAny _ _ (field (.ref en) 3>>=_) _ _ ⟨h1,g,dr,tk,os⟩
 refine wpAny_bind (wpAny_field he1 rfl (x:=rawInt k) rfl ?_)
 show wpAny _ _ (field (.ref en) 4>>=_) _ _ ⟨h1,g,dr,tk,os⟩
 refine wpAny_bind (wpAny_field he1 rfl (x:=.none) rfl ?_)
 show wpAny _ _ (mkInt k>>=_) _ _ ⟨h1,g,dr,tk,os⟩
 refine wpAny_bind (wpAny_mkInt ?_)
 show wpAny _ _ (setField (.ref en) 3 (rawInt ((k:Int)+1))>>=_) _ _ ⟨h1,g,dr,tk+1,os⟩
 refine wpAny_bind (wpAny_setField_rec he1 (by simp) fun h2 he2 sb2=>?_)
 replace sb2:Heap.SameBut en h1 h2:=sb2
 replace he2:IsEnum h2 en it ((k:Int)+1) old:=he2
 show wpAny _ _ (setField (.ref en) 4 .none>>=_) _ _ ⟨h2,g,dr,tk+1,os⟩
 refine wpAny_bind (wpAny_setField_rec he2 (by simp) fun h3 he3 sb3=>?_)
 replace sb3:Heap.SameBut en h2 h3:=sb3
 replace he3:IsEnum h3 en it ((k:Int)+1) old:=he3
 show wpAny _ _ (newTuple [.int k tk,u]>>=_) _ _ ⟨h3,g,dr,tk+1,os⟩
 refine wpAny_bind (wpAny_newTuple ?_)
 have he4:IsEnum (h3.push { cls:=.type "tuple",data:=.seq #[.int k tk,u] }) en it ((k:Int)+1) old:=Heap.get?_push_of_some _ he3
 generalize eh4:h3.push { cls:=.type "tuple",data:=.seq #[.int k tk,u] }=h4 at he4
 have sz3:h3.objs.size=hp.objs.size:=by rw [sb3.1,sb2.1,sb1.1]
 have enlt:en < hp.objs.size:=Heap.lt_size he
 have tp4:h4.get? hp.objs.size=some { cls:=.type "tuple",data:=.seq #[.int k tk,u] }:=by rw [<- eh4,<- sz3]; exact Heap.get?_push_size _ rfl
 have sz4:h4.objs.size=hp.objs.size+1:=by rw [<- eh4,Heap.size_push,sz3]
 have kp4:∀ b o,b≠en->b≠it->hp.get? b=some o->h4.get? b=some o:=fun b o hbe hbi hb=>by
  rw [<- eh4]; exact Heap.get?_push_of_some _ (sb3.extBut b o hbe (sb2.extBut b o hbe (sb1.extBut b o hbi hb)))
 have hit4:Inn tup h4 it a (k+1):=hit1.keep fun o e=>by
  rw [<- eh4]; exact Heap.get?_push_of_some _ (sb3.extBut _ o (Ne.symm hne) (sb2.extBut _ o (Ne.symm hne) e))
 show wpAny _ _ (Builtin.SmallTypes.ownedTupleIsFree (.ref en)>>=_) _ _ ⟨h4,g,dr,tk+1,os⟩
 rw [sz3]
 clear eh4 he3 sb3 he2 sb2 he1 sb1 hit1 sz3 h3 h2 h1
 refine wpAny_bind ?_
 unfold Builtin.SmallTypes.ownedTupleIsFree
 refine wpAny_bind (wpAny_field he4 rfl (x:=.none) rfl (wpAny_pure ?_))
 simp only [if_true]
 refine wpAny_bind (wpAny_rule ?_)
 refine wpAny_bind (wpAny_field he4 rfl (x:=old) rfl ?_)
 refine wpAny_bind (wpAny_setField_rec he4 (by simp) fun h5 he5 sb5=>?_)
 replace sb5:Heap.SameBut en h4 h5:=sb5
 replace he5:IsEnum h5 en it ((k:Int)+1) u:=he5
 show wpAny _ _ (Builtin.SmallTypes.ownedTupleHandOut (.ref en) (.ref hp.objs.size)>>=_) _ _ ⟨h5,g,dr,tk+1,os⟩
 refine wpAny_bind ?_
 unfold Builtin.SmallTypes.ownedTupleHandOut
 refine wpAny_bind (wpAny_setField_rec he5 (by simp) fun h6 he6 sb6=>?_)
 replace sb6:Heap.SameBut en h5 h6:=sb6
 replace he6:IsEnumOut h6 en it ((k:Int)+1) u hp.objs.size:=he6
 refine wpAny_setField_rec he6 (by simp) fun h7 he7 sb7=>?_
 replace sb7:Heap.SameBut en h6 h7:=sb7
 replace he7:IsEnumOut h7 en it ((k:Int)+1) u hp.objs.size:=he7
 have up:∀ b o,b≠en->h4.get? b=some o->h7.get? b=some o:=fun b o hbe hb=>sb7.extBut b o hbe (sb6.extBut b o hbe (sb5.extBut b o hbe hb))
 refine wpAny_bind (wpAny_letGo (wpAny_pure ⟨_,rfl,wpAny_pure (fin h7 he7 (hit4.keep fun o e=>up _ o (Ne.symm hne) e) (up _ _ (Nat.ne_of_gt enlt) tp4) ?_ fun b o hbe hbi hb=>up b o hbe (kp4 b o hbe hbi hb))⟩))
 rw [sb7.1,sb6.1,sb5.1,sz4]
theorem BC {tup:Bool} {en it a:Addr} {k:Nat} {us:Array Value} {old:Value} {Q:Option Value->Shared->Prop} (calm:A.handled=none) (he:IsEnum s.heap en it k old) (hit:Inn tup s.heap it a k) (hs:Seq tup s.heap a us) (hu:us[k]?=none)
  (fin:∀ h',Heap.ExtBut it s.heap h'->Q none { s with heap:=h' }):wpAny (model prog w) A (pyNext (.ref en)) Q E s:=by
 have hT:s.TypeIs (.ref en) "enumerate":=⟨_,he,rfl⟩
 unfold pyNext
 refine wpAny_bind (wpAny_attempt (wpAny_callSpecial?_slot (name:=Str.ofString "__next__") hT F.slot_enumerate_next (wpAny_call_entry F.slot_enumerate_next hT F.entry_enumerate_next ?_ (F.args_enumerate_next_1 _))))
 show wpAny _ _ (field (.ref en) 2>>=_) _ _ _
 refine wpAny_bind (wpAny_field he rfl (x:=.ref it) rfl ?_)
 refine wpAny_bind (j7 calm hit hs hu fun h' x ext hx=>?_)
 obtain ⟨o,ho,hc⟩:=hx
 refine wpAny_bind (wpAny_isInstance (T:="StopIteration") (b:=true) ⟨o,ho,hc⟩ isSubtype_stop ?_)
 exact wpAny_pure (fin _ ext)
theorem wY (t:Addr) (us:Array Value) (n:Nat) (dd:Option Addr) (sl:Array (Option Value)) :
  Meets (Builtin.«enumerate.__new__» ⟨[.type "enumerate",.ref t],[]⟩) (fun _ R s=>s.heap.get? t=some { cls:=.type "tuple",dict:=dd,data:=.seq us n,slots:=sl } /\
   R (.ok (.ret (.ref (s.heap.push { cls:=.type "tuple_iterator",data:=.fields #[.ref t,.int 0 0] }).objs.size)))
    { s with heap:=(s.heap.push { cls:=.type "tuple_iterator",data:=.fields #[.ref t,.int 0 0] }).push { cls:=.type "enumerate",data:=.fields #[.none,.bool false,.ref s.heap.objs.size,rawInt 0,.none,.none] } }) :=
 .of_wp fun prog w A R s h=>by
  obtain ⟨hp,g,d,tk,os⟩:=s
  obtain ⟨ht,h⟩:=h
  have hsub:=sub_enumerate
  have hT:Heap.IsTuple (Shared.heap ⟨hp,g,d,tk,os⟩) t us:=⟨_,ht,rfl,n,rfl⟩
  wp_walk using wpAny_loadPart' ht
  refine wpAny_stack_any fun st=>wpAny_pure ?_
  split
  ·rename_i c _ _ _ _ _
   cases (c==Value.type "enumerate")
   ·wp_walk using wpAny_loadPart' ht,wpAny_pyIter_tuple hT
    exact ⟨_,rfl,h⟩
   ·wp_walk using wpAny_loadPart' ht,wpAny_pyIter_tuple hT
    exact ⟨_,rfl,h⟩
  ·wp_walk using wpAny_loadPart' ht,wpAny_pyIter_tuple hT
   exact ⟨_,rfl,h⟩
theorem xX {t:Addr} {us:Array Value} {Q:Value->Shared->Prop} (hT:s.heap.IsTuple t us)
  (h:∀ h',IsEnum h' (s.heap.objs.size+1) s.heap.objs.size 0 .none->h'.IsTupleIter s.heap.objs.size t 0->h'.objs.size=s.heap.objs.size+2->(∀ b o,s.heap.get? b=some o->h'.get? b=some o)->Q (.ref (s.heap.objs.size+1)) { s with heap:=h' }) :
  wpAny (model prog w) A (call (.type "enumerate") [.ref t]) Q E s:=by
 obtain ⟨⟨c,dd,dt,sl⟩,ht,hc,n,hd⟩:=hT
 replace hc:c=.type "tuple":=hc
 replace hd:dt=.seq us n:=hd
 subst hc hd
 refine callType_new F.called_enumerate (by decide) (F.typeCall_enumerate_1 _) (F.newCall_enumerate_1 _) (fun obj=>F.args_object_init_2 obj _) F.entry_enumerate_new (wY t us n dd sl) ⟨ht,?_⟩
 have sz:(s.heap.push { cls:=.type "tuple_iterator",data:=.fields #[.ref t,.int 0 0] }).objs.size=s.heap.objs.size+1:=Heap.size_push ..
 show _/\_
 rw [sz]
 have he:IsEnum ((s.heap.push { cls:=.type "tuple_iterator",data:=.fields #[.ref t,.int 0 0] }).push { cls:=.type "enumerate",data:=.fields #[.none,.bool false,.ref s.heap.objs.size,rawInt 0,.none,.none] }) (s.heap.objs.size+1) s.heap.objs.size 0 .none:=by
  have:=Heap.get?_push_size (s.heap.push { cls:=.type "tuple_iterator",data:=.fields #[.ref t,.int 0 0] }) (o:={ cls:=.type "enumerate",data:=.fields #[.none,.bool false,.ref s.heap.objs.size,rawInt 0,.none,.none] }) rfl
  rw [sz] at this; exact this
 exact ⟨⟨_,he,rfl⟩,h _ he ⟨_,Heap.get?_push_of_some _ (Heap.get?_push_size _ rfl),rfl,rfl⟩ (by rw [Heap.size_push,sz]) fun b o x=>Heap.get?_push_of_some _ (Heap.get?_push_of_some _ x)⟩
theorem vQ {tup:Bool} {a:Addr} {us:Array Value} {Q:Value->Shared->Prop} (hs:Seq tup s.heap a us)
  (h:∀ h',IsEnum h' (s.heap.objs.size+1) s.heap.objs.size 0 .none->Inn tup h' s.heap.objs.size a 0->h'.objs.size=s.heap.objs.size+2->(∀ b o,s.heap.get? b=some o->h'.get? b=some o)->Q (.ref (s.heap.objs.size+1)) { s with heap:=h' }) :
  wpAny (model prog w) A (call (.type "enumerate") [.ref a]) Q E s:=by
 cases tup with
 | true=>exact xX hs h
 | false=>exact call_enumerate_list hs h
end
end ENM
namespace L2
open PySem PySem.Spec PyProof.Rows ENM
noncomputable def SqB (K:PySem.W.Frag) (H:Hp) (tup:Bool) (a:Addr) (xs:List V):Prop:=match tup with
 | true=>SqT K H a xs
 | false=>SqL K H a xs
noncomputable def Ite (K:PySem.W.Frag) (tup:Bool) (a:Addr):It :=
 ⟨fun i H=>∃ xs x,SqB K H tup a xs/\xs[i]?=some x,fun i H x H'=>∃ y p,(∀ xs,SqB K H tup a xs->xs[i]?=some y)/\H p=none/\H'=upd H p (.tup [.int i,y])/\x=.ref p,fun i H=>∃ xs,SqB K H tup a xs/\xs.length<=i⟩
theorem Inv.dG {X:Cx} {pins:List (Addr × Obj)} {σ:L2.St} {H:Hp} {s:Shared} (I:Inv X pins σ H s) {tup:Bool} {a:Addr} {xs:List V} (h:SqB X.K H tup a xs):∃ its:List Value,Vals xs its/\Seq tup s.heap a its.toArray:=by
 cases tup with
 | true=>obtain ⟨its,rv,p,_⟩:=I.tuple h; exact ⟨its,rv,p⟩
 | false=>obtain ⟨its,rv,p,_⟩:=I.list h; exact ⟨its,rv,p.isList⟩
theorem Inv.mq {X:Cx} {pins:List (Addr × Obj)} {σ:L2.St} {H:Hp} {s:Shared} (I:Inv X pins σ H s) {tup:Bool} {a:Addr} {xs ys:List V} (h:SqB X.K H tup a xs) (h':SqB X.K H tup a ys):xs=ys:=by
 cases tup with
 | true=>exact I.jn h h'
 | false=>exact I.jw h h'
theorem E9 {P:Program} {w:World} {K:PySem.W.Frag} {elts:List Expr} {k1:Nat} {tp:Pos} (tup:Bool) (a en it:Addr) (hne:en≠it) :
  Turn P w K (.Tuple elts k1 tp) (Ite K tup a) [en,it] en (fun i h=>(∃ old,IsEnum h en it i old)/\Inn tup h it a i) where
 mem:=by simp
 obj:=fun i h st b hb=>by
  obtain ⟨⟨old,he⟩,hi⟩:=st
  rcases List.mem_cons.mp hb with rfl|hb
  ·exact ⟨_,he,fun v z=>by
    have z':Data.fields _=Data.cell v:=z
    cases z'⟩
  ·have e:b=it:=by simpa using hb
   subst e; exact hi.there
 keep:=fun i h h' st k=>by
  obtain ⟨⟨old,he⟩,hi⟩:=st
  exact ⟨⟨old,k en (by simp) _ he⟩,hi.keep fun o e=>k it (by simp) o e⟩
 item:=by
  intro X hP hw hK hc i pins s σ H E I hf st hg
  subst hP hw hK
  obtain ⟨⟨old,he⟩,hi⟩:=st
  obtain ⟨xs,x,hq,hx⟩:=hg
  obtain ⟨its,rv,hs⟩:=I.dG hq
  obtain ⟨u,hu,ru⟩:=rv.get hx
  obtain ⟨f0,f1,f2,f3,f4,f5⟩:=hf en (by simp)
  obtain ⟨g0,g1,g2,g3,g4,g5⟩:=hf it (by simp)
  refine uR he hi hs (u:=u) (by simpa using hu) hne fun h' ho hi' ht hz hk=>?_
  refine ⟨_,rfl,wpAny_letOwnedTupleGo_enum ho fun h2 he2 sb2=>?_⟩
  replace sb2:Heap.SameBut en h' h2:=sb2
  have elt:en < s.heap.objs.size:=Heap.lt_size he
  have hp:H s.heap.objs.size=none:=I.hok.fresh (Nat.le_refl _)
  have ilt:it < s.heap.objs.size:=by obtain ⟨o,e,_⟩:=hi.there; exact Heap.lt_size e
  have kept:∀ b o,b≠en->b≠it->s.heap.get? b=some o->h2.get? b=some o:=fun b o h1 h3 e=>sb2.extBut b o h1 (hk b o h1 h3 e)
  have tp2:h2.get? s.heap.objs.size=some { cls:=.type "tuple",data:=.seq #[.int i s.toks,u] }:=sb2.extBut _ _ (Nat.ne_of_gt elt) ht
  have I2:Inv X pins σ (upd H s.heap.objs.size (.tup [.int i,x])) { s with heap:=h2,toks:=s.toks+1 }:=by
   refine I.step (g':=s.gens) (d':=s.drawn) (ch:=[en,it]) (fun b hb=>?_) (fun b o _ _ hc e _=>kept b o (fun z=>hc (by simp [z])) (fun z=>hc (by simp [z])) e)
    (fun b o _ _ hc e _=>⟨o.slots,kept b o (fun z=>hc (by simp [z])) (fun z=>hc (by simp [z])) e⟩) (fun b o _ e n=>by rw [aB (Nat.ne_of_lt (Heap.lt_size e))]; exact n)
    (fun b o hc e=>⟨o,kept b o (fun z=>hc (by simp [z])) (fun z=>hc (by simp [z])) e⟩) (fun b ys q=>by rw [aB (aT q hp)]; exact q) (fun b o u q=>by rw [aB (aT q hp)]; exact q)
    (fun b ps q=>⟨#[],by rw [aB (aT q hp),q]; simp⟩) (fun m hm=>?_) ?_ I.bare
   ·rcases List.mem_cons.mp hb with rfl|hb
    ·exact ⟨f3,f1,f4,f5⟩
    ·have e:b=it:=by simpa using hb
     subst e; exact ⟨g3,g1,g4,g5⟩
   ·obtain ⟨o,es,ep,ho',r⟩:=hm
    exact ⟨o,es,ep,kept _ o (Ne.symm f1) (Ne.symm g1) ho',r⟩
   ·intro b o q
    by_cases hb:b=s.heap.objs.size
    ·subst hb
     rw [bU] at q
     cases q
     exact ⟨by show 2<=sizeLine; decide,[.int i s.toks,u],.cons ⟨_,rfl⟩ (.cons ru .nil),_,tp2,rfl,_,rfl⟩
    ·rw [aB hb] at q
     have hb1:b≠en:=fun z=>by rw [z,f0] at q; cases q
     have hb2:b≠it:=fun z=>by rw [z,g0] at q; cases q
     refine (I.hok b o q).stay (fun c v hc e=>?_) (fun c q=>by rw [aB (aT q hp)]; exact q) fun c ys q=>by rw [aB (aT q hp)]; exact q
     rcases hc with rfl|hc
     ·exact kept _ v hb1 hb2 e
     ·exact kept c v (fun z=>by rw [z,f0] at hc; cases hc) (fun z=>by rw [z,g0] at hc; cases hc) e
  refine ⟨.ref s.heap.objs.size,upd H s.heap.objs.size (.tup [.int i,x]),I2,rfl,⟨x,_,fun ys hy=>by rw [I.mq hy hq]; exact hx,hp,rfl,rfl⟩,⟨⟨u,by simpa using he2⟩,hi'.keep fun o e=>sb2.extBut _ o (Ne.symm hne) e⟩,fun b hb=>?_⟩
  rcases List.mem_cons.mp hb with rfl|hb
  ·rw [aB (Nat.ne_of_lt elt)]; exact f0
  ·have e:b=it:=by simpa using hb
   subst e; rw [aB (Nat.ne_of_lt ilt)]; exact g0
 done:=by
  intro X hP hw hK hc i pins s σ H E I hf st hg
  subst hP hw hK
  obtain ⟨⟨old,he⟩,hi⟩:=st
  obtain ⟨xs,hq,hx⟩:=hg
  obtain ⟨its,rv,hs⟩:=I.dG hq
  obtain ⟨g0,g1,g2,g3,g4,g5⟩:=hf it (by simp)
  have hl:=rv.length
  exact BC (I.ok.hd hc) he hi hs (by simp; omega) fun h' eb=>⟨rfl,I.turned (t':=s.toks) (fun b o hb e=>eb b o hb e) g0 g1 g3 g4 g5⟩
 self:=fun _ _ _ _ _ st h=>by
  obtain ⟨⟨old,he⟩,_⟩:=st
  exact wpAny_pyIter_enum he h
section
variable {X:Cx}
noncomputable def x8 (K:PySem.W.Frag) (ta:TA):TI:=fun σ H R=>ta σ H fun vs H1=>∃ tup a,vs=[.ref a]/\(∃ xs,SqB K H1 tup a xs)/\R (Ite K tup a) H1
theorem vc {e:Expr} {ta:TA} {p pos:Pos} {elts:List Expr} {k1:Nat} {tp:Pos} (hg:Gl X "enumerate") (hm:X.mg "enumerate" = none) (hv:bootBuiltins "enumerate" = some (.type "enumerate")) (ha:PA X [e] ta) (hs:starEach [e] X.env=[(false,eval e X.env)]) :
  PI X (.Tuple elts k1 tp) (.Call (.Name "enumerate" p) [e] [] pos) (x8 X.K ta):=by
 intro pins s σ H R I h
 refine Call_ (cF I hg hm hv (PyProof.Rows.callWith_type1 (thn (ha pos pins s σ H _ I h) fun us s1 ⟨vs,H1,I1,r1,q1⟩=>?_) hs rfl))
 obtain ⟨tup,a,e,⟨xs,hq⟩,q⟩:=q1
 subst e
 cases r1 with
 | cons r rr =>
  cases rr
  cases r
  obtain ⟨its,rv,hsq⟩:=I1.dG hq
  refine vQ hsq fun h' he hi hz hk=>?_
  refine wpAny_pyIter_enum he ?_
  have fr:∀ b,s1.heap.objs.size<=b->cy X pins H1 b:=fun b hb=>I1.fk hb (I1.hok.fresh hb)
  refine ⟨s1.heap.objs.size+1,[s1.heap.objs.size+1,s1.heap.objs.size],_,_,H1,rfl,I1.kept (t':=s1.toks) hk,E9 tup a _ _ (Nat.ne_of_gt (Nat.lt_succ_self _)),⟨⟨.none,he⟩,hi⟩,fun b hb=>?_,q⟩
  rcases List.mem_cons.mp hb with rfl|hb
  ·exact fr _ (Nat.le_succ _)
  ·have e:b=s1.heap.objs.size:=by simpa using hb
   subst e; exact fr _ (Nat.le_refl _)
noncomputable def lP (lo:Int) (n:Nat):It:=⟨fun i _=>i < n,fun i H x H'=>H'=H/\x=.int (lo - i),fun i _=>n<=i⟩
theorem AX {P:Program} {w:World} {K:PySem.W.Frag} {tg:Expr} (it:Addr) (lo:Int) (n:Nat):Turn P w K tg (lP lo n) [it] it (fun i h=>IsRangeIter h it (lo+(i:Nat) * (-1)) ((n:Int) - (i:Nat)) (-1)) where
 mem:=by simp
 obj:=fun i h st b hb=>by
  have e:b=it:=by simpa using hb
  subst e
  exact ⟨_,st,fun v z=>by
   have z':Data.fields _=Data.cell v:=z
   cases z'⟩
 keep:=fun i h h' st k=>k it (by simp) _ st
 item:=by
  intro X hP hw hK hc i pins s σ H E I hf st hg
  subst hP hw hK
  obtain ⟨f0,f1,f2,f3,f4,f5⟩:=hf it (by simp)
  have W:=Walks.range (prog:=X.prog) (w:=X.w) (I.ok.hd hc) it lo (-1) n
  refine W.item i s _ _ hg st fun v h' tk hv st' kk=>?_
  obtain ⟨t,rfl⟩:=hv
  have I1:Inv X pins σ H { s with heap:=h',toks:=tk }:=I.turned (fun b o hb e=>kk b o (by simpa using hb) e) f0 f1 f3 f4 f5
  refine ⟨_,rfl,iV (s:={ s with heap:=h',toks:=tk }) (n:="range_iterator") st' rfl rfl (by decide) ⟨.int (lo - i),H,I1,⟨t,?_⟩,⟨rfl,rfl⟩,st',fun b hb=>(hf b hb).1⟩⟩
  congr 1
  omega
 done:=by
  intro X hP hw hK hc i pins s σ H E I hf st hg
  subst hP hw hK
  obtain ⟨f0,f1,f2,f3,f4,f5⟩:=hf it (by simp)
  exact wpAny_pyNext_range_end (I.ok.hd hc) st (by have:n<=i:=hg; omega) fun h' eb=>⟨rfl,I.turned (t':=s.toks) (fun b o hb e=>eb b o hb e) f0 f1 f3 f4 f5⟩
 self:=fun _ _ _ _ _ st h=>wpAny_pyIter_rangeiter st h
theorem rangeSize_down (a b:Int):Builtin.Range.rangeSize a b (-1)=if b < a then a - b else 0:=by
 unfold Builtin.Range.rangeSize
 rw [if_neg (by decide)]
 by_cases h:b < a
 ·rw [if_pos h,if_pos (show a > b from h)]
  rw [show (-(-1):Int)=1 from rfl,Int.ediv_one]; omega
 ·rw [if_neg h,if_neg (show ¬ a > b from h)]
theorem small_down {a b:Int} (ha:-(2 ^ 62)<=a) (ha':a < 2 ^ 62) (hb:-(2 ^ 62)<=b) (hb':b < 2 ^ 62):Builtin.Range.small a b (-1)=true:=by
 unfold Builtin.Range.small
 rw [rangeSize_down]
 simp only [Builtin.Range.rangeFitsLong,Bool.and_eq_true,Bool.or_eq_true,decide_eq_true_eq,beq_iff_eq]
 by_cases h:b < a
 ·simp only [if_pos h]
  rw [if_neg (show ¬ (-1:Int) > 0 by decide),Bool.and_eq_true,decide_eq_true_eq,decide_eq_true_eq]
  omega
 ·simp only [if_neg h]
  rw [if_neg (show ¬ (-1:Int) > 0 by decide),Bool.and_eq_true,decide_eq_true_eq,decide_eq_true_eq]
  omega
noncomputable def Dw (ta:TA):TI:=fun σ H R=>ta σ H fun vs H1=>∃ i j:Int,vs=[.int i,.int j,.int (-1)]/\(-(2 ^ 62)<=i/\i < 2 ^ 62/\-(2 ^ 62)<=j/\j < 2 ^ 62)/\R (lP i (i - j).toNat) H1
theorem xr {tg a b c:Expr} {ta:TA} {p pos:Pos} (hg:Gl X "range") (hm:X.mg "range" = none) (ha:PA X [a,b,c] ta) (hs:starEach [a,b,c] X.env=[(false,eval a X.env),(false,eval b X.env),(false,eval c X.env)]) (hs2:starEach [b,c] X.env=[(false,eval b X.env),(false,eval c X.env)]) :
  PI X tg (.Call (.Name "range" p) [a,b,c] [] pos) (Dw ta):=by
 intro pins s σ H R I h
 refine Call_ (cF I hg hm boot_range (PyProof.Rows.callWith_type1 (thn (ha pos pins s σ H _ I h) fun us s1 ⟨vs,H1,I1,r1,q1⟩=>?_) (by rw [hs,hs2]) (by rw [hs2]; rfl)))
 obtain ⟨i,j,e,⟨q1,q2,q3,q4⟩,q⟩:=q1
 subst e
 cases r1 with
 | cons r rr =>
  cases rr with
  | cons r' rr =>
   cases rr with
   | cons r'' rr =>
    cases rr
    obtain ⟨t,rfl⟩:=r
    obtain ⟨t',rfl⟩:=r'
    obtain ⟨t'',rfl⟩:=r''
    refine call_range_3 (by decide) ?_ (.inl (PyProof.noPylong_small (by decide)))
    refine wpAny_pyIter_range (IsRange.new ..) (small_down q1 q2 q3 q4) ?_
    have I2:Inv X pins σ H1 { s1 with heap:=s1.heap.push { cls:=.type "range",data:=.fields #[.int i t,.int j t',.int (-1) t''] } }:=I1.kept (t':=s1.toks) fun b o e=>Heap.get?_push_of_some _ e
    refine ⟨(s1.heap.push { cls:=.type "range",data:=.fields #[.int i t,.int j t',.int (-1) t''] }).objs.size,[(s1.heap.push { cls:=.type "range",data:=.fields #[.int i t,.int j t',.int (-1) t''] }).objs.size],_,_,H1,rfl,
     I2.kept (t':=s1.toks) fun b o e=>Heap.get?_push_of_some _ e,AX _ i (i - j).toNat,?_,fun b hb=>?_,q⟩
    ·have e1:i+((0:Nat):Int) * (-1)=i:=by simp
     have e2:(((i - j).toNat:Nat):Int) - ((0:Nat):Int)=Builtin.Range.rangeSize i j (-1):=by rw [rangeSize_down]; split <;> omega
     show IsRangeIter _ _ (i+((0:Nat):Int) * (-1)) ((((i - j).toNat:Nat):Int) - ((0:Nat):Int)) (-1)
     rw [e1,e2]
     exact Heap.get?_push_size _ rfl
    ·have e:b=(s1.heap.push { cls:=.type "range",data:=.fields #[.int i t,.int j t',.int (-1) t''] }).objs.size:=by simpa using hb
     subst e
     exact I2.fk (Nat.le_refl _) (I2.hok.fresh (Nat.le_refl _))
end
end L2

namespace HT
open PySem PyProof.Rows
open Builtin
theorem u_:fillsNumberSlot (.type "tuple") "mul" = pure false :=
 PySem.fillsNumberSlot_seq (id:="tuple.__mul__") (r:=some (.builtin "tuple.__rmul__")) F.slot_tuple_mul.lookup (by decide +kernel) F.slot_tuple_rmul.lookup (by decide +kernel)
theorem CI:seqRepeat? (.type "tuple")=pure (some (.builtin "tuple.__mul__")):=by
 unfold seqRepeat?
 rw [PySem.seqSlot_of (T:="tuple") (name:="__mul__") (id:="tuple.__mul__") F.slot_tuple_mul.lookup (by decide +kernel),PySem.seqSlot_of (T:="tuple") (name:="__rmul__") (id:="tuple.__rmul__") F.slot_tuple_rmul.lookup (by decide +kernel)]
 rfl
theorem wg (a:Int) (t:Tok) (l:Addr) (items:Array Value) (n:Nat) (dd:Option Addr) (sl:Array (Option Value)) :
  Meets (Builtin.«int.__rmul__» ⟨[.int a t,.ref l],[]⟩) (fun _ R s=>s.heap.get? l=some { cls:=.type "tuple",dict:=dd,data:=.seq items n,slots:=sl }/\R (.ok (.ret Value.notImplemented)) s) :=
 .of_wp fun prog w A R s h=>by obtain ⟨hp,g,d,tk,os⟩:=s; obtain ⟨hl,h⟩:=h; wp_walk; exact ⟨_,rfl,h⟩
theorem A3 (x:Int) (u:Tok) (l:Addr) (items:Array Value) (n:Nat) (dd:Option Addr) (sl:Array (Option Value)) (h1:(decide (x < -(2 ^ 63))||decide (x ≥ 2 ^ 63))=false) (h2:(items.isEmpty||x==1)=true) :
  Meets (Builtin.«tuple.__mul__» ⟨[.ref l,.int x u],[]⟩) (fun _ R s=>s.heap.get? l=some { cls:=.type "tuple",dict:=dd,data:=.seq items n,slots:=sl }/\R (.ok (.ret (.ref l))) { s with heap:=s.heap,toks:=s.toks }) :=
 .of_wp fun prog w A R s h=>by
  obtain ⟨hp,g,d,tk,os⟩:=s; obtain ⟨hl,h⟩:=h
  have f1:=AutoSeq1.idx_int
  wp_walk using wpAny_loadPart' hl
  refine wpAny_ite_false (by simp only [h1]; decide) ?_
  wp_walk using wpAny_loadPart' hl
  exact ⟨_,rfl,h⟩
theorem CM (x:Int) (u:Tok) (l:Addr) (items:Array Value) (n:Nat) (dd:Option Addr) (sl:Array (Option Value)) (h1:(decide (x < -(2 ^ 63))||decide (x ≥ 2 ^ 63))=false) (h2:(items.isEmpty||x==1)=false)
  (h3:(decide (x<=0)||items.isEmpty)=false) (h4:¬ (items.size * x > (2 ^ 63 - 1) / 8)) (h5:Builtin.Tuple.tupleTooMany (items.size * x)=false) (h6:(List.foldl (fun x1 x2=>x1++x2) #[] (List.replicate x.toNat items)).size<=sizeLine) :
  Meets (Builtin.«tuple.__mul__» ⟨[.ref l,.int x u],[]⟩) (fun _ R s=>s.heap.get? l=some { cls:=.type "tuple",dict:=dd,data:=.seq items n,slots:=sl }/\R (.ok (.ret (.ref s.heap.objs.size))) { s with heap:=s.heap.push { cls:=Value.type "tuple",data:=Data.seq (List.foldl (fun x1 x2=>x1++x2) #[] (List.replicate x.toNat items)) },toks:=s.toks }) :=
 .of_wp fun prog w A R s h=>by
  obtain ⟨hp,g,d,tk,os⟩:=s; obtain ⟨hl,h⟩:=h
  have f1:=AutoSeq1.idx_int
  wp_walk using wpAny_loadPart' hl
  refine wpAny_ite_false (by simp only [h1]; decide) ?_
  wp_walk using wpAny_loadPart' hl
  refine wpAny_ite_false (decide_eq_false h4) ?_
  refine wpAny_ite_false (by simp only [h5]; decide) ?_
  wp_walk using wpAny_loadPart' hl
  exact ⟨_,rfl,h⟩
theorem Eo (x:Int) (u:Tok) (l:Addr) (items:Array Value) (n:Nat) (dd:Option Addr) (sl:Array (Option Value)) (h1:(decide (x < -(2 ^ 63))||decide (x ≥ 2 ^ 63))=false) (h2:(items.isEmpty||x==1)=false)
  (h3:(decide (x<=0)||items.isEmpty)=true) :
  Meets (Builtin.«tuple.__mul__» ⟨[.ref l,.int x u],[]⟩) (fun _ R s=>s.heap.get? l=some { cls:=.type "tuple",dict:=dd,data:=.seq items n,slots:=sl }/\R (.ok (.ret (.ref s.heap.objs.size))) { s with heap:=s.heap.push { cls:=Value.type "tuple",data:=Data.seq #[] },toks:=s.toks }) :=
 .of_wp fun prog w A R s h=>by
  obtain ⟨hp,g,d,tk,os⟩:=s; obtain ⟨hl,h⟩:=h
  have f1:=AutoSeq1.idx_int
  wp_walk using wpAny_loadPart' hl
  refine wpAny_ite_false (by simp only [h1]; decide) ?_
  wp_walk using wpAny_loadPart' hl
  exact ⟨_,rfl,h⟩
end HT
namespace L2
open PySem PySem.Spec PyProof.Rows
section
variable {X:Cx}
theorem D5:OpR X (binaryOp .Mult) (fun x y H Q=>∃ a k xs,x=.ref a/\y=.int k/\SqT X.K H a xs/\-(2 ^ 63)<=k/\k < 2 ^ 63/\xs.length * k.toNat<=sizeLine /\
  ((xs=[]\/k=1)->Q (.ref a) H)/\∀ p,H p=none->Q (.ref p) (upd H p (.tup (List.replicate k.toNat xs).flatten))):=by
 intro pins s σ H x y v u Q I rx ry h
 obtain ⟨a,k,xs,rfl,rfl,ha,h1,h2,hz,q1,q2⟩:=h
 cases rx
 obtain ⟨t,rfl⟩:=ry
 obtain ⟨its,r,p1,_⟩:=I.tuple ha
 obtain ⟨⟨cls,dd,data,sl⟩,ho,hc,n,hd⟩:=id p1
 simp only at hc hd
 subst hc hd
 have hlen:xs.length=its.length:=r.length
 have b1:(decide (k < -(2 ^ 63))||decide (k ≥ 2 ^ 63))=false:=by
  rw [Bool.or_eq_false_iff]; exact ⟨decide_eq_false (by omega),decide_eq_false (by omega)⟩
 refine wpAny_binaryOp_repeat_ref (T:="tuple") (U:="int") (by decide) ⟨_,ho,rfl⟩ (fun s'=>typeIs_int s' k t) HT.u_ F.fills_int_mul F.slot_int_rmul HT.CI F.slot_int_index.lookup
  (call_meets F.slot_int_rmul (typeIs_int s k t) F.entry_int_rmul (F.args_int_rmul_2 _ _) (HT.wg k t a its.toArray n dd sl) ⟨ho,rfl,⟨_,ho,rfl⟩,?_⟩)
 by_cases hs:xs=[]\/k=1
 ·refine call_meets F.slot_tuple_mul ⟨_,ho,rfl⟩ F.entry_tuple_mul (F.args_tuple_mul_2 _ _) (HT.A3 k t a its.toArray n dd sl b1 ?_) ⟨ho,⟨.ref a,H,I,rfl,q1 hs⟩⟩
  rw [Bool.or_eq_true]
  rcases hs with e|e
  ·left
   subst e
   have:its=[]:=List.length_eq_zero_iff.mp hlen.symm
   subst this; rfl
  ·right; exact beq_iff_eq.mpr e
 ·have hne:its≠[]:=fun e=>hs (.inl (List.length_eq_zero_iff.mp (by rw [hlen,e]; rfl)))
  have hemp:its.toArray.isEmpty=false:=by
   cases its with
   | nil=>exact absurd rfl hne
   | cons z zs=>simp
  have b2:(its.toArray.isEmpty||k==1)=false:=by
   rw [Bool.or_eq_false_iff]; exact ⟨hemp,beq_eq_false_iff_ne.mpr fun e=>hs (.inr e)⟩
  by_cases hk:k<=0
  ·have e0:k.toNat=0:=by omega
   refine call_meets F.slot_tuple_mul ⟨_,ho,rfl⟩ F.entry_tuple_mul (F.args_tuple_mul_2 _ _) (HT.Eo k t a its.toArray n dd sl b1 b2 (by simp [hk])) ⟨ho,?_⟩
   rw [e0] at q2
   refine ⟨.ref s.heap.objs.size,_,I.laid (t':=s.toks) (o:=.tup []) (fun b ob q=>Heap.get?_push_of_some _ q) (Nat.le_refl _) ?_,rfl,q2 _ (I.hok.fresh (Nat.le_refl _))⟩
   exact ⟨Nat.zero_le _,[],.nil,IsTup.new _ _⟩
  ·have hkk:(k.toNat:Int)=k:=by omega
   have hnew:List.foldl (fun x1 x2=>x1++x2) #[] (List.replicate k.toNat its.toArray)=(List.replicate k.toNat its).flatten.toArray:=by
    have:=foldl_rep its k.toNat []
    rw [List.nil_append] at this
    exact this
   have hm:((its.toArray.size:Nat):Int) * k=((its.length * k.toNat:Nat):Int):=by rw [Int.natCast_mul,hkk,List.size_toArray]
   rw [hlen] at hz
   have hsl:(sizeLine:Nat)<=(2 ^ 63 - 1) / 8:=by decide
   refine call_meets F.slot_tuple_mul ⟨_,ho,rfl⟩ F.entry_tuple_mul (F.args_tuple_mul_2 _ _) (HT.CM k t a its.toArray n dd sl b1 b2 ?_ ?_ ?_ ?_) ⟨ho,?_⟩
   ·rw [Bool.or_eq_false_iff]; exact ⟨decide_eq_false hk,hemp⟩
   ·rw [hm]; omega
   ·rw [hm]; unfold Builtin.Tuple.tupleTooMany; exact decide_eq_false (by omega)
   ·rw [hnew,List.size_toArray,len_rep,Nat.mul_comm]; exact hz
   ·rw [hnew]
    refine ⟨.ref s.heap.objs.size,_,I.laid (t':=s.toks) (o:=.tup (List.replicate k.toNat xs).flatten) (fun b ob q=>Heap.get?_push_of_some _ q) (Nat.le_refl _) ?_,rfl,q2 _ (I.hok.fresh (Nat.le_refl _))⟩
    exact ⟨by rw [len_rep,Nat.mul_comm,hlen]; exact hz,_,r.rep _,IsTup.new _ _⟩
end
end L2

namespace TB
open PySem PySem.SetTable
noncomputable def adv (mask:Nat) (p:Probe):Probe :=
 if p.more > 0 then { p with j:=p.j+1,more:=p.more - 1 } else
 { p with j:=(leap mask p.i p.perturb).1,more:=runEnd mask (leap mask p.i p.perturb).1 - (leap mask p.i p.perturb).1,i:=(leap mask p.i p.perturb).1,perturb:=(leap mask p.i p.perturb).2 }
theorem o8 (t:SetTable) (p:Probe):t.advance p=adv t.mask p:=rfl
noncomputable def bs (mask:Nat) (b:Nat × Nat):Probe:={ j:=b.1,more:=runEnd mask b.1 - b.1,i:=b.1,perturb:=b.2,dummy:=none }
noncomputable def st (mask:Nat) (h:Int):Nat->Probe
 | 0=>bs mask (bits h % (mask+1),bits h)
 | k+1=>adv mask (st mask h k)
noncomputable def pos (mask:Nat) (h:Int) (k:Nat):Nat:=(st mask h k).j
noncomputable def c_ (mask:Nat):Nat->Probe->Probe
 | 0,p=>p
 | n+1,p=>c_ mask n (adv mask p)
theorem kN (mask:Nat):∀ (a b:Nat) (p:Probe),c_ mask (a+b) p=c_ mask b (c_ mask a p)
 | 0,b,p=>by rw [Nat.zero_add]; rfl
 | a+1,b,p=>by rw [Nat.add_right_comm]; exact kN mask a b (adv mask p)
theorem ju (mask:Nat) (h:Int):∀ (n k:Nat),c_ mask n (st mask h k)=st mask h (k+n)
 | 0,k=>rfl
 | n+1,k=>by
  show c_ mask n (st mask h (k+1))=_
  rw [ju mask h n (k+1),show k+1+n=k+(n+1) by omega]
theorem rm (mask:Nat) (h:Int):∀ k,(st mask h k).dummy=none
 | 0=>rfl
 | k+1=>by
  show (adv mask (st mask h k)).dummy=none
  unfold adv
  split <;> exact rm mask h k
structure Ok (mask:Nat) (p:Probe):Prop where
 i:p.i<=mask
 q:p.perturb < 2 ^ 64
 m:p.more<=9
 j:p.j+p.more=runEnd mask p.i
 d:p.dummy=none
theorem qa (mask i:Nat):runEnd mask i - i<=9:=by unfold runEnd; split <;> omega
theorem jV (mask i:Nat):i<=runEnd mask i:=by unfold runEnd; split <;> omega
theorem nN {mask i:Nat} (h:i<=mask):runEnd mask i<=mask:=by unfold runEnd; split <;> omega
theorem sD {mask:Nat} {b:Nat × Nat} (h1:b.1<=mask) (h2:b.2 < 2 ^ 64):Ok mask (bs mask b) :=
 ⟨h1,h2,qa mask b.1,Nat.add_sub_cancel' (jV mask b.1),rfl⟩
theorem sW {mask i q:Nat} (h:q < 2 ^ 64):(leap mask i q).1<=mask/\(leap mask i q).2 < 2 ^ 64:=by
 refine ⟨Nat.lt_succ_iff.mp (Nat.mod_lt _ (Nat.succ_pos mask)),?_⟩
 show q / 32 < _
 omega
theorem xE {mask:Nat} {p:Probe} (h:Ok mask p):Ok mask (adv mask p):=by
 unfold adv
 split
 ·rename_i hm
  exact ⟨h.i,h.q,by show p.more - 1<=9; have:=h.m; omega,by show p.j+1+(p.more - 1)=runEnd mask p.i; have:=h.j; omega,h.d⟩
 ·have:=sW (mask:=mask) (i:=p.i) h.q
  exact ⟨this.1,this.2,qa _ _,Nat.add_sub_cancel' (jV _ _),h.d⟩
theorem om (h:Int):bits h < 2 ^ 64:=by
 unfold bits
 have h1:=Int.emod_nonneg h (show (2 ^ 64:Int)≠0 by decide)
 have h2:=Int.emod_lt_of_pos h (show (0:Int) < 2 ^ 64 by decide)
 omega
theorem jJ (mask:Nat) (h:Int):∀ k,Ok mask (st mask h k)
 | 0=>sD (Nat.lt_succ_iff.mp (Nat.mod_lt _ (Nat.succ_pos mask))) (om h)
 | k+1=>xE (jJ mask h k)
theorem Fc (mask:Nat) (h:Int) (k:Nat):pos mask h k<=mask:=by
 have o:=jJ mask h k
 have:=nN o.i
 have:=o.j
 unfold pos; omega
theorem lq (mask:Nat):∀ (a:Nat) (p:Probe),a<=p.more->c_ mask a p={ p with j:=p.j+a,more:=p.more - a }
 | 0,p,_=>rfl
 | a+1,p,h=>by
  have e:adv mask p={ p with j:=p.j+1,more:=p.more - 1 }:=by unfold adv; rw [if_pos (by omega)]
  show c_ mask a (adv mask p)=_
  rw [e,lq mask a _ (by show a<=p.more - 1; omega)]
  show ({ p with j:=p.j+1+a,more:=p.more - 1 - a }:Probe)=_
  congr 1 <;> omega
theorem jy {mask:Nat} {p:Probe} (h:p.dummy=none):c_ mask (p.more+1) p=bs mask (leap mask p.i p.perturb):=by
 rw [kN,lq mask p.more p (Nat.le_refl _)]
 show adv mask { p with j:=p.j+p.more,more:=p.more - p.more }=_
 unfold adv
 rw [if_neg (by show ¬ p.more - p.more > 0; omega)]
 unfold bs
 rw [<- h]
noncomputable def bW (mask:Nat):Nat->Nat × Nat->Nat × Nat
 | 0,b=>b
 | n+1,b=>bW mask n (leap mask b.1 b.2)
theorem blocks {mask:Nat}:∀ (n:Nat) (p:Probe),Ok mask p->∃ c,c<=10 * (n+1)/\c_ mask c p=bs mask (bW mask (n+1) (p.i,p.perturb))
 | 0,p,h=>⟨p.more+1,by have:=h.m; omega,jy h.d⟩
 | n+1,p,h=>by
  have hb:=sW (mask:=mask) (i:=p.i) h.q
  obtain ⟨c,hc,e⟩:=blocks n (bs mask (leap mask p.i p.perturb)) (sD hb.1 hb.2)
  refine ⟨p.more+1+c,by have:=h.m; omega,?_⟩
  rw [kN,jy h.d,e]
  rfl
theorem sG (mask:Nat):∀ (n:Nat) (b:Nat × Nat),(bW mask n b).2=b.2 / 32 ^ n
 | 0,b=>(Nat.div_one _).symm
 | n+1,b=>by
  show (bW mask n (leap mask b.1 b.2)).2=_
  rw [sG mask n]
  show b.2 / 32 / 32 ^ n=_
  rw [Nat.div_div_eq_div_mul,Nat.pow_succ,Nat.mul_comm]
theorem rL (mask:Nat):∀ (a b:Nat) (x:Nat × Nat),bW mask (a+b) x=bW mask b (bW mask a x)
 | 0,b,x=>by rw [Nat.zero_add]; rfl
 | a+1,b,x=>by rw [Nat.add_right_comm]; exact rL mask a b _
theorem sJ {mask:Nat}:∀ (n:Nat) (b:Nat × Nat),b.1<=mask->(bW mask n b).1<=mask
 | 0,b,h=>h
 | n+1,b,_=>sJ n _ (Nat.lt_succ_iff.mp (Nat.mod_lt _ (Nat.succ_pos mask)))
noncomputable def gU (mask:Nat):Nat->Nat->List Nat
 | 0,_=>[]
 | n+1,i=>i::gU mask n ((i * 5+1) % (mask+1))
theorem kD {mask:Nat}:∀ (n i j:Nat),j∈gU mask n i->∃ m,m < n/\(bW mask m (i,0)).1=j
 | 0,i,j,h=>by simp [gU] at h
 | n+1,i,j,h=>by
  rcases List.mem_cons.mp h with rfl|h
  ·exact ⟨0,by omega,rfl⟩
  ·obtain ⟨m,hm,e⟩:=kD n _ j h
   refine ⟨m+1,by omega,?_⟩
   have e2:leap mask i 0=((i * 5+1) % (mask+1),0):=by unfold leap; rw [Nat.zero_div,Nat.add_zero]
   rw [<- e,<- e2]
   rfl
theorem uY:∀ i < 8,∀ j < 8,j∈gU 7 8 i:=by decide +kernel
theorem yx:∀ i < 32,∀ j < 32,j∈gU 31 32 i:=by decide +kernel
noncomputable def Msk (mask:Nat):Prop:=mask=7\/mask=31
theorem round {mask:Nat} (hm:Msk mask) {i j:Nat} (hi:i<=mask) (hj:j<=mask):∃ m,m<=mask/\(bW mask m (i,0)).1=j:=by
 rcases hm with rfl|rfl
 ·obtain ⟨m,h,e⟩:=kD _ _ _ (uY i (by omega) j (by omega)); exact ⟨m,by omega,e⟩
 ·obtain ⟨m,h,e⟩:=kD _ _ _ (yx i (by omega) j (by omega)); exact ⟨m,by omega,e⟩
theorem reach {mask:Nat} (hm:Msk mask) {i q j:Nat} (hi:i<=mask) (hq:q < 2 ^ 64) (hj:j<=mask):∃ n,12<=n/\n<=12+mask/\(bW mask (n+1) (i,q)).1=j:=by
 have h0:(bW mask 13 (i,q)).2=0:=by
  rw [sG]
  exact Nat.div_eq_of_lt (Nat.lt_trans hq (by decide))
 obtain ⟨m,h1,e⟩:=round hm (sJ 13 (i,q) hi) hj
 refine ⟨12+m,by omega,by omega,?_⟩
 rw [show 12+m+1=13+m by omega,rL]
 rw [show bW mask 13 (i,q)=((bW mask 13 (i,q)).1,0) from Prod.ext rfl h0]
 exact e
theorem cover {mask:Nat} (hm:Msk mask) (h:Int) (k:Nat) {j:Nat} (hj:j<=mask):∃ d,d < 10 * turns mask/\pos mask h (k+d)=j:=by
 have o:=jJ mask h k
 obtain ⟨n,h1,h2,e⟩:=reach hm o.i o.q hj
 obtain ⟨c,hc,e2⟩:=blocks n (st mask h k) o
 refine ⟨c,by unfold turns; omega,?_⟩
 rw [ju] at e2
 unfold pos
 rw [e2]
 exact e
end TB

namespace TB
open PySem PySem.SetTable
noncomputable def Srt (xs:Array Nat):Prop:=∀ (i i' v v':Nat),xs[i]?=some v->xs[i']?=some v'->i < i'->v < v'
theorem l_ {xs:Array Nat} (hs:Srt xs) (j:Nat):∀ (fuel lo hi:Nat),lo<=hi->hi<=xs.size->hi - lo<=fuel->(∀ (i v:Nat),xs[i]?=some v->i < lo->v < j)->(∀ (i v:Nat),xs[i]?=some v->hi<=i->j<=v) ->
  below.go xs j fuel lo hi<=xs.size/\(∀ (i v:Nat),xs[i]?=some v->i < below.go xs j fuel lo hi->v < j)/\∀ (i v:Nat),xs[i]?=some v->below.go xs j fuel lo hi<=i->j<=v
 | 0,lo,hi,h1,h2,h3,h4,h5=>by
  have e:lo=hi:=by omega
  subst e
  exact ⟨h2,h4,h5⟩
 | fuel+1,lo,hi,h1,h2,h3,h4,h5=>by
  by_cases hl:lo < hi
  ·have ego:below.go xs j (fuel+1) lo hi=if xs.getD ((lo+hi) / 2) j < j then below.go xs j fuel ((lo+hi) / 2+1) hi else below.go xs j fuel lo ((lo+hi) / 2):=by
    conv=>lhs; unfold below.go
    rw [if_pos hl]
   have hm:(lo+hi) / 2 < xs.size:=by omega
   have hg:xs[(lo+hi) / 2]?=some xs[(lo+hi) / 2]:=Array.getElem?_eq_getElem hm
   have hd:xs.getD ((lo+hi) / 2) j=xs[(lo+hi) / 2]:=by rw [Array.getD_eq_getD_getElem?,hg]; rfl
   rw [ego,hd]
   by_cases hv:xs[(lo+hi) / 2] < j
   ·rw [if_pos hv]
    refine l_ hs j fuel ((lo+hi) / 2+1) hi (by omega) h2 (by omega) (fun i v e hi'=>?_) h5
    by_cases z:i=(lo+hi) / 2
    ·subst z; rw [hg] at e; cases e; exact hv
    ·exact Nat.lt_trans (hs i _ v _ e hg (by omega)) hv
   ·rw [if_neg hv]
    refine l_ hs j fuel lo ((lo+hi) / 2) (by omega) (by omega) (by omega) h4 fun i v e hi'=>?_
    by_cases z:i=(lo+hi) / 2
    ·subst z; rw [hg] at e; cases e; omega
    ·have:=hs _ i _ v hg e (by omega); omega
  ·have ego:below.go xs j (fuel+1) lo hi=lo:=by
    conv=>lhs; unfold below.go
    rw [if_neg hl]
   have e:lo=hi:=by omega
   subst e
   rw [ego]
   exact ⟨h2,h4,h5⟩
theorem jL {xs:Array Nat} (hs:Srt xs) (j:Nat):below xs j<=xs.size/\(∀ (i v:Nat),xs[i]?=some v->i < below xs j->v < j)/\∀ (i v:Nat),xs[i]?=some v->below xs j<=i->j<=v :=
 l_ hs j xs.size 0 xs.size (Nat.zero_le _) (Nat.le_refl _) (by omega) (fun i v _ h=>by omega) fun i v e h=>by
  have:=(Array.getElem?_eq_some_iff.mp e).1; omega
noncomputable def NotIn (xs:Array Nat) (j:Nat):Prop:=∀ i:Nat,xs[i]?≠some j
theorem below_at {xs:Array Nat} (hs:Srt xs) {i j:Nat} (e:xs[i]?=some j):below xs j=i:=by
 obtain ⟨h1,h2,h3⟩:=jL hs j
 have hi:=(Array.getElem?_eq_some_iff.mp e).1
 rcases Nat.lt_trichotomy (below xs j) i with z|z|z
 ·have hg:xs[below xs j]?=some xs[below xs j]:=Array.getElem?_eq_getElem (by omega)
  have:=h3 _ _ hg (Nat.le_refl _)
  have:=hs _ i _ j hg e z
  omega
 ·exact z
 ·have:=h2 i j e z; omega
theorem i_ {t:SetTable} (hs:Srt t.place) {i j:Nat} (e:t.place[i]?=some j):t.slot j=.live i:=by
 unfold slot
 rw [below_at hs e]
 simp only [e,beq_self_eq_true,if_true]
theorem BL {t:SetTable} (hd:t.dummies=#[]) {j:Nat} (h:NotIn t.place j):t.slot j=.empty:=by
 unfold slot
 have h1:(t.place[below t.place j]?==some j)=false:=by
  cases q:t.place[below t.place j]?==some j with
  | false=>rfl
  | true=>exact absurd (by simpa using q) (h _)
 simp only [h1,Bool.false_eq_true,if_false]
 rw [hd]
 rfl
theorem lu {t:SetTable} {f:Nat->Int} {h:Int}:∀ (d k fuel:Nat),d < fuel->(∀ k',k<=k'->k' < k+d->∃ i,t.slot (pos t.mask h k')=.live i/\f i≠h) ->
  probe.go t f h fuel (st t.mask h k)=probe.go t f h (fuel - d) (st t.mask h (k+d))
 | 0,k,fuel,_,_=>rfl
 | d+1,k,0,hf,_=>by omega
 | d+1,k,fuel+1,hf,hw=>by
  obtain ⟨i,e,hne⟩:=hw k (Nat.le_refl _) (by omega)
  have e:t.slot (st t.mask h k).j=.live i:=e
  conv=>lhs; unfold probe.go
  simp only [e]
  rw [if_neg (by simpa using hne),o8]
  show probe.go t f h fuel (st t.mask h (k+1))=_
  rw [lu d (k+1) fuel (by omega) fun k' h1 h2=>hw k' (by omega) (by omega),show fuel+1 - (d+1)=fuel - d by omega,show k+1+d=k+(d+1) by omega]
theorem zf {t:SetTable} {f:Nat->Int} {h:Int} {d k:Nat} (hd:d < 10 * turns t.mask) (hw:∀ k',k<=k'->k' < k+d->∃ i,t.slot (pos t.mask h k')=.live i/\f i≠h) (he:t.slot (pos t.mask h (k+d))=.empty) :
  t.probe f h (st t.mask h k)=some (.empty (pos t.mask h (k+d)) none):=by
 unfold probe
 rw [lu d k _ hd hw]
 obtain ⟨m,hm⟩:∃ m,10 * turns t.mask - d=m+1:=⟨10 * turns t.mask - d - 1,by omega⟩
 rw [hm]
 unfold probe.go
 have he:t.slot (st t.mask h (k+d)).j=.empty:=he
 simp only [he,rm]
 rfl
theorem yW {t:SetTable} {f:Nat->Int} {h:Int} {d k i:Nat} (hd:d < 10 * turns t.mask) (hw:∀ k',k<=k'->k' < k+d->∃ i,t.slot (pos t.mask h k')=.live i/\f i≠h) (he:t.slot (pos t.mask h (k+d))=.live i) (hi:f i=h) :
  t.probe f h (st t.mask h k)=some (.candidate (pos t.mask h (k+d)) i (st t.mask h (k+d+1))):=by
 unfold probe
 rw [lu d k _ hd hw]
 obtain ⟨m,hm⟩:∃ m,10 * turns t.mask - d=m+1:=⟨10 * turns t.mask - d - 1,by omega⟩
 rw [hm]
 unfold probe.go
 have he:t.slot (st t.mask h (k+d)).j=.live i:=he
 simp only [he]
 rw [if_pos (by simpa using hi),o8]
 rfl
structure Good {α:Type} (t:SetTable) (es:Array (Int × α)):Prop where
 dum:t.dummies=#[]
 len:t.place.size=es.size
 srt:Srt t.place
 top:∀ (i s:Nat),t.place[i]?=some s->s<=t.mask
 msk:Msk t.mask
 way:∀ (i s:Nat) e,t.place[i]?=some s->es[i]?=some e->∃ k,pos t.mask e.1 k=s/\∀ k',k' < k->∃ i':Nat,t.place[i']?=some (pos t.mask e.1 k')
variable {α:Type} {t:SetTable} {es:Array (Int × α)}
theorem yt {xs:Array Nat} (hs:Srt xs) {mask:Nat} (ht:∀ (i s:Nat),xs[i]?=some s->s<=mask) (hl:xs.size<=mask):∃ j,j<=mask/\NotIn xs j:=by
 have hnd:xs.toList.Nodup:=by
  refine List.pairwise_iff_getElem.mpr fun i i' h1 h2 hlt e=>?_
  rw [Array.length_toList] at h1 h2
  have:=hs i i' _ _ (Array.getElem?_eq_getElem h1) (Array.getElem?_eq_getElem h2) hlt
  rw [Array.getElem_toList,Array.getElem_toList] at e
  omega
 by_cases h:∃ j,j<=mask/\NotIn xs j
 ·exact h
 ·exfalso
  have hsub:List.range (mask+1) ⊆ xs.toList:=fun j hj=>by
   have hj:j<=mask:=by have:=List.mem_range.mp hj; omega
   by_cases q:NotIn xs j
   ·exact absurd ⟨j,hj,q⟩ h
   ·unfold NotIn at q
    simp only [ne_eq,Classical.not_forall,Classical.not_not] at q
    obtain ⟨i,e⟩:=q
    rw [<- Array.getElem?_toList] at e
    exact List.mem_of_getElem? e
  have:=(List.nodup_range (n:=mask+1)).length_le_of_subset hsub
  rw [List.length_range,Array.length_toList] at this
  omega
end TB

namespace TB
open PySem PySem.SetTable
variable {α:Type} {t:SetTable} {es:Array (Int × α)}
theorem least {P:Nat->Prop}:∀ (n:Nat),P n->∃ m,m<=n/\P m/\∀ k,k < m->¬ P k:=by
 intro n
 induction n using Nat.strongRecOn with
 | ind n ih =>
  intro h
  by_cases q:∃ k,k < n/\P k
  ·obtain ⟨k,hk,hp⟩:=q
   obtain ⟨m,h1,h2,h3⟩:=ih k hk hp
   exact ⟨m,by omega,h2,h3⟩
  ·exact ⟨n,Nat.le_refl _,h,fun k hk hp=>q ⟨k,hk,hp⟩⟩
structure End (t:SetTable) (h:Int) (K:Nat):Prop where
 lt:K < 10 * turns t.mask
 free:NotIn t.place (pos t.mask h K)
 full:∀ k,k < K->∃ i:Nat,t.place[i]?=some (pos t.mask h k)
theorem zd (g:Good t es) (hl:es.size<=t.mask) (h:Int):∃ K,End t h K:=by
 obtain ⟨j,hj,hn⟩:=yt g.srt g.top (g.len ▸ hl)
 obtain ⟨d,hd,e⟩:=cover g.msk h 0 hj
 rw [Nat.zero_add] at e
 obtain ⟨K,h1,h2,h3⟩:=least (P:=fun k=>NotIn t.place (pos t.mask h k)) d (by show NotIn t.place _; rw [e]; exact hn)
 refine ⟨K,by omega,h2,fun k hk=>?_⟩
 have:=h3 k hk
 unfold NotIn at this
 simp only [ne_eq,Classical.not_forall,Classical.not_not] at this
 exact this
theorem De (g:Good t es) {h:Int} {K:Nat} (E:End t h K) {i:Nat} {e:Int × α} (he:es[i]?=some e) (hh:e.1=h):∃ k,k < K/\t.place[i]?=some (pos t.mask h k):=by
 have hi:=(Array.getElem?_eq_some_iff.mp he).1
 have hi':i < t.place.size:=g.len ▸ hi
 have hp:t.place[i]?=some t.place[i]:=Array.getElem?_eq_getElem hi'
 obtain ⟨k,e1,e2⟩:=g.way i _ e hp he
 rw [hh] at e1 e2
 refine ⟨k,?_,by rw [hp,<- e1]⟩
 rcases Nat.lt_trichotomy k K with z|z|z
 ·exact z
 ·subst z; exact absurd (e1 ▸ hp) (E.free i)
 ·obtain ⟨i',q⟩:=e2 K z; exact absurd q (E.free i')
theorem Cu (g:Good t es) {h:Int} {K:Nat} (E:End t h K) {f:Nat->Int} {k:Nat} (hk:k<=K) :
  t.probe f h (st t.mask h k)=some (.empty (pos t.mask h K) none)/\(∀ (m i:Nat),k<=m->m < K->t.place[i]?=some (pos t.mask h m)->f i≠h) \/
  ∃ m i,k<=m/\m < K/\t.place[i]?=some (pos t.mask h m)/\f i=h/\t.slot (pos t.mask h m)=.live i/\t.probe f h (st t.mask h k)=some (.candidate (pos t.mask h m) i (st t.mask h (m+1)))/\∀ (m' i':Nat),k<=m'->m' < m->t.place[i']?=some (pos t.mask h m')->f i'≠h:=by
 by_cases q:∃ m,k<=m/\m < K/\∃ i:Nat,t.place[i]?=some (pos t.mask h m)/\f i=h
 ·obtain ⟨m0,q⟩:=q
  obtain ⟨m,_,⟨h1,h2,i,h3,h4⟩,h5⟩:=least (P:=fun m=>k<=m/\m < K/\∃ i:Nat,t.place[i]?=some (pos t.mask h m)/\f i=h) m0 q
  have hne:∀ (m' i':Nat),k<=m'->m' < m->t.place[i']?=some (pos t.mask h m')->f i'≠h:=fun m' i' a b c d=>h5 m' b ⟨a,by omega,i',c,d⟩
  refine .inr ⟨m,i,h1,h2,h3,h4,i_ g.srt h3,?_,hne⟩
  have:=yW (t:=t) (f:=f) (h:=h) (d:=m - k) (k:=k) (i:=i) (by have:=E.lt; omega) (fun k' a b=>by
   obtain ⟨i',e⟩:=E.full k' (by omega)
   exact ⟨i',i_ g.srt e,hne k' i' a (by omega) e⟩) (by rw [show k+(m - k)=m by omega]; exact i_ g.srt h3) h4
  rw [show k+(m - k)=m by omega] at this
  exact this
 ·have hne:∀ (m i:Nat),k<=m->m < K->t.place[i]?=some (pos t.mask h m)->f i≠h:=fun m i a b c d=>q ⟨m,a,b,i,c,d⟩
  refine .inl ⟨?_,hne⟩
  have:=zf (t:=t) (f:=f) (h:=h) (d:=K - k) (k:=k) (by have:=E.lt; omega) (fun k' a b=>by
   obtain ⟨i',e⟩:=E.full k' (by omega)
   exact ⟨i',i_ g.srt e,hne k' i' a (by omega) e⟩) (by rw [show k+(K - k)=K by omega]; exact BL g.dum E.free)
  rw [show k+(K - k)=K by omega] at this
  exact this
theorem gg {β:Type} (xs:Array β) {p:Nat} (hp:p<=xs.size) (x:β) (i:Nat):(insertAt xs p x)[i]?=if i < p then xs[i]? else if i=p then some x else xs[i - 1]?:=by
 rw [<- Array.getElem?_toList,SetTable.toList_insertAt]
 have hl:(xs.toList.take p).length=p:=by rw [List.length_take,Array.length_toList]; omega
 by_cases h1:i < p
 ·rw [if_pos h1]
  rw [List.getElem?_append_left (by omega),List.getElem?_take_of_lt h1,Array.getElem?_toList]
 ·rw [if_neg h1]
  rw [List.getElem?_append_right (by omega),hl]
  by_cases h2:i=p
  ·subst h2; rw [if_pos rfl,Nat.sub_self]; rfl
  ·rw [if_neg h2]
   obtain ⟨m,rfl⟩:∃ m,i=p+1+m:=⟨i - p - 1,by omega⟩
   rw [show p+1+m - p=m+1 by omega,show p+1+m - 1=p+m by omega]
   show (xs.toList.drop p)[m]?=_
   rw [List.getElem?_drop,Array.getElem?_toList]
theorem jP {β:Type} (xs:Array β) (p:Nat) (x:β):(insertAt xs p x).size=xs.size+1:=by
 have:=(SetTable.insertAt_perm xs p x).length_eq
 rw [Array.length_toList,Array.length_toList,Array.size_push] at this
 exact this
theorem uO (j:Nat):has #[] j=false:=rfl
theorem wC (g:Good t es) {h:Int} {K:Nat} (E:End t h K) (x:α):Good (t.put (pos t.mask h K)).1 (insertAt es (t.put (pos t.mask h K)).2 (h,x)):=by
 obtain ⟨s1,s2,s3⟩:=jL g.srt (pos t.mask h K)
 generalize hj:pos t.mask h K=j at s1 s2 s3
 have hfree:NotIn t.place j:=hj ▸ E.free
 generalize hp:below t.place j=p at s1 s2 s3
 have e1:(t.put j).1.place=insertAt t.place p j:=by unfold put; rw [hp]
 have e2:(t.put j).2=p:=by unfold put; rw [hp]
 have e3:(t.put j).1.mask=t.mask:=rfl
 have e4:(t.put j).1.dummies=#[]:=by
  show (if has t.dummies j then eraseAt t.dummies (below t.dummies j) else t.dummies)=#[]
  rw [g.dum,uO]; rfl
 have s1':p<=es.size:=g.len ▸ s1
 have up:∀ (i s:Nat),t.place[i]?=some s->∃ i':Nat,(insertAt t.place p j)[i']?=some s:=fun i s e=>by
  by_cases z:i < p
  ·exact ⟨i,by rw [gg _ s1,if_pos z]; exact e⟩
  ·exact ⟨i+1,by rw [gg _ s1,if_neg (by omega),if_neg (by omega)]; exact e⟩
 refine ⟨e4,by rw [e1,e2,jP,jP,g.len],?_,?_,by rw [e3]; exact g.msk,?_⟩
 ·rw [e1]
  intro i i' v v' a b hlt
  rw [gg _ s1] at a b
  by_cases z:i < p
  ·rw [if_pos z] at a
   by_cases z':i' < p
   ·rw [if_pos z'] at b; exact g.srt i i' v v' a b hlt
   ·rw [if_neg z'] at b
    by_cases w:i'=p
    ·rw [if_pos w] at b; cases b; exact s2 i v a z
    ·rw [if_neg w] at b; exact g.srt i _ v v' a b (by omega)
  ·rw [if_neg z] at a
   rw [if_neg (by omega),if_neg (by omega)] at b
   by_cases w:i=p
   ·rw [if_pos w] at a
    cases a
    have h1:=s3 _ v' b (by omega)
    have h2:v'≠j:=fun q=>hfree _ (q ▸ b)
    omega
   ·rw [if_neg w] at a
    exact g.srt _ _ v v' a b (by omega)
 ·rw [e1,e3]
  intro i s a
  rw [gg _ s1] at a
  by_cases z:i < p
  ·rw [if_pos z] at a; exact g.top i s a
  ·rw [if_neg z] at a
   by_cases w:i=p
   ·rw [if_pos w] at a; cases a; rw [<- hj]; exact Fc _ _ _
   ·rw [if_neg w] at a; exact g.top _ s a
 ·rw [e1,e2,e3]
  intro i s e a b
  rw [gg _ s1] at a
  rw [gg _ s1'] at b
  have old:∀ (m s:Nat) e,t.place[m]?=some s->es[m]?=some e->∃ k,pos t.mask e.1 k=s/\∀ k',k' < k->∃ i':Nat,(insertAt t.place p j)[i']?=some (pos t.mask e.1 k'):=fun m s e a b=>by
   obtain ⟨k,q1,q2⟩:=g.way m s e a b
   exact ⟨k,q1,fun k' hk'=>let ⟨i',q⟩:=q2 k' hk'; up i' _ q⟩
  by_cases z:i < p
  ·rw [if_pos z] at a b; exact old i s e a b
  ·rw [if_neg z] at a b
   by_cases w:i=p
   ·rw [if_pos w] at a b
    cases a; cases b
    exact ⟨K,hj,fun k' hk'=>let ⟨i',q⟩:=E.full k' hk'; up i' _ q⟩
   ·rw [if_neg w] at a b; exact old _ s e a b
end TB

namespace TB
open PySem PySem.SetTable
noncomputable def Occ (owner:Array (Option Nat)) (j:Nat):Prop:=∃ i:Nat,owner[j]?=some (some i)
theorem lg {mask:Nat} {h:Int} {c:Nat} {b:Nat × Nat} (e:st mask h c=bs mask b) {a:Nat} (ha:b.1+a<=runEnd mask b.1):pos mask h (c+a)=b.1+a:=by
 unfold pos
 rw [<- ju,e,lq mask a (bs mask b) (by show a<=runEnd mask b.1 - b.1; omega)]
 rfl
theorem D0 {mask:Nat} {h:Int} {c:Nat} {b:Nat × Nat} (e:st mask h c=bs mask b):st mask h (c+(runEnd mask b.1 - b.1+1))=bs mask (leap mask b.1 b.2):=by
 rw [<- ju,e]
 exact jy (p:=bs mask b) rfl
theorem oV {owner:Array (Option Nat)} {j:Nat} (hj:j < owner.size) (h:(owner.getD j (some 0)).isNone=false):Occ owner j:=by
 have hg:owner[j]?=some owner[j]:=Array.getElem?_eq_getElem hj
 rw [Array.getD_eq_getD_getElem?,hg] at h
 show ∃ i:Nat,owner[j]?=some (some i)
 rw [hg]
 cases q:owner[j] with
 | none=>rw [q] at h; cases h
 | some i=>exact ⟨i,rfl⟩
theorem D6 {owner:Array (Option Nat)} {j:Nat} (hj:j < owner.size) (h:(owner.getD j (some 0)).isNone=true):owner[j]?=some none:=by
 have hg:owner[j]?=some owner[j]:=Array.getElem?_eq_getElem hj
 rw [Array.getD_eq_getD_getElem?,hg] at h
 rw [hg]
 cases q:owner[j] with
 | none=>rfl
 | some i=>rw [q] at h; cases h
theorem tF {mask:Nat} {owner:Array (Option Nat)} (hs:owner.size=mask+1) {h:Int} {j0:Nat} (hf:owner[j0]?=some none):∀ (fuel n:Nat) (b:Nat × Nat) (c:Nat),b.1<=mask->st mask h c=bs mask b->(∀ k,k < c->Occ owner (pos mask h k))->(bW mask n b).1=j0->n < fuel ->
  ∃ K,layClean.free mask owner fuel b.1 b.2=some (pos mask h K)/\owner[pos mask h K]?=some none/\∀ k,k < K->Occ owner (pos mask h k)
 | 0,n,b,c,_,_,_,_,hn=>by omega
 | fuel+1,n,b,c,hb,e,ho,hl,hn=>by
  have hr:=nN hb
  have hge:=jV mask b.1
  cases q:(List.range (runEnd mask b.1+1 - b.1)).find? (fun k=>(owner.getD (b.1+k) (some 0)).isNone) with
  | some a =>
   obtain ⟨h1,h2,h3⟩:=List.find?_range_eq_some.mp q
   have h2:=List.mem_range.mp h2
   have hp:=lg e (a:=a) (by omega)
   refine ⟨c+a,?_,?_,fun k hk=>?_⟩
   ·unfold layClean.free
    rw [q,hp]
   ·rw [hp]; exact D6 (by omega) h1
   ·by_cases z:k < c
    ·exact ho k z
    ·obtain ⟨m,rfl⟩:∃ m,k=c+m:=⟨k - c,by omega⟩
     rw [lg e (a:=m) (by omega)]
     exact oV (by omega) (by simpa using h3 m (by omega))
  | none =>
   have h3:=List.find?_range_eq_none.mp q
   have occ:∀ a,b.1+a<=runEnd mask b.1->Occ owner (b.1+a):=fun a ha=>oV (by omega) (by simpa using h3 a (by omega))
   cases n with
   | zero =>
    exfalso
    obtain ⟨i,w⟩:=occ 0 (by omega)
    have hl:b.1=j0:=hl
    rw [Nat.add_zero,hl,hf] at w
    cases w
   | succ n =>
    have hle:(leap mask b.1 b.2).1<=mask:=Nat.lt_succ_iff.mp (Nat.mod_lt _ (Nat.succ_pos mask))
    obtain ⟨K,r1,r2,r3⟩:=tF hs hf fuel n (leap mask b.1 b.2) (c+(runEnd mask b.1 - b.1+1)) hle (D0 e) (fun k hk=>by
     by_cases z:k < c
     ·exact ho k z
     ·obtain ⟨m,rfl⟩:∃ m,k=c+m:=⟨k - c,by omega⟩
      rw [lg e (a:=m) (by omega)]
      exact occ m (by omega)) hl (by omega)
    refine ⟨K,?_,r2,r3⟩
    unfold layClean.free
    rw [q]
    exact r1
theorem DI {mask:Nat} (hm:Msk mask) {owner:Array (Option Nat)} (hs:owner.size=mask+1) {j0:Nat} (hf:owner[j0]?=some none) (h:Int) :
  ∃ K,layClean.free mask owner (turns mask) (bits h % (mask+1)) (bits h)=some (pos mask h K)/\owner[pos mask h K]?=some none/\∀ k,k < K->Occ owner (pos mask h k):=by
 have hj:j0<=mask:=by have:=(Array.getElem?_eq_some_iff.mp hf).1; omega
 have hi:bits h % (mask+1)<=mask:=Nat.lt_succ_iff.mp (Nat.mod_lt _ (Nat.succ_pos mask))
 obtain ⟨n,h1,h2,e⟩:=reach hm hi (om h) hj
 exact tF hs hf (turns mask) (n+1) (bits h % (mask+1),bits h) 0 hi rfl (fun k hk=>by omega) e (by unfold turns; omega)
structure Own (mask:Nat) (hs:List Int) (owner:Array (Option Nat)):Prop where
 size:owner.size=mask+1
 lt:∀ (j i:Nat),owner[j]?=some (some i)->i < hs.length
 ex:∀ i:Nat,i < hs.length->∃ j:Nat,owner[j]?=some (some i)
 inj:∀ (j j' i:Nat),owner[j]?=some (some i)->owner[j']?=some (some i)->j=j'
 way:∀ (j i:Nat) h,owner[j]?=some (some i)->hs[i]?=some h->∃ K,pos mask h K=j/\∀ k,k < K->Occ owner (pos mask h k)
theorem xN (mask:Nat):Own mask [] (Array.replicate (mask+1) none):=by
 have no:∀ (j i:Nat),(Array.replicate (mask+1) (none:Option Nat))[j]?≠some (some i):=fun j i e=>by
  rw [Array.getElem?_replicate] at e
  split at e <;> cases e
 exact ⟨Array.size_replicate,fun j i e=>absurd e (no j i),fun i h=>absurd h (Nat.not_lt_zero i),fun j _ i e=>absurd e (no j i),fun j i _ e=>absurd e (no j i)⟩
theorem Af {mask:Nat} {hs:List Int} {owner:Array (Option Nat)} (o:Own mask hs owner) (hl:hs.length<=mask):∃ j:Nat,owner[j]?=some none:=by
 by_cases q:∃ j:Nat,owner[j]?=some none
 ·exact q
 ·exfalso
  have all:∀ j,j < mask+1->∃ i:Nat,owner[j]?=some (some i):=fun j hj=>by
   have hj':j < owner.size:=by rw [o.size]; exact hj
   have hg:owner[j]?=some owner[j]:=Array.getElem?_eq_getElem hj'
   cases w:owner[j] with
   | none=>exact absurd ⟨j,by rw [hg,w]⟩ q
   | some i=>exact ⟨i,by rw [hg,w]⟩
  let g:Nat->Nat:=fun j=>((owner[j]?).getD none).getD 0
  have hg:∀ j i:Nat,owner[j]?=some (some i)->g j=i:=fun j i e=>by show ((owner[j]?).getD none).getD 0=i; rw [e]; rfl
  have hnd:((List.range (mask+1)).map g).Nodup:=by
   refine List.pairwise_map.mpr (List.Pairwise.imp_of_mem (fun {a b} ha hb hab=>?_) (List.nodup_range (n:=mask+1)))
   obtain ⟨i,e⟩:=all a (List.mem_range.mp ha)
   obtain ⟨i',e'⟩:=all b (List.mem_range.mp hb)
   rw [hg a i e,hg b i' e']
   intro z
   subst z
   exact hab (o.inj a b i e e')
  have hsub:(List.range (mask+1)).map g ⊆ List.range hs.length:=fun x hx=>by
   obtain ⟨j,hj,rfl⟩:=List.mem_map.mp hx
   obtain ⟨i,e⟩:=all j (List.mem_range.mp hj)
   rw [hg j i e]
   exact List.mem_range.mpr (o.lt j i e)
  have:=hnd.length_le_of_subset hsub
  rw [List.length_map,List.length_range,List.length_range] at this
  omega
theorem zI {mask:Nat} (hm:Msk mask) {hs:List Int} {owner:Array (Option Nat)} (o:Own mask hs owner) (hl:hs.length<=mask) (h:Int) :
  ∃ j,layClean.free mask owner (turns mask) (bits h % (mask+1)) (bits h)=some j/\Own mask (hs++[h]) (owner.setIfInBounds j (some hs.length)):=by
 obtain ⟨j0,hf⟩:=Af o hl
 obtain ⟨K,e1,e2,e3⟩:=DI hm o.size hf h
 generalize hj:pos mask h K=j at e1 e2
 have hjl:j < owner.size:=(Array.getElem?_eq_some_iff.mp e2).1
 have get:∀ x:Nat,(owner.setIfInBounds j (some hs.length))[x]?=if x=j then some (some hs.length) else owner[x]?:=fun x=>by
  rw [Array.getElem?_setIfInBounds]
  by_cases z:j=x
  ·subst z; rw [if_pos rfl,if_pos hjl,if_pos rfl]
  ·rw [if_neg z,if_neg (fun q=>z q.symm)]
 have keep:∀ x:Nat,Occ owner x->Occ (owner.setIfInBounds j (some hs.length)) x:=fun x ⟨i,w⟩=>⟨i,by
  rw [get,if_neg (fun q=>by subst q; rw [e2] at w; cases w)]; exact w⟩
 refine ⟨j,e1,?_,?_,?_,?_,?_⟩
 ·rw [Array.size_setIfInBounds]; exact o.size
 ·intro x i w
  rw [get] at w
  rw [List.length_append,List.length_singleton]
  split at w
  ·cases w; omega
  ·have:=o.lt x i w; omega
 ·intro i hi
  rw [List.length_append,List.length_singleton] at hi
  by_cases z:i=hs.length
  ·subst z; exact ⟨j,by rw [get,if_pos rfl]⟩
  ·obtain ⟨x,w⟩:=o.ex i (by omega)
   exact ⟨x,by rw [get,if_neg (fun q=>by subst q; rw [e2] at w; cases w)]; exact w⟩
 ·intro x x' i w w'
  rw [get] at w w'
  by_cases z:x=j
  ·by_cases z':x'=j
   ·rw [z,z']
   ·rw [if_pos z] at w; rw [if_neg z'] at w'
    cases w
    have:=o.lt x' _ w'; omega
  ·rw [if_neg z] at w
   by_cases z':x'=j
   ·rw [if_pos z'] at w'
    cases w'
    have:=o.lt x _ w; omega
   ·rw [if_neg z'] at w'; exact o.inj x x' i w w'
 ·intro x i h' w hh
  rw [get] at w
  by_cases z:x=j
  ·rw [if_pos z] at w
   cases w
   rw [List.getElem?_append_right (Nat.le_refl _),Nat.sub_self] at hh
   cases hh
   exact ⟨K,by rw [hj,z],fun k hk=>keep _ (e3 k hk)⟩
  ·rw [if_neg z] at w
   rw [List.getElem?_append_left (o.lt x i w)] at hh
   obtain ⟨K',r1,r2⟩:=o.way x i h' w hh
   exact ⟨K',r1,fun k hk=>keep _ (r2 k hk)⟩
theorem n_ {mask:Nat} (hm:Msk mask):∀ (rest done:List Int) (owner:Array (Option Nat)),Own mask done owner->done.length+rest.length<=mask+1 ->
  ∃ o',(rest.foldl (fun (acc:Option (Array (Option Nat) × Nat)) h=>do let (owner,k) <- acc; let j <- layClean.free mask owner (turns mask) (bits h % (mask+1)) (bits h); pure (owner.setIfInBounds j (some k),k+1)) (some (owner,done.length)))=some (o',(done++rest).length)/\Own mask (done++rest) o'
 | [],done,owner,o,_=>⟨owner,by rw [List.append_nil]; rfl,by rw [List.append_nil]; exact o⟩
 | h::rest,done,owner,o,hl=>by
  rw [List.length_cons] at hl
  obtain ⟨j,e,o2⟩:=zI hm o (by omega) h
  obtain ⟨o',e',o3⟩:=n_ hm rest (done++[h]) _ o2 (by rw [List.length_append,List.length_singleton]; omega)
  rw [List.append_assoc] at e' o3
  refine ⟨o',?_,o3⟩
  rw [List.foldl_cons]
  rw [List.length_append,List.length_singleton] at e'
  have:(do let (owner,k) <- some (owner,done.length); let j <- layClean.free mask owner (turns mask) (bits h % (mask+1)) (bits h); pure (owner.setIfInBounds j (some k),k+1))=some (owner.setIfInBounds j (some done.length),done.length+1):=by
   show (layClean.free mask owner (turns mask) (bits h % (mask+1)) (bits h)).bind (fun j=>some (owner.setIfInBounds j (some done.length),done.length+1))=_
   rw [e]; rfl
  rw [this]
  exact e'
theorem A5 {mask:Nat} (hm:Msk mask) (hs:Array Int) (hl:hs.size<=mask+1):∃ o',layClean mask hs=some o'/\Own mask hs.toList o':=by
 obtain ⟨o',e,o⟩:=n_ hm hs.toList [] _ (xN mask) (by rw [List.length_nil,Array.length_toList]; omega)
 rw [List.nil_append] at e o
 refine ⟨o',?_,o⟩
 unfold layClean
 rw [<- Array.foldl_toList]
 rw [List.length_nil] at e
 rw [e]
 rfl
end TB

namespace TB
open PySem PySem.SetTable
variable {α:Type} {es:Array (Int × α)}
theorem qC:∀ {l:List Nat},(∀ i∈l,i < es.size)->(l.filterMap (es[·]?)).length=l.length/\∀ m:Nat,(l.filterMap (es[·]?))[m]?=l[m]?.bind (es[·]?)
 | [],_=>⟨rfl,fun m=>by simp⟩
 | i::l,h=>by
  have hi:=h i List.mem_cons_self
  obtain ⟨h1,h2⟩:=qC (l:=l) fun x hx=>h x (List.mem_cons_of_mem _ hx)
  have e:es[i]?=some es[i]:=Array.getElem?_eq_getElem hi
  rw [List.filterMap_cons,e]
  refine ⟨by rw [List.length_cons,List.length_cons,h1],fun m=>?_⟩
  cases m with
  | zero=>rw [List.getElem?_cons_zero,List.getElem?_cons_zero]; exact e.symm
  | succ m=>rw [List.getElem?_cons_succ,List.getElem?_cons_succ]; exact h2 m
noncomputable def bE (mask:Nat) (owner:Array (Option Nat)):List (Nat × Nat):=(List.range (mask+1)).filterMap fun j=>(owner.getD j none).map (j,·)
theorem E5 {mask:Nat} {owner:Array (Option Nat)} (hs:owner.size=mask+1) (j i:Nat):(j,i)∈bE mask owner ↔ owner[j]?=some (some i):=by
 unfold bE
 rw [List.mem_filterMap]
 constructor
 ·rintro ⟨x,hx,e⟩
  have hx:x < owner.size:=by rw [hs]; exact List.mem_range.mp hx
  have hg:owner[x]?=some owner[x]:=Array.getElem?_eq_getElem hx
  rw [Array.getD_eq_getD_getElem?,hg] at e
  cases q:owner[x] with
  | none=>rw [q] at e; cases e
  | some y =>
   rw [q] at e
   have e:(x,y)=(j,i):=by simpa using e
   cases e
   rw [hg,q]
 ·intro e
  have hj:j < owner.size:=(Array.getElem?_eq_some_iff.mp e).1
  refine ⟨j,List.mem_range.mpr (by omega),?_⟩
  rw [Array.getD_eq_getD_getElem?,e]; rfl
theorem Ei (mask:Nat) (owner:Array (Option Nat)):(bE mask owner).Pairwise fun a b=>a.1 < b.1:=by
 refine List.Pairwise.filterMap _ (fun a a' hlt b hb b' hb'=>?_) List.pairwise_lt_range
 cases q:owner.getD a none with
 | none=>rw [q] at hb; cases hb
 | some y =>
  cases q':owner.getD a' none with
  | none=>rw [q'] at hb'; cases hb'
  | some y' =>
   rw [q] at hb; rw [q'] at hb'
   have hb:(a,y)=b:=by simpa using hb
   have hb':(a',y')=b':=by simpa using hb'
   subst hb; subst hb'
   exact hlt
theorem xT {l l':List Nat} (h:l.Nodup) (h':l'.Nodup) (hm:∀ a,a∈l ↔ a∈l'):l.Perm l':=by
 rw [List.perm_iff_count]
 intro a
 rw [h.count,h'.count]
 by_cases q:a∈l
 ·rw [if_pos q,if_pos ((hm a).mp q)]
 ·rw [if_neg q,if_neg (fun z=>q ((hm a).mpr z))]
theorem yZ {mask:Nat} (hm:Msk mask) (es:Array (Int × α)) (hl:es.size<=mask+1) (finger moves:Nat) (led plain:Bool) :
  ∃ t' order,laid mask finger moves led plain (es.map (·.1))=some (t',order)/\Good t' (order.filterMap (es[·]?))/\(order.filterMap (es[·]?)).size=es.size/\(order.filterMap (es[·]?)).toList.Perm es.toList /\
   t'={ mask:=mask,place:=t'.place,dummies:=#[],finger:=finger,led:=led,moves:=moves,plain:=plain }:=by
 obtain ⟨owner,e,o⟩:=A5 hm (es.map (·.1)) (by rw [Array.size_map]; exact hl)
 have hlen:(es.map (·.1)).toList.length=es.size:=by rw [Array.length_toList,Array.size_map]
 have hm':=E5 o.size
 have hlt:=Ei mask owner
 have hi:∀ i∈(bE mask owner).map (·.2),i < es.size:=fun i hi=>by
  obtain ⟨⟨j,i'⟩,h1,rfl⟩:=List.mem_map.mp hi
  have:=o.lt j i' ((hm' j i').mp h1)
  rw [hlen] at this
  exact this
 obtain ⟨f1,f2⟩:=qC (es:=es) hi
 have hnd:((bE mask owner).map (·.2)).Nodup:=by
  refine List.pairwise_map.mpr (List.Pairwise.imp_of_mem (fun {a b} ha hb hab=>?_) hlt)
  obtain ⟨j,i⟩:=a
  obtain ⟨j',i'⟩:=b
  intro z
  have z:i=i':=z
  subst z
  have:=o.inj j j' i ((hm' j i).mp ha) ((hm' j' i).mp hb)
  subst this
  exact absurd hab (Nat.lt_irrefl _)
 have hperm:((bE mask owner).map (·.2)).Perm (List.range es.size):=xT hnd List.nodup_range fun a=>by
  constructor
  ·intro h; exact List.mem_range.mpr (hi a h)
  ·intro h
   obtain ⟨j,w⟩:=o.ex a (by rw [hlen]; exact List.mem_range.mp h)
   exact List.mem_map.mpr ⟨(j,a),(hm' j a).mpr w,rfl⟩
 have hfm:(((bE mask owner).map (·.2)).toArray.filterMap (es[·]?)).toList=((bE mask owner).map (·.2)).filterMap (es[·]?):=by rw [Array.toList_filterMap]
 have hget:∀ m:Nat,(((bE mask owner).map (·.2)).toArray.filterMap (es[·]?))[m]?=((bE mask owner).map (·.2))[m]?.bind (es[·]?):=fun m=>by rw [<- Array.getElem?_toList,hfm,f2]
 have hsize:(((bE mask owner).map (·.2)).toArray.filterMap (es[·]?)).size=es.size:=by
  rw [<- Array.length_toList,hfm,f1,hperm.length_eq,List.length_range]
 refine ⟨_,_,by unfold laid; rw [e]; rfl,?_,hsize,?_,rfl⟩
 ·have pget:∀ m:Nat,((bE mask owner).map (·.1)).toArray[m]?=(bE mask owner)[m]?.map (·.1):=fun m=>by rw [List.getElem?_toArray,List.getElem?_map]
  refine ⟨rfl,?_,?_,?_,hm,?_⟩
  ·show ((bE mask owner).map (·.1)).toArray.size=_
   rw [hsize,List.size_toArray,List.length_map]
   have:=hperm.length_eq
   rw [List.length_map,List.length_range] at this
   exact this
  ·intro i i' v v' a b hlt'
   have a:((bE mask owner).map (·.1)).toArray[i]?=some v:=a
   have b:((bE mask owner).map (·.1)).toArray[i']?=some v':=b
   rw [pget] at a b
   obtain ⟨x,hx,rfl⟩:=Option.map_eq_some_iff.mp a
   obtain ⟨y,hy,rfl⟩:=Option.map_eq_some_iff.mp b
   obtain ⟨h1,e1⟩:=List.getElem?_eq_some_iff.mp hx
   obtain ⟨h2,e2⟩:=List.getElem?_eq_some_iff.mp hy
   have:=List.pairwise_iff_getElem.mp hlt i i' h1 h2 hlt'
   rw [e1,e2] at this
   exact this
  ·intro i s a
   have a:((bE mask owner).map (·.1)).toArray[i]?=some s:=a
   rw [pget] at a
   obtain ⟨⟨j,k⟩,hx,rfl⟩:=Option.map_eq_some_iff.mp a
   have:=(Array.getElem?_eq_some_iff.mp ((hm' j k).mp (List.mem_of_getElem? hx))).1
   have:=o.size
   show j<=mask
   omega
  ·intro i s e' a b
   have a:((bE mask owner).map (·.1)).toArray[i]?=some s:=a
   have b:(((bE mask owner).map (·.2)).toArray.filterMap (es[·]?))[i]?=some e':=b
   rw [pget] at a
   obtain ⟨⟨j,k⟩,hx,rfl⟩:=Option.map_eq_some_iff.mp a
   rw [hget,List.getElem?_map,hx] at b
   have b:es[k]?=some e':=b
   have hown:=(hm' j k).mp (List.mem_of_getElem? hx)
   have hh:(es.map (·.1)).toList[k]?=some e'.1:=by rw [Array.getElem?_toList,Array.getElem?_map,b]; rfl
   obtain ⟨K,r1,r2⟩:=o.way j k e'.1 hown hh
   refine ⟨K,r1,fun k' hk'=>?_⟩
   obtain ⟨i2,w⟩:=r2 k' hk'
   obtain ⟨m,hm2⟩:=List.getElem?_of_mem ((hm' _ i2).mpr w)
   exact ⟨m,by show ((bE mask owner).map (·.1)).toArray[m]?=_; rw [pget,hm2]; rfl⟩
 ·rw [hfm]
  have:=hperm.filterMap (es[·]?)
  rw [filterMap_getElem?_range] at this
  exact this
end TB

namespace TB
open PySem PySem.SetTable
section
variable {prog:Program} {w:World} {A:Around} {E:Value->Shared->Prop} {s:Shared}
abbrev TK (prog:Program) (w:World) (h:Heap) (ks:List Int) (b:Addr):Prop:=IsTupleKey (intKind prog w) h ks b
noncomputable def hsh (prog:Program) (w:World) (ks:List Int):Int:=tupleKeyHash (intKind prog w) ks
structure El (prog:Program) (w:World) (h:Heap) (e:Int × Value) (ks:List Int):Prop where
 hash:e.1=hsh prog w ks
 ref:∃ b,e.2=.ref b/\TK prog w h ks b
theorem qG {ks:List Int} {vs:List Value} (h:ItemsAre (intKind prog w) ks vs):∀ v∈vs,∃ i t,v=Value.int i t:=by
 induction h with
 | nil=>intro v hv; cases hv
 | cons h1 _ ih =>
  intro v hv
  rcases List.mem_cons.mp hv with rfl|hv
  ·obtain ⟨t,e⟩:=Value.isInt_shape h1; exact ⟨_,t,e⟩
  ·exact ih v hv
theorem nk (n:Nat) {ks:List Int} {b:Addr} {Q:Bool->Shared->Prop} (hk:TK prog w s.heap ks b) (h:Q false s):wpAny (model prog w) A (ofAClassStatement (n+1) (.ref b)) Q E s:=by
 obtain ⟨o,items,m,ho,hc,hd,hi⟩:=hk
 unfold ofAClassStatement
 refine wpAny_bind (wpAny_typeOf_ref ho ?_)
 rw [hc]
 refine wpAny_bind (wpAny_pure ?_)
 simp only [Bool.not_true,Bool.false_eq_true,if_false]
 refine wpAny_bind (wpAny_seqItems ho hd ?_)
 refine wpAny_bind ?_
 show wpAny _ _ (forIn items _ _) _ _ s
 rw [<- Array.forIn_toList]
 refine wpAny_forIn_list _ (fun rest r z=>r.1=none/\z=s/\∀ v∈rest,∃ i t,v=Value.int i t) _ ?_ ?_ _ _ ⟨rfl,rfl,qG hi⟩
 ·rintro v rest r z ⟨hr,rfl,hall⟩
  obtain ⟨i,t,rfl⟩:=hall v List.mem_cons_self
  have e:ofAClassStatement n (Value.int i t)=pure false:=by cases n <;> rfl
  rw [e]
  refine wpAny_bind (wpAny_pure ?_)
  exact wpAny_pure ⟨rfl,rfl,fun u hu=>hall u (List.mem_cons_of_mem _ hu)⟩
 ·rintro ⟨r1,r2⟩ z ⟨hr,rfl,_⟩
  have hr:r1=none:=hr
  subst hr
  exact wpAny_pure h
theorem AI {ks:List Int} {b:Addr} {ys:List Value} {Q:Bool->Shared->Prop} (hk:TK prog w s.heap ks b) (hy:∀ y∈ys,∃ js c,y=Value.ref c/\TK prog w s.heap js c) (h:Q false s):wpAny (model prog w) A (searchCouldBeSeen (.ref b) ys) Q E s:=by
 unfold searchCouldBeSeen
 refine wpAny_bind (wpAny_forIn_list _ (fun rest r z=>r.1=none/\z=s/\∀ y∈rest,∃ js c,y=Value.ref c/\TK prog w s.heap js c) _ ?_ ?_ _ _ ⟨rfl,rfl,hy⟩)
 ·rintro y rest r z ⟨hr,rfl,hall⟩
  obtain ⟨js,c,rfl,hc⟩:=hall y List.mem_cons_self
  have hrest:∀ y∈rest,∃ js c,y=Value.ref c/\TK prog w z.heap js c:=fun u hu=>hall u (List.mem_cons_of_mem _ hu)
  dsimp only
  split
  ·exact wpAny_pure ⟨rfl,rfl,hrest⟩
  ·refine wpAny_bind (wpAny_eqIsQuiet_tuple hk ?_)
   simp only [Bool.not_true,Bool.false_eq_true,if_false]
   refine wpAny_bind (wpAny_eqIsQuiet_tuple hc ?_)
   simp only [Bool.not_true,Bool.false_eq_true,if_false]
   refine wpAny_bind (nk 7 hk ?_)
   simp only [Bool.false_eq_true,if_false]
   refine wpAny_bind (nk 7 hc ?_)
   simp only [Bool.false_eq_true,if_false]
   exact wpAny_pure ⟨rfl,rfl,hrest⟩
 ·rintro ⟨r1,r2⟩ z ⟨hr,rfl,_⟩
  have hr:r1=none:=hr
  subst hr
  exact wpAny_pure h
noncomputable def i9 (prog:Program) (w:World) (h:Heap) (es:Array (Int × Value)) (L:List (List Int)):Prop:=L.length=es.size/\∀ (i:Nat) e ks,es[i]?=some e->L[i]?=some ks->El prog w h e ks
theorem i9.get {h:Heap} {es:Array (Int × Value)} {L:List (List Int)} (k:i9 prog w h es L) {i:Nat} {e:Int × Value} (he:es[i]?=some e):∃ ks,L[i]?=some ks/\El prog w h e ks:=by
 have hi:=(Array.getElem?_eq_some_iff.mp he).1
 have hi':i < L.length:=by rw [k.1]; exact hi
 have hl:L[i]?=some L[i]:=List.getElem?_eq_getElem hi'
 exact ⟨_,hl,k.2 i e _ he hl⟩
theorem fG {t:SetTable} {es:Array (Int × Value)} (g:Good t es) (hl:es.size<=t.mask):t.fits es.size=true:=by
 unfold SetTable.fits SetTable.fill
 rw [g.dum,g.len]
 simp only [beq_self_eq_true,Bool.true_and,decide_eq_true_eq]
 exact hl
theorem CB {mask:Nat} (h:Msk mask):(mask % 2==0)=false:=by rcases h with rfl|rfl <;> rfl
theorem nM {t:SetTable} {f f':Nat->Int} {h:Int} {p:SetTable.Probe} {r:Option SetTable.Met} (e:t.probe f h p=r) (hf:∀ i,f' i=f i):t.probe f' h p=r:=by rw [show f'=f from funext hf]; exact e
theorem Ak {a c:Addr} {o:Obj} {es:Array (Int × Value)} {ep:Nat} {t:SetTable} {L:List (List Int)} {ks:List Int} {Q:SetFound->Shared->Prop} (hu:A.units < cLine)
  (ho:s.heap.get? a=some o) (hd:o.data=.set es ep t) (g:Good t es) (hl:es.size<=t.mask) (K:i9 prog w s.heap es L) (hk:TK prog w s.heap ks c) {M:Nat} (EN:End t (hsh prog w ks) M)
  (h1:ks∈L->Q (.there none) s) (h2:ks ∉ L->Q (.free (pos t.mask (hsh prog w ks) M) false) s) :
  ∀ (n fuel k:Nat) (stand:Option SetTable.Probe),M - k=n->n < fuel->k<=M->stand.getD (t.probeStart (hsh prog w ks))=st t.mask (hsh prog w ks) k ->
   (∀ (m i:Nat),m < k->t.place[i]?=some (pos t.mask (hsh prog w ks) m)->L[i]?≠some ks) ->
   wpAny (model prog w) A (setSearchFrom a (.ref c) (hsh prog w ks) true fuel stand) Q E s:=by
 intro n
 induction n using Nat.strongRecOn with
 | ind n ih =>
  intro fuel k stand hn hf hkM hst hprev
  obtain ⟨fuel,rfl⟩:∃ f,fuel=f+1:=⟨fuel - 1,by omega⟩
  have hfit:=fG g hl
  unfold setSearchFrom
  refine wpAny_bind (wpAny_setState_of ho hd hfit ?_)
  dsimp only
  have hgw:t.gaveWay=false:=CB g.msk
  rw [hgw]
  simp only [Bool.false_eq_true,if_false]
  rw [hst]
  have hsto:∀ (i:Nat) e,es[i]?=some e->(es[i]?.map (·.1)).getD 0=e.1:=fun i e he=>by rw [he]; rfl
  rcases Cu g EN (f:=fun i=>(es[i]?.map (·.1)).getD 0) hkM with ⟨hp,hne⟩|⟨m,i,hkm,hmM,hpi,hfi,hslot,hp,hne⟩
  ·rw [nM hp]
   rotate_left
   ·exact fun i=>rfl
   refine wpAny_pure (h2 fun hmem=>?_)
   obtain ⟨i,hi⟩:=List.getElem?_of_mem hmem
   have hi':i < es.size:=by rw [<- K.1]; exact (List.getElem?_eq_some_iff.mp hi).1
   have he:es[i]?=some es[i]:=Array.getElem?_eq_getElem hi'
   have hel:=K.2 i _ ks he hi
   obtain ⟨m,hm,hpl⟩:=De g EN he hel.hash
   by_cases z:m < k
   ·exact hprev m i z hpl hi
   ·exact hne m i (by omega) hm hpl ((hsto i _ he).trans hel.hash)
  ·rw [nM hp]
   rotate_left
   ·exact fun i=>rfl
   dsimp only
   have hi':i < es.size:=by rw [<- g.len]; exact (Array.getElem?_eq_some_iff.mp hpi).1
   have he:es[i]?=some es[i]:=Array.getElem?_eq_getElem hi'
   obtain ⟨js,hjs,hel⟩:=K.get he
   obtain ⟨b,hb,hkb⟩:=hel.ref
   have hstored:∀ y∈(es.filter (·.1==hsh prog w ks)).toList.map (·.2),∃ js c,y=Value.ref c/\TK prog w s.heap js c:=fun y hy=>by
    obtain ⟨e,h3,rfl⟩:=List.mem_map.mp hy
    have h3:e∈es:=by
     rw [Array.toList_filter] at h3
     exact Array.mem_def.mpr (List.mem_filter.mp h3).1
    obtain ⟨i',hi'⟩:=Array.getElem?_of_mem h3
    obtain ⟨js',_,hel'⟩:=K.get hi'
    obtain ⟨b',q1,q2⟩:=hel'.ref
    exact ⟨js',b',q1,q2⟩
   have rest:wpAny (model prog w) A (do
     let some (_,y):=es[i]?|unsupported "internal:set-entry"
     let equal <- holding [y] (eqBool y (.ref c))
     let (es',_,t') <- setState a
     if true&&equal then return .there none
     let some same:=t'.sameMemory t.moves t.mask|unsupported "set.changed-during-lookup:is-the-new-block-at-the-old-address"
     let aI <- match (if same then t'.slot (pos t.mask (hsh prog w ks) m) else .empty) with
      | .live i'=>match es'[i']? with
       | some (_,y')=>do pure (if <- isSame y' y then some i' else none)
       | none=>pure none
      | _=>pure none
     match aI with
     | none=>rule "set.search.anew"; setSearchFrom a (.ref c) (hsh prog w ks) true fuel none
     | some i'=>if equal then return .there (some i') else setSearchFrom a (.ref c) (hsh prog w ks) true fuel (some (st t.mask (hsh prog w ks) (m+1)))) Q E s:=by
    rw [he]
    rcases hE:es[i] with ⟨eh,ev⟩
    rw [hE] at hb
    have hb:ev=.ref b:=hb
    subst hb
    dsimp only
    refine wpAny_bind (wpAny_holding (wpAny_eqBool_tuple hu hkb hk ?_))
    refine wpAny_bind (wpAny_setState_of ho hd hfit ?_)
    dsimp only
    by_cases hq:js=ks
    ·subst hq
     rw [decide_eq_true rfl]
     simp only [Bool.and_self,if_true]
     exact wpAny_pure (h1 (List.mem_of_getElem? hjs))
    ·rw [decide_eq_false hq]
     simp only [Bool.and_false,Bool.false_eq_true,if_false]
     have hsm:t.sameMemory t.moves t.mask=some true:=by unfold SetTable.sameMemory; simp only [beq_self_eq_true,if_true]
     rw [hsm]
     simp only [if_true]
     rw [hslot]
     dsimp only
     rw [he,hE]
     dsimp only
     refine wpAny_bind (wpAny_isSame_ref_self (wpAny_bind (wpAny_pure ?_)))
     simp only [if_true]
     refine ih (M - (m+1)) (by omega) fuel (m+1) _ rfl (by omega) (by omega) rfl fun m' i' hm' hpl=>?_
     by_cases z:m' < k
     ·exact hprev m' i' z hpl
     ·by_cases z2:m'=m
      ·subst z2
       have:i'=i:=by
        have r1:=below_at g.srt hpl
        have r2:=below_at g.srt hpi
        omega
       subst this
       rw [hjs]
       intro q
       cases q
       exact hq rfl
      ·intro q
       have hi2:i' < es.size:=by rw [<- g.len]; exact (Array.getElem?_eq_some_iff.mp hpl).1
       have he2:es[i']?=some es[i']:=Array.getElem?_eq_getElem hi2
       exact hne m' i' (by omega) (by omega) hpl ((hsto i' _ he2).trans (K.2 i' _ ks he2 q).hash)
   cases hled:t.led with
   | true =>
    simp only [Bool.not_true,Bool.false_eq_true,if_false]
    exact rest
   | false =>
    simp only [Bool.not_false,if_true]
    refine wpAny_bind (AI hk hstored ?_)
    simp only [Bool.false_eq_true,if_false]
    exact rest
end
end TB

namespace TB
open PySem PySem.SetTable
section
variable {prog:Program} {w:World} {A:Around} {E:Value->Shared->Prop} {s:Shared}
inductive Els (prog:Program) (w:World) (h:Heap):List (Int × Value)->List (List Int)->Prop
 | nil:Els prog w h [] []
 | cons {e:Int × Value} {ks:List Int} {l:List (Int × Value)} {L:List (List Int)}:El prog w h e ks->Els prog w h l L->Els prog w h (e::l) (ks::L)
variable {h:Heap}
theorem Els.length:∀ {l:List (Int × Value)} {L:List (List Int)},Els prog w h l L->L.length=l.length
 | _,_,.nil=>rfl
 | _,_,.cons _ r=>by rw [List.length_cons,List.length_cons,r.length]
theorem Els.get:∀ {l:List (Int × Value)} {L:List (List Int)},Els prog w h l L->∀ (i:Nat) e ks,l[i]?=some e->L[i]?=some ks->El prog w h e ks
 | _,_,.nil,i,e,ks,a,_=>by simp at a
 | _,_,.cons q r,0,e,ks,a,b=>by cases a; cases b; exact q
 | _,_,.cons q r,i+1,e,ks,a,b=>r.get i e ks a b
theorem Els.keys {es:Array (Int × Value)} {L:List (List Int)} (x:Els prog w h es.toList L):i9 prog w h es L :=
 ⟨by rw [x.length,Array.length_toList],fun i e ks a b=>x.get i e ks (by rw [Array.getElem?_toList]; exact a) b⟩
theorem Els.perm {l l':List (Int × Value)} (p:l.Perm l'):∀ {L:List (List Int)},Els prog w h l' L->∃ L',Els prog w h l L'/\L'.Perm L:=by
 induction p with
 | nil=>intro L x; cases x; exact ⟨[],.nil,.nil⟩
 | cons e _ ih=>intro L x; cases x with|cons q r=>obtain ⟨L',a,b⟩:=ih r; exact ⟨_,.cons q a,b.cons _⟩
 | swap e e' l=>intro L x; cases x with|cons q r=>cases r with|cons q' r'=>exact ⟨_,.cons q' (.cons q r'),.swap ..⟩
 | trans _ _ ih1 ih2 =>
  intro L x
  obtain ⟨L1,a1,b1⟩:=ih2 x
  obtain ⟨L2,a2,b2⟩:=ih1 a1
  exact ⟨L2,a2,b2.trans b1⟩
theorem Els.snoc:∀ {l:List (Int × Value)} {L:List (List Int)} {e:Int × Value} {ks:List Int},Els prog w h l L->El prog w h e ks->Els prog w h (l++[e]) (L++[ks])
 | _,_,_,_,.nil,q=>.cons q .nil
 | _,_,_,_,.cons a r,q=>.cons a (r.snoc q)
theorem Els.mono {h':Heap} (f:∀ ks b,TK prog w h ks b->TK prog w h' ks b):∀ {l:List (Int × Value)} {L:List (List Int)},Els prog w h l L->Els prog w h' l L
 | _,_,.nil=>.nil
 | _,_,.cons ⟨a,b,c,d⟩ r=>.cons ⟨a,b,c,f _ _ d⟩ (r.mono f)
theorem nC {a b:Addr} {h':Heap} {ks:List Int} {o:Obj} {es:Array (Int × Value)} {ep:Nat} {t:SetTable} (ho:h.get? a=some o) (hd:o.data=.set es ep t) (q:Heap.SameBut a h h') (x:TK prog w h ks b):TK prog w h' ks b:=by
 obtain ⟨ob,items,n,x1,x2,x3,x4⟩:=x
 refine ⟨ob,items,n,(q.2 b fun z=>?_).trans x1,x2,x3,x4⟩
 subst z
 rw [ho] at x1
 cases x1
 rw [hd] at x3
 cases x3
noncomputable def byT (w:World):Bool:=w.params.followText "set-order"
noncomputable def bM (prog:Program) (w:World) (lim:Addr->Prop) (h:Heap) (a:Addr) (L:List (List Int)):Prop:=∃ o es ep t,h.get? a=some o/\o.ExactSet/\o.data=.set es ep t/\Good t es/\(t.plain=true/\t.led=!byT w)/\es.size * 5 < t.mask * 3/\Els prog w h es.toList L/\L.Nodup /\
 ∀ e∈es.toList,∀ b,e.2=.ref b->lim b
theorem z_ {ks:List Int} {c:Addr} {Q:Bool->Shared->Prop} (hk:TK prog w s.heap ks c) (q:Q true s):wpAny (model prog w) A (hashByValue 8 (.ref c)) Q E s:=by
 have hT:=hk.typeIs
 obtain ⟨o,items,m,ho,hc,hd,hi⟩:=hk
 unfold hashByValue
 refine wpAny_bind (wpAny_specialOf hT F.slot_tuple_hash.lookup ?_)
 show wpAny _ _ (seqItems? (.ref c)>>=_) _ _ s
 refine wpAny_bind (wpAny_seqItems ho hd ?_)
 refine wpAny_bind ?_
 show wpAny _ _ (forIn items _ _) _ _ s
 rw [<- Array.forIn_toList]
 refine wpAny_forIn_list _ (fun rest r z=>r.1=none/\z=s/\∀ v∈rest,∃ i t,v=Value.int i t) _ ?_ ?_ _ _ ⟨rfl,rfl,qG hi⟩
 ·rintro v rest r z ⟨hr,rfl,hall⟩
  obtain ⟨i,t,rfl⟩:=hall v List.mem_cons_self
  have e:∀ n,hashByValue n (Value.int i t)=pure true:=fun n=>by cases n <;> rfl
  rw [e]
  refine wpAny_bind (wpAny_pure ?_)
  exact wpAny_pure ⟨rfl,rfl,fun u hu=>hall u (List.mem_cons_of_mem _ hu)⟩
 ·rintro ⟨r1,r2⟩ z ⟨hr,rfl,_⟩
  have hr:r1=none:=hr
  subst hr
  exact wpAny_pure q
theorem Df {mask:Nat} (hm:Msk mask):10 * turns mask < 100000:=by rcases hm with rfl|rfl <;> decide
theorem oO {a:Addr} {o:Obj} {es:Array (Int × Value)} {ep:Nat} {t:SetTable} (ho:h.get? a=some o) (hd:o.data=.set es ep t) (es':Array (Int × Value)) (t':SetTable) :
  (h.update a (Obj.putSet es' t')).get? a=some { o with data:=.set es' (ep+1) t' }:=by
 have q:=Heap.get?_update_self (Obj.putSet es' t') ho (by rw [putSet_of es' t' hd]; rfl)
 rw [putSet_of es' t' hd] at q
 exact q
theorem Ez {a c:Addr} {L:List (List Int)} {ks:List Int} {Q:Bool->Shared->Prop} (hu:A.units < cLine) {lim:Addr->Prop} (hs:bM prog w lim s.heap a L) (hn:L.length<=17) (hk:TK prog w s.heap ks c) (hc:lim c)
  (q:∀ r h' L',Heap.SameBut a s.heap h'->bM prog w lim h' a L'->(∀ x,x∈L' ↔ x∈L\/x=ks)->L'.length<=L.length+1->Q r { s with heap:=h' }) :
  wpAny (model prog w) A (setAddHashed a (.ref c) (hsh prog w ks)) Q E s:=by
 obtain ⟨o,es,ep,t,ho,hex,hd,g,hpl,hsz,hels,hnd,hlim⟩:=hs
 have hlen:L.length=es.size:=by rw [hels.length,Array.length_toList]
 have hl:es.size<=t.mask:=by rcases g.msk with z|z <;> omega
 have hfit:=fG g hl
 obtain ⟨M,EN⟩:=zd g hl (hsh prog w ks)
 have hts:=Df g.msk
 have hML:=EN.lt
 unfold setAddHashed setAddHashedIn
 refine wpAny_holding (wpAny_bind (wpAny_setState_of ho hd hfit ?_))
 dsimp only
 have hbs:byScan (.ref c) es=false:=rfl
 rw [hbs]
 simp only [Bool.false_eq_true,if_false]
 unfold setSearch
 refine wpAny_bind (Ak hu ho hd g hl hels.keys hk EN (fun hm=>?_) (fun hm=>?_) M 100000 0 none (Nat.sub_zero M) (by omega) (Nat.zero_le _) rfl (fun m i hm=>absurd hm (Nat.not_lt_zero m)))
 ·have e:s={ s with heap:=s.heap }:=by cases s; rfl
  rw [e]
  exact wpAny_pure (q _ s.heap L (Heap.SameBut.refl a s.heap) ⟨o,es,ep,t,ho,hex,hd,g,hpl,hsz,hels,hnd,hlim⟩ (fun x=>⟨.inl,fun z=>z.elim id fun z=>z ▸ hm⟩) (Nat.le_succ _))
 dsimp only
 refine wpAny_bind (wpAny_setState_of ho hd hfit ?_)
 dsimp only
 have g1:=wC g EN (Value.ref c)
 generalize hp:t.put (pos t.mask (hsh prog w ks) M)=TP at g1
 have hmask:TP.1.mask=t.mask:=by rw [<- hp]; rfl
 have hplain:TP.1.plain=true:=by rw [<- hp]; exact hpl.1
 have hled:TP.1.led=!byT w:=by rw [<- hp]; exact hpl.2
 obtain ⟨t1,p⟩:=TP
 have hmask:t1.mask=t.mask:=hmask
 have hplain:t1.plain=true:=hplain
 have hled:t1.led=!byT w:=hled
 have g1:Good t1 (insertAt es p (hsh prog w ks,.ref c)):=g1
 dsimp only
 rw [hplain]
 simp only [if_true]
 refine wpAny_bind (z_ hk ?_)
 simp only [if_true]
 have hperm:=SetTable.insertAt_perm es p (hsh prog w ks,Value.ref c)
 rw [Array.toList_push] at hperm
 have hz1:(insertAt es p (hsh prog w ks,Value.ref c)).size=es.size+1:=jP _ _ _
 obtain ⟨L1,x1,y1⟩:=Els.perm hperm (hels.snoc (e:=(hsh prog w ks,Value.ref c)) ⟨rfl,c,rfl,hk⟩)
 have hL1:L1.length=L.length+1:=by rw [y1.length_eq,List.length_append,List.length_singleton]
 have hnd1:L1.Nodup:=y1.nodup_iff.mpr (List.nodup_append.mpr ⟨hnd,by simp,fun x hx y hy=>by rw [List.mem_singleton.mp hy]; intro z; exact hm (z ▸ hx)⟩)
 have hm1:∀ x,x∈L1 ↔ x∈L\/x=ks:=fun x=>by rw [y1.mem_iff,List.mem_append,List.mem_singleton]
 have hlim1:∀ e∈(insertAt es p (hsh prog w ks,Value.ref c)).toList,∀ b,e.2=.ref b->lim b:=fun e he b hb=>by
  rcases List.mem_append.mp (hperm.mem_iff.mp he) with z|z
  ·exact hlim e z b hb
  ·rw [List.mem_singleton.mp z] at hb; cases hb; exact hc
 generalize insertAt es p (hsh prog w ks,Value.ref c)=es1 at g1 hz1 x1 hlim1
 have hline:∀ n:Nat,n<=100->n<=sizeLine:=fun n h=>by rw [sizeLine_eq]; omega
 have ho1:=oO (h:=s.heap) ho hd es1 t1
 have sb1:=Heap.SameBut.update s.heap a (Obj.putSet es1 t1)
 refine wpAny_bind (wpAny_storeSet_of ho hd ?_ (hline _ (by omega)))
 have hl1:es1.size<=t1.mask:=by rw [hmask]; rcases g.msk with z|z <;> omega
 have hfill:t1.fill=es1.size:=by unfold SetTable.fill; rw [g1.dum,g1.len]; rfl
 have x1':=x1.mono fun ks b z=>nC ho hd sb1 z
 by_cases hfull:t1.tooFull=true
 ·rw [hfull]
  simp only [Bool.not_false,Bool.and_self,if_true]
  have hfull:t1.fill * 5 ≥ t1.mask * 3:=of_decide_eq_true hfull
  rw [hfill,hmask,hz1] at hfull
  have h4:es.size=4:=by rcases g.msk with z|z <;> omega
  unfold setRelay
  refine wpAny_bind ?_
  refine wpAny_bind (wpAny_setState_of ho1 rfl (fG g1 hl1) ?_)
  dsimp only
  have hw:SetTable.grown (es.size+1)=20:=by rw [h4]; rfl
  rw [hw]
  have h32:SetTable.sizeAbove 20=32:=by decide
  have hno:¬ (SetTable.sizeAbove 20 > sizeLine):=by rw [h32,sizeLine_eq]; omega
  rw [if_neg hno]
  obtain ⟨t2,order,e2,g2,z2,p2,f2⟩:=yZ (mask:=31) (.inr rfl) es1 (by omega) t1.finger (t1.movedTo 31) t1.led t1.plain
  have hrel:t1.relaid (es1.map (·.1)) 20=some (t2,order):=by unfold SetTable.relaid; rw [h32]; exact e2
  have hplain2:t2.plain=true:=by rw [f2]; exact hplain
  have hled2:t2.led=!byT w:=by rw [f2]; exact hled
  have hmask2:t2.mask=31:=by rw [f2]
  rw [show (es1.map fun x=>x.1)=es1.map (·.1) from rfl,hrel]
  obtain ⟨L2,x2,y2⟩:=Els.perm p2 x1'
  generalize hes2:order.filterMap (es1[·]?)=es2 at g2 z2 p2 x2
  have ho2:=oO ho1 rfl es2 t2
  have sb2:=Heap.SameBut.update (s.heap.update a (Obj.putSet es1 t1)) a (Obj.putSet es2 t2)
  refine wpAny_bind (wpAny_of_eq (a:=(es2,t2)) ?_ ?_)
  ·show (ite _ _ _:Sem (Array (Int × Value) × SetTable))=_
   refine (if_neg ?_).trans ?_
   ·rw [hes2,z2]; simp
   ·rw [hes2]
  ·refine wpAny_storeSet_of ho1 rfl ?_ (hline _ (by show es2.size<=100; omega))
   refine wpAny_pure (q _ _ L2 (sb1.trans sb2) ⟨_,es2,_,t2,ho2,hex,rfl,g2,⟨hplain2,hled2⟩,by omega,x2.mono fun ks b z=>nC ho1 rfl sb2 z,y2.nodup_iff.mpr hnd1,fun e he=>hlim1 e (p2.mem_iff.mp he)⟩ (fun x=>by rw [y2.mem_iff,hm1]) (by rw [y2.length_eq]; omega))
 ·have hfull':t1.tooFull=false:=by simpa using hfull
  rw [hfull']
  simp only [Bool.and_false,Bool.false_eq_true,if_false]
  have hnf:¬ (t1.fill * 5 ≥ t1.mask * 3):=fun z=>hfull (decide_eq_true z)
  rw [hfill] at hnf
  exact wpAny_pure (q _ _ L1 sb1 ⟨_,es1,ep+1,t1,ho1,hex,rfl,g1,⟨hplain,hled⟩,by omega,x1',hnd1,hlim1⟩ hm1 (by omega))
theorem bM.keep {lim:Addr->Prop} {a:Addr} {h':Heap} {L:List (List Int)} (x:bM prog w lim h a L) (k:∀ b o,lim b\/b=a->h.get? b=some o->h'.get? b=some o):bM prog w lim h' a L:=by
 obtain ⟨o,es,ep,t,ho,hex,hd,g,hpl,hsz,hels,hnd,hlim⟩:=x
 refine ⟨o,es,ep,t,k a o (.inr rfl) ho,hex,hd,g,hpl,hsz,?_,hnd,hlim⟩
 have all:∀ (l:List (Int × Value)) (L:List (List Int)),(∀ e∈l,∀ b,e.2=.ref b->lim b)->Els prog w h l L->Els prog w h' l L:=by
  intro l L hl q
  induction q with
  | nil=>exact .nil
  | @cons e ks l L q r ih =>
   obtain ⟨q1,b,q2,ob,items,n,x1,x2⟩:=q
   exact .cons ⟨q1,b,q2,ob,items,n,k b ob (.inl (hl e List.mem_cons_self b q2)) x1,x2⟩ (ih fun e' he'=>hl e' (List.mem_cons_of_mem _ he'))
 exact all _ _ hlim hels
theorem B_ (finger moves:Nat) (led:Bool):Good (.fresh finger moves led) (#[]:Array (Int × Value)) :=
 ⟨rfl,rfl,fun i _ v _ e=>by simp [SetTable.fresh] at e,fun i v e=>by simp [SetTable.fresh] at e,.inl rfl,fun i v _ e=>by simp [SetTable.fresh] at e⟩
theorem bM.new {lim:Addr->Prop} {a:Addr} (ho:h.get? a=some { cls:=.type "set",dict:=none,data:=.set #[] 0 (.fresh 0 0 (!byT w)) }):bM prog w lim h a [] :=
 ⟨_,#[],0,_,ho,⟨rfl,rfl,rfl⟩,rfl,B_ 0 0 _,⟨rfl,rfl⟩,(show 0 * 5 < 7 * 3 by decide),.nil,List.nodup_nil,fun e he=>by simp at he⟩
end
end TB

namespace TB
open PySem PySem.SetTable PySem.Spec
section
variable {prog:Program} {w:World} {A:Around} {R:Result->Shared->Prop} {I:Addr} {fp wr:List Addr} {G:Array GenState->Array GenState->Prop} {n:Nat} {P:Nat->Value->Prop} {St:Nat->Shared->Prop}
theorem d_ {h h':Heap} {ks:List Int} {c:Addr} (x:TK prog w h ks c) (k:∀ o,h.get? c=some o->h'.get? c=some o):TK prog w h' ks c:=by
 obtain ⟨o,items,m,x1,x2⟩:=x
 exact ⟨o,items,m,k o x1,x2⟩
theorem yJ (hu:A.in1.units < cLine) (W:WalksS prog w A.in1 I fp wr G n P St) (S:Addr) (lim:Addr->Prop) (hS1:S ∉ fp) (hwr:∀ b∈wr,¬ lim b) (hSl:¬ lim S) (val:Nat->List Int) (hn:n<=18) (hval:∀ i v,P i v->∃ c,v=.ref c/\lim c) :
  ∀ (k i:Nat) (z:Shared) (L:List (List Int)),n - i=k->i<=n->St i z->bM prog w lim z.heap S L->(∀ x,x∈L ↔ ∃ j,j < i/\val j=x)->L.length<=i->(∀ i c,P i (.ref c)->TK prog w z.heap (val i) c) ->
   (∀ z' L',Moved (S::wr) G z z'->bM prog w lim z'.heap S L'->(∀ x,x∈L' ↔ ∃ j,j < n/\val j=x)->(∀ i c,P i (.ref c)->TK prog w z'.heap (val i) c)->R (.ok (.ret .none)) z') ->
   codeAny (model prog w) A (.builtin "set.update.loop" ⟨[.ref S,.ref I],[]⟩) R z:=by
 have hS2:S ∉ wr:=fun q=>hS1 (W.sub _ q)
 have more:∀ b∈wr,b∈S::wr:=fun b q=>List.mem_cons_of_mem _ q
 have old:∀ {c:Addr},lim c->c ∉ wr:=fun hc q=>hwr _ q hc
 intro k
 induction k with
 | zero =>
  intro i z L hk hi hst hT hL hlen hP hR
  obtain rfl:i=n:=by omega
  refine codeAny_builtin PyProof.Rows.F.entry_set_update_loop ?_
  rw [Around.under_plainId PyProof.Rows.F.plain_set_update_loop _]
  refine wpAny_bind (W.done z _ _ hst fun z' hm=>?_)
  refine wpAny_pure (hR z' L (hm.mono more) (hT.keep fun b o hb e=>hm.heap b o ?_ e) hL fun j c hp=>d_ (hP j c hp) fun o e=>hm.heap c o ?_ e)
  ·rcases hb with hb|rfl
   ·exact old hb
   ·exact hS2
  ·obtain ⟨c',q1,q2⟩:=hval j _ hp; cases q1; exact old q2
 | succ k ih =>
  intro i z L hk hi hst hT hL hlen hP hR
  have hlt:i < n:=by omega
  refine codeAny_builtin PyProof.Rows.F.entry_set_update_loop ?_
  rw [Around.under_plainId PyProof.Rows.F.plain_set_update_loop _]
  refine wpAny_bind (W.item i z _ _ hlt hst fun v z' hv hst' hm=>?_)
  obtain ⟨c,rfl,hc⟩:=hval i v hv
  have hP':∀ i c,P i (.ref c)->TK prog w z'.heap (val i) c:=fun j d hp=>d_ (hP j d hp) fun o e=>hm.heap d o (by obtain ⟨c',q1,q2⟩:=hval j _ hp; cases q1; exact old q2) e
  have hT':bM prog w lim z'.heap S L:=hT.keep fun b o hb e=>hm.heap b o (by rcases hb with hb|rfl; exact old hb; exact hS2) e
  have hci:=hP' i c hv
  refine wpAny_bind (wpAny_holding ?_)
  unfold setAdd
  refine wpAny_holding (wpAny_bind (wpAny_pyHash_tuple hu hci ?_))
  refine Ez (s:={ z' with toks:=z'.toks+((val i).length+1) }) hu hT' (by omega) hci hc fun r h' L' sb hT2 hL2 hlen2=>?_
  have kp:∀ b o,b≠S->z'.heap.get? b=some o->h'.get? b=some o:=fun b o hb e=>(sb.2 b hb).trans e
  refine wpAny_pure ⟨plainId_quiet PyProof.Rows.F.plain_set_update_loop _,ih (i+1) _ L' (by omega) hlt (W.frame _ z' _ _ hst' (Nat.le_add_right _ _) fun b hb o e=>kp b o (fun q=>hS1 (q ▸ hb)) e) hT2 (fun x=>?_) (by omega) (fun j d hp=>d_ (hP' j d hp) fun o e=>kp d o ?_ e) fun z2 L2 hm2 a1 a2 a3=>?_⟩
  ·rw [hL2,hL]
   constructor
   ·rintro (⟨j,h1,h2⟩|rfl)
    ·exact ⟨j,by omega,h2⟩
    ·exact ⟨i,by omega,rfl⟩
   ·rintro ⟨j,h1,rfl⟩
    by_cases q:j=i
    ·subst q; exact .inr rfl
    ·exact .inl ⟨j,by omega,rfl⟩
  ·obtain ⟨c',q1,q2⟩:=hval j _ hp; cases q1; exact fun q=>hSl (q ▸ q2)
  ·exact hR z2 L2 (Moved.trans W.gtrans ((hm.mono more).then_heap (Nat.le_add_right _ _) fun b o hb e=>kp b o (fun q=>hb (by rw [q]; exact List.mem_cons_self)) e) hm2) a1 a2 a3
end
end TB

namespace TB
open PySem PySem.SetTable
theorem fM:Slot "set_iterator" "__next__" "set_iterator.__next__" :=
 .of (owner:="set_iterator") (n:="__next__") (by rw [typeLookup_type,builtinLookup_eq_fast]; kernel_rfl) (by decide +kernel) (by decide +kernel) (by decide +kernel) (.inl (by decide +kernel)) (by rw [isSubtype_type]; kernel_rfl)
theorem qm:Slot "set_iterator" "__iter__" "set_iterator.__iter__" :=
 .of (owner:="set_iterator") (n:="__iter__") (by rw [typeLookup_type,builtinLookup_eq_fast]; kernel_rfl) (by decide +kernel) (by decide +kernel) (by decide +kernel) (.inl (by decide +kernel)) (by rw [isSubtype_type]; kernel_rfl)
theorem rT:entryFor table "set_iterator.__next__" = some Builtin.«set_iterator.__next__»:=entryFor_of_fast (by kernel_rfl)
theorem Dj:entryFor table "set_iterator.__iter__" = some Builtin.«dict_keyiterator.__iter__»:=entryFor_alias (id':="dict_keyiterator.__iter__") (by kernel_rfl) rfl (by decide +kernel) (by kernel_rfl)
theorem oH (a:Value):argsOk "set_iterator.__next__" ⟨[a],[]⟩:=by unfold argsOk; kernel_rfl
theorem DU (a:Value):argsOk "set_iterator.__iter__" ⟨[a],[]⟩:=by unfold argsOk; kernel_rfl
theorem DR:entryFor table "set.__iter__" = some Builtin.«frozenset.__iter__»:=entryFor_alias (id':="frozenset.__iter__") (by kernel_rfl) rfl (by decide +kernel) (by kernel_rfl)
end TB

namespace TB
open PySem PySem.SetTable PySem.Spec
section
variable {prog:Program} {w:World} {A:Around} {E:Value->Shared->Prop} {s:Shared}
noncomputable def AW (prog:Program) (w:World) (h:Heap) (items:Array Value) (val:Nat->List Int):Prop:=∀ (i:Nat) v,items[i]?=some v->∃ c,v=.ref c/\TK prog w h (val i) c
noncomputable def eg (led:Bool):Obj:={ cls:=.type "set",dict:=none,data:=.set #[] 0 (.fresh 0 0 led) }
noncomputable def Made (prog:Program) (w:World) (h:Heap) (items:Array Value) (val:Nat->List Int) (h':Heap):Prop:=(∃ L,bM prog w (fun c=>c < h.objs.size/\Value.ref c∈items.toList) h' h.objs.size L/\∀ x,x∈L ↔ ∃ j,j < items.size/\val j=x)/\∀ b o,b < h.objs.size->h.get? b=some o->h'.get? b=some o
set_option maxRecDepth 100000 in
set_option maxHeartbeats 3200000 in
theorem ua (a:Value) {Q:Value->Shared->Prop} (q:Q (.ref s.heap.objs.size) { s with heap:=s.heap.push (eg (!byT w)) }) :
  codeAny (model prog w) A (.call (.builtin "set.__new__") ⟨[.type "set",a],[]⟩) (wants Q E) s:=by
 refine codeAny_of_tree (show wpAny _ A.in1 (do checkBuiltinCall "set.__new__" ⟨[.type "set",a],[]⟩; again (.builtin "set.__new__" ⟨[.type "set",a],[]⟩)) _ _ s from ?_)
 refine wpAny_bind (wpAny_of_eq (F.newCall_set_1 a) (wpAny_pure ⟨plainId_quiet F.plain_set_new _,codeAny_builtin F.entry_set_new ?_⟩)); rw [Around.under_plainId F.plain_set_new _]
 unfold Builtin.«set.__new__» Builtin.Frozenset.newClass; have hsub:=sub_set_self
 obtain ⟨hp,g,d,tk,os⟩:=s
 dsimp only; wp_walk
 refine wpAny_askSetting (wpAny_pure ?_)
 dsimp only; simp only [newObj]
 refine wpAny_bind (wpAny_alloc (wpAny_pure (wpAny_pure ?_)))
 exact q
set_option maxRecDepth 100000 in
set_option maxHeartbeats 3200000 in
theorem A7 {l:Addr} {items:Array Value} {val:Nat->List Int} {Q:Value->Shared->Prop} (hu:A.units+4 < cLine) (hh:A.handled=none) (hl:s.heap.IsList l items) (ht:AW prog w s.heap items val) (hb:items.size<=18)
  (q:∀ h' tk,Made prog w s.heap items val h'->Q (.ref s.heap.objs.size) { s with heap:=h',toks:=tk }):wpAny (model prog w) A (call (.type "set") [.ref l]) Q E s:=by
 obtain ⟨ka,kb,kc⟩:=F.called_set.mro; have kd:=F.called_set.made; have ke:=F.called_set.sub
 refine wpAny_call (codeAny_of_tree (show wpAny _ _ (callAny (.type "set") _) _ _ _ from ?_))
 refine wpAny_pure ⟨Code.quiet_builtin _ (by decide +kernel),codeAny_builtin F.entry_type_call ?_⟩; rw [Around.under_plain (weight_type_call_type "set" [.ref l] []) rfl]
 have kf:=F.called_set.notType; have kg:=F.called_set.canCreate; have ki:=F.typeCall_set_1 (.ref l)
 repeat (any_goals (first|wp_step|assumption))
 refine codeAny_mono (ua (.ref l) (E:=E) (Q:=fun ob z=>∃ led:Bool,led=!byT w/\ob=.ref s.heap.objs.size/\z={ s with heap:=s.heap.push (eg led) }) ⟨_,rfl,rfl,rfl⟩) fun r z hr=>?_
 cases r with
 | error e=>exact hr
 | ok fl =>
  cases fl with
  | ret ob =>
   obtain ⟨led,hled,rfl,rfl⟩:=hr
   have gS:(s.heap.push (eg led)).get? s.heap.objs.size=some (eg led):=Heap.get?_push_size _ rfl
   have hT:Shared.TypeIs { s with heap:=s.heap.push (eg led) } (.ref s.heap.objs.size) "set":=⟨_,gS,rfl⟩
   have kj:=F.called_set.init.lookup; have kk:=F.called_set.init.bind (.ref s.heap.objs.size)
   repeat (any_goals (first|wp_step|assumption))
   refine codeAny_mono (codeAny_call_builtin (R:=wants (fun r z=>r=.none/\∃ h' tk,z={ s with heap:=h',toks:=tk }/\Made prog w s.heap items val h') E) F.called_set.init.plain F.entry_set_init (check_set_init_1 hT ?_)) fun r2 z2 hr2=>?_
   ·obtain ⟨⟨oc,od,ot,os⟩,hol,hcl,nl,hdl⟩:=hl
    have hcl:oc=.type "list":=hcl; have hdl:ot=.seq items nl:=hdl
    subst hcl; subst hdl
    have hlt:l < s.heap.objs.size:=Heap.lt_size hol
    have gl:(s.heap.push (eg led)).get? l=some { cls:=.type "list",dict:=od,data:=.seq items nl,slots:=os }:=Heap.get?_push_of_some _ hol
    have kl:=F.sub_list_set; have km:=F.sub_list_frozenset; have kn:(Value.type "list"==Value.type "dict")=false:=by decide
    have hl1:(s.heap.push (eg led)).IsList l items:=⟨_,gl,rfl,nl,rfl⟩
    unfold Builtin.«set.__init__» noKeywords Builtin.Frozenset.updateFrom
    generalize hpi:pyIter=pit
    unfold eg at *
    wp_walk
    subst hpi
    refine wpAny_pyIter_list hl1 (wpAny_bind (wpAny_runValue ?_))
    have sz:((s.heap.push ({ cls:=.type "set",dict:=none,data:=.set #[] 0 (.fresh 0 0 led) }:Obj)).objs.size)=s.heap.objs.size+1:=Heap.size_push _ _
    have h3:A.in1.in1.in1.handled=none:=by simpa using hh
    have hI:l≠(s.heap.push ({ cls:=.type "set",dict:=none,data:=.set #[] 0 (.fresh 0 0 led) }:Obj)).objs.size:=by rw [sz]; exact Nat.ne_of_lt (Nat.lt_succ_of_lt hlt)
    refine yJ (by show A.units+1+1+1 < cLine; omega) ((Walks.list h3 _ l hI items).toS) s.heap.objs.size (fun c=>c < s.heap.objs.size/\Value.ref c∈items.toList) ?hS1 ?hwr (fun z=>absurd z.1 (Nat.lt_irrefl _)) val hb ?hval (items.size - 0) 0 _ [] rfl (Nat.zero_le _) ⟨⟨_,Heap.get?_push_size _ rfl,rfl,rfl⟩,hl1.push _⟩ ?hT ?hL (Nat.le_refl _) ?hP ?hR
    case hS1=>rw [sz]; intro z; rcases List.mem_cons.mp z with z|z; exact absurd z (Nat.ne_of_lt (Nat.lt_succ_self _)); exact absurd (List.mem_singleton.mp z) (Nat.ne_of_gt hlt)
    case hwr=>intro b z q; rw [List.mem_singleton.mp z,sz] at q; exact absurd q.1 (Nat.not_lt_of_le (Nat.le_succ _))
    case hval =>
     intro i v hv
     obtain ⟨c,e,o,items',m,h1,h2⟩:=ht i v hv
     exact ⟨c,e,Heap.lt_size h1,List.mem_of_getElem? (by rw [<- e,Array.getElem?_toList]; exact hv)⟩
    case hT=>rw [hled] at gS ⊢; exact bM.new (Heap.get?_push_of_some _ gS)
    case hL=>intro x; constructor; (intro z; cases z); (rintro ⟨j,z,_⟩; omega)
    case hP =>
     intro i c hp
     obtain ⟨c',e,x⟩:=ht i _ hp
     cases e
     exact d_ x fun o e=>Heap.get?_push_of_some _ (Heap.get?_push_of_some _ e)
    case hR =>
     rintro ⟨h',g',d',tk',os'⟩ L' hm h1 h2 _
     obtain rfl:g'=s.gens:=hm.gens
     obtain rfl:d'=s.drawn:=hm.drawn
     obtain rfl:os'=s.os:=hm.os
     refine wpAny_pure (wpAny_pure ⟨rfl,h',tk',rfl,⟨L',h1,h2⟩,fun b o hb' e=>?_⟩)
     refine hm.heap b o (fun z=>?_) (Heap.get?_push_of_some _ (Heap.get?_push_of_some _ e))
     rcases List.mem_cons.mp z with z|z
     ·exact absurd z (Nat.ne_of_lt hb')
     ·rw [List.mem_singleton,sz] at z; exact absurd z (Nat.ne_of_lt (Nat.lt_succ_of_lt hb'))
   ·cases r2 with
    | error e=>exact hr2
    | ok fl2 =>
     cases fl2 with
     | ret r =>
      obtain ⟨rfl,h',tk,rfl,hm⟩:=hr2
      repeat (any_goals (first|wp_step|assumption))
      exact q _ _ hm
     | _=>exact hr2.elim
  | _=>exact hr.elim
end
end TB

namespace TB
open PySem PySem.SetTable
theorem Ew {α:Type} {l:List α} {i:Nat} (h:i < l.length):(l[i]::l.eraseIdx i).Perm l:=by
 rw [List.eraseIdx_eq_take_drop_succ]
 refine List.perm_middle.symm.trans ?_
 rw [<- List.drop_eq_getElem_cons h,List.take_append_drop]
theorem mZ {α:Type} (next:Nat->Nat):∀ (n k:Nat) (left:List α) (out:Array α),left.length=n->(pickOrder.go next n k left out).toList.Perm (out.toList++left)
 | 0,k,left,out,h=>by
  obtain rfl:=List.length_eq_zero_iff.mp h
  unfold pickOrder.go
  rw [List.append_nil]
 | n+1,k,left,out,h=>by
  have hi:next k % left.length < left.length:=Nat.mod_lt _ (by omega)
  unfold pickOrder.go
  rw [List.getElem?_eq_getElem hi]
  refine (mZ next n (k+1) _ _ (by rw [List.length_eraseIdx_of_lt hi]; omega)).trans ?_
  rw [Array.toList_push,List.append_assoc]
  exact (Ew hi).append_left _
theorem vP {α:Type} (next:Nat->Nat) (xs:Array α):(pickOrder next xs).toList.Perm xs.toList:=mZ next xs.size 0 xs.toList #[] (Array.length_toList)
noncomputable def bQ (w:World) (S:Addr) (ep:Nat) (es:Array (Int × Value)):Array (Int × Value):=if byT w=true then pickOrder (w.params.setOrder S ep) es else es
theorem jX (w:World) (S:Addr) (ep:Nat) (es:Array (Int × Value)):(bQ w S ep es).toList.Perm es.toList:=by
 unfold bQ
 split
 ·exact vP _ _
 ·exact .refl _
theorem g8 (w:World) (S:Addr) (ep:Nat) (es:Array (Int × Value)):(bQ w S ep es).size=es.size:=by
 rw [<- Array.length_toList,(jX w S ep es).length_eq,Array.length_toList]
noncomputable def slotAt (w:World) (t:SetTable):Nat->Nat
 | 0=>0
 | i+1=>if byT w=true then 0 else t.place.getD i 0+1
noncomputable def jT (w:World) (S:Addr) (es:Array (Int × Value)) (ep:Nat) (t:SetTable) (i:Nat) (d:Option Addr) (sl:Array (Option Value)):Obj :=
 { cls:=.type "set_iterator",dict:=d,data:=.fields #[rawInt (slotAt w t i),rawInt i,.ref S,rawInt es.size,rawInt ep],slots:=sl }
section
variable {prog:Program} {w:World} {A:Around} {E:Value->Shared->Prop} {s:Shared} {I S:Addr} {o:Obj} {es:Array (Int × Value)} {ep:Nat} {t:SetTable}
structure Fix (w:World) (o:Obj) (es:Array (Int × Value)) (ep:Nat) (t:SetTable):Prop where
 data:o.data=.set es ep t
 good:Good t es
 plain:t.plain=true
 led:t.led=!byT w
 fit:es.size<=t.mask
theorem Bs (g:Good t es) {i:Nat} (hi:i<=es.size) (hb:byT w=false):below t.place (slotAt w t i)=i:=by
 have hsp:=jL g.srt (slotAt w t i)
 cases i with
 | zero =>
  obtain ⟨h1,h2,h3⟩:=hsp
  rcases Nat.eq_zero_or_pos (below t.place (slotAt w t 0)) with z|z
  ·exact z
  ·have hlt:0 < t.place.size:=by omega
   exact absurd (h2 0 _ (Array.getElem?_eq_getElem hlt) z) (Nat.not_lt_zero _)
 | succ i =>
  have hlt:i < t.place.size:=by rw [g.len]; omega
  have hg:t.place[i]?=some t.place[i]:=Array.getElem?_eq_getElem hlt
  have e:slotAt w t (i+1)=t.place[i]+1:=by
   show (if byT w=true then 0 else t.place.getD i 0+1)=_
   rw [hb,if_neg Bool.false_ne_true,Array.getD_eq_getD_getElem?,hg]; rfl
  rw [e] at hsp ⊢
  obtain ⟨h1,h2,h3⟩:=hsp
  rcases Nat.lt_trichotomy (below t.place (t.place[i]+1)) (i+1) with z|z|z
  ·have:=h3 i _ hg (by omega); omega
  ·exact z
  ·have hlt2:i+1 < t.place.size:=by omega
   have hg2:t.place[i+1]?=some t.place[i+1]:=Array.getElem?_eq_getElem hlt2
   have a:=h2 (i+1) _ hg2 z
   have b:=g.srt i (i+1) _ _ hg hg2 (Nat.lt_succ_self i)
   omega
theorem q_ {i:Nat} {Q:Option (Value × Nat)->Shared->Prop} (ho:s.heap.get? S=some o) (X:Fix w o es ep t) (hi:i<=es.size)
  (q:Q (((bQ w S ep es)[i]?).map fun e=>(e.2,slotAt w t (i+1))) s):wpAny (model prog w) A (setNext S (slotAt w t i) i ep) Q E s:=by
 have hf:=fG X.good X.fit
 unfold setNext setsByText
 refine wpAny_bind (wpAny_setState_of ho X.data hf (wpAny_bind (wpAny_bind (wpAny_askSetting (wpAny_pure ?_)))))
 dsimp only
 have hbt:(model prog w).w.params.followText "set-order" = byT w:=rfl
 cases hb:byT w with
 | true =>
  rw [hbt,hb]
  simp only [if_true,bne_self_eq_false,Bool.false_eq_true,if_false]
  unfold setWalk setsByText
  refine wpAny_bind (wpAny_bind (wpAny_setState_of ho X.data hf (wpAny_bind (wpAny_bind (wpAny_askSetting (wpAny_pure ?_))))))
  dsimp only
  rw [hbt,hb]
  simp only [if_true]
  refine wpAny_bind (wpAny_askSetting (wpAny_pure (wpAny_pure ?_)))
  have e:bQ w S ep es=pickOrder (w.params.setOrder S ep) es:=by unfold bQ; rw [hb]; rfl
  have e2:slotAt w t i=slotAt w t (i+1):=by cases i <;> (unfold slotAt; simp [hb])
  rw [e] at q
  rw [e2]
  exact q
 | false =>
  rw [hbt,hb]
  simp only [Bool.false_eq_true,if_false]
  rw [if_neg]
  rotate_left
  ·show ¬ ((!t.plain&&decide (es.size > 1))=true)
   rw [X.plain]; simp
  refine wpAny_bind (wpAny_of_eq (a:=()) (show (if (!t.led&&!es.isEmpty)=true then _ else pure ())=pure () by rw [X.led,hb]; rfl) (wpAny_pure ?_))
  rw [Bs X.good hi hb]
  have e:bQ w S ep es=es:=by unfold bQ; rw [hb]; rfl
  rw [e] at q
  by_cases hlt:i < es.size
  ·have he:es[i]?=some es[i]:=Array.getElem?_eq_getElem hlt
   have hl2:i < t.place.size:=by rw [X.good.len]; exact hlt
   have hp:t.place[i]?=some t.place[i]:=Array.getElem?_eq_getElem hl2
   have e3:slotAt w t (i+1)=t.place[i]+1:=by
    show (if byT w=true then 0 else t.place.getD i 0+1)=_
    rw [hb,if_neg Bool.false_ne_true,Array.getD_eq_getD_getElem?,hp]; rfl
   rw [he,e3] at q
   rw [he,hp]
   exact q
  ·have he:es[i]?=none:=Array.getElem?_eq_none (by omega)
   rw [he] at q
   rw [he]
   exact q
end
end TB

namespace TB
open PySem PySem.SetTable
section
variable {prog:Program} {w:World} {A:Around} {E:Value->Shared->Prop} {s:Shared} {I S:Addr} {o:Obj} {es:Array (Int × Value)} {ep:Nat} {t:SetTable}
noncomputable def AtI (w:World) (S:Addr) (es:Array (Int × Value)) (ep:Nat) (t:SetTable) (h:Heap) (I:Addr) (i:Nat):Prop:=∃ d sl,h.get? I=some (jT w S es ep t i d sl)
theorem AtI.type {i:Nat} (x:AtI w S es ep t s.heap I i):s.TypeIs (.ref I) "set_iterator":=let ⟨_,_,e⟩:=x; ⟨_,e,rfl⟩
theorem vM {i:Nat} {Q:Option Value->Shared->Prop} (x:AtI w S es ep t s.heap I i) (ho:s.heap.get? S=some o) (X:Fix w o es ep t) (hIS:S≠I) {e:Int × Value} (he:(bQ w S ep es)[i]?=some e)
  (q:∀ h',AtI w S es ep t h' I (i+1)->Heap.SameBut I s.heap h'->Q (some e.2) { s with heap:=h' }):wpAny (model prog w) A (pyNext (.ref I)) Q E s:=by
 have hT:=x.type
 obtain ⟨d,sl,hi⟩:=x
 have hlt:i < es.size:=by rw [<- g8 w S ep es]; exact (Array.getElem?_eq_some_iff.mp he).1
 unfold pyNext
 refine wpAny_bind (wpAny_attempt (wpAny_callSpecial?_slot (name:=Str.ofString "__next__") hT fM (wpAny_call_entry fM hT rT ?_ (oH _))))
 unfold Builtin.«set_iterator.__next__»
 refine wpAny_bind (m:=slotArgs "__next__" 0 _) (wpAny_of_eq (a:=(.ref I,[])) rfl ?_)
 refine wpAny_bind (wpAny_fieldsOf hi rfl ?_)
 dsimp only
 refine wpAny_bind (wpAny_setEntries_of ho X.data (fG X.good X.fit) ?_)
 rw [show (((es.size:Int)) != (es.size:Int))=false from bne_self_eq_false _]
 simp only [Bool.false_eq_true,if_false]
 rw [show rawInt (slotAt w t i)=Value.int (slotAt w t i) 0 from rfl]
 dsimp only
 rw [Int.toNat_natCast,Int.toNat_natCast,Int.toNat_natCast]
 refine wpAny_bind (q_ ho X (Nat.le_of_lt hlt) ?_)
 rw [he]
 dsimp only [Option.map]
 refine wpAny_bind (wpAny_setField hi rfl (by simp) ?_)
 have h1:=Heap.get?_update_self (h:=s.heap) (Obj.mapFields (·.setIfInBounds 0 (rawInt (slotAt w t (i+1))))) hi rfl
 refine wpAny_bind (wpAny_setField h1 rfl (by simp) (wpAny_pure ⟨e.2,rfl,wpAny_pure (q _ ⟨d,sl,?_⟩ ?_)⟩))
 ·rw [Heap.get?_update_self _ h1 rfl]
  rfl
 ·exact (Heap.SameBut.update s.heap I _).trans (Heap.SameBut.update _ I _)
theorem EX {i:Nat} {Q:Option Value->Shared->Prop} (hh:A.handled=none) (x:AtI w S es ep t s.heap I i) (ho:s.heap.get? S=some o) (X:Fix w o es ep t) (hi0:i=es.size)
  (q:∀ h',Heap.ExtBut I s.heap h'->Q none { s with heap:=h' }):wpAny (model prog w) A (pyNext (.ref I)) Q E s:=by
 have hT:=x.type
 obtain ⟨d,sl,hi⟩:=x
 have he:(bQ w S ep es)[i]?=none:=Array.getElem?_eq_none (by rw [g8]; omega)
 unfold pyNext
 refine wpAny_bind (wpAny_attempt (wpAny_callSpecial?_slot (name:=Str.ofString "__next__") hT fM (wpAny_call_entry fM hT rT ?_ (oH _))))
 unfold Builtin.«set_iterator.__next__»
 refine wpAny_bind (m:=slotArgs "__next__" 0 _) (wpAny_of_eq (a:=(.ref I,[])) rfl ?_)
 refine wpAny_bind (wpAny_fieldsOf hi rfl ?_)
 dsimp only
 refine wpAny_bind (wpAny_setEntries_of ho X.data (fG X.good X.fit) ?_)
 rw [show (((es.size:Int)) != (es.size:Int))=false from bne_self_eq_false _]
 simp only [Bool.false_eq_true,if_false]
 rw [show rawInt (slotAt w t i)=Value.int (slotAt w t i) 0 from rfl]
 dsimp only
 rw [Int.toNat_natCast,Int.toNat_natCast,Int.toNat_natCast]
 refine wpAny_bind (q_ ho X (Nat.le_of_eq hi0) ?_)
 rw [he]
 dsimp only [Option.map]
 refine wpAny_bind (wpAny_setField hi rfl (by simp) (wpAny_bind ?_)); simp only [newExc,newTuple]
 refine wpAny_bind (wpAny_newObj_type (wpAny_bind (m:=firstArgMember _ _) (wpAny_of_eq (a:=Value.none) (by first|rfl|(simp only [firstArgMember]; rfl)) (wpAny_newObj_type ?_ (by size_fits)))) (by size_fits)); simp only [raiseNew]
 refine wpAny_bind (wpAny_handled ?_); rw [show A.in1.handled=none from hh]
 refine wpAny_bind (wpAny_pure (wpAny_throw ?_))
 refine wpAny_bind (wpAny_isInstance (T:="StopIteration") (b:=true) ⟨_,Heap.get?_push_size _ rfl,rfl⟩ isSubtype_stop (wpAny_pure (q _ ?_)))
 exact ((Heap.SameBut.update s.heap I _).extBut.push _).push _
theorem Dz {i:Nat} {Q:Value->Shared->Prop} (x:AtI w S es ep t s.heap I i) (q:Q (.ref I) s):wpAny (model prog w) A (pyIter (.ref I)) Q E s :=
 wpAny_pyIter_slot x.type qm (wpAny_call_entry qm x.type Dj (show wpAny _ _ (ret (.ref I)) _ _ s from wpAny_pure ⟨_,rfl,"set_iterator",_,x.type,fM.lookup,q⟩) (DU _))
theorem Bu (hh:A.handled=none) (X:Fix w o es ep t) (hIS:S≠I) :
  Walks prog w A I [I,S] [I] es.size (fun i v=>∃ e,(bQ w S ep es)[i]?=some e/\v=e.2) (fun i h=>AtI w S es ep t h I i/\h.get? S=some o) where
 sub:=fun b hb=>by rw [List.mem_singleton.mp hb]; exact List.mem_cons_self
 frame:=fun i h h' ⟨⟨d,sl,a⟩,b⟩ k=>⟨⟨d,sl,k I List.mem_cons_self _ a⟩,k S (List.mem_cons_of_mem _ List.mem_cons_self) _ b⟩
 item:=fun i s Q E hi ⟨a,b⟩ k=>by
  have hw:i < (bQ w S ep es).size:=by rw [g8]; exact hi
  exact vM a b X hIS (Array.getElem?_eq_getElem hw) fun h' x sb=>k _ h' s.toks ⟨_,Array.getElem?_eq_getElem hw,rfl⟩ ⟨x,(sb.2 S hIS).trans b⟩ fun c oc hc ec=>(sb.2 c fun z=>hc (by rw [z]; exact List.mem_cons_self)).trans ec
 done:=fun s Q E ⟨a,b⟩ k=>EX hh a b X rfl fun h' eb=>k h' s.toks fun c oc hc ec=>eb c oc (fun z=>hc (by rw [z]; exact List.mem_cons_self)) ec
 self:=fun i s Q E ⟨a,b⟩ k=>Dz a k
theorem AL {Q:Value->Shared->Prop} (ho:s.heap.get? S=some o) (hex:o.ExactSet) (X:Fix w o es ep t)
  (q:∀ h',h'=s.heap.push (jT w S es ep t 0 none #[])->Q (.ref s.heap.objs.size) { s with heap:=h' }):wpAny (model prog w) A (pyIter (.ref S)) Q E s:=by
 have hT:s.TypeIs (.ref S) "set":=⟨o,ho,hex.1⟩
 have hf:=fG X.good X.fit
 refine wpAny_pyIter_slot hT F.slot_set_iter (wpAny_call_entry F.slot_set_iter hT DR ?_ (F.args_set_iter_1 _))
 unfold Builtin.«frozenset.__iter__»
 refine wpAny_bind (m:=Builtin.Frozenset.slot0 "__iter__" _) (wpAny_of_eq (a:=S) rfl ?_)
 unfold Builtin.Frozenset.sizeOf
 refine wpAny_bind (wpAny_bind (wpAny_setEntries_of ho X.data hf (wpAny_pure ?_)))
 unfold setDrawn setsByText
 refine wpAny_bind (wpAny_bind (wpAny_setState_of ho X.data hf (wpAny_bind (wpAny_bind (wpAny_askSetting (wpAny_pure (wpAny_pure ?_)))))))
 dsimp only
 have hdr:∀ b:Bool,(b&&(!t.plain&&decide (es.size > 1)))=false:=fun b=>by rw [X.plain]; cases b <;> rfl
 rw [if_neg]
 rotate_left
 ·show ¬ ((!_&&(!t.plain&&decide (es.size > 1)))=true)
  rw [hdr]; exact Bool.false_ne_true
 refine wpAny_bind (wpAny_pure ?_)
 refine wpAny_bind (wpAny_setEpoch_of ho X.data hf ?_)
 refine wpAny_bind (wpAny_newObj_type (wpAny_pure ⟨_,rfl,"set_iterator",_,⟨_,Heap.get?_push_size _ rfl,rfl⟩,fM.lookup,?_⟩))
 exact q _ rfl
end
end TB

namespace TB
open PySem PySem.SetTable
theorem uG:splitId "set.__len__" = some ("set","__len__"):=by decide +kernel
section
variable {prog:Program} {w:World} {A:Around} {E:Value->Shared->Prop} {s:Shared} {S:Addr} {o:Obj} {es:Array (Int × Value)} {ep:Nat} {t:SetTable}
theorem zb {Q:Bool->Shared->Prop} (hT:s.TypeIs (.ref S) "set") (q:Q false s):wpAny (model prog w) A (Builtin.List.listLengthHint (.ref S)) Q E s:=by
 unfold Builtin.List.listLengthHint
 refine wpAny_bind (wpAny_specialOf hT F.slot_set_len.lookup ?_)
 dsimp only
 rw [uG]
 dsimp only
 refine wpAny_bind (wpAny_isInstance hT sub_set_self ?_)
 simp only [Bool.not_true,Bool.false_eq_true,if_false]
 rw [if_pos]
 rotate_left
 ·show (_:Bool)=true
  decide +kernel
 refine wpAny_bind (wpAny_typeOf hT ?_)
 exact wpAny_pure q
theorem Dl {Q:List Value->Shared->Prop} (hh:A.handled=none) (ho:s.heap.get? S=some o) (hex:o.ExactSet) (X:Fix w o es ep t)
  (q:∀ h' tk,s.heap.objs.size < h'.objs.size->(∀ b oc,b < s.heap.objs.size->s.heap.get? b=some oc->h'.get? b=some oc)->Q ((bQ w S ep es).toList.map (·.2)) { s with heap:=h',toks:=tk }):wpAny (model prog w) A (collect (.ref S)) Q E s:=by
 have hSl:S < s.heap.objs.size:=Heap.lt_size ho
 unfold collect
 refine wpAny_bind (wpAny_runValue (codeAny_builtin F.entry_proto_collect ?_)); rw [Around.under_plainId F.plain_proto_collect _]
 refine wpAny_bind (show wpAny _ A.in1 (newList []) _ _ s from wpAny_newObj_type ?_)
 refine wpAny_pure ⟨plainId_quiet F.plain_list_iadd _,codeAny_builtin F.entry_list_iadd ?_⟩; rw [Around.under_plainId F.plain_list_iadd _]
 generalize hob:({ cls:=.type "list",data:=.seq ([]:List Value).toArray }:Obj)=ob
 have g1:(s.heap.push ob).get? S=some o:=Heap.get?_push_of_some _ ho
 have gL:(s.heap.push ob).get? s.heap.objs.size=some ob:=Heap.get?_push_size _ (by rw [<- hob]; rfl)
 have hT:Shared.TypeIs { s with heap:=s.heap.push ob } (.ref S) "set":=⟨o,g1,hex.1⟩
 show wpAny _ A.in1 (Builtin.List.listExtendWith (.ref s.heap.objs.size) (.ref S) (.ref s.heap.objs.size)) _ _ { s with heap:=s.heap.push ob }
 unfold Builtin.List.listExtendWith
 refine wpAny_bind (wpAny_typeOf hT ?_)
 have n1:Builtin.List.listSameRef (.ref s.heap.objs.size) (.ref S)=false:=by
  show (s.heap.objs.size==S)=false
  exact beq_false_of_ne (Nat.ne_of_gt hSl)
 rw [n1,show (Value.type "set"==Value.type "list")=false by decide,show (Value.type "set"==Value.type "tuple")=false by decide]
 simp only [Bool.or_false,Bool.false_eq_true,if_false]
 refine wpAny_bind (AL (s:={ s with heap:=s.heap.push ob }) g1 hex X fun h2 e2=>?_)
 have k2:∀ b oc,(s.heap.push ob).get? b=some oc->h2.get? b=some oc:=fun b oc e=>by rw [e2]; exact Heap.get?_push_of_some _ e
 refine wpAny_bind (wpAny_holding (zb (s:={ s with heap:=h2 }) ⟨o,k2 _ _ g1,hex.1⟩ ?_))
 rw [if_pos]
 rotate_left
 ·show (_:Bool)=true
  decide +kernel
 refine wpAny_bind (wpAny_rule ?_)
 have sz:(s.heap.push ob).objs.size=s.heap.objs.size+1:=Heap.size_push _ _
 have gI:h2.get? (s.heap.push ob).objs.size=some (jT w S es ep t 0 none #[]):=by rw [e2]; exact Heap.get?_push_size _ rfl
 have gL2:h2.get? s.heap.objs.size=some { cls:=.type "list",data:=.seq ([]:List Value).toArray }:=by rw [hob]; exact k2 _ _ gL
 refine wpAny_bind (show wpAny _ A.in1 (updateSeq s.heap.objs.size (·.push .none)>>=fun _=>updateSeq s.heap.objs.size (·.pop)) _ _ _ from ?_)
 refine wpAny_bind (wpAny_updateSeq gL2 rfl ?_)
 have gL3:=Heap.get?_update_self (Obj.mapSeq (·.push Value.none)) gL2 rfl
 refine wpAny_updateSeq gL3 rfl ?_
 have gL4:=Heap.get?_update_self (Obj.mapSeq (·.pop)) gL3 rfl
 have k4:∀ b oc,b≠s.heap.objs.size->h2.get? b=some oc->((h2.update s.heap.objs.size (Obj.mapSeq (·.push Value.none))).update s.heap.objs.size (Obj.mapSeq (·.pop))).get? b=some oc :=
  fun b oc hb e=>(Heap.get?_update_other _ _ (Ne.symm hb)).trans ((Heap.get?_update_other _ _ (Ne.symm hb)).trans e)
 generalize ((h2.update s.heap.objs.size (Obj.mapSeq (·.push Value.none))).update s.heap.objs.size (Obj.mapSeq (·.pop)))=h4 at gL4 k4
 have hSI:S≠(s.heap.push ob).objs.size:=by rw [sz]; exact Nat.ne_of_lt (Nat.lt_succ_of_lt hSl)
 have hh2:A.in1.in1.handled=none:=by simpa using hh
 have hh1:A.in1.handled=none:=by simpa using hh
 have hLf:s.heap.objs.size ∉ [(s.heap.push ob).objs.size,S]:=fun z=>by
  rcases List.mem_cons.mp z with z|z
  ·rw [sz] at z; exact absurd z (Nat.ne_of_lt (Nat.lt_succ_self _))
  ·exact absurd (List.mem_singleton.mp z) (Nat.ne_of_gt hSl)
 have hn:es.size<=sizeLine:=by rw [sizeLine_eq]; have:=X.fit; rcases X.good.msk with z|z <;> omega
 refine wpAny_pure ⟨plainId_quiet F.plain_extend_loop _,codeAny_extend_loopS (Bu (I:=(s.heap.push ob).objs.size) hh1 X hSI).toS hn _ hLf _ es.size 0 _ _ _ rfl (Nat.zero_le _)
  ⟨⟨_,_,k4 _ _ (by rw [sz]; exact Nat.ne_of_gt (Nat.lt_succ_self _)) gI⟩,k4 S _ (Nat.ne_of_lt hSl) (k2 _ _ g1)⟩ gL4 (ItemsOf.nil _) fun z acc c hm hz hacc=>?_⟩
 obtain ⟨h',g',d',tk',os'⟩:=z
 obtain rfl:g'=s.gens:=hm.gens
 obtain rfl:d'=s.drawn:=hm.drawn
 obtain rfl:os'=s.os:=hm.os
 refine wpAny_bind (wpAny_load hz (wpAny_pure ?_))
 have hacc':acc.toList=(bQ w S ep es).toList.map (·.2):=by
  refine List.ext_getElem? fun j=>?_
  rw [Array.getElem?_toList,List.getElem?_map,Array.getElem?_toList]
  by_cases hj:j < es.size
  ·have hj2:j < acc.size:=by rw [hacc.1]; exact hj
   have ha:acc[j]?=some acc[j]:=Array.getElem?_eq_getElem hj2
   obtain ⟨e,q1,q2⟩:=hacc.2 j _ ha
   rw [ha,q1,q2]; rfl
  ·rw [Array.getElem?_eq_none (by rw [hacc.1]; omega),Array.getElem?_eq_none (by rw [g8]; omega)]; rfl
 show Q acc.toList _
 rw [hacc']
 refine q h' tk' (Heap.lt_size hz) fun b oc hb e=>hm.heap b oc (fun z=>?_) (k4 b oc (Nat.ne_of_lt hb) (k2 _ _ (Heap.get?_push_of_some _ e)))
 rcases List.mem_cons.mp z with z|z
 ·exact absurd z (Nat.ne_of_lt hb)
 ·rw [List.mem_singleton,sz] at z; exact absurd z (Nat.ne_of_lt (Nat.lt_succ_of_lt hb))
end
end TB

namespace TB
open PySem PyProof.Rows
noncomputable def az:List Int->List Int->Bool
 | [],[]=>false
 | [],_::_=>true
 | _::_,[]=>false
 | a::r,b::q=>if a=b then az r q else decide (a < b)
section
variable {prog:Program} {w:World} {A:Around} {E:Value->Shared->Prop} {s:Shared}
theorem uc {k:Bool} {a b:Int} {t u:Tok} {Q:Bool->Shared->Prop} (q:Q (decide (a < b)) s):wpAny (model prog w) A (oneLt' k (.int a t) (.int b u)) Q E s:=by
 cases k with
 | true=>exact oneLt_int q
 | false =>
  rw [oneLt'_eq]
  simp only [Bool.false_eq_true,if_false]
  exact wpAny_bind (wpAny_lt_int (wpAny_truthy_bool q))
theorem Ab (k:Bool) (x y:Value):keyLt' (tuples' k) x y=(do
  let xs <- Builtin.List.listItems x; let ys <- Builtin.List.listItems y
  for ((p,q),i) in (xs.toList.zip ys.toList).zipIdx do
   if !(<- eqBool p q) then return <- oneLt' (k&&i==0) p q
  return xs.size < ys.size):=rfl
theorem Cb {k:Bool} {ks js:List Int} {x y:Addr} {Q:Bool->Shared->Prop} (hx:TK prog w s.heap ks x) (hy:TK prog w s.heap js y) (q:Q (az ks js) s):wpAny (model prog w) A (keyLt' (tuples' k) (.ref x) (.ref y)) Q E s:=by
 obtain ⟨ox,xs,nx,hox,_,hdx,hix⟩:=hx
 obtain ⟨oy,ys,ny,hoy,_,hdy,hiy⟩:=hy
 rw [Ab]
 refine wpAny_bind (listItems_at hox hdx (wpAny_bind (listItems_at hoy hdy (wpAny_bind ?_))))
 refine wpAny_forIn_list _ (fun rest r z=>r.1=none/\z=s/\∃ ks' js' xs' ys' n,rest=(xs'.zip ys').zipIdx n/\ItemsAre (intKind prog w) ks' xs'/\ItemsAre (intKind prog w) js' ys'/\az ks' js'=az ks js/\decide (xs'.length < ys'.length)=decide (xs.size < ys.size)) _ ?_ ?_ _ _
  ⟨rfl,rfl,ks,js,xs.toList,ys.toList,0,rfl,hix,hiy,rfl,by rw [Array.length_toList,Array.length_toList]⟩
 ·rintro ⟨⟨u,v⟩,i⟩ rest r z ⟨hr,rfl,ks',js',xs',ys',n,hz,h1,h2,hl,hs⟩
  cases h1 with
  | nil=>simp at hz
  | @cons a u' ks2 xs2 ha h1 =>
   cases h2 with
   | nil=>simp at hz
   | @cons b v' js2 ys2 hb h2 =>
    simp only [List.zip_cons_cons,List.zipIdx_cons,List.cons.injEq,Prod.mk.injEq] at hz
    obtain ⟨⟨⟨rfl,rfl⟩,rfl⟩,rfl⟩:=hz
    refine wpAny_bind ((intKind prog w).eqBool ha hb ?_)
    obtain ⟨t,rfl⟩:=Value.isInt_shape ha
    obtain ⟨t',rfl⟩:=Value.isInt_shape hb
    by_cases e:a=b
    ·subst e
     rw [decide_eq_true rfl]
     simp only [Bool.not_true,Bool.false_eq_true,if_false]
     refine wpAny_pure ⟨rfl,rfl,ks2,js2,xs2,ys2,i+1,rfl,h1,h2,?_,?_⟩
     ·rw [<- hl,az,if_pos rfl]
     ·rw [<- hs]; simp
    ·rw [decide_eq_false e]
     simp only [Bool.not_false,if_true]
     have e2:az ks js=decide (a < b):=by rw [<- hl,az,if_neg e]
     rw [e2] at q
     exact wpAny_bind (uc (wpAny_pure (wpAny_pure q)))
 ·rintro ⟨r1,r2⟩ z ⟨hr,rfl,ks',js',xs',ys',n,hz,h1,h2,hl,hs⟩
  have hr:r1=none:=hr
  subst hr
  have e:az ks js=decide (xs.size < ys.size):=by
   rw [<- hl,<- hs]
   cases h1 with
   | nil=>cases h2 with
    | nil=>rfl
    | cons _ _=>rfl
   | cons _ _=>cases h2 with
    | nil=>rfl
    | cons _ _=>simp at hz
  rw [e] at q
  exact wpAny_pure q
theorem B4 {ks:List Int} {c:Addr} {Q:Option Value->Shared->Prop} (hk:TK prog w s.heap ks c) (hne:ks≠[]) (q:∀ i t,Q (some (.int i t)) s):wpAny (model prog w) A (firstOfTuple' (.ref c)) Q E s:=by
 obtain ⟨o,items,n,ho,hc,hd,hi⟩:=hk
 show wpAny _ _ (typeOf (.ref c)>>=_) _ _ s
 refine wpAny_bind (wpAny_typeOf_ref ho ?_)
 rw [hc]
 rw [if_neg (by simp)]
 refine wpAny_bind (listItems_at ho hd (wpAny_pure ?_))
 cases hv:items.toList with
 | nil=>rw [hv] at hi; cases hi; exact absurd rfl hne
 | cons v r =>
  rw [hv] at hi
  cases hi with
  | @cons k _ _ _ h1 _ =>
   obtain ⟨t,rfl⟩:=Value.isInt_shape h1
   have e:items[0]?=some (Value.int k t):=by rw [<- Array.getElem?_toList,hv]; rfl
   rw [e]
   exact q _ _
theorem m_:∀ {vs:List Value} {Q:List (Option Value)->Shared->Prop},(∀ v∈vs,∃ ks c,v=.ref c/\TK prog w s.heap ks c/\ks≠[])->(∀ l:List (Int × Tok),l.length=vs.length->Q (l.map fun p=>some (.int p.1 p.2)) s) ->
  wpAny (model prog w) A (vs.mapM firstOfTuple') Q E s
 | [],Q,_,q=>by
  rw [List.mapM_nil]
  exact wpAny_pure (q [] rfl)
 | v::vs,Q,hv,q=>by
  obtain ⟨ks,c,rfl,hk,hne⟩:=hv v List.mem_cons_self
  rw [List.mapM_cons]
  refine wpAny_bind (B4 hk hne fun i t=>wpAny_bind (m_ (vs:=vs) (fun u hu=>hv u (List.mem_cons_of_mem _ hu)) fun l hl=>wpAny_pure ?_))
  exact q ((i,t)::l) (by rw [List.length_cons,List.length_cons,hl])
theorem oF:∀ l:List (Int × Tok),(l.map fun p=>Value.int p.1 p.2).mapM typeOf=(pure (l.map fun _=>Value.type "int"):Sem (List Value))
 | []=>by simp
 | p::l=>by
  rw [List.map_cons,List.mapM_cons,oF l]
  show (pure (Value.type "int")>>=fun b=>pure _>>=fun bs=>pure (b::bs))=_
  simp
theorem u5 {vs:List Value} {Q:SortKind->Shared->Prop} (hne:vs≠[]) (hv:∀ v∈vs,∃ ks c,v=.ref c/\TK prog w s.heap ks c/\ks≠[]) (q:Q (tuples' true) s):wpAny (model prog w) A (keyKind' vs.toArray) Q E s:=by
 rw [keyKind'_eq,List.mapM_toArray]
 refine wpAny_bind ?_
 rw [map_eq_pure_bind]
 refine wpAny_bind (m_ hv fun l hl=>wpAny_pure ?_)
 rw [if_pos (by simp)]
 refine wpAny_bind (wpAny_rule ?_)
 have e:((l.map fun p=>some (Value.int p.1 p.2)).toArray.filterMap id)=(l.map fun p=>Value.int p.1 p.2).toArray:=by simp
 rw [e,oneTypeOnly'_eq,List.mapM_toArray,oF]
 simp only [map_pure,pure_bind]
 obtain ⟨p,r,rfl⟩:∃ p r,l=p::r:=List.exists_cons_of_ne_nil fun z=>hne (List.length_eq_zero_iff.mp (by rw [<- hl,z]; rfl))
 have h0:(List.map (fun _=>Value.type "int") (p::r)).toArray[0]?=some (Value.type "int"):=rfl
 have ha:((List.map (fun _=>Value.type "int") (p::r)).toArray.all fun x=>x==Value.type "int")=true:=by
  rw [List.all_toArray,List.all_map,List.all_eq_true]; intro _ _; rfl
 rw [h0]
 simp only [ha,if_true,pure_bind]
 exact wpAny_pure q
end
end TB

namespace TB
open PySem PyProof.Rows
theorem lex_irrefl:∀ a,az a a=false
 | []=>rfl
 | a::r=>by rw [az,if_pos rfl,lex_irrefl r]
theorem lex_trans:∀ a b c,az a b=true->az b c=true->az a c=true
 | [],[],c,h,_=>by cases h
 | [],_::_,[],_,h=>by cases h
 | [],_::_,_::_,_,_=>rfl
 | _::_,[],_,h,_=>by cases h
 | _::_,_::_,[],_,h=>by cases h
 | a::r,b::q,c::p,h1,h2=>by
  rw [az] at h1 h2 ⊢
  by_cases e1:a=b
  ·subst e1
   rw [if_pos rfl] at h1
   by_cases e2:a=c
   ·subst e2; rw [if_pos rfl] at h2 ⊢; exact lex_trans r q p h1 h2
   ·rw [if_neg e2] at h2 ⊢; exact h2
  ·rw [if_neg e1] at h1
   have h1:=of_decide_eq_true h1
   by_cases e2:b=c
   ·subst e2; rw [if_neg e1]; exact decide_eq_true h1
   ·rw [if_neg e2] at h2
    have h2:=of_decide_eq_true h2
    rw [if_neg (by omega)]; exact decide_eq_true (by omega)
theorem iC:∀ a b,az a b=false->az b a=false->a=b
 | [],[],_,_=>rfl
 | [],_::_,h,_=>by cases h
 | _::_,[],_,h=>by cases h
 | a::r,b::q,h1,h2=>by
  rw [az] at h1 h2
  by_cases e:a=b
  ·subst e; rw [if_pos rfl] at h1 h2; rw [iC r q h1 h2]
  ·rw [if_neg e] at h1; rw [if_neg (Ne.symm e)] at h2
   have h1:=of_decide_eq_false h1
   have h2:=of_decide_eq_false h2
   omega
theorem Dn (a b c:List Int) (h:az a c=true):az a b=true\/az b c=true:=by
 cases h1:az a b with
 | true=>exact .inl rfl
 | false =>
  cases h2:az b a with
  | true=>exact .inr (lex_trans b a c h2 h)
  | false=>rw [<- iC a b h1 h2]; exact .inr h
noncomputable def kT (key:Value->List Int):PyProof.Rows.KeyKind:={ α:=List Int,blt:=az,irrefl:=lex_irrefl,trans:=lex_trans,negTrans:=Dn,total:=iC,keyOf:=fun v=>some (key v),dflt:=[] }
noncomputable def at' (key:Value->List Int) (xs:Array Keyed) (i:Nat):List Int:=KK (kT key) xs i
theorem g9 {key:Value->List Int} {xs:Array Keyed} {i:Nat} {p:Keyed} (h:xs[i]?=some p):at' key xs i=key p.1:=by unfold at' KK; rw [h]; rfl
structure Bas (key:Value->List Int) (a0:Array Keyed) (z:SortSt):Prop where
 perm:(arrOf z).Perm a0
 kind:kindOf z=tuples' true
 fail:failedOf z=none
 pend:pendingOf z=#[]
noncomputable def Diff (key:Value->List Int) (xs:Array Keyed):Prop:=(xs.toList.map fun p=>key p.1).Nodup
theorem Diff.perm {key:Value->List Int} {xs ys:Array Keyed} (p:xs.Perm ys) (d:Diff key ys):Diff key xs:=(((Array.perm_iff_toList_perm.mp p).map _).nodup_iff).mpr d
theorem Diff.ne {key:Value->List Int} {xs:Array Keyed} (d:Diff key xs) {i j:Nat} (hi:i < xs.size) (hj:j < xs.size) (hij:i≠j):at' key xs i≠at' key xs j:=by
 intro e
 have ei:xs[i]?=some xs[i]:=Array.getElem?_eq_getElem hi
 have ej:xs[j]?=some xs[j]:=Array.getElem?_eq_getElem hj
 rw [g9 ei,g9 ej] at e
 have hl:(xs.toList.map fun p=>key p.1).length=xs.size:=by rw [List.length_map,Array.length_toList]
 have gi:(xs.toList.map fun p=>key p.1)[i]'(by omega)=key xs[i].1:=by rw [List.getElem_map,Array.getElem_toList]
 have gj:(xs.toList.map fun p=>key p.1)[j]'(by omega)=key xs[j].1:=by rw [List.getElem_map,Array.getElem_toList]
 have:=List.pairwise_iff_getElem.mp d
 rcases Nat.lt_or_gt_of_ne hij with z|z
 ·exact this i j (by omega) (by omega) z (by rw [gi,gj]; exact e)
 ·exact this j i (by omega) (by omega) z (by rw [gi,gj]; exact e.symm)
theorem Diff.or {key:Value->List Int} {xs:Array Keyed} (d:Diff key xs) {i j:Nat} (hi:i < xs.size) (hj:j < xs.size) (hij:i≠j) (h:az (at' key xs i) (at' key xs j)=false):az (at' key xs j) (at' key xs i)=true:=by
 cases q:az (at' key xs j) (at' key xs i) with
 | true=>rfl
 | false=>exact absurd (iC _ _ h q) (d.ne hi hj hij)
noncomputable def Up (key:Value->List Int) (xs:Array Keyed) (n:Nat):Prop:=∀ i j,i < j->j < n->az (at' key xs i) (at' key xs j)=true
noncomputable def Down (key:Value->List Int) (xs:Array Keyed) (n:Nat):Prop:=∀ i j,i < j->j < n->az (at' key xs j) (at' key xs i)=true
theorem Up.more {key:Value->List Int} {xs:Array Keyed} {n:Nat} (u:Up key xs n) (hn:1<=n) (h:az (at' key xs (n - 1)) (at' key xs n)=true):Up key xs (n+1):=fun i j hij hj=>by
 by_cases z:j < n
 ·exact u i j hij z
 ·obtain rfl:j=n:=by omega
  by_cases y:i=j - 1
  ·subst y; exact h
  ·exact lex_trans _ _ _ (u i (j - 1) (by omega) (by omega)) h
theorem Down.more {key:Value->List Int} {xs:Array Keyed} {n:Nat} (u:Down key xs n) (hn:1<=n) (h:az (at' key xs n) (at' key xs (n - 1))=true):Down key xs (n+1):=fun i j hij hj=>by
 by_cases z:j < n
 ·exact u i j hij z
 ·obtain rfl:j=n:=by omega
  by_cases y:i=j - 1
  ·subst y; exact h
  ·exact lex_trans _ _ _ h (u i (j - 1) (by omega) (by omega))
section
variable {prog:Program} {w:World} {A:Around} {E:Value->Shared->Prop} {s:Shared} {a0:Array Keyed} {key:Value->List Int}
noncomputable def Cmp (prog:Program) (w:World) (A:Around) (s:Shared) (key:Value->List Int) (a0:Array Keyed):Prop:=∀ (E:Value->Shared->Prop) (x y:Keyed) (Q:Bool->Shared->Prop),x∈a0.toList->y∈a0.toList->Q (az (key x.1) (key y.1)) s->wpAny (model prog w) A (keyLt' (tuples' true) x.1 y.1) Q E s
theorem gQ {z:SortSt} {i j:Nat} {Q:Option Bool->SortSt->Prop} (C:Cmp prog w A s key a0) (B:Bas key a0 z) (hi:i < a0.size) (hj:j < a0.size) (q:Q (some (az (at' key (arrOf z) i) (at' key (arrOf z) j))) z) :
  wpS (model prog w) A E s (ltAt' i j) Q z:=by
 have sz:=B.perm.size_eq
 have hi':i < (arrOf z).size:=by omega
 have hj':j < (arrOf z).size:=by omega
 have ei:(arrOf z)[i]?=some (arrOf z)[i]:=Array.getElem?_eq_getElem hi'
 have ej:(arrOf z)[j]?=some (arrOf z)[j]:=Array.getElem?_eq_getElem hj'
 have mem:∀ (k:Nat) (hk:k < (arrOf z).size),(arrOf z)[k]∈a0.toList:=fun k hk=>(Array.perm_iff_toList_perm.mp B.perm).mem_iff.mp (by simp)
 rw [g9 ei,g9 ej] at q
 rw [ltAt'_eq]
 refine wpS_bind (wpS_get (wpS_bind ?_)); rw [elem'_eq,ei]
 refine wpS_pure (wpS_bind ?_); rw [elem'_eq,ej]
 refine wpS_pure ?_; rw [lt'_eq]
 refine wpS_bind (wpS_get (wpS_bind ?_)); rw [B.kind]
 exact wpS_lift (wpAny_attempt (C _ _ _ _ (mem i hi') (mem j hj') ⟨rfl,wpS_pure q⟩))
theorem rH {z:SortSt} {a n:Nat} {Q:AscSt->SortSt->Prop} (C:Cmp prog w A s key a0) (B:Bas key a0 z) (D:Diff key a0) (hn:n<=a0.size) (ha:1<=a) (han:a<=n) (u:Up key (arrOf z) a)
  (q:∀ m,a<=m->m<=n->Up key (arrOf z) m->(m=n\/az (at' key (arrOf z) m) (at' key (arrOf z) (m - 1))=true)->Q (none,m) z):wpS (model prog w) A E s (ascLoop a n) Q z:=by
 have sz:=B.perm.size_eq
 have D':=D.perm B.perm
 unfold ascLoop
 refine wpS_forRange (fun x c y=>y=z/\c=(none,x)/\Up key (arrOf z) x) (fun x c y h1 h2=>?_) (fun c y=>?_) ⟨rfl,rfl,u⟩
 ·rintro ⟨rfl,rfl,ux⟩
  refine wpS_bind (gQ C B (by omega) (by omega) ?_)
  cases hb:az (at' key (arrOf y) x) (at' key (arrOf y) (x - 1)) with
  | true=>exact wpS_pure (q x h1 (by omega) ux (.inr hb))
  | false=>exact wpS_pure ⟨rfl,rfl,ux.more (by omega) (D'.or (by omega) (by omega) (by omega) hb)⟩
 ·rintro ⟨rfl,rfl,ux⟩
  rw [show max a n=n by omega] at ux ⊢
  exact q n han (Nat.le_refl n) ux (.inl rfl)
theorem E7 {z:SortSt} {a n:Nat} {Q:DescSt->SortSt->Prop} (C:Cmp prog w A s key a0) (B:Bas key a0 z) (D:Diff key a0) (hn:n<=a0.size) (ha:1<=a) (han:a<=n) (u:Down key (arrOf z) a)
  (q:∀ m,a<=m->m<=n->Down key (arrOf z) m->Q (none,m,0) z):wpS (model prog w) A E s (descLoop a n) Q z:=by
 have sz:=B.perm.size_eq
 have D':=D.perm B.perm
 unfold descLoop
 refine wpS_forRange (fun x c y=>y=z/\c=(none,x,0)/\Down key (arrOf z) x) (fun x c y h1 h2=>?_) (fun c y=>?_) ⟨rfl,rfl,u⟩
 ·rintro ⟨rfl,rfl,ux⟩
  dsimp only
  refine wpS_bind (gQ C B (by omega) (by omega) ?_)
  cases hb:az (at' key (arrOf y) x) (at' key (arrOf y) (x - 1)) with
  | true=>exact wpS_pure ⟨rfl,rfl,ux.more (by omega) hb⟩
  | false =>
   refine wpS_bind (gQ C B (by omega) (by omega) ?_)
   rw [D'.or (by omega) (by omega) (by omega) hb]
   exact wpS_pure (q x h1 (by omega) ux)
 ·rintro ⟨rfl,rfl,ux⟩
  rw [show max a n=n by omega] at ux ⊢
  exact q n han (Nat.le_refl n) ux
theorem Bas.put {z:SortSt} (B:Bas key a0 z) {xs:Array Keyed} (p:xs.Perm (arrOf z)):Bas key a0 (setArr z xs):=⟨p.trans B.perm,B.kind,B.fail,B.pend⟩
theorem xF {z:SortSt} {m n:Nat} {Q:Option Nat->SortSt->Prop} (C:Cmp prog w A s key a0) (B:Bas key a0 z) (D:Diff key a0) (hn:n<=a0.size) (hm:1<=m) (hmn:m<=n) (u:Down key (arrOf z) m)
  (q:∀ k y,Bas key a0 y->1<=k->k<=n->Up key (arrOf y) k->Q (some k) y):wpS (model prog w) A E s (tail3 m n) Q z:=by
 have sz:=B.perm.size_eq
 unfold tail3
 refine wpS_bind (wpS_reverse ?_)
 have B':Bas key a0 (setArr z (mirror (arrOf z) 0 m ((m - 0) / 2))):=B.put (mirror_perm _ _ _ _)
 have hz:m<=(arrOf z).size:=by omega
 refine wpS_bind (rH C B' D hn hm hmn (fun i j hij hj=>?_) fun k h1 h2 h3 _=>wpS_pure (q k _ B' (by omega) h2 h3))
 show az (KK (kT key) (mirror (arrOf z) 0 m ((m - 0) / 2)) i) (KK (kT key) (mirror (arrOf z) 0 m ((m - 0) / 2)) j)=true
 rw [KK_mirror hz,KK_mirror hz,if_pos ⟨Nat.zero_le _,by omega⟩,if_pos ⟨Nat.zero_le _,hj⟩]
 exact u _ _ (by omega) (by omega)
theorem wG {z:SortSt} {n:Nat} {Q:Option Nat->SortSt->Prop} (C:Cmp prog w A s key a0) (B:Bas key a0 z) (D:Diff key a0) (hn:n<=a0.size) (h1:1<=n)
  (q:∀ k y,Bas key a0 y->1<=k->k<=n->Up key (arrOf y) k->Q (some k) y):wpS (model prog w) A E s (countRun' 0 n) Q z:=by
 rw [countRun0_eq]
 refine wpS_bind (rH C B D hn (Nat.le_refl 1) h1 (fun i j a b=>by omega) fun m hm1 hm2 um hor=>?_)
 dsimp only
 by_cases e:m=n
 ·rw [if_pos (by simpa using e)]; exact wpS_pure (q m z B hm1 hm2 um)
 rw [if_neg (by simpa using e)]
 have hlt:=hor.resolve_left e
 by_cases g:m > 1
 ·rw [if_pos g]
  refine wpS_bind (gQ C B (by omega) (by omega) ?_)
  rw [um 0 (m - 1) (by omega) (by omega)]
  exact wpS_pure (q m z B hm1 hm2 um)
 ·rw [if_neg g]
  obtain rfl:m=1:=by omega
  unfold descPart
  refine wpS_bind (wpS_lift (wpAny_rule ⟨rfl,wpS_bind ?_⟩))
  refine E7 C B D hn (by decide) (by omega) (fun i j a b=>?_) fun k k1 k2 k3=>?_
  ·obtain rfl:i=0:=by omega
   obtain rfl:j=1:=by omega
   exact hlt
  ·show wpS _ _ _ _ (tail3 k n) Q z
   exact xF C B D hn (by omega) k2 k3 q
end
end TB

namespace TB
open PySem PyProof.Rows
section
variable {prog:Program} {w:World} {A:Around} {E:Value->Shared->Prop} {s:Shared} {a0:Array Keyed} {key:Value->List Int}
theorem BJ {z:SortSt} {k l:Nat} (hk:k < (arrOf z).size) (hl:l<=k) (u:Up key (arrOf z) k) (lo:∀ i,i < l->az (at' key (arrOf z) i) (at' key (arrOf z) k)=true) (hi:∀ i,l<=i->i < k->az (at' key (arrOf z) k) (at' key (arrOf z) i)=true) :
  Up key (bubble (arrOf z) k (k - l)) (k+1):=fun i j hij hj=>by
 show az (KK (kT key) (bubble (arrOf z) k (k - l)) i) (KK (kT key) (bubble (arrOf z) k (k - l)) j)=true
 rw [KK_bubble hk (by omega),KK_bubble hk (by omega),show k - (k - l)=l by omega]
 have u:∀ i j,i < j->j < k->az (KK (kT key) (arrOf z) i) (KK (kT key) (arrOf z) j)=true:=u
 have lo:∀ i,i < l->az (KK (kT key) (arrOf z) i) (KK (kT key) (arrOf z) k)=true:=lo
 have hi:∀ i,l<=i->i < k->az (KK (kT key) (arrOf z) k) (KK (kT key) (arrOf z) i)=true:=hi
 repeat' split
 all_goals first
  | (exfalso; omega)
  | exact lo _ (by omega)
  | exact hi _ (by omega) (by omega)
  | exact u _ _ (by omega) (by omega)
theorem tQ {z:SortSt} {n ok:Nat} {Q:Bool->SortSt->Prop} (C:Cmp prog w A s key a0) (B:Bas key a0 z) (D:Diff key a0) (hn:n<=a0.size) (hok:ok<=n) (u:Up key (arrOf z) ok)
  (q:∀ y,Bas key a0 y->Up key (arrOf y) n->Q true y):wpS (model prog w) A E s (binarySort' 0 n ok) Q z:=by
 rw [binarySort'_eq]; simp only [Nat.zero_add]
 refine wpS_bind (wpS_mono (wpS_forRange (fun x c y=>c=(none,())/\Bas key a0 y/\Up key (arrOf y) (min x n)) (Q:=fun c y=>c=(none,())/\Bas key a0 y/\Up key (arrOf y) n) (fun k c y h1 h2=>?_) (fun c y=>?_) ⟨rfl,B,fun i j a b=>?_⟩) fun c y=>?_)
 ·rintro ⟨rfl,By,uy⟩
  rw [show min k n=k by omega] at uy
  have sz:=By.perm.size_eq
  have Dy:=D.perm By.perm
  refine wpS_bind (wpS_mono (wpS_forRange (fun x c y'=>y'=y/\∃ l r,c=(none,l,r)/\l<=r/\r<=k/\r - l<=k - x/\(∀ i,i < l->az (at' key (arrOf y) i) (at' key (arrOf y) k)=true)/\∀ i,r<=i->i < k->az (at' key (arrOf y) k) (at' key (arrOf y) i)=true)
   (Q:=fun c y'=>y'=y/\∃ l r,c=(none,l,r)/\l<=k/\(∀ i,i < l->az (at' key (arrOf y) i) (at' key (arrOf y) k)=true)/\∀ i,l<=i->i < k->az (at' key (arrOf y) k) (at' key (arrOf y) i)=true) (fun x c y' g1 g2=>?_) (fun c y'=>?_) ⟨rfl,0,k,rfl,by omega,by omega,by omega,fun i a=>by omega,fun i a b=>by omega⟩) fun c y'=>?_)
  ·rintro ⟨rfl,l,r,rfl,e1,e2,e3,e4,e5⟩
   dsimp only
   by_cases g:l ≥ r
   ·rw [if_pos g]
    obtain rfl:l=r:=by omega
    exact wpS_pure ⟨rfl,l,l,rfl,e2,e4,e5⟩
   rw [if_neg g]
   refine wpS_bind (gQ C By (by omega) (by omega) ?_)
   cases hb:az (at' key (arrOf y') k) (at' key (arrOf y') ((l+r) / 2)) with
   | true =>
    refine wpS_pure ⟨rfl,l,(l+r) / 2,rfl,by omega,by omega,by omega,e4,fun i a b=>?_⟩
    by_cases e:i=(l+r) / 2
    ·subst e; exact hb
    ·exact lex_trans _ _ _ hb (uy _ _ (by omega) b)
   | false =>
    have hb':=Dy.or (by omega) (by omega) (by omega) hb
    refine wpS_pure ⟨rfl,(l+r) / 2+1,r,rfl,by omega,by omega,by omega,fun i a=>?_,e5⟩
    by_cases e:i=(l+r) / 2
    ·subst e; exact hb'
    ·exact lex_trans _ _ _ (uy i _ (by omega) (by omega)) hb'
  ·rintro ⟨rfl,l,r,rfl,e1,e2,e3,e4,e5⟩
   obtain rfl:l=r:=by omega
   exact ⟨rfl,l,l,rfl,e2,e4,e5⟩
  ·rintro ⟨rfl,l,r,rfl,e2,e4,e5⟩
   refine wpS_bind (show wpS _ _ _ _ (moveDown' k l) _ y' from ?_)
   rw [moveDown'_eq]
   refine wpS_modify (wpS_pure ⟨rfl,By.put (bubble_perm _ _ _),?_⟩)
   rw [show min (k+1) n=k+1 by omega]
   exact BJ (by omega) e2 uy e4 e5
 ·rintro ⟨rfl,By,uy⟩
  rw [show min (max (max ok 1) n) n=n by omega] at uy
  exact ⟨rfl,By,uy⟩
 ·exact u i j a (by omega)
 ·rintro ⟨rfl,By,uy⟩
  exact wpS_pure (q y By uy)
noncomputable def Fin' (key:Value->List Int) (a0:Array Keyed) (z:SortSt):Prop:=(arrOf z).Perm a0/\failedOf z=none/\pendingOf z=#[(0,a0.size,0)]/\Up key (arrOf z) a0.size
theorem Bas.fin {z:SortSt} (B:Bas key a0 z) (u:Up key (arrOf z) a0.size):Fin' key a0 (setPending z ((pendingOf z).push (0,a0.size,0))):=⟨B.perm,B.fail,by show (pendingOf z).push _=_; rw [B.pend]; rfl,u⟩
theorem x_ {z:SortSt} {Q:Unit->SortSt->Prop} (C:Cmp prog w A s key a0) (B:Bas key a0 z) (D:Diff key a0) (h2:2<=a0.size) (h6:a0.size < 64) (q:∀ y,(arrOf y).Perm a0->failedOf y=none->Up key (arrOf y) a0.size->Q () y) :
  wpS (model prog w) A E s sortRuns' Q z:=by
 rw [sortRuns'_eq]
 refine wpS_bind (wpS_get ?_)
 dsimp only
 have hm:minRun' a0.size a0.size 0=a0.size:=by
  obtain ⟨f,e⟩:∃ f,a0.size=f+1:=⟨a0.size - 1,by omega⟩
  conv=>lhs; arg 1; rw [e]
  rw [minRun'_succ,if_pos h6]; rfl
 simp only [B.perm.size_eq,hm]
 refine wpS_bind (wpS_mono (wpS_forRange (fun x c y=>(x=0/\c=(none,0)/\Bas key a0 y)\/(1<=x/\c=(none,a0.size)/\Fin' key a0 y)) (Q:=fun c y=>c=(none,a0.size)/\Fin' key a0 y) (fun x c y _ h1=>?_) (fun c y=>?_) (.inl ⟨rfl,rfl,B⟩)) fun c y=>?_)
 ·have last:∀ y:SortSt,Bas key a0 y->Up key (arrOf y) a0.size->(pendingOf y).back?=none:=fun y By _=>by rw [By.pend]; rfl
  rintro (⟨rfl,rfl,By⟩|⟨_,rfl,Fy⟩)
  ·dsimp only
   rw [if_neg (by omega)]; simp only [Nat.sub_zero,Nat.min_self,Nat.zero_add]
   refine wpS_bind (wG C By D (Nat.le_refl _) (by omega) fun m y2 B2 m1 m2 u2=>?_)
   dsimp only
   by_cases e:m < a0.size
   ·rw [if_pos e]
    refine wpS_bind (wpS_lift (wpAny_rule ⟨rfl,wpS_bind (tQ C B2 D (Nat.le_refl _) m2 u2 fun y3 B3 u3=>?_)⟩))
    simp only [Bool.not_true,Bool.false_eq_true,if_false]
    refine wpS_bind (wpS_get ?_); rw [last y3 B3 u3]
    exact wpS_bind (wpS_modify (wpS_pure (.inr ⟨by omega,rfl,B3.fin u3⟩)))
   ·rw [if_neg e]
    obtain rfl:m=a0.size:=by omega
    refine wpS_bind (wpS_get ?_); rw [last y2 B2 u2]
    exact wpS_bind (wpS_modify (wpS_pure (.inr ⟨by omega,rfl,B2.fin u2⟩)))
  ·dsimp only
   rw [if_pos (Nat.le_refl _)]; exact wpS_pure ⟨rfl,Fy⟩
 ·rintro (⟨h,_,_⟩|⟨_,h,Fy⟩)
  ·omega
  ·exact ⟨h,Fy⟩
 ·rintro ⟨rfl,Fy⟩
  dsimp only
  refine wpS_bind (wpS_mono (wpS_forRange (fun _ c y'=>y'=y/\c=(none,())) (Q:=fun c y'=>y'=y/\c=(none,())) (fun x c y' _ _=>?_) (fun _ _ h=>h) ⟨rfl,rfl⟩) fun c y'=>?_)
  ·rintro ⟨rfl,rfl⟩
   refine wpS_bind (wpS_get ?_); rw [if_pos (by rw [Fy.2.2.1]; exact Nat.le_refl 1)]
   exact wpS_pure ⟨rfl,rfl⟩
  ·rintro ⟨rfl,rfl⟩
   exact wpS_pure (q _ Fy.1 Fy.2.1 Fy.2.2.2)
end
end TB

namespace TB
open PySem PyProof.Rows
section
variable {prog:Program} {w:World} {A:Around} {E:Value->Shared->Prop} {s:Shared} {key:Value->List Int}
theorem lR {vs:List Value} {p:Keyed} (h:p∈(pairsOf vs).toList):p.2=p.1/\p.1∈vs:=by
 rw [pairsOf_toList] at h
 obtain ⟨i,hi⟩:=List.getElem?_of_mem h
 rw [List.getElem?_zip_eq_some] at hi
 exact ⟨Option.some.inj (hi.2.symm.trans hi.1),List.mem_of_getElem? hi.1⟩
theorem AR (vs:List Value):(pairsOf vs).toList.map (·.2)=vs:=by
 rw [pairsOf_toList]
 exact List.map_snd_zip (Nat.le_refl _)
theorem wQ (vs:List Value) (f:Value->List Int):(pairsOf vs).toList.map (fun p=>f p.1)=vs.map f:=by
 rw [pairsOf_toList,show (fun p:Value × Value=>f p.1)=f ∘ Prod.fst from rfl,<- List.map_map,List.map_fst_zip (Nat.le_refl _)]
theorem pL {a:Addr} {vs:List Value} {n:Nat} {P:Fin->Shared->Prop} (ho:s.heap.get? a=some (seqObj "list" vs.toArray n)) (hv:∀ v∈vs,∃ c,v=.ref c/\TK prog w s.heap (key v) c/\key v≠[]) (hd:(vs.map key).Nodup) (h6:vs.length < 64)
  (q:∀ out:List Value,out.Perm vs->(out.map key).Pairwise (fun x y=>az x y=true)->P (.done (.ret .none)) { s with heap:=sortedHeap s.heap a vs out.toArray }):wpAny (model prog w) A (Builtin.«list.sort» ⟨[.ref a],[]⟩) P E s:=by
 have hal:a < s.heap.objs.size:=Heap.lt_size ho
 rw [list_sort_plain]
 refine wpAny_bind (listItems_at ho rfl (wpAny_bind (listUpdate_at ho rfl ?_)))
 obtain ⟨e1,ho1⟩:∃ e1,(s.heap.update a (Obj.mapSeq fun _=>#[])).get? a=some (seqObj "list" #[] e1):=⟨_,get?_update_seq ho fun _=>#[]⟩
 refine wpAny_bind (seqEpoch_at ho1 rfl (wpAny_bind (wpAny_newTuple (wpAny_bind (wpAny_newList (wpAny_holding ?_))))))
 have ot:∀ b o,b≠a->s.heap.get? b=some o->(((s.heap.update a (Obj.mapSeq fun _=>#[])).push (seqObj "tuple" vs.toArray 0)).push (seqObj "list" #[] 0)).get? b=some o:=fun b o hb e =>
  Heap.get?_push_of_some _ (Heap.get?_push_of_some _ ((Heap.get?_update_other _ _ (Ne.symm hb)).trans e))
 have ho6:(((s.heap.update a (Obj.mapSeq fun _=>#[])).push (seqObj "tuple" vs.toArray 0)).push (seqObj "list" #[] 0)).get? a=some (seqObj "list" #[] e1):=Heap.get?_push_of_some _ (Heap.get?_push_of_some _ ho1)
 have fin:∀ y:SortSt,(arrOf y).Perm (pairsOf vs)->Up key (arrOf y) (pairsOf vs).size->P (.done (.ret .none)) { s with heap:=sortedHeap s.heap a vs ((arrOf y).map (·.2)) }:=fun y py uy=>by
  have pl:=Array.perm_iff_toList_perm.mp py
  have h1:=q ((arrOf y).map (·.2)).toList (by rw [Array.toList_map]; exact (pl.map _).trans (by rw [AR])) ?_
  ·rw [Array.toArray_toList] at h1; exact h1
  ·rw [Array.toList_map,List.map_map]
   refine List.pairwise_map.mpr (List.pairwise_iff_getElem.mpr fun i j hi hj hij=>?_)
   have hi2:i < (arrOf y).size:=by rw [Array.length_toList] at hi; exact hi
   have hj2:j < (arrOf y).size:=by rw [Array.length_toList] at hj; exact hj
   have m:∀ (k:Nat) (hk:k < (arrOf y).size),key (arrOf y)[k].2=at' key (arrOf y) k:=fun k hk=>by
    rw [g9 (Array.getElem?_eq_getElem hk),(lR (pl.mem_iff.mp (by simp))).1]
   have:=uy i j hij (by rw [<- py.size_eq]; exact hj2)
   show az (key (arrOf y).toList[i].2) (key (arrOf y).toList[j].2)=true
   rw [Array.getElem_toList,Array.getElem_toList,m i hi2,m j hj2]
   exact this
 dsimp only
 have lin:∀ y:SortSt,(arrOf y).Perm (pairsOf vs)->((arrOf y).map (·.2)).size<=sizeLine+1:=fun y py=>by rw [Array.size_map,py.size_eq,pairsOf_size,sizeLine_eq]; omega
 by_cases h2:vs.toArray.size < 2
 ·rw [if_pos h2,if_pos h2]
  refine wpAny_bind (wpAny_pure ?_); rw [StateT.run_pure]
  refine wpAny_bind (wpAny_pure ?_)
  dsimp only
  refine wpAny_bind (seqEpoch_at ho6 rfl (wpAny_bind (listUpdate_at ho6 rfl ?_ (hsz2:=lin (SortSt.mk' general' (pairsOf vs) #[] 7 none) (Array.Perm.refl _)))))
  simp only [bne_self_eq_false,Bool.false_eq_true,if_false]
  refine wpAny_pure (fin (SortSt.mk' general' (pairsOf vs) #[] 7 none) (Array.Perm.refl _) fun i j hij hj=>?_)
  rw [pairsOf_size] at hj; rw [List.size_toArray] at h2; omega
 ·rw [if_neg h2,if_neg h2]
  have hne:vs≠[]:=fun z=>h2 (by rw [z]; decide)
  have hv6:∀ v∈vs,∃ c,v=.ref c/\TK prog w (((s.heap.update a (Obj.mapSeq fun _=>#[])).push (seqObj "tuple" vs.toArray 0)).push (seqObj "list" #[] 0)) (key v) c/\key v≠[]:=fun v m=>by
   obtain ⟨c,e,x,y⟩:=hv v m
   refine ⟨c,e,?_,y⟩
   obtain ⟨oc,its,k,x1,x2,x3⟩:=x
   refine ⟨oc,its,k,ot c oc (fun z=>?_) x1,x2,x3⟩
   rw [z,ho] at x1
   cases x1
   exact absurd (Value.type.inj (show Value.type "list" = .type "tuple" from x2)) (by decide)
  refine wpAny_bind (u5 hne (fun v m=>let ⟨c,e,x,y⟩:=hv6 v m; ⟨_,c,e,x,y⟩) ?_)
  have C:Cmp prog w A { s with heap:=((s.heap.update a (Obj.mapSeq fun _=>#[])).push (seqObj "tuple" vs.toArray 0)).push (seqObj "list" #[] 0) } key (pairsOf vs):=fun E x y Q mx my qq=>by
   obtain ⟨c,ex,kx,_⟩:=hv6 _ (lR mx).2
   obtain ⟨d,ey,ky,_⟩:=hv6 _ (lR my).2
   generalize x.1=vx at ex kx qq ⊢
   generalize y.1=vy at ey ky qq ⊢
   subst ex; subst ey
   exact Cb kx ky qq
  have D:Diff key (pairsOf vs):=by unfold Diff; rw [wQ]; exact hd
  refine wpAny_bind (wpAny_mono (x_ (z:=SortSt.mk' (tuples' true) (pairsOf vs) #[] 7 none) (Q:=fun _ y=>(arrOf y).Perm (pairsOf vs)/\failedOf y=none/\Up key (arrOf y) (pairsOf vs).size) C ⟨Array.Perm.refl _,rfl,rfl,rfl⟩ D (by rw [pairsOf_size]; rw [List.size_toArray] at h2; omega) (by rw [pairsOf_size]; exact h6) fun y a1 a2 a3=>⟨a1,a2,a3⟩) ?_ fun _ _ e=>e)
  rintro ⟨⟨⟩,y⟩ z ⟨rfl,py,fy,uy⟩
  dsimp only
  refine wpAny_bind (seqEpoch_at ho6 rfl (wpAny_bind (listUpdate_at ho6 rfl ?_ (hsz2:=lin y py))))
  rw [fy]
  simp only [bne_self_eq_false,Bool.false_eq_true,if_false]
  exact wpAny_pure (fin y py uy)
end
end TB

namespace TB
open PySem PyProof.Rows
open Classical in
noncomputable def ck (prog:Program) (w:World) (h:Heap):Value->List Int
 | .ref c=>if x:∃ ks,TK prog w h ks c then x.choose else []
 | _=>[]
section
variable {prog:Program} {w:World} {A:Around} {E:Value->Shared->Prop} {s:Shared}
open Classical in
theorem gk {h:Heap} {ks:List Int} {c:Addr} (x:TK prog w h ks c):ck prog w h (.ref c)=ks:=by
 have hx:∃ ks,TK prog w h ks c:=⟨ks,x⟩
 show (if x:∃ ks,TK prog w h ks c then x.choose else [])=ks
 rw [dif_pos hx]
 exact IsTupleKey.inj hx.choose_spec x
theorem pS {h:Heap}:∀ {l:List (Int × Value)} {L:List (List Int)},Els prog w h l L->(l.map (·.2)).map (ck prog w h)=L
 | _,_,.nil=>rfl
 | _,_,.cons ⟨_,b,e,x⟩ r=>by
  rw [List.map_cons,List.map_cons,pS r,e,gk x]
theorem pq {h:Heap}:∀ {l:List (Int × Value)} {L:List (List Int)},Els prog w h l L->∀ v∈l.map (·.2),∃ c,v=.ref c/\TK prog w h (ck prog w h v) c/\ck prog w h v∈L
 | _,_,.nil,v,hv=>by cases hv
 | _,_,.cons ⟨_,b,e,x⟩ r,v,hv=>by
  rw [List.map_cons] at hv
  rcases List.mem_cons.mp hv with z|z
  ·rw [e] at z
   subst z
   exact ⟨b,rfl,by rw [gk x]; exact x,by rw [gk x]; exact List.mem_cons_self⟩
  ·obtain ⟨c,e1,e2,e3⟩:=pq r v z
   exact ⟨c,e1,e2,List.mem_cons_of_mem _ e3⟩
noncomputable def vo (prog:Program) (w:World) (h:Heap) (lim:Addr->Prop) (R:Addr) (ks:List (List Int)):Prop:=∃ out:List Value,∃ n,h.get? R=some (seqObj "list" out.toArray n)/\out.length=ks.length/\∀ (i:Nat) v k,out[i]?=some v->ks[i]?=some k->∃ c,v=.ref c/\c≠R/\lim c/\TK prog w h k c
theorem vL {S:Addr} {lim:Addr->Prop} {L:List (List Int)} {Q:Value->Shared->Prop} (hh:A.handled=none) (x:bM prog w lim s.heap S L) (hne:∀ ks∈L,ks≠[])
  (q:∀ h' tk R ks,s.heap.objs.size<=R->vo prog w h' lim R ks->ks.Pairwise (fun a b=>az a b=true)->(∀ y,y∈ks ↔ y∈L)->(∀ b o,b < s.heap.objs.size->s.heap.get? b=some o->h'.get? b=some o)->Q (.ref R) { s with heap:=h',toks:=tk }) :
  wpAny (model prog w) A (call (.builtin "sorted") [.ref S]) Q E s:=by
 obtain ⟨o,es,ep,t,ho,hex,hd,g,⟨hp,hl⟩,hsz,hels,hnd,hlim⟩:=x
 have hfit:es.size<=t.mask:=by rcases g.msk with z|z <;> omega
 have X:Fix w o es ep t:=⟨hd,g,hp,hl,hfit⟩
 obtain ⟨L1,x1,y1⟩:=Els.perm (jX w S ep es) hels
 refine Calls.call_function_entry kind_sorted plain_sorted entry_sorted (args_sorted1 _) ?_
 unfold Builtin.«sorted»
 refine wpAny_bind (m:=checkCount "sorted" 1 1 _) (wpAny_pure ?_)
 refine wpAny_bind (Dl (by simpa using hh) ho hex X fun h1 tk hle k1=>?_)
 have hlen:(bQ w S ep es).toList.length=es.size:=by rw [Array.length_toList,g8]
 have he18:es.size<=18:=by rcases g.msk with z|z <;> omega
 generalize hvs:(bQ w S ep es).toList.map (·.2)=vs
 have hvl:vs.length=es.size:=by rw [<- hvs,List.length_map,hlen]
 have hkeys:vs.map (ck prog w s.heap)=L1:=by rw [<- hvs]; exact pS x1
 have hvals:∀ v∈vs,∃ c,v=.ref c/\TK prog w s.heap (ck prog w s.heap v) c/\ck prog w s.heap v∈L1:=by rw [<- hvs]; exact pq x1
 have up:∀ {ks:List Int} {c:Addr},TK prog w s.heap ks c->TK prog w h1 ks c/\c < s.heap.objs.size:=fun {ks c} z=>by
  obtain ⟨oc,its,m,z1,z2⟩:=z
  exact ⟨⟨oc,its,m,k1 c oc (Heap.lt_size z1) z1,z2⟩,Heap.lt_size z1⟩
 refine wpAny_bind (wpAny_newList ?_)
 have gR:(h1.push (seqObj "list" vs.toArray 0)).get? h1.objs.size=some (seqObj "list" vs.toArray 0):=Heap.get?_push_size _ rfl
 refine wpAny_bind (wpAny_holding (wpAny_call_entry slot_list_sort ⟨_,gR,rfl⟩ entry_list_sort (pL (s:={ s with heap:=h1.push (seqObj "list" vs.toArray 0),toks:=tk }) (key:=ck prog w s.heap) gR (fun v m=>?_) (by rw [hkeys]; exact y1.nodup_iff.mpr hnd) (by omega) fun out po so=>⟨_,rfl,?_⟩) (args_list_sort _)))
 ·obtain ⟨c,e,z,m2⟩:=hvals v m
  refine ⟨c,e,d_ (up z).1 fun oc e=>Heap.get?_push_of_some _ e,hne _ (y1.mem_iff.mp m2)⟩
 ·refine wpAny_pure ⟨_,rfl,?_⟩
  have old:∀ b o,b < s.heap.objs.size->s.heap.get? b=some o->(sortedHeap (h1.push (seqObj "list" vs.toArray 0)) h1.objs.size vs out.toArray).get? b=some o:=fun b o hb e =>
   (sortedHeap_old (Nat.ne_of_lt (Nat.lt_trans hb hle)) (by rw [Heap.size_push]; exact Nat.lt_succ_of_lt (Nat.lt_trans hb hle))).trans (Heap.get?_push_of_some _ (k1 b o hb e))
  obtain ⟨n,hn⟩:=sortedHeap_at (vs:=vs) (out:=out.toArray) gR
  refine q _ tk h1.objs.size (out.map (ck prog w s.heap)) (Nat.le_of_lt hle) ⟨out,n,hn,(List.length_map _).symm,fun i v k e1 e2=>?_⟩ so (fun y=>?_) old
  ·rw [List.getElem?_map,e1] at e2
   have mv:=po.mem_iff.mp (List.mem_of_getElem? e1)
   obtain ⟨c,e,z,_⟩:=hvals v mv
   have hc:lim c:=by
    rw [<- hvs] at mv
    obtain ⟨en,m1,m2⟩:=List.mem_map.mp mv
    exact hlim en ((jX w S ep es).mem_iff.mp m1) c (m2.trans e)
   have e3:ck prog w s.heap v=k:=Option.some.inj e2
   rw [e3] at z
   exact ⟨c,e,Nat.ne_of_lt (Nat.lt_trans (up z).2 hle),hc,d_ z fun oc e=>old c oc (Heap.lt_size e) e⟩
  ·rw [(po.map _).mem_iff,hkeys]
   exact y1.mem_iff
end
end TB

namespace TB
open PySem PyProof.Rows
section
variable {prog:Program} {w:World} {A:Around} {E:Value->Shared->Prop} {s:Shared} {l:Addr} {vs:List Value} {T:String}
noncomputable def Sq2 (h:Heap) (l:Addr) (vs:List Value):Prop:=∃ T o n,(T = "list"\/T = "tuple")/\h.get? l=some o/\o.cls=.type T/\o.data=.seq vs.toArray n
noncomputable def gu (h:Heap) (vs:List Value):Heap:=(h.push (seqObj "list" #[] 0)).update h.objs.size (Obj.mapSeq (·++vs.toArray))
noncomputable def jr (h:Heap) (vs:List Value):Heap:=(gu h vs).push (seqObj "list" vs.toArray 0)
theorem gather {Q:List Value->Shared->Prop} (x:Sq2 s.heap l vs) (hz:vs.length<=sizeLine) (q:Q vs { s with heap:=gu s.heap vs }):wpAny (model prog w) A (collect (.ref l)) Q E s:=by
 obtain ⟨T,o,n,hT,e1,e2,e3⟩:=x
 unfold collect
 apply wpAny_bind; apply wpAny_runValue; apply codeAny_builtin entry_proto_collect'
 show wpAny _ _ (do again (.builtin "list.__iadd__" ⟨[<- newList [],.ref l],[]⟩)) _ _ s
 apply wpAny_bind; refine wpAny_newList ?_ (Nat.zero_le _); apply wpAny_pure
 refine ⟨Code.quiet_builtin _ (by decide +kernel),?_⟩
 apply codeAny_builtin entry_list_iadd'
 show wpAny _ _ (Builtin.List.listExtendWith (.ref s.heap.objs.size) (.ref l) (.ref s.heap.objs.size)) _ _ { s with heap:=s.heap.push (seqObj "list" #[] 0) }
 unfold Builtin.List.listExtendWith
 have e4:(s.heap.push (seqObj "list" #[] 0)).get? l=some o:=Heap.get?_push_of_some _ e1
 have e5:(s.heap.push (seqObj "list" #[] 0)).get? s.heap.objs.size=some (seqObj "list" #[] 0):=Heap.get?_push_size _ rfl
 refine wpAny_bind (wpAny_typeOf (T:=T) ⟨o,e4,e2⟩ ?_)
 have e7:∀ b:Bool,(b||Value.type T==Value.type "list"||Value.type T==Value.type "tuple")=true:=fun b=>by
  rcases hT with rfl|rfl
  ·rw [show (Value.type "list"==Value.type "list")=true from rfl,Bool.or_true,Bool.true_or]
  ·rw [show (Value.type "tuple"==Value.type "tuple")=true from rfl,Bool.or_true]
 rw [if_pos (e7 _)]
 refine wpAny_bind (listItems_at e4 e3 ?_)
 refine wpAny_bind (listItems_at e5 rfl ?_)
 rw [if_neg (by simp)]
 refine wpAny_bind (listUpdate_at e5 rfl ?_ (Nat.zero_le _) ?_)
 ·refine wpAny_pure ?_
  show wpAny (model prog w) A (do
    let o <- load s.heap.objs.size
    match o.data with
    | .seq xs _=>pure xs.toList
    | _=>unsupported "internal:collect") Q E { s with heap:=gu s.heap vs }
  refine wpAny_bind (wpAny_load (get?_update_seq e5 _) ?_)
  show wpAny _ _ (pure ((#[]:Array Value)++vs.toArray).toList) Q E _
  have e6:((#[]:Array Value)++vs.toArray).toList=vs:=by simp
  rw [e6]
  exact wpAny_pure q
 ·show (#[]++vs.toArray).size<=sizeLine+1
  simp only [Array.size_append,List.size_toArray,List.length_nil]
  omega
theorem ow (h:Heap) (vs:List Value):(gu h vs).objs.size=h.objs.size+1:=by unfold gu; rw [Heap.size_update,size_push']
theorem l6 (h:Heap) (vs:List Value):(jr h vs).get? (h.objs.size+1)=some (seqObj "list" vs.toArray 0):=by rw [<- ow h vs]; exact Heap.get?_push_size _ rfl
theorem zW {h:Heap} {vs:List Value} {b:Addr} {o:Obj} (e:h.get? b=some o):(jr h vs).get? b=some o:=by
 have hb:b≠h.objs.size:=Nat.ne_of_lt (Heap.lt_size e)
 refine Heap.get?_push_of_some _ ?_
 unfold gu
 rw [Heap.get?_update_ne _ _ _ _ hb]
 exact Heap.get?_push_of_some _ e
theorem sO {R:List Value->Prop} {Q:Value->Shared->Prop} (x:Sq2 s.heap l vs) (hz:vs.length<=sizeLine)
  (k:∀ (A':Around) (E':Value->Shared->Prop) (P:Fin->Shared->Prop),(∀ out:List Value,R out->P (.done (.ret .none)) { s with heap:=sortedAll s.heap vs out.toArray })->wpAny (model prog w) A' (Builtin.«list.sort» ⟨[.ref (s.heap.objs.size+1)],[]⟩) P E' { s with heap:=jr s.heap vs })
  (q:∀ out:List Value,R out->Q (.ref (s.heap.objs.size+1)) { s with heap:=sortedAll s.heap vs out.toArray }):wpAny (model prog w) A (call (.builtin "sorted") [.ref l]) Q E s:=by
 apply Calls.call_function_entry kind_sorted plain_sorted entry_sorted (args_sorted1 _)
 unfold Builtin.«sorted»
 apply wpAny_bind (m:=checkCount "sorted" 1 1 _); apply wpAny_pure
 refine wpAny_bind (gather x hz ?_)
 apply wpAny_bind; refine wpAny_newList ?_ hz
 show wpAny _ _ _ _ _ { s with heap:=jr s.heap vs }
 rw [ow]
 refine wpAny_bind (wpAny_holding (wpAny_call_entry slot_list_sort ⟨_,l6 _ _,rfl⟩ entry_list_sort (k _ _ _ fun out ro=>⟨_,rfl,?_⟩) (args_list_sort _)))
 exact wpAny_pure ⟨_,rfl,q out ro⟩
theorem yi {ns:List Int} {Q:Value->Shared->Prop} (x:Sq2 s.heap l vs) (hI:IntsAre vs ns) (h6:vs.length < 64)
  (q:∀ (out:List Value) (ns':List Int),IntsAre out ns'->ns'.Perm ns->ns'.Pairwise (·<=·)->Q (.ref (s.heap.objs.size+1)) { s with heap:=sortedAll s.heap vs out.toArray }):wpAny (model prog w) A (call (.builtin "sorted") [.ref l]) Q E s :=
 sO (R:=fun out=>∃ ns',IntsAre out ns'/\ns'.Perm ns/\ns'.Pairwise (·<=·)) x (by rw [sizeLine_eq]; omega)
  (fun A' E' P h=>list_sort_tree (l6 _ _) hI h6 fun out ns' a1 a2 a3=>h out.toList ⟨ns',a1,a2,a3⟩)
  fun out ⟨ns',a1,a2,a3⟩=>q out ns' a1 a2 a3
theorem uV {key:Value->List Int} {Q:Value->Shared->Prop} (x:Sq2 s.heap l vs) (hv:∀ v∈vs,∃ c,v=.ref c/\TK prog w s.heap (key v) c/\key v≠[]) (hd:(vs.map key).Nodup) (h6:vs.length < 64)
  (q:∀ out:List Value,out.Perm vs->(out.map key).Pairwise (fun x y=>az x y=true)->Q (.ref (s.heap.objs.size+1)) { s with heap:=sortedAll s.heap vs out.toArray }):wpAny (model prog w) A (call (.builtin "sorted") [.ref l]) Q E s :=
 sO (R:=fun out=>out.Perm vs/\(out.map key).Pairwise (fun x y=>az x y=true)) x (by rw [sizeLine_eq]; omega)
  (fun A' E' P h=>pL (l6 _ _) (fun v m=>let ⟨c,e,t,n⟩:=hv v m; ⟨c,e,d_ t fun oc e=>zW e,n⟩) hd h6 fun out a1 a2=>h out ⟨a1,a2⟩)
  fun out ⟨a1,a2⟩=>q out a1 a2
end
end TB

namespace ENM
open PySem PyProof.Rows
open AutoSeq1 (wpAny_loadPart')
theorem Seq.keep {tup:Bool} {h h':Heap} {a:Addr} {us:Array Value} (x:Seq tup h a us) (e:∀ o,h.get? a=some o->h'.get? a=some o):Seq tup h' a us:=by
 cases tup with
 | true=>obtain ⟨o,ho,r⟩:=(show h.IsTuple a us from x); exact ⟨o,e _ ho,r⟩
 | false=>obtain ⟨o,ho,r⟩:=(show h.IsList a us from x); exact ⟨o,e _ ho,r⟩
section
variable {prog:Program} {w:World} {A:Around} {E:Value->Shared->Prop} {s:Shared}
variable {ta tb:Bool} {c pI pO i j a b:Addr} {m n:Nat} {us vs:Array Value} {u v old1 old2:Value}
theorem vE {Q:Value->Shared->Prop} (ap:ZipApart c pI pO i j a b) (hc:IsZip s.heap c pI pO .none) (hI:IsPair s.heap pI (.ref i) (.ref j)) (hO:IsPair s.heap pO old1 old2)
  (h1:Inn ta s.heap i a m) (h2:Inn tb s.heap j b n) (s1:Seq ta s.heap a us) (s2:Seq tb s.heap b vs) (hu:us[m]?=some u) (hv:vs[n]?=some v)
  (fin:∀ h',IsZip h' c pI pO (rawInt s.heap.objs.size)->IsPair h' pO u v->Inn ta h' i a (m+1)->Inn tb h' j b (n+1)->IsPair h' s.heap.objs.size u v->h'.objs.size=s.heap.objs.size+1 ->
   (∀ d o,d≠c->d≠pO->d≠i->d≠j->s.heap.get? d=some o->h'.get? d=some o)->Q (.ref s.heap.objs.size) { s with heap:=h' }) :
  wpAny (model prog w) A (Builtin.«zip.__next__» ⟨[.ref c],[]⟩) (fun e z=>∃ r,e=.done (.ret r)/\Q r z) E s:=by
 show wpAny _ _ (field (.ref c) 2>>=_) _ _ s
 refine wpAny_bind (wpAny_field hc rfl (x:=.bool false) rfl ?_)
 show wpAny _ _ (field (.ref c) 3>>=_) _ _ s
 refine wpAny_bind (wpAny_field hc rfl (x:=.ref pI) rfl ?_)
 refine wpAny_bind (wpAny_seqItems hI rfl ?_)
 show wpAny _ _ (Builtin.SmallTypes.ownedTupleIsFree (.ref c)>>=_) _ _ s
 refine wpAny_bind ?_
 unfold Builtin.SmallTypes.ownedTupleIsFree
 refine wpAny_bind (wpAny_field hc rfl (x:=.none) rfl (wpAny_pure ?_))
 simp only [if_true]
 refine wpAny_bind (wpAny_rule (wpAny_bind (wpAny_field hc rfl (x:=.ref pO) rfl ?_)))
 refine wpAny_bind (wpAny_setField_rec hc (by simp) fun f1 c1 e1=>?_)
 replace c1:IsZip f1 c pI pO .ellipsis:=c1
 refine wpAny_bind ?_
 simp only [List.zipIdx_cons,List.zipIdx_nil,List.forIn_cons,List.forIn_nil]
 refine wpAny_bind (wpAny_bind (wpAny_onRaise (show wpAny _ _ (Builtin.SmallTypes.nextOf (.ref i)>>=_) _ _ _ from ?_)))
 refine wpAny_bind (iW (s:={ s with heap:=f1 }) (h1.keep fun o z=>e1.extBut _ o ap.i1z z) (s1.keep fun o z=>e1.extBut _ o ap.l1z z) hu fun f2 k2 e2=>wpAny_pure ?_)
 replace e2:Heap.SameBut i f1 f2:=e2
 have O2:IsPair f2 pO old1 old2:=e2.extBut _ _ ap.TOi1 (e1.extBut _ _ ap.TOz hO)
 refine wpAny_bind (wpAny_seqItems O2 rfl (wpAny_bind (wpAny_updateSeq_pair O2 fun f3 O3 e3=>?_)))
 replace O3:IsPair f3 pO u old2:=O3
 replace e3:Heap.SameBut pO f2 f3:=e3
 refine wpAny_bind (wpAny_letGo (wpAny_pure (wpAny_bind (wpAny_bind (wpAny_onRaise (show wpAny _ _ (Builtin.SmallTypes.nextOf (.ref j)>>=_) _ _ _ from ?_))))))
 refine wpAny_bind (iW (s:={ s with heap:=f3 }) (h2.keep fun o z=>e3.extBut _ o ap.TOi2.symm (e2.extBut _ o ap.i12.symm (e1.extBut _ o ap.i2z z))) (s2.keep fun o z=>e3.extBut _ o ap.l2TO (e2.extBut _ o ap.l2i1 (e1.extBut _ o ap.l2z z))) hv fun f4 k4 e4=>wpAny_pure ?_)
 replace e4:Heap.SameBut j f3 f4:=e4
 have O4:IsPair f4 pO u old2:=e4.extBut _ _ ap.TOi2 O3
 refine wpAny_bind (wpAny_seqItems O4 rfl (wpAny_bind (wpAny_updateSeq_pair O4 fun f5 O5 e5=>?_)))
 replace O5:IsPair f5 pO u v:=O5
 replace e5:Heap.SameBut pO f4 f5:=e5
 refine wpAny_bind (wpAny_letGo (wpAny_pure (wpAny_pure (wpAny_bind (wpAny_seqItems O5 rfl (wpAny_bind (wpAny_newTuple ?_)))))))
 have sz:f5.objs.size=s.heap.objs.size:=by rw [e5.1,e4.1,e3.1,e2.1]; exact e1.1
 have c5:IsZip f5 c pI pO .ellipsis:=e5.extBut _ _ ap.TOz.symm (e4.extBut _ _ ap.i2z.symm (e3.extBut _ _ ap.TOz.symm (e2.extBut _ _ ap.i1z.symm c1)))
 have k5:∀ d o,d≠c->d≠pO->d≠i->d≠j->s.heap.get? d=some o->f5.get? d=some o:=fun d o d1 d2 d3 d4 z=>e5.extBut _ _ d2 (e4.extBut _ _ d4 (e3.extBut _ _ d2 (e2.extBut _ _ d3 (e1.extBut _ _ d1 z))))
 have I5:Inn ta f5 i a (m+1):=k2.keep fun o z=>e5.extBut _ o ap.TOi1.symm (e4.extBut _ o ap.i12 (e3.extBut _ o ap.TOi1.symm z))
 have J5:Inn tb f5 j b (n+1):=k4.keep fun o z=>e5.extBut _ o ap.TOi2.symm z
 have clt:c < f5.objs.size:=Heap.lt_size c5
 show wpAny _ _ (Builtin.SmallTypes.ownedTupleHandOut (.ref c) (.ref f5.objs.size)>>=_) _ _ _
 refine wpAny_bind ?_
 unfold Builtin.SmallTypes.ownedTupleHandOut
 have c6:IsZip (f5.push { cls:=.type "tuple",data:=.seq #[u,v] }) c pI pO .ellipsis:=Heap.get?_push_of_some _ c5
 refine wpAny_bind (wpAny_setField_rec c6 (by simp) fun f7 c7 e7=>?_)
 replace c7:IsZip f7 c pI pO (rawInt f5.objs.size):=c7
 refine wpAny_setField_rec c7 (by simp) fun f8 c8 e8=>?_
 replace c8:IsZip f8 c pI pO (rawInt f5.objs.size):=c8
 replace e7:Heap.SameBut c (f5.push { cls:=.type "tuple",data:=.seq #[u,v] }) f7:=e7
 replace e8:Heap.SameBut c f7 f8:=e8
 have up:∀ d o,d≠c->f5.get? d=some o->f8.get? d=some o:=fun d o dc z=>e8.extBut _ _ dc (e7.extBut _ _ dc (Heap.get?_push_of_some _ z))
 have T8:IsPair f8 f5.objs.size u v:=e8.extBut _ _ (Nat.ne_of_gt clt) (e7.extBut _ _ (Nat.ne_of_gt clt) (Heap.get?_push_size _ rfl))
 have s8:f8.objs.size=f5.objs.size+1:=by rw [e8.1,e7.1,Heap.size_push]
 rw [sz] at c8 T8 s8
 refine wpAny_pure ⟨_,rfl,(show Q (.ref f5.objs.size) _ from ?_)⟩
 rw [sz]
 exact fin f8 c8 (up _ _ ap.TOz O5) (I5.keep fun o z=>up _ o ap.i1z z) (J5.keep fun o z=>up _ o ap.i2z z) T8 s8 fun d o d1 d2 d3 d4 z=>up d o d1 (k5 d o d1 d2 d3 d4 z)
theorem xA {Q:Fin->Shared->Prop} (calm:A.handled=none) (ap:ZipApart c pI pO i j a b) (hc:IsZip s.heap c pI pO .none) (hI:IsPair s.heap pI (.ref i) (.ref j)) (hO:IsPair s.heap pO old1 old2)
  (h1:Inn ta s.heap i a m) (h2:Inn tb s.heap j b n) (s1:Seq ta s.heap a us) (s2:Seq tb s.heap b vs) (he:us[m]?=none\/vs[n]?=none)
  (fin:∀ h' e,(∀ d o,d≠c->d≠pO->d≠i->d≠j->s.heap.get? d=some o->h'.get? d=some o)->(∃ o,h'.get? e=some o/\o.cls=.type "StopIteration")->E (.ref e) { s with heap:=h' }) :
  wpAny (model prog w) A (Builtin.«zip.__next__» ⟨[.ref c],[]⟩) Q E s:=by
 show wpAny _ _ (field (.ref c) 2>>=_) _ _ s
 refine wpAny_bind (wpAny_field hc rfl (x:=.bool false) rfl ?_)
 show wpAny _ _ (field (.ref c) 3>>=_) _ _ s
 refine wpAny_bind (wpAny_field hc rfl (x:=.ref pI) rfl ?_)
 refine wpAny_bind (wpAny_seqItems hI rfl ?_)
 show wpAny _ _ (Builtin.SmallTypes.ownedTupleIsFree (.ref c)>>=_) _ _ s
 refine wpAny_bind ?_
 unfold Builtin.SmallTypes.ownedTupleIsFree
 refine wpAny_bind (wpAny_field hc rfl (x:=.none) rfl (wpAny_pure ?_))
 simp only [if_true]
 refine wpAny_bind (wpAny_rule (wpAny_bind (wpAny_field hc rfl (x:=.ref pO) rfl ?_)))
 refine wpAny_bind (wpAny_setField_rec hc (by simp) fun f1 c1 e1=>?_)
 replace c1:IsZip f1 c pI pO .ellipsis:=c1
 refine wpAny_bind ?_
 simp only [List.zipIdx_cons,List.zipIdx_nil,List.forIn_cons,List.forIn_nil]
 refine wpAny_bind (wpAny_bind (wpAny_onRaise (show wpAny _ _ (Builtin.SmallTypes.nextOf (.ref i)>>=_) _ _ _ from ?_)))
 have g1:Inn ta f1 i a m:=h1.keep fun o z=>e1.extBut _ o ap.i1z z
 have q1:Seq ta f1 a us:=s1.keep fun o z=>e1.extBut _ o ap.l1z z
 cases hu:us[m]? with
 | none =>
  refine wpAny_bind (j7 (s:={ s with heap:=f1 }) calm g1 q1 hu fun f2 e e2 ⟨oe,w1,w2⟩=>?_)
  replace e2:Heap.ExtBut i f1 f2:=e2
  have c2:IsZip f2 c pI pO .ellipsis:=e2 _ _ ap.i1z.symm c1
  have ne:e≠c:=fun z=>by rw [z] at w1; rw [c2] at w1; cases w1; simp at w2
  refine wpAny_setField_rec c2 (by simp) fun f3 _ e3=>fin f3 e (fun d o d1 _ d3 _ z=>e3.extBut _ _ d1 (e2 _ _ d3 (e1.extBut _ _ d1 z))) ⟨oe,e3.extBut _ _ ne w1,w2⟩
 | some u =>
  have hv:vs[n]?=none:=he.resolve_left fun z=>by rw [hu] at z; cases z
  refine wpAny_bind (iW (s:={ s with heap:=f1 }) g1 q1 hu fun f2 k2 e2=>wpAny_pure ?_)
  replace e2:Heap.SameBut i f1 f2:=e2
  have O2:IsPair f2 pO old1 old2:=e2.extBut _ _ ap.TOi1 (e1.extBut _ _ ap.TOz hO)
  refine wpAny_bind (wpAny_seqItems O2 rfl (wpAny_bind (wpAny_updateSeq_pair O2 fun f3 O3 e3=>?_)))
  replace e3:Heap.SameBut pO f2 f3:=e3
  refine wpAny_bind (wpAny_letGo (wpAny_pure (wpAny_bind (wpAny_bind (wpAny_onRaise (show wpAny _ _ (Builtin.SmallTypes.nextOf (.ref j)>>=_) _ _ _ from ?_))))))
  refine wpAny_bind (j7 (s:={ s with heap:=f3 }) calm (h2.keep fun o z=>e3.extBut _ o ap.TOi2.symm (e2.extBut _ o ap.i12.symm (e1.extBut _ o ap.i2z z))) (s2.keep fun o z=>e3.extBut _ o ap.l2TO (e2.extBut _ o ap.l2i1 (e1.extBut _ o ap.l2z z))) hv fun f4 e e4 ⟨oe,w1,w2⟩=>?_)
  replace e4:Heap.ExtBut j f3 f4:=e4
  have c4:IsZip f4 c pI pO .ellipsis:=e4 _ _ ap.i2z.symm (e3.extBut _ _ ap.TOz.symm (e2.extBut _ _ ap.i1z.symm c1))
  have ne:e≠c:=fun z=>by rw [z] at w1; rw [c4] at w1; cases w1; simp at w2
  refine wpAny_setField_rec c4 (by simp) fun f5 _ e5=>fin f5 e (fun d o d1 d2 d3 d4 z=>e5.extBut _ _ d1 (e4 _ _ d4 (e3.extBut _ _ d2 (e2.extBut _ _ d3 (e1.extBut _ _ d1 z))))) ⟨oe,e5.extBut _ _ ne w1,w2⟩
theorem Bl {Q:Option Value->Shared->Prop} (ap:ZipApart c pI pO i j a b) (hc:IsZip s.heap c pI pO .none) (hI:IsPair s.heap pI (.ref i) (.ref j)) (hO:IsPair s.heap pO old1 old2)
  (h1:Inn ta s.heap i a m) (h2:Inn tb s.heap j b n) (s1:Seq ta s.heap a us) (s2:Seq tb s.heap b vs) (hu:us[m]?=some u) (hv:vs[n]?=some v)
  (fin:∀ h',IsZip h' c pI pO (rawInt s.heap.objs.size)->IsPair h' pO u v->Inn ta h' i a (m+1)->Inn tb h' j b (n+1)->IsPair h' s.heap.objs.size u v->h'.objs.size=s.heap.objs.size+1 ->
   (∀ d o,d≠c->d≠pO->d≠i->d≠j->s.heap.get? d=some o->h'.get? d=some o)->Q (some (.ref s.heap.objs.size)) { s with heap:=h' }) :
  wpAny (model prog w) A (pyNext (.ref c)) Q E s:=by
 have ty:s.TypeIs (.ref c) "zip":=⟨_,hc,rfl⟩
 unfold pyNext
 exact wpAny_bind (wpAny_attempt (wpAny_callSpecial?_slot (name:=Str.ofString "__next__") ty F.slot_zip_next (wpAny_call_entry F.slot_zip_next ty F.entry_zip_next
  (vE ap hc hI hO h1 h2 s1 s2 hu hv fun h' x1 x2 x3 x4 x5 x6 x7=>wpAny_pure (fin h' x1 x2 x3 x4 x5 x6 x7)) (F.args_zip_next_1 _))))
theorem tU {Q:Option Value->Shared->Prop} (calm:A.handled=none) (ap:ZipApart c pI pO i j a b) (hc:IsZip s.heap c pI pO .none) (hI:IsPair s.heap pI (.ref i) (.ref j)) (hO:IsPair s.heap pO old1 old2)
  (h1:Inn ta s.heap i a m) (h2:Inn tb s.heap j b n) (s1:Seq ta s.heap a us) (s2:Seq tb s.heap b vs) (he:us[m]?=none\/vs[n]?=none)
  (fin:∀ h',(∀ d o,d≠c->d≠pO->d≠i->d≠j->s.heap.get? d=some o->h'.get? d=some o)->Q none { s with heap:=h' }):wpAny (model prog w) A (pyNext (.ref c)) Q E s:=by
 have ty:s.TypeIs (.ref c) "zip":=⟨_,hc,rfl⟩
 unfold pyNext
 refine wpAny_bind (wpAny_attempt (wpAny_callSpecial?_slot (name:=Str.ofString "__next__") ty F.slot_zip_next (wpAny_call_entry F.slot_zip_next ty F.entry_zip_next
  (xA calm ap hc hI hO h1 h2 s1 s2 he fun h' e hk ⟨o,w1,w2⟩=>?_) (F.args_zip_next_1 _))))
 refine wpAny_bind (wpAny_isInstance (T:="StopIteration") (b:=true) ⟨o,w1,w2⟩ isSubtype_stop (wpAny_pure (fin _ hk)))
noncomputable def itN:Bool->String
 | true=>"tuple_iterator"
 | false=>"list_iterator"
abbrev itO (t:Bool) (x:Addr):Obj:={ cls:=.type (itN t),data:=.fields #[.ref x,.int 0 0] }
theorem rQ {t:Bool} {x:Addr} {ws:Array Value} {Q:Value->Shared->Prop} (h:Seq t s.heap x ws) (q:Q (.ref s.heap.objs.size) { s with heap:=s.heap.push (itO t x) }):wpAny (model prog w) A (pyIter (.ref x)) Q E s:=by
 cases t with
 | true=>exact wpAny_pyIter_tuple h q
 | false=>exact wpAny_pyIter_list h q
theorem qI (t:Bool) (h:Heap) (x:Addr):Inn t (h.push (itO t x)) h.objs.size x 0:=by
 cases t with
 | true=>exact ⟨_,Heap.get?_push_size _ rfl,rfl,rfl⟩
 | false=>exact ⟨_,Heap.get?_push_size _ rfl,rfl,rfl⟩
abbrev zp2 (ta tb:Bool) (h:Heap) (a b:Addr):Heap:=(h.push (itO ta a)).push (itO tb b)
abbrev zp3 (ta tb:Bool) (h:Heap) (a b:Addr):Heap:=(zp2 ta tb h a b).push { cls:=.type "tuple",data:=.seq #[.ref h.objs.size,.ref (h.push (itO ta a)).objs.size] }
abbrev zp4 (ta tb:Bool) (h:Heap) (a b:Addr):Heap:=(zp3 ta tb h a b).push { cls:=.type "tuple",data:=.seq #[.none,.none] }
abbrev zp5 (ta tb:Bool) (h:Heap) (a b:Addr):Heap:=(zp4 ta tb h a b).push { cls:=.type "zip",data:=.fields #[.none,.bool false,.bool false,.ref (zp2 ta tb h a b).objs.size,.ref (zp3 ta tb h a b).objs.size] }
theorem vA (ta tb:Bool) (a b:Addr) (us vs:Array Value) :
  Meets (Builtin.«zip.__new__» ⟨[.type "zip",.ref a,.ref b],[]⟩) (fun _ R s=>Seq ta s.heap a us/\Seq tb s.heap b vs/\R (.ok (.ret (.ref (zp4 ta tb s.heap a b).objs.size))) { s with heap:=zp5 ta tb s.heap a b }) :=
 .of_wp fun prog w A R s h=>by
  obtain ⟨hp,g,d,tk,os⟩:=s
  obtain ⟨s1,s2,h⟩:=h
  have ks:=sub_zip
  have i1:∀ {Q:Value->Shared->Prop} {A E},Q (.ref hp.objs.size) ⟨hp.push (itO ta a),g,d,tk,os⟩->wpAny (model prog w) A (pyIter (.ref a)) Q E ⟨hp,g,d,tk,os⟩:=fun q=>rQ (s:=⟨hp,g,d,tk,os⟩) s1 q
  have i2:∀ {Q:Value->Shared->Prop} {A E},Q (.ref (hp.push (itO ta a)).objs.size) ⟨zp2 ta tb hp a b,g,d,tk,os⟩->wpAny (model prog w) A (pyIter (.ref b)) Q E ⟨hp.push (itO ta a),g,d,tk,os⟩:=fun q=>rQ (s:=⟨hp.push (itO ta a),g,d,tk,os⟩) (s2.keep fun o e=>Heap.get?_push_of_some _ e) q
  wp_walk using i1,i2
  exact ⟨_,rfl,h⟩
theorem DS {Q:Value->Shared->Prop} (s1:Seq ta s.heap a us) (s2:Seq tb s.heap b vs)
  (q:∀ h',IsZip h' (s.heap.objs.size+4) (s.heap.objs.size+2) (s.heap.objs.size+3) .none->IsPair h' (s.heap.objs.size+2) (.ref s.heap.objs.size) (.ref (s.heap.objs.size+1))->IsPair h' (s.heap.objs.size+3) .none .none ->
   Inn ta h' s.heap.objs.size a 0->Inn tb h' (s.heap.objs.size+1) b 0->(∀ d o,s.heap.get? d=some o->h'.get? d=some o)->Q (.ref (s.heap.objs.size+4)) { s with heap:=h' }) :
  wpAny (model prog w) A (call (.type "zip") [.ref a,.ref b]) Q E s:=by
 refine callType_new F.called_zip (by decide) (F.typeCall_zip_2 _ _) (F.newCall_zip_2 _ _) (fun x=>F.args_object_init_3 x _ _) F.entry_zip_new (vA ta tb a b us vs) ⟨s1,s2,?_⟩
 have n1:(s.heap.push (itO ta a)).objs.size=s.heap.objs.size+1:=Heap.size_push ..
 have n2:(zp2 ta tb s.heap a b).objs.size=s.heap.objs.size+2:=by rw [Heap.size_push,n1]
 have n3:(zp3 ta tb s.heap a b).objs.size=s.heap.objs.size+3:=by rw [Heap.size_push,n2]
 have n4:(zp4 ta tb s.heap a b).objs.size=s.heap.objs.size+4:=by rw [Heap.size_push,n3]
 have x5:(zp5 ta tb s.heap a b).get? (zp4 ta tb s.heap a b).objs.size=some _:=Heap.get?_push_size _ rfl
 have x4:(zp5 ta tb s.heap a b).get? (zp3 ta tb s.heap a b).objs.size=some _:=Heap.get?_push_of_some _ (Heap.get?_push_size _ rfl)
 have x3:(zp5 ta tb s.heap a b).get? (zp2 ta tb s.heap a b).objs.size=some _:=Heap.get?_push_of_some _ (Heap.get?_push_of_some _ (Heap.get?_push_size _ rfl))
 have x2:Inn tb (zp5 ta tb s.heap a b) (s.heap.push (itO ta a)).objs.size b 0:=(qI tb (s.heap.push (itO ta a)) b).keep fun o e=>Heap.get?_push_of_some _ (Heap.get?_push_of_some _ (Heap.get?_push_of_some _ e))
 have x1:Inn ta (zp5 ta tb s.heap a b) s.heap.objs.size a 0:=(qI ta s.heap a).keep fun o e=>Heap.get?_push_of_some _ (Heap.get?_push_of_some _ (Heap.get?_push_of_some _ (Heap.get?_push_of_some _ e)))
 show _/\_
 rw [n2,n3,n4] at x5
 rw [n1,n2] at x3
 rw [n3] at x4
 rw [n1] at x2
 rw [n4]
 exact ⟨⟨_,x5,rfl⟩,q _ x5 x3 x4 x1 x2 fun d o e=>Heap.get?_push_of_some _ (Heap.get?_push_of_some _ (Heap.get?_push_of_some _ (Heap.get?_push_of_some _ (Heap.get?_push_of_some _ e))))⟩
end
end ENM
namespace L2
open PySem PySem.Spec PyProof.Rows ENM
noncomputable def Itz (K:PySem.W.Frag) (ta tb:Bool) (a b:Addr):It :=
 ⟨fun i H=>∃ xs ys x y,SqB K H ta a xs/\SqB K H tb b ys/\xs[i]?=some x/\ys[i]?=some y,
  fun i H x H'=>∃ u v p,(∀ xs,SqB K H ta a xs->xs[i]?=some u)/\(∀ ys,SqB K H tb b ys->ys[i]?=some v)/\H p=none/\H'=upd H p (.tup [u,v])/\x=.ref p,
  fun i H=>∃ xs ys,SqB K H ta a xs/\SqB K H tb b ys/\(xs.length<=i\/ys.length<=i)⟩
theorem E4 {P:Program} {w:World} {K:PySem.W.Frag} {elts:List Expr} {k1:Nat} {tp:Pos} (ta tb:Bool) {a b c pI pO it jt:Addr} (ap:ZipApart c pI pO it jt a b) :
  Turn P w K (.Tuple elts k1 tp) (Itz K ta tb a b) [c,pI,pO,it,jt] c (fun i h=>IsZip h c pI pO .none/\IsPair h pI (.ref it) (.ref jt)/\(∃ x y,IsPair h pO x y)/\Inn ta h it a i/\Inn tb h jt b i) where
 mem:=by simp
 obj:=fun i h ⟨z1,z2,⟨x,y,z3⟩,z4,z5⟩ d hd=>by
  simp only [List.mem_cons,List.mem_nil_iff,or_false] at hd
  rcases hd with rfl|rfl|rfl|rfl|rfl
  ·exact ⟨_,z1,fun v z=>by
    have z':Data.fields _=Data.cell v:=z
    cases z'⟩
  ·exact ⟨_,z2,fun v z=>by
    have z':Data.seq _ _=Data.cell v:=z
    cases z'⟩
  ·exact ⟨_,z3,fun v z=>by
    have z':Data.seq _ _=Data.cell v:=z
    cases z'⟩
  ·exact z4.there
  ·exact z5.there
 keep:=fun i h h' ⟨z1,z2,⟨x,y,z3⟩,z4,z5⟩ k =>
  ⟨k c (by simp) _ z1,k pI (by simp) _ z2,⟨x,y,k pO (by simp) _ z3⟩,z4.keep fun o e=>k it (by simp) o e,z5.keep fun o e=>k jt (by simp) o e⟩
 item:=by
  intro X hP hw hK hc i pins s σ H E I hf st hg
  subst hP hw hK
  obtain ⟨z1,z2,⟨x0,y0,z3⟩,z4,z5⟩:=st
  obtain ⟨xs,ys,x,y,sq1,sq2,hx,hy⟩:=hg
  obtain ⟨its,rv,hs⟩:=I.dG sq1
  obtain ⟨jts,rw',hs2⟩:=I.dG sq2
  obtain ⟨u,hu,ru⟩:=rv.get hx
  obtain ⟨v,hv,rv'⟩:=rw'.get hy
  refine Bl ap z1 z2 z3 z4 z5 hs hs2 (u:=u) (v:=v) (by simpa using hu) (by simpa using hv) fun h' a1 a2 a3 a4 a5 a6 hk=>?_
  refine ⟨_,rfl,wpAny_letOwnedTupleGo_zip a1 fun h2 he2 sb2=>?_⟩
  replace sb2:Heap.SameBut c h' h2:=sb2
  have clt:c < s.heap.objs.size:=Heap.lt_size z1
  have hp:H s.heap.objs.size=none:=I.hok.fresh (Nat.le_refl _)
  have kept:∀ d o,d ∉ [c,pO,it,jt]->s.heap.get? d=some o->h2.get? d=some o:=fun d o hd e =>
   sb2.extBut d o (fun z=>hd (by simp [z])) (hk d o (fun z=>hd (by simp [z])) (fun z=>hd (by simp [z])) (fun z=>hd (by simp [z])) (fun z=>hd (by simp [z])) e)
  have sub:∀ d∈[c,pO,it,jt],d∈[c,pI,pO,it,jt]:=fun d hd=>by
   simp only [List.mem_cons,List.mem_nil_iff,or_false] at hd ⊢
   rcases hd with h|h|h|h
   ·exact .inl h
   ·exact .inr (.inr (.inl h))
   ·exact .inr (.inr (.inr (.inl h)))
   ·exact .inr (.inr (.inr (.inr h)))
  have tp2:h2.get? s.heap.objs.size=some { cls:=.type "tuple",data:=.seq #[u,v] }:=sb2.extBut _ _ (Nat.ne_of_gt clt) a5
  have hn:∀ d o,H d=some o->d ∉ [c,pO,it,jt]:=fun d o q hd=>by
   have:=(hf d (sub d hd)).1
   rw [q] at this; cases this
  have I2:Inv X pins σ (upd H s.heap.objs.size (.tup [x,y])) { s with heap:=h2 }:=by
   refine I.step (t':=s.toks) (g':=s.gens) (d':=s.drawn) (ch:=[c,pO,it,jt]) (fun d hd=>?_) (fun d o _ _ hc e _=>kept d o hc e)
    (fun d o _ _ hc e _=>⟨o.slots,kept d o hc e⟩) (fun d o _ e n=>by rw [aB (Nat.ne_of_lt (Heap.lt_size e))]; exact n)
    (fun d o hc e=>⟨o,kept d o hc e⟩) (fun d ys q=>by rw [aB (aT q hp)]; exact q) (fun d o u q=>by rw [aB (aT q hp)]; exact q)
    (fun d ps q=>⟨#[],by rw [aB (aT q hp),q]; simp⟩) (fun m hm=>?_) ?_ I.bare
   ·obtain ⟨f0,f1,f2,f3,f4,f5⟩:=hf d (sub d hd)
    exact ⟨f3,f1,f4,f5⟩
   ·obtain ⟨o,es,ep,ho',r⟩:=hm
    exact ⟨o,es,ep,kept _ o (fun hd=>(hf _ (sub _ hd)).2.1 rfl) ho',r⟩
   ·intro d o q
    by_cases hd:d=s.heap.objs.size
    ·subst hd
     rw [bU] at q
     cases q
     exact ⟨by show 2<=sizeLine; decide,[u,v],.cons ru (.cons rv' .nil),_,tp2,rfl,_,rfl⟩
    ·rw [aB hd] at q
     refine (I.hok d o q).stay (fun e w hc e1=>?_) (fun e q=>by rw [aB (aT q hp)]; exact q) fun e ys q=>by rw [aB (aT q hp)]; exact q
     rcases hc with rfl|hc
     ·exact kept _ w (hn _ _ q) e1
     ·exact kept e w (hn _ _ hc) e1
  refine ⟨.ref s.heap.objs.size,upd H s.heap.objs.size (.tup [x,y]),I2,rfl,⟨x,y,_,fun ws hw=>by rw [I.mq hw sq1]; exact hx,fun ws hw=>by rw [I.mq hw sq2]; exact hy,hp,rfl,rfl⟩,
   ⟨he2,sb2.extBut _ _ ap.TIz (hk _ _ ap.TIz ap.TITO ap.TIi1 ap.TIi2 z2),⟨u,v,sb2.extBut _ _ ap.TOz a2⟩,a3.keep fun o e=>sb2.extBut _ o ap.i1z e,a4.keep fun o e=>sb2.extBut _ o ap.i2z e⟩,fun d hd=>?_⟩
  have f0:=(hf d hd).1
  by_cases e:d=s.heap.objs.size
  ·exfalso
   subst e
   simp only [List.mem_cons,List.mem_nil_iff,or_false] at hd
   rcases hd with h|h|h|h|h
   ·exact absurd (Heap.lt_size z1) (by rw [<- h]; exact Nat.lt_irrefl _)
   ·exact absurd (Heap.lt_size z2) (by rw [<- h]; exact Nat.lt_irrefl _)
   ·exact absurd (Heap.lt_size z3) (by rw [<- h]; exact Nat.lt_irrefl _)
   ·obtain ⟨o,e,_⟩:=z4.there; exact absurd (Heap.lt_size e) (by rw [<- h]; exact Nat.lt_irrefl _)
   ·obtain ⟨o,e,_⟩:=z5.there; exact absurd (Heap.lt_size e) (by rw [<- h]; exact Nat.lt_irrefl _)
  ·rw [aB e]; exact f0
 done:=by
  intro X hP hw hK hc i pins s σ H E I hf st hg
  subst hP hw hK
  obtain ⟨z1,z2,⟨x0,y0,z3⟩,z4,z5⟩:=st
  obtain ⟨xs,ys,sq1,sq2,hx⟩:=hg
  obtain ⟨its,rv,hs⟩:=I.dG sq1
  obtain ⟨jts,rw',hs2⟩:=I.dG sq2
  have l1:=rv.length
  have l2:=rw'.length
  refine tU (I.ok.hd hc) ap z1 z2 z3 z4 z5 hs hs2 ?_ fun h' hk=>?_
  ·rcases hx with h|h
   ·exact .inl (by simp; omega)
   ·exact .inr (by simp; omega)
  ·have sub:∀ d∈[c,pO,it,jt],d∈[c,pI,pO,it,jt]:=fun d hd=>by
    simp only [List.mem_cons,List.mem_nil_iff,or_false] at hd ⊢
    rcases hd with h|h|h|h
    ·exact .inl h
    ·exact .inr (.inr (.inl h))
    ·exact .inr (.inr (.inr (.inl h)))
    ·exact .inr (.inr (.inr (.inr h)))
   have kept:∀ d o,d ∉ [c,pO,it,jt]->s.heap.get? d=some o->h'.get? d=some o:=fun d o hd e =>
    hk d o (fun z=>hd (by simp [z])) (fun z=>hd (by simp [z])) (fun z=>hd (by simp [z])) (fun z=>hd (by simp [z])) e
   have hn:∀ d o,H d=some o->d ∉ [c,pO,it,jt]:=fun d o q hd=>by
    have:=(hf d (sub d hd)).1
    rw [q] at this; cases this
   refine ⟨rfl,I.step (t':=s.toks) (g':=s.gens) (d':=s.drawn) (ch:=[c,pO,it,jt]) (fun d hd=>?_) (fun d o _ _ hc e _=>kept d o hc e) (fun d o _ _ hc e _=>⟨o.slots,kept d o hc e⟩) (fun _ _ _ _ n=>n)
    (fun d o hc e=>⟨o,kept d o hc e⟩) (fun _ _ e=>e) (fun _ _ _ e=>e) (fun d ps e=>⟨#[],by rw [e]; simp⟩) (fun m hm=>?_) (fun d o q=>?_) I.bare⟩
   ·obtain ⟨f0,f1,f2,f3,f4,f5⟩:=hf d (sub d hd)
    exact ⟨f3,f1,f4,f5⟩
   ·obtain ⟨o,es,ep,ho',r⟩:=hm
    exact ⟨o,es,ep,kept _ o (fun hd=>(hf _ (sub _ hd)).2.1 rfl) ho',r⟩
   ·refine (I.hok d o q).stay (fun e w hc e1=>?_) (fun _ q=>q) fun _ _ q=>q
    rcases hc with rfl|hc
    ·exact kept _ w (hn _ _ q) e1
    ·exact kept e w (hn _ _ hc) e1
 self:=fun _ _ _ _ _ st h=>wpAny_pyIter_zip st.1 h
section
variable {X:Cx}
noncomputable def iZp (K:PySem.W.Frag) (ta:TA):TI:=fun σ H R=>ta σ H fun vs H1=>∃ t1 t2 a b,vs=[.ref a,.ref b]/\(∃ xs,SqB K H1 t1 a xs)/\(∃ ys,SqB K H1 t2 b ys)/\R (Itz K t1 t2 a b) H1
theorem Seq.lt {tup:Bool} {h:Heap} {a:Addr} {us:Array Value} (x:Seq tup h a us):a < h.objs.size:=by
 cases tup with
 | true=>obtain ⟨o,ho,_⟩:=(show h.IsTuple a us from x); exact Heap.lt_size ho
 | false=>obtain ⟨o,ho,_⟩:=(show h.IsList a us from x); exact Heap.lt_size ho
theorem uZ {e f:Expr} {ta:TA} {p pos:Pos} {elts:List Expr} {k1:Nat} {tp:Pos} (hg:Gl X "zip") (hm:X.mg "zip" = none) (hv:bootBuiltins "zip" = some (.type "zip")) (ha:PA X [e,f] ta) (hs:starEach [e,f] X.env=(false,eval e X.env)::starEach [f] X.env) (hpl:(backTo pos (starEach [f] X.env)).any (·.1)=false) :
  PI X (.Tuple elts k1 tp) (.Call (.Name "zip" p) [e,f] [] pos) (iZp X.K ta):=by
 intro pins s σ H R I h
 refine Call_ (cF I hg hm hv (PyProof.Rows.callWith_type1 (thn (ha pos pins s σ H _ I h) fun us s1 ⟨vs,H1,I1,r1,q1⟩=>?_) hs hpl))
 obtain ⟨t1,t2,a,b,e,⟨xs,hq⟩,⟨ys,hq2⟩,q⟩:=q1
 subst e
 obtain ⟨u1,u2,rfl,r1,r2⟩:=r1.two
 cases r1
 cases r2
 obtain ⟨its,rv,sq1⟩:=I1.dG hq
 obtain ⟨jts,rw',sq2⟩:=I1.dG hq2
 have la:=Seq.lt sq1
 have lb:=Seq.lt sq2
 refine DS sq1 sq2 fun h' x1 x2 x3 x4 x5 hk=>?_
 refine wpAny_pyIter_zip x1 ?_
 have fr:∀ d,s1.heap.objs.size<=d->cy X pins H1 d:=fun d hd=>I1.fk hd (I1.hok.fresh hd)
 have gt:∀ n k:Nat,k < n->n≠k:=fun n k h=>Nat.ne_of_gt h
 have ap:ZipApart (s1.heap.objs.size+4) (s1.heap.objs.size+2) (s1.heap.objs.size+3) s1.heap.objs.size (s1.heap.objs.size+1) a b:=by
  constructor <;> first
   | (refine (gt _ _ ?_).symm; omega)
   | (refine gt _ _ ?_; omega)
   | exact Nat.ne_of_lt (Nat.lt_of_lt_of_le la (Nat.le_add_right _ _))
   | exact Nat.ne_of_lt (Nat.lt_of_lt_of_le lb (Nat.le_add_right _ _))
 refine ⟨s1.heap.objs.size+4,_,_,_,H1,rfl,I1.kept (t':=s1.toks) hk,E4 t1 t2 ap,⟨x1,x2,⟨_,_,x3⟩,x4,x5⟩,fun d hd=>fr d ?_,q⟩
 simp only [List.mem_cons,List.mem_nil_iff,or_false] at hd
 rcases hd with rfl|rfl|rfl|rfl|rfl
 ·exact Nat.le_add_right _ _
 ·exact Nat.le_add_right _ _
 ·exact Nat.le_add_right _ _
 ·exact Nat.le_refl _
 ·exact Nat.le_succ _
end
end L2

namespace EV
open PySem
inductive D where
 | non|bl (b:Bool)|int (i:Int)|str (x:Str)|tup (ds:List D)|loc (l:Nat)|exn (c:Str)|fro (ds:List D)
 deriving Inhabited
mutual
noncomputable def D.dec:(a b:D)->Decidable (a=b)
 | .non,b=>match b with|.non=>.isTrue rfl|.bl _|.int _|.str _|.tup _|.loc _|.exn _|.fro _=>.isFalse (fun h=>nomatch h)
 | .bl x,b=>match b with
  | .bl y=>if h:x=y then .isTrue (by rw [h]) else .isFalse (fun e=>h (D.bl.inj e))
  | .non|.int _|.str _|.tup _|.loc _|.exn _|.fro _=>.isFalse (fun h=>nomatch h)
 | .int x,b=>match b with
  | .int y=>if h:x=y then .isTrue (by rw [h]) else .isFalse (fun e=>h (D.int.inj e))
  | .non|.bl _|.str _|.tup _|.loc _|.exn _|.fro _=>.isFalse (fun h=>nomatch h)
 | .str x,b=>match b with
  | .str y=>if h:x=y then .isTrue (by rw [h]) else .isFalse (fun e=>h (D.str.inj e))
  | .non|.bl _|.int _|.tup _|.loc _|.exn _|.fro _=>.isFalse (fun h=>nomatch h)
 | .tup x,b=>match b with
  | .tup y=>match D.decs x y with
   | .isTrue h=>.isTrue (by rw [h])
   | .isFalse h=>.isFalse (fun e=>h (D.tup.inj e))
  | .non|.bl _|.int _|.str _|.loc _|.exn _|.fro _=>.isFalse (fun h=>nomatch h)
 | .loc x,b=>match b with
  | .loc y=>if h:x=y then .isTrue (by rw [h]) else .isFalse (fun e=>h (D.loc.inj e))
  | .non|.bl _|.int _|.str _|.tup _|.exn _|.fro _=>.isFalse (fun h=>nomatch h)
 | .exn x,b=>match b with
  | .exn y=>if h:x=y then .isTrue (by rw [h]) else .isFalse (fun e=>h (D.exn.inj e))
  | .non|.bl _|.int _|.str _|.tup _|.loc _|.fro _=>.isFalse (fun h=>nomatch h)
 | .fro x,b=>match b with
  | .fro y=>match D.decs x y with
   | .isTrue h=>.isTrue (by rw [h])
   | .isFalse h=>.isFalse (fun e=>h (D.fro.inj e))
  | .non|.bl _|.int _|.str _|.loc _|.exn _|.tup _=>.isFalse (fun h=>nomatch h)
noncomputable def D.decs:(a b:List D)->Decidable (a=b)
 | [],[]=>.isTrue rfl
 | [],_::_=>.isFalse (fun h=>nomatch h)
 | _::_,[]=>.isFalse (fun h=>nomatch h)
 | x::xs,y::ys=>match D.dec x y with
  | .isFalse h=>.isFalse (fun e=>h (List.cons.inj e).1)
  | .isTrue h=>match D.decs xs ys with
   | .isTrue h'=>.isTrue (by rw [h,h'])
   | .isFalse h'=>.isFalse (fun e=>h' (List.cons.inj e).2)
end
noncomputable instance:DecidableEq D:=D.dec
inductive Cell where
 | lst (ds:List D)|dct (kvs:List (List Int × D))
 deriving DecidableEq,Inhabited
abbrev aa:=List Cell
inductive Res (α:Type) where
 | ok (a:α) (S:aa)|exc (c:Str) (S:aa)|bad
noncomputable def M (α:Type):=aa->Res α
noncomputable instance:Monad M where
 pure a:=fun S=>.ok a S
 bind m f:=fun S=>match m S with
  | .ok a S'=>f a S'
  | .exc c S'=>.exc c S'
  | .bad=>.bad
theorem cT {α β:Type} (m:M α) (f:α->M β) (S:aa):(m>>=f) S=match m S with|.ok a S'=>f a S'|.exc c S'=>.exc c S'|.bad=>.bad:=rfl
theorem aj {α β:Type} {m:M α} {f:α->M β} {S S':aa} {a:α} (h:m S=.ok a S'):(m>>=f) S=f a S':=by rw [cT,h]
theorem cN {α β:Type} {m:M α} {f:α->M β} {S S':aa} {c:Str} (h:m S=.exc c S'):(m>>=f) S=.exc c S':=by rw [cT,h]
theorem aV {α β:Type} {m:M α} {f:α->M β} {S:aa} (h:m S=.bad):(m>>=f) S=.bad:=by rw [cT,h]
noncomputable def bad {α:Type}:M α:=fun _=>.bad
noncomputable def opt {α:Type}:Option α->M α
 | some a=>pure a
 | none=>bad
noncomputable def alloc (c:Cell):M D:=fun S=>.ok (.loc S.length) (S++[c])
noncomputable def quiet {α:Type} (m:M α):M α:=fun S=>match m S with
 | .ok a S'=>.ok a S'
 | _=>.bad
noncomputable def aM:Nat:=16777216
noncomputable def fits (n:Nat):Bool:=decide (n<=aM)
noncomputable def dP (n:Nat):Bool:=decide (n < aM)
noncomputable def guard {α:Type} (b:Bool) (m:M α):M α:=match b with
 | true=>m
 | false=>bad
noncomputable def listAt (S:aa) (l:Nat):Option (List D):=match S[l]? with
 | some (.lst ds)=>some ds
 | _=>none
noncomputable def items:D->M (List D)
 | .tup ds=>pure ds
 | .loc l=>fun S=>match listAt S l with
  | some ds=>.ok ds S
  | none=>.bad
 | .fro ds=>pure ds
 | _=>bad
noncomputable def ez:D->M (List D)
 | .loc l=>items (.loc l)
 | .fro ds=>pure ds
 | _=>bad
noncomputable def asL (S:aa):D->Option (List D)
 | .loc l=>listAt S l
 | .fro ds=>some ds
 | _=>none
noncomputable def i2b (b:Bool):Int:=if b then 1 else 0
noncomputable def bq:D->D->Option Bool
 | .non,.non=>some true
 | .non,.bl _|.non,.int _|.non,.str _|.bl _,.non|.int _,.non|.str _,.non=>some false
 | .bl a,.bl b=>some (a==b)
 | .bl a,.int b=>some (i2b a==b)
 | .int a,.bl b=>some (a==i2b b)
 | .int a,.int b=>some (a==b)
 | .str a,.str b=>some (a==b)
 | .bl _,.str _|.int _,.str _|.str _,.bl _|.str _,.int _=>some false
 | _,_=>none
noncomputable def bG (f:D->D->Option Bool):List D->List D->Option Bool
 | x::xs,y::ys=>match f x y,bG f xs ys with
  | some a,some b=>some (a&&b)
  | _,_=>none
 | _,_=>some true
inductive Kd where|flat|tup|list|other
noncomputable def D.kd:D->Kd
 | .non|.bl _|.int _|.str _=>.flat
 | .tup _=>.tup
 | .loc _|.fro _=>.list
 | .exn _=>.other
noncomputable def D.its:D->List D
 | .tup ds=>ds
 | _=>[]
noncomputable def eqD:Nat->aa->D->D->Option Bool
 | 0,_,_,_=>none
 | n+1,S,a,b=>match a.kd,b.kd with
  | .flat,.flat=>bq a b
  | .tup,.tup=>(bG (eqD n S) a.its b.its).map fun r=>r&&(a.its.length==b.its.length)
  | .list,.list=>match asL S a,asL S b with
   | some xs,some ys=>if xs.length=ys.length then bG (eqD n S) xs ys else some false
   | _,_=>none
  | .list,.tup=>(asL S a).map fun _=>false
  | .tup,.list=>(asL S b).map fun _=>false
  | .list,.flat=>(asL S a).map fun _=>false
  | .flat,.list=>(asL S b).map fun _=>false
  | .tup,.flat=>some false
  | .flat,.tup=>some false
  | _,_=>none
noncomputable def deep:Nat:=12
noncomputable def eqM (a b:D):M Bool:=fun S=>match eqD deep S a b with
 | some k=>.ok k S
 | none=>.bad
noncomputable def inL (S:aa) (x:D):List D->Option Bool
 | []=>some false
 | y::ys=>match eqD deep S y x,inL S x ys with
  | some a,some b=>some (a||b)
  | _,_=>none
inductive Op2 where|add|sub|mul|fdiv|mod|pow
inductive Cm where|lt|le|gt|ge|eq|ne|isin|dI
inductive Ty where|int|bool|str|list|tuple|dict|cls (c:Str)
 deriving DecidableEq
inductive Bi where|len|inst (t:Ty)|all|any|sum|min|max|sorted|sortedSet|list|tuple|int|abs|rangeT|rangeL
inductive Me where|append|extend
noncomputable def small (i:Int):Bool:=decide (-(2 ^ 64) < i/\i < 2 ^ 64)
noncomputable def bK (l:Nat) (f:List D->M D):M D:=fun S=>match S[l]? with
 | some (.lst ds)=>f ds S
 | _=>.bad
noncomputable def put (l:Nat) (c:Cell):M D:=fun S=>.ok .non (S.set l c)
noncomputable def yN (a b:Nat):M D:=bK a fun xs=>bK b fun ys=>guard (fits (xs.length+ys.length)) (alloc (.lst (xs++ys)))
noncomputable def Ff:D->D->M D
 | .int i,.int j=>pure (.int (i+j))
 | .tup xs,.tup ys=>guard (fits (xs.length+ys.length)) (pure (.tup (xs++ys)))
 | .str x,.str y=>guard (fits (x.length+y.length)) (pure (.str (x++y)))
 | .loc a,.loc b=>yN a b
 | _,_=>bad
noncomputable def Av:D->D->M D
 | .int i,.int j=>pure (.int (i - j))
 | _,_=>bad
noncomputable def t7 (l:Nat) (j:Int):M D:=bK l fun xs=>guard (decide (-(2 ^ 63)<=j)&&decide (j < 2 ^ 63)&&fits (xs.length * j.toNat)) (alloc (.lst (List.replicate j.toNat xs).flatten))
noncomputable def Bm:D->D->M D
 | .int i,.int j=>guard (small i||small j) (pure (.int (i * j)))
 | .tup xs,.int j=>guard (decide (-(2 ^ 63)<=j)&&decide (j < 2 ^ 63)&&fits (xs.length * j.toNat)) (pure (.tup (List.replicate j.toNat xs).flatten))
 | .loc l,.int j=>t7 l j
 | _,_=>bad
noncomputable def EH:D->D->M D
 | .int i,.int j=>guard (decide (0 < j)&&decide (j < 1073741824)) (pure (.int (i / j)))
 | _,_=>bad
noncomputable def wA:D->D->M D
 | .int i,.int j=>guard (decide (0 < j)) (pure (.int (i % j)))
 | _,_=>bad
noncomputable def Ba:D->D->M D
 | .int i,.int j=>guard (decide (0<=j)&&decide (j<=1000)&&decide (i.natAbs < 2 ^ 64)) (pure (.int (i ^ j.toNat)))
 | _,_=>bad
noncomputable def opD:Op2->D->D->M D
 | .add=>Ff
 | .sub=>Av
 | .mul=>Bm
 | .fdiv=>EH
 | .mod=>wA
 | .pow=>Ba
noncomputable def fW (p:Int->Int->Bool):D->D->M D
 | .int i,.int j=>pure (.bl (p i j))
 | _,_=>bad
noncomputable def inA (neg:Bool) (a:D) (ys:List D):M D:=fun S=>match inL S a ys with
 | some k=>.ok (.bl (k != neg)) S
 | none=>.bad
noncomputable def inM (neg:Bool) (a b:D):M D:=do
 let ys <- items b
 inA neg a ys
noncomputable def gJ:D->D->Bool
 | .bl _,.int _=>false
 | .int _,.bl _=>false
 | a,b=>match a.kd,b.kd with
  | .flat,.flat=>true
  | .tup,.tup=>true
  | .list,.list=>true
  | _,_=>false
noncomputable def cmD:Cm->D->D->M D
 | .lt=>fW fun i j=>decide (i < j)
 | .le=>fW fun i j=>decide (i<=j)
 | .gt=>fW fun i j=>decide (j < i)
 | .ge=>fW fun i j=>decide (j<=i)
 | .eq=>fun a b=>do pure (.bl (<- eqM a b))
 | .ne=>fun a b=>guard (gJ a b) (do pure (.bl (!(<- eqM a b))))
 | .isin=>inM false
 | .dI=>inM true
noncomputable def truth:D->M Bool
 | .bl b=>pure b
 | .non=>pure false
 | .int i=>pure (i != 0)
 | .tup ds=>pure (!ds.isEmpty)
 | .loc l=>do
  let xs <- items (.loc l)
  pure (!xs.isEmpty)
 | .fro ds=>pure (!ds.isEmpty)
 | _=>bad
noncomputable def ixN (n:Nat) (i:Int):Option Nat:=if 0<=i then (if i < n then some i.toNat else none) else if -(n:Int)<=i then some (i+n).toNat else none
noncomputable def atI (xs:List D) (i:Int):Option D:=(ixN xs.length i).bind fun j=>xs[j]?
noncomputable def ixD (a i:D):M D:=match i with
 | .int j=>do
  let xs <- items a
  opt (atI xs j)
 | _=>bad
noncomputable def j9:D->D->D->M D
 | .loc l,.int k,d=>bK l fun xs=>match ixN xs.length k with
  | some j=>put l (.lst (xs.set j d))
  | none=>bad
 | _,_,_=>bad
noncomputable def sIx (n d:Nat):Option Int->Nat
 | none=>d
 | some v=>if v < 0 then (v+(n:Int)).toNat else min v.toNat n
noncomputable def cut (xs:List D) (lo hi:Option Int):List D:=(xs.drop (sIx xs.length 0 lo)).take (sIx xs.length xs.length hi - sIx xs.length 0 lo)
noncomputable def slD (a:D) (lo hi:Option Int):M D:=match a with
 | .tup xs=>pure (.tup (cut xs lo hi))
 | .loc l=>do
  let xs <- items (.loc l)
  alloc (.lst (cut xs lo hi))
 | .fro xs=>alloc (.lst (cut xs lo hi))
 | _=>bad
noncomputable def allInts:List D->Option (List Int)
 | []=>some []
 | .int i::r=>(allInts r).map (i :: ·)
 | _=>none
noncomputable def cX:List D->Option (List Bool)
 | []=>some []
 | .bl i::r=>(cX r).map (i :: ·)
 | _=>none
noncomputable def ins (i:Int):List Int->List Int
 | []=>[i]
 | j::r=>if i<=j then i::j::r else j::ins i r
noncomputable def cg:List Int->List Int
 | []=>[]
 | i::r=>ins i (cg r)
abbrev Sub:=Str->Str->Bool
noncomputable def ek (sub:Sub) (S:aa):D->Ty->Option Bool
 | .non,t=>match t with|.cls _=>none|_=>some false
 | .bl _,t=>match t with|.cls _=>none|.int=>some true|.bool=>some true|_=>some false
 | .int _,t=>match t with|.cls _=>none|.int=>some true|_=>some false
 | .str _,t=>match t with|.cls _=>none|.str=>some true|_=>some false
 | .tup _,t=>match t with|.cls _=>none|.tuple=>some true|_=>some false
 | .loc l,t=>match S[l]?,t with
  | _,.cls _=>none
  | some (.lst _),.list=>some true
  | some (.lst _),_=>some false
  | some (.dct _),_=>none
  | none,_=>none
 | .fro _,t=>match t with|.cls _=>none|.list=>some true|_=>some false
 | .exn c,t=>match t with|.cls d=>some (sub c d)|_=>none
noncomputable def lexLe:List Int->List Int->Bool
 | [],_=>true
 | _::_,[]=>false
 | a::r,b::q=>if a < b then true else if a=b then lexLe r q else false
noncomputable def cJ (t:List Int):List (List Int)->List (List Int)
 | []=>[t]
 | u::r=>if t=u then u::r else if lexLe t u then t::u::r else u::cJ t r
noncomputable def b6:List (List Int)->List (List Int)
 | []=>[]
 | t::r=>cJ t (b6 r)
noncomputable def tups:List D->Option (List (List Int))
 | []=>some []
 | .tup ds::r=>match allInts ds,tups r with
  | some t,some q=>some (t::q)
  | _,_=>none
 | _=>none
noncomputable def rng (lo hi step:Int):List Int :=
 if 0 < step then (List.range ((hi - lo+step - 1) / step).toNat).map fun (k:Nat)=>lo+k * step
 else if step < 0 then (List.range ((lo - hi - step - 1) / (-step)).toNat).map fun (k:Nat)=>lo+k * step
 else []
noncomputable def near (i:Int):Bool:=decide (-(2 ^ 62)<=i/\i < 2 ^ 62)
noncomputable def bN:List D->Option (List Int)
 | [.int j]=>if near j then some (rng 0 j 1) else none
 | [.int i,.int j]=>if near i&&near j then some (rng i j 1) else none
 | [.int i,.int j,.int k]=>if near i&&near j&&decide (k=-1) then some (rng i j k) else none
 | _=>none
noncomputable def mF:List Int->M D
 | []=>bad
 | i::r=>pure (.int (r.foldl min i))
noncomputable def l9:List Int->M D
 | []=>bad
 | i::r=>pure (.int (r.foldl max i))
noncomputable def min2:D->D->M D
 | .int i,.int j=>pure (.int (if j < i then j else i))
 | _,_=>bad
noncomputable def max2:D->D->M D
 | .int i,.int j=>pure (.int (if j > i then j else i))
 | _,_=>bad
noncomputable def toInt:D->M D
 | .int i=>pure (.int i)
 | .bl b=>pure (.int (i2b b))
 | _=>bad
noncomputable def Dm:D->M D
 | .int i=>pure (.int (if i < 0 then -i else i))
 | _=>bad
noncomputable def gA (sub:Sub) (t:Ty) (a:D):M D:=fun S=>match ek sub S a t with
 | some k=>.ok (.bl k) S
 | none=>.bad
noncomputable def Fx:D->M D
 | .tup ds=>pure (.tup ds)
 | a=>do pure (.tup (<- items a))
noncomputable def l8:Option (List (List Int))->M D
 | some ts=>guard (decide (ts.length < 64)&&decide ts.Nodup&&ts.all fun t=>!t.isEmpty) (alloc (.lst ((b6 ts).map fun t=>.tup (t.map .int))))
 | none=>bad
noncomputable def nq (r:M D):Option (List Int)->M D
 | some is=>guard (decide (is.length < 64)) (alloc (.lst ((cg is).map .int)))
 | none=>r
noncomputable def jo (ds:List D):M D:=nq (l8 (tups ds)) (allInts ds)
noncomputable def bi1 (sub:Sub):Bi->D->M D
 | .len,a=>do
  let ds <- items a
  pure (.int ds.length)
 | .inst t,a=>gA sub t a
 | .all,a=>do
  let ds <- items a
  let bs <- opt (cX ds)
  pure (.bl (bs.all id))
 | .any,a=>do
  let ds <- items a
  let bs <- opt (cX ds)
  pure (.bl (bs.any id))
 | .sum,a=>do
  let ds <- items a
  let is <- opt (allInts ds)
  pure (.int is.sum)
 | .min,a=>do
  let ds <- items a
  let is <- opt (allInts ds)
  mF is
 | .max,a=>do
  let ds <- items a
  let is <- opt (allInts ds)
  l9 is
 | .sorted,a=>do
  let ds <- items a
  jo ds
 | .sortedSet,a=>do
  let ds <- ez a
  let ts <- opt (tups ds)
  guard (decide (ts.length<=18)&&ts.all fun t=>!t.isEmpty) (alloc (.lst ((b6 ts).map fun t=>.tup (t.map .int))))
 | .list,a=>do
  let ds <- items a
  alloc (.lst ds)
 | .tuple,a=>do
  let ds <- items a
  pure (.tup ds)
 | .int,a=>toInt a
 | .abs,a=>Dm a
 | .rangeT,_=>bad
 | .rangeL,_=>bad
noncomputable def bi2:Bi->D->D->M D
 | .min=>min2
 | .max=>max2
 | _=>fun _ _=>bad
noncomputable def biR:Bi->List D->M D
 | .rangeT,as=>do
  let is <- opt (bN as)
  guard (fits is.length) (pure (.tup (is.map .int)))
 | .rangeL,as=>do
  let is <- opt (bN as)
  guard (fits is.length) (alloc (.lst (is.map .int)))
 | _,_=>bad
noncomputable def Bi.isR:Bi->Bool
 | .rangeT=>true
 | .rangeL=>true
 | _=>false
noncomputable def biD (sub:Sub) (b:Bi) (as:List D):M D:=match b.isR with
 | true=>biR b as
 | false=>match as with
  | [a]=>bi1 sub b a
  | [a,c]=>bi2 b a c
  | _=>bad
noncomputable def Bh:D->D->M D
 | .loc l,d=>bK l fun ds=>guard (dP ds.length) (put l (.lst (ds++[d])))
 | _,_=>bad
noncomputable def ym:D->D->M D
 | .loc l,.loc k=>bK l fun ds=>bK k fun es=>guard (fits (ds.length+es.length)) (put l (.lst (ds++es)))
 | _,_=>bad
noncomputable def meD (m:Me) (o:D) (as:List D):M D:=match as with
 | [d]=>match m with
  | .append=>Bh o d
  | .extend=>ym o d
 | _=>bad
inductive Tg where
 | one (i:Nat)|many (is:List Nat)
abbrev Sg:=List (Option D)
noncomputable def Tg.has:Tg->Nat->Bool
 | .one i,j=>i==j
 | .many is,j=>is.contains j
noncomputable def bV:List Nat->List D->Sg->Sg
 | i::is,d::ds,σ=>bV is ds (σ.set i (some d))
 | _,_,σ=>σ
noncomputable def aO:Tg->D->Sg->M Sg
 | .one i,d,σ=>pure (σ.set i (some d))
 | .many is,.tup ds,σ=>guard (decide (ds.length=is.length)) (pure (bV is ds σ))
 | _,_,_=>bad
inductive E where
 | v (i:Nat)|c (d:D)|bin (op:Op2) (a b:E)|cmp (op:Cm) (a b:E)|chn (o o':Cm) (a b c:E)|and (a b:E)|or (a b:E)|not (a:E)|neg (a:E)|isN (a:E)|notN (a:E)|ite (c a b:E)
 | nl|cs (a r:E)|tup (es:E)|lst (es:E)|ix (a i:E)|sl (a lo hi:E)|call (f:Str) (es:E)|bi (b:Bi) (es:E)|me (m:Me) (o es:E)
 | iSeq (a:E)|iEnum (a:E)|iRng (es:E)|iZip (es:E)|comp (k:Nat) (elt:E) (t:Tg) (it ife:E)|dget (o es:E)|dnew
structure Src where
 its:List D
 l:Option Nat
 raw:List D
noncomputable def aI (s:Src):M Unit:=match s.l with
 | none=>pure ()
 | some l=>fun S=>match listAt S l with
  | some ds=>guard (decide (ds=s.raw)) (pure ()) S
  | none=>.bad
noncomputable def srcOf:D->M Src
 | .tup ds=>pure ⟨ds,none,ds⟩
 | .loc l=>do
  let ds <- items (.loc l)
  pure ⟨ds,some l,ds⟩
 | .fro ds=>pure ⟨ds,none,ds⟩
 | _=>bad
noncomputable def cC:List D->List D->List D
 | x::r,y::q=>.tup [x,y]::cC r q
 | _,_=>[]
noncomputable def iE:List D->M Src
 | [.tup xs,.tup ys]=>pure ⟨cC xs ys,none,[]⟩
 | _=>bad
noncomputable def num (k:Nat):List D->List D
 | []=>[]
 | d::r=>.tup [.int k,d]::num (k+1) r
noncomputable def bw (s:Src) (f:D->M (Option D)):List D->M (List D)
 | []=>do
  aI s
  pure []
 | d::ds=>do
  aI s
  let y <- f d
  let ys <- bw s f ds
  pure (match y with|some y=>y::ys|none=>ys)
noncomputable def fq:D->M (Option Int)
 | .int i=>pure (some i)
 | _=>bad
noncomputable def D.dw (S:aa):D->Bool
 | .loc l=>match S[l]? with|some (.lst _)=>true|_=>false
 | _=>false
noncomputable def iD {α:Type} (x:D) (m:M α):M α:=fun S=>guard (x.dw S) m S
noncomputable def aU (kvs:List (List Int × D)) (k:List Int):Option D:=(kvs.find? fun kv=>decide (kv.1=k)).map (·.2)
noncomputable def bX (kvs:List (List Int × D)) (k:List Int) (d:D):List (List Int × D) :=
 if (kvs.any fun kv=>decide (kv.1=k))=true then kvs.map (fun kv=>if kv.1=k then (kv.1,d) else kv) else kvs++[(k,d)]
noncomputable def dM (l:Nat) (f:List (List Int × D)->M D):M D:=fun S=>match S[l]? with
 | some (.dct kvs)=>f kvs S
 | _=>.bad
noncomputable def mC (a:D) (ds:List D):M D:=match a with
 | .loc l=>do
  let k <- opt (allInts ds)
  dM l fun kvs=>opt (aU kvs k)
 | _=>bad
noncomputable def ja (a:D) (ds:List D) (d:D):M D:=match a with
 | .loc l=>do
  let k <- opt (allInts ds)
  dM l fun kvs=>guard (dP kvs.length) (put l (.dct (bX kvs k d)))
 | _=>bad
noncomputable def bf (σ:Sg) (i:Nat):M D:=match σ[i]? with
 | some (some d)=>pure d
 | _=>bad
noncomputable def E.bh:E->Bool
 | .nl=>true
 | _=>false
section
variable (sub:Sub) (cf:Str->List D->M D)
mutual
noncomputable def ev:E->Sg->M D
 | .v i,σ=>bf σ i
 | .c d,_=>pure d
 | .bin op a b,σ=>do
  let x <- ev a σ
  let y <- ev b σ
  opD op x y
 | .cmp op a b,σ=>do
  let x <- ev a σ
  let y <- ev b σ
  cmD op x y
 | .chn o o' a b c,σ=>do
  let x <- ev a σ
  let y <- ev b σ
  match <- cmD o x y with
   | .bl true=>do
    let z <- ev c σ
    cmD o' y z
   | .bl false=>pure (.bl false)
   | _=>bad
 | .and a b,σ=>do
  match <- ev a σ with
   | .bl true=>ev b σ
   | .bl false=>pure (.bl false)
   | _=>bad
 | .or a b,σ=>do
  match <- ev a σ with
   | .bl true=>pure (.bl true)
   | .bl false=>ev b σ
   | _=>bad
 | .not a,σ=>do
  match <- ev a σ with
   | .bl b=>pure (.bl (!b))
   | _=>bad
 | .neg a,σ=>do
  match <- ev a σ with
   | .int i=>pure (.int (-i))
   | _=>bad
 | .isN a,σ=>do
  let x <- ev a σ
  pure (.bl (decide (x=.non)))
 | .notN a,σ=>do
  let x <- ev a σ
  pure (.bl (!decide (x=.non)))
 | .ite c a b,σ=>do
  if <- evT c σ then ev a σ else ev b σ
 | .tup es,σ=>do
  let ds <- evs es σ
  guard (fits ds.length) (pure (.tup ds))
 | .lst es,σ=>do
  let ds <- evs es σ
  guard (fits ds.length) (alloc (.lst ds))
 | .ix a i,σ=>do
  let x <- ev a σ
  let y <- ev i σ
  ixD x y
 | .sl a lo hi,σ=>do
  let x <- ev a σ
  let l <- (if lo.bh then pure none else do fq (<- ev lo σ))
  let h <- (if hi.bh then pure none else do fq (<- ev hi σ))
  slD x l h
 | .call f es,σ=>do
  let ds <- evs es σ
  cf f ds
 | .bi b es,σ=>do
  let ds <- evs es σ
  biD sub b ds
 | .me m o es,σ=>do
  let x <- ev o σ
  iD x (do
   let ds <- evs es σ
   meD m x ds)
 | .comp k elt t it ife,σ=>do
  let s <- evI it σ
  let ys <- quiet (bw s (fun d=>do
   let σ' <- aO t d (σ++List.replicate k none)
   if <- (if ife.bh then pure true else evT ife σ') then do
    let y <- ev elt σ'
    pure (some y)
   else pure none) s.its)
  guard (fits ys.length) (alloc (.lst ys))
 | .dget o es,σ=>do
  let x <- ev o σ
  let ds <- evs es σ
  guard (fits ds.length) (mC x ds)
 | .dnew,_=>alloc (.dct [])
 | .nl,_=>bad
 | .cs _ _,_=>bad
 | .iSeq _,_=>bad
 | .iEnum _,_=>bad
 | .iRng _,_=>bad
 | .iZip _,_=>bad
noncomputable def evT:E->Sg->M Bool
 | .and a b,σ=>do
  if <- evT a σ then evT b σ else pure false
 | .or a b,σ=>do
  if <- evT a σ then pure true else evT b σ
 | .not a,σ=>do
  let b <- evT a σ
  pure (!b)
 | .v i,σ=>bf σ i>>=truth
 | .c d,_=>pure d>>=truth
 | .cmp op a b,σ=>do
  let x <- ev a σ
  let y <- ev b σ
  truth (<- cmD op x y)
 | .chn o o' a b c,σ=>do
  let x <- ev a σ
  let y <- ev b σ
  if <- truth (<- cmD o x y) then do
   let z <- ev c σ
   truth (<- cmD o' y z)
  else pure false
 | .isN a,σ=>do
  let x <- ev a σ
  pure (decide (x=.non))
 | .notN a,σ=>do
  let x <- ev a σ
  pure (!decide (x=.non))
 | .ix a i,σ=>(do
  let x <- ev a σ
  let y <- ev i σ
  ixD x y)>>=truth
 | .call f es,σ=>(do
  let ds <- evs es σ
  cf f ds)>>=truth
 | .bi b es,σ=>(do
  let ds <- evs es σ
  biD sub b ds)>>=truth
 | _,_=>bad
noncomputable def evs:E->Sg->M (List D)
 | .nl,_=>pure []
 | .cs a r,σ=>do
  let x <- ev a σ
  let xs <- evs r σ
  pure (x::xs)
 | _,_=>bad
noncomputable def evI:E->Sg->M Src
 | .iSeq a,σ=>do srcOf (<- ev a σ)
 | .iEnum a,σ=>do
  let s <- srcOf (<- ev a σ)
  pure { s with its:=num 0 s.its }
 | .iRng es,σ=>do
  let is <- opt (bN (<- evs es σ))
  pure ⟨is.map .int,none,[]⟩
 | .iZip es,σ=>do iE (<- evs es σ)
 | _,_=>bad
end
end
inductive S where
 | ret (e:E)|retN|set (t:Tg) (e:E)|setIx (o i e:E)|dset (o es e:E)|ex (e:E)|ite (c:E) (a b:S)|forS (t:Tg) (it:E) (b:S)|whl (c:E) (b:S)|rais (c:Str)|tryS (b:S) (c:Str) (x:Option Nat) (h:S)
 | skip|seq (a b:S)|brk|cont
inductive Fl where
 | nx (σ:Sg)|rt (d:D)|bk (σ:Sg)|ct (σ:Sg)
noncomputable def forL (s:Src) (f:D->Sg->M Fl):List D->Sg->M Fl
 | [],σ=>do
  aI s
  pure (.nx σ)
 | d::ds,σ=>do
  aI s
  match <- f d σ with
   | .nx σ'=>forL s f ds σ'
   | .ct σ'=>forL s f ds σ'
   | .bk σ'=>pure (.nx σ')
   | .rt d=>pure (.rt d)
noncomputable def lV (c:Sg->M Bool) (f:Sg->M Fl):Nat->Sg->M Fl
 | 0,_=>bad
 | n+1,σ=>do
  if <- c σ then do
   match <- f σ with
    | .nx σ'=>lV c f n σ'
    | .ct σ'=>lV c f n σ'
    | .bk σ'=>pure (.nx σ')
    | .rt d=>pure (.rt d)
  else pure (.nx σ)
noncomputable def vJ:Nat:=1000000
section
variable (sub:Sub) (cf:Str->List D->M D)
noncomputable def exec:S->Sg->M Fl
 | .ret e,σ=>do
  let d <- ev sub cf e σ
  pure (.rt d)
 | .retN,_=>pure (.rt .non)
 | .set t e,σ=>do
  let d <- ev sub cf e σ
  let σ' <- aO t d σ
  pure (.nx σ')
 | .setIx o i e,σ=>do
  let d <- ev sub cf e σ
  let a <- ev sub cf o σ
  let k <- ev sub cf i σ
  let _ <- j9 a k d
  pure (.nx σ)
 | .dset o es e,σ=>do
  let d <- ev sub cf e σ
  let a <- ev sub cf o σ
  let ks <- evs sub cf es σ
  let _ <- guard (fits ks.length) (ja a ks d)
  pure (.nx σ)
 | .ex e,σ=>do
  let _ <- ev sub cf e σ
  pure (.nx σ)
 | .ite c a b,σ=>do
  if <- evT sub cf c σ then exec a σ else exec b σ
 | .forS t it b,σ=>quiet (do
  let s <- evI sub cf it σ
  forL s (fun d σ=>do
   let σ' <- aO t d σ
   exec b σ') s.its σ)
 | .whl c b,σ=>quiet (lV (evT sub cf c) (exec b) vJ σ)
 | .rais c,_=>fun S=>.exc c S
 | .tryS b c x h,σ=>fun S=>match exec b σ S with
  | .exc c' S'=>if sub c' c then (match x with
    | none=>exec h σ S'
    | some i=>exec h (σ.set i (some (.exn c'))) S') else .exc c' S'
  | r=>r
 | .skip,σ=>pure (.nx σ)
 | .seq a b,σ=>do
  match <- exec a σ with
   | .nx σ'=>exec b σ'
   | f=>pure f
 | .brk,σ=>pure (.bk σ)
 | .cont,σ=>pure (.ct σ)
end
mutual
noncomputable def D.low (n:Nat):D->Bool
 | .tup ds=>D.lows n ds
 | .fro ds=>D.lows n ds
 | .loc l=>decide (l < n)
 | _=>true
noncomputable def D.lows (n:Nat):List D->Bool
 | []=>true
 | d::r=>D.low n d&&D.lows n r
end
noncomputable def Cell.low (n:Nat):Cell->Bool
 | .lst ds=>D.lows n ds
 | .dct _=>false
noncomputable def leave (S:aa) (d:D) (S':aa):Res D :=
 if S'.take S.length=S then
  if d.low S.length then .ok d S
  else match d with
   | .loc l=>match S'[l]? with
    | some c=>if c.low S.length then .ok (.loc S.length) (S++[c]) else .ok d S'
    | none=>.ok d S'
   | _=>.ok d S'
 else .ok d S'
structure Fn where
 par:Nat
 names:Nat
 body:S
abbrev Prg:=List (Str × Fn)
noncomputable def fO (S:aa):Res Fl->Res D
 | .ok (.rt d) S'=>leave S d S'
 | .ok (.nx _) S'=>leave S .non S'
 | .ok (.bk _) _=>.bad
 | .ok (.ct _) _=>.bad
 | .exc c S'=>if S'.take S.length=S then .exc c S else .exc c S'
 | .bad=>.bad
noncomputable def frame (F:Fn) (ds:List D):Sg:=ds.map some++List.replicate (F.names - ds.length) none
noncomputable def ak (sub:Sub) (P:Prg):Nat->Str->List D->M D
 | 0,_,_=>bad
 | n+1,f,ds=>fun S=>match P.lookup f with
  | none=>.bad
  | some F=>if ds.length=F.par then fO S (exec sub (ak sub P n) F.body (frame F ds) S) else .bad
theorem lX {sub:Sub} {P:Prg} {n:Nat} {f:Str} {ds:List D} {S:aa} {F:Fn} (h:P.lookup f=some F) (hl:ds.length=F.par):ak sub P (n+1) f ds S=fO S (exec sub (ak sub P n) F.body (frame F ds) S):=by
 show (match P.lookup f with|none=>Res.bad|some F=>if ds.length=F.par then fO S (exec sub (ak sub P n) F.body (frame F ds) S) else .bad)=_
 rw [h]; simp only [hl,if_true]
theorem BY {sub:Sub} {P:Prg} {n:Nat} {f:Str} {ds:List D} {S:aa} {F:Fn} (h:P.lookup f=some F) (hl:ds.length≠F.par):ak sub P (n+1) f ds S=.bad:=by
 show (match P.lookup f with|none=>Res.bad|some F=>if ds.length=F.par then fO S (exec sub (ak sub P n) F.body (frame F ds) S) else .bad)=_
 rw [h]; simp only [hl,if_false]
end EV

namespace EV
open PySem PySem.Spec PyProof.Rows L2
theorem Paired.get {α β:Type} {F:α->β->Prop}:∀ {xs:List α} {ys:List β} {i:Nat} {x:α},Paired F xs ys->xs[i]?=some x->∃ y,ys[i]?=some y/\F x y
 | _,_,_,_,.nil,e=>by simp at e
 | _,_,0,_,.cons r _,e=>by simp at e; subst e; exact ⟨_,rfl,r⟩
 | _,_,i+1,x,.cons _ t,e=>by
  obtain ⟨u,h1,h2⟩:=Paired.get (i:=i) (x:=x) t (by simpa using e)
  exact ⟨u,by simpa using h1,h2⟩
theorem Paired.get' {α β:Type} {F:α->β->Prop} {xs:List α} {ys:List β} {i:Nat} {y:β} (p:Paired F xs ys) (e:ys[i]?=some y):∃ x,xs[i]?=some x/\F x y:=by
 have hl:=p.length
 have hi:i < xs.length:=by rw [hl]; exact (List.getElem?_eq_some_iff.mp e).1
 obtain ⟨y',e',f⟩:=Paired.get p (List.getElem?_eq_getElem hi)
 rw [e] at e'; cases e'
 exact ⟨_,List.getElem?_eq_getElem hi,f⟩
theorem Paired.step {α β:Type} {F:α->β->Prop} {ds:List α} {vs:List β} {n:Nat} (h:Paired F ds vs) (hl:ds.length=n+1):∃ d r v q,ds=d::r/\vs=v::q/\F d v/\Paired F r q/\r.length=n:=by
 cases h with
 | nil=>cases hl
 | cons f t=>exact ⟨_,_,_,_,rfl,rfl,f,t,Nat.succ.inj hl⟩
theorem Paired.last {α β:Type} {F:α->β->Prop} {ds:List α} {vs:List β} (h:Paired F ds vs) (hl:ds.length=0):ds=[]/\vs=[]:=by
 cases h with
 | nil=>exact ⟨rfl,rfl⟩
 | cons f t=>cases hl
theorem Paired.app {α β:Type} {F:α->β->Prop}:∀ {a c:List α} {b d:List β},Paired F a b->Paired F c d->Paired F (a++c) (b++d)
 | _,_,_,_,.nil,s=>s
 | _,_,_,_,.cons r t,s=>.cons r (Paired.app t s)
theorem Paired.tak {α β:Type} {F:α->β->Prop}:∀ {a:List α} {b:List β} (n:Nat),Paired F a b->Paired F (a.take n) (b.take n)
 | _,_,0,_=>.nil
 | _,_,_+1,.nil=>.nil
 | _,_,n+1,.cons r t=>.cons r (Paired.tak n t)
theorem Paired.drp {α β:Type} {F:α->β->Prop}:∀ {a:List α} {b:List β} (n:Nat),Paired F a b->Paired F (a.drop n) (b.drop n)
 | _,_,0,r=>r
 | _,_,_+1,.nil=>.nil
 | _,_,n+1,.cons _ t=>Paired.drp n t
theorem Paired.imp {α β:Type} {F G:α->β->Prop} (f:∀ a b,F a b->G a b):∀ {l₁:List α} {l₂:List β},Paired F l₁ l₂->Paired G l₁ l₂
 | _,_,.nil=>.nil
 | _,_,.cons r t=>.cons (f _ _ r) (Paired.imp f t)
theorem Paired.rep {α β:Type} {F:α->β->Prop} {a:List α} {b:List β} (h:Paired F a b):∀ k:Nat,Paired F (List.replicate k a).flatten (List.replicate k b).flatten
 | 0=>.nil
 | k+1=>by
  simp only [List.replicate_succ,List.flatten_cons]
  exact Paired.app h (Paired.rep h k)
theorem Paired.of_get {α β:Type} {F:α->β->Prop}:∀ {xs:List α} {ys:List β},xs.length=ys.length->(∀ (i:Nat) x y,xs[i]?=some x->ys[i]?=some y->F x y)->Paired F xs ys
 | [],[],_,_=>.nil
 | [],_::_,h,_=>by simp at h
 | _::_,[],h,_=>by simp at h
 | x::xs,y::ys,h,f=>.cons (f 0 x y rfl rfl) (Paired.of_get (by simpa using h) fun i a b e1 e2=>f (i+1) a b (by simpa using e1) (by simpa using e2))
structure Gx where
 K:PySem.W.Frag
noncomputable def Fro (K:PySem.W.Frag) (H:Hp) (a:Addr) (xs:List V):Prop:=(∃ o,H a=some (.frz o (.lst xs)))\/∀ H:Hp,SqL K H a xs
theorem Fro.sq {K:PySem.W.Frag} {H:Hp} {a:Addr} {xs:List V} (h:Fro K H a xs):SqL K H a xs:=by
 rcases h with ⟨o,h⟩|h
 ·exact .inl (.inr ⟨o,h⟩)
 ·exact h H
inductive Rep (Γ:Gx) (ι:List Addr) (H:Hp):D->V->Prop
 | non:Rep Γ ι H .non .non
 | bl (b:Bool):Rep Γ ι H (.bl b) (.bl b)
 | int (i:Int):Rep Γ ι H (.int i) (.int i)
 | str (x:Str):Rep Γ ι H (.str x) (.str x)
 | tup {ds:List D} {a:Addr} {xs:List V}:SqT Γ.K H a xs->ds.length=xs.length->(∀ (i:Nat) d v,ds[i]?=some d->xs[i]?=some v->Rep Γ ι H d v)->Rep Γ ι H (.tup ds) (.ref a)
 | fro {ds:List D} {a:Addr} {xs:List V}:Fro Γ.K H a xs->ds.length=xs.length->(∀ (i:Nat) d v,ds[i]?=some d->xs[i]?=some v->Rep Γ ι H d v)->Rep Γ ι H (.fro ds) (.ref a)
 | loc {l:Nat} {a:Addr}:ι[l]?=some a->Rep Γ ι H (.loc l) (.ref a)
abbrev au (Γ:Gx) (ι:List Addr) (H:Hp):List D->List V->Prop:=Paired (Rep Γ ι H)
theorem Rep.fC {Γ:Gx} {ι:List Addr} {H:Hp} {ds:List D} {a:Addr} {xs:List V} (h:SqT Γ.K H a xs) (p:au Γ ι H ds xs):Rep Γ ι H (.tup ds) (.ref a) :=
 .tup h p.length fun i d v e1 e2=>by
  obtain ⟨y,e,f⟩:=Paired.get p e1
  rw [e2] at e; cases e; exact f
theorem Rep.e_ {Γ:Gx} {ι:List Addr} {H:Hp} {ds:List D} {v:V} (h:Rep Γ ι H (.fro ds) v):∃ a xs,v=.ref a/\Fro Γ.K H a xs/\au Γ ι H ds xs:=by
 cases h with
 | fro h1 h2 h3=>exact ⟨_,_,rfl,h1,Paired.of_get h2 h3⟩
theorem Rep.bA {Γ:Gx} {ι:List Addr} {H:Hp} {ds:List D} {v:V} (h:Rep Γ ι H (.tup ds) v):∃ a xs,v=.ref a/\SqT Γ.K H a xs/\au Γ ι H ds xs:=by
 cases h with
 | tup h1 h2 h3=>exact ⟨_,_,rfl,h1,Paired.of_get h2 h3⟩
structure Ext (ι ι':List Addr) (H H':Hp):Prop where
 pre:ι <+: ι'
 tup:∀ a xs,H a=some (.tup xs)->H' a=some (.tup xs)
 frz:∀ a o u,H a=some (.frz o u)->H' a=some (.frz o u)
 oth:∀ a o,H a=some o->a ∉ ι->H' a=some o
 fresh:∀ a∈ι',a ∉ ι->H a=none
section
variable {ι ι1 ι2:List Addr} {H H1 H2:Hp}
theorem Ext.refl:Ext ι ι H H:=⟨List.prefix_refl _,fun _ _ h=>h,fun _ _ _ h=>h,fun _ _ h _=>h,fun _ h n=>absurd h n⟩
theorem Ext.trans (a:Ext ι ι1 H H1) (b:Ext ι1 ι2 H1 H2):Ext ι ι2 H H2 where
 pre:=a.pre.trans b.pre
 tup:=fun x xs h=>b.tup x xs (a.tup x xs h)
 frz:=fun x o u h=>b.frz x o u (a.frz x o u h)
 oth:=fun x o h n=>b.oth x o (a.oth x o h n) fun m=>by
  have:=a.fresh x m n
  rw [h] at this; cases this
 fresh:=fun x m n=>by
  by_cases h1:x∈ι1
  ·exact a.fresh x h1 n
  ·have:=b.fresh x m h1
   cases q:H x with
   | none=>rfl
   | some o=>rw [a.oth x o q n] at this; cases this
theorem Ext.laid {p:Addr} {o:HO} (hp:H p=none):Ext ι ι H (upd H p o) :=
 ⟨List.prefix_refl _,fun a xs h=>by rw [aB (aT h hp)]; exact h,fun a o u h=>by rw [aB (aT h hp)]; exact h,fun a o h _=>by rw [aB (aT h hp)]; exact h,fun _ h n=>absurd h n⟩
theorem Ext.more {p:Addr} {o:HO} (hp:H p=none):Ext ι (ι++[p]) H (upd H p o) :=
 ⟨List.prefix_append _ _,fun a xs h=>by rw [aB (aT h hp)]; exact h,fun a o u h=>by rw [aB (aT h hp)]; exact h,fun a o h _=>by rw [aB (aT h hp)]; exact h,fun a h n=>by
  rcases List.mem_append.mp h with z|z
  ·exact absurd z n
  ·have:a=p:=by simpa using z
   rw [this]; exact hp⟩
theorem eV {α:Type} {xs ys:List α} (h:xs <+: ys) {i:Nat} {x:α} (e:xs[i]?=some x):ys[i]?=some x:=by
 obtain ⟨t,rfl⟩:=h
 rw [List.getElem?_append_left (List.getElem?_eq_some_iff.mp e).1]
 exact e
end
section
variable {Γ:Gx} {ι ι1:List Addr} {H H1:Hp}
theorem Ext.sqT (e:Ext ι ι1 H H1) {a:Addr} {xs:List V} (h:SqT Γ.K H a xs):SqT Γ.K H1 a xs:=by
 rcases h with (h|⟨o,h⟩)|h
 ·exact .inl (.inl (e.tup _ _ h))
 ·exact .inl (.inr ⟨o,e.frz _ _ _ h⟩)
 ·exact .inr h
theorem Ext.fro (e:Ext ι ι1 H H1) {a:Addr} {xs:List V} (h:Fro Γ.K H a xs):Fro Γ.K H1 a xs:=by
 rcases h with ⟨o,h⟩|h
 ·exact .inl ⟨o,e.frz _ _ _ h⟩
 ·exact .inr h
theorem Rep.ext (e:Ext ι ι1 H H1) {d:D} {v:V} (h:Rep Γ ι H d v):Rep Γ ι1 H1 d v:=by
 induction h with
 | non=>exact .non
 | bl b=>exact .bl b
 | int i=>exact .int i
 | str x=>exact .str x
 | tup h1 h2 h3 ih=>exact .tup (e.sqT h1) h2 ih
 | fro h1 h2 h3 ih=>exact .fro (e.fro h1) h2 ih
 | loc h=>exact .loc (eV e.pre h)
theorem au.ext (e:Ext ι ι1 H H1) {ds:List D} {vs:List V} (h:au Γ ι H ds vs):au Γ ι1 H1 ds vs:=Paired.imp (fun _ _ r=>Rep.ext e r) h
end
abbrev aR (Γ:Gx) (ι:List Addr) (H:Hp):List (List Int × D)->List (List Key × V)->Prop:=Paired fun p q=>q.1=p.1.map Sum.inl/\Rep Γ ι H p.2 q.2
noncomputable def jb (Γ:Gx) (ι:List Addr) (H:Hp) (a:Addr):Cell->Prop
 | .lst ds=>∃ xs,H a=some (.lst xs)/\au Γ ι H ds xs
 | .dct kvs=>∃ xs,H a=some (.dT xs)/\aR Γ ι H kvs xs
structure aq (Γ:Gx) (ι:List Addr) (H:Hp) (S:aa):Prop where
 len:ι.length=S.length
 nd:ι.Nodup
 cell:∀ (l:Nat) c,S[l]?=some c->∃ a,ι[l]?=some a/\jb Γ ι H a c
structure aS (Γ:Gx) (ι:List Addr) (H:Hp) (σ:L2.St) (σd:Sg):Prop where
 len:σ.length=σd.length
 var:∀ (i:Nat) d,σd[i]?=some (some d)->∃ v,σ[i]?=some (some v)/\Rep Γ ι H d v
theorem aS.ext {Γ:Gx} {ι ι1:List Addr} {H H1:Hp} {σ:L2.St} {σd:Sg} (e:Ext ι ι1 H H1) (h:aS Γ ι H σ σd):aS Γ ι1 H1 σ σd :=
 ⟨h.len,fun i d q=>let ⟨v,a,b⟩:=h.var i d q; ⟨v,a,b.ext e⟩⟩
abbrev XW:=Str->aa->List Addr->Hp->Prop
noncomputable def Out {α:Type} (Γ:Gx) (xw:XW) (ι:List Addr) (H:Hp) (r:Res α) (k:α->aa->List Addr->Hp->Prop):Prop:=match r with
 | .ok a S'=>∀ ι' H',Ext ι ι' H H'->aq Γ ι' H' S'->k a S' ι' H'
 | .exc c S'=>∀ ι' H',Ext ι ι' H H'->aq Γ ι' H' S'->xw c S' ι' H'
 | .bad=>False
section
variable {Γ:Gx} {xw:XW} {ι ι1:List Addr} {H H1:Hp} {α β:Type}
theorem Out.step {r:Res α} {k:α->aa->List Addr->Hp->Prop} (h:Out Γ xw ι H r k) (e:Ext ι ι1 H H1):Out Γ xw ι1 H1 r k:=by
 cases r with
 | ok a S'=>exact fun ι' H' e' s'=>h ι' H' (e.trans e') s'
 | exc c S'=>exact fun ι' H' e' s'=>h ι' H' (e.trans e') s'
 | bad=>exact h
theorem Out.mono {r:Res α} {k k':α->aa->List Addr->Hp->Prop} (h:Out Γ xw ι H r k) (f:∀ a S' ι' H',Ext ι ι' H H'->aq Γ ι' H' S'->k a S' ι' H'->k' a S' ι' H'):Out Γ xw ι H r k':=by
 cases r with
 | ok a S'=>exact fun ι' H' e' s'=>f _ _ _ _ e' s' (h ι' H' e' s')
 | exc c S'=>exact h
 | bad=>exact h
theorem Out.bind {m:M α} {f:α->M β} {S:aa} {k:β->aa->List Addr->Hp->Prop} (h:Out Γ xw ι H ((m>>=f) S) k) :
  Out Γ xw ι H (m S) (fun a S' ι' H'=>aq Γ ι' H' S'/\Ext ι ι' H H'/\Out Γ xw ι' H' (f a S') k):=by
 rw [cT] at h
 cases q:m S with
 | ok a S'=>rw [q] at h; exact fun ι' H' e' s'=>⟨s',e',Out.step h e'⟩
 | exc c S'=>rw [q] at h; exact h
 | bad=>rw [q] at h; exact h
theorem Out.here {a:α} {S:aa} {k:α->aa->List Addr->Hp->Prop} (h:Out Γ xw ι H (.ok a S) k) (s:aq Γ ι H S):k a S ι H:=h ι H .refl s
theorem Out.quiet {m:M α} {S:aa} {k:α->aa->List Addr->Hp->Prop} (h:Out Γ xw ι H (quiet m S) k) (xw':XW):Out Γ xw' ι H (m S) k:=by
 unfold EV.quiet at h
 cases q:m S with
 | ok a S'=>rw [q] at h; exact h
 | exc c S'=>rw [q] at h; exact h.elim
 | bad=>rw [q] at h; exact h.elim
end
noncomputable def tM (Γ:Gx) (xw:XW) (m:Sg->M D):TE:=fun σ H Q=>∃ σd ι S,aS Γ ι H σ σd/\aq Γ ι H S/\Out Γ xw ι H (m σd S) fun d _ ι' H'=>∀ v,Rep Γ ι' H' d v->Q v H'
noncomputable def tMT (Γ:Gx) (xw:XW) (m:Sg->M Bool):TT:=fun σ H Q=>∃ σd ι S,aS Γ ι H σ σd/\aq Γ ι H S/\Out Γ xw ι H (m σd S) fun b _ _ H'=>Q b H'
noncomputable def tMA (Γ:Gx) (xw:XW) (m:Sg->M (List D)):TA:=fun σ H Q=>∃ σd ι S,aS Γ ι H σ σd/\aq Γ ι H S/\Out Γ xw ι H (m σd S) fun ds _ ι' H'=>∀ vs,au Γ ι' H' ds vs->Q vs H'
theorem PE.imp {X:Cx} {e:Expr} {t t':TE} (h:PE X e t) (f:∀ σ H Q,t' σ H Q->t σ H Q):PE X e t':=fun pins s σ H Q I q=>h pins s σ H Q I (f σ H Q q)
theorem PT.imp {X:Cx} {e:Expr} {t t':TT} (h:PT X e t) (f:∀ σ H Q,t' σ H Q->t σ H Q):PT X e t':=fun pins s σ H Q I q=>h pins s σ H Q I (f σ H Q q)
theorem PW.imp {X:Cx} {e:Expr} {t t':TT} (h:PW X e t) (f:∀ σ H Q,t' σ H Q->t σ H Q):PW X e t':=fun w pins s σ H Q I q=>h w pins s σ H Q I (f σ H Q q)
theorem PA.imp {X:Cx} {e:List Expr} {t t':TA} (h:PA X e t) (f:∀ σ H Q,t' σ H Q->t σ H Q):PA X e t':=fun p pins s σ H Q I q=>h p pins s σ H Q I (f σ H Q q)
theorem PS.imp {X:Cx} {e:Stmt} {t t':TS} (h:PS X e t) (f:∀ D σ H,t' D σ H->t D σ H):PS X e t':=fun pins s σ H D I q=>h pins s σ H D I (f D σ H q)
theorem PSs.imp {X:Cx} {e:List Stmt} {t t':TS} (h:PSs X e t) (f:∀ D σ H,t' D σ H->t D σ H):PSs X e t':=fun pins s σ H D I q=>h pins s σ H D I (f D σ H q)
section
variable {Γ:Gx} {xw:XW} {σ:L2.St} {H:Hp}
noncomputable def sS (Γ:Gx) (xw:XW) (f:D->M D) (x:V) (H:Hp) (Q:VK):Prop:=∃ ι S dx,aq Γ ι H S/\Rep Γ ι H dx x/\Out Γ xw ι H (f dx S) fun d _ ι' H'=>∀ v,Rep Γ ι' H' d v->Q v H'
noncomputable def aZ (Γ:Gx) (xw:XW) (f:D->D->M D) (x y:V) (H:Hp) (Q:VK):Prop :=
 ∃ ι S dx dy,aq Γ ι H S/\Rep Γ ι H dx x/\Rep Γ ι H dy y/\Out Γ xw ι H (f dx dy S) fun d _ ι' H'=>∀ v,Rep Γ ι' H' d v->Q v H'
noncomputable def bZ (Γ:Gx) (xw:XW) (f:List D->M D) (xs:List V) (H:Hp) (Q:VK):Prop:=∃ ι S ds,aq Γ ι H S/\au Γ ι H ds xs/\Out Γ xw ι H (f ds S) fun d _ ι' H'=>∀ v,Rep Γ ι' H' d v->Q v H'
theorem tX {ma:Sg->M D} {f:D->M D} {Q:VK} (h:tM Γ xw (fun σ=>ma σ>>=f) σ H Q):tM Γ xw ma σ H fun x H1=>sS Γ xw f x H1 Q:=by
 obtain ⟨σd,ι,S,he,hs,ho⟩:=h
 exact ⟨σd,ι,S,he,hs,ho.bind.mono fun d S' ι' H' _ _ ⟨s',e',o'⟩ v r=>⟨ι',S',d,s',r,o'⟩⟩
theorem lT {ma mb:Sg->M D} {f:D->D->M D} {Q:VK} (h:tM Γ xw (fun σ=>ma σ>>=fun x=>mb σ>>=fun y=>f x y) σ H Q) :
  tM Γ xw ma σ H fun x H1=>tM Γ xw mb σ H1 fun y H2=>aZ Γ xw f x y H2 Q:=by
 obtain ⟨σd,ι,S,he,hs,ho⟩:=h
 exact ⟨σd,ι,S,he,hs,ho.bind.mono fun d S' ι' H' _ _ ⟨s',e',o'⟩ v r=>⟨σd,ι',S',he.ext e',s',o'.bind.mono fun d2 S2 ι2 H2 _ _ ⟨s2,e2,o2⟩ v2 r2=>⟨ι2,S2,d,d2,s2,r.ext e2,r2,o2⟩⟩⟩
theorem nI {ma:Sg->M (List D)} {f:List D->M D} {Q:VK} (h:tM Γ xw (fun σ=>ma σ>>=f) σ H Q):tMA Γ xw ma σ H fun xs H1=>bZ Γ xw f xs H1 Q:=by
 obtain ⟨σd,ι,S,he,hs,ho⟩:=h
 exact ⟨σd,ι,S,he,hs,ho.bind.mono fun d S' ι' H' _ _ ⟨s',e',o'⟩ v r=>⟨ι',S',d,s',r,o'⟩⟩
end
end EV

namespace EV
open PySem PySem.Spec PyProof.Rows L2
open PySem.SeqAt (EqAt RcAt)
section
variable {X:Cx} {Γ:Gx} {xw:XW} {pins:List (Addr × Obj)} {σ:L2.St} {H:Hp} {s:Shared} {ι:List Addr} {S:aa}
theorem aq.list (hS:aq Γ ι H S) {d:D} {v:V} {ds:List D} (r:Rep Γ ι H d v) (h:asL S d=some ds):∃ a xs,v=.ref a/\SqL Γ.K H a xs/\au Γ ι H ds xs:=by
 cases d with
 | loc l =>
  cases r with
  | loc q =>
   have h':listAt S l=some ds:=h
   unfold listAt at h'
   split at h'
   ·rename_i es e
    cases h'
    obtain ⟨a,ha,xs,hx,r⟩:=hS.cell l _ e
    rw [q] at ha; cases ha
    exact ⟨_,xs,rfl,.of hx,r⟩
   ·cases h'
 | fro es =>
  cases h
  obtain ⟨a,xs,rfl,hf,rs⟩:=r.e_
  exact ⟨a,xs,rfl,hf.sq,rs⟩
 | _=>cases h
theorem aq.lst (hS:aq Γ ι H S) {l:Nat} {ds:List D} (h:S[l]?=some (.lst ds)):∃ a xs,ι[l]?=some a/\H a=some (.lst xs)/\au Γ ι H ds xs:=by
 obtain ⟨a,ha,xs,hx,r⟩:=hS.cell l _ h
 exact ⟨a,xs,ha,hx,r⟩
theorem rz {l:Nat}:items (.loc l) S=match listAt S l with|some ds=>.ok ds S|none=>.bad:=rfl
theorem g7 {α:Type}:∀ {xs:List α} {i j:Nat} {x:α},xs.Nodup->xs[i]?=some x->xs[j]?=some x->i=j
 | [],_,_,_,_,h,_=>by simp at h
 | y::r,0,0,_,_,_,_=>rfl
 | y::r,0,j+1,x,nd,h1,h2=>by
  simp at h1 h2
  subst h1
  exact absurd (List.mem_of_getElem? h2) (List.nodup_cons.mp nd).1
 | y::r,i+1,0,x,nd,h1,h2=>by
  simp at h1 h2
  subst h2
  exact absurd (List.mem_of_getElem? h1) (List.nodup_cons.mp nd).1
 | y::r,i+1,j+1,x,nd,h1,h2=>by
  exact congrArg (· + 1) (g7 (i:=i) (j:=j) (List.nodup_cons.mp nd).2 (by simpa using h1) (by simpa using h2))
theorem fZ {f:D->D->Option Bool}:∀ {xs ys:List D} {k:Bool},bG f xs ys=some k->∃ e:Nat->Bool,(∀ (j:Nat) x y,xs[j]?=some x->ys[j]?=some y->f x y=some (e j))/\k=(List.range (min xs.length ys.length)).all e
 | [],ys,k,h=>⟨fun _=>true,fun j x y e1 e2=>by simp at e1,by simp only [bG] at h; cases h; simp⟩
 | _::_,[],k,h=>⟨fun _=>true,fun j x y e1 e2=>by simp at e2,by simp only [bG] at h; cases h; simp⟩
 | x::xs,y::ys,k,h=>by
  simp only [bG] at h
  split at h
  ·rename_i a b e1 e2
   cases h
   obtain ⟨e,he,hk⟩:=fZ e2
   refine ⟨fun j=>match j with|0=>a|j+1=>e j,fun j u v q1 q2=>?_,?_⟩
   ·cases j with
    | zero=>simp at q1 q2; subst q1; subst q2; exact e1
    | succ j=>exact he j u v (by simpa using q1) (by simpa using q2)
   ·rw [show min (x::xs).length (y::ys).length=min xs.length ys.length+1 by simp only [List.length_cons]; omega,List.range_succ_eq_map,List.all_cons,List.all_map]
    rw [hk]
    rfl
  ·cases h
theorem Rep.iP {d1 d2:D} {x:V} (q1:Rep Γ ι H d1 x) (q2:Rep Γ ι H d2 x) (e:d1.kd=.flat):d2.kd=.flat:=by
 have h1:wH x=true:=by cases q1 <;> first|rfl|cases e
 cases q2 <;> first|rfl|cases h1
theorem Rep.tY {d1 d2:D} {x:V} (q1:Rep Γ ι H d1 x) (q2:Rep Γ ι H d2 x) (e:d1.kd=.flat):d1=d2:=by
 cases q1 <;> first|(cases e; done)|(cases q2; rfl)
theorem EB {d:D} {k:Bool} (h:bq d d=some k):k=true:=by
 cases d <;> first|(cases h; done)|(simp [bq] at h; exact h)
theorem C7 (hK:Γ.K=X.K) (I:Inv X pins σ H s) (hS:aq Γ ι H S):∀ (m:Nat) (d1 d2:D) (k:Bool) (x:V),eqD m S d1 d2=some k->Rep Γ ι H d1 x->Rep Γ ι H d2 x->k=true:=by
 obtain ⟨K⟩:=Γ
 have hK':K=X.K:=hK
 subst hK'
 have all:∀ (m:Nat),(∀ (d1 d2:D) (k:Bool) (x:V),eqD m S d1 d2=some k->Rep ⟨X.K⟩ ι H d1 x->Rep ⟨X.K⟩ ι H d2 x->k=true) ->
   ∀ (ds es:List D) (xs:List V) (r:Bool),au ⟨X.K⟩ ι H ds xs->au ⟨X.K⟩ ι H es xs->bG (eqD m S) ds es=some r->r=true:=by
  intro m ihm ds es xs r p1 p2 hr
  obtain ⟨e,he,hk2⟩:=fZ hr
  have l1:=p1.length
  have l2:=p2.length
  rw [hk2,List.all_eq_true]
  intro j hj
  rw [List.mem_range] at hj
  have hj1:j < ds.length:=by omega
  have hj2:j < es.length:=by omega
  obtain ⟨y1,a1,a2⟩:=Paired.get p1 (List.getElem?_eq_getElem hj1)
  obtain ⟨y2,a3,a4⟩:=Paired.get p2 (List.getElem?_eq_getElem hj2)
  rw [a1] at a3; cases a3
  exact ihm _ _ _ y1 (he j _ _ (List.getElem?_eq_getElem hj1) (List.getElem?_eq_getElem hj2)) a2 a4
 intro m
 induction m with
 | zero=>intro d1 d2 k x h; simp [eqD] at h
 | succ m ihm =>
  intro d1 d2 k x h q1 q2
  have hall:=all m ihm
  have tl:∀ {es:List D} {a:Addr} {d:D},(∃ xs,SqT X.K H a xs)->∀ {z},asL S d=some z->Rep ⟨X.K⟩ ι H d (.ref a)->False:=fun {es a d} ht {z} hz hr=>by
   obtain ⟨xs,ht⟩:=ht
   obtain ⟨b,ys,e,sb,_⟩:=hS.list hr hz
   cases e
   obtain ⟨its,_,pl,_⟩:=I.list sb
   obtain ⟨its2,_,pt,_⟩:=I.tuple ht
   exact absurd rfl (SeqAt.ne_of_list_tuple pl.isList pt)
  cases e1:d1.kd <;> cases e2:d2.kd <;> simp only [eqD,e1,e2] at h
  ·have e:=Rep.tY q1 q2 e1
   rw [<- e] at h
   exact EB h
  ·rw [Rep.iP q1 q2 e1] at e2; cases e2
  ·rw [Rep.iP q1 q2 e1] at e2; cases e2
  ·cases h
  ·rw [Rep.iP q2 q1 e2] at e1; cases e1
  ·cases d1 <;> first|(cases e1; done)|skip
   cases d2 <;> first|(cases e2; done)|skip
   obtain ⟨a,xs,rfl,t1,p1⟩:=q1.bA
   obtain ⟨b,ys,eb,t2,p2⟩:=q2.bA
   cases eb
   have e:xs=ys:=I.jn t1 t2
   subst e
   simp only [Option.map_eq_some_iff] at h
   obtain ⟨r,hr,hk⟩:=h
   have hl:(D.its (D.tup _)).length=(D.its (D.tup _)).length:=(p1.length).trans p2.length.symm
   rw [<- hk,hall _ _ xs r p1 p2 hr,hl]; simp
  ·simp only [Option.map_eq_some_iff] at h
   obtain ⟨z,hz,_⟩:=h
   cases d1 <;> first|(cases e1; done)|skip
   obtain ⟨a,xs,rfl,t1,p1⟩:=q1.bA
   exact (tl (es:=[]) ⟨xs,t1⟩ hz q2).elim
  ·cases h
  ·rw [Rep.iP q2 q1 e2] at e1; cases e1
  ·simp only [Option.map_eq_some_iff] at h
   obtain ⟨z,hz,_⟩:=h
   cases d2 <;> first|(cases e2; done)|skip
   obtain ⟨a,xs,rfl,t1,p1⟩:=q2.bA
   exact (tl (es:=[]) ⟨xs,t1⟩ hz q1).elim
  ·split at h
   ·rename_i ds es hd he
    obtain ⟨a,xs,rfl,s1,p1⟩:=hS.list q1 hd
    obtain ⟨b,ys,eb,s2,p2⟩:=hS.list q2 he
    cases eb
    have e:xs=ys:=I.jw s1 s2
    subst e
    rw [if_pos (p1.length.trans p2.length.symm)] at h
    exact hall _ _ xs k p1 p2 h
   ·cases h
  ·cases h
  ·cases h
  ·cases h
  ·cases h
  ·cases h
theorem E3 {A:Around} {d1 d2:D} {k:Bool} {x1 x2:V} {u1 u2:Value} (h:bq d1 d2=some k) (r1:Rep Γ ι H d1 x1) (r2:Rep Γ ι H d2 x2) (v1:RelV x1 u1) (v2:RelV x2 u2) (e1:d1.kd=.flat) (e2:d2.kd=.flat):RcAt A s u1 u2 k/\EqAt A s u1 u2 k:=by
 cases r1 <;> first|(cases e1; done)|skip
 all_goals (cases r2 <;> first|(cases e2; done)|skip)
 ·cases v1; cases v2; simp [bq] at h; subst h; exact ⟨RcAt.none_none,EqAt.same _⟩
 ·cases v1; cases v2; simp [bq] at h; subst h; exact ⟨.none_bool _,.none_bool _⟩
 ·cases v1; obtain ⟨t,rfl⟩:=v2; simp [bq] at h; subst h; exact ⟨.none_int _ t,.none_int _ t⟩
 ·cases v1; obtain ⟨t,rfl⟩:=v2; simp [bq] at h; subst h; exact ⟨.none_str _ t,.none_str _ t⟩
 ·cases v1; cases v2; simp [bq] at h; subst h; exact ⟨.bool_none _,.bool_none _⟩
 ·cases v1; cases v2; simp [bq] at h; subst h; exact ⟨.bool_bool _ _,.bool_bool _ _⟩
 ·cases v1; obtain ⟨t,rfl⟩:=v2; simp [bq] at h; subst h; exact ⟨.bool_int _ _ t,.bool_int _ _ t⟩
 ·cases v1; obtain ⟨t,rfl⟩:=v2; simp [bq] at h; subst h; exact ⟨.bool_str _ _ t,.bool_str _ _ t⟩
 ·obtain ⟨ta,rfl⟩:=v1; cases v2; simp [bq] at h; subst h; exact ⟨.int_none _ ta,.int_none _ ta⟩
 ·obtain ⟨ta,rfl⟩:=v1; cases v2; simp [bq] at h; subst h; exact ⟨.int_bool _ ta _,.int_bool _ ta _⟩
 ·obtain ⟨ta,rfl⟩:=v1; obtain ⟨t,rfl⟩:=v2; simp [bq] at h; subst h; exact ⟨.int_int _ ta _ t,.int_int _ ta _ t⟩
 ·obtain ⟨ta,rfl⟩:=v1; obtain ⟨t,rfl⟩:=v2; simp [bq] at h; subst h; exact ⟨.int_str _ ta _ t,.int_str _ ta _ t⟩
 ·obtain ⟨ta,rfl⟩:=v1; cases v2; simp [bq] at h; subst h; exact ⟨.str_none _ ta,.str_none _ ta⟩
 ·obtain ⟨ta,rfl⟩:=v1; cases v2; simp [bq] at h; subst h; exact ⟨.str_bool _ ta _,.str_bool _ ta _⟩
 ·obtain ⟨ta,rfl⟩:=v1; obtain ⟨t,rfl⟩:=v2; simp [bq] at h; subst h; exact ⟨.str_int _ ta _ t,.str_int _ ta _ t⟩
 ·obtain ⟨ta,rfl⟩:=v1; obtain ⟨t,rfl⟩:=v2; simp [bq] at h; subst h; exact ⟨.str_str _ ta _ t,.str_str _ ta _ t⟩
theorem lz (hK:Γ.K=X.K) (I:Inv X pins σ H s) (hS:aq Γ ι H S):∀ (n:Nat) (A:Around) (d1 d2:D) (k:Bool) (x1 x2:V) (u1 u2:Value),eqD n S d1 d2=some k->Rep Γ ι H d1 x1->Rep Γ ι H d2 x2->RelV x1 u1->RelV x2 u2->A.units+n < cLine ->
  RcAt A s u1 u2 k/\EqAt A s u1 u2 k:=by
 have same:=C7 hK I hS
 obtain ⟨K⟩:=Γ
 have hK':K=X.K:=hK
 subst hK'
 intro n
 induction n with
 | zero=>intro A d1 d2 k x1 x2 u1 u2 h; simp [eqD] at h
 | succ n ih =>
  intro A d1 d2 k x1 x2 u1 u2 h r1 r2 v1 v2 hu
  have hu0:A.units < cLine:=by omega
  have hu1:A.in1.units+n < cLine:=by show A.units+1+n < cLine; omega
  have h0:=h
  have each:∀ {ds es:List D} {xs ys:List V} {its1 its2:List Value} {e:Nat->Bool},au ⟨X.K⟩ ι H ds xs->au ⟨X.K⟩ ι H es ys->Vals xs its1->Vals ys its2 ->
    (∀ (j:Nat) x y,ds[j]?=some x->es[j]?=some y->eqD n S x y=some (e j))->∀ (j:Nat) (h1:j < its1.toArray.size) (h2:j < its2.toArray.size),EqAt A.in1 s its1.toArray[j] its2.toArray[j] (e j):=by
   intro ds es xs ys its1 its2 e rp1 rp2 rv1 rv2 he j h1 h2
   rw [List.size_toArray] at h1 h2
   have l1:=rp1.length
   have l2:=rp2.length
   have l3:=rv1.length
   have l4:=rv2.length
   have j1:j < ds.length:=by omega
   have j2:j < es.length:=by omega
   obtain ⟨y1,a1,a2⟩:=Paired.get rp1 (List.getElem?_eq_getElem j1)
   obtain ⟨y2,a3,a4⟩:=Paired.get rp2 (List.getElem?_eq_getElem j2)
   obtain ⟨w1,z1,z2⟩:=rv1.get a1
   obtain ⟨w2,z3,z4⟩:=rv2.get a3
   have:=(ih A.in1 ds[j] es[j] (e j) y1 y2 w1 w2 (he j _ _ (List.getElem?_eq_getElem j1) (List.getElem?_eq_getElem j2)) a2 a4 z2 z4 hu1).2
   have q1:its1.toArray[j]'(by rw [List.size_toArray]; exact h1)=w1:=by
    have:its1[j]?=some its1[j]:=List.getElem?_eq_getElem h1
    rw [z1] at this; cases this; rfl
   have q2:its2.toArray[j]'(by rw [List.size_toArray]; exact h2)=w2:=by
    have:its2[j]?=some its2[j]:=List.getElem?_eq_getElem h2
    rw [z3] at this; cases this; rfl
   rw [q1,q2]; exact this
  have lst:∀ {d:D} {x:V} {u:Value} {zs:List D},Rep ⟨X.K⟩ ι H d x->RelV x u->asL S d=some zs->∃ a xs its,x=.ref a/\u=.ref a/\au ⟨X.K⟩ ι H zs xs/\Vals xs its/\s.heap.IsList a its.toArray:=fun {d x u zs} r rv hz=>by
   obtain ⟨b,ys,e,sb,rp⟩:=hS.list r hz
   subst e
   cases rv
   obtain ⟨its,rv,p,_⟩:=I.list sb
   exact ⟨b,ys,its,rfl,rfl,rp,rv,p.isList⟩
  have tpl:∀ {ds:List D} {x:V} {u:Value},Rep ⟨X.K⟩ ι H (.tup ds) x->RelV x u->∃ a xs its,x=.ref a/\u=.ref a/\au ⟨X.K⟩ ι H ds xs/\Vals xs its/\s.heap.IsTuple a its.toArray:=fun {ds x u} r rv=>by
   obtain ⟨a,xs,e,t,p⟩:=r.bA
   subst e
   cases rv
   obtain ⟨its,rv,p2,_⟩:=I.tuple t
   exact ⟨a,xs,its,rfl,rfl,p,rv,p2⟩
  cases e1:d1.kd <;> cases e2:d2.kd <;> simp only [eqD,e1,e2] at h
  ·exact E3 h r1 r2 v1 v2 e1 e2
  ·cases h
   cases d2 <;> first|(cases e2; done)|skip
   obtain ⟨a,xs,its,rfl,rfl,_,_,p⟩:=tpl r2 v2
   cases r1 <;> first|(cases e1; done)|skip
   ·cases v1; exact ⟨.none_tuple p hu0,.none_tuple p hu0⟩
   ·cases v1; exact ⟨.bool_tuple _ p hu0,.bool_tuple _ p hu0⟩
   ·obtain ⟨ta,rfl⟩:=v1; exact ⟨.int_tuple _ ta p hu0,.int_tuple _ ta p hu0⟩
   ·obtain ⟨ta,rfl⟩:=v1; exact ⟨.str_tuple _ ta p hu0,.str_tuple _ ta p hu0⟩
  ·simp only [Option.map_eq_some_iff] at h
   obtain ⟨z,hz,rfl⟩:=h
   obtain ⟨a,xs,its,rfl,rfl,_,_,p⟩:=lst r2 v2 hz
   cases r1 <;> first|(cases e1; done)|skip
   ·cases v1; exact ⟨.none_list p hu0,.none_list p hu0⟩
   ·cases v1; exact ⟨.bool_list _ p hu0,.bool_list _ p hu0⟩
   ·obtain ⟨ta,rfl⟩:=v1; exact ⟨.int_list _ ta p hu0,.int_list _ ta p hu0⟩
   ·obtain ⟨ta,rfl⟩:=v1; exact ⟨.str_list _ ta p hu0,.str_list _ ta p hu0⟩
  ·cases h
  ·cases h
   cases d1 <;> first|(cases e1; done)|skip
   obtain ⟨a,xs,its,rfl,rfl,_,_,p⟩:=tpl r1 v1
   cases r2 <;> first|(cases e2; done)|skip
   ·cases v2; exact ⟨.tuple_none p hu0,.tuple_none p hu0⟩
   ·cases v2; exact ⟨.tuple_bool _ p hu0,.tuple_bool _ p hu0⟩
   ·obtain ⟨ta,rfl⟩:=v2; exact ⟨.tuple_int _ ta p hu0,.tuple_int _ ta p hu0⟩
   ·obtain ⟨ta,rfl⟩:=v2; exact ⟨.tuple_str _ ta p hu0,.tuple_str _ ta p hu0⟩
  ·cases d1 <;> first|(cases e1; done)|skip
   cases d2 <;> first|(cases e2; done)|skip
   obtain ⟨a,xs,its1,rfl,rfl,rp1,rv1,p1⟩:=tpl r1 v1
   obtain ⟨b,ys,its2,rfl,rfl,rp2,rv2,p2⟩:=tpl r2 v2
   simp only [Option.map_eq_some_iff] at h
   obtain ⟨r,hr,hk⟩:=h
   obtain ⟨e,he,hk2⟩:=fZ hr
   have rc:RcAt A s (.ref a) (.ref b) k:=by
    have:=RcAt.tuples (A:=A) (e:=e) p1 p2 hu0 (each rp1 rp2 rv1 rv2 he)
    rw [List.size_toArray,List.size_toArray,<- rv1.length,<- rv2.length,<- rp1.length,<- rp2.length] at this
    rw [<- hk,hk2]; exact this
   refine ⟨rc,?_⟩
   by_cases hab:a=b
   ·subst hab
    rw [same _ _ _ k _ h0 r1 r2]; exact EqAt.same _
   ·exact .of_refs hab rc
  ·simp only [Option.map_eq_some_iff] at h
   obtain ⟨z,hz,rfl⟩:=h
   cases d1 <;> first|(cases e1; done)|skip
   obtain ⟨a,xs,its1,rfl,rfl,rp1,rv1,p1⟩:=tpl r1 v1
   obtain ⟨b,ys,its2,rfl,rfl,rp2,rv2,p2⟩:=lst r2 v2 hz
   exact ⟨.tuple_list p1 p2 hu0,.tuple_list p1 p2 hu0⟩
  ·cases h
  ·simp only [Option.map_eq_some_iff] at h
   obtain ⟨z,hz,rfl⟩:=h
   obtain ⟨a,xs,its,rfl,rfl,_,_,p⟩:=lst r1 v1 hz
   cases r2 <;> first|(cases e2; done)|skip
   ·cases v2; exact ⟨.list_none p hu0,.list_none p hu0⟩
   ·cases v2; exact ⟨.list_bool _ p hu0,.list_bool _ p hu0⟩
   ·obtain ⟨ta,rfl⟩:=v2; exact ⟨.list_int _ ta p hu0,.list_int _ ta p hu0⟩
   ·obtain ⟨ta,rfl⟩:=v2; exact ⟨.list_str _ ta p hu0,.list_str _ ta p hu0⟩
  ·simp only [Option.map_eq_some_iff] at h
   obtain ⟨z,hz,rfl⟩:=h
   cases d2 <;> first|(cases e2; done)|skip
   obtain ⟨a,xs,its1,rfl,rfl,rp1,rv1,p1⟩:=tpl r2 v2
   obtain ⟨b,ys,its2,rfl,rfl,rp2,rv2,p2⟩:=lst r1 v1 hz
   exact ⟨.list_tuple p2 p1 hu0,.list_tuple p2 p1 hu0⟩
  ·split at h
   ·rename_i ds es hd he
    obtain ⟨a,xs,its1,rfl,rfl,rp1,rv1,p1⟩:=lst r1 v1 hd
    obtain ⟨b,ys,its2,rfl,rfl,rp2,rv2,p2⟩:=lst r2 v2 he
    have e1:its1.toArray.size=ds.length:=by rw [List.size_toArray,<- rv1.length,<- rp1.length]
    have e2:its2.toArray.size=es.length:=by rw [List.size_toArray,<- rv2.length,<- rp2.length]
    have rc:RcAt A s (.ref a) (.ref b) k:=by
     by_cases hlen:ds.length=es.length
     ·rw [if_pos hlen] at h
      obtain ⟨e,he',hk2⟩:=fZ h
      have:=RcAt.lists (A:=A) (e:=e) p1 p2 (by omega) hu0 (each rp1 rp2 rv1 rv2 he')
      rw [e1] at this; rw [hk2,<- hlen,Nat.min_self]; exact this
     ·rw [if_neg hlen] at h
      cases h
      exact RcAt.lists_lengths p1 p2 (by rw [e1,e2]; simpa using hlen) hu0
    refine ⟨rc,?_⟩
    by_cases hab:a=b
    ·subst hab
     rw [same _ _ _ k _ h0 r1 r2]; exact EqAt.same _
    ·exact .of_refs hab rc
   ·cases h
  ·cases h
  ·cases h
  ·cases h
  ·cases h
  ·cases h
end
end EV

namespace HT
open PySem PyProof.Rows
section
variable {prog:Program} {w:World} {A:Around} {E:Value->Shared->Prop} {s:Shared}
theorem Bk {t sl:Addr} {items:Array Value} {vl vu:Value} {lo hi:Option Int} {Q:Value->Shared->Prop} (ht:IsTup s.heap t items) (hs:s.heap.IsSliceOf sl vl vu .none) (pl:IsPart vl lo) (pu:IsPart vu hi)
  (hw:sIx items.size 0 lo=0/\sIx items.size items.size hi=items.size) (h:Q (.ref t) s):wpAny (model prog w) A (getItem (.ref t) (.ref sl)) Q E s:=by
 obtain ⟨os,hos,hcs,hds⟩:=id hs
 have hTs:s.TypeIs (.ref sl) "slice":=⟨os,hos,hcs⟩
 unfold getItem
 try with_reducible refine wpAny_holding ?_
 first|refine wpAny_bind (wpAny_pure ?_)|skip
 refine wpAny_bind (wpAny_sequenceKey ht.typeIs (by decide) ?_)
 refine wpAny_bind (wpAny_callSpecial?_slot (name:=Str.ofString "__getitem__") ht.typeIs PyProof.Rows.slot_tuple_getitem
  (wpAny_call_entry PyProof.Rows.slot_tuple_getitem ht.typeIs entry_tuple_getitem ?_ (args_tuple_getitem _ _)))
 show wpAny _ _ (Builtin.Tuple.tupleItemsOf (.ref t)>>=_) _ _ s
 refine wpAny_bind (tupleItemsOf_ ht ?_)
 refine wpAny_bind (wpAny_typeOf hTs ?_)
 rw [if_pos (by decide)]
 refine wpAny_bind (sL hs pl pu ?_)
 have hyes:(((sIx items.size 0 lo:Nat):Int)==0&&(1:Int)==1&&(sIx items.size items.size hi - sIx items.size 0 lo)==items.size)=true:=by
  rw [hw.1,hw.2]; simp
 show wpAny _ _ (if (((sIx items.size 0 lo:Nat):Int)==0&&(1:Int)==1&&(sIx items.size items.size hi - sIx items.size 0 lo)==items.size)=true then _ else _) _ _ s
 rw [if_pos hyes]
 have hx:∀ {P:Bool->Shared->Prop},P true s->wpAny (model prog w) A.in1 (Builtin.Tuple.tupleIsExact (.ref t)) P E s:=fun {P} hp=>by
  unfold Builtin.Tuple.tupleIsExact
  refine wpAny_bind (wpAny_typeOf ht.typeIs (wpAny_pure ?_))
  simpa using hp
 refine wpAny_bind (hx ?_)
 rw [if_pos rfl]
 exact wpAny_bind (wpAny_rule (wpAny_pure ⟨_,rfl,wpAny_pure h⟩))
end
end HT
namespace EV
open PySem PySem.Spec PyProof.Rows L2
open PySem.SeqAt (EqAt RcAt)
section
variable {X:Cx} {Γ:Gx} {xw:XW} {pins:List (Addr × Obj)} {σ:L2.St} {H:Hp} {s:Shared} {ι:List Addr} {S:aa}
theorem aq.new (hS:aq Γ ι H S) {p:Addr} (hp:H p=none):p ∉ ι:=fun m=>by
 obtain ⟨l,e⟩:=List.getElem?_of_mem m
 have hl:l < S.length:=by rw [<- hS.len]; exact (List.getElem?_eq_some_iff.mp e).1
 obtain ⟨a,ha,c⟩:=hS.cell l S[l] (List.getElem?_eq_getElem hl)
 rw [e] at ha; cases ha
 cases q:S[l] with
 | lst ds=>rw [q] at c; obtain ⟨xs,hx,_⟩:=c; rw [hp] at hx; cases hx
 | dct kvs=>rw [q] at c; obtain ⟨xs,hx,_⟩:=c; rw [hp] at hx; cases hx
theorem jb.ext {ι1:List Addr} {H1:Hp} (e:Ext ι ι1 H H1) {a:Addr} {c:Cell} (h:jb Γ ι H a c) (hl:∀ o,H a=some o->H1 a=some o):jb Γ ι1 H1 a c:=by
 cases c with
 | lst ds=>obtain ⟨xs,hx,r⟩:=h; exact ⟨xs,hl _ hx,au.ext e r⟩
 | dct kvs=>obtain ⟨xs,hx,r⟩:=h; exact ⟨xs,hl _ hx,Paired.imp (fun _ _ q=>⟨q.1,q.2.ext e⟩) r⟩
theorem aq.more (hS:aq Γ ι H S) {p:Addr} (hp:H p=none) {ds:List D} {xs:List V} (r:au Γ ι H ds xs):aq Γ (ι++[p]) (upd H p (.lst xs)) (S++[.lst ds]):=by
 have e:Ext ι (ι++[p]) H (upd H p (.lst xs)):=Ext.more hp
 refine ⟨by simp [hS.len],List.nodup_append.mpr ⟨hS.nd,by simp,?_⟩,fun l c h=>?_⟩
 ·intro a ha b hb
  have:b=p:=by simpa using hb
  subst this
  exact fun z=>hS.new hp (z ▸ ha)
 ·by_cases hl:l < S.length
  ·rw [List.getElem?_append_left hl] at h
   obtain ⟨a,ha,c1⟩:=hS.cell l c h
   exact ⟨a,eV e.pre ha,c1.ext e fun ys hy=>by rw [aB (aT hy hp)]; exact hy⟩
  ·rw [List.getElem?_append_right (by omega)] at h
   have hl2:l - S.length=0:=by
    have:=(List.getElem?_eq_some_iff.mp h).1
    simp at this; omega
   rw [hl2] at h
   have h':(Cell.lst ds)=c:=by simpa using h
   subst h'
   have e1:l=ι.length:=by rw [hS.len]; omega
   subst e1
   exact ⟨p,by simp,xs,bU,au.ext e r⟩
theorem aq.laid (hS:aq Γ ι H S) {p:Addr} (hp:H p=none) (o:HO):aq Γ ι (upd H p o) S :=
 ⟨hS.len,hS.nd,fun l c h=>let ⟨a,ha,c1⟩:=hS.cell l c h; ⟨a,ha,c1.ext (Ext.laid hp) fun ys hy=>by rw [aB (aT hy hp)]; exact hy⟩⟩
theorem Out.alloc {Q:VK} {ds:List D} {xs:List V} {p:Addr} (ho:Out Γ xw ι H (alloc (.lst ds) S) fun d _ ι' H'=>∀ v,Rep Γ ι' H' d v->Q v H') (hS:aq Γ ι H S) (hp:H p=none) (r:au Γ ι H ds xs):Q (.ref p) (upd H p (.lst xs)) :=
 ho (ι++[p]) _ (Ext.more hp) (hS.more hp r) _ (.loc (by rw [<- hS.len]; simp))
theorem Out.tup {Q:VK} {ds:List D} {xs:List V} {p:Addr} (ho:Out Γ xw ι H (.ok (.tup ds) S) fun d _ ι' H'=>∀ v,Rep Γ ι' H' d v->Q v H') (hS:aq Γ ι H S) (hp:H p=none) (r:au Γ ι H ds xs):Q (.ref p) (upd H p (.tup xs)) :=
 ho ι _ (Ext.laid hp) (hS.laid hp _) _ (.fC (.of bU) (au.ext (Ext.laid hp) r))
theorem Out.val {Q:VK} {d:D} {v:V} (ho:Out Γ xw ι H (.ok d S) fun d _ ι' H'=>∀ v,Rep Γ ι' H' d v->Q v H') (hS:aq Γ ι H S) (r:Rep Γ ι H d v):Q v H:=ho.here hS v r
theorem yM:OpR X (binaryOp .Add) (fun x y H Q=>∃ a b ys,x=.ref a/\y=.ref b/\SqT X.K H a []/\SqT X.K H b ys/\Q (.ref b) H):=by
 intro pins s σ H x y v u Q I rx ry h
 obtain ⟨a,b,ys,rfl,rfl,ha,hb,q⟩:=h
 cases rx
 cases ry
 obtain ⟨its,r1,p1,_⟩:=I.tuple ha
 obtain ⟨its2,r2,p2,_⟩:=I.tuple hb
 cases r1
 obtain ⟨⟨cls,dd,data,sl⟩,ho,hc,n,hd⟩:=id p1
 obtain ⟨⟨cls2,dd2,data2,sl2⟩,ho2,hc2,n2,hd2⟩:=id p2
 simp only at hc hd hc2 hd2
 subst hc hd hc2 hd2
 exact concat_meets ⟨_,ho,rfl⟩ ⟨_,ho2,rfl⟩ noFill_tuple_add seq_tuple_add PySem.F.slot_tuple_add PySem.F.entry_tuple_add (PySem.F.args_tuple_add_2 _ _)
  (tuple_addW0 a b _ its2.toArray n n2 dd dd2 sl sl2 rfl) ⟨ho,ho2,⟨.ref b,H,I,rfl,q⟩⟩
theorem Out.guard {α:Type} {b:Bool} {m:M α} {k:α->aa->List Addr->Hp->Prop} (h:Out Γ xw ι H (EV.guard b m S) k):b=true/\Out Γ xw ι H (m S) k:=by
 cases b with
 | true=>exact ⟨rfl,h⟩
 | false=>exact h.elim
theorem dD {n:Nat} (h:fits n=true):n<=sizeLine:=of_decide_eq_true h
theorem mS {n:Nat} (h:dP n=true):n < sizeLine:=of_decide_eq_true h
theorem Out.opt {α β:Type} {o:Option α} {f:α->M β} {k:β->aa->List Addr->Hp->Prop} (h:Out Γ xw ι H ((EV.opt o>>=f) S) k):∃ a,o=some a/\Out Γ xw ι H (f a S) k:=by
 cases o with
 | none=>exact h.elim
 | some a=>exact ⟨a,rfl,h⟩
theorem Out.bK {l:Nat} {f:List D->M D} {k:D->aa->List Addr->Hp->Prop} (h:Out Γ xw ι H (EV.bK l f S) k):∃ ds,S[l]?=some (.lst ds)/\Out Γ xw ι H (f ds S) k:=by
 have e:EV.bK l f S=match S[l]? with|some (.lst ds)=>f ds S|_=>.bad:=rfl
 rw [e] at h
 cases q:S[l]? with
 | none=>rw [q] at h; exact h.elim
 | some c =>
  rw [q] at h
  cases c with
  | lst ds=>exact ⟨ds,rfl,h⟩
  | dct kvs=>exact h.elim
theorem vq (hK:Γ.K=X.K):OpR X (binaryOp .Add) (aZ Γ xw (opD .add)):=by
 intro pins s σ H x y v u Q I rx ry h
 obtain ⟨ι,S,dx,dy,hS,r1,r2,ho⟩:=h
 cases dx with
 | int i =>
  cases dy with
  | int j=>cases r1; cases r2; exact w_ pins s σ H _ _ v u Q I rx ry ⟨i,j,rfl,rfl,Out.val ho hS (.int _)⟩
  | _=>exact ho.elim
 | str a =>
  cases dy with
  | str b =>
   cases r1; cases r2
   obtain ⟨hz,ho⟩:=Out.guard ho
   exact E1 pins s σ H _ _ v u Q I rx ry ⟨a,b,rfl,rfl,dD hz,Out.val ho hS (.str _)⟩
  | _=>exact ho.elim
 | tup ds =>
  cases dy with
  | tup es =>
   obtain ⟨a,xs,rfl,t1,p1⟩:=r1.bA
   obtain ⟨b,ys,rfl,t2,p2⟩:=r2.bA
   have l1:=p1.length
   have l2:=p2.length
   rw [hK] at t1 t2
   obtain ⟨hz,ho⟩:=Out.guard ho
   have hz:=dD hz
   cases xs with
   | nil =>
    have e:ds=[]:=List.length_eq_zero_iff.mp l1
    subst e
    exact yM pins s σ H _ _ v u Q I rx ry ⟨a,b,ys,rfl,rfl,t1,t2,Out.val ho hS r2⟩
   | cons z zs =>
    refine ES pins s σ H _ _ v u Q I rx ry ⟨a,b,z::zs,ys,rfl,rfl,t1,t2,by simp,by rw [<- l1,<- l2]; exact hz,fun e=>?_,fun _ p hp=>?_⟩
    ·subst e
     have e:es=[]:=List.length_eq_zero_iff.mp l2
     subst e
     rw [List.append_nil] at ho
     exact Out.val ho hS r1
    ·exact Out.tup ho hS hp (Paired.app p1 p2)
  | _=>exact ho.elim
 | loc l =>
  cases dy with
  | loc m =>
   obtain ⟨ds,e1,ho⟩:=Out.bK ho
   obtain ⟨es,e2,ho⟩:=Out.bK ho
   obtain ⟨hz,ho⟩:=Out.guard ho
   obtain ⟨a,xs,ha,hx,p1⟩:=hS.lst e1
   obtain ⟨b,ys,hb,hy,p2⟩:=hS.lst e2
   cases r1 with
   | loc q1 =>
    cases r2 with
    | loc q2 =>
     rw [ha] at q1; cases q1
     rw [hb] at q2; cases q2
     exact vK pins s σ H _ _ v u Q I rx ry ⟨a,b,xs,ys,rfl,rfl,hx,hy,by rw [<- p1.length,<- p2.length]; exact dD hz,fun p hp=>Out.alloc ho hS hp (Paired.app p1 p2)⟩
  | _=>exact ho.elim
 | _=>exact ho.elim
theorem vg:OpR X (binaryOp .Sub) (aZ Γ xw (opD .sub)):=by
 intro pins s σ H x y v u Q I rx ry h
 obtain ⟨ι,S,dx,dy,hS,r1,r2,ho⟩:=h
 cases dx with
 | int i =>
  cases dy with
  | int j=>cases r1; cases r2; exact xR pins s σ H _ _ v u Q I rx ry ⟨i,j,rfl,rfl,Out.val ho hS (.int _)⟩
  | _=>exact ho.elim
 | _=>exact ho.elim
theorem Dq (hK:Γ.K=X.K):OpR X (binaryOp .Mult) (aZ Γ xw (opD .mul)):=by
 intro pins s σ H x y v u Q I rx ry h
 obtain ⟨ι,S,dx,dy,hS,r1,r2,ho⟩:=h
 cases dx with
 | int i =>
  cases dy with
  | int j =>
   cases r1; cases r2
   obtain ⟨hz,ho⟩:=Out.guard ho
   refine Cc pins s σ H _ _ v u Q I rx ry ⟨i,j,rfl,rfl,?_,Out.val ho hS (.int _)⟩
   rcases Bool.or_eq_true_iff.mp hz with hz|hz
   ·exact .inl (of_decide_eq_true hz)
   ·exact .inr (of_decide_eq_true hz)
  | _=>exact ho.elim
 | tup ds =>
  cases dy with
  | int j =>
   obtain ⟨a,xs,rfl,t1,p1⟩:=r1.bA
   have l1:=p1.length
   rw [hK] at t1
   cases r2
   obtain ⟨hz,ho⟩:=Out.guard ho
   rw [Bool.and_eq_true,Bool.and_eq_true] at hz
   refine D5 pins s σ H _ _ v u Q I rx ry ⟨a,j,xs,rfl,rfl,t1,of_decide_eq_true hz.1.1,of_decide_eq_true hz.1.2,by rw [<- l1]; exact dD hz.2,fun e=>?_,fun p hp=>?_⟩
   ·have e2:(List.replicate j.toNat ds).flatten=ds:=by
     rcases e with e|e
     ·subst e
      have e:ds=[]:=List.length_eq_zero_iff.mp l1
      subst e
      simp
     ·subst e; simp
    rw [e2] at ho
    exact Out.val ho hS r1
   ·exact Out.tup ho hS hp (Paired.rep p1 _)
  | _=>exact ho.elim
 | loc l =>
  cases dy with
  | int j =>
   obtain ⟨ds,hl,ho⟩:=Out.bK ho
   obtain ⟨a,xs,ha,hx,p1⟩:=hS.lst hl
   cases r2
   cases r1 with
   | loc q =>
    rw [ha] at q; cases q
    obtain ⟨hz,ho⟩:=Out.guard ho
    rw [Bool.and_eq_true,Bool.and_eq_true] at hz
    exact DL pins s σ H _ _ v u Q I rx ry ⟨a,j,xs,rfl,rfl,hx,of_decide_eq_true hz.1.1,of_decide_eq_true hz.1.2,by rw [<- p1.length]; exact dD hz.2,fun p hp=>Out.alloc ho hS hp (Paired.rep p1 _)⟩
  | _=>exact ho.elim
 | _=>exact ho.elim
theorem AF:OpR X (binaryOp .FloorDiv) (aZ Γ xw (opD .fdiv)):=by
 intro pins s σ H x y v u Q I rx ry h
 obtain ⟨ι,S,dx,dy,hS,r1,r2,ho⟩:=h
 cases dx with
 | int i =>
  cases dy with
  | int j =>
   cases r1; cases r2
   obtain ⟨hz,ho⟩:=Out.guard ho
   rw [Bool.and_eq_true] at hz
   exact yP pins s σ H _ _ v u Q I rx ry ⟨i,j,rfl,rfl,⟨of_decide_eq_true hz.1,of_decide_eq_true hz.2⟩,Out.val ho hS (.int _)⟩
  | _=>exact ho.elim
 | _=>exact ho.elim
theorem AM:OpR X (binaryOp .Mod) (aZ Γ xw (opD .mod)):=by
 intro pins s σ H x y v u Q I rx ry h
 obtain ⟨ι,S,dx,dy,hS,r1,r2,ho⟩:=h
 cases dx with
 | int i =>
  cases dy with
  | int j =>
   cases r1; cases r2
   obtain ⟨hz,ho⟩:=Out.guard ho
   exact ug pins s σ H _ _ v u Q I rx ry ⟨i,j,rfl,rfl,of_decide_eq_true hz,Out.val ho hS (.int _)⟩
  | _=>exact ho.elim
 | _=>exact ho.elim
theorem CJ:OpR X (binaryOp .Pow) (aZ Γ xw (opD .pow)):=by
 intro pins s σ H x y v u Q I rx ry h
 obtain ⟨ι,S,dx,dy,hS,r1,r2,ho⟩:=h
 cases dx with
 | int i =>
  cases dy with
  | int j =>
   cases r1; cases r2
   obtain ⟨hz,ho⟩:=Out.guard ho
   rw [Bool.and_eq_true,Bool.and_eq_true] at hz
   have h2:j<=1000:=of_decide_eq_true hz.1.2
   exact xM pins s σ H _ _ v u Q I rx ry ⟨i,j,rfl,rfl,⟨of_decide_eq_true hz.1.1,by omega,of_decide_eq_true hz.2⟩,Out.val ho hS (.int _)⟩
  | _=>exact ho.elim
 | _=>exact ho.elim
theorem iw {op:CmpOp} {p:Int->Int->Bool} (h0:OpR X (compareOp op) (rI0 fun i j=>.bl (p i j))):OpR X (compareOp op) (aZ Γ xw (fW p)):=by
 intro pins s σ H x y v u Q I rx ry h
 obtain ⟨ι,S,dx,dy,hS,r1,r2,ho⟩:=h
 cases dx with
 | int i =>
  cases dy with
  | int j=>cases r1; cases r2; exact h0 pins s σ H _ _ v u Q I rx ry ⟨i,j,rfl,rfl,Out.val ho hS (.bl _)⟩
  | _=>exact ho.elim
 | _=>exact ho.elim
theorem D8:OpR X (compareOp .Lt) (aZ Γ xw (cmD .lt)):=iw Fi
theorem EY:OpR X (compareOp .LtE) (aZ Γ xw (cmD .le)):=iw wX
theorem BV:OpR X (compareOp .Gt) (aZ Γ xw (cmD .gt)):=iw v7
theorem DW:OpR X (compareOp .GtE) (aZ Γ xw (cmD .ge)):=iw vV
theorem rS {dx dy:D} {f:Bool->M D} {k:D->aa->List Addr->Hp->Prop} (ho:Out Γ xw ι H ((eqM dx dy>>=f) S) k):∃ b,eqD deep S dx dy=some b/\Out Γ xw ι H (f b S) k:=by
 rw [cT] at ho
 unfold eqM at ho
 cases q:eqD deep S dx dy with
 | none=>rw [q] at ho; exact ho.elim
 | some b=>rw [q] at ho; exact ⟨b,rfl,ho⟩
theorem s_eq (hK:Γ.K=X.K) (hu:X.A.units+64 < cLine):OpR X (compareOp .Eq) (aZ Γ xw (cmD .eq)):=by
 intro pins s σ H x y v u Q I rx ry h
 obtain ⟨ι,S,dx,dy,hS,r1,r2,ho⟩:=h
 obtain ⟨k,q,ho⟩:=rS ho
 have:=(lz hK I hS deep X.A dx dy k x y v u q r1 r2 rx ry (by unfold deep; omega)).1
 exact this X.prog X.w X.xe _ ⟨.bl k,H,I,rfl,Out.val ho hS (.bl _)⟩
end
end EV

namespace EV
open PySem PySem.Spec PyProof.Rows L2
open PySem.SeqAt (EqAt RcAt)
section
variable {X:Cx} {Γ:Gx} {xw:XW} {pins:List (Addr × Obj)} {σ:L2.St} {H:Hp} {s:Shared} {ι:List Addr} {S:aa}
theorem pT (hK:Γ.K=X.K) (I:Inv X pins σ H s) (hS:aq Γ ι H S) {n:Nat} {A:Around} (hu:A.units+n < cLine) {ds es:List D} {xs ys:List V} {its1 its2:List Value} {e:Nat->Bool} (rp1:au Γ ι H ds xs) (rp2:au Γ ι H es ys)
  (rv1:Vals xs its1) (rv2:Vals ys its2) (he:∀ (j:Nat) x y,ds[j]?=some x->es[j]?=some y->eqD n S x y=some (e j)) (j:Nat) (h1:j < its1.toArray.size) (h2:j < its2.toArray.size):EqAt A s its1.toArray[j] its2.toArray[j] (e j):=by
 rw [List.size_toArray] at h1 h2
 have l1:=rp1.length
 have l2:=rp2.length
 have l3:=rv1.length
 have l4:=rv2.length
 have j1:j < ds.length:=by omega
 have j2:j < es.length:=by omega
 obtain ⟨y1,a1,a2⟩:=Paired.get rp1 (List.getElem?_eq_getElem j1)
 obtain ⟨y2,a3,a4⟩:=Paired.get rp2 (List.getElem?_eq_getElem j2)
 obtain ⟨w1,z1,z2⟩:=rv1.get a1
 obtain ⟨w2,z3,z4⟩:=rv2.get a3
 have:=(lz hK I hS n A ds[j] es[j] (e j) y1 y2 w1 w2 (he j _ _ (List.getElem?_eq_getElem j1) (List.getElem?_eq_getElem j2)) a2 a4 z2 z4 hu).2
 have q1:its1.toArray[j]'(by rw [List.size_toArray]; exact h1)=w1:=by
  have:its1[j]?=some its1[j]:=List.getElem?_eq_getElem h1
  rw [z1] at this; cases this; rfl
 have q2:its2.toArray[j]'(by rw [List.size_toArray]; exact h2)=w2:=by
  have:its2[j]?=some its2[j]:=List.getElem?_eq_getElem h2
  rw [z3] at this; cases this; rfl
 rw [q1,q2]; exact this
theorem xm (n:Nat) (S:aa) (xs ys:List D):eqD (n+1) S (.tup xs) (.tup ys)=(bG (eqD n S) xs ys).map fun r=>r&&(xs.length==ys.length):=rfl
theorem wF (n:Nat) (S:aa) (a b:D) (h1:a.kd=.list) (h2:b.kd=.list):eqD (n+1) S a b=match asL S a,asL S b with
  | some xs,some ys=>if xs.length=ys.length then bG (eqD n S) xs ys else some false
  | _,_=>none:=by simp only [eqD,h1,h2] <;> rfl
theorem EK {a b:D} (h:gJ a b=true):(a.kd=.flat/\b.kd=.flat)\/(a.kd=.tup/\b.kd=.tup)\/(a.kd=.list/\b.kd=.list):=by
 cases a <;> cases b <;> first|exact .inl ⟨rfl,rfl⟩|exact .inr (.inl ⟨rfl,rfl⟩)|exact .inr (.inr ⟨rfl,rfl⟩)|cases h
theorem C3 {S:aa} {a b:D} (e1:a.kd=.flat) (e2:b.kd=.flat):eqD deep S a b=bq a b:=by
 show eqD (11+1) S a b=_
 simp only [eqD,e1,e2]
theorem zS {S:aa} {a b:D} {x y:V} {k:Bool} (hn:gJ a b=true) (q:eqD deep S a b=some k) (r1:Rep Γ ι H a x) (r2:Rep Γ ι H b y) (e1:a.kd=.flat) (e2:b.kd=.flat):tE x y=true/\(decide (x=y))=k:=by
 rw [C3 e1 e2] at q
 clear S
 cases r1 <;> first|(cases e1; done)|skip
 all_goals (cases r2 <;> first|(cases e2; done)|(cases hn; done)|skip)
 all_goals (refine ⟨rfl,?_⟩; simp [bq] at q; subst q; first|rfl|(rw [show (decide _:Bool)=_ from mw]; done)|(rw [show (decide _:Bool)=_ from mw])|rw [nv]|rw [su]|simp)
theorem Fg (hK:Γ.K=X.K) (hu:X.A.units+64 < cLine):OpR X (compareOp .NotEq) (aZ Γ xw (cmD .ne)):=by
 intro pins s σ H x y v u Q I rx ry h
 obtain ⟨ι,S,dx,dy,hS,r1,r2,ho⟩:=h
 obtain ⟨hn,ho⟩:=Out.guard ho
 obtain ⟨k,q,ho⟩:=rS ho
 have fin:Q (.bl (!k)) H:=Out.val ho hS (.bl _)
 have hu0:X.A.units < cLine:=by omega
 have hd:deep=11+1:=rfl
 rcases EK hn with ⟨e1,e2⟩|⟨e1,e2⟩|⟨e1,e2⟩
 ·obtain ⟨z1,z2⟩:=zS hn q r1 r2 e1 e2
  exact uK pins s σ H _ _ v u Q I rx ry ⟨z1,by rw [z2]; exact fin⟩
 ·-- tuples
  cases dx <;> first|(cases e1; done)|skip
  cases dy <;> first|(cases e2; done)|skip
  obtain ⟨a,xs,rfl,t1,p1⟩:=r1.bA
  obtain ⟨b,ys,rfl,t2,p2⟩:=r2.bA
  cases rx
  cases ry
  rw [hK] at t1 t2
  obtain ⟨its1,rv1,pt1,_⟩:=I.tuple t1
  obtain ⟨its2,rv2,pt2,_⟩:=I.tuple t2
  rw [hd,xm,Option.map_eq_some_iff] at q
  obtain ⟨r,hr,hk⟩:=q
  obtain ⟨e,he,hk2⟩:=fZ hr
  refine NEQ.yL (same:=e) pt1 pt2 hu0 (pT hK I hS (by show X.A.units+1+11 < _; omega) p1 p2 rv1 rv2 he) ?_
  rw [List.size_toArray,List.size_toArray,<- rv1.length,<- rv2.length,<- p1.length,<- p2.length,<- hk2,hk]
  exact ⟨.bl (!k),H,I,rfl,fin⟩
 ·-- lists
  rw [hd,wF _ _ _ _ e1 e2] at q
  split at q
  ·rename_i ds es h1 h2
   obtain ⟨a,xs,rfl,s1,p1⟩:=hS.list r1 h1
   obtain ⟨b,ys,rfl,s2,p2⟩:=hS.list r2 h2
   cases rx
   cases ry
   rw [hK] at s1 s2
   obtain ⟨its1,rv1,pl1,_⟩:=I.list s1
   obtain ⟨its2,rv2,pl2,_⟩:=I.list s2
   have z1:its1.toArray.size=ds.length:=by rw [List.size_toArray,<- rv1.length,<- p1.length]
   have z2:its2.toArray.size=es.length:=by rw [List.size_toArray,<- rv2.length,<- p2.length]
   by_cases hlen:ds.length=es.length
   ·rw [if_pos hlen] at q
    obtain ⟨e,he,hk2⟩:=fZ q
    refine NEQ.wo (same:=e) pl1.isList pl2.isList (by omega) hu0 (pT hK I hS (by show X.A.units+1+11 < _; omega) p1 p2 rv1 rv2 he) ?_
    rw [z1,show (List.range ds.length).all e=k by rw [hk2,<- hlen,Nat.min_self]]
    exact ⟨.bl (!k),H,I,rfl,fin⟩
   ·rw [if_neg hlen] at q
    cases q
    exact NEQ.vD pl1.isList pl2.isList (by rw [z1,z2]; simpa using hlen) hu0 ⟨.bl true,H,I,rfl,fin⟩
  ·cases q
theorem Rep.inj (hK:Γ.K=X.K) (I:Inv X pins σ H s) (hS:aq Γ ι H S) {d:D} {v:V} (r:Rep Γ ι H d v):∀ {d':D},Rep Γ ι H d' v->d=d':=by
 obtain ⟨K⟩:=Γ
 have hK':K=X.K:=hK
 subst hK'
 have tl:∀ {a:Addr} {xs ys:List V},SqT X.K H a xs->SqL X.K H a ys->False:=fun {a xs ys} ht hl=>by
  obtain ⟨its,_,pl,_⟩:=I.list hl
  obtain ⟨its2,_,pt,_⟩:=I.tuple ht
  exact absurd rfl (SeqAt.ne_of_list_tuple pl.isList pt)
 have td:∀ {a:Addr} {xs:List V} {kvs:List (List Key × V)},SqT X.K H a xs->H a=some (.dT kvs)->False:=fun {a xs kvs} ht hd=>by
  obtain ⟨its2,_,⟨o,e1,_,n,e2⟩,_⟩:=I.tuple ht
  obtain ⟨_,_,_,_,o',es,ep,h1,_,h2,_⟩:=(show bg X.prog X.w H s.heap a (.dT kvs) from I.hok a _ hd)
  rw [e1] at h1; cases h1
  rw [e2] at h2; cases h2
 have tll:∀ {l:Nat} {a:Addr} {xs:List V},SqT X.K H a xs->((∃ ys,H a=some (.lst ys))\/∃ ys,H a=some (.dT ys))->False:=fun {l a xs} ht h=>by
  rcases h with ⟨ys,hy⟩|⟨ys,hy⟩
  ·exact tl ht (.of hy)
  ·exact td ht hy
 have ll:∀ {l:Nat} {a:Addr},ι[l]?=some a->(∃ xs,H a=some (.lst xs))\/∃ xs,H a=some (.dT xs):=fun {l a} q=>by
  have hl:l < S.length:=by rw [<- hS.len]; exact (List.getElem?_eq_some_iff.mp q).1
  obtain ⟨b,hb,c⟩:=hS.cell l S[l] (List.getElem?_eq_getElem hl)
  rw [q] at hb; cases hb
  cases e:S[l] with
  | lst ds=>rw [e] at c; obtain ⟨xs,hx,_⟩:=c; exact .inl ⟨xs,hx⟩
  | dct kvs=>rw [e] at c; obtain ⟨xs,hx,_⟩:=c; exact .inr ⟨xs,hx⟩
 have fl:∀ {l:Nat} {a:Addr} {xs:List V},Fro X.K H a xs->ι[l]?=some a->False:=fun {l a xs} hf q=>by
  obtain ⟨ob,hy,hno⟩:∃ ob,H a=some ob/\∀ o u,ob≠.frz o u:=by
   rcases ll q with ⟨ys,hy⟩|⟨ys,hy⟩
   ·exact ⟨_,hy,fun _ _ z=>by cases z⟩
   ·exact ⟨_,hy,fun _ _ z=>by cases z⟩
  rcases hf with ⟨o,hf⟩|hf
  ·rw [hy] at hf; exact hno _ _ (Option.some.inj hf)
  ·rcases hf (fun _=>none) with (z|⟨_,z⟩)|z
   ·cases z
   ·cases z
   ·obtain ⟨o,_,_,hk,_⟩:=z
    have hb:X.base.get? a=some o:=I.ok.mod.kin a o hk
    have:=(I.bs a o hb).2
    rw [hy] at this; cases this
 induction r with
 | non=>intro d' r'; cases r'; rfl
 | bl b=>intro d' r'; cases r'; rfl
 | int i=>intro d' r'; cases r'; rfl
 | str x=>intro d' r'; cases r'; rfl
 | @tup ds a xs t1 l1 p1 ih =>
  intro d' r'
  cases r' with
  | @tup es _ ys t2 l2 p2 =>
   have e:xs=ys:=I.jn t1 t2
   subst e
   congr 1
   refine List.ext_getElem? fun j=>?_
   by_cases hj:j < ds.length
   ·have h1:=List.getElem?_eq_getElem hj
    have h2:es[j]?=some es[j]:=List.getElem?_eq_getElem (by omega)
    have h3:xs[j]?=some xs[j]:=List.getElem?_eq_getElem (by omega)
    rw [h1,h2,ih j _ _ h1 h3 (p2 j _ _ h2 h3)]
   ·rw [List.getElem?_eq_none (by omega),List.getElem?_eq_none (by omega)]
  | fro f2 _ _=>exact (tl t1 f2.sq).elim
  | loc q=>exact (tll (l:=0) t1 (ll q)).elim
 | @fro ds a xs f1 l1 p1 ih =>
  intro d' r'
  cases r' with
  | tup t2 _ _=>exact (tl t2 f1.sq).elim
  | @fro es _ ys f2 l2 p2 =>
   have e:xs=ys:=I.jw f1.sq f2.sq
   subst e
   congr 1
   refine List.ext_getElem? fun j=>?_
   by_cases hj:j < ds.length
   ·have h1:=List.getElem?_eq_getElem hj
    have h2:es[j]?=some es[j]:=List.getElem?_eq_getElem (by omega)
    have h3:xs[j]?=some xs[j]:=List.getElem?_eq_getElem (by omega)
    rw [h1,h2,ih j _ _ h1 h3 (p2 j _ _ h2 h3)]
   ·rw [List.getElem?_eq_none (by omega),List.getElem?_eq_none (by omega)]
  | loc q=>exact (fl f1 q).elim
 | @loc l a q =>
  intro d' r'
  cases r' with
  | tup t2 _ _=>exact (tll (l:=0) t2 (ll q)).elim
  | fro f2 _ _=>exact (fl f2 q).elim
  | loc q'=>rw [g7 hS.nd q q']
theorem n6 {x:D}:∀ {ys:List D} {k:Bool},inL S x ys=some k->(∀ y∈ys,eqD deep S y x=some ((eqD deep S y x).getD false))/\k=ys.any fun y=>(eqD deep S y x).getD false
 | [],k,h=>⟨fun y hy=>absurd hy (by simp),by cases h; rfl⟩
 | y::ys,k,h=>by
  simp only [inL] at h
  split at h
  ·rename_i a b e1 e2
   cases h
   obtain ⟨he,hk⟩:=n6 e2
   refine ⟨fun z hz=>?_,?_⟩
   ·rcases List.mem_cons.mp hz with rfl|hz
    ·simp [e1]
    ·exact he z hz
   ·rw [List.any_cons,<- hk]; simp [e1]
  ·cases h
theorem iN (hK:Γ.K=X.K) (I:Inv X pins σ H s) (hS:aq Γ ι H S) {A:Around} (hu:A.units+deep < cLine) {dx:D} {x:V} {v:Value} (r1:Rep Γ ι H dx x) (rx:RelV x v) {ds:List D} {xs:List V} {its:List Value} {k:Bool} (h:inL S dx ds=some k)
  (p:au Γ ι H ds xs) (rv:Vals xs its):∃ e:Value->Bool,(∀ y,y∈its.toArray->EqAt A s y v (e y))/\its.toArray.any e=k:=by
 classical
 obtain ⟨h1,h2⟩:=n6 h
 have key:∀ (d:D) (w:V) (u:Value),d∈ds->Rep Γ ι H d w->RelV w u->∀ (d':D) (w':V),Rep Γ ι H d' w'->RelV w' u->d'=d:=fun d w u _ r q d' w' r' q'=>by
  have e:w'=w:=q'.inj q
  subst e
  exact (Rep.inj hK I hS r' r)
 refine ⟨fun u=>decide (∃ d w,d∈ds/\Rep Γ ι H d w/\RelV w u/\(eqD deep S d dx).getD false=true),fun u hu'=>?_,?_⟩
 ·have hm:u∈its:=by simpa using hu'
  obtain ⟨j,hj⟩:=List.getElem?_of_mem hm
  obtain ⟨w,hw,q⟩:=Paired.get' rv hj
  obtain ⟨d,hd,r⟩:=Paired.get' p hw
  have hd':=List.mem_of_getElem? hd
  have e:=(lz hK I hS deep A d dx _ w x u v (h1 d hd') r r1 q rx hu).2
  have:decide (∃ d w,d∈ds/\Rep Γ ι H d w/\RelV w u/\(eqD deep S d dx).getD false=true)=(eqD deep S d dx).getD false:=by
   cases z:(eqD deep S d dx).getD false with
   | true=>exact decide_eq_true ⟨d,w,hd',r,q,z⟩
   | false =>
    refine decide_eq_false ?_
    rintro ⟨d',w',_,r',q',z'⟩
    rw [key d w u hd' r q d' w' r' q',z] at z'
    cases z'
  show EqAt A s u v (decide (∃ d w,d∈ds/\Rep Γ ι H d w/\RelV w u/\(eqD deep S d dx).getD false=true))
  rw [this]; exact e
 ·rw [h2]
  rw [Bool.eq_iff_iff]
  simp only [Array.any_eq_true',List.any_eq_true,decide_eq_true_eq]
  constructor
  ·rintro ⟨u,hu',d,w,hd,r,q,z⟩
   exact ⟨d,hd,z⟩
  ·rintro ⟨d,hd,z⟩
   obtain ⟨j,hj⟩:=List.getElem?_of_mem hd
   obtain ⟨w,hw,r⟩:=Paired.get p hj
   obtain ⟨u,hu',q⟩:=rv.get hw
   exact ⟨u,by simpa using List.mem_of_getElem? hu',d,w,hd,r,q,z⟩
theorem gB (d:D) (S:aa):(∃ ds,items d S=.ok ds S)\/items d S=.bad:=by
 cases d with
 | tup ds=>exact .inl ⟨ds,rfl⟩
 | fro ds=>exact .inl ⟨ds,rfl⟩
 | loc l =>
  rw [rz]
  cases listAt S l with
  | none=>exact .inr rfl
  | some ds=>exact .inl ⟨ds,rfl⟩
 | _=>exact .inr rfl
theorem Out.items {α:Type} {d:D} {f:List D->M α} {k:α->aa->List Addr->Hp->Prop} (ho:Out Γ xw ι H ((EV.items d>>=f) S) k):∃ ds,EV.items d S=.ok ds S/\Out Γ xw ι H (f ds S) k:=by
 rcases gB d S with ⟨ds,e⟩|e
 ·rw [aj e] at ho; exact ⟨ds,e,ho⟩
 ·rw [aV e] at ho; exact ho.elim
theorem Out.yC {α:Type} {o:Option α} {k:α->aa->List Addr->Hp->Prop} (ho:Out Γ xw ι H (EV.opt o S) k):∃ a,o=some a/\Out Γ xw ι H (.ok a S) k:=by
 cases o with
 | none=>exact ho.elim
 | some a=>exact ⟨a,rfl,ho⟩
theorem qw {neg:Bool} {a b:D} {k:D->aa->List Addr->Hp->Prop} (ho:Out Γ xw ι H (inM neg a b S) k):∃ ds c,items b S=.ok ds S/\inL S a ds=some c/\Out Γ xw ι H (.ok (.bl (c != neg)) S) k:=by
 obtain ⟨ds,e,ho⟩:=Out.items ho
 unfold inA at ho
 cases q:inL S a ds with
 | none=>rw [q] at ho; exact ho.elim
 | some c=>rw [q] at ho; exact ⟨ds,c,e,q,ho⟩
theorem bS (hS:aq Γ ι H S) {d:D} {v:V} {ds:List D} {S':aa} (r:Rep Γ ι H d v) (h:items d S=.ok ds S'):S'=S/\∃ a xs,v=.ref a/\(SqL Γ.K H a xs\/SqT Γ.K H a xs)/\au Γ ι H ds xs/\(∀ l,d=.loc l->SqL Γ.K H a xs):=by
 cases d with
 | tup es=>cases h; obtain ⟨a,xs,e,t,p⟩:=r.bA; exact ⟨rfl,a,xs,e,.inr t,p,fun l e=>by cases e⟩
 | fro es=>cases h; obtain ⟨a,xs,e,f,p⟩:=r.e_; exact ⟨rfl,a,xs,e,.inl f.sq,p,fun l e=>by cases e⟩
 | loc l =>
  have h':(match listAt S l with|some ds=>Res.ok ds S|none=>.bad)=.ok ds S':=h
  cases q:listAt S l with
  | none=>rw [q] at h'; cases h'
  | some es =>
   rw [q] at h'
   cases h'
   obtain ⟨a,xs,e,t,p⟩:=hS.list r (show asL S (.loc l)=some ds from q)
   exact ⟨rfl,a,xs,e,.inl t,p,fun _ _=>t⟩
 | _=>cases h
theorem DA (hK:Γ.K=X.K) (hu:X.A.units+64 < cLine):OpR X (compareOp .In) (aZ Γ xw (inM false)):=by
 intro pins s σ H x y v u Q I rx ry h
 obtain ⟨ι,S,dx,dy,hS,r1,r2,ho⟩:=h
 obtain ⟨ds,c,h1,h2,ho⟩:=qw ho
 have fin:Q (.bl c) H:=by have:=Out.val ho hS (.bl _); simpa using this
 obtain ⟨_,a,xs,rfl,sq,p,_⟩:=bS hS r2 h1
 cases ry
 rw [hK] at sq
 rcases sq with sq|sq
 ·obtain ⟨its,rv,pl,_⟩:=I.list sq
  obtain ⟨e,he,hk⟩:=iN hK I hS (A:=X.A.in1) (by show X.A.units+1+12 < cLine; omega) r1 rx h2 p rv
  exact SeqAt.in_listAt e pl.isList he (by rw [hk]; exact ⟨.bl c,H,I,rfl,fin⟩)
 ·obtain ⟨its,rv,pl,_⟩:=I.tuple sq
  obtain ⟨e,he,hk⟩:=iN hK I hS (A:=X.A.in1) (by show X.A.units+1+12 < cLine; omega) r1 rx h2 p rv
  exact SeqAt.in_tupleAt e pl he (by rw [hk]; exact ⟨.bl c,H,I,rfl,fin⟩)
theorem Bp (hK:Γ.K=X.K) (hu:X.A.units+64 < cLine):OpR X (compareOp .NotIn) (aZ Γ xw (inM true)):=by
 intro pins s σ H x y v u Q I rx ry h
 obtain ⟨ι,S,dx,dy,hS,r1,r2,ho⟩:=h
 obtain ⟨ds,c,h1,h2,ho⟩:=qw ho
 have fin:Q (.bl (!c)) H:=by have:=Out.val ho hS (.bl _); simpa using this
 obtain ⟨_,a,xs,rfl,sq,p,_⟩:=bS hS r2 h1
 cases ry
 rw [hK] at sq
 rcases sq with sq|sq
 ·obtain ⟨its,rv,pl,_⟩:=I.list sq
  obtain ⟨e,he,hk⟩:=iN hK I hS (A:=X.A.in1) (by show X.A.units+1+12 < cLine; omega) r1 rx h2 p rv
  exact SeqAt.notIn_listAt e pl.isList he (by rw [hk]; exact ⟨.bl (!c),H,I,rfl,fin⟩)
 ·obtain ⟨its,rv,pl,_⟩:=I.tuple sq
  obtain ⟨e,he,hk⟩:=iN hK I hS (A:=X.A.in1) (by show X.A.units+1+12 < cLine; omega) r1 rx h2 p rv
  exact SeqAt.notIn_tupleAt e pl he (by rw [hk]; exact ⟨.bl (!c),H,I,rfl,fin⟩)
theorem Bx (hK:Γ.K=X.K):rg X (fun x H Q=>∃ ι S d,aq Γ ι H S/\Rep Γ ι H d x/\Out Γ xw ι H (truth d S) fun b _ _ H'=>Q b H'):=by
 intro pins s σ H x v Q I rx h
 obtain ⟨ι,S,d,hS,r,ho⟩:=h
 refine BI pins s σ H x v Q I rx ?_
 cases d with
 | bl b=>cases r; exact ⟨b,rfl,ho.here hS⟩
 | non=>cases r; exact ⟨false,rfl,ho.here hS⟩
 | int i=>cases r; exact ⟨_,rfl,ho.here hS⟩
 | tup ds =>
  obtain ⟨a,xs,rfl,t,p⟩:=r.bA
  rw [hK] at t
  refine ⟨!ds.isEmpty,.inr (.inl ⟨xs,t,?_⟩),ho.here hS⟩
  cases p <;> rfl
 | fro ds =>
  obtain ⟨a,xs,rfl,t,p⟩:=r.e_
  have t:=t.sq
  rw [hK] at t
  refine ⟨!ds.isEmpty,.inl ⟨xs,t,?_⟩,ho.here hS⟩
  cases p <;> rfl
 | loc l =>
  obtain ⟨ds,q,ho'⟩:=Out.items ho
  obtain ⟨_,a,xs,rfl,_,p,t⟩:=bS hS r q
  ·have t:=t l rfl
   rw [hK] at t
   refine ⟨!ds.isEmpty,.inl ⟨xs,t,?_⟩,ho'.here hS⟩
   cases p <;> rfl
 | _=>exact ho.elim
theorem DZ {ds:List D} {xs:List V} {i:Int} {d:D} (p:au Γ ι H ds xs) (h:EV.atI ds i=some d):∃ v,L2.atI xs i=some v/\Rep Γ ι H d v:=by
 unfold EV.atI at h
 cases e:EV.ixN ds.length i with
 | none=>rw [e] at h; cases h
 | some j =>
  rw [e] at h
  obtain ⟨v,hv,r⟩:=Paired.get p h
  refine ⟨v,?_,r⟩
  have e':L2.ixN xs.length i=some j:=by rw [<- p.length]; exact e
  unfold L2.atI
  rw [e']
  exact hv
theorem wu (hK:Γ.K=X.K):IxR X (aZ Γ xw ixD):=by
 intro value slice pins s σ H x y v u Q I rx ry h hsub
 obtain ⟨ι,S,dx,dy,hS,r1,r2,ho⟩:=h
 cases dy with
 | int j =>
  cases r2
  obtain ⟨ds,q,ho'⟩:=Out.items ho
  obtain ⟨d,q2,ho'⟩:=Out.yC ho'
  obtain ⟨_,a,xs,rfl,sq,p,_⟩:=bS hS r1 q
  ·rw [hK] at sq
   ·obtain ⟨w,hw,rw'⟩:=DZ p q2
    have fin:=Out.val ho' hS rw'
    rcases sq with sq|sq
    ·exact xu value slice pins s σ H _ _ v u Q I rx ry ⟨a,xs,j,w,rfl,rfl,sq,hw,fin⟩ hsub
    ·exact yw value slice pins s σ H _ _ v u Q I rx ry ⟨a,xs,j,w,rfl,rfl,sq,hw,fin⟩ hsub
 | _=>exact ho.elim
theorem zk:SlR X (fun x lo hi H Q=>∃ a xs,x=.ref a/\SqT X.K H a xs/\(HT.sIx xs.length 0 lo=0/\HT.sIx xs.length xs.length hi=xs.length)/\Q (.ref a) H):=by
 intro pins s σ H x v vl vu lo hi sl Q I rx hs pl pu h
 obtain ⟨a,xs,rfl,hx,hw,q⟩:=h
 cases rx
 obtain ⟨its,r,ht,hz⟩:=I.tuple hx
 have hlen:its.toArray.size=xs.length:=by rw [List.size_toArray]; exact r.length.symm
 exact ⟨"tuple",_,PyProof.Rows.slot_tuple_getitem.lookup,ht.typeIs,HT.Bk ht hs pl pu (by rw [hlen]; exact hw) ⟨.ref a,H,I,rfl,q⟩⟩
theorem kG {ds:List D} {xs:List V} (p:au Γ ι H ds xs) (lo hi:Option Int):au Γ ι H (cut ds lo hi) (cZ xs lo hi):=by
 have e:∀ n d o,EV.sIx n d o=HT.sIx n d o:=fun n d o=>by cases o <;> rfl
 unfold cut cZ
 rw [e,e,p.length]
 exact Paired.tak _ (Paired.drp _ p)
theorem v8 (hK:Γ.K=X.K):SlR X (fun x lo hi H Q=>∃ ι S d,aq Γ ι H S/\Rep Γ ι H d x/\Out Γ xw ι H (slD d lo hi S) fun d _ ι' H'=>∀ v,Rep Γ ι' H' d v->Q v H'):=by
 intro pins s σ H x v vl vu lo hi sl Q I rx hs pl pu h
 obtain ⟨ι,S,d,hS,r,ho⟩:=h
 cases d with
 | tup ds =>
  obtain ⟨a,xs,rfl,t,p⟩:=r.bA
  rw [hK] at t
  have pc:=kG p lo hi
  by_cases hw:HT.sIx xs.length 0 lo=0/\HT.sIx xs.length xs.length hi=xs.length
  ·have e:cZ xs lo hi=xs:=by unfold cZ; rw [hw.1,hw.2]; simp
   rw [e] at pc
   refine zk pins s σ H _ v vl vu lo hi sl Q I rx hs pl pu ⟨a,xs,rfl,t,hw,Out.val ho hS (.fC (by rw [hK]; exact t) pc)⟩
  ·exact AQ pins s σ H _ v vl vu lo hi sl Q I rx hs pl pu ⟨a,xs,rfl,t,hw,fun q hq=>Out.tup ho hS hq pc⟩
 | fro ds =>
  obtain ⟨a,xs,rfl,t,p⟩:=r.e_
  have t:=t.sq
  rw [hK] at t
  exact oG pins s σ H _ v vl vu lo hi sl Q I rx hs pl pu ⟨a,xs,rfl,t,fun q hq=>Out.alloc ho hS hq (kG p lo hi)⟩
 | loc l =>
  obtain ⟨ds,q,ho'⟩:=Out.items ho
  obtain ⟨_,a,xs,rfl,_,p,t⟩:=bS hS r q
  ·have t:=t l rfl
   rw [hK] at t
   exact oG pins s σ H _ v vl vu lo hi sl Q I rx hs pl pu ⟨a,xs,rfl,t,fun q hq=>Out.alloc ho' hS hq (kG p lo hi)⟩
 | _=>exact ho.elim
end
end EV

namespace EV
open PySem PySem.Spec PyProof.Rows L2
theorem ints_map:∀ {ds:List D} {is:List Int},allInts ds=some is->ds=is.map D.int
 | [],is,h=>by cases h; rfl
 | d::r,is,h=>by
  cases d with
  | int i =>
   simp only [allInts,Option.map_eq_some_iff] at h
   obtain ⟨js,e,rfl⟩:=h
   rw [ints_map e]; rfl
  | _=>cases h
theorem rW:∀ {ds:List D} {is:List Bool},cX ds=some is->ds=is.map D.bl
 | [],is,h=>by cases h; rfl
 | d::r,is,h=>by
  cases d with
  | bl i =>
   simp only [cX,Option.map_eq_some_iff] at h
   obtain ⟨js,e,rfl⟩:=h
   rw [rW e]; rfl
  | _=>cases h
theorem dm {Γ:Gx} {ι:List Addr} {H:Hp}:∀ {is:List Int} {xs:List V},au Γ ι H (is.map D.int) xs->xs=is.map V.int
 | [],_,.nil=>rfl
 | i::r,_,.cons (b:=y) h t=>by
  cases h
  rw [dm t]; rfl
theorem sY {Γ:Gx} {ι:List Addr} {H:Hp}:∀ {is:List Bool} {xs:List V},au Γ ι H (is.map D.bl) xs->xs=is.map V.bl
 | [],_,.nil=>rfl
 | i::r,_,.cons (b:=y) h t=>by
  cases h
  rw [sY t]; rfl
theorem g6 {Γ:Gx} {ι:List Addr} {H:Hp}:∀ (is:List Int),au Γ ι H (is.map D.int) (is.map V.int)
 | []=>.nil
 | i::r=>.cons (.int i) (g6 r)
theorem mJ (is:List Int):∀ k,preSum (fun i=>is.getD i 0) k=(is.take k).sum
 | 0=>by simp [preSum]
 | k+1=>by
  rw [preSum,mJ is k,List.take_add_one,List.sum_append]
  congr 1
  rw [List.getD_eq_getElem?_getD]
  cases is[k]? <;> simp
theorem range_all (bs:List Bool):(List.range bs.length).all (fun i=>bs.getD i false)=bs.all id:=by
 rw [Bool.eq_iff_iff,List.all_eq_true,List.all_eq_true]
 constructor
 ·intro h b hb
  obtain ⟨i,e⟩:=List.getElem?_of_mem hb
  have:=h i (by rw [List.mem_range]; exact (List.getElem?_eq_some_iff.mp e).1)
  rw [List.getD_eq_getElem?_getD,e] at this
  exact this
 ·intro h i hi
  rw [List.mem_range] at hi
  rw [List.getD_eq_getElem?_getD,List.getElem?_eq_getElem hi]
  exact h _ (List.getElem_mem hi)
theorem rA:∀ (r:List Int) (i:Int),r.foldl min i<=i/\∀ a∈r,r.foldl min i<=a
 | [],i=>⟨Int.le_refl _,fun a h=>absurd h (by simp)⟩
 | b::r,i=>by
  obtain ⟨h1,h2⟩:=rA r (min i b)
  simp only [List.foldl_cons]
  refine ⟨by omega,fun a ha=>?_⟩
  rcases List.mem_cons.mp ha with rfl|ha
  ·omega
  ·exact h2 a ha
theorem tD:∀ (r:List Int) (i:Int),r.foldl min i=i\/r.foldl min i∈r
 | [],i=>.inl rfl
 | b::r,i=>by
  simp only [List.foldl_cons]
  rcases tD r (min i b) with h|h
  ·rw [h]
   by_cases hb:i<=b
   ·exact .inl (by omega)
   ·exact .inr (by rw [show min i b=b by omega]; exact List.mem_cons_self)
  ·exact .inr (List.mem_cons_of_mem _ h)
theorem qH:∀ (r:List Int) (i:Int),i<=r.foldl max i/\∀ a∈r,a<=r.foldl max i
 | [],i=>⟨Int.le_refl _,fun a h=>absurd h (by simp)⟩
 | b::r,i=>by
  obtain ⟨h1,h2⟩:=qH r (max i b)
  simp only [List.foldl_cons]
  refine ⟨by omega,fun a ha=>?_⟩
  rcases List.mem_cons.mp ha with rfl|ha
  ·omega
  ·exact h2 a ha
theorem rV:∀ (r:List Int) (i:Int),r.foldl max i=i\/r.foldl max i∈r
 | [],i=>.inl rfl
 | b::r,i=>by
  simp only [List.foldl_cons]
  rcases rV r (max i b) with h|h
  ·rw [h]
   by_cases hb:b<=i
   ·exact .inl (by omega)
   ·exact .inr (by rw [show max i b=b by omega]; exact List.mem_cons_self)
  ·exact .inr (List.mem_cons_of_mem _ h)
theorem jC (i:Int):∀ r:List Int,(ins i r).Perm (i::r)
 | []=>.refl _
 | j::r=>by
  simp only [ins]
  split
  ·exact .refl _
  ·exact ((jC i r).cons j).trans (.swap i j r)
theorem gm:∀ r:List Int,(cg r).Perm r
 | []=>.refl _
 | i::r=>(jC i _).trans ((gm r).cons i)
theorem qi (i:Int):∀ {r:List Int},r.Pairwise (·<=·)->(ins i r).Pairwise (·<=·)
 | [],_=>by simp [ins]
 | j::r,h=>by
  simp only [ins]
  split
  ·rename_i hij
   refine List.pairwise_cons.mpr ⟨fun a ha=>?_,h⟩
   rcases List.mem_cons.mp ha with rfl|ha
   ·exact hij
   ·exact Int.le_trans hij ((List.pairwise_cons.mp h).1 a ha)
  ·rename_i hij
   refine List.pairwise_cons.mpr ⟨fun a ha=>?_,qi i (List.pairwise_cons.mp h).2⟩
   rcases List.mem_cons.mp ((jC i r).mem_iff.mp ha) with rfl|ha
   ·omega
   ·exact (List.pairwise_cons.mp h).1 a ha
theorem jh:∀ r:List Int,(cg r).Pairwise (·<=·)
 | []=>.nil
 | i::r=>qi i (jh r)
section
variable {X:Cx} {Γ:Gx} {xw:XW} {pins:List (Addr × Obj)} {σ:L2.St} {H:Hp} {s:Shared} {ι:List Addr} {S:aa} {sub:Sub}
theorem eU {b:Bi} {xs:List V} {Q:VK} (hb:b.isR=false) (hb2:∀ a c S,bi2 b a c S=.bad) (h:bZ Γ xw (biD sub b) xs H Q) :
  ∃ ι S a x,xs=[x]/\aq Γ ι H S/\Rep Γ ι H a x/\Out Γ xw ι H (bi1 sub b a S) fun d _ ι' H'=>∀ v,Rep Γ ι' H' d v->Q v H':=by
 obtain ⟨ι,S,ds,hS,r,ho⟩:=h
 unfold biD at ho
 rw [hb] at ho
 match ds,r with
 | [],.nil=>exact ho.elim
 | [a],.cons (b:=x) ra .nil=>exact ⟨ι,S,a,x,rfl,hS,ra,ho⟩
 | [a,c],_ =>
  have ho':Out Γ xw ι H (bi2 b a c S) _:=ho
  rw [hb2] at ho'
  exact ho'.elim
 | _::_::_::_,_=>exact ho.elim
theorem i7 (hK:Γ.K=X.K) (I:Inv X pins σ H s) {a:Addr} {xs:List V} (sq:SqL Γ.K H a xs\/SqT Γ.K H a xs):∃ its:List Value,Vals xs its/\∀ (A:Around) (E:Value->Shared->Prop) (Q:Value->Shared->Prop),A.handled=none ->
  (∀ (I0:Addr) (fp:List Addr) (St:Nat->Heap->Prop) (s2:Shared),Walks X.prog X.w A I0 fp [I0] its.toArray.size (fun i v=>its.toArray[i]?=some v) St->St 0 s2.heap->(∀ b∈fp,b < s2.heap.objs.size) ->
   (∀ h' tk,(∀ b o,b ∉ [I0]->s2.heap.get? b=some o->h'.get? b=some o)->Inv X pins σ H { s2 with heap:=h',toks:=tk })->Q (.ref I0) s2)->wpAny (model X.prog X.w) A (pyIter (.ref a)) Q E s:=by
 rw [hK] at sq
 rcases sq with sq|sq
 ·obtain ⟨its,rv,pl,_⟩:=I.list sq
  refine ⟨its,rv,fun A E Q hh hQ=>wpAny_pyIter_list pl.isList ?_⟩
  obtain ⟨o,ho,_⟩:=id pl.isList
  have hlt:=Heap.lt_size ho
  refine hQ s.heap.objs.size _ _ _ (Walks.list hh _ a (Nat.ne_of_lt hlt) its.toArray) ⟨⟨_,Heap.get?_push_size _ rfl,rfl,rfl⟩,pl.isList.at fun o e=>Heap.get?_push_of_some _ e⟩ (fun b hb=>?_) fun h' tk hk=>?_
  ·rw [Heap.size_push]
   rcases List.mem_cons.mp hb with rfl|hb
   ·exact Nat.lt_succ_self _
   ·have:b=a:=by simpa using hb
    subst this; exact Nat.lt_succ_of_lt hlt
  ·exact I.kept fun b u e=>hk b u (by simpa using Nat.ne_of_lt (Heap.lt_size e)) (Heap.get?_push_of_some _ e)
 ·obtain ⟨its,rv,pl,_⟩:=I.tuple sq
  refine ⟨its,rv,fun A E Q hh hQ=>wpAny_pyIter_tuple (show s.heap.IsTuple a its.toArray from pl) ?_⟩
  obtain ⟨o,ho,hc,hd⟩:=id pl
  have hlt:=Heap.lt_size ho
  refine hQ s.heap.objs.size _ _ _ (Walks.tuple hh _ a (Nat.ne_of_lt hlt) its.toArray) ⟨⟨_,Heap.get?_push_size _ rfl,rfl,rfl⟩,⟨o,Heap.get?_push_of_some _ ho,hc,hd⟩⟩ (fun b hb=>?_) fun h' tk hk=>?_
  ·rw [Heap.size_push]
   rcases List.mem_cons.mp hb with rfl|hb
   ·exact Nat.lt_succ_self _
   ·have:b=a:=by simpa using hb
    subst this; exact Nat.lt_succ_of_lt hlt
  ·exact I.kept fun b u e=>hk b u (by simpa using Nat.ne_of_lt (Heap.lt_size e)) (Heap.get?_push_of_some _ e)
theorem gM {is:List Int} {its:List Value} (rv:Vals (is.map V.int) its) {i:Nat} {v:Value} (h:its.toArray[i]?=some v):∃ t,v=.int (is.getD i 0) t:=by
 have h':its[i]?=some v:=by simpa using h
 obtain ⟨x,hx,r⟩:=Paired.get' rv h'
 rw [List.getElem?_map,Option.map_eq_some_iff] at hx
 obtain ⟨j,hj,rfl⟩:=hx
 obtain ⟨t,rfl⟩:=r
 exact ⟨t,by rw [List.getD_eq_getElem?_getD,hj]; rfl⟩
theorem yb {is:List Bool} {its:List Value} (rv:Vals (is.map V.bl) its) {i:Nat} {v:Value} (h:its.toArray[i]?=some v):v=.bool (is.getD i false):=by
 have h':its[i]?=some v:=by simpa using h
 obtain ⟨x,hx,r⟩:=Paired.get' rv h'
 rw [List.getElem?_map,Option.map_eq_some_iff] at hx
 obtain ⟨j,hj,rfl⟩:=hx
 cases r
 rw [List.getD_eq_getElem?_getD,hj]; rfl
theorem Ea (hK:Γ.K=X.K):bz X (.builtin "len") (bZ Γ xw (biD sub .len)):=by
 intro pins s σ H xs us Q I rs h
 obtain ⟨ι,S,a,x,rfl,hS,r,ho⟩:=eU rfl (fun _ _ _=>rfl) h
 obtain ⟨ds,q,ho⟩:=Out.items ho
 obtain ⟨_,p,ys,rfl,sq,rp,_⟩:=bS hS r q
 rw [hK] at sq
 refine yr pins s σ H _ us Q I rs ⟨p,ys,rfl,sq,?_⟩
 rw [<- rp.length]
 exact Out.val ho hS (.int _)
theorem yh (hK:Γ.K=X.K) (hc:X.calm=true):bz X (.builtin "all") (bZ Γ xw (biD sub .all)):=by
 intro pins s σ H xs us Q I rs h
 obtain ⟨ι,S,a,x,rfl,hS,r,ho⟩:=eU rfl (fun _ _ _=>rfl) h
 obtain ⟨ds,q,ho⟩:=Out.items ho
 obtain ⟨bs,q2,ho⟩:=Out.opt ho
 obtain ⟨_,p,ys,rfl,sq,rp,_⟩:=bS hS r q
 rw [rW q2] at rp
 have e:=sY rp
 subst e
 obtain ⟨u,rfl,ru⟩:=rs.one
 cases ru
 obtain ⟨its,rv,wk⟩:=i7 hK I sq
 refine call_all_walk (wk X.A.in1 _ _ (I.ok.hd hc) fun I0 fp St s2 W st fl inv=>⟨I0,fp,[I0],_,_,St,fun i=>bs.getD i false,rfl,W,st,fun i v s' Q' E' hv hq=>?_,fun h' tk hk=>?_⟩)
 ·rw [yb rv hv]; exact wpAny_truthy_bool hq
 ·have hl:its.toArray.size=bs.length:=by rw [List.size_toArray,<- rv.length,List.length_map]
  rw [hl,range_all]
  exact ⟨.bl _,H,inv h' tk hk,rfl,Out.val ho hS (.bl _)⟩
theorem wK (hK:Γ.K=X.K) (hc:X.calm=true):bz X (.builtin "sum") (bZ Γ xw (biD sub .sum)):=by
 intro pins s σ H xs us Q I rs h
 obtain ⟨ι,S,a,x,rfl,hS,r,ho⟩:=eU rfl (fun _ _ _=>rfl) h
 obtain ⟨ds,q,ho⟩:=Out.items ho
 obtain ⟨is,q2,ho⟩:=Out.opt ho
 obtain ⟨_,p,ys,rfl,sq,rp,_⟩:=bS hS r q
 rw [ints_map q2] at rp
 have e:=dm rp
 subst e
 obtain ⟨u,rfl,ru⟩:=rs.one
 cases ru
 obtain ⟨its,rv,wk⟩:=i7 hK I sq
 refine call_sum_walkG (wk X.A.in1 _ _ (I.ok.hd hc) fun I0 fp St s2 W st fl inv=>⟨I0,fp,[I0],_,_,St,fun i=>is.getD i 0,rfl,W,st,fl,fun i v hv=>gM rv hv,fun h' tk t' hk=>?_⟩)
 have hl:its.toArray.size=is.length:=by rw [List.size_toArray,<- rv.length,List.length_map]
 rw [hl,mJ,List.take_length]
 exact ⟨.int _,H,inv h' tk hk,⟨_,rfl⟩,Out.val ho hS (.int _)⟩
end
end EV

namespace EV
open PySem PySem.Spec PyProof.Rows L2
section
variable {X:Cx} {Γ:Gx} {xw:XW} {pins:List (Addr × Obj)} {σ:L2.St} {H:Hp} {s:Shared} {ι:List Addr} {S:aa} {sub:Sub}
theorem tK {b:Bi} {xs:List V} {Q:VK} (hb:b.isR=false) (h:bZ Γ xw (biD sub b) xs H Q) :
  (∃ ι S a x,xs=[x]/\aq Γ ι H S/\Rep Γ ι H a x/\Out Γ xw ι H (bi1 sub b a S) fun d _ ι' H'=>∀ v,Rep Γ ι' H' d v->Q v H') \/
  (∃ ι S a c x y,xs=[x,y]/\aq Γ ι H S/\Rep Γ ι H a x/\Rep Γ ι H c y/\Out Γ xw ι H (bi2 b a c S) fun d _ ι' H'=>∀ v,Rep Γ ι' H' d v->Q v H'):=by
 obtain ⟨ι,S,ds,hS,r,ho⟩:=h
 unfold biD at ho
 rw [hb] at ho
 have hl:ds.length=1\/ds.length=2\/ds=[]\/∃ a c e q,ds=a::c::e::q:=by
  rcases ds with _|⟨a,_|⟨c,_|⟨e,q⟩⟩⟩
  ·exact .inr (.inr (.inl rfl))
  ·exact .inl rfl
  ·exact .inr (.inl rfl)
  ·exact .inr (.inr (.inr ⟨_,_,_,_,rfl⟩))
 rcases hl with hl|hl|rfl|⟨_,_,_,_,rfl⟩
 ·obtain ⟨a,_,x,_,rfl,rfl,ra,r,hl⟩:=Paired.step r hl
  obtain ⟨rfl,rfl⟩:=Paired.last r hl
  exact .inl ⟨ι,S,a,x,rfl,hS,ra,ho⟩
 ·obtain ⟨a,_,x,_,rfl,rfl,ra,r,hl⟩:=Paired.step r hl
  obtain ⟨c,_,y,_,rfl,rfl,rc,r,hl⟩:=Paired.step r hl
  obtain ⟨rfl,rfl⟩:=Paired.last r hl
  exact .inr ⟨ι,S,a,c,x,y,rfl,hS,ra,rc,ho⟩
 ·exact ho.elim
 ·exact ho.elim
theorem qo {is:List Int} {i:Int} {r:List Int} (h:is=i::r) {M:Int} (hm:M∈is) (hle:∀ a∈is,M<=a):M=r.foldl min i:=by
 subst h
 obtain ⟨h1,h2⟩:=rA r i
 have e1:r.foldl min i<=M:=by
  rcases List.mem_cons.mp hm with rfl|hm
  ·exact h1
  ·exact h2 M hm
 have e2:M<=r.foldl min i:=by
  rcases tD r i with h|h
  ·rw [h]; exact hle i List.mem_cons_self
  ·exact hle _ (List.mem_cons_of_mem _ h)
 omega
theorem nT {is:List Int} {i:Int} {r:List Int} (h:is=i::r) {M:Int} (hm:M∈is) (hle:∀ a∈is,a<=M):M=r.foldl max i:=by
 subst h
 obtain ⟨h1,h2⟩:=qH r i
 have e1:M<=r.foldl max i:=by
  rcases List.mem_cons.mp hm with rfl|hm
  ·exact h1
  ·exact h2 M hm
 have e2:r.foldl max i<=M:=by
  rcases rV r i with h|h
  ·rw [h]; exact hle i List.mem_cons_self
  ·exact hle _ (List.mem_cons_of_mem _ h)
 omega
theorem getD_in {is:List Int} {j:Nat} (h:j < is.length):is.getD j 0∈is:=by
 rw [List.getD_eq_getElem?_getD,List.getElem?_eq_getElem h]
 exact List.getElem_mem h
theorem A9 (hK:Γ.K=X.K) (hc:X.calm=true):bz X (.builtin "min") (bZ Γ xw (biD sub .min)):=by
 intro pins s σ H xs us Q I rs h
 rcases tK rfl h with ⟨ι,S,a,x,rfl,hS,r,ho⟩|⟨ι,S,a,c,x,y,rfl,hS,r1,r2,ho⟩
 ·obtain ⟨ds,q,ho⟩:=Out.items ho
  obtain ⟨is,q2,ho⟩:=Out.opt ho
  obtain ⟨_,p,ys,rfl,sq,rp,_⟩:=bS hS r q
  rw [ints_map q2] at rp
  have e:=dm rp
  subst e
  obtain ⟨u,rfl,ru⟩:=rs.one
  cases ru
  cases hi:is with
  | nil=>rw [hi] at ho; exact ho.elim
  | cons i0 r0 =>
   rw [hi] at ho
   have fin:Q (.int (r0.foldl min i0)) H:=Out.val ho hS (.int _)
   obtain ⟨its,rv,wk⟩:=i7 hK I sq
   have hl:its.toArray.size=is.length:=by rw [List.size_toArray,<- rv.length,List.length_map]
   refine call_min_walk (wk X.A.in1 _ _ (I.ok.hd hc) fun I0 fp St s2 W st fl inv=>⟨I0,fp,[I0],_,_,St,fun i j=>decide (is.getD i 0 < is.getD j 0),rfl,W,st,fl,by rw [hl,hi]; simp,CmpOf.ints_lt (fun i=>is.getD i 0) fun i v hv=>gM rv hv,fun v h' tk hv hk=>?_⟩)
   obtain ⟨t,rfl⟩:=gM rv hv
   obtain ⟨h1,h2⟩:=argBest_lt (fun i=>is.getD i 0) (its.toArray.size - 1)
   have hpos:0 < is.length:=by rw [hi]; simp
   have e:is.getD (argBest (fun i j=>decide (is.getD i 0 < is.getD j 0)) (its.toArray.size - 1)) 0=r0.foldl min i0:=qo hi (getD_in (by omega)) fun b hb=>by
    obtain ⟨j,ej⟩:=List.getElem?_of_mem hb
    have hj:=(List.getElem?_eq_some_iff.mp ej).1
    have:=h2 j (by omega)
    rw [show is.getD j 0=b by rw [List.getD_eq_getElem?_getD,ej]; rfl] at this
    exact this
   rw [e]
   exact ⟨.int _,H,inv h' tk hk,⟨_,rfl⟩,fin⟩
 ·cases a with
  | int i =>
   cases c with
   | int j=>cases r1; cases r2; exact xQ hc pins s σ H _ us Q I rs ⟨i,j,rfl,Out.val ho hS (.int _)⟩
   | _=>exact ho.elim
  | _=>exact ho.elim
theorem C1 (hK:Γ.K=X.K) (hc:X.calm=true):bz X (.builtin "max") (bZ Γ xw (biD sub .max)):=by
 intro pins s σ H xs us Q I rs h
 rcases tK rfl h with ⟨ι,S,a,x,rfl,hS,r,ho⟩|⟨ι,S,a,c,x,y,rfl,hS,r1,r2,ho⟩
 ·obtain ⟨ds,q,ho⟩:=Out.items ho
  obtain ⟨is,q2,ho⟩:=Out.opt ho
  obtain ⟨_,p,ys,rfl,sq,rp,_⟩:=bS hS r q
  rw [ints_map q2] at rp
  have e:=dm rp
  subst e
  obtain ⟨u,rfl,ru⟩:=rs.one
  cases ru
  cases hi:is with
  | nil=>rw [hi] at ho; exact ho.elim
  | cons i0 r0 =>
   rw [hi] at ho
   have fin:Q (.int (r0.foldl max i0)) H:=Out.val ho hS (.int _)
   obtain ⟨its,rv,wk⟩:=i7 hK I sq
   have hl:its.toArray.size=is.length:=by rw [List.size_toArray,<- rv.length,List.length_map]
   refine call_max_walk (wk X.A.in1 _ _ (I.ok.hd hc) fun I0 fp St s2 W st fl inv=>⟨I0,fp,[I0],_,_,St,fun i j=>decide (is.getD i 0 > is.getD j 0),rfl,W,st,fl,by rw [hl,hi]; simp,CmpOf.ints_gt (fun i=>is.getD i 0) fun i v hv=>gM rv hv,fun v h' tk hv hk=>?_⟩)
   obtain ⟨t,rfl⟩:=gM rv hv
   obtain ⟨h1,h2⟩:=argBest_gt (fun i=>is.getD i 0) (its.toArray.size - 1)
   have hpos:0 < is.length:=by rw [hi]; simp
   have e:is.getD (argBest (fun i j=>decide (is.getD i 0 > is.getD j 0)) (its.toArray.size - 1)) 0=r0.foldl max i0:=nT hi (getD_in (by omega)) fun b hb=>by
    obtain ⟨j,ej⟩:=List.getElem?_of_mem hb
    have hj:=(List.getElem?_eq_some_iff.mp ej).1
    have:=h2 j (by omega)
    rw [show is.getD j 0=b by rw [List.getD_eq_getElem?_getD,ej]; rfl] at this
    exact this
   rw [e]
   exact ⟨.int _,H,inv h' tk hk,⟨_,rfl⟩,fin⟩
 ·cases a with
  | int i =>
   cases c with
   | int j=>cases r1; cases r2; exact Am hc pins s σ H _ us Q I rs ⟨i,j,rfl,Out.val ho hS (.int _)⟩
   | _=>exact ho.elim
  | _=>exact ho.elim
theorem wR (hS:aq Γ ι H S) {d:D} {v:V} {ds:List D} {S':aa} (r:Rep Γ ι H d v) (h:ez d S=.ok ds S'):S'=S/\∃ a xs,v=.ref a/\SqL Γ.K H a xs/\au Γ ι H ds xs:=by
 cases d with
 | fro es=>cases h; obtain ⟨a,xs,e,f,p⟩:=r.e_; exact ⟨rfl,a,xs,e,f.sq,p⟩
 | loc l=>obtain ⟨e,a,xs,e2,_,p,t⟩:=bS hS r (show items (.loc l) S=.ok ds S' from h); exact ⟨e,a,xs,e2,t l rfl,p⟩
 | _=>cases h
theorem EE (d:D) (S:aa):(∃ ds,ez d S=.ok ds S)\/ez d S=.bad:=by
 cases d with
 | fro ds=>exact .inl ⟨ds,rfl⟩
 | loc l=>exact gB (.loc l) S
 | _=>exact .inr rfl
theorem Out.ez {α:Type} {d:D} {f:List D->M α} {k:α->aa->List Addr->Hp->Prop} (ho:Out Γ xw ι H ((EV.ez d>>=f) S) k):∃ ds,EV.ez d S=.ok ds S/\Out Γ xw ι H (f ds S) k:=by
 rcases EE d S with ⟨ds,e⟩|e
 ·rw [aj e] at ho; exact ⟨ds,e,ho⟩
 ·rw [aV e] at ho; exact ho.elim
theorem nK:∀ {vs:List Value} {ns:List Int},IntsAre vs ns->Vals (ns.map V.int) vs
 | _,_,.nil=>.nil
 | _,_,.cons n t h=>.cons ⟨t,rfl⟩ (nK h)
theorem yy (hK:Γ.K=X.K):bz X (.type "list") (bZ Γ xw (biD sub .list)):=by
 intro pins s σ H xs us Q I rs h
 obtain ⟨ι,S,a,x,rfl,hS,r,ho⟩:=eU rfl (fun _ _ _=>rfl) h
 obtain ⟨ds,q,ho⟩:=Out.items ho
 obtain ⟨_,p,ys,rfl,sq,rp,_⟩:=bS hS r q
 rw [hK] at sq
 exact uF pins s σ H _ us Q I rs ⟨p,ys,rfl,sq,fun l hl=>Out.alloc ho hS hl rp⟩
theorem zu (hK:Γ.K=X.K):bz X (.type "tuple") (bZ Γ xw (biD sub .tuple)):=by
 intro pins s σ H xs us Q I rs h
 obtain ⟨ι,S,a,x,rfl,hS,r,ho⟩:=eU rfl (fun _ _ _=>rfl) h
 obtain ⟨ds,q,ho⟩:=Out.items ho
 obtain ⟨_,p,ys,rfl,sq,rp,_⟩:=bS hS r q
 rw [hK] at sq
 rcases sq with sq|sq
 ·exact mV pins s σ H _ us Q I rs ⟨p,ys,rfl,.inl ⟨sq,fun l hl=>Out.tup ho hS hl rp⟩⟩
 ·exact mV pins s σ H _ us Q I rs ⟨p,ys,rfl,.inr ⟨sq,Out.val ho hS (.fC (by rw [hK]; exact sq) rp)⟩⟩
theorem Fe:bz X (.type "int") (bZ Γ xw (biD sub .int)):=by
 intro pins s σ H xs us Q I rs h
 obtain ⟨ι,S,a,x,rfl,hS,r,ho⟩:=eU rfl (fun _ _ _=>rfl) h
 cases a with
 | int i=>cases r; exact n9 pins s σ H _ us Q I rs (.inl ⟨i,rfl,Out.val ho hS (.int _)⟩)
 | bl b=>cases r; exact n9 pins s σ H _ us Q I rs (.inr ⟨b,rfl,Out.val ho hS (.int _)⟩)
 | _=>exact ho.elim
noncomputable def Ty.name:Ty->Option String
 | .int=>some "int" | .bool=>some "bool" | .str=>some "str" | .list=>some "list" | .tuple=>some "tuple" | .dict=>some "dict" | .cls _=>none
theorem CV (hK:Γ.K=X.K) (I:Inv X pins σ H s) (hS:aq Γ ι H S) {t:Ty} {T:String} (ht:t.name=some T) {d:D} {x:V} {v:Value} (r:Rep Γ ι H d x) (rx:RelV x v) {k:Bool} (h:ek sub S d t=some k) {A:Around} {E:Value->Shared->Prop} {Q:Value->Shared->Prop}
  (hq:∀ tk,Q (.bool k) { s with toks:=tk }):wpAny (model X.prog X.w) A (call (.builtin "isinstance") [v,.type T]) Q E s:=by
 have seqL:∀ {a:Addr} {xs:List V},SqL X.K H a xs->∀ {b:Bool},PySem.W.kitOne X.K (.type "list") (.type T)=some b->(∀ tk,Q (.bool b) { s with toks:=tk })->wpAny (model X.prog X.w) A (call (.builtin "isinstance") [.ref a,.type T]) Q E s:=fun {a xs} sq {b} e hq=>by
  obtain ⟨its,_,pl,_⟩:=I.list sq
  obtain ⟨o,h1,h2,_⟩:=pl.isList
  exact PySem.W.kia_one PySem.W.kitx_list I.kIn ⟨o,h1,h2⟩ e (fun z=>nomatch z) hq
 cases d with
 | non=>cases r; cases rx; cases t <;> cases ht <;> cases h <;> exact PySem.W.kia_one PySem.W.kitx_none I.kIn True.intro (by rfl) (fun z=>nomatch z) hq
 | bl b=>cases r; cases rx; cases t <;> cases ht <;> cases h <;> exact PySem.W.kia_one PySem.W.kitx_bool I.kIn True.intro (by rfl) (fun z=>nomatch z) hq
 | int b=>cases r; obtain ⟨tk,rfl⟩:=rx; cases t <;> cases ht <;> cases h <;> exact PySem.W.kia_one PySem.W.kitx_int I.kIn True.intro (by rfl) (fun z=>nomatch z) hq
 | str b=>cases r; obtain ⟨tk,rfl⟩:=rx; cases t <;> cases ht <;> cases h <;> exact PySem.W.kia_one PySem.W.kitx_str I.kIn True.intro (by rfl) (fun z=>nomatch z) hq
 | tup ds =>
  obtain ⟨a,xs,rfl,sq,_⟩:=r.bA
  cases rx
  rw [hK] at sq
  obtain ⟨its,_,pl,_⟩:=I.tuple sq
  obtain ⟨o,h1,h2,_⟩:=pl
  cases t <;> cases ht <;> cases h <;> exact PySem.W.kia_one PySem.W.kitx_tuple I.kIn ⟨o,h1,h2⟩ (by rfl) (fun z=>nomatch z) hq
 | fro ds =>
  obtain ⟨a,xs,rfl,sq,_⟩:=r.e_
  cases rx
  have sq:=sq.sq
  rw [hK] at sq
  cases t <;> cases ht <;> cases h <;> exact seqL sq (by rfl) hq
 | loc l =>
  cases r with
  | loc ql =>
   cases rx
   simp only [ek] at h
   cases q:S[l]? with
   | none=>rw [q] at h; cases t <;> cases ht <;> cases h
   | some c =>
    rw [q] at h
    cases c with
    | lst ds =>
     obtain ⟨a,xs,ha,hx,_⟩:=hS.lst q
     rw [ql] at ha; cases ha
     cases t <;> cases ht <;> cases h <;> exact seqL (.of hx) (by rfl) hq
    | dct kvs=>cases t <;> cases ht <;> cases h
 | exn c=>cases r
end
end EV

namespace EV
open PySem PySem.Spec PyProof.Rows L2
section
variable {X:Cx} {Γ:Gx} {xw:XW} {a b c:Expr} {ma mb mc:Sg->M D} {pos:Pos}
theorem xo {i:Nat} {x:Str} (hN:X.N[i]?=some x) (hv:Vis X.env.scope x) (hd:(x==("__debug__" : Str))=false) (hcd:(x==("__classdict__" : Str))=false):PE X (.Name x pos) (tM Γ xw fun σ=>bf σ i) :=
 PE.imp (Du hN hv hd hcd) fun σ H Q h=>by
  obtain ⟨σd,ι,S,he,hs,ho⟩:=h
  have ho:Out Γ xw ι H (bf σd i S) fun d _ ι' H'=>∀ v,Rep Γ ι' H' d v->Q v H':=ho
  cases q:σd[i]? with
  | none=>rw [show bf σd i S=.bad by unfold bf; rw [q]; rfl] at ho; exact ho.elim
  | some o =>
   cases o with
   | none=>rw [show bf σd i S=.bad by unfold bf; rw [q]; rfl] at ho; exact ho.elim
   | some d =>
    rw [show bf σd i S=.ok d S by unfold bf; rw [q]; rfl] at ho
    obtain ⟨v,hv,r⟩:=he.var i d q
    exact ⟨v,hv,ho.here hs v r⟩
theorem gZ {e:Expr} {d:D} {v:V} (h:PE X e (tC v)) (r:∀ ι H,Rep Γ ι H d v):PE X e (tM Γ xw fun _=>pure d) :=
 PE.imp h fun σ H Q h=>by
  obtain ⟨σd,ι,S,he,hs,ho⟩:=h
  exact ho.here hs v (r _ _)
theorem Bo {op:Operator} {f:D->D->M D} (ho:OpR X (binaryOp op) (aZ Γ xw f)) (ha:PE X a (tM Γ xw ma)) (hb:PE X b (tM Γ xw mb)):PE X (.BinOp a op b pos) (tM Γ xw fun σ=>ma σ>>=fun x=>mb σ>>=fun y=>f x y) :=
 PE.imp (Aa ho ha hb) fun _ _ _ h=>lT h
theorem BX {op:CmpOp} {f:D->D->M D} (ho:OpR X (compareOp op) (aZ Γ xw f)) (ha:PE X a (tM Γ xw ma)) (hb:PE X b (tM Γ xw mb)) (hm:behindInMarks op b=false):PE X (.Compare a [op] [b] pos) (tM Γ xw fun σ=>ma σ>>=fun x=>mb σ>>=fun y=>f x y) :=
 PE.imp (AU ho ha hb hm) fun _ _ _ h=>lT h
theorem xy {rest:List Expr} (ha:PE X a (tM Γ xw ma)) (hb:PE X (.BoolOp .And (b::rest) pos) (tM Γ xw mb)):PE X (.BoolOp .And (a::b::rest) pos) (tM Γ xw fun σ=>ma σ>>=fun x=>match x with|.bl true=>mb σ|.bl false=>pure (.bl false)|_=>bad) :=
 PE.imp (Bf ha hb) fun σ H Q h=>by
  obtain ⟨σd,ι,S,he,hs,ho⟩:=h
  refine ⟨σd,ι,S,he,hs,ho.bind.mono fun d S' ι' H' _ _ ⟨s',e',o'⟩ v r=>?_⟩
  cases d with
  | bl k =>
   cases r
   refine ⟨k,rfl,?_⟩
   cases k with
   | true=>rw [if_pos rfl]; exact ⟨σd,ι',S',he.ext e',s',o'⟩
   | false=>rw [if_neg Bool.false_ne_true]; exact o'.here s' _ (.bl _)
  | _=>exact o'.elim
theorem zx {rest:List Expr} (ha:PE X a (tM Γ xw ma)) (hb:PE X (.BoolOp .Or (b::rest) pos) (tM Γ xw mb)):PE X (.BoolOp .Or (a::b::rest) pos) (tM Γ xw fun σ=>ma σ>>=fun x=>match x with|.bl true=>pure (.bl true)|.bl false=>mb σ|_=>bad) :=
 PE.imp (t6 ha hb) fun σ H Q h=>by
  obtain ⟨σd,ι,S,he,hs,ho⟩:=h
  refine ⟨σd,ι,S,he,hs,ho.bind.mono fun d S' ι' H' _ _ ⟨s',e',o'⟩ v r=>?_⟩
  cases d with
  | bl k =>
   cases r
   refine ⟨k,rfl,?_⟩
   cases k with
   | false=>rw [if_neg Bool.false_ne_true]; exact ⟨σd,ι',S',he.ext e',s',o'⟩
   | true=>rw [if_pos rfl]; exact o'.here s' _ (.bl _)
  | _=>exact o'.elim
theorem Ct (ha:PE X a (tM Γ xw ma)):PE X (.UnaryOp .Not a pos) (tM Γ xw fun σ=>ma σ>>=fun x=>match x with|.bl b=>pure (.bl (!b))|_=>bad) :=
 PE.imp (A_ ha) fun σ H Q h=>by
  obtain ⟨σd,ι,S,he,hs,ho⟩:=h
  refine ⟨σd,ι,S,he,hs,ho.bind.mono fun d S' ι' H' _ _ ⟨s',e',o'⟩ v r=>?_⟩
  cases d with
  | bl k=>cases r; exact ⟨k,rfl,o'.here s' _ (.bl _)⟩
  | _=>exact o'.elim
theorem Cj (ha:PE X a (tM Γ xw ma)):PE X (.UnaryOp .USub a pos) (tM Γ xw fun σ=>ma σ>>=fun x=>match x with|.int i=>pure (.int (-i))|_=>bad) :=
 PE.imp (Ej yV ha) fun σ H Q h=>by
  obtain ⟨σd,ι,S,he,hs,ho⟩:=h
  refine ⟨σd,ι,S,he,hs,ho.bind.mono fun d S' ι' H' _ _ ⟨s',e',o'⟩ v r=>?_⟩
  cases d with
  | int k=>cases r; exact ⟨k,rfl,o'.here s' _ (.int _)⟩
  | _=>exact o'.elim
theorem B9 {op op':CmpOp} {f f':D->D->M D} (ho:OpR X (compareOp op) (aZ Γ xw f)) (ho':OpR X (compareOp op') (aZ Γ xw f')) (ha:PE X a (tM Γ xw ma)) (hb:PE X b (tM Γ xw mb)) (hc:PE X c (tM Γ xw mc)) (hm:lastMarks [op,op'] [b,c]=false) :
  PE X (.Compare a [op,op'] [b,c] pos) (tM Γ xw fun σ=>ma σ>>=fun x=>mb σ>>=fun y=>f x y>>=fun r=>match r with|.bl true=>mc σ>>=fun z=>f' y z|.bl false=>pure (.bl false)|_=>bad) :=
 PE.imp (yu ho ho' ha hb hc hm) fun σ H Q h=>by
  obtain ⟨σd,ι,S,he,hs,ho⟩:=h
  refine ⟨σd,ι,S,he,hs,ho.bind.mono fun d S' ι' H' _ _ ⟨s',e',o'⟩ v r=>⟨σd,ι',S',he.ext e',s',o'.bind.mono fun d2 S2 ι2 H2 _ _ ⟨s2,e2,o2⟩ v2 r2=>⟨ι2,S2,d,d2,s2,r.ext e2,r2,o2.bind.mono fun d3 S3 ι3 H3 _ _ ⟨s3,e3,o3⟩ v3 r3=>?_⟩⟩⟩
  cases d3 with
  | bl k =>
   cases r3
   refine ⟨k,rfl,?_⟩
   cases k with
   | true =>
    rw [if_pos rfl]
    exact ⟨σd,ι3,S3,(he.ext (e'.trans e2)).ext e3,s3,o3.bind.mono fun d4 S4 ι4 H4 _ _ ⟨s4,e4,o4⟩ v4 r4=>⟨ι4,S4,d2,d4,s4,(r2.ext e3).ext e4,r4,o4⟩⟩
   | false=>rw [if_neg Bool.false_ne_true]; exact o3.here s3 _ (.bl _)
  | _=>exact o3.elim
theorem EJ {e:Expr} {m:Sg->M D} (hK:Γ.K=X.K) (h:PE X e (tM Γ xw m)) (he:∀ whole,isTrue e X.env whole=(do let v <- whole; standAt e.pos; holding [v] (truthy v))):PT X e (tMT Γ xw fun σ=>m σ>>=truth):=by
 intro pins s σ H Q I hw
 obtain ⟨σd,ι,S,hE,hs,ho⟩:=hw
 refine isTrue_plain (thn (h pins s σ H (fun x H'=>∃ ι S d,aq Γ ι H' S/\Rep Γ ι H' d x/\Out Γ xw ι H' (truth d S) fun b _ _ H'=>Q b H') I ⟨σd,ι,S,hE,hs,ho.bind.mono fun d S' ι' H' _ _ ⟨s',e',o'⟩ v r=>⟨ι',S',d,s',r,o'⟩⟩) fun v s1 ⟨x,H1,I1,r1,q1⟩=>?_) (he _)
 exact Bx hK pins s1 σ H1 x v Q I1 r1 q1
theorem Ds {op:CmpOp} {f:D->D->M D} (hbl:∀ x y S d S',f x y S=.ok d S'->∃ k,d=.bl k) (ho:OpR X (compareOp op) (aZ Γ xw f)) (ha:PE X a (tM Γ xw ma)) (hb:PE X b (tM Γ xw mb)) (hm:behindInMarks op b=false) :
  PT X (.Compare a [op] [b] pos) (tMT Γ xw fun σ=>ma σ>>=fun x=>mb σ>>=fun y=>f x y>>=fun r=>truth r) :=
 PT.imp (zM ho ha hb hm) fun σ H Q h=>by
  obtain ⟨σd,ι,S,he,hs,ho⟩:=h
  refine ⟨σd,ι,S,he,hs,ho.bind.mono fun d S' ι' H' _ _ ⟨s',e',o'⟩ v r=>⟨σd,ι',S',he.ext e',s',o'.bind.mono fun d2 S2 ι2 H2 _ _ ⟨s2,e2,o2⟩ v2 r2=>⟨ι2,S2,d,d2,s2,r.ext e2,r2,?_⟩⟩⟩
  cases q:f d d2 S2 with
  | bad=>rw [aV q] at o2; exact o2.elim
  | exc c S3=>rw [cN q] at o2; exact o2
  | ok d3 S3 =>
   rw [aj q] at o2
   obtain ⟨k,rfl⟩:=hbl _ _ _ _ _ q
   intro ι3 H3 e3 s3 v3 r3
   cases r3
   exact ⟨k,rfl,(o2.step e3).here s3⟩
theorem B6 {op op':CmpOp} {f f':D->D->M D} (hbl:∀ x y S d S',f x y S=.ok d S'->∃ k,d=.bl k) (hbl':∀ x y S d S',f' x y S=.ok d S'->∃ k,d=.bl k) (ho:OpR X (compareOp op) (aZ Γ xw f)) (ho':OpR X (compareOp op') (aZ Γ xw f')) (ha:PE X a (tM Γ xw ma)) (hb:PE X b (tM Γ xw mb)) (hc:PE X c (tM Γ xw mc)) (hm:lastMarks [op,op'] [b,c]=false) :
  PT X (.Compare a [op,op'] [b,c] pos) (tMT Γ xw fun σ=>ma σ>>=fun x=>mb σ>>=fun y=>f x y>>=fun r=>truth r>>=fun k=>if k=true then mc σ>>=fun z=>f' y z>>=fun q=>truth q else pure false) :=
 PT.imp (yp ho ho' ha hb hc hm) fun σ H Q h=>by
  obtain ⟨σd,ι,S,he,hs,ho⟩:=h
  refine ⟨σd,ι,S,he,hs,ho.bind.mono fun d S' ι' H' _ _ ⟨s',e',o'⟩ v r=>⟨σd,ι',S',he.ext e',s',o'.bind.mono fun d2 S2 ι2 H2 _ _ ⟨s2,e2,o2⟩ v2 r2=>⟨ι2,S2,d,d2,s2,r.ext e2,r2,?_⟩⟩⟩
  cases q:f d d2 S2 with
  | bad=>rw [aV q] at o2; exact o2.elim
  | exc c S3=>rw [cN q] at o2; exact o2
  | ok d3 S3 =>
   rw [aj q] at o2
   obtain ⟨k,rfl⟩:=hbl _ _ _ _ _ q
   intro ι3 H3 e3 s3 v3 r3
   cases r3
   refine ⟨k,rfl,?_⟩
   have o3:=o2.step e3
   cases k with
   | false=>rw [if_neg Bool.false_ne_true]; exact ⟨false,rfl,o3.here s3⟩
   | true =>
    rw [if_pos rfl]
    have o3:Out Γ xw ι3 H3 ((mc σd>>=fun z=>f' d2 z>>=fun q=>truth q) S3) _:=o3
    refine ⟨σd,ι3,S3,(he.ext (e'.trans e2)).ext e3,s3,o3.bind.mono fun d4 S4 ι4 H4 _ _ ⟨s4,e4,o4⟩ v4 r4=>⟨ι4,S4,d2,d4,s4,(r2.ext e3).ext e4,r4,?_⟩⟩
    cases q4:f' d2 d4 S4 with
    | bad=>rw [aV q4] at o4; exact o4.elim
    | exc c S5=>rw [cN q4] at o4; exact o4
    | ok d5 S5 =>
     rw [aj q4] at o4
     obtain ⟨k5,rfl⟩:=hbl' _ _ _ _ _ q4
     intro ι5 H5 e5 s5 v5 r5
     cases r5
     exact ⟨k5,rfl,(o4.step e5).here s5⟩
variable {na nb:Sg->M Bool}
theorem sr {rest:List Expr} (ha:PT X a (tMT Γ xw na)) (hb:PW X (.BoolOp .And (b::rest) pos) (tMT Γ xw nb)):PW X (.BoolOp .And (a::b::rest) pos) (tMT Γ xw fun σ=>na σ>>=fun k=>if k=true then nb σ else pure false) :=
 PW.imp (C4 ha hb) fun σ H Q h=>by
  obtain ⟨σd,ι,S,he,hs,ho⟩:=h
  refine ⟨σd,ι,S,he,hs,ho.bind.mono fun k S' ι' H' _ _ ⟨s',e',o'⟩=>?_⟩
  cases k with
  | true=>rw [if_pos rfl]; exact ⟨σd,ι',S',he.ext e',s',o'⟩
  | false=>rw [if_neg Bool.false_ne_true]; exact o'.here s'
theorem pK {rest:List Expr} (ha:PT X a (tMT Γ xw na)) (hb:PW X (.BoolOp .Or (b::rest) pos) (tMT Γ xw nb)):PW X (.BoolOp .Or (a::b::rest) pos) (tMT Γ xw fun σ=>na σ>>=fun k=>if k=true then pure true else nb σ) :=
 PW.imp (Ca ha hb) fun σ H Q h=>by
  obtain ⟨σd,ι,S,he,hs,ho⟩:=h
  refine ⟨σd,ι,S,he,hs,ho.bind.mono fun k S' ι' H' _ _ ⟨s',e',o'⟩=>?_⟩
  cases k with
  | false=>rw [if_neg Bool.false_ne_true]; exact ⟨σd,ι',S',he.ext e',s',o'⟩
  | true=>rw [if_pos rfl]; exact o'.here s'
theorem uB (ha:PT X a (tMT Γ xw na)):PT X (.UnaryOp .Not a pos) (tMT Γ xw fun σ=>na σ>>=fun k=>pure (!k)) :=
 PT.imp (Eb ha) fun σ H Q h=>by
  obtain ⟨σd,ι,S,he,hs,ho⟩:=h
  exact ⟨σd,ι,S,he,hs,ho.bind.mono fun k S' ι' H' _ _ ⟨s',e',o'⟩=>o'.here s'⟩
theorem B0 (hc:PT X c (tMT Γ xw na)) (ha:PE X a (tM Γ xw ma)) (hb:PE X b (tM Γ xw mb)):PE X (.IfExp c a b pos) (tM Γ xw fun σ=>na σ>>=fun k=>if k=true then ma σ else mb σ) :=
 PE.imp (CW hc ha hb) fun σ H Q h=>by
  obtain ⟨σd,ι,S,he,hs,ho⟩:=h
  refine ⟨σd,ι,S,he,hs,ho.bind.mono fun k S' ι' H' _ _ ⟨s',e',o'⟩=>?_⟩
  cases k with
  | true=>rw [if_pos rfl]; exact ⟨σd,ι',S',he.ext e',s',o'⟩
  | false=>rw [if_neg Bool.false_ne_true]; exact ⟨σd,ι',S',he.ext e',s',o'⟩
theorem BB:PA X [] (tMA Γ xw fun _=>pure []) :=
 PA.imp iR fun σ H Q h=>by
  obtain ⟨σd,ι,S,he,hs,ho⟩:=h
  exact ho.here hs [] .nil
theorem E_ {es:List Expr} {m:Sg->M (List D)} (ha:PE X a (tM Γ xw ma)) (hr:PA X es (tMA Γ xw m)) (hs:starEach (a::es) X.env=(false,eval a X.env)::starEach es X.env):PA X (a::es) (tMA Γ xw fun σ=>ma σ>>=fun x=>m σ>>=fun xs=>pure (x::xs)) :=
 PA.imp (gW ha hr hs) fun σ H Q h=>by
  obtain ⟨σd,ι,S,he,hs,ho⟩:=h
  exact ⟨σd,ι,S,he,hs,ho.bind.mono fun d S' ι' H' _ _ ⟨s',e',o'⟩ v r=>⟨σd,ι',S',he.ext e',s',o'.bind.mono fun ds S2 ι2 H2 _ _ ⟨s2,e2,o2⟩ vs rs=>o2.here s2 _ (.cons (r.ext e2) rs)⟩⟩
theorem yX {es:List Expr} {k:Nat} {m:Sg->M (List D)} (h:PA X es (tMA Γ xw m)):PE X (.Tuple es k pos) (tM Γ xw fun σ=>m σ>>=fun ds=>guard (fits ds.length) (pure (.tup ds))) :=
 PE.imp (kr h) fun σ H Q h=>by
  obtain ⟨σd,ι,S,he,hs,ho⟩:=h
  refine ⟨σd,ι,S,he,hs,ho.bind.mono fun ds S' ι' H' _ _ ⟨s',e',o'⟩ vs rs=>?_⟩
  obtain ⟨hz,o'⟩:=Out.guard o'
  exact ⟨by rw [<- rs.length]; exact dD hz,fun p hp=>Out.tup o' s' hp rs⟩
theorem yH {es:List Expr} {m:Sg->M (List D)} (h:PA X es (tMA Γ xw m)):PE X (.List es pos) (tM Γ xw fun σ=>m σ>>=fun ds=>guard (fits ds.length) (alloc (.lst ds))) :=
 PE.imp (AE h) fun σ H Q h=>by
  obtain ⟨σd,ι,S,he,hs,ho⟩:=h
  refine ⟨σd,ι,S,he,hs,ho.bind.mono fun ds S' ι' H' _ _ ⟨s',e',o'⟩ vs rs=>?_⟩
  obtain ⟨hz,o'⟩:=Out.guard o'
  exact ⟨by rw [<- rs.length]; exact dD hz,fun p hp=>Out.alloc o' s' hp rs⟩
theorem z9 (hK:Γ.K=X.K) (ha:PE X a (tM Γ xw ma)) (hb:PE X b (tM Γ xw mb)) (hs:l7 b):PE X (.Subscript a b pos) (tM Γ xw fun σ=>ma σ>>=fun x=>mb σ>>=fun y=>ixD x y) :=
 PE.imp (Cs (wu hK) ha hb hs) fun _ _ _ h=>lT h
noncomputable def tMO (Γ:Gx) (xw:XW) (m:Sg->M (Option Int)):TO:=fun σ H Q=>∃ σd ι S,aS Γ ι H σ σd/\aq Γ ι H S/\Out Γ xw ι H (m σd S) fun o _ _ H'=>Q o H'
theorem PO.imp {e:Option Expr} {t t':TO} (h:PO X e t) (f:∀ σ H Q,t' σ H Q->t σ H Q):PO X e t':=fun pins s σ H Q I q=>h pins s σ H Q I (f σ H Q q)
theorem BS:PO X none (tMO Γ xw fun _=>pure none):=PO.imp xG fun σ H Q h=>by
 obtain ⟨σd,ι,S,he,hs,ho⟩:=h
 exact ho.here hs
theorem yF (ha:PE X a (tM Γ xw ma)):PO X (some a) (tMO Γ xw fun σ=>ma σ>>=fq):=PO.imp (vX ha) fun σ H Q h=>by
 obtain ⟨σd,ι,S,he,hs,ho⟩:=h
 refine ⟨σd,ι,S,he,hs,ho.bind.mono fun d S' ι' H' _ _ ⟨s',e',o'⟩ v r=>?_⟩
 cases d with
 | int i=>cases r; exact ⟨i,rfl,o'.here s'⟩
 | _=>exact o'.elim
theorem ya {lo hi:Option Expr} {ml mh:Sg->M (Option Int)} {p2:Pos} (hK:Γ.K=X.K) (ha:PE X a (tM Γ xw ma)) (hl:PO X lo (tMO Γ xw ml)) (hh:PO X hi (tMO Γ xw mh)) :
  PE X (.Subscript a (.Slice lo hi none p2) pos) (tM Γ xw fun σ=>ma σ>>=fun x=>ml σ>>=fun l=>mh σ>>=fun h=>slD x l h) :=
 PE.imp (CA (v8 hK) ha hl hh) fun σ H Q h=>by
  obtain ⟨σd,ι,S,he,hs,ho⟩:=h
  exact ⟨σd,ι,S,he,hs,ho.bind.mono fun d S' ι' H' _ _ ⟨s',e',o'⟩ v r=>⟨σd,ι',S',he.ext e',s',o'.bind.mono fun l S2 ι2 H2 _ _ ⟨s2,e2,o2⟩=>⟨σd,ι2,S2,(he.ext e').ext e2,s2,o2.bind.mono fun u S3 ι3 H3 _ _ ⟨s3,e3,o3⟩=>⟨ι3,S3,d,s3,(r.ext e2).ext e3,o3⟩⟩⟩⟩
theorem fS {id:String} {x:Str} {p:Pos} {es:List Expr} {m:Sg->M (List D)} {f:List D->M D} (hc:bz X (.builtin id) (bZ Γ xw f)) (hg:Gl X x) (hm:X.mg x=none) (hv:bootBuiltins x=some (.builtin id)) (ha:PA X (a::es) (tMA Γ xw m)) (hn:x≠"__name__") (hdb:(x==("__debug__" : Str))=false)
  (he:starEach (a::es) X.env=(false,eval a X.env)::starEach es X.env) (hpl:(backTo pos (starEach es X.env)).any (·.1)=false):PE X (.Call (.Name x p) (a::es) [] pos) (tM Γ xw fun σ=>m σ>>=f) :=
 PE.imp (qv hc hg hm hv ha hn hdb he hpl) fun _ _ _ h=>nI h
theorem j5 {T:String} {x:Str} {p:Pos} {es:List Expr} {m:Sg->M (List D)} {f:List D->M D} (hc:bz X (.type T) (bZ Γ xw f)) (hg:Gl X x) (hm:X.mg x=none) (hv:bootBuiltins x=some (.type T)) (ha:PA X (a::es) (tMA Γ xw m)) (hn:x≠"__name__") (hdb:(x==("__debug__" : Str))=false)
  (he:starEach (a::es) X.env=(false,eval a X.env)::starEach es X.env) (hpl:(backTo pos (starEach es X.env)).any (·.1)=false):PE X (.Call (.Name x p) (a::es) [] pos) (tM Γ xw fun σ=>m σ>>=f) :=
 PE.imp (qx hc hg hm hv ha hn hdb he hpl) fun _ _ _ h=>nI h
theorem Bj {sub:Sub} {t:Ty} {T:String} {x y:Str} {p p':Pos} (hK:Γ.K=X.K) (ht:t.name=some T) (hg:Gl X x) (hm:X.mg x=none) (hv:bootBuiltins x=some (.builtin "isinstance")) (hg':Gl X y) (hm':X.mg y=none) (hv':bootBuiltins y=some (.type T)) (ha:PE X a (tM Γ xw ma))
  (hn:x≠"__name__") (hdb:(x==("__debug__" : Str))=false) (hn':y≠"__name__") (hdb':(y==("__debug__" : Str))=false) (hst:starEach [a,.Name y p'] X.env=(false,eval a X.env)::starEach [.Name y p'] X.env) :
  PE X (.Call (.Name x p) [a,.Name y p'] [] pos) (tM Γ xw fun σ=>ma σ>>=fun d=>gA sub t d):=by
 have hy:PE X (.Name y p') (tC (.ty T)):=D4 hg' hm' hv' rfl hn' hdb'
 have hc:bz X (.builtin "isinstance") (fun xs H Q=>∃ x,xs=[x,.ty T]/\sS Γ xw (gA sub t) x H Q):=by
  intro pins s σ H xs us Q I rs h
  obtain ⟨x,rfl,ι,S,d,hS,r,ho⟩:=h
  obtain ⟨u1,u2,rfl,r1,r2⟩:=rs.two
  cases r2
  unfold gA at ho
  cases q:ek sub S d t with
  | none=>rw [q] at ho; exact ho.elim
  | some k =>
   rw [q] at ho
   exact CV hK I hS ht r r1 q fun tk=>⟨.bl k,H,I.tok _,rfl,Out.val ho hS (.bl _)⟩
 refine PE.imp (qv hc hg hm hv (gW ha (gW hy iR rfl) hst) hn hdb hst rfl) fun σ H Q h=>?_
 obtain ⟨σd,ι,S,he,hs,ho⟩:=h
 exact ⟨σd,ι,S,he,hs,ho.bind.mono fun d S' ι' H' _ _ ⟨s',e',o'⟩ v r=>⟨v,rfl,ι',S',d,s',r,o'⟩⟩
end
end EV

namespace EV
open PySem PySem.Spec PyProof.Rows L2
section
variable {X:Cx} {Γ:Gx} {xw:XW} {ι ι':List Addr} {H H':Hp} {S:aa} {σ:L2.St}
theorem Rep.move (hp:ι <+: ι') (ht:∀ a xs,H a=some (.tup xs)->H' a=some (.tup xs)) (hf:∀ a o u,H a=some (.frz o u)->H' a=some (.frz o u)) {d:D} {v:V} (h:Rep Γ ι H d v):Rep Γ ι' H' d v:=by
 induction h with
 | non=>exact .non
 | bl b=>exact .bl b
 | int i=>exact .int i
 | str x=>exact .str x
 | tup h1 h2 h3 ih =>
  refine .tup ?_ h2 ih
  rcases h1 with (h|⟨o,h⟩)|h
  ·exact .inl (.inl (ht _ _ h))
  ·exact .inl (.inr ⟨o,hf _ _ _ h⟩)
  ·exact .inr h
 | fro h1 h2 h3 ih =>
  refine .fro ?_ h2 ih
  rcases h1 with ⟨o,h⟩|h
  ·exact .inl ⟨o,hf _ _ _ h⟩
  ·exact .inr h
 | loc h=>exact .loc (eV hp h)
theorem sf {a:Addr} {xs ys:List V} (h:H a=some (.lst xs)):∀ b zs,H b=some (.tup zs)->upd H a (.lst ys) b=some (.tup zs):=fun b zs e=>by
 rw [aB (lM e h (by intro z; cases z))]; exact e
theorem s_ {a:Addr} {xs ys:List V} (h:H a=some (.lst xs)):∀ b o u,H b=some (.frz o u)->upd H a (.lst ys) b=some (.frz o u):=fun b o u e=>by
 rw [aB (lM e h (by intro z; cases z))]; exact e
theorem Rep.write {a:Addr} {xs ys:List V} (h:H a=some (.lst xs)) {d:D} {v:V} (r:Rep Γ ι H d v):Rep Γ ι (upd H a (.lst ys)) d v:=r.move (List.prefix_refl _) (sf h) (s_ h)
theorem au.write {a:Addr} {xs ys:List V} (h:H a=some (.lst xs)) {ds:List D} {vs:List V} (r:au Γ ι H ds vs):au Γ ι (upd H a (.lst ys)) ds vs:=Paired.imp (fun _ _ r=>Rep.write h r) r
theorem aS.write {a:Addr} {xs ys:List V} (h:H a=some (.lst xs)) {σd:Sg} (e:aS Γ ι H σ σd):aS Γ ι (upd H a (.lst ys)) σ σd:=⟨e.len,fun i d q=>let ⟨v,e1,r⟩:=e.var i d q; ⟨v,e1,r.write h⟩⟩
theorem Ext.write {a:Addr} {xs ys:List V} (h:H a=some (.lst xs)) (hm:a∈ι):Ext ι ι H (upd H a (.lst ys)) :=
 ⟨List.prefix_refl _,sf h,s_ h,fun b o e n=>by rw [aB (fun z=>n (by rw [z]; exact hm))]; exact e,fun _ h n=>absurd h n⟩
theorem aq.write (hS:aq Γ ι H S) {l:Nat} {a:Addr} {xs ys:List V} {es ds:List D} (hl:S[l]?=some (.lst es)) (ha:ι[l]?=some a) (h:H a=some (.lst xs)) (r:au Γ ι H ds ys):aq Γ ι (upd H a (.lst ys)) (S.set l (.lst ds)):=by
 refine ⟨by rw [List.length_set]; exact hS.len,hS.nd,fun m c hm=>?_⟩
 by_cases e:m=l
 ·subst e
  rw [List.getElem?_set_self (List.getElem?_eq_some_iff.mp hl).1] at hm
  cases hm
  exact ⟨a,ha,ys,bU,au.write h r⟩
 ·rw [List.getElem?_set_ne (Ne.symm e)] at hm
  obtain ⟨b,hb,c1⟩:=hS.cell m c hm
  have hne:b≠a:=fun z=>e (g7 hS.nd hb (z ▸ ha))
  refine ⟨b,hb,?_⟩
  cases c with
  | lst zs=>obtain ⟨ws,hw,rw'⟩:=c1; exact ⟨ws,by rw [aB hne]; exact hw,au.write h rw'⟩
  | dct kvs=>obtain ⟨ws,hw,rw'⟩:=c1; exact ⟨ws,by rw [aB hne]; exact hw,Paired.imp (fun _ _ q=>⟨q.1,Rep.write h q.2⟩) rw'⟩
theorem aq.other (hS:aq Γ ι H S) {a:Addr} {xs ys:List V} (h:H a=some (.lst xs)) (hn:a ∉ ι):aq Γ ι (upd H a (.lst ys)) S :=
 ⟨hS.len,hS.nd,fun m c hm=>by
  obtain ⟨b,hb,c1⟩:=hS.cell m c hm
  have hne:b≠a:=fun z=>hn (z ▸ List.mem_of_getElem? hb)
  refine ⟨b,hb,?_⟩
  cases c with
  | lst zs=>obtain ⟨ws,hw,rw'⟩:=c1; exact ⟨ws,by rw [aB hne]; exact hw,au.write h rw'⟩
  | dct kvs=>obtain ⟨ws,hw,rw'⟩:=c1; exact ⟨ws,by rw [aB hne]; exact hw,Paired.imp (fun _ _ q=>⟨q.1,Rep.write h q.2⟩) rw'⟩⟩
theorem aS.set {σd:Sg} (e:aS Γ ι H σ σd) (i:Nat) {d:D} {v:V} (r:Rep Γ ι H d v):aS Γ ι H (σ.set i (some v)) (σd.set i (some d)):=by
 refine ⟨by rw [List.length_set,List.length_set]; exact e.len,fun j d' h=>?_⟩
 by_cases hij:j=i
 ·subst hij
  have hj:j < σd.length:=by
   have:=(List.getElem?_eq_some_iff.mp h).1
   rw [List.length_set] at this; exact this
  rw [List.getElem?_set_self hj] at h
  cases h
  exact ⟨v,by rw [List.getElem?_set_self (by rw [e.len]; exact hj)],r⟩
 ·rw [List.getElem?_set_ne (Ne.symm hij)] at h
  obtain ⟨w,hw,rw'⟩:=e.var j d' h
  exact ⟨w,by rw [List.getElem?_set_ne (Ne.symm hij)]; exact hw,rw'⟩
theorem aS.more {σd:Sg} (e:aS Γ ι H σ σd) (k:Nat):aS Γ ι H (σ++List.replicate k none) (σd++List.replicate k none):=by
 refine ⟨by simp [e.len],fun j d h=>?_⟩
 by_cases hj:j < σd.length
 ·rw [List.getElem?_append_left hj] at h
  obtain ⟨w,hw,r⟩:=e.var j d h
  exact ⟨w,by rw [List.getElem?_append_left (by rw [e.len]; exact hj)]; exact hw,r⟩
 ·rw [List.getElem?_append_right (by omega),List.getElem?_replicate] at h
  split at h <;> cases h
theorem CN:MtR X "list.append" (fun x xs H Q=>∃ ι S dx ds,aq Γ ι H S/\Rep Γ ι H dx x/\au Γ ι H ds xs/\Out Γ xw ι H (meD .append dx ds S) fun d _ ι' H'=>∀ v,Rep Γ ι' H' d v->Q v H'):=by
 intro pins s σ H x xs v us Q I rx rs h
 obtain ⟨ι,S,dx,ds,hS,r1,r2,ho⟩:=h
 match ds,r2 with
 | [],_=>exact ho.elim
 | _::_::_,_=>exact ho.elim
 | [d],.cons (b:=y) rd .nil =>
  cases dx with
  | loc l =>
   obtain ⟨es,e,ho⟩:=Out.bK ho
   obtain ⟨hz,ho⟩:=Out.guard ho
   obtain ⟨a,ws,ha,hx,p⟩:=hS.lst e
   cases r1 with
   | loc q =>
    rw [ha] at q; cases q
    refine pC pins s σ H _ _ v us Q I rx rs ⟨a,ws,y,rfl,rfl,hx,by rw [<- p.length]; exact mS hz,?_⟩
    exact ho ι _ (Ext.write hx (List.mem_of_getElem? ha)) (hS.write e ha hx (Paired.app p (.cons rd .nil))) _ .non
  | _=>exact ho.elim
theorem CG {o a:Expr} {es:List Expr} {me:Me} {name:Str} {apos cpos:Pos} {id:String} {mo:Sg->M D} {m:Sg->M (List D)} (hK:Γ.K=X.K) (pa:PlainAttrs "list") (slot:Slot "list" name id) (hty:typeOf (.builtin id)=pure (.type "method_descriptor"))
  (hm:MtR X id (fun x xs H Q=>∃ ι S dx ds,aq Γ ι H S/\Rep Γ ι H dx x/\au Γ ι H ds xs/\Out Γ xw ι H (meD me dx ds S) fun d _ ι' H'=>∀ v,Rep Γ ι' H' d v->Q v H')) (ho:PE X o (tM Γ xw mo)) (ha:PA X (a::es) (tMA Γ xw m))
  (hbase:attributeBase o name X.env (eval o X.env)=eval o X.env)
  (hfew:((backTo cpos (starEach (a::es) X.env)).all (fun x=>!x.1)&&(backToKw cpos (keywordEach [] X.env)).all (fun x=>x.1.isSome)&&decide ((a::es).length+([]:List Keyword).length+(if ([]:List Keyword).isEmpty then 0 else 1) < 30))=true)
  (hline:(apos.endLine==cpos.line)=true) (hs:starEach (a::es) X.env=(false,eval a X.env)::starEach es X.env) (hplain:(backTo cpos (starEach es X.env)).any (·.1)=false) :
  PE X (.Call (.Attribute o name apos) (a::es) [] cpos) (tM Γ xw fun σ=>mo σ>>=fun x=>iD x (m σ>>=fun ds=>meD me x ds)) :=
 PE.imp (EM pa slot hty hm ho ha hbase hfew hline hs hplain) fun σ H Q h=>by
  obtain ⟨σd,ι,S,he,hs,ho⟩:=h
  refine ⟨σd,ι,S,he,hs,ho.bind.mono fun d S' ι' H' _ _ ⟨s',e',o'⟩ v r=>?_⟩
  obtain ⟨hl,o'⟩:=Out.guard (b:=d.dw S') o'
  cases d with
  | loc l =>
   have r0:=r
   cases r with
   | loc q =>
    have hlt:l < S'.length:=by rw [<- s'.len]; exact (List.getElem?_eq_some_iff.mp q).1
    obtain ⟨b,hb,c⟩:=s'.cell l S'[l] (List.getElem?_eq_getElem hlt)
    rw [q] at hb; cases hb
    cases e:S'[l] with
    | lst ds =>
     rw [e] at c
     obtain ⟨xs,hx,_⟩:=c
     refine ⟨.inl ⟨rfl,xs,.of hx⟩,σd,ι',S',he.ext e',s',o'.bind.mono fun ds S2 ι2 H2 _ _ ⟨s2,e2,o2⟩ vs rs=>⟨ι2,S2,.loc l,ds,s2,r0.ext e2,rs,o2⟩⟩
    | dct kvs =>
     have:S'[l]?=some (.dct kvs):=by rw [List.getElem?_eq_getElem hlt,e]
     have hl:(match S'[l]? with|some (.lst _)=>true|_=>false)=true:=hl
     rw [this] at hl; cases hl
  | _=>exact absurd hl Bool.false_ne_true
end
end EV

namespace EV
open PySem PySem.Spec PyProof.Rows L2
noncomputable def kE (Γ:Gx) (src:Src) (J:It) (ι0:List Addr) (H0:Hp):Prop:=∀ ι H S,Ext ι0 ι H0 H->aq Γ ι H S->aI src S=.ok () S ->
 (∀ (i:Nat) d,src.its[i]?=some d->J.go i H/\∀ x H',J.yld i H x H'->Ext ι ι H H'/\aq Γ ι H' S/\Rep Γ ι H' d x)/\J.stop src.its.length H
noncomputable def tMI (Γ:Gx) (xw:XW) (m:Sg->M Src):TI:=fun σ H R=>∃ σd ι S,aS Γ ι H σ σd/\aq Γ ι H S/\Out Γ xw ι H (m σd S) fun src _ ι' H'=>∀ J,kE Γ src J ι' H'->R J H'
theorem iU (src:Src) (S:aa):aI src S=.ok () S\/aI src S=.bad:=by
 unfold aI
 cases src.l with
 | none=>exact .inl rfl
 | some l =>
  dsimp only
  cases listAt S l with
  | none=>exact .inr rfl
  | some ds =>
   by_cases h:ds=src.raw
   ·exact .inl (by simp only [h,decide_true]; rfl)
   ·exact .inr (by simp only [h,decide_false]; rfl)
section
variable {X:Cx} {Γ:Gx} {xw:XW} {tg a:Expr} {ma:Sg->M D} {pos:Pos}
theorem PI.imp {iter:Expr} {t t':TI} (h:PI X tg iter t) (f:∀ σ H R,t' σ H R->t σ H R):PI X tg iter t':=fun pins s σ H R I q=>h pins s σ H R I (f σ H R q)
noncomputable def iSq (K:PySem.W.Frag) (tl:TE):TI:=fun σ H R=>tl σ H fun x H1=>∃ a,x=.ref a/\(((∃ xs,SqL K H1 a xs)/\R (Itl K a) H1)\/((∃ xs,SqT K H1 a xs)/\R (Itt K a) H1))
theorem Ey {l:Expr} {tl:TE} (hl:PE X l tl):PI X tg l (iSq X.K tl):=by
 intro pins s σ H R I h
 refine thn (hl pins s σ H _ I h) fun v s1 ⟨x,H1,I1,r1,q1⟩=>?_
 obtain ⟨a,e,q1⟩:=q1
 subst e
 cases r1
 rcases q1 with ⟨⟨xs,hq⟩,q⟩|⟨⟨xs,hq⟩,q⟩
 ·have hc:PE X l (fun σ H Q=>True->True->tl σ H Q):=fun pins s σ H Q I h=>hl pins s σ H Q I (h trivial trivial)
  obtain ⟨its,rv,p,hz⟩:=I1.list hq
  refine wpAny_pyIter_list p.isList ?_
  refine ⟨s1.heap.objs.size,[s1.heap.objs.size],_,_,H1,rfl,I1.kept (t':=s1.toks) fun b o e=>Heap.get?_push_of_some _ e,yG a _,⟨_,Heap.get?_push_size _ rfl,rfl,rfl⟩,fun b hb=>?_,q⟩
  have e:b=s1.heap.objs.size:=by simpa using hb
  subst e
  exact I1.fk (Nat.le_refl _) (I1.hok.fresh (Nat.le_refl _))
 ·obtain ⟨its,rv,p,hz⟩:=I1.tuple hq
  refine wpAny_pyIter_tuple (show s1.heap.IsTuple a its.toArray from p) ?_
  refine ⟨s1.heap.objs.size,[s1.heap.objs.size],_,_,H1,rfl,I1.kept (t':=s1.toks) fun b o e=>Heap.get?_push_of_some _ e,EI a _,⟨_,Heap.get?_push_size _ rfl,rfl,rfl⟩,fun b hb=>?_,q⟩
  have e:b=s1.heap.objs.size:=by simpa using hb
  subst e
  exact I1.fk (Nat.le_refl _) (I1.hok.fresh (Nat.le_refl _))
theorem oR {ι:List Addr} {H:Hp} {S:aa} {d:D} {v:V} {src:Src} {S':aa} (hS:aq Γ ι H S) (r:Rep Γ ι H d v) (h:srcOf d S=.ok src S'):S'=S/\src.its=src.raw/\aI src S=.ok () S/\∃ a tup,v=.ref a/\(∃ xs,SqB Γ.K H tup a xs) /\
  ∀ ι1 H1 S1,Ext ι ι1 H H1->aq Γ ι1 H1 S1->aI src S1=.ok () S1->∃ xs,SqB Γ.K H1 tup a xs/\au Γ ι1 H1 src.raw xs:=by
 cases d with
 | tup ds =>
  cases h
  obtain ⟨a,xs,e,t,p⟩:=r.bA
  exact ⟨rfl,rfl,rfl,a,true,e,⟨xs,t⟩,fun ι1 H1 S1 e1 _ _=>⟨xs,e1.sqT t,au.ext e1 p⟩⟩
 | fro ds =>
  cases h
  obtain ⟨a,xs,e,t,p⟩:=r.e_
  exact ⟨rfl,rfl,rfl,a,false,e,⟨xs,t.sq⟩,fun ι1 H1 S1 e1 _ _=>⟨xs,(e1.fro t).sq,au.ext e1 p⟩⟩
 | loc l =>
  have h:(items (.loc l)>>=fun ds=>pure (⟨ds,some l,ds⟩:Src)) S=.ok src S':=h
  rcases gB (.loc l) S with ⟨ds,e⟩|e
  ·rw [aj e] at h
   cases h
   obtain ⟨_,a,xs,e2,_,p,t⟩:=bS hS r e
   subst e2
   have hl:listAt S l=some ds:=by
    rw [rz] at e
    cases q:listAt S l with
    | none=>rw [q] at e; cases e
    | some es=>rw [q] at e; cases e; rfl
   refine ⟨rfl,rfl,?_,a,false,rfl,⟨xs,t l rfl⟩,fun ι1 H1 S1 e1 s1 st=>?_⟩
   ·unfold aI; simp only [hl,decide_true]; rfl
   ·have hl1:listAt S1 l=some ds:=by
     unfold aI at st
     dsimp only at st
     cases q:listAt S1 l with
     | none=>rw [q] at st; cases st
     | some es =>
      rw [q] at st
      by_cases h:es=ds
      ·rw [h]
      ·simp only [h,decide_false] at st; cases st
    obtain ⟨b,ys,e3,sb,p1⟩:=s1.list (r.ext e1) (show asL S1 (.loc l)=some ds from hl1)
    cases e3
    exact ⟨ys,sb,p1⟩
  ·rw [aV e] at h; cases h
 | _=>cases h
theorem pU (d:D) (S:aa):(∃ src,srcOf d S=.ok src S)\/srcOf d S=.bad:=by
 cases d with
 | tup ds=>exact .inl ⟨_,rfl⟩
 | fro ds=>exact .inl ⟨_,rfl⟩
 | loc l =>
  show (∃ src,(items (.loc l)>>=fun ds=>pure (⟨ds,some l,ds⟩:Src)) S=.ok src S)\/(items (.loc l)>>=fun ds=>pure (⟨ds,some l,ds⟩:Src)) S=.bad
  rcases gB (.loc l) S with ⟨ds,e⟩|e
  ·rw [aj e]; exact .inl ⟨_,rfl⟩
  ·rw [aV e]; exact .inr rfl
 | _=>exact .inr rfl
theorem vY (hK:Γ.K=X.K) (ha:PE X a (tM Γ xw ma)):PI X tg a (tMI Γ xw fun σ=>ma σ>>=srcOf) :=
 PI.imp (Ey ha) fun σ H R h=>by
  obtain ⟨σd,ι,S,he,hs,ho⟩:=h
  refine ⟨σd,ι,S,he,hs,ho.bind.mono fun d S' ι' H' _ _ ⟨s',e',o'⟩ v r=>?_⟩
  rcases pU d S' with ⟨src,q⟩|q
  ·rw [q] at o'
   obtain ⟨_,e1,st,a,tup,rfl,⟨xs,sq⟩,hall⟩:=oR s' r q
   refine ⟨a,rfl,?_⟩
   have fin:=o'.here s'
   cases tup with
   | true =>
    refine .inr ⟨⟨xs,by rw [<- hK]; exact sq⟩,fin _ fun ι1 H1 S1 e2 s1 st1=>?_⟩
    obtain ⟨ys,sq1,p1⟩:=hall ι1 H1 S1 e2 s1 st1
    have sq1:SqT X.K H1 a ys:=by rw [<- hK]; exact sq1
    rw [e1]
    refine ⟨fun i d hd=>?_,ys,sq1,by rw [p1.length]; exact Nat.le_refl _⟩
    obtain ⟨y,hy,r1⟩:=Paired.get p1 hd
    exact ⟨⟨ys,y,sq1,hy⟩,fun x H' ⟨e3,hx⟩=>by
     subst e3
     have:=hx ys sq1
     rw [hy] at this; cases this
     exact ⟨.refl,s1,r1⟩⟩
   | false =>
    refine .inl ⟨⟨xs,by rw [<- hK]; exact sq⟩,fin _ fun ι1 H1 S1 e2 s1 st1=>?_⟩
    obtain ⟨ys,sq1,p1⟩:=hall ι1 H1 S1 e2 s1 st1
    have sq1:SqL X.K H1 a ys:=by rw [<- hK]; exact sq1
    rw [e1]
    refine ⟨fun i d hd=>?_,ys,sq1,by rw [p1.length]; exact Nat.le_refl _⟩
    obtain ⟨y,hy,r1⟩:=Paired.get p1 hd
    exact ⟨⟨ys,y,sq1,hy⟩,fun x H' ⟨e3,hx⟩=>by
     subst e3
     have:=hx ys sq1
     rw [hy] at this; cases this
     exact ⟨.refl,s1,r1⟩⟩
  ·rw [q] at o'; exact o'.elim
theorem sd:∀ {ds:List D} {k i:Nat} {d:D},(num k ds)[i]?=some d->∃ e,ds[i]?=some e/\d=.tup [.int ((k+i:Nat):Int),e]
 | [],k,i,d,h=>by simp [num] at h
 | x::r,k,0,d,h=>by simp [num] at h; exact ⟨x,rfl,by rw [<- h]; simp⟩
 | x::r,k,i+1,d,h=>by
  have h:(num (k+1) r)[i]?=some d:=by simpa [num] using h
  obtain ⟨e,h1,h2⟩:=sd h
  exact ⟨e,by simpa using h1,by rw [h2]; congr 3; omega⟩
theorem qu:∀ (ds:List D) (k:Nat),(num k ds).length=ds.length
 | [],_=>rfl
 | _::r,k=>by simp [num,qu r]
theorem Ac {p:Pos} {elts:List Expr} {k1:Nat} {tp:Pos} (hK:Γ.K=X.K) (hg:Gl X "enumerate") (hm:X.mg "enumerate" = none) (hv:bootBuiltins "enumerate" = some (.type "enumerate")) (ha:PE X a (tM Γ xw ma)) (hs:starEach [a] X.env=[(false,eval a X.env)]) :
  PI X (.Tuple elts k1 tp) (.Call (.Name "enumerate" p) [a] [] pos) (tMI Γ xw fun σ=>ma σ>>=fun d=>srcOf d>>=fun s=>pure { s with its:=num 0 s.its }) :=
 PI.imp (vc hg hm hv (gW ha iR (by rw [hs]; rfl)) hs) fun σ H R h=>by
  obtain ⟨σd,ι,S,he,hs,ho⟩:=h
  refine ⟨σd,ι,S,he,hs,ho.bind.mono fun d S' ι' H' _ _ ⟨s',e',o'⟩ v r=>?_⟩
  rcases pU d S' with ⟨src,q⟩|q
  ·rw [aj q] at o'
   obtain ⟨_,e1,st,a,tup,rfl,⟨xs,sq⟩,hall⟩:=oR s' r q
   have fin:=o'.here s'
   refine ⟨tup,a,rfl,⟨xs,by rw [<- hK]; exact sq⟩,fin _ fun ι1 H1 S1 e2 s1 st1=>?_⟩
   obtain ⟨ys,sq1,p1⟩:=hall ι1 H1 S1 e2 s1 st1
   have sq1:SqB X.K H1 tup a ys:=by rw [<- hK]; exact sq1
   refine ⟨fun i d hd=>?_,ys,sq1,by show ys.length<=(num 0 src.its).length; rw [qu,e1,p1.length]; exact Nat.le_refl _⟩
   obtain ⟨e,he',rfl⟩:=sd hd
   rw [e1] at he'
   obtain ⟨y,hy,r1⟩:=Paired.get p1 he'
   refine ⟨⟨ys,y,sq1,hy⟩,?_⟩
   rintro x H' ⟨z,p,hz,hp,rfl,rfl⟩
   have hz:=hz ys sq1
   rw [hy] at hz; cases hz
   refine ⟨Ext.laid hp,s1.laid hp _,.fC (.of bU) (.cons ?_ (.cons (r1.ext (Ext.laid hp)) .nil))⟩
   rw [Nat.zero_add]; exact .int _
  ·rw [aV q] at o'; exact o'.elim
theorem lF (lo hi:Int):rng lo hi 1=(List.range (hi - lo).toNat).map fun (k:Nat)=>lo+k:=by
 unfold rng
 rw [if_pos (by decide)]
 have:(hi - lo+1 - 1) / 1=hi - lo:=by rw [Int.ediv_one]; omega
 rw [this]
 simp
theorem Dc (lo hi:Int):rng lo hi (-1)=(List.range (lo - hi).toNat).map fun (k:Nat)=>lo - k:=by
 unfold rng
 rw [if_neg (by decide),if_pos (by decide)]
 have:(lo - hi - -1 - 1) / -(-1)=lo - hi:=by rw [show (-(-1):Int)=1 from rfl,Int.ediv_one]; omega
 rw [this]
 refine List.map_congr_left fun k _=>?_
 omega
theorem qk {n i k:Nat} (h:(List.range n)[i]?=some k):k=i/\i < n:=by
 obtain ⟨h1,h2⟩:=List.getElem?_eq_some_iff.mp h
 rw [List.getElem_range] at h2
 rw [List.length_range] at h1
 exact ⟨h2.symm,h1⟩
theorem pV {ι:List Addr} {H:Hp} (lo hi:Int):kE Γ ⟨(rng lo hi 1).map .int,none,[]⟩ (Itr lo (hi - lo).toNat) ι H:=fun ι1 H1 S1 e s1 st=>by
 rw [lF,List.map_map]
 refine ⟨fun i d hd=>?_,by show (hi - lo).toNat<=_; simp⟩
 have hd:((List.range (hi - lo).toNat).map (D.int ∘ fun (k:Nat)=>lo+k))[i]?=some d:=hd
 rw [List.getElem?_map,Option.map_eq_some_iff] at hd
 obtain ⟨k,hk,rfl⟩:=hd
 obtain ⟨rfl,hlt⟩:=qk hk
 exact ⟨hlt,fun x H' ⟨e1,e2⟩=>by subst e1; subst e2; exact ⟨.refl,s1,.int _⟩⟩
theorem En {ι:List Addr} {H:Hp} (lo hi:Int):kE Γ ⟨(rng lo hi (-1)).map .int,none,[]⟩ (lP lo (lo - hi).toNat) ι H:=fun ι1 H1 S1 e s1 st=>by
 rw [Dc,List.map_map]
 refine ⟨fun i d hd=>?_,by show (lo - hi).toNat<=_; simp⟩
 have hd:((List.range (lo - hi).toNat).map (D.int ∘ fun (k:Nat)=>lo - k))[i]?=some d:=hd
 rw [List.getElem?_map,Option.map_eq_some_iff] at hd
 obtain ⟨k,hk,rfl⟩:=hd
 obtain ⟨rfl,hlt⟩:=qk hk
 exact ⟨hlt,fun x H' ⟨e1,e2⟩=>by subst e1; subst e2; exact ⟨.refl,s1,.int _⟩⟩
theorem eL {i:Int} (h:near i=true):-(2 ^ 62)<=i/\i < 2 ^ 62:=of_decide_eq_true h
variable {b c:Expr} {m:Sg->M (List D)} {p:Pos}
theorem Out.monoE {α:Type} {r:Res α} {ι:List Addr} {H:Hp} {k k':α->aa->List Addr->Hp->Prop} (h:Out Γ xw ι H r k) (f:∀ a S' ι' H',r=.ok a S'->Ext ι ι' H H'->aq Γ ι' H' S'->k a S' ι' H'->k' a S' ι' H'):Out Γ xw ι H r k':=by
 cases r with
 | ok a S'=>exact fun ι' H' e' s'=>f _ _ _ _ rfl e' s' (h ι' H' e' s')
 | exc c S'=>exact h
 | bad=>exact h
theorem uS (hg:Gl X "range") (hm:X.mg "range" = none) (ha:PA X [a] (tMA Γ xw m)) (hs:starEach [a] X.env=[(false,eval a X.env)]) (hlen:∀ σ S ds S',m σ S=.ok ds S'->ds.length=1) :
  PI X tg (.Call (.Name "range" p) [a] [] pos) (tMI Γ xw fun σ=>m σ>>=fun ds=>opt (bN ds)>>=fun is=>pure ⟨is.map .int,none,[]⟩) :=
 PI.imp (Dv hg hm ha hs) fun σ H R h=>by
  obtain ⟨σd,ι,S,he,hs,ho⟩:=h
  refine ⟨σd,ι,S,he,hs,Out.monoE ho.bind fun ds S' ι' H' eq _ _ ⟨s',e',o'⟩ vs rs=>?_⟩
  have hl:=hlen _ _ _ _ eq
  obtain ⟨is,q,o'⟩:=Out.opt o'
  have fin:=o'.here s'
  obtain ⟨d,_,_,_,rfl,rfl,r,rs,hl⟩:=Paired.step rs hl
  obtain ⟨rfl,rfl⟩:=Paired.last rs hl
  (
   cases r with
   | int j =>
    simp only [bN] at q
    split at q
    ·rename_i hn
     cases q
     have hn:=eL hn
     refine ⟨j,rfl,hn.1,hn.2,fin _ ?_⟩
     have:=pV (Γ:=Γ) (ι:=ι') (H:=H') 0 j
     rw [Int.sub_zero] at this
     exact this
    ·cases q
   | _=>cases q)
theorem vC (hg:Gl X "range") (hm:X.mg "range" = none) (ha:PA X [a,b] (tMA Γ xw m)) (hs:starEach [a,b] X.env=[(false,eval a X.env),(false,eval b X.env)]) (hs2:starEach [b] X.env=[(false,eval b X.env)]) (hlen:∀ σ S ds S',m σ S=.ok ds S'->ds.length=2) :
  PI X tg (.Call (.Name "range" p) [a,b] [] pos) (tMI Γ xw fun σ=>m σ>>=fun ds=>opt (bN ds)>>=fun is=>pure ⟨is.map .int,none,[]⟩) :=
 PI.imp (EO hg hm ha hs hs2) fun σ H R h=>by
  obtain ⟨σd,ι,S,he,hs,ho⟩:=h
  refine ⟨σd,ι,S,he,hs,Out.monoE ho.bind fun ds S' ι' H' eq _ _ ⟨s',e',o'⟩ vs rs=>?_⟩
  have hl:=hlen _ _ _ _ eq
  obtain ⟨is,q,o'⟩:=Out.opt o'
  have fin:=o'.here s'
  obtain ⟨d,_,_,_,rfl,rfl,r,rs,hl⟩:=Paired.step rs hl
  obtain ⟨e,_,_,_,rfl,rfl,r2,rs,hl⟩:=Paired.step rs hl
  obtain ⟨rfl,rfl⟩:=Paired.last rs hl
  (
   cases r with
   | int i =>
    cases r2 with
    | int j =>
     simp only [bN] at q
     split at q
     ·rename_i hn
      cases q
      rw [Bool.and_eq_true] at hn
      have h1:=eL hn.1
      have h2:=eL hn.2
      exact ⟨i,j,rfl,⟨h1.1,h1.2,h2.1,h2.2⟩,fin _ (pV i j)⟩
     ·cases q
    | _=>cases q
   | _=>cases q)
theorem zj (hg:Gl X "range") (hm:X.mg "range" = none) (ha:PA X [a,b,c] (tMA Γ xw m)) (hs:starEach [a,b,c] X.env=[(false,eval a X.env),(false,eval b X.env),(false,eval c X.env)]) (hs2:starEach [b,c] X.env=[(false,eval b X.env),(false,eval c X.env)]) (hlen:∀ σ S ds S',m σ S=.ok ds S'->ds.length=3) :
  PI X tg (.Call (.Name "range" p) [a,b,c] [] pos) (tMI Γ xw fun σ=>m σ>>=fun ds=>opt (bN ds)>>=fun is=>pure ⟨is.map .int,none,[]⟩) :=
 PI.imp (xr hg hm ha hs hs2) fun σ H R h=>by
  obtain ⟨σd,ι,S,he,hs,ho⟩:=h
  refine ⟨σd,ι,S,he,hs,Out.monoE ho.bind fun ds S' ι' H' eq _ _ ⟨s',e',o'⟩ vs rs=>?_⟩
  have hl:=hlen _ _ _ _ eq
  obtain ⟨is,q,o'⟩:=Out.opt o'
  have fin:=o'.here s'
  obtain ⟨d,_,_,_,rfl,rfl,r,rs,hl⟩:=Paired.step rs hl
  obtain ⟨e,_,_,_,rfl,rfl,r2,rs,hl⟩:=Paired.step rs hl
  obtain ⟨f,_,_,_,rfl,rfl,r3,rs,hl⟩:=Paired.step rs hl
  obtain ⟨rfl,rfl⟩:=Paired.last rs hl
  (
   cases r with
   | int i =>
    cases r2 with
    | int j =>
     cases r3 with
     | int k =>
      simp only [bN] at q
      split at q
      ·rename_i hn
       cases q
       rw [Bool.and_eq_true,Bool.and_eq_true] at hn
       have h1:=eL hn.1.1
       have h2:=eL hn.1.2
       have h3:k=-1:=of_decide_eq_true hn.2
       subst h3
       exact ⟨i,j,rfl,⟨h1.1,h1.2,h2.1,h2.2⟩,fin _ (En i j)⟩
      ·cases q
     | _=>cases q
    | _=>cases q
   | _=>cases q)
noncomputable def tMG (Γ:Gx) (t:Tg):TG:=fun v σ H Q=>∃ σd ι S d σd',aS Γ ι H σ σd/\aq Γ ι H S/\Rep Γ ι H d v/\aO t d σd S=.ok σd' S/\∀ σ',aS Γ ι H σ' σd'->(∀ j,t.has j=false->σ'[j]?=σ[j]?)->Q σ' H
theorem PG.imp {target:Expr} {t t':TG} (h:PG X target t) (f:∀ v σ H Q,t' v σ H Q->t v σ H Q):PG X target t':=fun pins s σ H v u Q I r q=>h pins s σ H v u Q I r (f v σ H Q q)
theorem Cg {i:Nat} {x:Str} (hN:X.N.Nodup) (hi:X.N[i]?=some x) (hx:Loc X.env.scope x) (hf:X.fn x=true\/X.env.scope.names.lookup x=some .local):PG X (.Name x pos) (tMG Γ (.one i)) :=
 PG.imp (qZ hN hi hx hf) fun v σ H Q h=>by
  obtain ⟨σd,ι,S,d,σd',he,hs,r,hb,q⟩:=h
  cases hb
  exact q _ (he.set i r) fun j hj=>by rw [List.getElem?_set_ne (by intro z; subst z; simp [Tg.has] at hj)]
noncomputable def lK:List Nat->TGs
 | []=>pG
 | i::r=>rR (g_ i) (lK r)
noncomputable def iI (X:Cx):List Expr->List Nat->Prop:=Paired fun e i=>∃ x p,e=.Name x p/\X.N[i]?=some x/\Loc X.env.scope x/\(X.fn x=true\/X.env.scope.names.lookup x=some .local)
theorem oq (hN:X.N.Nodup):∀ {es:List Expr} {is:List Nat},iI X es is->PGs X es (lK is)
 | _,_,.nil=>zE
 | _,_,.cons ⟨x,p,e,h1,h2,h3⟩ r=>by
  subst e
  exact zm (qZ hN h1 h2 h3) (oq hN r) rfl
theorem lE:∀ {es:List Expr} {is:List Nat},iI X es is->(assignEach es X.env).length=is.length/\(assignEach es X.env).findIdx? (·.1)=none
 | _,_,.nil=>⟨rfl,rfl⟩
 | _,_,.cons ⟨x,p,e,h1,h2,h3⟩ r=>by
  subst e
  obtain ⟨a,b⟩:=lE r
  refine ⟨congrArg (· + 1) a,?_⟩
  show List.findIdx? (·.1) ((false,_)::assignEach _ X.env)=none
  rw [List.findIdx?_cons]
  simp only [Bool.false_eq_true,if_false]
  rw [b]; rfl
theorem nL {ι:List Addr} {H:Hp} {Q:L2.St->Hp->Prop}:∀ {is:List Nat} {ds:List D} {xs:List V} {σ:L2.St} {σd:Sg},ds.length=is.length->au Γ ι H ds xs->aS Γ ι H σ σd->(∀ σ',aS Γ ι H σ' (bV is ds σd)->(∀ j,is.contains j=false->σ'[j]?=σ[j]?)->Q σ' H)->lK is xs σ H Q
 | [],[],_,σ,σd,_,.nil,he,q=>⟨rfl,q _ he fun _ _=>rfl⟩
 | i::is,d::ds,_,σ,σd,hl,.cons (b:=v) r rr,he,q=>⟨v,_,rfl,nL (by simpa using hl) rr (he.set i r) fun σ' h' hl'=>q σ' h' fun j hj=>by
   rw [List.contains_cons,Bool.or_eq_false_iff] at hj
   rw [hl' j hj.2,List.getElem?_set_ne (by intro z; subst z; simp at hj)]⟩
 | [],_::_,_,_,_,hl,_,_,_=>by simp at hl
 | _::_,[],_,_,_,hl,_,_,_=>by simp at hl
theorem z6 {es:List Expr} {is:List Nat} {k:Nat} (hK:Γ.K=X.K) (hc:X.calm=true) (hN:X.N.Nodup) (hn:iI X es is):PG X (.Tuple es k pos) (tMG Γ (.many is)) :=
 PG.imp (Ay hc (oq hN hn) (lE hn).1 (lE hn).2) fun v σ H Q h=>by
  obtain ⟨σd,ι,S,d,σd',he,hs,r,hb,q⟩:=h
  cases d with
  | tup ds =>
   obtain ⟨a,xs,rfl,t,p⟩:=r.bA
   have hb:guard (decide (ds.length=is.length)) (pure (bV is ds σd):M Sg) S=.ok σd' S:=hb
   by_cases hl:ds.length=is.length
   ·rw [show decide (ds.length=is.length)=true from decide_eq_true hl] at hb
    cases hb
    exact ⟨a,xs,rfl,by rw [<- hK]; exact t,by rw [<- p.length]; exact hl,nL hl p he q⟩
   ·rw [show decide (ds.length=is.length)=false from decide_eq_false hl] at hb
    cases hb
  | _=>cases hb
theorem ly (t:Tg) (d:D) (σ:Sg) (S:aa):(∃ σ',aO t d σ S=.ok σ' S/\σ'.length=σ.length)\/aO t d σ S=.bad:=by
 have hlen:∀ (is:List Nat) (ds:List D) (σ:Sg),(bV is ds σ).length=σ.length:=by
  intro is
  induction is with
  | nil=>intro ds σ; cases ds <;> rfl
  | cons i r ih=>intro ds σ; cases ds with
   | nil=>rfl
   | cons d ds=>show (bV r ds (σ.set i (some d))).length=_; rw [ih,List.length_set]
 cases t with
 | one i=>exact .inl ⟨_,rfl,by rw [List.length_set]⟩
 | many is =>
  cases d with
  | tup ds =>
   show (∃ σ',guard (decide (ds.length=is.length)) (pure (bV is ds σ):M Sg) S=.ok σ' S/\_)\/guard (decide (ds.length=is.length)) (pure (bV is ds σ):M Sg) S=.bad
   by_cases hl:ds.length=is.length
   ·rw [show decide (ds.length=is.length)=true from decide_eq_true hl]
    exact .inl ⟨_,rfl,hlen _ _ _⟩
   ·rw [show decide (ds.length=is.length)=false from decide_eq_false hl]
    exact .inr rfl
  | _=>exact .inr rfl
theorem Out.aO {α:Type} {t:Tg} {d:D} {σd:Sg} {ι:List Addr} {H:Hp} {S:aa} {f:Sg->M α} {k:α->aa->List Addr->Hp->Prop} (ho:Out Γ xw ι H ((EV.aO t d σd>>=f) S) k):∃ σd',EV.aO t d σd S=.ok σd' S/\σd'.length=σd.length/\Out Γ xw ι H (f σd' S) k:=by
 rcases ly t d σd S with ⟨σ',e,l⟩|e
 ·rw [aj e] at ho; exact ⟨σ',e,l,ho⟩
 ·rw [aV e] at ho; exact ho.elim
end
end EV

namespace EV
open PySem PySem.Spec PyProof.Rows L2
theorem rO:∀ {xs ys:List D} {i:Nat} {d:D},(cC xs ys)[i]?=some d->∃ x y,xs[i]?=some x/\ys[i]?=some y/\d=.tup [x,y]
 | [],_,i,d,h=>by simp [cC] at h
 | _::_,[],i,d,h=>by simp [cC] at h
 | x::r,y::q,0,d,h=>by simp [cC] at h; exact ⟨x,y,rfl,rfl,h.symm⟩
 | x::r,y::q,i+1,d,h=>by
  have h:(cC r q)[i]?=some d:=by simpa [cC] using h
  obtain ⟨a,b,h1,h2,h3⟩:=rO h
  exact ⟨a,b,by simpa using h1,by simpa using h2,h3⟩
theorem nj:∀ (xs ys:List D),xs.length<=(cC xs ys).length\/ys.length<=(cC xs ys).length
 | [],_=>.inl (Nat.zero_le _)
 | _::_,[]=>.inr (Nat.zero_le _)
 | x::r,y::q=>(nj r q).imp (fun h=>Nat.succ_le_succ h) fun h=>Nat.succ_le_succ h
theorem ye (ds:List D) (S:aa):(∃ xs ys,ds=[.tup xs,.tup ys])\/iE ds S=.bad:=by
 unfold iE
 split
 ·exact .inl ⟨_,_,rfl⟩
 ·exact .inr rfl
theorem D7 {Γ:Gx} {ι:List Addr} {H:Hp} {x y:D} {vs:List V} (r:au Γ ι H [x,y] vs):∃ v1 v2,vs=[v1,v2]/\Rep Γ ι H x v1/\Rep Γ ι H y v2:=by
 cases r with
 | cons r1 r =>
  cases r with
  | cons r2 r=>cases r; exact ⟨_,_,rfl,r1,r2⟩
section
variable {X:Cx} {Γ:Gx} {xw:XW} {a b:Expr} {m:Sg->M (List D)} {pos:Pos}
theorem t_ {p:Pos} {elts:List Expr} {k1:Nat} {tp:Pos} (hK:Γ.K=X.K) (hg:Gl X "zip") (hm:X.mg "zip" = none) (ha:PA X [a,b] (tMA Γ xw m)) (hs:starEach [a,b] X.env=(false,eval a X.env)::starEach [b] X.env) (hpl:(backTo pos (starEach [b] X.env)).any (·.1)=false) :
  PI X (.Tuple elts k1 tp) (.Call (.Name "zip" p) [a,b] [] pos) (tMI Γ xw fun σ=>m σ>>=fun ds=>iE ds) :=
 PI.imp (uZ hg hm boot_zip ha hs hpl) fun σ H R h=>by
  obtain ⟨σd,ι,S,he,hs,ho⟩:=h
  refine ⟨σd,ι,S,he,hs,ho.bind.mono fun ds S' ι' H' _ _ ⟨s',e',o'⟩ vs r=>?_⟩
  rcases ye ds S' with ⟨xs,ys,rfl⟩|q
  ·obtain ⟨v1,v2,rfl,r1,r2⟩:=D7 r
   obtain ⟨a,us,rfl,sq1,p1⟩:=r1.bA
   obtain ⟨b,ws,rfl,sq2,p2⟩:=r2.bA
   have fin:=o'.here s'
   refine ⟨true,true,a,b,rfl,⟨us,by rw [<- hK]; exact sq1⟩,⟨ws,by rw [<- hK]; exact sq2⟩,fin _ fun ι1 H1 S1 e2 s1 st1=>?_⟩
   obtain ⟨a',us',e3,sq3,p3⟩:=(r1.ext e2).bA
   cases e3
   obtain ⟨b',ws',e4,sq4,p4⟩:=(r2.ext e2).bA
   cases e4
   have q3:SqB X.K H1 true a us':=by rw [<- hK]; exact sq3
   have q4:SqB X.K H1 true b ws':=by rw [<- hK]; exact sq4
   refine ⟨fun i d hd=>?_,us',ws',q3,q4,?_⟩
   ·obtain ⟨x,y,hx,hy,rfl⟩:=rO hd
    obtain ⟨x',hx',rx⟩:=Paired.get p3 hx
    obtain ⟨y',hy',ry⟩:=Paired.get p4 hy
    refine ⟨⟨us',ws',x',y',q3,q4,hx',hy'⟩,?_⟩
    rintro z H' ⟨u,v,p,h1,h2,hp,rfl,rfl⟩
    have h1:=h1 us' q3
    have h2:=h2 ws' q4
    rw [hx'] at h1; cases h1
    rw [hy'] at h2; cases h2
    exact ⟨Ext.laid hp,s1.laid hp _,.fC (.of bU) (.cons (rx.ext (Ext.laid hp)) (.cons (ry.ext (Ext.laid hp)) .nil))⟩
   ·show us'.length<=(cC xs ys).length\/ws'.length<=(cC xs ys).length
    rw [<- p3.length,<- p4.length]
    exact nj xs ys
  ·rw [q] at o'; exact o'.elim
end
end EV

namespace EV
open PySem PySem.Spec PyProof.Rows L2
noncomputable def XF:XW:=fun _ _ _ _=>False
section
variable {Γ:Gx} {xw:XW} {ι ι':List Addr} {H H':Hp} {S:aa} {σ:L2.St}
theorem aq.take (hS:aq Γ ι H S) {l:Addr} {xs:List V} {ds:List D} (hn:l ∉ ι) (h:H l=some (.lst xs)) (r:au Γ ι H ds xs):aq Γ (ι++[l]) H (S++[.lst ds]):=by
 have mv:∀ {d:D} {v:V},Rep Γ ι H d v->Rep Γ (ι++[l]) H d v:=fun r=>r.move (List.prefix_append _ _) (fun _ _ e=>e) fun _ _ _ e=>e
 refine ⟨by simp [hS.len],List.nodup_append.mpr ⟨hS.nd,by simp,?_⟩,fun m c hm=>?_⟩
 ·intro a ha b hb
  have:b=l:=by simpa using hb
  subst this
  exact fun z=>hn (z ▸ ha)
 ·by_cases hl:m < S.length
  ·rw [List.getElem?_append_left hl] at hm
   obtain ⟨a,ha,c1⟩:=hS.cell m c hm
   refine ⟨a,eV (List.prefix_append _ _) ha,?_⟩
   cases c with
   | lst zs=>obtain ⟨ws,hw,rw'⟩:=c1; exact ⟨ws,hw,Paired.imp (fun _ _ r=>mv r) rw'⟩
   | dct kvs=>obtain ⟨ws,hw,rw'⟩:=c1; exact ⟨ws,hw,Paired.imp (fun _ _ q=>⟨q.1,mv q.2⟩) rw'⟩
  ·rw [List.getElem?_append_right (by omega)] at hm
   have hl2:m - S.length=0:=by
    have:=(List.getElem?_eq_some_iff.mp hm).1
    simp at this; omega
   rw [hl2] at hm
   have h':(Cell.lst ds)=c:=by simpa using hm
   subst h'
   have e1:m=ι.length:=by rw [hS.len]; omega
   subst e1
   exact ⟨l,by simp,xs,h,Paired.imp (fun _ _ r=>mv r) r⟩
theorem Ext.past (e:Ext ι ι' H H') {l:Addr} {ys:List V} (hl:H l=none):Ext ι ι' H (upd H' l (.lst ys)) :=
 ⟨e.pre,fun a xs h=>by rw [aB (aT h hl)]; exact e.tup a xs h,fun a o u h=>by rw [aB (aT h hl)]; exact e.frz a o u h,fun a o h n=>by rw [aB (aT h hl)]; exact e.oth a o h n,e.fresh⟩
theorem Ext.dI (e:Ext ι ι' H H') {l:Addr} {o:HO} (h:H l=some o) (hn:l ∉ ι):H' l=some o/\l ∉ ι':=⟨e.oth l o h hn,fun m=>by have:=e.fresh l m hn; rw [h] at this; cases this⟩
theorem wI {src:Src} {f:D->M (Option D)} {post:List D} {S2:aa} (h:bw src f [] S=.ok post S2):aI src S=.ok () S/\post=[]/\S2=S:=by
 have h:(aI src>>=fun _=>pure []) S=.ok post S2:=h
 rcases iU src S with e|e
 ·rw [aj e] at h; cases h; exact ⟨e,rfl,rfl⟩
 ·rw [aV e] at h; cases h
theorem uL {src:Src} {f:D->M (Option D)} {d:D} {rest post:List D} {S2:aa} (h:bw src f (d::rest) S=.ok post S2) :
  aI src S=.ok () S/\∃ y S3 post',f d S=.ok y S3/\bw src f rest S3=.ok post' S2/\post=(match y with|some y=>y::post'|none=>post'):=by
 have h:(aI src>>=fun _=>f d>>=fun y=>bw src f rest>>=fun ys=>pure (match y with|some y=>y::ys|none=>ys)) S=.ok post S2:=h
 rcases iU src S with e|e
 ·rw [aj e] at h
  cases q:f d S with
  | bad=>rw [aV q] at h; cases h
  | exc c S3=>rw [cN q] at h; cases h
  | ok y S3 =>
   rw [aj q] at h
   cases q2:bw src f rest S3 with
   | bad=>rw [aV q2] at h; cases h
   | exc c S4=>rw [cN q2] at h; cases h
   | ok ys S4=>rw [aj q2] at h; cases h; exact ⟨e,y,S3,ys,rfl,q2,rfl⟩
 ·rw [aV e] at h; cases h
end
section
variable {X:Cx} {Γ:Gx} {xw:XW} {scope:Scope} {N':List Str} {k:Nat} {elt iter tg:Expr} {ifs:List Expr} {pos:Pos} {mi:Sg->M Src} {t:Tg} {nt:Sg->M Bool} {me:Sg->M D}
noncomputable def iF (k:Nat) (mi:Sg->M Src) (t:Tg) (nt:Sg->M Bool) (me:Sg->M D):Sg->M D:=fun σ=>mi σ>>=fun s =>
 quiet (bw s (fun d=>aO t d (σ++List.replicate k none)>>=fun σ'=>nt σ'>>=fun b=>if b=true then me σ'>>=fun y=>pure (some y) else pure none) s.its)>>=fun ys=>guard (fits ys.length) (alloc (.lst ys))
theorem qf (hslot:∀ j,j < X.N.length->t.has j=false) {σ:L2.St} (hσ:σ.length=X.N.length) {H:Hp} {Q:VK} (h:tM Γ xw (iF k mi t nt me) σ H Q):jB k (tMI Γ xw mi) (tMG Γ t) (tMT Γ XF nt) (tM Γ XF me) σ H Q:=by
 obtain ⟨σd,ι,S,hE,hS,ho⟩:=h
 refine ⟨σd,ι,S,hE,hS,ho.bind.mono fun src S1 ι1 H1 _ _ ⟨s1,e1,o1⟩ J hJ l hl=>?_⟩
 generalize hf:(fun d=>aO t d (σd++List.replicate k none)>>=fun σ'=>nt σ'>>=fun b=>if b=true then me σ'>>=fun y=>pure (some y) else pure none)=f at o1
 cases q:bw src f src.its S1 with
 | bad=>rw [aV (show quiet (bw src f src.its) S1=.bad by unfold quiet; rw [q])] at o1; exact o1.elim
 | exc c S2=>rw [aV (show quiet (bw src f src.its) S1=.bad by unfold quiet; rw [q])] at o1; exact o1.elim
 | ok ys S2 =>
  rw [aj (show quiet (bw src f src.its) S1=.ok ys S2 by unfold quiet; rw [q])] at o1
  obtain ⟨hz,o1⟩:=Out.guard o1
  have hz:=dD hz
  refine ⟨fun i m H=>∃ ι' S' pre post xs,i<=src.its.length/\m=src.its.length - i/\Ext ι1 ι' H1 H/\aq Γ ι' H S'/\l ∉ ι'/\H l=some (.lst xs)/\au Γ ι' H pre xs/\bw src f (src.its.drop i) S'=.ok post S2/\ys=pre++post/\aS Γ ι' H σ σd,
   ⟨src.its.length,ι1,S1,[],ys,[],Nat.zero_le _,rfl,Ext.laid hl,s1.laid hl _,s1.new hl,bU,.nil,q,rfl,(hE.ext e1).ext (Ext.laid hl)⟩,?_⟩
  rintro i m H ⟨ι',S',pre,post,xs,hi,rfl,eH,sH,ln,hH,rp,hc,hys,eE⟩
  by_cases hlt:i < src.its.length
  ·rw [List.drop_eq_getElem_cons hlt] at hc
   obtain ⟨st,y,S3,post',hfd,hc',hpost⟩:=uL hc
   obtain ⟨jgo,jyld⟩:=(hJ ι' H S' eH sH st).1 i src.its[i] (List.getElem?_eq_getElem hlt)
   refine .inr ⟨jgo,fun x H' yl=>?_⟩
   obtain ⟨eX,sX,rX⟩:=jyld x H' yl
   obtain ⟨hH',_⟩:=eX.dI hH ln
   rw [<- hf] at hfd
   have hfd:(aO t src.its[i] (σd++List.replicate k none)>>=fun σ'=>nt σ'>>=fun b=>if b=true then me σ'>>=fun y=>pure (some y) else pure none) S'=.ok y S3:=hfd
   obtain ⟨σd',hb⟩:∃ σd',aO t src.its[i] (σd++List.replicate k none) S'=.ok σd' S':=by
    rcases ly t src.its[i] (σd++List.replicate k none) S' with ⟨σd',hb,_⟩|hb
    ·exact ⟨σd',hb⟩
    ·rw [aV hb] at hfd; cases hfd
   rw [aj hb] at hfd
   refine ⟨σd++List.replicate k none,ι',S',src.its[i],σd',(eE.ext eX).more k,sX,rX,hb,fun σ' hE' hK=>⟨fun j v hj=>?_,?_⟩⟩
   ·rw [hK j (hslot j ?_)]; exact hj
    by_cases hjl:j < σ.length
    ·omega
    ·rw [List.getElem?_append_right (by omega),List.getElem?_replicate] at hj
     split at hj <;> cases hj
   ·cases qn:nt σd' S' with
    | bad=>rw [aV qn] at hfd; cases hfd
    | exc c S4=>rw [cN qn] at hfd; cases hfd
    | ok b S4 =>
     rw [aj qn] at hfd
     refine ⟨σd',ι',S',hE',sX,?_⟩
     rw [qn]
     intro ι3 H3 e3 s3
     obtain ⟨hH3,ln3⟩:=e3.dI hH' ln
     have eA:Ext ι1 ι3 H1 H3:=(eH.trans eX).trans e3
     cases b with
     | false =>
      rw [if_neg Bool.false_ne_true] at hfd ⊢
      cases hfd
      exact ⟨src.its.length - (i+1),by omega,ι3,_,pre,post',xs,hlt,rfl,eA,s3,ln3,hH3,au.ext e3 (au.ext eX rp),hc',by rw [hys,hpost],(eE.ext eX).ext e3⟩
     | true =>
      rw [if_pos rfl] at hfd ⊢
      refine ⟨σd',ι3,S4,hE'.ext e3,s3,?_⟩
      cases qe:me σd' S4 with
      | bad=>rw [aV qe] at hfd; cases hfd
      | exc c S5=>rw [cN qe] at hfd; cases hfd
      | ok yd S5 =>
       rw [aj qe] at hfd
       cases hfd
       intro ι4 H4 e4 s4 v rv
       obtain ⟨hH4,ln4⟩:=e4.dI hH3 ln3
       have rp4:au Γ ι4 H4 pre xs:=au.ext e4 (au.ext e3 (au.ext eX rp))
       refine ⟨xs,hH4,?_,src.its.length - (i+1),by omega,ι4,_,pre++[yd],post',xs++[v],hlt,rfl,(eA.trans e4).past hl,s4.other hH4 ln4,ln4,bU,au.write hH4 (Paired.app rp4 (.cons rv .nil)),hc',by rw [hys,hpost]; simp,(((eE.ext eX).ext e3).ext e4).write hH4⟩
       have:=rp4.length
       rw [hys,hpost,List.length_append,List.length_cons] at hz
       omega
  ·have ei:i=src.its.length:=by omega
   subst ei
   rw [List.drop_length] at hc
   obtain ⟨st,rfl,rfl⟩:=wI hc
   refine .inl ⟨(hJ ι' H S2 eH sH st).2,?_⟩
   rw [List.append_nil] at hys
   subst hys
   refine o1 (ι'++[l]) H ⟨eH.pre.trans (List.prefix_append _ _),eH.tup,eH.frz,eH.oth,fun a ha hn=>?_⟩ (sH.take ln hH rp) _ (.loc (by rw [<- sH.len]; simp))
   rcases List.mem_append.mp ha with z|z
   ·exact eH.fresh a z hn
   ·have:a=l:=by simpa using z
    rw [this]; exact hl
theorem zA (C:dZ X scope N' k) (hc:X.calm=true) (hslot:∀ j,j < X.N.length->t.has j=false) (hi:PI X tg iter (tMI Γ xw mi)) (hg:∀ cl fp s3 H3,PG (aL X scope cl N' fp s3 H3) tg (tMG Γ t)) (htt:∀ cl fp s3 H3,PF (aL X scope cl N' fp s3 H3) ifs (tMT Γ XF nt)) (hte:∀ cl fp s3 H3,PE (aL X scope cl N' fp s3 H3) elt (tM Γ XF me))
  (hs:∀ x,foldedSetIterable iter X.env x=pure x):PE X (.ListComp elt [⟨tg,iter,ifs,0⟩] scope pos) (tM Γ xw (iF k mi t nt me)):=by
 intro pins s σ H Q I h
 exact EC C hc hi hg htt hte hs pins s σ H Q I (qf hslot I.len h)
noncomputable def FlK (Γ:Gx) (D:Ends):Fl->aa->List Addr->Hp->Prop
 | .nx σ',_,ι',H'=>∀ σv,aS Γ ι' H' σv σ'->D.nx σv H'
 | .rt d,_,ι',H'=>∀ v,Rep Γ ι' H' d v->D.rt v H'
 | .bk σ',_,ι',H'=>∀ σv,aS Γ ι' H' σv σ'->D.bk σv H'
 | .ct σ',_,ι',H'=>∀ σv,aS Γ ι' H' σv σ'->D.ct σv H'
noncomputable def tMS (Γ:Gx) (xw:XW) (m:Sg->M Fl):TS:=fun D σ H=>∃ σd ι S,aS Γ ι H σ σd/\aq Γ ι H S/\Out Γ xw ι H (m σd S) (FlK Γ D)
variable {e:Expr} {ma:Sg->M D} {na:Sg->M Bool} {ms ms2:Sg->M Fl} {st:Stmt} {sts sts2:List Stmt}
theorem Ae (he:PE X e (tM Γ xw ma)):PS X (.Return (some e) pos) (tMS Γ xw fun σ=>ma σ>>=fun d=>pure (.rt d)) :=
 PS.imp (Cy he) fun D σ H h=>by
  obtain ⟨σd,ι,S,hE,hs,ho⟩:=h
  exact ⟨σd,ι,S,hE,hs,ho.bind.mono fun d S' ι' H' _ _ ⟨s',e',o'⟩ v r=>o'.here s' v r⟩
theorem Dp:PS X (.Return none pos) (tMS Γ xw fun _=>pure (.rt .non)) :=
 PS.imp uz fun D σ H h=>by
  obtain ⟨σd,ι,S,hE,hs,ho⟩:=h
  exact ho.here hs _ .non
theorem CZ (he:PE X e (tM Γ xw ma)) (hs:swapsWith e none pos.line X.env=pure false):PS X (.Expr e pos) (tMS Γ xw fun σ=>ma σ>>=fun _=>pure (.nx σ)) :=
 PS.imp (uq he hs) fun D σ H h=>by
  obtain ⟨σd,ι,S,hE,hs,ho⟩:=h
  exact ⟨σd,ι,S,hE,hs,ho.bind.mono fun d S' ι' H' _ _ ⟨s',e',o'⟩ v r=>o'.here s' _ (hE.ext e')⟩
theorem vh:PS X (.Pass pos) (tMS Γ xw fun σ=>pure (.nx σ)) :=
 PS.imp BR fun D σ H h=>by
  obtain ⟨σd,ι,S,hE,hs,ho⟩:=h
  exact ho.here hs _ hE
theorem xB {x j p2}:PS X (.Expr (.Constant (.str x) j p2) pos) (tMS Γ xw fun σ=>pure (.nx σ)) :=
 PS.imp DG fun D σ H h=>by
  obtain ⟨σd,ι,S,hE,hs,ho⟩:=h
  exact ho.here hs _ hE
theorem CD {D:Ends} {σ:L2.St} {H:Hp} (h:tMS Γ xw (fun σ=>ma σ>>=fun d=>aO t d σ>>=fun σ'=>pure (.nx σ')) D σ H):kI (tM Γ xw ma) (tMG Γ t) D σ H:=by
 obtain ⟨σd,ι,S,hE,hs,ho⟩:=h
 refine ⟨σd,ι,S,hE,hs,ho.bind.mono fun d S' ι' H' _ _ ⟨s',e',o'⟩ v r=>?_⟩
 obtain ⟨σd',hb,_,o'⟩:=Out.aO o'
 exact ⟨σd,ι',S',d,σd',hE.ext e',s',r,hb,fun σ' hE' _=>o'.here s' _ hE'⟩
theorem kF (he:PE X e (tM Γ xw ma)) (hg:PG X tg (tMG Γ t)) (hs:swapsWithSole [tg] e pos.line X.env=pure false) (hw:swappedStores [tg] e X.env=pure none) (h1:(assignEach [tg] X.env).map (·.2)=[assign tg X.env]) :
  PS X (.Assign [tg] e pos) (tMS Γ xw fun σ=>ma σ>>=fun d=>aO t d σ>>=fun σ'=>pure (.nx σ')):=PS.imp (mY he hg hs hw h1) fun D σ H h=>CD h
theorem AN {j:Nat} {y:Str} {py spos:Pos} (C:dZ X scope N' k) (hc:X.calm=true) (hslot:∀ j,j < X.N.length->t.has j=false) (hi:PI X tg iter (tMI Γ xw mi)) (hg:∀ cl fp s3 H3,PG (aL X scope cl N' fp s3 H3) tg (tMG Γ t)) (htt:∀ cl fp s3 H3,PF (aL X scope cl N' fp s3 H3) ifs (tMT Γ XF nt)) (hte:∀ cl fp s3 H3,PE (aL X scope cl N' fp s3 H3) elt (tM Γ XF me))
  (hN:X.N.Nodup) (hj:X.N[j]?=some y) (hy:X.env.scope.names.lookup y=some .local) (hsw:swapsWith (.ListComp elt [⟨tg,iter,ifs,0⟩] scope pos) (some (.Name y py)) spos.line X.env=pure true) (hs:∀ x,foldedSetIterable iter X.env x=pure x) :
  PS X (.Assign [.Name y py] (.ListComp elt [⟨tg,iter,ifs,0⟩] scope pos) spos) (tMS Γ xw fun σ=>iF k mi t nt me σ>>=fun d=>aO (.one j) d σ>>=fun σ'=>pure (.nx σ')):=by
 intro pins s σ H D I h
 refine Fb C hc hi hg htt hte hN hj hy hsw hs pins s σ H D I ?_
 have h1:tM Γ xw (iF k mi t nt me) σ H (fun x H1=>g_ j x σ H1 D.nx):=by
  obtain ⟨σd,ι,S,hE,hS,ho⟩:=h
  refine ⟨σd,ι,S,hE,hS,ho.bind.mono fun d S' ι' H' _ _ ⟨s',e',o'⟩ v r=>?_⟩
  exact o'.here s' _ ((hE.ext e').set j r)
 exact qf hslot I.len h1
theorem Be {c:Expr} (hc:PT X c (tMT Γ xw na)) (ha:PSs X sts (tMS Γ xw ms)) (hb:PSs X sts2 (tMS Γ xw ms2)):PS X (.If c sts sts2 pos) (tMS Γ xw fun σ=>na σ>>=fun k=>if k=true then ms σ else ms2 σ) :=
 PS.imp (ud hc ha hb) fun D σ H h=>by
  obtain ⟨σd,ι,S,hE,hs,ho⟩:=h
  refine ⟨σd,ι,S,hE,hs,ho.bind.mono fun k S' ι' H' _ _ ⟨s',e',o'⟩=>?_⟩
  cases k with
  | true=>rw [if_pos rfl]; exact ⟨σd,ι',S',hE.ext e',s',o'⟩
  | false=>rw [if_neg Bool.false_ne_true]; exact ⟨σd,ι',S',hE.ext e',s',o'⟩
theorem CC:PSs X [] (tMS Γ xw fun σ=>pure (.nx σ)) :=
 PSs.imp Fj fun D σ H h=>by
  obtain ⟨σd,ι,S,hE,hs,ho⟩:=h
  exact ho.here hs _ hE
theorem xW (h1:PS X st (tMS Γ xw ms)):PSs X [st] (tMS Γ xw ms):=uM h1
theorem wc (h1:PS X st (tMS Γ xw ms)) (h2:PSs X sts (tMS Γ xw ms2)):PSs X (st::sts) (tMS Γ xw fun σ=>ms σ>>=fun f=>match f with|.nx σ'=>ms2 σ'|f=>pure f) :=
 PSs.imp (u7 h1 h2) fun D σ H h=>by
  obtain ⟨σd,ι,S,hE,hs,ho⟩:=h
  refine ⟨σd,ι,S,hE,hs,ho.bind.mono fun f S' ι' H' _ _ ⟨s',e',o'⟩=>?_⟩
  cases f with
  | nx σ'=>exact fun σv hv=>⟨σ',ι',S',hv,s',o'⟩
  | rt d=>exact fun v r=>o'.here s' v r
  | bk σ'=>exact fun σv hv=>o'.here s' σv hv
  | ct σ'=>exact fun σv hv=>o'.here s' σv hv
end
end EV

namespace EV
open PySem PySem.Spec PyProof.Rows L2
section
variable {X:Cx} {Γ:Gx} {xw:XW} {pins:List (Addr × Obj)} {σ:L2.St} {H:Hp} {s:Shared} {ι:List Addr} {S:aa}
theorem Ci (k:List Int):(k.map V.int)=(k.map (Sum.inl:Int->Key)).map kV:=by
 rw [List.map_map]; rfl
theorem kY:∀ {a b:List Int},a.map (Sum.inl:Int->Key)=b.map Sum.inl->a=b
 | [],[],_=>rfl
 | [],_::_,h=>by cases h
 | _::_,[],h=>by cases h
 | a::r,b::q,h=>by
  obtain ⟨h1,h2⟩:=List.cons.inj h
  rw [Sum.inl.inj h1,kY h2]
theorem n8 (a b:List Int):decide (a.map (Sum.inl:Int->Key)=b.map Sum.inl)=decide (a=b):=by
 by_cases h:a=b
 ·rw [decide_eq_true h,decide_eq_true (by rw [h])]
 ·rw [decide_eq_false h,decide_eq_false fun e=>h (kY e)]
theorem aR.get {k:List Int}:∀ {kvs:List (List Int × D)} {xs:List (List Key × V)} {d:D},aR Γ ι H kvs xs->aU kvs k=some d->∃ v,b8 xs (k.map Sum.inl)=some v/\Rep Γ ι H d v
 | _,_,d,.nil,h=>by cases h
 | p::r,q::t,d,.cons e u,h=>by
  unfold aU at h
  unfold b8
  rw [List.find?_cons] at h ⊢
  rw [e.1,n8]
  cases c:decide (p.1=k) with
  | true =>
   rw [c] at h
   cases h
   exact ⟨q.2,rfl,e.2⟩
  | false =>
   rw [c] at h
   exact aR.get u h
theorem aR.any (k:List Int):∀ {kvs:List (List Int × D)} {xs:List (List Key × V)},aR Γ ι H kvs xs->(xs.any fun kv=>decide (kv.1=k.map Sum.inl))=kvs.any fun kv=>decide (kv.1=k)
 | _,_,.nil=>rfl
 | p::r,q::t,.cons e u=>by
  rw [List.any_cons,List.any_cons,aR.any k u,e.1,n8]
theorem aR.repl (k:List Int) {d:D} {v:V} (rv:Rep Γ ι H d v):∀ {kvs:List (List Int × D)} {xs:List (List Key × V)},aR Γ ι H kvs xs->aR Γ ι H (kvs.map fun kv=>if kv.1=k then (kv.1,d) else kv) (xs.map fun kv=>if kv.1=k.map Sum.inl then (kv.1,v) else kv)
 | _,_,.nil=>.nil
 | p::r,q::t,.cons e u=>by
  rw [List.map_cons,List.map_cons]
  refine .cons ?_ (aR.repl k rv u)
  by_cases h:p.1=k
  ·rw [if_pos h,if_pos (by rw [e.1,h])]
   exact ⟨e.1,rv⟩
  ·rw [if_neg h,if_neg fun z=>h (kY (by rw [<- e.1,z]))]
   exact e
theorem aR.snoc {k:List Int} {d:D} {v:V} (rv:Rep Γ ι H d v):∀ {kvs:List (List Int × D)} {xs:List (List Key × V)},aR Γ ι H kvs xs->aR Γ ι H (kvs++[(k,d)]) (xs++[(k.map Sum.inl,v)])
 | _,_,.nil=>.cons ⟨rfl,rv⟩ .nil
 | _::_,_::_,.cons e u=>.cons e (aR.snoc rv u)
theorem aR.put {k:List Int} {d:D} {v:V} (rv:Rep Γ ι H d v) {kvs:List (List Int × D)} {xs:List (List Key × V)} (r:aR Γ ι H kvs xs):aR Γ ι H (bX kvs k d) (putK xs (k.map Sum.inl) v):=by
 unfold bX putK
 rw [aR.any k r]
 split
 ·exact aR.repl k rv r
 ·exact aR.snoc rv r
theorem qB {a:Addr} {xs ys:List (List Key × V)} (h:H a=some (.dT xs)):∀ b zs,H b=some (.tup zs)->upd H a (.dT ys) b=some (.tup zs):=fun b zs e=>by
 rw [aB]; exact e
 rintro rfl; rw [h] at e; cases e
theorem ng {a:Addr} {xs ys:List (List Key × V)} (h:H a=some (.dT xs)):∀ b o u,H b=some (.frz o u)->upd H a (.dT ys) b=some (.frz o u):=fun b o u e=>by
 rw [aB]; exact e
 rintro rfl; rw [h] at e; cases e
theorem Rep.eT {a:Addr} {xs ys:List (List Key × V)} (h:H a=some (.dT xs)) {d:D} {v:V} (r:Rep Γ ι H d v):Rep Γ ι (upd H a (.dT ys)) d v:=r.move (List.prefix_refl _) (qB h) (ng h)
theorem aq.dct (hS:aq Γ ι H S) {l:Nat} {kvs:List (List Int × D)} (h:S[l]?=some (.dct kvs)):∃ a xs,ι[l]?=some a/\H a=some (.dT xs)/\aR Γ ι H kvs xs:=by
 obtain ⟨a,ha,xs,hx,r⟩:=hS.cell l _ h
 exact ⟨a,xs,ha,hx,r⟩
theorem aq.eT (hS:aq Γ ι H S) {l:Nat} {a:Addr} {xs ys:List (List Key × V)} {es kvs:List (List Int × D)} (hl:S[l]?=some (.dct es)) (ha:ι[l]?=some a) (h:H a=some (.dT xs)) (r:aR Γ ι H kvs ys):aq Γ ι (upd H a (.dT ys)) (S.set l (.dct kvs)):=by
 refine ⟨by rw [List.length_set]; exact hS.len,hS.nd,fun m c hm=>?_⟩
 by_cases e:m=l
 ·subst e
  rw [List.getElem?_set_self (List.getElem?_eq_some_iff.mp hl).1] at hm
  cases hm
  exact ⟨a,ha,ys,bU,Paired.imp (fun _ _ q=>⟨q.1,Rep.eT h q.2⟩) r⟩
 ·rw [List.getElem?_set_ne (Ne.symm e)] at hm
  obtain ⟨b,hb,c1⟩:=hS.cell m c hm
  have hne:b≠a:=fun z=>e (g7 hS.nd hb (z ▸ ha))
  refine ⟨b,hb,?_⟩
  cases c with
  | lst zs=>obtain ⟨ws,hw,rw'⟩:=c1; exact ⟨ws,by rw [aB hne]; exact hw,Paired.imp (fun _ _ q=>Rep.eT h q) rw'⟩
  | dct kvs=>obtain ⟨ws,hw,rw'⟩:=c1; exact ⟨ws,by rw [aB hne]; exact hw,Paired.imp (fun _ _ q=>⟨q.1,Rep.eT h q.2⟩) rw'⟩
theorem Ext.eT {a:Addr} {xs ys:List (List Key × V)} (h:H a=some (.dT xs)) (hm:a∈ι):Ext ι ι H (upd H a (.dT ys)) :=
 ⟨List.prefix_refl _,qB h,ng h,fun b o e n=>by
  have hne:b≠a:=fun z=>n (by rw [z]; exact hm)
  rw [aB hne]; exact e,fun _ h n=>absurd h n⟩
theorem aq.wm (hS:aq Γ ι H S) {p:Addr} (hp:H p=none):aq Γ (ι++[p]) (upd H p (.dT [])) (S++[.dct []]):=by
 have e:Ext ι (ι++[p]) H (upd H p (.dT [])):=Ext.more hp
 refine ⟨by simp [hS.len],List.nodup_append.mpr ⟨hS.nd,by simp,?_⟩,fun l c h=>?_⟩
 ·intro a ha b hb
  have:b=p:=by simpa using hb
  subst this
  exact fun z=>hS.new hp (z ▸ ha)
 ·by_cases hl:l < S.length
  ·rw [List.getElem?_append_left hl] at h
   obtain ⟨a,ha,c1⟩:=hS.cell l c h
   exact ⟨a,eV e.pre ha,c1.ext e fun ys hy=>by rw [aB (aT hy hp)]; exact hy⟩
  ·rw [List.getElem?_append_right (by omega)] at h
   have hl2:l - S.length=0:=by
    have:=(List.getElem?_eq_some_iff.mp h).1
    simp at this; omega
   rw [hl2] at h
   have h':(Cell.dct [])=c:=by simpa using h
   subst h'
   exact ⟨p,by rw [List.getElem?_append_right (by rw [hS.len]; omega),hS.len,hl2]; rfl,[],bU,.nil⟩
theorem uI {pos:Pos}:PE X (.Dict [] [] pos) (tM Γ xw fun _=>alloc (.dct [])) :=
 PE.imp zP fun σ H Q h=>by
  obtain ⟨σd,ι,S,he,hs,ho⟩:=h
  exact fun p hp=>ho (ι++[p]) _ (Ext.more hp) (hs.wm hp) _ (.loc (by rw [<- hs.len]; simp))
theorem Out.dM {l:Nat} {f:List (List Int × D)->M D} {k:D->aa->List Addr->Hp->Prop} (h:Out Γ xw ι H (EV.dM l f S) k):∃ kvs,S[l]?=some (.dct kvs)/\Out Γ xw ι H (f kvs S) k:=by
 have e:EV.dM l f S=match S[l]? with|some (.dct kvs)=>f kvs S|_=>.bad:=rfl
 rw [e] at h
 cases q:S[l]? with
 | none=>rw [q] at h; exact h.elim
 | some c =>
  rw [q] at h
  cases c with
  | dct kvs=>exact ⟨kvs,rfl,h⟩
  | lst ds=>exact h.elim
theorem rZ {p:Addr} {k:List Int} (hp:H p=none):upd H p (.tup (k.map V.int)) p=some (.tup ((k.map (Sum.inl:Int->Key)).map kV)):=by rw [bU,Ci]
theorem DH {o:Expr} {es:List Expr} {k:Nat} {pos p2:Pos} {mo:Sg->M D} {m:Sg->M (List D)} (hu:X.A.units+1 < cLine) (ho:PE X o (tM Γ xw mo)) (hs:PA X es (tMA Γ xw m)) :
  PE X (.Subscript o (.Tuple es k p2) pos) (tM Γ xw fun σ=>mo σ>>=fun x=>m σ>>=fun ds=>guard (fits ds.length) (mC x ds)) :=
 PE.imp (uf hu ho (kr hs) (fun _ _=>rfl)) fun σ H Q h=>by
  obtain ⟨σd,ι,S,he,hs,ho⟩:=h
  refine ⟨σd,ι,S,he,hs,ho.bind.mono fun d S1 ι1 H1 _ _ ⟨s1,e1,o1⟩ x rx=>?_⟩
  refine ⟨σd,ι1,S1,he.ext e1,s1,o1.bind.mono fun ds S2 ι2 H2 _ _ ⟨s2,e2,o2⟩ vs rs=>?_⟩
  obtain ⟨hz,o2⟩:=Out.guard o2
  refine ⟨by rw [<- rs.length]; exact dD hz,fun p hp=>?_⟩
  cases d with
  | loc l =>
   obtain ⟨k,q,o2⟩:=Out.opt o2
   obtain ⟨kvs,q2,o2⟩:=Out.dM o2
   rw [ints_map q] at rs
   have ev:=dm rs
   subst ev
   have rx:=rx.ext e2
   cases rx with
   | @loc _ a hl =>
    obtain ⟨a',xs,ha,hx,dr⟩:=s2.dct q2
    rw [hl] at ha; cases ha
    cases q3:aU kvs k with
    | none=>rw [q3] at o2; exact o2.elim
    | some d =>
     rw [q3] at o2
     obtain ⟨v,hv,rv⟩:=aR.get dr q3
     refine ⟨a,v,rfl,?_,?_⟩
     ·rw [<- hv]
      exact fU.t (by rw [aB (aT hx hp)]; exact hx) (rZ hp)
     ·exact o2 ι2 _ (Ext.laid hp) (s2.laid hp _) v (rv.ext (Ext.laid hp))
  | _=>exact o2.elim
theorem C9 {o e:Expr} {es:List Expr} {k:Nat} {pos p p2:Pos} {mo me:Sg->M D} {m:Sg->M (List D)} (hu:X.A.units+1 < cLine) (he:PE X e (tM Γ xw me)) (ho:PE X o (tM Γ xw mo)) (hs:PA X es (tMA Γ xw m))
  (hw:swapsWith e (some (.Subscript o (.Tuple es k p2) p)) pos.line X.env=pure false) :
  PS X (.Assign [.Subscript o (.Tuple es k p2) p] e pos) (tMS Γ xw fun σ=>me σ>>=fun d=>mo σ>>=fun a=>m σ>>=fun ks=>guard (fits ks.length) (ja a ks d)>>=fun _=>pure (.nx σ)):=by
 refine PS.imp (Ax hu ho (kr hs) he hw) fun D σ H h=>?_
 obtain ⟨σd,ι,S,hE,hs,ho⟩:=h
 refine ⟨σd,ι,S,hE,hs,ho.bind.mono fun d S1 ι1 H1 _ _ ⟨s1,e1,o1⟩ v rv=>?_⟩
 refine ⟨σd,ι1,S1,hE.ext e1,s1,o1.bind.mono fun a S2 ι2 H2 _ _ ⟨s2,e2,o2⟩ ov ro=>?_⟩
 refine ⟨σd,ι2,S2,(hE.ext e1).ext e2,s2,o2.bind.mono fun ks S3 ι3 H3 _ _ ⟨s3,e3,o3⟩ vs rs=>?_⟩
 have o3:=o3.bind
 obtain ⟨hz,o3⟩:=Out.guard o3
 refine ⟨by rw [<- rs.length]; exact dD hz,fun p hp=>?_⟩
 cases a with
 | loc l =>
  obtain ⟨k,q,o3⟩:=Out.opt o3
  obtain ⟨kvs,q2,o3⟩:=Out.dM o3
  obtain ⟨hz2,o3⟩:=Out.guard o3
  rw [ints_map q] at rs
  have ev:=dm rs
  subst ev
  have ro:=ro.ext e3
  cases ro with
  | @loc _ b hl =>
   obtain ⟨b',xs,hb,hx,dr⟩:=s3.dct q2
   rw [hl] at hb; cases hb
   have el:=Ext.laid (ι:=ι3) (H:=H3) (o:=.tup (k.map V.int)) hp
   have hx':upd H3 p (.tup (k.map V.int)) b=some (.dT xs):=by rw [aB (aT hx hp)]; exact hx
   have s4:=s3.laid hp (.tup (k.map V.int))
   obtain ⟨b2,xs2,hb2,hx2,dr2⟩:=s4.dct q2
   rw [hl] at hb2; cases hb2
   rw [hx'] at hx2; cases hx2
   have rv2:=((rv.ext e2).ext e3).ext el
   refine ⟨b,_,rfl,gH.t hx' (rZ hp) ?_,?_⟩
   ·have:kvs.length=xs.length:=dr.length
    rw [<- this]
    exact mS hz2
   ·have ew:=Ext.eT (ys:=putK xs (k.map Sum.inl) v) hx' (List.mem_of_getElem? hl)
    obtain ⟨s5,e5,o5⟩:=o3 ι3 _ (el.trans ew) (s4.eT q2 hl hx' (aR.put rv2 dr2))
    exact o5.here s5 _ (((((hE.ext e1).ext e2).ext e3).ext el).ext ew)
 | _=>exact o3.elim
end
end EV

namespace EV
open PySem PySem.Spec PyProof.Rows L2
theorem Paired.put {α β:Type} {R:α->β->Prop} {a:α} {b:β} (r:R a b):∀ {as:List α} {bs:List β} (j:Nat),Paired R as bs->Paired R (as.set j a) (bs.set j b)
 | _,_,_,.nil=>.nil
 | _,_,0,.cons _ t=>.cons r t
 | _,_,j+1,.cons h t=>.cons h (Paired.put r j t)
section
variable {X:Cx} {Γ:Gx} {xw:XW}
noncomputable def mH (Γ:Gx) (xw:XW):V->V->V->Hp->(Hp->Prop)->Prop:=fun o i v H Q=>∃ ι S da di dv,aq Γ ι H S/\Rep Γ ι H da o/\Rep Γ ι H di i/\Rep Γ ι H dv v/\Out Γ xw ι H (j9 da di dv S) fun _ _ _ H'=>Q H'
theorem wZ:jG X (mH Γ xw):=by
 intro pins s σ H o i v ov iv u Q I ro ri rv h
 obtain ⟨ι,S,da,di,dv,hS,r1,r2,r3,ho⟩:=h
 cases da with
 | loc l =>
  cases di with
  | int k =>
   obtain ⟨es,e,ho⟩:=Out.bK ho
   obtain ⟨a,xs,ha,hx,p⟩:=hS.lst e
   cases r2
   cases r1 with
   | loc q =>
    rw [ha] at q; cases q
    cases q:EV.ixN es.length k with
    | none=>rw [q] at ho; exact ho.elim
    | some j =>
     rw [q] at ho
     refine set_list pins s σ H _ _ v _ _ u Q I ro ri rv ⟨a,xs,k,j,rfl,rfl,hx,by rw [<- p.length]; exact q,?_⟩
     exact ho ι _ (Ext.write hx (List.mem_of_getElem? ha)) (hS.write e ha hx (Paired.put r3 j p))
  | _=>exact ho.elim
 | _=>exact ho.elim
theorem EA {o i e:Expr} {mo mi me:Sg->M D} {pos p:Pos} (he:PE X e (tM Γ xw me)) (h1:PE X o (tM Γ xw mo)) (h2:PE X i (tM Γ xw mi)) (hi:∀ a b c q,i≠.Slice a b c q)
  (hs:swapsWithSole [.Subscript o i p] e pos.line X.env=pure false):PS X (.Assign [.Subscript o i p] e pos) (tMS Γ xw fun σ=>me σ>>=fun d=>mo σ>>=fun a=>mi σ>>=fun k=>j9 a k d>>=fun _=>pure (.nx σ)):=by
 have pg:PG X (.Subscript o i p) (sC (tM Γ xw mo) (tM Γ xw mi) (mH Γ xw)):=xJ h1 h2 wZ (by
  intro v
  cases i <;> first|rfl|exact absurd rfl (hi _ _ _ _))
 refine PS.imp (mY he pg hs rfl rfl) fun D σ H h=>?_
 obtain ⟨σd,ι,S,hE,hs,ho⟩:=h
 refine ⟨σd,ι,S,hE,hs,ho.bind.mono fun d S1 ι1 H1 _ _ ⟨s1,e1,o1⟩ v rv=>?_⟩
 refine ⟨σd,ι1,S1,hE.ext e1,s1,o1.bind.mono fun a S2 ι2 H2 _ _ ⟨s2,e2,o2⟩ ov ro=>?_⟩
 refine ⟨σd,ι2,S2,(hE.ext e1).ext e2,s2,o2.bind.mono fun k S3 ι3 H3 _ _ ⟨s3,e3,o3⟩ iv ri=>?_⟩
 exact ⟨ι3,S3,a,k,d,s3,ro.ext e3,ri,(rv.ext e2).ext e3,o3.bind.mono fun _ S4 ι4 H4 _ _ ⟨s4,e4,o4⟩=>o4.here s4 _ ((((hE.ext e1).ext e2).ext e3).ext e4)⟩
end
end EV

namespace EV
open PySem PySem.Spec PyProof.Rows L2 TB
theorem qj:∀ {t u:List Int},t≠u->lexLe t u=true->az t u=true
 | [],[],h,_=>absurd rfl h
 | [],_::_,_,_=>rfl
 | _::_,[],_,e=>by cases e
 | a::r,b::q,h,e=>by
  unfold lexLe at e
  unfold az
  by_cases ab:a=b
  ·subst ab
   rw [if_neg (Int.lt_irrefl a),if_pos rfl] at e
   rw [if_pos rfl]
   exact qj (fun z=>h (by rw [z])) e
  ·rw [if_neg ab]
   by_cases lt:a < b
   ·exact decide_eq_true lt
   ·rw [if_neg lt,if_neg ab] at e; cases e
theorem nO:∀ {t u:List Int},lexLe t u=false->az u t=true
 | [],_,e=>by cases e
 | _::_,[],_=>rfl
 | a::r,b::q,e=>by
  unfold lexLe at e
  unfold az
  by_cases ab:a=b
  ·subst ab
   rw [if_neg (Int.lt_irrefl a),if_pos rfl] at e
   rw [if_pos rfl]
   exact nO e
  ·rw [if_neg fun z=>ab z.symm]
   by_cases lt:a < b
   ·rw [if_pos lt] at e; cases e
   ·exact decide_eq_true (by omega)
theorem jH (t x:List Int):∀ r,x∈cJ t r ↔ x=t\/x∈r
 | []=>by unfold cJ; simp
 | u::r=>by
  unfold cJ
  by_cases e:t=u
  ·rw [if_pos e]; subst e; simp
  ·rw [if_neg e]
   by_cases l:lexLe t u=true
   ·rw [if_pos l]; simp
   ·rw [if_neg l,List.mem_cons,jH t x r,List.mem_cons]; constructor
    ·rintro (h|h|h)
     ·exact .inr (.inl h)
     ·exact .inl h
     ·exact .inr (.inr h)
    ·rintro (h|h|h)
     ·exact .inr (.inl h)
     ·exact .inl h
     ·exact .inr (.inr h)
theorem oS (t:List Int):∀ {r},r.Pairwise (fun a b=>az a b=true)->(cJ t r).Pairwise (fun a b=>az a b=true)
 | [],_=>by unfold cJ; exact List.pairwise_singleton _ _
 | u::r,h=>by
  unfold cJ
  by_cases e:t=u
  ·rw [if_pos e]; exact h
  ·rw [if_neg e]
   obtain ⟨h1,h2⟩:=List.pairwise_cons.mp h
   by_cases l:lexLe t u=true
   ·rw [if_pos l]
    have tu:=qj e l
    refine List.pairwise_cons.mpr ⟨fun x hx=>?_,h⟩
    rcases List.mem_cons.mp hx with z|z
    ·rw [z]; exact tu
    ·exact lex_trans _ _ _ tu (h1 x z)
   ·rw [if_neg l]
    have ut:=nO (Bool.eq_false_iff.mpr l)
    refine List.pairwise_cons.mpr ⟨fun x hx=>?_,oS t h2⟩
    rcases (jH t x r).mp hx with z|z
    ·rw [z]; exact ut
    ·exact h1 x z
theorem jK:∀ ts,(b6 ts).Pairwise (fun a b=>az a b=true)
 | []=>.nil
 | t::r=>oS t (jK r)
theorem oJ (x:List Int):∀ ts,x∈b6 ts ↔ x∈ts
 | []=>Iff.rfl
 | t::r=>by
  show x∈cJ t (b6 r) ↔ _
  rw [jH,oJ x r,List.mem_cons]
theorem qz {l:List (List Int)} (h:l.Pairwise (fun a b=>az a b=true)):l.Nodup:=h.imp fun {a b} e q=>by
 rw [q,lex_irrefl] at e; cases e
theorem qK {ts ks:List (List Int)} (h:ks.Pairwise (fun a b=>az a b=true)) (m:∀ y,y∈ks ↔ y∈ts):ks=b6 ts:=by
 have p:ks.Perm (b6 ts):=(List.perm_ext_iff_of_nodup (qz h) (qz (jK ts))).mpr fun y=>by rw [m,oJ]
 refine p.eq_of_pairwise (fun x y _ _ h1 h2=>?_) h (jK ts)
 have z:=lex_trans _ _ _ h1 h2
 rw [lex_irrefl] at z; cases z
theorem mK (t:List Int):∀ r,(cJ t r).length<=r.length+1
 | []=>Nat.le_refl _
 | u::r=>by
  unfold cJ
  by_cases e:t=u
  ·rw [if_pos e]; exact Nat.le_succ _
  ·rw [if_neg e]
   by_cases l:lexLe t u=true
   ·rw [if_pos l]; exact Nat.le_refl _
   ·rw [if_neg l]; exact Nat.succ_le_succ (mK t r)
theorem qN:∀ ts,(b6 ts).length<=ts.length
 | []=>Nat.le_refl _
 | t::r=>Nat.le_trans (mK t (b6 r)) (Nat.succ_le_succ (qN r))
theorem jQ:∀ {ds:List D} {ts:List (List Int)},tups ds=some ts->ds=ts.map fun t=>.tup (t.map .int)
 | [],_,h=>by cases h; rfl
 | d::r,ts,h=>by
  cases d with
  | tup es =>
   unfold tups at h
   cases q1:allInts es with
   | none=>rw [q1] at h; cases h
   | some t =>
    cases q2:tups r with
    | none=>rw [q1,q2] at h; cases h
    | some q =>
     rw [q1,q2] at h; cases h
     rw [List.map_cons,<- jQ q2,<- ints_map q1]
  | _=>cases h
section
variable {X:Cx} {Γ:Gx} {xw:XW} {ι:List Addr} {H:Hp}
theorem o7 {P:Program} {w:World}:∀ {ks:List Int} {its:List Value},Vals (ks.map V.int) its->ItemsAre (intKind P w) ks its
 | [],_,.nil=>.nil
 | k::r,_,.cons h t=>by
  obtain ⟨u,rfl⟩:=h
  exact .cons (beq_self_eq_true k) (o7 t)
theorem fX {pins:List (Addr × Obj)} {σ:L2.St} {s:Shared} {c:Addr} {ks:List Int} (I:Inv X pins σ H s) (h:SqT X.K H c (ks.map V.int)):TK X.prog X.w s.heap ks c:=by
 obtain ⟨its,r,⟨o,e1,e2,n,e3⟩,_⟩:=I.tuple h
 exact ⟨o,its.toArray,n,e1,e2,e3,o7 r⟩
theorem mE:∀ {out:List Value} {ks:List (List Int)},out.length=ks.length->(∀ (i:Nat) v k,out[i]?=some v->ks[i]?=some k->∃ c,v=.ref c/\SqT Γ.K H c (k.map V.int))->∃ vs,Vals vs out/\au Γ ι H (ks.map fun t=>.tup (t.map .int)) vs
 | [],[],_,_=>⟨[],.nil,.nil⟩
 | [],_::_,hl,_=>by cases hl
 | _::_,[],hl,_=>by cases hl
 | v::o,k::r,hl,h=>by
  obtain ⟨c,rfl,e⟩:=h 0 v k rfl rfl
  obtain ⟨vs,h1,h2⟩:=mE (out:=o) (ks:=r) (Nat.succ.inj hl) fun i v' k' e1 e2=>h (i+1) v' k' e1 e2
  exact ⟨.ref c::vs,.cons rfl h1,.cons (.fC e (g6 k)) h2⟩
theorem item_at:∀ {ts:List (List Int)} {xs:List V} {its:List Value} {i:Nat} {v:Value},au Γ ι H (ts.map fun t=>.tup (t.map .int)) xs->Vals xs its->its[i]?=some v->∃ c t,v=.ref c/\ts[i]?=some t/\SqT Γ.K H c (t.map V.int)
 | [],_,_,_,_,.nil,.nil,e=>by simp at e
 | t::r,_,_,0,_,.cons a p,.cons b q,e=>by
  cases e
  obtain ⟨c,ys,rfl,sq,rp⟩:=a.bA
  cases b
  rw [dm rp] at sq
  exact ⟨c,t,rfl,rfl,sq⟩
 | t::r,_,_,i+1,_,.cons a p,.cons b q,e=>by
  obtain ⟨c,u,e1,e2,e3⟩:=item_at (ts:=r) (i:=i) p q e
  exact ⟨c,u,e1,e2,e3⟩
theorem zZ {sub:Sub} {x y:Str} {p p' pos pos':Pos} {a:Expr} {ma:Sg->M D} (hK:Γ.K=X.K) (hc:X.calm=true) (hu:X.A.units+4 < cLine) (hg:Gl X x) (hm:X.mg x=none) (hv:bootBuiltins x=some (.builtin "sorted"))
  (hg':Gl X y) (hm':X.mg y=none) (hv':bootBuiltins y=some (.type "set")) (ha:PE X a (tM Γ xw ma)) (hn:x≠"__name__") (hdb:(x==("__debug__" : Str))=false) (hn':y≠"__name__") (hdb':(y==("__debug__" : Str))=false)
  (hs:starEach [a] X.env=(false,eval a X.env)::starEach [] X.env):PE X (.Call (.Name x p) [.Call (.Name y p') [a] [] pos'] [] pos) (tM Γ xw fun σ=>ma σ>>=fun d=>bi1 sub .sortedSet d):=by
 intro pins s σ H Q I h
 refine wpAny_Call_Name_kw (cF I hg hm hv ?_ hn hdb)
 refine PyProof.Rows.callWith_builtin1 (e:=.Call (.Name y p') [a] [] pos') (rest:=[]) ?_ rfl rfl
 refine Calls.spliced_cons ?_
 refine wpAny_Call_Name_kw (cF I hg' hm' hv' ?_ hn' hdb')
 refine PyProof.Rows.callWith_type1 (e:=a) (rest:=[]) ?_ hs rfl
 rw [hs]
 refine Calls.spliced_cons (thn (ha pins s σ H _ I (tX h)) fun u s1 ⟨v,H1,I1,r1,q1⟩=>Calls.spliced_nil ?_)
 obtain ⟨ι,S,d,hS,r,ho⟩:=q1
 obtain ⟨ds,q,ho⟩:=Out.ez ho
 obtain ⟨ts,q2,ho⟩:=Out.opt ho
 obtain ⟨hz,ho⟩:=Out.guard ho
 obtain ⟨hz1,hz2⟩:=Bool.and_eq_true_iff.mp hz
 have hz1:ts.length<=18:=of_decide_eq_true hz1
 obtain ⟨_,pa,xs,rfl,sq,rp⟩:=wR hS r q
 rw [jQ q2] at rp
 cases r1
 rw [hK] at sq
 obtain ⟨its,rv,pl,_⟩:=I1.list sq
 have hl:its.length=ts.length:=by rw [<- rv.length,<- rp.length,List.length_map]
 refine A7 (val:=fun i=>ts.getD i []) hu (I1.ok.hd hc) pl.isList (fun i v e=>?_) (by rw [List.size_toArray]; omega) fun h' tk md=>?_
 ·obtain ⟨c,t,e1,e2,e3⟩:=item_at rp rv (by simpa using e)
  refine ⟨c,e1,?_⟩
  show TK X.prog X.w s1.heap (ts.getD i []) c
  rw [List.getD_eq_getElem?_getD,e2]
  rw [hK] at e3
  exact fX I1 e3
 ·obtain ⟨⟨L,tset,hL⟩,k1⟩:=md
  have hlt:s1.heap.objs.size < h'.objs.size:=by
   obtain ⟨o,_,_,_,e,_⟩:=tset
   exact Heap.lt_size e
  have hmem:∀ y,y∈L ↔ y∈ts:=fun y=>by
   rw [hL]
   constructor
   ·rintro ⟨j,h1,rfl⟩
    rw [List.size_toArray,hl] at h1
    show ts.getD j []∈ts
    rw [List.getD_eq_getElem?_getD,List.getElem?_eq_getElem h1]
    exact List.getElem_mem h1
   ·intro hy
    obtain ⟨j,hj⟩:=List.getElem?_of_mem hy
    exact ⟨j,by rw [List.size_toArray,hl]; exact (List.getElem?_eq_some_iff.mp hj).1,by show ts.getD j []=y; rw [List.getD_eq_getElem?_getD,hj]; rfl⟩
  refine Calls.spliced_nil (vL (s:={ s1 with heap:=h',toks:=tk }) (I1.ok.hd hc) tset (fun ks hk e=>?_) fun h2 tk2 R ks hR hol so hm2 old=>?_)
  ·have:=List.all_eq_true.mp hz2 ks ((hmem ks).mp hk)
   rw [e] at this; cases this
  ·obtain ⟨out,n,eo,el,ev⟩:=hol
   have kp:∀ b o,s1.heap.get? b=some o->h2.get? b=some o:=fun b o e=>old b o (Nat.lt_trans (Heap.lt_size e) hlt) (k1 b o (Heap.lt_size e) e)
   have e:ks=b6 ts:=qK so fun y=>by rw [hm2,hmem]
   subst e
   obtain ⟨vs,w1,w2⟩:=mE (Γ:=Γ) (ι:=ι) (H:=H1) el fun i v k e1 e2=>by
    obtain ⟨c,rfl,_,⟨_,hc2⟩,tk2⟩:=ev i v k e1 e2
    obtain ⟨j,hj⟩:=List.getElem?_of_mem hc2
    obtain ⟨c',t,e3,_,e4⟩:=item_at rp rv (by simpa using hj)
    cases e3
    have e5:=e4
    rw [hK] at e5
    have:=IsTupleKey.inj tk2 (d_ (fX I1 e5) fun o e=>kp c o e)
    subst this
    exact ⟨c,rfl,e4⟩
   have hR2:s1.heap.objs.size<=R:=Nat.le_trans (Nat.le_of_lt hlt) hR
   refine ⟨.ref R,_,I1.laid (h':=h2) (t':=tk2) (o:=.lst vs) kp hR2 ⟨?_,out,n,w1,eo⟩,rfl,Out.alloc ho hS (I1.hok.fresh hR2) w2⟩
   rw [w1.length,el,sizeLine_eq]
   have:(b6 ts).length<=ts.length:=qN ts
   omega
theorem qJ {xs:List V} {its:List Value} {ts:List (List Int)} (rp:au Γ ι H (ts.map fun t=>.tup (t.map .int)) xs) (rv:Vals xs its) {v:Value} (m:v∈its):∃ c t,v=.ref c/\t∈ts/\SqT Γ.K H c (t.map V.int):=by
 obtain ⟨i,e⟩:=List.getElem?_of_mem m
 obtain ⟨c,t,e1,e2,e3⟩:=item_at rp rv e
 exact ⟨c,t,e1,List.mem_of_getElem? e2,e3⟩
theorem xD (hK:Γ.K=X.K):bz X (.builtin "sorted") (bZ Γ xw (biD sub .sorted)):=by
 intro pins s σ H xs us Q I rs h
 obtain ⟨ι,S,a,x,rfl,hS,r,ho⟩:=eU rfl (fun _ _ _=>rfl) h
 obtain ⟨ds,q,ho⟩:=Out.items ho
 obtain ⟨_,p,ys,rfl,sq,rp,_⟩:=bS hS r q
 obtain ⟨u,rfl,ru⟩:=rs.one
 cases ru
 rw [hK] at sq
 obtain ⟨its,rv,x2⟩:∃ its,Vals ys its/\Sq2 s.heap p its:=by
  rcases sq with sq|sq
  ·obtain ⟨its,rv,pl,_⟩:=I.list sq
   obtain ⟨o,e1,e2,n,e3⟩:=pl.isList
   exact ⟨its,rv,"list",o,n,.inl rfl,e1,e2,e3⟩
  ·obtain ⟨its,rv,⟨o,e1,e2,n,e3⟩,_⟩:=I.tuple sq
   exact ⟨its,rv,"tuple",o,n,.inr rfl,e1,e2,e3⟩
 have hp:H (s.heap.objs.size+1)=none:=I.hok.fresh (Nat.le_succ _)
 have ho:Out Γ xw ι H (jo ds S) fun d _ ι' H'=>∀ v,Rep Γ ι' H' d v->Q v H':=ho
 unfold jo at ho
 cases q2:allInts ds with
 | some is =>
  rw [q2] at ho
  obtain ⟨hz,ho⟩:=Out.guard ho
  have hz:is.length < 64:=of_decide_eq_true hz
  rw [ints_map q2] at rp
  have e:=dm rp
  subst e
  have hl:its.length=is.length:=by rw [<- rv.length,List.length_map]
  refine yi (ns:=is) x2 (intsAre_of rv) (by omega) fun out ns' a1 a2 a3=>?_
  obtain ⟨ep,he⟩:=sortedAll_at s.heap its out.toArray
  have e:ns'=cg is:=(a2.trans (gm is).symm).eq_of_pairwise (fun x y _ _ h1 h2=>Int.le_antisymm h1 h2) a3 (jh is)
  subst e
  refine ⟨.ref (s.heap.objs.size+1),_,I.laid (t':=s.toks) (o:=.lst ((cg is).map V.int)) (fun b o q=>sortedAll_old q) (Nat.le_succ _) ⟨?_,out,ep,nK a1,he⟩,rfl,Out.alloc ho hS hp (g6 _)⟩
  rw [List.length_map,(gm is).length_eq,sizeLine_eq]; omega
 | none =>
  rw [q2] at ho
  have ho:Out Γ xw ι H (l8 (tups ds) S) fun d _ ι' H'=>∀ v,Rep Γ ι' H' d v->Q v H':=ho
  cases q2:tups ds with
  | some ts =>
   rw [q2] at ho
   obtain ⟨hz,ho⟩:=Out.guard ho
   obtain ⟨hz1,hz3⟩:=Bool.and_eq_true_iff.mp hz
   obtain ⟨hz1,hz2⟩:=Bool.and_eq_true_iff.mp hz1
   have hz1:ts.length < 64:=of_decide_eq_true hz1
   have hz2:ts.Nodup:=of_decide_eq_true hz2
   rw [jQ q2] at rp
   have hl:its.length=ts.length:=by rw [<- rv.length,<- rp.length,List.length_map]
   have hk:its.map (ck X.prog X.w s.heap)=ts:=by
    refine List.ext_getElem? fun i=>?_
    rw [List.getElem?_map]
    by_cases hi:i < its.length
    ·obtain ⟨c,t,e1,e2,e3⟩:=item_at rp rv (List.getElem?_eq_getElem hi)
     rw [hK] at e3
     rw [List.getElem?_eq_getElem hi,e2,Option.map_some,e1,gk (fX I e3)]
    ·rw [List.getElem?_eq_none (by omega),List.getElem?_eq_none (by omega)]; rfl
   refine uV (key:=ck X.prog X.w s.heap) x2 (fun v m=>?_) (by rw [hk]; exact hz2) (by omega) fun out a1 a2=>?_
   ·obtain ⟨c,t,e1,e2,e3⟩:=qJ rp rv m
    rw [hK] at e3
    refine ⟨c,e1,?_⟩
    rw [e1,gk (fX I e3)]
    refine ⟨fX I e3,fun e=>?_⟩
    have:=List.all_eq_true.mp hz3 t e2
    rw [e] at this; cases this
   ·obtain ⟨ep,he⟩:=sortedAll_at s.heap its out.toArray
    have e:out.map (ck X.prog X.w s.heap)=b6 ts:=qK a2 fun y=>by rw [(a1.map _).mem_iff,hk]
    obtain ⟨vs,w1,w2⟩:=mE (Γ:=Γ) (ι:=ι) (H:=H) (out:=out) (ks:=b6 ts) (by rw [<- e,List.length_map]) fun i v k e1 e2=>by
     obtain ⟨c,t,e3,_,e4⟩:=qJ rp rv (a1.mem_iff.mp (List.mem_of_getElem? e1))
     refine ⟨c,e3,?_⟩
     have e5:=e4
     rw [hK] at e5
     rw [<- e,List.getElem?_map,e1,Option.map_some,e3,gk (fX I e5)] at e2
     cases e2
     exact e4
    refine ⟨.ref (s.heap.objs.size+1),_,I.laid (t':=s.toks) (o:=.lst vs) (fun b o q=>sortedAll_old q) (Nat.le_succ _) ⟨?_,out,ep,w1,he⟩,rfl,Out.alloc ho hS hp w2⟩
    rw [w1.length,a1.length_eq,hl,sizeLine_eq]; omega
  | none =>
   rw [q2] at ho
   exact ho.elim
end
end EV

namespace EV
open PySem PySem.Spec PyProof.Rows L2
section
variable {X:Cx} {Γ:Gx} {xw:XW} {iter tg c:Expr} {pos:Pos} {mi:Sg->M Src} {t:Tg} {mb:Sg->M Fl} {na:Sg->M Bool} {body:List Stmt}
theorem PS.nox {st:Stmt} {t:TS} (h:PS X.nox st t):PS X st t:=fun pins s σ H D I hw =>
 wpAny_mono (h pins s σ H D (I.cY _) hw) (fun f s' q=>q.eB) fun _ _ e=>e.elim
theorem Ec {D:Ends} {σ:L2.St} {H:Hp} (h:tMS Γ XF (fun σ=>mi σ>>=fun s=>forL s (fun d σ=>aO t d σ>>=fun σ'=>mb σ') s.its σ) D σ H):sU (tMI Γ XF mi) (tMG Γ t) (tMS Γ XF mb) D σ H:=by
 obtain ⟨σd,ι,S,hE,hS,ho⟩:=h
 refine ⟨σd,ι,S,hE,hS,ho.bind.mono fun src S1 ι1 H1 _ _ ⟨s1,e1,o1⟩ J hJ=>?_⟩
 generalize hf:(fun d σ=>aO t d σ>>=fun σ'=>mb σ')=f at o1
 generalize hR:forL src f src.its σd S1=R0 at o1
 refine ⟨fun i m σ H=>∃ ι' S' σd',i<=src.its.length/\m=src.its.length - i/\Ext ι1 ι' H1 H/\aq Γ ι' H S'/\aS Γ ι' H σ σd'/\forL src f (src.its.drop i) σd' S'=R0,
  ⟨src.its.length,ι1,S1,σd,Nat.zero_le _,rfl,.refl,s1,hE.ext e1,hR⟩,?_⟩
 rintro i m σ H ⟨ι',S',σd',hi,rfl,eH,sH,eE,hc⟩
 by_cases hlt:i < src.its.length
 ·rw [List.drop_eq_getElem_cons hlt] at hc
  have hc:(aI src>>=fun _=>f src.its[i] σd'>>=fun fl=>match fl with|.nx σ'=>forL src f (src.its.drop (i+1)) σ'|.ct σ'=>forL src f (src.its.drop (i+1)) σ'|.bk σ'=>pure (.nx σ')|.rt d=>pure (.rt d)) S'=R0:=hc
  rcases iU src S' with st|st
  ·rw [aj st] at hc
   obtain ⟨jgo,jyld⟩:=(hJ ι' H S' eH sH st).1 i src.its[i] (List.getElem?_eq_getElem hlt)
   refine .inr ⟨jgo,fun σ' H'=>∃ m',m' < src.its.length - i/\∃ ι' S' σd',i+1<=src.its.length/\m'=src.its.length - (i+1)/\Ext ι1 ι' H1 H'/\aq Γ ι' H' S'/\aS Γ ι' H' σ' σd'/\forL src f (src.its.drop (i+1)) σd' S'=R0,fun σ' H' h=>h,fun x H' yl=>?_⟩
   obtain ⟨eX,sX,rX⟩:=jyld x H' yl
   have hfd:f src.its[i] σd' S'=(aO t src.its[i] σd'>>=fun σ'=>mb σ') S':=by rw [<- hf]
   rcases ly t src.its[i] σd' S' with ⟨σd2,hb,_⟩|hb
   ·rw [aj hb] at hfd
    refine ⟨σd',ι',S',src.its[i],σd2,eE.ext eX,sX,rX,hb,fun σ2 hE2 _=>⟨σd2,ι',S',hE2,sX,?_⟩⟩
    have eA:=eH.trans eX
    cases qb:mb σd2 S' with
    | bad=>rw [qb] at hfd; rw [aV hfd] at hc; rw [<- hc] at o1; exact o1.elim
    | exc c S3=>rw [qb] at hfd; rw [cN hfd] at hc; rw [<- hc] at o1; exact fun ι3 H3 e3 s3=>o1 ι3 H3 (eA.trans e3) s3
    | ok fl S3 =>
     rw [qb] at hfd
     rw [aj hfd] at hc
     intro ι3 H3 e3 s3
     cases fl with
     | nx σ'=>exact fun σv hv=>⟨src.its.length - (i+1),by omega,ι3,S3,σ',hlt,rfl,eA.trans e3,s3,hv,hc⟩
     | ct σ'=>exact fun σv hv=>⟨src.its.length - (i+1),by omega,ι3,S3,σ',hlt,rfl,eA.trans e3,s3,hv,hc⟩
     | bk σ'=>rw [<- hc] at o1; exact fun σv hv=>o1 ι3 H3 (eA.trans e3) s3 σv hv
     | rt d=>rw [<- hc] at o1; exact fun v r=>o1 ι3 H3 (eA.trans e3) s3 v r
   ·rw [aV hb] at hfd; rw [aV hfd] at hc; rw [<- hc] at o1; exact o1.elim
  ·rw [aV st] at hc; rw [<- hc] at o1; exact o1.elim
 ·have ei:i=src.its.length:=by omega
  subst ei
  rw [List.drop_length] at hc
  have hc:(aI src>>=fun _=>pure (.nx σd')) S'=R0:=hc
  rcases iU src S' with st|st
  ·rw [aj st] at hc
   rw [<- hc] at o1
   exact .inl ⟨(hJ ι' H S' eH sH st).2,o1 ι' H eH sH σ eE⟩
  ·rw [aV st] at hc; rw [<- hc] at o1; exact o1.elim
theorem xq (hcalm:X.calm=true) (hi:PI X.nox tg iter (tMI Γ XF mi)) (hg:PG X.nox tg (tMG Γ t)) (hb:PSs X.nox body (tMS Γ XF mb)) (hs:∀ x,foldedSetIterable iter X.env x=pure x) :
  PS X (.For tg iter body [] pos) (tMS Γ xw fun σ=>quiet (mi σ>>=fun s=>forL s (fun d σ=>aO t d σ>>=fun σ'=>mb σ') s.its σ)) :=
 PS.nox (PS.imp (vf (X:=X.nox) PassesOwn.never hcalm hi hg hb hs) fun D σ H h=>by
  obtain ⟨σd,ι,S,hE,hS,ho⟩:=h
  exact Ec ⟨σd,ι,S,hE,hS,Out.quiet ho XF⟩)
end
section
variable {Γ:Gx} {ι ι':List Addr} {H H':Hp} {S S':aa}
theorem fE:∀ {ds:List D} {n:Nat},D.lows n ds=true ↔ ∀ (i:Nat) d,ds[i]?=some d->d.low n=true
 | [],n=>⟨fun _ i d h=>by simp at h,fun _=>rfl⟩
 | d::r,n=>by
  simp only [D.lows,Bool.and_eq_true]
  constructor
  ·rintro ⟨h1,h2⟩ i e h
   cases i with
   | zero=>simp at h; subst h; exact h1
   | succ i=>exact fE.mp h2 i e (by simpa using h)
  ·intro h
   exact ⟨h 0 d rfl,fE.mpr fun i e q=>h (i+1) e (by simpa using q)⟩
theorem Rep.low {d:D} {v:V} (r:Rep Γ ι H d v):d.low ι.length=true:=by
 induction r with
 | tup h1 h2 h3 ih =>
  show D.lows _ _=true
  refine fE.mpr fun i d e=>?_
  have hi:i < _:=(List.getElem?_eq_some_iff.mp e).1
  exact ih i d _ e (List.getElem?_eq_getElem (by omega))
 | fro h1 h2 h3 ih =>
  show D.lows _ _=true
  refine fE.mpr fun i d e=>?_
  have hi:i < _:=(List.getElem?_eq_some_iff.mp e).1
  exact ih i d _ e (List.getElem?_eq_getElem (by omega))
 | loc h=>exact decide_eq_true (List.getElem?_eq_some_iff.mp h).1
 | _=>rfl
theorem Rep.cut (hp:ι <+: ι') {d:D} {v:V} (r:Rep Γ ι' H d v) (hl:d.low ι.length=true):Rep Γ ι H d v:=by
 induction r with
 | non=>exact .non
 | bl b=>exact .bl b
 | int i=>exact .int i
 | str x=>exact .str x
 | tup h1 h2 h3 ih=>exact .tup h1 h2 fun i d v e1 e2=>ih i d v e1 e2 (fE.mp hl i d e1)
 | fro h1 h2 h3 ih=>exact .fro h1 h2 fun i d v e1 e2=>ih i d v e1 e2 (fE.mp hl i d e1)
 | @loc l a h =>
  have hlt:l < ι.length:=of_decide_eq_true hl
  obtain ⟨t,rfl⟩:=hp
  rw [List.getElem?_append_left hlt] at h
  exact .loc h
theorem au.low {ds:List D} {vs:List V} (r:au Γ ι H ds vs):D.lows ι.length ds=true:=fE.mpr fun i d e=>let ⟨_,_,r'⟩:=Paired.get r e; r'.low
theorem au.cut (hp:ι <+: ι'):∀ {ds:List D} {vs:List V},au Γ ι' H ds vs->D.lows ι.length ds=true->au Γ ι H ds vs
 | _,_,.nil,_=>.nil
 | _,_,.cons r t,h=>by
  rw [D.lows,Bool.and_eq_true] at h
  exact .cons (r.cut hp h.1) (au.cut hp t h.2)
theorem aR.cut (hp:ι <+: ι'):∀ {kvs:List (List Int × D)} {xs ys:List (List Key × V)} {H0:Hp},aR Γ ι' H kvs xs->aR Γ ι H0 kvs ys->aR Γ ι H kvs xs
 | _,_,_,_,.nil,_=>.nil
 | _,_,_,_,.cons r t,.cons r0 t0=>.cons ⟨r.1,r.2.cut hp r0.2.low⟩ (aR.cut hp t t0)
theorem Ext.back (e:Ext ι ι' H H'):Ext ι ι H H':=⟨List.prefix_refl _,e.tup,e.frz,e.oth,fun _ h n=>absurd h n⟩
theorem aq.back (e:Ext ι ι' H H') (h0:aq Γ ι H S) (h1:aq Γ ι' H' S') (ht:S'.take S.length=S):aq Γ ι H' S:=by
 refine ⟨h0.len,h0.nd,fun l c hc=>?_⟩
 have hl:l < S.length:=(List.getElem?_eq_some_iff.mp hc).1
 have hc':S'[l]?=some c:=by rw [<- ht,List.getElem?_take_of_lt hl] at hc; exact hc
 obtain ⟨a,ha,c1⟩:=h1.cell l c hc'
 obtain ⟨b,hb,c0⟩:=h0.cell l c hc
 have:=eV e.pre hb
 rw [ha] at this; cases this
 refine ⟨a,hb,?_⟩
 cases c with
 | lst ds=>obtain ⟨xs,hx,r⟩:=c1; obtain ⟨ys,_,r0⟩:=c0; exact ⟨xs,hx,au.cut e.pre r r0.low⟩
 | dct kvs=>obtain ⟨xs,hx,r⟩:=c1; obtain ⟨ys,_,r0⟩:=c0; exact ⟨xs,hx,aR.cut e.pre r r0⟩
theorem oN {xw:XW} {d:D} {v:V} {Q:VK} (h0:aq Γ ι H S) (e:Ext ι ι' H H') (h1:aq Γ ι' H' S') (r:Rep Γ ι' H' d v) (ho:Out Γ xw ι H (leave S d S') fun d _ ι' H'=>∀ v,Rep Γ ι' H' d v->Q v H'):Q v H':=by
 unfold leave at ho
 by_cases ht:S'.take S.length=S
 ·rw [if_pos ht] at ho
  by_cases hl:d.low S.length=true
  ·rw [if_pos hl] at ho
   exact ho ι H' e.back (aq.back e h0 h1 ht) v (r.cut e.pre (by rw [h0.len]; exact hl))
  ·rw [if_neg hl] at ho
   have dflt:Out Γ xw ι H (.ok d S') (fun d _ ι' H'=>∀ v,Rep Γ ι' H' d v->Q v H')->Q v H':=fun ho=>ho ι' H' e h1 v r
   cases d with
   | loc l =>
    dsimp only at ho
    cases q:S'[l]? with
    | none=>rw [q] at ho; exact dflt ho
    | some c =>
     rw [q] at ho
     dsimp only at ho
     by_cases hc:c.low S.length=true
     ·rw [if_pos hc] at ho
      cases r with
      | @loc _ a hla =>
       have hge:¬ l < S.length:=fun z=>hl (decide_eq_true z)
       have hna:a ∉ ι:=fun z=>by
        obtain ⟨j,hj⟩:=List.getElem?_of_mem z
        have hj1:=(List.getElem?_eq_some_iff.mp hj).1
        have:=g7 h1.nd hla (eV e.pre hj)
        rw [h0.len] at hj1
        omega
       have hHa:H a=none:=e.fresh a (List.mem_of_getElem? hla) hna
       have pre2:ι <+: ι++[a]:=List.prefix_append _ _
       refine ho (ι++[a]) H' ⟨pre2,e.tup,e.frz,e.oth,fun b hb hn=>?_⟩ ?_ _ (.loc (by rw [<- h0.len]; simp))
       ·rcases List.mem_append.mp hb with z|z
        ·exact absurd z hn
        ·have:b=a:=by simpa using z
         rw [this]; exact hHa
       ·have hb:=aq.back e h0 h1 ht
        obtain ⟨b,hb2,c1⟩:=h1.cell l c q
        rw [hla] at hb2; cases hb2
        cases c with
        | lst ds =>
         obtain ⟨xs,hx,rr⟩:=c1
         exact hb.take hna hx (au.cut e.pre rr (by rw [h0.len]; exact hc))
        | dct kvs=>cases hc
     ·rw [if_neg hc] at ho; exact dflt ho
   | _=>exact dflt ho
 ·rw [if_neg ht] at ho
  exact ho ι' H' e h1 v r
end
end EV

namespace PySem
open Sem (wp)
open AutoSeq1 (wpAny_loadPart')
section
variable {prog:Program} {w:World} {A:Around} {E:Value->Shared->Prop} {s:Shared}
theorem BQ {Q:List Value->Shared->Prop} {r:Addr} {a b c:Int} {t u v:Tok} {n:Nat} (hh:A.handled=none) (hr:IsRange s.heap r a b c t u v) (hsmall:Builtin.Range.small a b c=true)
  (hn:Builtin.Range.rangeSize a b c=n) (hlen:n<=2 ^ 24)
  (hQ:∀ (h':Heap) (tk:Nat) (acc:Array Value),(∀ b o',s.heap.get? b=some o'->h'.get? b=some o')->ItemsOf (fun i v=>∃ t,v=.int (a+i * c) t) acc n->Q acc.toList { s with heap:=h',toks:=tk }) :
  wpAny (model prog w) A (collect (.ref r)) Q E s:=by
 unfold collect
 refine wpAny_bind (wpAny_runValue (codeAny_builtin F.entry_proto_collect ?_))
 rw [Around.under_plainId F.plain_proto_collect _]
 show wpAny _ A.in1 (newList []>>=fun l=>again (.builtin "list.__iadd__" ⟨[l,.ref r],[]⟩)) _ _ s
 refine wpAny_bind (wpAny_newObj_type ?_)
 refine wpAny_pure ⟨plainId_quiet F.plain_list_iadd _,codeAny_builtin F.entry_list_iadd ?_⟩
 rw [Around.under_plainId F.plain_list_iadd _]
 show wpAny _ A.in1 (Builtin.List.listExtendWith (.ref s.heap.objs.size) (.ref r) (.ref s.heap.objs.size)) _ _ _
 have hS:(s.heap.push { cls:=.type "list",data:=.seq ([]:List Value).toArray }).get? s.heap.objs.size=some { cls:=.type "list",data:=.seq #[] 0 }:=Heap.get?_push_size _ rfl
 refine wpAny_mono (wpAny_extend_range (A:=A) (R:=fun r' s'=>r'=.ok (.ret (.ref s.heap.objs.size))/\∃ h' tk acc c',(∀ b o',s.heap.get? b=some o'->h'.get? b=some o')/\h'.get? s.heap.objs.size=some { cls:=.type "list",dict:=none,data:=.seq acc c',slots:=#[] }/\ItemsOf (fun i v=>∃ t,v=.int (a+i * c) t) acc n/\s'={ s with heap:=h',toks:=tk })
  (s:={ s with heap:=s.heap.push { cls:=.type "list",data:=.seq ([]:List Value).toArray } }) hh (Heap.get?_push_of_some _ hr) hsmall hn hlen _ _ 0 hS fun h' tk acc' c' hk hS' hacc=>⟨rfl,h',tk,acc',c',fun b o' hb=>hk b o' (Nat.ne_of_lt (Heap.lt_size hb)) (Heap.get?_push_of_some _ hb),hS',hacc,rfl⟩) (fun fin s' h=>?_) (fun e s' h=>?_)
 ·have fin':∀ s',(∃ h' tk acc c',(∀ b o',s.heap.get? b=some o'->h'.get? b=some o')/\h'.get? s.heap.objs.size=some { cls:=.type "list",dict:=none,data:=.seq acc c',slots:=#[] }/\ItemsOf (fun i v=>∃ t,v=.int (a+i * c) t) acc n/\s'={ s with heap:=h',toks:=tk }) ->
    wpAny (model prog w) A (match Value.ref s.heap.objs.size with
     | Value.ref a=>do
      match (<- load a).data with
       | Data.seq xs _=>pure xs.toList
       | _=>unsupported "internal:collect"
     | _=>unsupported "internal:collect") Q E s':=by
   rintro s' ⟨h',tk,acc,c',hk,hS',hacc,rfl⟩
   show wpAny _ A (load s.heap.objs.size>>=_) _ _ _
   exact wpAny_bind (wpAny_load hS' (wpAny_pure (hQ h' tk acc hk hacc)))
  cases fin with
  | done f =>
   obtain ⟨e,h⟩:=h
   cases e
   exact fin' s' h
  | again c'=>exact ⟨h.1,codeAny_mono h.2 fun r s'' hr=>by obtain ⟨rfl,h⟩:=hr; exact fin' s'' h⟩
 ·exact absurd h.1 (by simp)
end
theorem vZ (r:Addr) (a b c:Int) (t u v:Tok) (n:Nat) (hsmall:Builtin.Range.small a b c=true) (hn:Builtin.Range.rangeSize a b c=n) (hlen:n<=2 ^ 24) :
  Meets (Builtin.«tuple.__new__» ⟨[.type "tuple",.ref r],[]⟩)
   (fun A R s=>A.handled=none/\IsRange s.heap r a b c t u v/\∀ (h':Heap) (tk:Nat) (acc:Array Value),(∀ b o',s.heap.get? b=some o'->h'.get? b=some o')->ItemsOf (fun i v=>∃ t,v=.int (a+i * c) t) acc n->R (.ok (.ret (.ref h'.objs.size))) { s with heap:=h'.push { cls:=.type "tuple",data:=.seq acc },toks:=tk }) :=
 .of_wp fun prog w A R s h=>by
  obtain ⟨hp,g,d,tk,os⟩:=s; obtain ⟨hh,ht,h⟩:=h
  have hsub:=sub_tuple_self
  have hinit:=init_tuple_lookup
  have hmh:=madeHere_tuple
  have hT:Shared.TypeIs ⟨hp,g,d,tk,os⟩ (.ref r) "range":=⟨_,ht,rfl⟩
  have hh1:A.in1.handled=none:=hh
  wp_walk using wpAny_loadPart' ht,wpAny_typeOf hT,BQ hh1 ht hsmall hn hlen
  intro h' tk' acc hk hacc
  show wpAny _ _ (Builtin.Tuple.tupleExact acc.toList.toArray>>=fun v=>ret v) _ _ _
  unfold Builtin.Tuple.tupleExact
  refine wpAny_bind (wpAny_newObj_type ?_ (show acc.toList.toArray.size<=sizeLine by simp only [Array.toArray_toList]; rw [hacc.1,sizeLine_eq]; omega))
  refine wpAny_pure ⟨_,rfl,?_⟩
  have e:acc.toList.toArray=acc:=by simp
  rw [e]
  exact h h' tk' acc hk hacc
section
variable {prog:Program} {w:World} {A:Around} {E:Value->Shared->Prop} {s:Shared}
theorem zh {Q:Value->Shared->Prop} {r:Addr} {a b c:Int} {t u v:Tok} {n:Nat} (hh:A.handled=none) (hr:IsRange s.heap r a b c t u v) (hsmall:Builtin.Range.small a b c=true)
  (hn:Builtin.Range.rangeSize a b c=n) (hlen:n<=2 ^ 24)
  (h:∀ (h':Heap) (tk:Nat) (acc:Array Value),(∀ b o',s.heap.get? b=some o'->h'.get? b=some o')->ItemsOf (fun i v=>∃ t,v=.int (a+i * c) t) acc n->Q (.ref h'.objs.size) { s with heap:=h'.push { cls:=.type "tuple",data:=.seq acc },toks:=tk }) :
  wpAny (model prog w) A (call (.type "tuple") [.ref r]) Q E s :=
 callType_new F.called_tuple (by decide) (F.typeCall_tuple_1 _) (F.newCall_tuple_1 _) (fun obj=>F.args_object_init_2 obj _) F.entry_tuple_new
  (vZ r a b c t u v n hsmall hn hlen) ⟨hh,hr,fun h' tk acc hk hacc=>⟨⟨_,Heap.get?_push_size _ rfl,rfl⟩,h h' tk acc hk hacc⟩⟩
end
end PySem
namespace EV
open PySem PySem.Spec PyProof.Rows L2
section
variable {X:Cx} {Γ:Gx} {xw:XW} {sub:Sub} {a b:PySem.Expr} {ta:TA} {p pos:Pos}
noncomputable def gF (ta:TA):TE:=fun σ H Q=>ta σ H fun vs H1=>∃ lo hi:Int,((vs=[.int hi]/\lo=0)\/vs=[.int lo,.int hi])/\∀ p,H1 p=none->Q (.ref p) (upd H1 p (.rng lo hi))
theorem ur (hg:Gl X "range") (hm:X.mg "range" = none) (ha:PA X [a] ta) (hs:starEach [a] X.env=[(false,eval a X.env)]) (hl:∀ σ H Q,ta σ H Q->ta σ H fun vs H1=>vs.length=1/\Q vs H1):PE X (.Call (.Name "range" p) [a] [] pos) (gF ta):=by
 intro pins s σ H Q I h
 refine Call_ (cF I hg hm boot_range (PyProof.Rows.callWith_type1 (thn (ha pos pins s σ H _ I (hl _ _ _ h)) fun us s1 ⟨vs,H1,I1,r1,hlen,q1⟩=>?_) hs rfl))
 obtain ⟨lo,hi,e,q⟩:=q1
 rcases e with ⟨e,rfl⟩|e
 ·subst e
  obtain ⟨u,rfl,t,rfl⟩:=vals1 r1
  exact call_range_1 ⟨.ref _,_,I1.laid (o:=.rng 0 hi) (fun b o e=>Heap.get?_push_of_some _ e) (Nat.le_refl _) (show ∃ t u v,_ from ⟨_,_,_,Heap.get?_push_size _ rfl⟩),rfl,q _ (I1.hok.fresh (Nat.le_refl _))⟩
 ·subst e; cases hlen
theorem y9 (hg:Gl X "range") (hm:X.mg "range" = none) (ha:PA X [a,b] ta) (hs:starEach [a,b] X.env=[(false,eval a X.env),(false,eval b X.env)]) (hs2:starEach [b] X.env=[(false,eval b X.env)]) (hl:∀ σ H Q,ta σ H Q->ta σ H fun vs H1=>vs.length=2/\Q vs H1):PE X (.Call (.Name "range" p) [a,b] [] pos) (gF ta):=by
 intro pins s σ H Q I h
 refine Call_ (cF I hg hm boot_range (PyProof.Rows.callWith_type1 (thn (ha pos pins s σ H _ I (hl _ _ _ h)) fun us s1 ⟨vs,H1,I1,r1,hlen,q1⟩=>?_) (by rw [hs,hs2]) (by rw [hs2]; rfl)))
 obtain ⟨lo,hi,e,q⟩:=q1
 rcases e with ⟨e,rfl⟩|e
 ·subst e; cases hlen
 ·subst e
  obtain ⟨u,v,rfl,⟨t,rfl⟩,⟨t',rfl⟩⟩:=vals2 r1
  exact call_range_2 ⟨.ref _,_,I1.laid (o:=.rng lo hi) (fun b o e=>Heap.get?_push_of_some _ e) (Nat.le_refl _) (show ∃ t u v,_ from ⟨_,_,_,Heap.get?_push_size _ rfl⟩),rfl,q _ (I1.hok.fresh (Nat.le_refl _))⟩
theorem xZ {lo:Int} {n:Nat} {acc:Array Value} (h:ItemsOf (fun i v=>∃ t,v=.int (lo+i * 1) t) acc n):Vals ((List.range n).map fun (k:Nat)=>V.int (lo+k)) acc.toList:=by
 obtain ⟨h1,h2⟩:=h
 refine Paired.of_get (by simp [h1]) fun i x y e1 e2=>?_
 rw [List.getElem?_map] at e1
 have hi:i < n:=by
  have:=(List.getElem?_eq_some_iff.mp e2).1
  simpa [h1] using this
 rw [List.getElem?_range hi] at e1
 cases e1
 have e3:acc[i]?=some y:=by rw [<- Array.getElem?_toList]; exact e2
 obtain ⟨t,rfl⟩:=h2 i y e3
 exact ⟨t,by simp⟩
theorem Dg {lo hi:Int}:Builtin.Range.rangeSize lo hi 1=((hi - lo).toNat:Nat):=by rw [rangeSize_one]; split <;> omega
theorem uJ (hc:X.calm=true):bz X (.type "tuple") (fun xs H Q=>∃ p lo hi,xs=[.ref p]/\H p=some (.rng lo hi)/\(near lo=true/\near hi=true)/\(hi - lo).toNat<=aM/\∀ l,H l=none->Q (.ref l) (upd H l (.tup ((List.range (hi - lo).toNat).map fun (k:Nat)=>V.int (lo+k))))):=by
 intro pins s σ H xs us Q I r h
 obtain ⟨p,lo,hi,rfl,hp,⟨n1,n2⟩,hz,q⟩:=h
 obtain ⟨u,rfl,rx⟩:=vals1 r
 cases rx
 obtain ⟨t,u,v,hr⟩:=I.hok p _ hp
 have n1:=eL n1
 have n2:=eL n2
 refine zh (I.ok.hd hc) hr (small_one n1.1 n1.2 n2.1 n2.2) Dg hz fun h' tk acc hk hacc=>?_
 have hv:=xZ hacc
 have I1:Inv X pins σ H { s with heap:=h',toks:=tk }:=I.kept hk
 have hl:((List.range (hi - lo).toNat).map fun (k:Nat)=>V.int (lo+k)).length<=sizeLine:=by rw [List.length_map,List.length_range]; exact hz
 have I2:Inv X pins σ (upd H h'.objs.size (.tup ((List.range (hi - lo).toNat).map fun (k:Nat)=>V.int (lo+k)))) { s with heap:=h'.push { cls:=.type "tuple",data:=.seq acc },toks:=tk } :=
  I1.laid (t':=tk) (fun b o e=>Heap.get?_push_of_some _ e) (Nat.le_refl _) (show bg X.prog X.w _ _ _ (.tup _) from ⟨hl,acc.toList,hv,by simpa using IsTup.new _ _⟩)
 exact ⟨.ref h'.objs.size,_,I2,rfl,q _ (I1.hok.fresh (Nat.le_refl _))⟩
theorem uo {ds:List D} {is:List Int} (h:bN ds=some is) (hl:ds.length=1\/ds.length=2):∃ lo hi:Int,((ds=[.int hi]/\lo=0)\/ds=[.int lo,.int hi])/\near lo=true/\near hi=true/\is=(List.range (hi - lo).toNat).map fun (k:Nat)=>lo+k:=by
 match ds,h,hl with
 | [d],h,_ =>
  cases d with
  | int j =>
   simp only [bN] at h
   split at h
   ·rename_i hn
    cases h
    exact ⟨0,j,.inl ⟨rfl,rfl⟩,by decide,hn,lF 0 j⟩
   ·cases h
  | _=>cases h
 | [d,e],h,_ =>
  cases d with
  | int i =>
   cases e with
   | int j =>
    simp only [bN] at h
    split at h
    ·rename_i hn
     cases h
     rw [Bool.and_eq_true] at hn
     exact ⟨i,j,.inr rfl,hn.1,hn.2,lF i j⟩
    ·cases h
   | _=>cases h
  | _=>cases h
 | [],_,hl=>rcases hl with hl|hl <;> cases hl
 | _::_::_::_,_,hl=>simp at hl
theorem uE {m:Sg->M (List D)} {mk:List Int->M D} {mkV:List V->HO} {k:Nat} (hk:k=1\/k=2) (hlen:∀ σ S ds S',m σ S=.ok ds S'->ds.length=k)
  (hmk:∀ {ι H S} {Q:VK} {is:List Int} {p:Addr},Out Γ xw ι H (mk is S) (fun d _ ι' H'=>∀ v,Rep Γ ι' H' d v->Q v H')->aq Γ ι H S->H p=none->Q (.ref p) (upd H p (mkV (is.map .int))))
  {σ:L2.St} {H:Hp} {Q:VK} (h:tM Γ xw (fun σ=>m σ>>=fun ds=>opt (bN ds)>>=fun is=>guard (fits is.length) (mk is)) σ H Q) :
  gF (tMA Γ xw m) σ H fun x H1=>∃ p lo hi,[x]=[V.ref p]/\H1 p=some (.rng lo hi)/\(near lo=true/\near hi=true)/\(hi - lo).toNat<=aM/\∀ l,H1 l=none->Q (.ref l) (upd H1 l (mkV ((List.range (hi - lo).toNat).map fun (k:Nat)=>V.int (lo+k)))):=by
 obtain ⟨σd,ι,S,he,hs,ho⟩:=h
 refine ⟨σd,ι,S,he,hs,Out.monoE ho.bind fun ds S' ι' H' eq _ _ ⟨s',e',o'⟩ vs rs=>?_⟩
 have hl:=hlen _ _ _ _ eq
 obtain ⟨is,q,o'⟩:=Out.opt o'
 obtain ⟨hz,o'⟩:=Out.guard o'
 obtain ⟨lo,hi,e,n1,n2,rfl⟩:=uo q (by rw [hl]; exact hk)
 refine ⟨lo,hi,?_,fun p hp=>⟨p,lo,hi,rfl,bU,⟨n1,n2⟩,by simpa using of_decide_eq_true hz,fun l hl=>?_⟩⟩
 ·rcases e with ⟨rfl,rfl⟩|rfl
  ·exact .inl ⟨dm (is:=[hi]) rs,rfl⟩
  ·exact .inr (dm (is:=[lo,hi]) rs)
 ·have:=hmk (Out.step o' (Ext.laid hp (o:=.rng lo hi))) (s'.laid hp _) hl
  rw [List.map_map] at this
  exact this
theorem rM {m:Sg->M (List D)} {k:Nat} (hlen:∀ σ S ds S',m σ S=.ok ds S'->ds.length=k):∀ σ H Q,tMA Γ xw m σ H Q->tMA Γ xw m σ H fun vs H1=>vs.length=k/\Q vs H1:=fun σ H Q h=>by
 obtain ⟨σd,ι,S,he,hs,ho⟩:=h
 exact ⟨σd,ι,S,he,hs,Out.monoE ho fun ds S' ι' H' eq _ _ q vs rs=>⟨by rw [<- rs.length]; exact hlen _ _ _ _ eq,q vs rs⟩⟩
theorem AH {e:PySem.Expr} {m:Sg->M (List D)} {k:Nat} (hk:k=1\/k=2) (hc:X.calm=true) (hlen:∀ σ S ds S',m σ S=.ok ds S'->ds.length=k) (hr:PE X e (gF (tMA Γ xw m))) (hs:starEach [e] X.env=[(false,eval e X.env)]) (hg:Gl X "tuple") (hm:X.mg "tuple" = none) :
  PE X (.Call (.Name "tuple" p) [e] [] pos) (tM Γ xw fun σ=>m σ>>=biD sub .rangeT):=by
 refine PE.imp (qx (uJ hc) hg hm PyProof.Rows.boot_tuple (gW hr iR (by rw [hs]; rfl)) (by decide +kernel) (by decide +kernel) (by rw [hs]; rfl) rfl) fun σ H Q h=>?_
 exact uE (mk:=fun is=>pure (.tup (is.map .int))) (mkV:=.tup) hk hlen (fun ho hS hp=>Out.tup ho hS hp (g6 _)) h
end
end EV

namespace EV
open PySem
inductive GE where|fn|val (d:D)|cls
structure TC where
 sc:Scope
 N:List Str
 inF:Str->Bool
 gt:List (Str × GE)
noncomputable def idx:List Str->Str->Option Nat
 | [],_=>none
 | y::r,x=>if y=x then some 0 else (idx r x).map (· + 1)
noncomputable def eY (sc:Scope) (x:Str):Bool:=match sc.names.lookup x with
 | some .local=>true
 | some .cell=>true
 | some .free=>true
 | _=>false
noncomputable def dQ (c:TC) (x:Str):Bool:=match c.sc.names.lookup x with
 | some .local=>true
 | some .cell=>c.inF x
 | _=>false
noncomputable def glB (c:TC) (x:Str):Bool:=decide (c.sc.names.lookup x=some .globalImplicit)
noncomputable def dU (x:Str):Bool:=!(x==("__debug__" : Str))&&!(x==("__classdict__" : Str))
noncomputable def op2:Operator->Option Op2
 | .Add=>some .add
 | .Sub=>some .sub
 | .Mult=>some .mul
 | .FloorDiv=>some .fdiv
 | .Mod=>some .mod
 | .Pow=>some .pow
 | _=>none
noncomputable def cmO:CmpOp->Option Cm
 | .Lt=>some .lt
 | .LtE=>some .le
 | .Gt=>some .gt
 | .GtE=>some .ge
 | .Eq=>some .eq
 | .NotEq=>some .ne
 | .In=>some .isin
 | .NotIn=>some .dI
 | _=>none
noncomputable def nJ:Const->Option E
 | .none=>some (.c .non)
 | .bool b=>some (.c (.bl b))
 | .int i=>some (.c (.int i))
 | .str s=>some (.c (.str s))
 | _=>none
noncomputable def lS (c:TC) (x:Str):Option E :=
 if dU x then
  if eY c.sc x then (idx c.N x).map .v
  else if glB c x then match c.gt.lookup x with
   | some (.val d)=>some (.c d)
   | _=>none
  else none
 else none
noncomputable def eu (c:TC) (x:Str):Bool:=glB c x&&(c.gt.lookup x).isNone
noncomputable def lI (x:Str):Option Bi :=
 if x = "len" then some .len else if x = "all" then some .all else if x = "sum" then some .sum else if x = "min" then some .min
 else if x = "max" then some .max else if x = "sorted" then some .sorted else if x = "list" then some .list else if x = "tuple" then some .tuple else if x = "int" then some .int else none
noncomputable def kH (x:Str):Option Ty :=
 if x = "int" then some .int else if x = "bool" then some .bool else if x = "str" then some .str else if x = "list" then some .list else if x = "tuple" then some .tuple else if x = "dict" then some .dict else none
noncomputable def lA (x:Str):Option Me:=if x = "append" then some .append else none
noncomputable def bB (f:PySem.Expr->Option E):List PySem.Expr->Option E
 | []=>some .nl
 | e::r=>match f e,bB f r with
  | some a,some b=>some (.cs a b)
  | _,_=>none
noncomputable def trO (f:PySem.Expr->Option E):Option PySem.Expr->Option E
 | none=>some .nl
 | some e=>match f e with
  | some .nl=>none
  | o=>o
noncomputable def e9 (c:TC):List PySem.Expr->Option (List Nat)
 | []=>some []
 | .Name x _::r=>if dQ c x then match idx c.N x,e9 c r with
   | some i,some is=>some (i::is)
   | _,_=>none
  else none
 | _=>none
noncomputable def gY (c:TC):PySem.Expr->Option Tg
 | .Name x _=>if dQ c x then (idx c.N x).map .one else none
 | .Tuple es _ _=>(e9 c es).map .many
 | _=>none
noncomputable def isTup:PySem.Expr->Bool
 | .Tuple _ _ _=>true
 | _=>false
noncomputable def gK (c:TC) (x:Str):Bool:=eu c x&&decide (x = "range")
noncomputable def jM (c:TC) (x:Str):Bool:=eu c x&&decide (x = "enumerate")
noncomputable def jN (c:TC) (x:Str):Bool:=eu c x&&decide (x = "zip")
noncomputable def pair (es:List PySem.Expr):Bool:=decide (es.length=2)
noncomputable def few (es:List PySem.Expr):Bool:=decide (1<=es.length)&&decide (es.length<=3)
noncomputable def lQ:PySem.Expr->Bool
 | .Set _ _ _=>false
 | _=>true
noncomputable def trI (f:PySem.Expr->Option E) (c:TC) (tg:PySem.Expr) (e:PySem.Expr):Option E :=
 if lQ e then match e with
  | .Call (.Name x _) args [] _ =>
   if gK c x then (if few args then (bB f args).map .iRng else none)
   else if jM c x then match isTup tg,args with
    | true,[a]=>(f a).map .iEnum
    | _,_=>none
   else if jN c x then (if isTup tg&&pair args then (bB f args).map .iZip else none)
   else (f e).map .iSeq
  | _=>(f e).map .iSeq
 else none
noncomputable def mangle (x:Str):Str:=⟨#[0]++x.cps⟩
noncomputable def gO (scope sc:Scope):Scope :=
 { scope with names:=scope.names.map fun (n,k)=>if (k==.free&&sc.kind==.function&&sc.names.lookup n==some .cell) then (n,.cell) else (n,k) }
noncomputable def isFree (scope:Scope) (x:Str):Bool:=scope.names.any fun y=>decide (y.1=x)&&decide (y.2=.free)
noncomputable def own (scope:Scope):List Str:=(scope.names.filter fun y=>decide (y.2=.local)||decide (y.2=.cell)).map (·.1)
noncomputable def fT (scope:Scope) (x:Str):Str:=if isFree scope x then x else mangle x
noncomputable def inComp (c:TC) (scope:Scope):TC:={ c with sc:=gO scope c.sc,N:=c.N.map (fT scope)++own scope,inF:=fun x=>decide (scope.names.lookup x=some .cell) }
noncomputable def gq:List Str->Bool
 | []=>true
 | x::r=>!(r.any fun y=>decide (y=x))&&gq r
noncomputable def j_ (c:TC) (scope:Scope):Bool :=
 scope.names.all (fun y=>!decide (y.2=.free)||(match c.sc.names.lookup y.1 with|some .cell=>true|some .free=>true|_=>false)) &&
 gq (scope.names.map (·.1))&&decide (scope.kind=.function) &&
 scope.names.all (fun y=>!decide (y.2=.local)||decide (scope.names.lookup y.1=some .local)) &&
 gq (c.N.map (fT scope)++own scope) &&
 c.N.all (fun x=>if isFree scope x then !decide ((gO scope c.sc).names.lookup x=some .local) else !eY (gO scope c.sc) (mangle x))
noncomputable def Tg.nH (n:Nat):Tg->Bool
 | .one i=>decide (n<=i)
 | .many is=>is.all fun i=>decide (n<=i)
noncomputable def pZ:PySem.Expr->Bool
 | .Call _ [] [] _=>false
 | _=>true
noncomputable def two (es:List PySem.Expr):Bool:=decide (es.length=1)||decide (es.length=2)
noncomputable def qE (c:TC) (x:Str):Bool:=eu c x&&decide (x = "set")
noncomputable def C2:List PySem.Expr->Bool
 | [_]=>true
 | _=>false
noncomputable def kJ (c:TC) (x:Str):List PySem.Expr->Option (Bi × List PySem.Expr)
 | [.Call (.Name r _) ra [] _]=>if gK c r&&two ra then (if x = "tuple" then some (.rangeT,ra) else none) else if decide (x = "sorted")&&qE c r&&C2 ra then some (.sortedSet,ra) else none
 | _=>none
noncomputable def Fv:CmpOp->Option Bool
 | .Is=>some true
 | .IsNot=>some false
 | _=>none
noncomputable def Ft:PySem.Expr->Bool
 | .Constant k _ _=>(match k with
  | .none=>true
  | _=>false)
 | _=>false
noncomputable def l0:PySem.Expr->Bool
 | .Constant k _ _=>(match k with
  | .str _=>true
  | _=>false)
 | _=>false
noncomputable def BD:List PySem.Expr->Bool
 | [e]=>l0 e
 | _=>false
noncomputable def trE:Nat->TC->PySem.Expr->Option E
 | 0,_,_=>none
 | n+1,c,e=>match e with
  | .Name x _=>lS c x
  | .Constant k _ _=>nJ k
  | .BinOp a op b _=>match op2 op,trE n c a,trE n c b with
   | some o,some a',some b'=>some (.bin o a' b')
   | _,_,_=>none
  | .UnaryOp op a _=>match op,trE n c a with
   | .Not,some a'=>some (.not a')
   | .USub,some a'=>some (.neg a')
   | _,_=>none
  | .BoolOp op vs p=>match vs with
   | []=>none
   | [a]=>trE n c a
   | a::b::r=>match op,trE n c a,trE n c (.BoolOp op (b::r) p) with
    | .And,some a',some b'=>some (.and a' b')
    | .Or,some a',some b'=>some (.or a' b')
    | _,_,_=>none
  | .IfExp t a b _=>match trE n c t,trE n c a,trE n c b with
   | some t',some a',some b'=>some (.ite t' a' b')
   | _,_,_=>none
  | .Compare a ops cs _=>match ops,cs with
   | [op],[b]=>match cmO op,trE n c a,trE n c b,behindInMarks op b with
     | some o,some a',some b',false=>some (.cmp o a' b')
     | _,_,_,_=>none
   | [op,op'],[b,d]=>match cmO op,cmO op',trE n c a,trE n c b,trE n c d,lastMarks [op,op'] [b,d] with
    | some o,some o',some a',some b',some d',false=>some (.chn o o' a' b' d')
    | _,_,_,_,_,_=>none
   | _,_=>none
  | .Tuple es _ _=>(bB (trE n c) es).map .tup
  | .List es _=>(bB (trE n c) es).map .lst
  | .Dict ks vs _=>match ks,vs with
   | [],[]=>some .dnew
   | _,_=>none
  | .Subscript a i _=>match i with
   | .Slice lo hi none _=>match trE n c a,trO (trE n c) lo,trO (trE n c) hi with
    | some a',some l,some h=>some (.sl a' l h)
    | _,_,_=>none
   | .Slice _ _ (some _) _=>none
   | .Tuple es _ _=>match trE n c a,bB (trE n c) es with
    | some a',some es'=>some (.dget a' es')
    | _,_=>none
   | i=>match trE n c a,trE n c i with
    | some a',some i'=>some (.ix a' i')
    | _,_=>none
  | .Call f args kws cpos=>match f,kws with
   | .Name x _,[] =>
    if dU x&&glB c x then match c.gt.lookup x with
     | some .fn=>(bB (trE n c) args).map (.call x)
     | some _=>none
     | none =>
      if x = "isinstance" then match args with
       | [a,.Name y _]=>if dU y&&eu c y then match kH y,trE n c a with
         | some t,some a'=>some (.bi (.inst t) (.cs a' .nl))
         | _,_=>none
        else none
       | _=>none
      else match kJ c x args with
       | some (b,ra)=>(bB (trE n c) ra).map (.bi b)
       | none=>match args with
        | []=>none
        | a::r=>match lI x,bB (trE n c) (a::r) with
         | some b,some es=>some (.bi b es)
         | _,_=>none
    else none
   | .Attribute o name apos,[]=>match args with
    | []=>none
    | a::r=>if pZ o&&(apos.endLine==cpos.line)&&decide (args.length < 20) then match lA name,trE n c o,bB (trE n c) (a::r) with
      | some m,some o',some es=>some (.me m o' es)
      | _,_,_=>none
     else none
   | _,_=>none
  | .ListComp elt gens scope _=>match gens with
   | [⟨tg,iter,ifs,asy⟩]=>if asy=0&&j_ c scope then
     match trI (trE n c) c tg iter,gY (inComp c scope) tg,trE n (inComp c scope) elt,(match ifs with|[]=>some .nl|[t]=>trO (trE n (inComp c scope)) (some t)|_=>none) with
     | some it,some t,some el,some tt=>if t.nH c.N.length then some (.comp (own scope).length el t it tt) else none
     | _,_,_,_=>none
    else none
   | _=>none
  | _=>none
noncomputable def fD:PySem.Expr->Bool
 | .ListComp _ _ _ _=>false
 | .SetComp _ _ _ _=>false
 | .DictComp _ _ _ _ _=>false
 | _=>true
noncomputable def oA:PySem.Expr->PySem.Expr->Bool
 | .Name _ _,_=>true
 | .Tuple _ _ _,v=>!isTup v&&fD v
 | _,_=>false
noncomputable def cS (f:Stmt->Option S):List Stmt->Option S
 | []=>some .skip
 | [s]=>f s
 | s::r=>match f s,cS f r with
  | some a,some b=>some (.seq a b)
  | _,_=>none
noncomputable def jI (c:TC):PySem.Expr->Option S
 | .Call f args kws _=>match f,kws with
  | .Name x _,[]=>if BD args&&(dU x&&glB c x) then match c.gt.lookup x with
    | some .cls=>some (.rais x)
    | _=>none
   else none
  | _,_=>none
 | _=>none
noncomputable def m9:PySem.Expr->Bool
 | .Slice _ _ _ _=>false
 | .Tuple _ _ _=>false
 | _=>true
noncomputable def jA (f:PySem.Expr->Option E) (e:PySem.Expr):PySem.Expr->Option S
 | .Subscript o (.Tuple es _ _) _=>if fD e then match f o,bB f es,f e with
   | some a,some b,some d=>some (.dset a b d)
   | _,_,_=>none
  else none
 | .Subscript o i _=>if fD e&&m9 i then match f o,f i,f e with
   | some a,some b,some d=>some (.setIx a b d)
   | _,_,_=>none
  else none
 | _=>none
noncomputable def trS (m:Nat):Nat->TC->Stmt->Option S
 | 0,_,_=>none
 | n+1,c,s=>match s with
  | .Return none _=>some .retN
  | .Return (some e) _=>(trE m c e).map .ret
  | .Expr e _=>if l0 e then some .skip else if fD e then (trE m c e).map .ex else none
  | .Pass _=>some .skip
  | .Assign ts e _=>match ts with
   | [tg]=>if oA tg e then match gY c tg,trE m c e with
     | some t,some e'=>some (.set t e')
     | _,_=>none
    else jA (trE m c) e tg
   | _=>none
  | .If t a b _=>match trE m c t,cS (trS m n c) a,cS (trS m n c) b with
   | some t',some a',some b'=>some (.ite t' a' b')
   | _,_,_=>none
  | .For tg it body els _=>match els,gY c tg,trI (trE m c) c tg it,cS (trS m n c) body with
   | [],some t,some i,some b=>some (.forS t i b)
   | _,_,_,_=>none
  | .Raise (some e) none _=>jI c e
  | _=>none
noncomputable def depth:Nat:=60
noncomputable def argNames (a:Arguments):List Str:=a.args.map (·.arg)
noncomputable def iH (a:Arguments):Bool:=a.posonlyargs.isEmpty&&a.vararg.isNone&&a.kwonlyargs.isEmpty&&a.kw_defaults.isEmpty&&a.kwarg.isNone&&a.defaults.isEmpty
noncomputable def namesOf (a:Arguments) (sc:Scope):List Str:=argNames a++(sc.names.filter fun y=>(decide (y.2=.local)||decide (y.2=.cell))&&!((argNames a).any fun x=>decide (x=y.1))).map (·.1)
noncomputable def fF (gt:List (Str × GE)) (a:Arguments) (sc:Scope):TC:=⟨sc,namesOf a sc,fun _=>true,gt⟩
noncomputable def cL (a:Arguments) (sc:Scope):Bool :=
 iH a&&decide (sc.kind=.function)&&!sc.isCoroutine&&!sc.isGenerator&&gq (namesOf a sc)&&(argNames a).all (fun x=>match sc.names.lookup x with|some .local=>true|some .cell=>true|_=>false)&&sc.names.all fun y=>!decide (y.2=.free)
noncomputable def trF (gt:List (Str × GE)):Stmt->Option Fn
 | .FunctionDef _ a body _ _ _ sc _ _ _=>if cL a sc then (cS (trS depth depth (fF gt a sc)) body).map fun b=>⟨(argNames a).length,(namesOf a sc).length,b⟩ else none
 | _=>none
end EV

namespace EV
open PySem PySem.Spec PyProof.Rows L2
theorem gy:∀ {l:List Str} {x:Str} {i:Nat},idx l x=some i->l[i]?=some x
 | [],_,_,h=>by cases h
 | y::r,x,i,h=>by
  unfold idx at h
  by_cases e:y=x
  ·rw [if_pos e] at h; cases h; subst e; rfl
  ·rw [if_neg e] at h
   cases q:idx r x with
   | none=>rw [q] at h; cases h
   | some j=>rw [q] at h; cases h; show r[j]?=some x; exact gy q
theorem iS:∀ {l:List Str},gq l=true->l.Nodup
 | [],_=>List.nodup_nil
 | x::r,h=>by
  rw [gq,Bool.and_eq_true] at h
  refine List.nodup_cons.mpr ⟨fun m=>?_,iS h.2⟩
  have:(r.any fun y=>decide (y=x))=true:=List.any_eq_true.mpr ⟨x,m,decide_eq_true rfl⟩
  rw [this] at h; exact absurd h.1 (by simp)
theorem uP {sc:Scope} {x:Str} (h:eY sc x=true):Vis sc x:=by
 unfold eY at h
 unfold Vis
 cases q:sc.names.lookup x with
 | none=>rw [q] at h; cases h
 | some k=>rw [q] at h; cases k <;> first|exact .inl rfl|exact .inr (.inl rfl)|exact .inr (.inr rfl)|cases h
theorem Al {sc:Scope} {x:Str} (h:Vis sc x):eY sc x=true:=by
 unfold eY
 rcases h with h|h|h <;> rw [h]
theorem sN {x:Str} (h:dU x=true):(x==("__debug__" : Str))=false/\(x==("__classdict__" : Str))=false:=by
 unfold dU at h
 rw [Bool.and_eq_true] at h
 exact ⟨by simpa using h.1,by simpa using h.2⟩
structure Cok (c:TC) (X:Cx):Prop where
 sc:X.env.scope=c.sc
 N:X.N=c.N
 nd:X.N.Nodup
 kind:c.sc.kind=.function
 fn:∀ x,c.inF x=true->X.fn x=true
theorem Cok.gl {c:TC} {X:Cx} (C:Cok c X) {x:Str} (h:glB c x=true):Gl X x:=by
 show X.env.scope.names.lookup x=_
 rw [C.sc]; exact of_decide_eq_true h
theorem Cok.loc {c:TC} {X:Cx} (C:Cok c X) {x:Str} (h:dQ c x=true):L2.Loc X.env.scope x/\(X.fn x=true\/X.env.scope.names.lookup x=some .local):=by
 unfold dQ at h
 unfold L2.Loc
 rw [C.sc]
 cases q:c.sc.names.lookup x with
 | none=>rw [q] at h; cases h
 | some k =>
  rw [q] at h
  cases k with
  | «local»=>exact ⟨.inl rfl,.inr rfl⟩
  | cell=>exact ⟨.inr rfl,.inl (C.fn x h)⟩
  | _=>cases h
theorem yS {scope:Scope} {env:Env}:relabel scope env=gO scope env.scope:=rfl
noncomputable def dN:List Str:=["len","all","any","sum","min","max","sorted","abs","list","tuple","int","bool","str","dict","range","enumerate","isinstance","set","zip"]
section
variable (Γ:Gx) (W:XW->Prop) (CX:CXT) (EW:XW->XK)
noncomputable def spF (g:List D->M D) (n:Nat):Sp:=fun vs H Q E=>vs.length=n/\∃ xw,W xw/\E=EW xw/\∃ ι S ds,aq Γ ι H S/\au Γ ι H ds vs/\Out Γ xw ι H (g ds S) fun d _ ι' H'=>∀ v,Rep Γ ι' H' d v->Q v H'
structure Fam (gt:List (Str × GE)) (cf:Str->List D->M D) (X:Cx) (xw:XW):Prop where
 hK:Γ.K=X.K
 calm:X.calm=true
 un:X.A.units+64 < cLine
 blt:∀ x∈dN,gt.lookup x=none->X.mg x=none
 val:∀ x d,gt.lookup x=some (.val d)->∃ u v,X.mg x=some u/\RelV v u/\∀ ι H,Rep Γ ι H d v
 fn:∀ x,gt.lookup x=some .fn->∃ k f fd ps,dR X.prog X.w X.K X.mg X.base CX k f fd ps (spF Γ W EW (cf x) ps.length)/\bJ k X.A/\X.mg x=some (.ref f)/\PySem.W.keepIn X.K (.ref f)=true/\Binds X.K fd ps []/\∀ ds S,ds.length≠ps.length->cf x ds S=.bad
 pass:Passes CX X (EW xw)
 noF:∀ outer H s e s',¬ CX outer H s (EW XF) e s'
 ok:W xw
 okF:W XF
end
section
variable {Γ:Gx} {W:XW->Prop} {CX:CXT} {EW:XW->XK} {gt:List (Str × GE)} {cf:Str->List D->M D} {X:Cx} {xw:XW}
theorem Fam.nox (F:Fam Γ W CX EW gt cf X xw):Fam Γ W CX EW gt cf X.nox XF :=
 ⟨F.hK,F.calm,F.un,F.blt,F.val,F.fn,fun _ _ _ _ _ _ _ h=>(F.noF _ _ _ _ _ h).elim,F.noF,F.okF,F.okF⟩
theorem Fam.comp (F:Fam Γ W CX EW gt cf X xw) (scope:Scope) (cl:List (Str × Addr)) (N':List Str) (fp:List Addr) (s3:Shared) (H3:Hp):Fam Γ W CX EW gt cf (aL X scope cl N' fp s3 H3) XF :=
 ⟨F.hK,F.calm,F.un,F.blt,F.val,F.fn,fun _ _ _ _ _ _ _ h=>(F.noF _ _ _ _ _ h).elim,F.noF,F.okF,F.okF⟩
theorem Cok.nox {c:TC} (C:Cok c X):Cok c X.nox:=⟨C.sc,C.N,C.nd,C.kind,C.fn⟩
end
theorem uh {scope:Scope} {x:Str} (h:isFree scope x=true):(x,NameKind.free)∈scope.names:=by
 obtain ⟨⟨n,k⟩,m,e⟩:=List.any_eq_true.mp h
 rw [Bool.and_eq_true] at e
 obtain ⟨e1,e2⟩:=e
 have e1:n=x:=of_decide_eq_true e1
 have e2:k=.free:=of_decide_eq_true e2
 subst e1; subst e2; exact m
theorem oQ {c:TC} {X:Cx} {scope:Scope} (C:Cok c X) (h:j_ c scope=true):dZ X scope (inComp c scope).N (own scope).length /\
  ∀ cl fp s3 H3,Cok (inComp c scope) (aL X scope cl (inComp c scope).N fp s3 H3):=by
 unfold j_ at h
 simp only [Bool.and_eq_true] at h
 obtain ⟨⟨⟨⟨⟨h1,h2⟩,h3⟩,h4⟩,h5⟩,h6⟩:=h
 rw [List.all_eq_true] at h1 h4 h6
 have hrel:relabel scope X.env=gO scope c.sc:=by rw [yS,C.sc]
 refine ⟨⟨fun y hy hf=>?_,iS h2,of_decide_eq_true h3,fun y hy hl=>?_,?_,fun i x hi hx hv=>?_⟩,fun cl fp s3 H3=>⟨hrel,rfl,iS h5,?_,fun _ h=>h⟩⟩
 ·have:=h1 y hy
  rw [Bool.or_eq_true] at this
  rcases this with z|z
  ·rw [hf] at z; simp at z
  ·show X.env.scope.names.lookup y.1=_\/X.env.scope.names.lookup y.1=_
   rw [C.sc]
   cases q:c.sc.names.lookup y.1 with
   | none=>rw [q] at z; cases z
   | some k=>rw [q] at z; cases k <;> first|exact .inl rfl|exact .inr rfl|cases z
 ·have:=h4 y hy
  rw [Bool.or_eq_true] at this
  rcases this with z|z
  ·rw [hl] at z; simp at z
  ·exact of_decide_eq_true z
 ·show (c.N.map (fT scope)++own scope).length=_
  rw [List.length_append,List.length_map,C.N]
 ·have hx:(c.N.map (fT scope)++own scope)[i]?=some x:=hx
  have hi':i < c.N.length:=by rw [<- C.N]; exact hi
  rw [List.getElem?_append_left (by rw [List.length_map]; exact hi'),List.getElem?_map,List.getElem?_eq_getElem hi'] at hx
  have hx:fT scope c.N[i]=x:=Option.some.inj hx
  have hm:=h6 c.N[i] (List.getElem_mem hi')
  rw [hrel] at hv ⊢
  unfold fT at hx
  by_cases hf:isFree scope c.N[i]=true
  ·rw [if_pos hf] at hx hm
   subst hx
   refine ⟨by rw [C.N]; exact List.getElem?_eq_getElem hi',uh hf,fun z=>?_⟩
   rw [z] at hm; simp at hm
  ·rw [if_neg hf] at hx hm
   subst hx
   rw [Al hv] at hm; simp at hm
 ·exact of_decide_eq_true h3
end EV

namespace EV
open PySem PySem.Spec PyProof.Rows L2
theorem br {n:Nat} {c:TC} {a:PySem.Expr} {a':E} (h:trE n c a=some a'):∀ es env,starEach (a::es) env=(false,eval a env)::starEach es env:=by
 cases n with
 | zero=>cases h
 | succ n=>cases a <;> first|(intro _ _; rfl)|cases h
theorem bH {f:PySem.Expr->Option E} {e:PySem.Expr} {r:List PySem.Expr} {es:E} (h:bB f (e::r)=some es):∃ a b,f e=some a/\bB f r=some b/\es=.cs a b:=by
 unfold bB at h
 cases q:f e with
 | none=>rw [q] at h; cases h
 | some a =>
  rw [q] at h
  cases q2:bB f r with
  | none=>rw [q2] at h; cases h
  | some b=>rw [q2] at h; cases h; exact ⟨a,b,rfl,rfl,rfl⟩
theorem f6 {n:Nat} {c:TC}:∀ {es:List PySem.Expr} {es':E},bB (trE n c) es=some es'->∀ env pos,(backTo pos (starEach es env)).any (·.1)=false/\(backTo pos (starEach es env)).all (fun x=>!x.1)=true
 | [],_,_,_,_=>⟨rfl,rfl⟩
 | e::r,_,h,env,pos=>by
  obtain ⟨a,b,h1,h2,_⟩:=bH h
  rw [br h1]
  obtain ⟨z1,z2⟩:=f6 h2 env pos
  constructor
  ·show (List.map _ ((false,eval e env)::starEach r env)).any _=false
   rw [List.map_cons,List.any_cons]
   have:(List.map (fun x:Bool × Sem Value=>(x.1,if x.1=true then do let v <- x.2; standAt pos; pure v else x.2)) (starEach r env)).any (·.1)=false:=z1
   simpa using this
  ·show (List.map _ ((false,eval e env)::starEach r env)).all _=true
   rw [List.map_cons,List.all_cons]
   have:(List.map (fun x:Bool × Sem Value=>(x.1,if x.1=true then do let v <- x.2; standAt pos; pure v else x.2)) (starEach r env)).all (fun x=>!x.1)=true:=z2
   simpa using this
section
variable {Γ:Gx} {W:XW->Prop} {CX:CXT} {EW:XW->XK} {gt:List (Str × GE)} {cf:Str->List D->M D} {sub:Sub} {X:Cx} {xw:XW}
theorem zw (hw:W xw) {ps:List Str} {m:Sg->M (List D)} {i:Str} (hb:∀ ds S,ds.length≠ps.length->cf i ds S=.bad) {σ:L2.St} {H:Hp} {Q:VK} (h:tM Γ xw (fun σ=>m σ>>=cf i) σ H Q) :
  jF (spF Γ W EW (cf i) ps.length) [] (EW xw) (tMA Γ xw m) σ H Q:=by
 obtain ⟨σd,ι,S,he,hs,ho⟩:=h
 refine ⟨σd,ι,S,he,hs,ho.bind.mono fun ds S' ι' H' _ _ ⟨s',e',o'⟩ vs rs=>?_⟩
 show spF Γ W EW (cf i) ps.length (vs++[]) H' Q (EW xw)
 rw [List.append_nil]
 refine ⟨?_,xw,hw,rfl,ι',S',ds,s',rs,o'⟩
 by_cases hl:ds.length=ps.length
 ·rw [<- rs.length]; exact hl
 ·rw [hb ds S' hl] at o'; exact o'.elim
theorem yD (F:Fam Γ W CX EW gt cf X xw) {x:Str} (hx:gt.lookup x=some .fn) (hg:Gl X x) (hdb:(x==("__debug__" : Str))=false) {a:PySem.Expr} {es:List PySem.Expr} {m:Sg->M (List D)} {p pos:Pos}
  (ha:PA X (a::es) (tMA Γ xw m)) (he:starEach (a::es) X.env=(false,eval a X.env)::starEach es X.env) (hpl:(backTo pos (starEach es X.env)).any (·.1)=false) :
  PE X (.Call (.Name x p) (a::es) [] pos) (tM Γ xw fun σ=>m σ>>=cf x):=by
 obtain ⟨k,f,fd,ps,hf,hr,hm,hk,hb,hl⟩:=F.fn x hx
 exact PE.imp (wV hf hr hg hm hk hb .nil F.pass ha hdb he hpl) fun σ H Q h=>zw F.ok hl h
theorem AV (F:Fam Γ W CX EW gt cf X xw) {x:Str} (hx:gt.lookup x=some .fn) (hg:Gl X x) (hdb:(x==("__debug__" : Str))=false) {p pos:Pos} :
  PE X (.Call (.Name x p) [] [] pos) (tM Γ xw fun _=>cf x []):=by
 obtain ⟨k,f,fd,ps,hf,hr,hm,hk,hb,hl⟩:=F.fn x hx
 refine PE.imp (Ce hf hr hg hm hk hb .nil F.pass hdb) fun σ H Q h=>?_
 obtain ⟨σd,ι,S,he,hs,ho⟩:=h
 have ho:Out Γ xw ι H (cf x [] S) fun d x ι' H'=>∀ (v:V),Rep Γ ι' H' d v->Q v H':=ho
 refine ⟨?_,xw,F.ok,rfl,ι,S,[],hs,.nil,ho⟩
 by_cases hz:([]:List D).length=ps.length
 ·exact hz
 ·rw [hl [] S hz] at ho; exact ho.elim
theorem nZ (F:Fam Γ W CX EW gt cf X xw) {x:Str} (h:gt.lookup x=none) (hm:x∈dN):X.mg x=none:=F.blt x hm h
theorem zT (F:Fam Γ W CX EW gt cf X xw) {x:Str} {b:Bi} (hb:lI x=some b) (hn:gt.lookup x=none) (hg:Gl X x) {a:PySem.Expr} {es:List PySem.Expr} {m:Sg->M (List D)} {p pos:Pos}
  (ha:PA X (a::es) (tMA Γ xw m)) (he:starEach (a::es) X.env=(false,eval a X.env)::starEach es X.env) (hpl:(backTo pos (starEach es X.env)).any (·.1)=false) :
  PE X (.Call (.Name x p) (a::es) [] pos) (tM Γ xw fun σ=>m σ>>=biD sub b):=by
 have hm:x∈dN->X.mg x=none:=nZ F hn
 unfold lI at hb
 by_cases e:x = "len"
 ·subst e; rw [if_pos rfl] at hb; cases hb
  exact fS (Ea F.hK) hg (hm (by decide +kernel)) PySem.boot_len ha (by decide +kernel) (by decide +kernel) he hpl
 rw [if_neg e] at hb; clear e
 by_cases e:x = "all"
 ·subst e; rw [if_pos rfl] at hb; cases hb
  exact fS (yh F.hK F.calm) hg (hm (by decide +kernel)) boot_all ha (by decide +kernel) (by decide +kernel) he hpl
 rw [if_neg e] at hb; clear e
 by_cases e:x = "sum"
 ·subst e; rw [if_pos rfl] at hb; cases hb
  exact fS (wK F.hK F.calm) hg (hm (by decide +kernel)) boot_sum ha (by decide +kernel) (by decide +kernel) he hpl
 rw [if_neg e] at hb; clear e
 by_cases e:x = "min"
 ·subst e; rw [if_pos rfl] at hb; cases hb
  exact fS (A9 F.hK F.calm) hg (hm (by decide +kernel)) boot_min ha (by decide +kernel) (by decide +kernel) he hpl
 rw [if_neg e] at hb; clear e
 by_cases e:x = "max"
 ·subst e; rw [if_pos rfl] at hb; cases hb
  exact fS (C1 F.hK F.calm) hg (hm (by decide +kernel)) boot_max ha (by decide +kernel) (by decide +kernel) he hpl
 rw [if_neg e] at hb; clear e
 by_cases e:x = "sorted"
 ·subst e; rw [if_pos rfl] at hb; cases hb
  exact fS (xD F.hK) hg (hm (by decide +kernel)) boot_sorted ha (by decide +kernel) (by decide +kernel) he hpl
 rw [if_neg e] at hb; clear e
 by_cases e:x = "list"
 ·subst e; rw [if_pos rfl] at hb; cases hb
  exact j5 (yy F.hK) hg (hm (by decide +kernel)) PyProof.Rows.boot_list ha (by decide +kernel) (by decide +kernel) he hpl
 rw [if_neg e] at hb; clear e
 by_cases e:x = "tuple"
 ·subst e; rw [if_pos rfl] at hb; cases hb
  exact j5 (zu F.hK) hg (hm (by decide +kernel)) PyProof.Rows.boot_tuple ha (by decide +kernel) (by decide +kernel) he hpl
 rw [if_neg e] at hb; clear e
 by_cases e:x = "int"
 ·subst e; rw [if_pos rfl] at hb; cases hb
  exact j5 Fe hg (hm (by decide +kernel)) PyProof.Rows.boot_int ha (by decide +kernel) (by decide +kernel) he hpl
 rw [if_neg e] at hb; cases hb
theorem Cv (F:Fam Γ W CX EW gt cf X xw) {y:Str} {t:Ty} (hb:kH y=some t) (hn:gt.lookup y=none):∃ T,t.name=some T/\bootBuiltins y=some (.type T)/\X.mg y=none/\y≠"__name__"/\(y==("__debug__" : Str))=false:=by
 have hm:y∈dN->X.mg y=none:=nZ F hn
 unfold kH at hb
 by_cases e:y = "int"
 ·subst e; rw [if_pos rfl] at hb; cases hb
  exact ⟨_,rfl,PyProof.Rows.boot_int,hm (by decide +kernel),by decide +kernel,by decide +kernel⟩
 rw [if_neg e] at hb; clear e
 by_cases e:y = "bool"
 ·subst e; rw [if_pos rfl] at hb; cases hb
  exact ⟨_,rfl,PyProof.Rows.boot_bool,hm (by decide +kernel),by decide +kernel,by decide +kernel⟩
 rw [if_neg e] at hb; clear e
 by_cases e:y = "str"
 ·subst e; rw [if_pos rfl] at hb; cases hb
  exact ⟨_,rfl,PyProof.Rows.boot_str,hm (by decide +kernel),by decide +kernel,by decide +kernel⟩
 rw [if_neg e] at hb; clear e
 by_cases e:y = "list"
 ·subst e; rw [if_pos rfl] at hb; cases hb
  exact ⟨_,rfl,PyProof.Rows.boot_list,hm (by decide +kernel),by decide +kernel,by decide +kernel⟩
 rw [if_neg e] at hb; clear e
 by_cases e:y = "tuple"
 ·subst e; rw [if_pos rfl] at hb; cases hb
  exact ⟨_,rfl,PyProof.Rows.boot_tuple,hm (by decide +kernel),by decide +kernel,by decide +kernel⟩
 rw [if_neg e] at hb; clear e
 by_cases e:y = "dict"
 ·subst e; rw [if_pos rfl] at hb; cases hb
  exact ⟨_,rfl,PyProof.Rows.boot_dict,hm (by decide +kernel),by decide +kernel,by decide +kernel⟩
 rw [if_neg e] at hb; cases hb
theorem xh (F:Fam Γ W CX EW gt cf X xw) {name:Str} {me:Me} (hb:lA name=some me) {o a:PySem.Expr} {es:List PySem.Expr} {apos cpos:Pos} {mo:Sg->M D} {m:Sg->M (List D)}
  (ho:PE X o (tM Γ xw mo)) (ha:PA X (a::es) (tMA Γ xw m)) (hc0:pZ o=true) (hlen:(a::es).length < 20) (hall:(backTo cpos (starEach (a::es) X.env)).all (fun x=>!x.1)=true)
  (hline:(apos.endLine==cpos.line)=true) (hs:starEach (a::es) X.env=(false,eval a X.env)::starEach es X.env) (hplain:(backTo cpos (starEach es X.env)).any (·.1)=false) :
  PE X (.Call (.Attribute o name apos) (a::es) [] cpos) (tM Γ xw fun σ=>mo σ>>=fun x=>iD x (m σ>>=fun ds=>meD me x ds)):=by
 have hbase:attributeBase o name X.env (eval o X.env)=eval o X.env:=by
  unfold attributeBase
  cases o with
  | Call f as ks p =>
   cases as with
   | cons _ _=>cases f <;> rfl
   | nil =>
    cases ks with
    | nil=>cases hc0
    | cons _ _=>cases f <;> rfl
  | _=>rfl
 have hfew:((backTo cpos (starEach (a::es) X.env)).all (fun x=>!x.1)&&(backToKw cpos (keywordEach [] X.env)).all (fun x=>x.1.isSome)&&decide ((a::es).length+([]:List Keyword).length+(if ([]:List Keyword).isEmpty then 0 else 1) < 30))=true:=by
  rw [hall]
  show (true&&true&&decide ((a::es).length+0+0 < 30))=true
  rw [decide_eq_true (show (a::es).length+0+0 < 30 by omega)]
  rfl
 unfold lA at hb
 by_cases e:name = "append"
 ·subst e; rw [if_pos rfl] at hb; cases hb
  exact CG F.hK PySem.F.plainAttrs_list PySem.F.slot_list_append PySem.F.type_list_append CN ho ha hbase hfew hline hs hplain
 rw [if_neg e] at hb; clear e
 cases hb
end
end EV

namespace EV
open PySem PySem.Spec PyProof.Rows L2
section
variable (Γ:Gx) (sub:Sub) (cf:Str->List D->M D)
structure ClE (X:Cx) (xw:XW) (e:PySem.Expr) (e':E):Prop where
 pe:PE X e (tM Γ xw (ev sub cf e'))
 pt:PT X e (tMT Γ xw (evT sub cf e'))
 pw:(∃ op vs p,e=.BoolOp op vs p)->PW X e (tMT Γ xw (evT sub cf e'))
end
section
variable {Γ:Gx} {W:XW->Prop} {CX:CXT} {EW:XW->XK} {gt:List (Str × GE)} {cf:Str->List D->M D} {sub:Sub} {X:Cx} {xw:XW}
theorem pP {e:PySem.Expr}:PT X e (tMT Γ xw fun _=>bad):=fun _ _ _ _ _ _ h=>by
 obtain ⟨_,_,_,_,_,ho⟩:=h
 exact ho.elim
theorem noBool {e:PySem.Expr} (h:∀ op vs p,e≠.BoolOp op vs p) {P:Prop}:(∃ op vs p,e=.BoolOp op vs p)->P:=fun ⟨op,vs,p,q⟩=>(h op vs p q).elim
theorem bx {e:PySem.Expr} {e':E} (hK:Γ.K=X.K) (h:PE X e (tM Γ xw (ev sub cf e'))) (he:∀ whole,isTrue e X.env whole=(do let v <- whole; standAt e.pos; holding [v] (truthy v)))
  (hb:(evT sub cf e'=fun σ=>ev sub cf e' σ>>=truth)\/evT sub cf e'=fun _=>bad) (hn:∀ op vs p,e≠.BoolOp op vs p):ClE Γ sub cf X xw e e':=by
 refine ⟨h,?_,noBool hn⟩
 rcases hb with q|q
 ·rw [q]; exact EJ hK h he
 ·rw [q]; exact pP
theorem C0 {c:TC} {x:Str} {p:Pos} {e':E} (F:Fam Γ W CX EW c.gt cf X xw) (C:Cok c X) (h:lS c x=some e'):ClE Γ sub cf X xw (.Name x p) e':=by
 unfold lS at h
 by_cases h1:dU x=true
 ·rw [if_pos h1] at h
  obtain ⟨d1,d2⟩:=sN h1
  by_cases h2:eY c.sc x=true
  ·rw [if_pos h2] at h
   cases q:idx c.N x with
   | none=>rw [q] at h; cases h
   | some i =>
    rw [q] at h; cases h
    exact bx F.hK (xo (by rw [C.N]; exact gy q) (by rw [C.sc]; exact uP h2) d1 d2) (fun _=>rfl) (.inl rfl) (fun _ _ _ z=>nomatch z)
  ·rw [if_neg h2] at h
   by_cases h3:glB c x=true
   ·rw [if_pos h3] at h
    cases q:c.gt.lookup x with
    | none=>rw [q] at h; cases h
    | some g =>
     rw [q] at h
     cases g with
     | val d =>
      cases h
      obtain ⟨u,v,hm,r,hv⟩:=F.val x d q
      exact bx F.hK (gZ (DV (C.gl h3) hm r d1) hv) (fun _=>rfl) (.inl rfl) (fun _ _ _ z=>nomatch z)
     | _=>cases h
   ·rw [if_neg h3] at h; cases h
 ·rw [if_neg h1] at h; cases h
theorem Dr {k:Const} {j:Nat} {p:Pos} {e':E} (hK:Γ.K=X.K) (h:nJ k=some e'):ClE Γ sub cf X xw (.Constant k j p) e':=by
 cases k <;> first|(cases h; done)|skip
 ·cases h; exact bx hK (gZ DN fun _ _=>.non) (fun _=>rfl) (.inl rfl) (fun _ _ _ z=>nomatch z)
 ·cases h; exact bx hK (gZ AZ fun _ _=>.bl _) (fun _=>rfl) (.inl rfl) (fun _ _ _ z=>nomatch z)
 ·cases h; exact bx hK (gZ v9 fun _ _=>.int _) (fun _=>rfl) (.inl rfl) (fun _ _ _ z=>nomatch z)
 ·cases h; exact bx hK (gZ Co fun _ _=>.str _) (fun _=>rfl) (.inl rfl) (fun _ _ _ z=>nomatch z)
theorem Eu (hK:Γ.K=X.K) {op:Operator} {o:Op2} (h:op2 op=some o):OpR X (binaryOp op) (aZ Γ xw (opD o)):=by
 cases op <;> cases h
 ·exact vq hK
 ·exact vg
 ·exact Dq hK
 ·exact AM
 ·exact CJ
 ·exact AF
theorem fP (F:Fam Γ W CX EW gt cf X xw) {op:CmpOp} {o:Cm} (h:cmO op=some o):OpR X (compareOp op) (aZ Γ xw (cmD o)):=by
 cases op <;> cases h
 ·exact s_eq F.hK F.un
 ·exact Fg F.hK F.un
 ·exact D8
 ·exact EY
 ·exact BV
 ·exact DW
 ·exact DA F.hK F.un
 ·exact Bp F.hK F.un
theorem k_ {o:Cm}:∀ (x y:D) (S:aa) (d:D) (S':aa),cmD o x y S=.ok d S'->∃ k,d=.bl k:=by
 intro x y S d S' h
 have intc:∀ p:Int->Int->Bool,fW p x y S=.ok d S'->∃ k,d=.bl k:=fun p h=>by
  cases x <;> first|(cases h; done)|skip
  cases y <;> first|(cases h; done)|skip
  cases h; exact ⟨_,rfl⟩
 have inc:∀ neg,inM neg x y S=.ok d S'->∃ k,d=.bl k:=fun neg h=>by
  unfold inM at h
  rcases gB y S with ⟨ds,e⟩|e
  ·rw [aj e] at h
   unfold inA at h
   cases q:inL S x ds with
   | none=>rw [q] at h; cases h
   | some k=>rw [q] at h; cases h; exact ⟨_,rfl⟩
  ·rw [aV e] at h; cases h
 cases o with
 | lt=>exact intc _ h
 | le=>exact intc _ h
 | gt=>exact intc _ h
 | ge=>exact intc _ h
 | eq =>
  have h:(eqM x y>>=fun b=>pure (.bl b)) S=.ok d S':=h
  rw [cT] at h
  unfold eqM at h
  cases q:eqD deep S x y with
  | none=>rw [q] at h; cases h
  | some k=>rw [q] at h; cases h; exact ⟨_,rfl⟩
 | ne =>
  have h:guard (gJ x y) (eqM x y>>=fun b=>pure (.bl (!b))) S=.ok d S':=h
  cases q:gJ x y with
  | false=>rw [q] at h; cases h
  | true =>
   rw [q] at h
   have h:(eqM x y>>=fun b=>pure (.bl (!b))) S=.ok d S':=h
   rw [cT] at h
   unfold eqM at h
   cases q:eqD deep S x y with
   | none=>rw [q] at h; cases h
   | some k=>rw [q] at h; cases h; exact ⟨_,rfl⟩
 | isin=>exact inc _ h
 | dI=>exact inc _ h
theorem cI {c:TC} {n:Nat} (F:Fam Γ W CX EW c.gt cf X xw) (C:Cok c X) (ih:∀ e e',trE n c e=some e'->ClE Γ sub cf X xw e e'):∀ {es:List PySem.Expr} {es':E},bB (trE n c) es=some es'->PA X es (tMA Γ xw (evs sub cf es'))
 | [],_,h=>by cases h; exact BB
 | e::r,_,h=>by
  obtain ⟨a,b,h1,h2,rfl⟩:=bH h
  exact E_ (ih e a h1).pe (cI F C ih h2) (br h1 r X.env)
theorem tw {c:TC} {n:Nat} (ih:∀ e e',trE n c e=some e'->ClE Γ sub cf X xw e e') {o:Option PySem.Expr} {e':E} (h:trO (trE n c) o=some e'):PO X o (tMO Γ xw fun σ=>if e'.bh=true then pure none else ev sub cf e' σ>>=fq):=by
 cases o with
 | none=>cases h; exact BS
 | some e =>
  have h:(match trE n c e with|some .nl=>none|o=>o)=some e':=h
  cases q:trE n c e with
  | none=>rw [q] at h; cases h
  | some f =>
   rw [q] at h
   have hf:f=e'/\f.bh=false:=by
    cases f <;> first|(cases h; done)|(cases h; exact ⟨rfl,rfl⟩)
   obtain ⟨rfl,hn⟩:=hf
   rw [hn]
   simp only [Bool.false_eq_true,if_false]
   exact yF (ih e f q).pe
theorem jc {c:TC} (hK:Γ.K=X.K) (hc:X.calm=true) (C:Cok c X) {tg:PySem.Expr} {t:Tg} (h:gY c tg=some t):PG X tg (tMG Γ t):=by
 have names:∀ (es:List PySem.Expr) (is:List Nat),e9 c es=some is->iI X es is:=by
  intro es
  induction es with
  | nil=>intro is h; cases h; exact .nil
  | cons e r ih =>
   intro is h
   cases e with
   | Name x p =>
    unfold e9 at h
    by_cases hl:dQ c x=true
    ·rw [if_pos hl] at h
     cases q:idx c.N x with
     | none=>rw [q] at h; cases h
     | some i =>
      rw [q] at h
      cases q2:e9 c r with
      | none=>rw [q2] at h; cases h
      | some js =>
       rw [q2] at h; cases h
       exact .cons ⟨x,p,rfl,by rw [C.N]; exact gy q,(C.loc hl).1,(C.loc hl).2⟩ (ih js q2)
    ·rw [if_neg hl] at h; cases h
   | _=>cases h
 cases tg with
 | Name x p =>
  have h:(if dQ c x=true then (idx c.N x).map Tg.one else none)=some t:=h
  by_cases hl:dQ c x=true
  ·rw [if_pos hl] at h
   cases q:idx c.N x with
   | none=>rw [q] at h; cases h
   | some i =>
    rw [q] at h; cases h
    exact Cg C.nd (by rw [C.N]; exact gy q) (C.loc hl).1 (C.loc hl).2
  ·rw [if_neg hl] at h; cases h
 | Tuple es k p =>
  have h:(e9 c es).map Tg.many=some t:=h
  cases q:e9 c es with
  | none=>rw [q] at h; cases h
  | some is =>
   rw [q] at h; cases h
   exact z6 hK hc C.nd (names es is q)
 | _=>cases h
theorem vR {e:PySem.Expr} (h:lQ e=true) (env:Env):∀ x,foldedSetIterable e env x=pure x:=by
 intro x
 cases e <;> first|rfl|cases h
theorem fN {c:TC} (C:Cok c X) {x:Str} (h:eu c x=true):Gl X x/\c.gt.lookup x=none:=by
 unfold eu at h
 rw [Bool.and_eq_true] at h
 exact ⟨C.gl h.1,by simpa using h.2⟩
theorem jS {f:PySem.Expr->Option E}:∀ {es:List PySem.Expr} {es':E},bB f es=some es'->∀ (σ:Sg) (S:aa) (ds:List D) (S':aa),evs sub cf es' σ S=.ok ds S'->ds.length=es.length
 | [],_,h,σ,S,ds,S',q=>by
  cases h
  have q:(Res.ok [] S:Res (List D))=.ok ds S':=q
  cases q; rfl
 | e::r,_,h,σ,S,ds,S',q=>by
  obtain ⟨a,b,h1,h2,rfl⟩:=bH h
  have q:(ev sub cf a σ>>=fun x=>evs sub cf b σ>>=fun xs=>pure (x::xs)) S=.ok ds S':=q
  cases q1:ev sub cf a σ S with
  | ok d S1 =>
   rw [aj q1] at q
   cases q2:evs sub cf b σ S1 with
   | ok xs S2 =>
    rw [aj q2] at q
    cases q
    show xs.length+1=r.length+1
    rw [jS h2 σ S1 xs _ q2]
   | exc k S2=>rw [cN q2] at q; cases q
   | bad=>rw [aV q2] at q; cases q
  | exc k S2=>rw [cN q1] at q; cases q
  | bad=>rw [aV q1] at q; cases q
theorem ku {c:TC} {n:Nat} (F:Fam Γ W CX EW c.gt cf X xw) (C:Cok c X) (ih:∀ e e',trE n c e=some e'->ClE Γ sub cf X xw e e') {tg e:PySem.Expr} {e':E} (h:trI (trE n c) c tg e=some e') :
  PI X tg e (tMI Γ xw (evI sub cf e'))/\∀ x,foldedSetIterable e X.env x=pure x:=by
 unfold trI at h
 by_cases hs:lQ e=true
 ·rw [if_pos hs] at h
  refine ⟨?_,vR hs X.env⟩
  have seq:(trE n c e).map E.iSeq=some e'->PI X tg e (tMI Γ xw (evI sub cf e')):=fun h=>by
   cases q:trE n c e with
   | none=>rw [q] at h; cases h
   | some a=>rw [q] at h; cases h; exact vY F.hK (ih e a q).pe
  split at h
  ·rename_i x p args pos
   by_cases hr:gK c x=true
   ·rw [if_pos hr] at h
    unfold gK at hr
    rw [Bool.and_eq_true] at hr
    have hx:x = "range":=of_decide_eq_true hr.2
    subst hx
    obtain ⟨hg,hn⟩:=fN C hr.1
    have hm:X.mg "range" = none:=F.blt _ (by decide +kernel) hn
    by_cases hf:few args=true
    ·rw [if_pos hf] at h
     cases q:bB (trE n c) args with
     | none=>rw [q] at h; cases h
     | some es =>
      rw [q] at h; cases h
      have ha:=cI F C ih q
      have hl:=jS (sub:=sub) (cf:=cf) q
      match args,q,ha,hl,hf with
      | [],_,_,_,hf=>exact absurd hf (by decide)
      | [a],q,ha,hl,_ =>
       obtain ⟨a',b',q1,q2,_⟩:=bH q
       exact uS hg hm ha (br q1 [] X.env) hl
      | [a,b],q,ha,hl,_ =>
       obtain ⟨a',r',q1,q2,_⟩:=bH q
       obtain ⟨b',r2,q3,q4,_⟩:=bH q2
       exact vC hg hm ha (by rw [br q1,br q3]; rfl) (br q3 [] X.env) hl
      | [a,b,d],q,ha,hl,_ =>
       obtain ⟨a',r',q1,q2,_⟩:=bH q
       obtain ⟨b',r2,q3,q4,_⟩:=bH q2
       obtain ⟨d',r3,q5,q6,_⟩:=bH q4
       exact zj hg hm ha (by rw [br q1,br q3,br q5]; rfl) (by rw [br q3,br q5]; rfl) hl
      | _::_::_::_::r,_,_,_,hf =>
       unfold few at hf
       rw [Bool.and_eq_true] at hf
       have:=of_decide_eq_true hf.2
       simp at this
    ·rw [if_neg hf] at h; cases h
   ·rw [if_neg hr] at h
    by_cases he:jM c x=true
    ·rw [if_pos he] at h
     unfold jM at he
     rw [Bool.and_eq_true] at he
     have hx:x = "enumerate":=of_decide_eq_true he.2
     subst hx
     obtain ⟨hg,hn⟩:=fN C he.1
     have hm:X.mg "enumerate" = none:=F.blt _ (by decide +kernel) hn
     cases tg with
     | Tuple es k tp =>
      match args,h with
      | [a],h =>
       have h:(trE n c a).map E.iEnum=some e':=h
       cases q:trE n c a with
       | none=>rw [q] at h; cases h
       | some a'=>rw [q] at h; cases h; exact Ac F.hK hg hm boot_enumerate (ih a a' q).pe (br q [] X.env)
      | [],h=>cases h
      | _::_::_,h=>cases h
     | _=>cases h
    ·rw [if_neg he] at h
     by_cases hz:jN c x=true
     ·rw [if_pos hz] at h
      unfold jN at hz
      rw [Bool.and_eq_true] at hz
      have hx:x = "zip":=of_decide_eq_true hz.2
      subst hx
      obtain ⟨hg,hn⟩:=fN C hz.1
      have hm:X.mg "zip" = none:=F.blt _ (by decide +kernel) hn
      by_cases hq:(isTup tg&&pair args)=true
      ·rw [if_pos hq] at h
       rw [Bool.and_eq_true] at hq
       cases q:bB (trE n c) args with
       | none=>rw [q] at h; cases h
       | some es =>
        rw [q] at h; cases h
        have ha:=cI F C ih q
        have hl:args.length=2:=of_decide_eq_true hq.2
        match args,q,ha,hl with
        | [a,b],q,ha,_ =>
         obtain ⟨a',r',q1,q2,_⟩:=bH q
         cases tg with
         | Tuple es k tp=>exact t_ F.hK hg hm ha (br q1 [b] X.env) (f6 q2 X.env pos).1
         | _=>cases hq.1
      ·rw [if_neg hq] at h; cases h
     ·rw [if_neg hz] at h; exact seq h
  ·exact seq h
 ·rw [if_neg hs] at h; cases h
end
end EV

namespace EV
open PySem PySem.Spec PyProof.Rows L2
section
variable {Γ:Gx} {W:XW->Prop} {CX:CXT} {EW:XW->XK} {cf:Str->List D->M D} {sub:Sub}
theorem zN {α:Type} {m m':M α} (h:∀ S,m S=m' S):m=m':=funext h
theorem qQ (m:M D) (f:List D->M D):((m>>=fun x=>(pure []:M (List D))>>=fun xs=>pure (x::xs))>>=f)=(m>>=fun x=>f [x]):=by
 refine zN fun S=>?_
 rw [cT,cT,cT]
 cases m S <;> rfl
theorem dH {α β:Type} {o:Option α} {f:α->β} {d:β} (h:o.map f=some d):∃ a,o=some a/\d=f a:=by
 cases o with
 | none=>cases h
 | some a=>cases h; exact ⟨a,rfl,rfl⟩
theorem sy {t:Tg} {n:Nat} (h:t.nH n=true):∀ j,j < n->t.has j=false:=by
 intro j hj
 cases t with
 | one i =>
  have:n<=i:=of_decide_eq_true h
  show (i==j)=false
  simp; omega
 | many is =>
  show is.contains j=false
  have h:(is.all fun i=>decide (n<=i))=true:=h
  rw [List.all_eq_true] at h
  cases q:is.contains j with
  | false=>rfl
  | true =>
   have hm:j∈is:=List.contains_iff_mem.mp q
   have:=of_decide_eq_true (h j hm)
   omega
theorem DJ {c:TC} {n:Nat} {X:Cx} {xw:XW} (F:Fam Γ W CX EW c.gt cf X xw) (C:Cok c X) (ih:∀ e e',trE n c e=some e'->ClE Γ sub cf X xw e e') {x:Str} {args ra:List PySem.Expr} {b:Bi} {es:E} {p pos:Pos} (hn:c.gt.lookup x=none) (hg:Gl X x)
  (h:kJ c x args=some (b,ra)) (h1:bB (trE n c) ra=some es):PE X (.Call (.Name x p) args [] pos) (tM Γ xw (ev sub cf (.bi b es))):=by
 unfold kJ at h
 split at h
 ·rename_i r p1 ra' p2
  split at h
  ·rename_i hr
   rw [Bool.and_eq_true] at hr
   obtain ⟨hr1,hr2⟩:=hr
   unfold gK at hr1
   rw [Bool.and_eq_true] at hr1
   have hx:r = "range":=of_decide_eq_true hr1.2
   subst hx
   obtain ⟨hgr,hnr⟩:=fN C hr1.1
   have hmr:X.mg "range" = none:=F.blt _ (by decide +kernel) hnr
   have hra:ra'=ra:=by
    split at h
    ·cases h; rfl
    ·cases h
   subst hra
   have ha:=cI F C ih h1
   have hl:=jS (sub:=sub) (cf:=cf) h1
   have hk:ra'.length=1\/ra'.length=2:=by
    unfold two at hr2
    rcases Bool.or_eq_true_iff.mp hr2 with z|z
    ·exact .inl (of_decide_eq_true z)
    ·exact .inr (of_decide_eq_true z)
   have hr:PE X (.Call (.Name "range" p1) ra' [] p2) (gF (tMA Γ xw (evs sub cf es))):=by
    match ra',h1,ha,hl,hk with
    | [a],h1,ha,hl,_ =>
     obtain ⟨a',b',q1,q2,_⟩:=bH h1
     exact ur hgr hmr ha (br q1 [] X.env) (rM hl)
    | [a,b],h1,ha,hl,_ =>
     obtain ⟨a',r',q1,q2,_⟩:=bH h1
     obtain ⟨b',r2,q3,q4,_⟩:=bH q2
     exact y9 hgr hmr ha (by rw [br q1,br q3]; rfl) (br q3 [] X.env) (rM hl)
    | [],_,_,_,hk=>rcases hk with hk|hk <;> cases hk
    | _::_::_::_,_,_,_,hk=>simp at hk
   by_cases e:x = "tuple"
   ·subst e; rw [if_pos rfl] at h; cases h
    exact AH hk F.calm hl hr rfl hg (F.blt _ (by decide +kernel) hn)
   rw [if_neg e] at h; cases h
  ·split at h
   ·rename_i hx
    simp only [Bool.and_eq_true] at hx
    obtain ⟨⟨hx1,hx2⟩,hx3⟩:=hx
    have hx:x = "sorted":=of_decide_eq_true hx1
    subst hx
    unfold qE at hx2
    rw [Bool.and_eq_true] at hx2
    have hr:r = "set":=of_decide_eq_true hx2.2
    subst hr
    obtain ⟨hgr,hnr⟩:=fN C hx2.1
    cases h
    match ra,h1,hx3 with
    | [a],h1,_ =>
     obtain ⟨a',b',q1,q2,q3⟩:=bH h1
     cases q2
     cases q3
     have key:(fun σ=>ev sub cf (.bi .sortedSet (.cs a' .nl)) σ)=fun σ=>ev sub cf a' σ>>=fun d=>bi1 sub .sortedSet d:=by
      funext σ
      exact qQ (ev sub cf a' σ) (biD sub .sortedSet)
     show PE X _ (tM Γ xw (fun σ=>ev sub cf (.bi .sortedSet (.cs a' .nl)) σ))
     rw [key]
     have hu:=F.un
     exact zZ F.hK F.calm (by omega) hg (F.blt _ (by decide +kernel) hn) boot_sorted hgr (F.blt _ (by decide +kernel) hnr) boot_set (ih a a' q1).pe (by decide +kernel) (by decide +kernel) (by decide +kernel) (by decide +kernel) (br q1 [] X.env)
   ·cases h
 ·cases h
theorem zv {b:PySem.Expr} (h:l0 b=true):∃ x j p,b=.Constant (.str x) j p:=by
 cases b with
 | Constant k j p=>cases k <;> first|exact ⟨_,_,_,rfl⟩|cases h
 | _=>cases h
theorem fH:∀ (n:Nat) (c:TC) (e:PySem.Expr) (e':E),trE n c e=some e'->∀ (X:Cx) (xw:XW),Fam Γ W CX EW c.gt cf X xw->Cok c X->ClE Γ sub cf X xw e e':=by
 intro n
 induction n with
 | zero=>intro c e e' h; cases h
 | succ n ihn =>
  intro c e e' h X xw F C
  have ih:∀ e e',trE n c e=some e'->ClE Γ sub cf X xw e e':=fun e e' h=>ihn c e e' h X xw F C
  cases e with
  | Name x p=>exact C0 F C h
  | Constant k j p=>exact Dr F.hK h
  | BinOp a op b p =>
   simp only [trE] at h
   split at h
   rotate_left
   ·cases h
   rename_i o a' b' h1 h2 h3
   cases h
   exact bx F.hK (Bo (Eu F.hK h1) (ih a a' h2).pe (ih b b' h3).pe) (fun _=>rfl) (.inr rfl) (fun _ _ _ z=>nomatch z)
  | UnaryOp op a p =>
   cases op with
   | Not =>
    obtain ⟨a',h1,rfl⟩:∃ a',trE n c a=some a'/\e'=.not a':=by
     cases q:trE n c a with
     | none=>simp only [trE,q] at h; cases h
     | some a'=>simp only [trE,q] at h; cases h; exact ⟨a',rfl,rfl⟩
    exact ⟨Ct (ih a a' h1).pe,uB (ih a a' h1).pt,fun ⟨_,_,_,z⟩=>by cases z⟩
   | USub =>
    obtain ⟨a',h1,rfl⟩:∃ a',trE n c a=some a'/\e'=.neg a':=by
     cases q:trE n c a with
     | none=>simp only [trE,q] at h; cases h
     | some a'=>simp only [trE,q] at h; cases h; exact ⟨a',rfl,rfl⟩
    exact bx F.hK (Cj (ih a a' h1).pe) (fun _=>rfl) (.inr rfl) (fun _ _ _ z=>nomatch z)
   | _ =>
    exfalso
    cases q:trE n c a with
    | none=>simp only [trE,q] at h; cases h
    | some a'=>simp only [trE,q] at h; cases h
  | BoolOp op vs p =>
   match vs,h with
   | [],h=>cases h
   | [a],h =>
    have h:trE n c a=some e':=h
    have ca:=ih a e' h
    cases op with
    | And=>exact ⟨fun pins s σ H Q I hw=>mR ca.pe pins s σ H Q I hw,(oU ca.pt).pt,fun _=>oU ca.pt⟩
    | Or=>exact ⟨fun pins s σ H Q I hw=>mR ca.pe pins s σ H Q I hw,(mW ca.pt).pt,fun _=>mW ca.pt⟩
   | a::b::r,h =>
    cases op with
    | And =>
     obtain ⟨a',b',h1,h2,rfl⟩:∃ a' b',trE n c a=some a'/\trE n c (.BoolOp .And (b::r) p)=some b'/\e'=.and a' b':=by
      cases q:trE n c a with
      | none=>simp only [trE,q] at h; cases h
      | some a' =>
       cases q2:trE n c (.BoolOp .And (b::r) p) with
       | none=>simp only [trE,q,q2] at h; cases h
       | some b'=>simp only [trE,q,q2] at h; cases h; exact ⟨a',b',rfl,rfl,rfl⟩
     have ca:=ih _ _ h1
     have cb:=ih _ _ h2
     exact ⟨xy ca.pe cb.pe,(sr ca.pt (cb.pw ⟨_,_,_,rfl⟩)).pt,fun _=>sr ca.pt (cb.pw ⟨_,_,_,rfl⟩)⟩
    | Or =>
     obtain ⟨a',b',h1,h2,rfl⟩:∃ a' b',trE n c a=some a'/\trE n c (.BoolOp .Or (b::r) p)=some b'/\e'=.or a' b':=by
      cases q:trE n c a with
      | none=>simp only [trE,q] at h; cases h
      | some a' =>
       cases q2:trE n c (.BoolOp .Or (b::r) p) with
       | none=>simp only [trE,q,q2] at h; cases h
       | some b'=>simp only [trE,q,q2] at h; cases h; exact ⟨a',b',rfl,rfl,rfl⟩
     have ca:=ih _ _ h1
     have cb:=ih _ _ h2
     exact ⟨zx ca.pe cb.pe,(pK ca.pt (cb.pw ⟨_,_,_,rfl⟩)).pt,fun _=>pK ca.pt (cb.pw ⟨_,_,_,rfl⟩)⟩
  | IfExp t a b p =>
   simp only [trE] at h
   split at h
   rotate_left
   ·cases h
   rename_i t' a' b' h1 h2 h3
   cases h
   refine ⟨B0 (ih t t' h1).pt (ih a a' h2).pe (ih b b' h3).pe,pP,fun ⟨_,_,_,z⟩=>by cases z⟩
  | Tuple es k p =>
   obtain ⟨es',h1,rfl⟩:=dH (f:=E.tup) h
   exact bx F.hK (yX (cI F C ih h1)) (fun _=>rfl) (.inr rfl) (fun _ _ _ z=>nomatch z)
  | Dict ks vs p =>
   simp only [trE] at h
   split at h
   ·cases h
    exact bx F.hK uI (fun _=>rfl) (.inr rfl) (fun _ _ _ z=>nomatch z)
   ·cases h
  | List es p =>
   obtain ⟨es',h1,rfl⟩:=dH (f:=E.lst) h
   exact bx F.hK (yH (cI F C ih h1)) (fun _=>rfl) (.inr rfl) (fun _ _ _ z=>nomatch z)
  | Compare a ops cs p =>
   simp only [trE] at h
   split at h
   ·rename_i op b
    split at h
    ·rename_i o a' b' h1 h2 h3 h4
     cases h
     exact ⟨BX (fP F h1) (ih a a' h2).pe (ih b b' h3).pe h4,Ds k_ (fP F h1) (ih a a' h2).pe (ih b b' h3).pe h4,fun ⟨_,_,_,z⟩=>by cases z⟩
    ·cases h
   ·rename_i op op' b d
    split at h
    ·rename_i o o' a' b' d' h1 h2 h3 h4 h5 h6
     cases h
     exact ⟨B9 (fP F h1) (fP F h2) (ih a a' h3).pe (ih b b' h4).pe (ih d d' h5).pe h6,B6 k_ k_ (fP F h1) (fP F h2) (ih a a' h3).pe (ih b b' h4).pe (ih d d' h5).pe h6,fun ⟨_,_,_,z⟩=>by cases z⟩
    ·cases h
   ·cases h
  | Subscript a i p =>
   simp only [trE] at h
   split at h
   ·rename_i lo hi p2
    split at h
    ·rename_i a' l u h1 h2 h3
     cases h
     exact bx F.hK (ya F.hK (ih a a' h1).pe (tw ih h2) (tw ih h3)) (fun _=>rfl) (.inr rfl) (fun _ _ _ z=>nomatch z)
    ·cases h
   ·cases h
   ·rename_i es k p2
    split at h
    ·rename_i a' es' h1 h2
     cases h
     exact bx F.hK (DH (by have:=F.un; omega) (ih a a' h1).pe (cI F C ih h2)) (fun _=>rfl) (.inr rfl) (fun _ _ _ z=>nomatch z)
    ·cases h
   ·rename_i hs1 hs2 hs3
    split at h
    ·rename_i a' i' h1 h2
     cases h
     have hp:l7 i:=by
      intro o j
      cases i with
      | Slice lo hi st p2 =>
       cases st with
       | none=>exact (hs1 lo hi p2 rfl).elim
       | some x=>exact (hs2 lo hi x p2 rfl).elim
      | _=>rfl
     exact bx F.hK (z9 F.hK (ih a a' h1).pe (ih i i' h2).pe hp) (fun _=>rfl) (.inl rfl) (fun _ _ _ z=>nomatch z)
    ·cases h
  | Call f args kws cpos =>
   simp only [trE] at h
   split at h
   ·rename_i x p
    by_cases hx:(dU x&&glB c x)=true
    ·rw [if_pos hx] at h
     rw [Bool.and_eq_true] at hx
     have hd:=(sN hx.1).1
     have hg:=C.gl hx.2
     split at h
     ·rename_i hi
      obtain ⟨es',h1,rfl⟩:=dH (f:=E.call x) h
      cases args with
      | nil =>
       cases h1
       refine bx F.hK ?_ (fun _=>rfl) (.inl rfl) (fun _ _ _ z=>nomatch z)
       exact AV F hi hg hd
      | cons a r =>
       obtain ⟨a',b',q1,q2,_⟩:=bH h1
       exact bx F.hK (yD F hi hg hd (cI F C ih h1) (br q1 r X.env) (f6 q2 X.env cpos).1) (fun _=>rfl) (.inl rfl) (fun _ _ _ z=>nomatch z)
     ·cases h
     ·rename_i hn
      by_cases hi:x = "isinstance"
      ·rw [if_pos hi] at h
       subst hi
       split at h
       ·rename_i a y p2
        by_cases hy:(dU y&&eu c y)=true
        ·rw [if_pos hy] at h
         rw [Bool.and_eq_true] at hy
         split at h
         ·rename_i t a' h1 h2
          cases h
          obtain ⟨hg2,hn2⟩:=fN C hy.2
          obtain ⟨T,t1,t2,t3,t4,t5⟩:=Cv F h1 hn2
          have hm:X.mg "isinstance" = none:=F.blt _ (by decide +kernel) hn
          have key:(fun σ=>ev sub cf (.bi (.inst t) (.cs a' .nl)) σ)=fun σ=>ev sub cf a' σ>>=fun d=>gA sub t d:=by
           funext σ
           exact qQ (ev sub cf a' σ) (biD sub (.inst t))
          refine bx F.hK ?_ (fun _=>rfl) (.inl rfl) (fun _ _ _ z=>nomatch z)
          show PE X _ (tM Γ xw (fun σ=>ev sub cf (.bi (.inst t) (.cs a' .nl)) σ))
          rw [key]
          exact Bj F.hK t1 hg hm boot_isinstance hg2 t3 t2 (ih a a' h2).pe (by decide +kernel) (by decide +kernel) t4 t5 (br h2 _ X.env)
         ·cases h
        ·rw [if_neg hy] at h; cases h
       ·cases h
      ·rw [if_neg hi] at h
       split at h
       ·rename_i b ra hr
        obtain ⟨es,h1,rfl⟩:=dH (f:=E.bi b) h
        exact bx F.hK (DJ F C ih hn hg hr h1) (fun _=>rfl) (.inl rfl) (fun _ _ _ z=>nomatch z)
       ·split at h
        ·cases h
        ·rename_i a r hrn
         split at h
         ·rename_i b es h1 h2
          cases h
          obtain ⟨a',b',q1,q2,_⟩:=bH h2
          exact bx F.hK (zT F h1 hn hg (cI F C ih h2) (br q1 r X.env) (f6 q2 X.env cpos).1) (fun _=>rfl) (.inl rfl) (fun _ _ _ z=>nomatch z)
         ·cases h
    ·rw [if_neg hx] at h; cases h
   ·rename_i o name apos
    split at h
    ·cases h
    ·rename_i a r
     split at h
     ·rename_i hx
      simp only [Bool.and_eq_true] at hx
      obtain ⟨⟨x1,x2⟩,x3⟩:=hx
      split at h
      ·rename_i m o' es h1 h2 h3
       cases h
       obtain ⟨a',b',q1,q2,_⟩:=bH h3
       exact bx F.hK (xh F h1 (ih o o' h2).pe (cI F C ih h3) x1 (of_decide_eq_true x3) (f6 h3 X.env cpos).2 x2 (br q1 r X.env) (f6 q2 X.env cpos).1) (fun _=>rfl) (.inr rfl) (fun _ _ _ z=>nomatch z)
      ·cases h
     ·cases h
   ·cases h
  | ListComp elt gens scope p =>
   simp only [trE] at h
   split at h
   ·rename_i tg iter ifs asy
    split at h
    ·rename_i hx
     rw [Bool.and_eq_true] at hx
     have ha:asy=0:=of_decide_eq_true hx.1
     subst ha
     obtain ⟨CO,CK⟩:=oQ C hx.2
     split at h
     ·rename_i it t el tt h1 h2 h3 h4
      split at h
      ·rename_i hge
       cases h
       obtain ⟨PI1,hs⟩:=ku F C ih h1
       have ihc:∀ cl fp s3 H3 e e',trE n (inComp c scope) e=some e'->ClE Γ sub cf (aL X scope cl (inComp c scope).N fp s3 H3) XF e e' :=
        fun cl fp s3 H3 e e' h=>ihn (inComp c scope) e e' h _ XF (F.comp scope cl _ fp s3 H3) (CK cl fp s3 H3)
       have htt:∀ cl fp s3 H3,PF (aL X scope cl (inComp c scope).N fp s3 H3) ifs (tMT Γ XF fun σ=>if tt.bh=true then pure true else evT sub cf tt σ):=fun cl fp s3 H3=>by
        match ifs,h4 with
        | [],h4 =>
         cases h4
         exact fun pins s σ H Q I h=>rf pins s σ H Q I (by
          obtain ⟨σd,ι,S,he,hs,ho⟩:=h
          exact ho.here hs)
        | [t0],h4 =>
         have h4:(match trE n (inComp c scope) t0 with|some .nl=>none|o=>o)=some tt:=h4
         cases q:trE n (inComp c scope) t0 with
         | none=>rw [q] at h4; cases h4
         | some f =>
          rw [q] at h4
          have hf:f=tt/\f.bh=false:=by
           cases f <;> first|(cases h4; done)|(cases h4; exact ⟨rfl,rfl⟩)
          obtain ⟨rfl,hn⟩:=hf
          rw [hn]
          simp only [Bool.false_eq_true,if_false]
          exact qD (ihc cl fp s3 H3 t0 f q).pt
        | _::_::_,h4=>cases h4
       refine bx F.hK ?_ (fun _=>rfl) (.inr rfl) (fun _ _ _ z=>nomatch z)
       exact zA CO F.calm (by rw [C.N]; exact sy hge) PI1 (fun cl fp s3 H3=>jc (X:=aL X scope cl (inComp c scope).N fp s3 H3) F.hK F.calm (CK cl fp s3 H3) h2) htt (fun cl fp s3 H3=>(ihc cl fp s3 H3 elt el h3).pe) hs
      ·cases h
     ·cases h
    ·cases h
   ·cases h
  | _=>cases h
end
end EV

namespace EV
open PySem PySem.Spec PyProof.Rows L2
section
variable {Γ:Gx} {W:XW->Prop} {CX:CXT} {EW:XW->XK} {cf:Str->List D->M D} {sub:Sub}
theorem C_ {n:Nat} {c:TC} {elt:PySem.Expr} {gens:List Comprehension} {scope:Scope} {p:Pos} {e':E} (h:trE n c (.ListComp elt gens scope p)=some e') {X:Cx} {xw:XW} (F:Fam Γ W CX EW c.gt cf X xw) (C:Cok c X) :
  ∃ tg iter ifs it t el tt,gens=[⟨tg,iter,ifs,0⟩]/\e'=.comp (own scope).length el t it tt/\dZ X scope (inComp c scope).N (own scope).length/\(∀ j,j < X.N.length->t.has j=false)/\PI X tg iter (tMI Γ xw (evI sub cf it)) /\
   (∀ cl fp s3 H3,PG (aL X scope cl (inComp c scope).N fp s3 H3) tg (tMG Γ t))/\(∀ cl fp s3 H3,PF (aL X scope cl (inComp c scope).N fp s3 H3) ifs (tMT Γ XF fun σ=>if tt.bh=true then pure true else evT sub cf tt σ)) /\
   (∀ cl fp s3 H3,PE (aL X scope cl (inComp c scope).N fp s3 H3) elt (tM Γ XF (ev sub cf el)))/\∀ x,foldedSetIterable iter X.env x=pure x:=by
 cases n with
 | zero=>cases h
 | succ n =>
  have ih:∀ e e',trE n c e=some e'->ClE Γ sub cf X xw e e':=fun e e' h=>fH n c e e' h X xw F C
  simp only [trE] at h
  split at h
  ·rename_i tg iter ifs asy
   split at h
   ·rename_i hx
    rw [Bool.and_eq_true] at hx
    have ha:asy=0:=of_decide_eq_true hx.1
    subst ha
    obtain ⟨CO,CK⟩:=oQ C hx.2
    split at h
    ·rename_i it t el tt h1 h2 h3 h4
     split at h
     ·rename_i hge
      cases h
      obtain ⟨PI1,hs⟩:=ku F C ih h1
      have ihc:∀ cl fp s3 H3 e e',trE n (inComp c scope) e=some e'->ClE Γ sub cf (aL X scope cl (inComp c scope).N fp s3 H3) XF e e' :=
       fun cl fp s3 H3 e e' h=>fH n (inComp c scope) e e' h _ XF (F.comp scope cl _ fp s3 H3) (CK cl fp s3 H3)
      have htt:∀ cl fp s3 H3,PF (aL X scope cl (inComp c scope).N fp s3 H3) ifs (tMT Γ XF fun σ=>if tt.bh=true then pure true else evT sub cf tt σ):=fun cl fp s3 H3=>by
       match ifs,h4 with
       | [],h4 =>
        cases h4
        exact fun pins s σ H Q I h=>rf pins s σ H Q I (by
         obtain ⟨σd,ι,S,he,hs,ho⟩:=h
         exact ho.here hs)
       | [t0],h4 =>
        have h4:(match trE n (inComp c scope) t0 with|some .nl=>none|o=>o)=some tt:=h4
        cases q:trE n (inComp c scope) t0 with
        | none=>rw [q] at h4; cases h4
        | some f =>
         rw [q] at h4
         have hf:f=tt/\f.bh=false:=by
          cases f <;> first|(cases h4; done)|(cases h4; exact ⟨rfl,rfl⟩)
         obtain ⟨rfl,hn⟩:=hf
         rw [hn]
         simp only [Bool.false_eq_true,if_false]
         exact qD (ihc cl fp s3 H3 t0 f q).pt
       | _::_::_,h4=>cases h4
      exact ⟨tg,iter,ifs,it,t,el,tt,rfl,rfl,CO,by rw [C.N]; exact sy hge,PI1,fun cl fp s3 H3=>jc (X:=aL X scope cl (inComp c scope).N fp s3 H3) F.hK F.calm (CK cl fp s3 H3) h2,htt,fun cl fp s3 H3=>(ihc cl fp s3 H3 elt el h3).pe,hs⟩
     ·cases h
    ·cases h
   ·cases h
  ·cases h
theorem gT {e:PySem.Expr} (h:fD e=true) (t:Option PySem.Expr) (l:Nat) (env:Env):swapsWith e t l env=pure false:=by
 cases e <;> first|rfl|cases h
theorem zp {m:Nat} {c:TC} {X:Cx} {xw:XW} (F:Fam Γ W CX EW c.gt cf X xw) (C:Cok c X) {tg e:PySem.Expr} {t:Tg} {e':E} {pos:Pos} (ha:oA tg e=true) (h1:gY c tg=some t) (h2:trE m c e=some e') :
  PS X (.Assign [tg] e pos) (tMS Γ xw (exec sub cf (.set t e'))):=by
 have hg:PG X tg (tMG Γ t):=jc F.hK F.calm C h1
 have he:=(fH (sub:=sub) m c e e' h2 X xw F C).pe
 cases tg with
 | Name y py =>
  by_cases hc:fD e=true
  ·exact kF he hg (show swapsWithSole [.Name y py] e pos.line X.env=pure false from gT hc (some (.Name y py)) pos.line X.env) rfl rfl
  ·cases e with
   | ListComp elt gens scope p =>
    obtain ⟨tg,iter,ifs,it,t2,el,tt,rfl,rfl,CO,hslot,PI1,PG1,PF1,PE1,hs⟩:=C_ (sub:=sub) h2 F C
    have h1':(if dQ c y=true then (idx c.N y).map Tg.one else none)=some t:=h1
    by_cases hl:dQ c y=true
    ·rw [if_pos hl] at h1'
     obtain ⟨j,hj,rfl⟩:=dH h1'
     have sw:swapsWith (.ListComp elt [⟨tg,iter,ifs,0⟩] scope p) (some (.Name y py)) pos.line X.env=pure (X.env.blockKind==.function&&X.env.kindOf y==some .local&&py.line==p.line
      &&!(scope.names.any fun (n,k)=>n==y&&(k==.local||k==.cell))):=rfl
     cases q:(X.env.blockKind==.function&&X.env.kindOf y==some .local&&py.line==p.line&&!(scope.names.any fun (n,k)=>n==y&&(k==.local||k==.cell))) with
     | true =>
      rw [q] at sw
      simp only [Bool.and_eq_true] at q
      have hy:X.env.scope.names.lookup y=some .local:=eq_of_beq q.1.1.2
      exact AN CO F.calm hslot PI1 PG1 PF1 PE1 C.nd (by rw [C.N]; exact gy hj) hy sw hs
     | false =>
      rw [q] at sw
      exact kF he hg sw rfl rfl
    ·rw [if_neg hl] at h1'; cases h1'
   | SetComp _ _ _ _=>cases m <;> cases h2
   | DictComp _ _ _ _ _=>cases m <;> cases h2
   | _=>exact absurd rfl hc
 | Tuple es k p =>
  have ha:(!isTup e&&fD e)=true:=ha
  rw [Bool.and_eq_true] at ha
  refine kF he hg (show swapsWithSole [.Tuple es k p] e pos.line X.env=pure false from gT ha.2 (some (.Tuple es k p)) pos.line X.env) ?_ rfl
  cases e <;> first|rfl|exact absurd ha.1 (by simp [isTup])
 | _=>cases ha
theorem wO {m:Nat} {c:TC} {X:Cx} {xw:XW} (F:Fam Γ W CX EW c.gt cf X xw) (C:Cok c X) {tg e:PySem.Expr} {s':S} {pos:Pos} (h:jA (trE m c) e tg=some s'):PS X (.Assign [tg] e pos) (tMS Γ xw (exec sub cf s')):=by
 have ce:∀ {e e'},trE m c e=some e'->PE X e (tM Γ xw (ev sub cf e')):=fun {e e'} h=>(fH m c e e' h X xw F C).pe
 unfold jA at h
 split at h
 ·rename_i o es k p2 p
  split at h
  ·rename_i ha
   split at h
   ·rename_i a b d h1 h2 h3
    cases h
    exact C9 (by have:=F.un; omega) (ce h3) (ce h1) (cI F C (fun e e' h=>fH m c e e' h X xw F C) h2) (gT ha (some (.Subscript o (.Tuple es k p2) p)) pos.line X.env)
   ·cases h
  ·cases h
 ·rename_i o i p _
  split at h
  ·rename_i ha
   rw [Bool.and_eq_true] at ha
   split at h
   ·rename_i a b d h1 h2 h3
    cases h
    refine EA (ce h3) (ce h1) (ce h2) (fun _ _ _ _ z=>?_) (show swapsWithSole [.Subscript o i p] e pos.line X.env=pure false from gT ha.1 (some (.Subscript o i p)) pos.line X.env)
    rw [z] at ha; exact absurd ha.2 (by simp [m9])
   ·cases h
  ·cases h
 ·cases h
theorem gX {f:Stmt->Option S} {X:Cx} {xw:XW} (ih:∀ s s',f s=some s'->PS X s (tMS Γ xw (exec sub cf s'))):∀ {ss:List Stmt} {s':S},cS f ss=some s'->PSs X ss (tMS Γ xw (exec sub cf s'))
 | [],_,h=>by cases h; exact CC
 | [s],_,h=>xW (ih _ _ h)
 | s::s2::r,s',h=>by
  have h:(match f s,cS f (s2::r) with|some a,some b=>some (.seq a b)|_,_=>none)=some s':=h
  split at h
  ·rename_i a b h1 h2
   cases h
   exact wc (ih s a h1) (gX ih h2)
  ·cases h
noncomputable def tL (Γ:Gx) (W:XW->Prop) (CX:CXT) (EW:XW->XK) (cf:Str->List D->M D) (sub:Sub):Prop :=
 ∀ (c:TC) (X:Cx) (xw:XW) (e:PySem.Expr) (s':S) (pos:Pos),Fam Γ W CX EW c.gt cf X xw->Cok c X->jI c e=some s'->PS X (.Raise (some e) none pos) (tMS Γ xw (exec sub cf s'))
theorem Er (m:Nat) (hR:tL Γ W CX EW cf sub):∀ (n:Nat) (c:TC) (s:Stmt) (s':S),trS m n c s=some s'->∀ (X:Cx) (xw:XW),Fam Γ W CX EW c.gt cf X xw->Cok c X->PS X s (tMS Γ xw (exec sub cf s')):=by
 intro n
 induction n with
 | zero=>intro c s s' h; cases h
 | succ n ihn =>
  intro c s s' h X xw F C
  have ih:∀ s s',trS m n c s=some s'->PS X s (tMS Γ xw (exec sub cf s')):=fun s s' h=>ihn c s s' h X xw F C
  have ihx:∀ s s',trS m n c s=some s'->PS X.nox s (tMS Γ XF (exec sub cf s')):=fun s s' h=>ihn c s s' h X.nox XF F.nox C.nox
  have ce:∀ {e e'},trE m c e=some e'->ClE Γ sub cf X xw e e':=fun {e e'} h=>fH m c e e' h X xw F C
  have cx:∀ {e e'},trE m c e=some e'->ClE Γ sub cf X.nox XF e e':=fun {e e'} h=>fH m c e e' h X.nox XF F.nox C.nox
  cases s with
  | Return v p =>
   cases v with
   | none=>cases h; exact Dp
   | some e =>
    obtain ⟨e',h1,rfl⟩:=dH (f:=S.ret) h
    exact Ae (ce h1).pe
  | Expr e p =>
   simp only [trS] at h
   split at h
   ·rename_i hd
    obtain ⟨x,j,q,rfl⟩:=zv hd
    cases h; exact xB
   ·split at h
    ·rename_i hn
     obtain ⟨e',h1,rfl⟩:=dH (f:=S.ex) h
     exact CZ (ce h1).pe (gT hn _ _ _)
    ·cases h
  | Pass p=>cases h; exact vh
  | Assign ts e p =>
   simp only [trS] at h
   split at h
   ·rename_i tg
    split at h
    ·rename_i ha
     split at h
     ·rename_i t e' h1 h2
      cases h
      exact zp F C ha h1 h2
     ·cases h
    ·exact wO F C h
   ·cases h
  | If t a b p =>
   simp only [trS] at h
   split at h
   ·rename_i t' a' b' h1 h2 h3
    cases h
    exact Be (ce h1).pt (gX ih h2) (gX ih h3)
   ·cases h
  | For tg it body els p =>
   simp only [trS] at h
   split at h
   ·rename_i t i b h1 h2 h3
    cases h
    obtain ⟨PI1,hs⟩:=ku (X:=X.nox) (xw:=XF) F.nox C.nox (fun e e' h=>cx h) h2
    exact xq F.calm PI1 (jc (X:=X.nox) F.hK F.calm C.nox h1) (gX ihx h3) hs
   ·cases h
  | Raise e cause p =>
   cases e with
   | none=>cases cause <;> cases h
   | some e =>
    cases cause with
    | none=>exact hR c X xw e s' p F C h
    | some _=>cases h
  | _=>cases h
end
end EV

namespace EV
open PySem PySem.Spec PyProof.Rows L2
theorem lU:∀ {ns:List Str} {us:List Value} {i:Nat} {x:Str} {u:Value},ns.Nodup->ns[i]?=some x->us[i]?=some u->(ns.zip us).lookup x=some u
 | [],_,_,_,_,_,h,_=>by simp at h
 | _::_,[],_,_,_,_,_,h=>by simp at h
 | y::ns,v::us,0,x,u,_,h1,h2=>by
  simp at h1 h2; subst h1; subst h2
  simp [List.lookup]
 | y::ns,v::us,i+1,x,u,nd,h1,h2=>by
  have h1':ns[i]?=some x:=by simpa using h1
  have hne:¬ x=y:=fun e=>by
   subst e; exact (List.nodup_cons.mp nd).1 (List.mem_of_getElem? h1')
  have hb:(x==y)=false:=by simpa using hne
  show List.lookup x ((y,v)::ns.zip us)=some u
  rw [List.lookup_cons,hb]
  exact lU (List.nodup_cons.mp nd).2 h1' (by simpa using h2)
theorem Br {ns:List Str} {us:List Value} (nd:ns.Nodup) (hl:us.length=ns.length):ns.filterMap (fun n=>((ns.zip us).lookup n).map (n,·))=ns.zip us:=by
 have all:∀ (ms:List Str) (vs:List Value),vs.length=ms.length->(∀ (i:Nat) x u,ms[i]?=some x->vs[i]?=some u->(ns.zip us).lookup x=some u)->ms.filterMap (fun n=>((ns.zip us).lookup n).map (n,·))=ms.zip vs:=by
  intro ms
  induction ms with
  | nil=>intro vs _ _; rfl
  | cons m ms ih =>
   intro vs hl h
   cases vs with
   | nil=>simp at hl
   | cons v vs =>
    rw [List.filterMap_cons,h 0 m v rfl rfl]
    show (m,v)::_=(m,v)::ms.zip vs
    rw [ih vs (by simpa using hl) fun i x u h1 h2=>h (i+1) x u (by simpa using h1) (by simpa using h2)]
 exact all ns us hl fun i x u h1 h2=>lU nd h1 h2
theorem qU {x qual:Str} {a:Arguments} {body:List Stmt} {sc:Scope} {kV doc pm cdv ct:Value} {an:Option Addr} (hp:iH a=true) (nd:(argNames a).Nodup) {us:List Value} (hl:us.length=(argNames a).length) :
  bindArgs (PySem.W.fnOf x qual a body sc .none kV doc pm an cdv ct) ⟨us,[]⟩=pure ((argNames a).zip us):=by
 obtain ⟨po,as,va,ko,kd,kw,df⟩:=a
 unfold iH at hp
 simp only [Bool.and_eq_true,List.isEmpty_iff,Option.isNone_iff_eq_none] at hp
 obtain ⟨⟨⟨⟨⟨rfl,rfl⟩,rfl⟩,rfl⟩,rfl⟩,rfl⟩:=hp
 have nd:(as.map (·.arg)).Nodup:=nd
 have hl:us.length=(as.map (·.arg)).length:=hl
 show bindArgs _ _=pure ((as.map (·.arg)).zip us)
 unfold bindArgs
 simp only [PySem.W.fnOf,List.map_nil,List.nil_append,List.append_nil]
 generalize as.map (·.arg)=ns at nd hl
 have hnot:¬ us.length > ns.length:=by rw [hl]; exact Nat.lt_irrefl _
 have hmiss:(List.take ns.length ns).filter (fun n=>((ns.zip us).lookup n).isNone)=[]:=by
  rw [List.filter_eq_nil_iff]
  intro n hn
  obtain ⟨i,hi⟩:=List.getElem?_of_mem (List.mem_of_mem_take hn)
  have hi':i < us.length:=by rw [hl]; exact (List.getElem?_eq_some_iff.mp hi).1
  rw [lU nd hi (List.getElem?_eq_getElem hi')]
  simp
 have hb:=Br nd hl
 have hd:seqItems? .none=pure none:=rfl
 rw [hd]
 have hz:(#[]:Array Value).toList=[]:=rfl
 have hdec:decide (us.length > ns.length)=false:=decide_eq_false hnot
 simp only [List.forIn_nil,pure_bind,Option.getD_none,hz,List.length_nil,Nat.zero_sub,List.drop_nil,Nat.sub_zero,hmiss,hdec,Bool.false_and,Bool.false_eq_true,if_false,List.isEmpty_nil,Bool.not_true,List.zip_nil_right,hb]
noncomputable def gD (xw:XW):XW:=fun c _ _ H=>∃ S ι,xw c S ι H
structure Txt (K:PySem.W.Frag) (mg:Str->Option Value) (gt:List (Str × GE)) (defs:List (Str × Stmt)):Prop where
 fn:∀ x,gt.lookup x=some .fn->∃ st f fd,defs.lookup x=some st/\mg x=some (.ref f)/\Fun K x x st f fd
 blt:∀ x∈dN,gt.lookup x=none->mg x=none
 val:∀ x d,gt.lookup x=some (.val d)->∃ u v,mg x=some u/\RelV v u/\∀ ι H,Rep ⟨K⟩ ι H d v
structure Xok (P:Program) (w:World) (K:PySem.W.Frag) (mg:Str->Option Value) (base:Heap) (W:XW->Prop) (CX:CXT) (EW:XW->XK) (sub:Sub):Prop where
 noF:∀ outer H s e s',¬ CX outer H s (EW XF) e s'
 okF:W XF
 any:∀ xw,W xw->W (gD xw)
 pass:∀ xw N qual scope f cd A outer s H,W xw->Passes CX (d9 CX P w K mg base N qual scope f cd A outer s H (EW xw)) (EW (gD xw))
 rais:∀ cf,tL ⟨K⟩ W CX EW cf sub
theorem zq {Γ:Gx} {ι:List Addr} {H:Hp} {ds:List D} {vs:List V} (rs:au Γ ι H ds vs) (N:List Str) {k:Nat} (hk:k=N.length):aS Γ ι H (L2.start N vs) (ds.map some++List.replicate (k - ds.length) none):=by
 have hl:=rs.length
 refine ⟨by unfold L2.start; simp [hl,hk],fun i d h=>?_⟩
 by_cases hi:i < ds.length
 ·rw [List.getElem?_append_left (by simpa using hi),List.getElem?_map] at h
  have h:ds[i]?=some d:=by
   rw [List.getElem?_eq_getElem hi] at h ⊢
   simpa using h
  obtain ⟨v,hv,r⟩:=Paired.get rs h
  refine ⟨v,?_,r⟩
  unfold L2.start
  rw [List.getElem?_append_left (by rw [List.length_map,<- hl]; exact hi),List.getElem?_map,hv]
  rfl
 ·rw [List.getElem?_append_right (by simpa using hi),List.getElem?_replicate] at h
  split at h <;> cases h
theorem mz {a:Arguments} {sc:Scope} (h:cL a sc=true):jU (namesOf a sc) (argNames a) sc/\iH a=true:=by
 unfold cL at h
 simp only [Bool.and_eq_true] at h
 obtain ⟨⟨⟨⟨⟨⟨h1,h2⟩,h3⟩,h4⟩,h5⟩,h6⟩,h7⟩:=h
 rw [List.all_eq_true] at h6 h7
 refine ⟨⟨of_decide_eq_true h2,by simpa using h3,by simpa using h4,iS h5,?_,fun x hx=>?_,fun y hy hf=>?_⟩,h1⟩
 ·unfold namesOf; rw [List.take_append_of_le_length (Nat.le_refl _),List.take_length]
 ·have:=h6 x hx
  cases q:sc.names.lookup x with
  | none=>rw [q] at this; cases this
  | some k=>rw [q] at this; cases k <;> first|exact .inl rfl|exact .inr rfl|cases this
 ·have:=h7 y hy
  rw [hf] at this; simp at this
section
variable {P:Program} {w:World} {K:PySem.W.Frag} {mg:Str->Option Value} {base:Heap} {W:XW->Prop} {CX:CXT} {EW:XW->XK} {sub:Sub} {gt:List (Str × GE)} {defs:List (Str × Stmt)} {Pd:Prg}
theorem EF (T:Txt K mg gt defs) (O:Xok P w K mg base W CX EW sub) (hP:∀ x st,defs.lookup x=some st->∃ F,trF gt st=some F/\Pd.lookup x=some F) :
  ∀ (n:Nat) (x:Str) (st:Stmt) (f:Addr) (fd:FuncData),defs.lookup x=some st->Fun K x x st f fd->dR P w K mg base CX n f fd (argNames (cH st)) (spF ⟨K⟩ W EW (ak sub Pd n x) (argNames (cH st)).length):=by
 intro n
 induction n with
 | zero =>
  intro x st f fd _ _
  refine ⟨fun vs H Q E h=>h.1,fun A outer s H args us vs Q E _ _ _ _ h=>?_⟩
  obtain ⟨_,_,_,_,_,_,_,_,_,ho⟩:=h
  exact ho.elim
 | succ n ih =>
  intro x st f fd hst Fu
  obtain ⟨F,hF,hPi⟩:=hP x st hst
  cases st with
  | FunctionDef x0 a body d1 d2 d3 sc d4 d5 d6 =>
   have hF:(if cL a sc=true then (cS (trS depth depth (fF gt a sc)) body).map fun b=>(⟨(argNames a).length,(namesOf a sc).length,b⟩:Fn) else none)=some F:=hF
   by_cases hs:cL a sc=true
   ·rw [if_pos hs] at hF
    obtain ⟨b,hb,rfl⟩:=dH hF
    obtain ⟨SC,hpl⟩:=mz hs
    obtain ⟨oc,od,kV,doc,pm,an,cdv,ct,osl,rfl,lk,hcd⟩:=Fu.ex
    refine Cp (N:=namesOf a sc) lk hcd SC (fun vs H Q E h=>h.1) fun A outer s H vs Q E hr hsp=>?_
    obtain ⟨hl,xw,hw,rfl,ι,S,ds,hS,rs,ho⟩:=hsp
    have FM:Fam ⟨K⟩ W CX EW gt (ak sub Pd n) (d9 CX P w K mg base (namesOf a sc) x sc f cdv A outer s H (EW xw)) (gD xw):=by
     refine ⟨rfl,rfl,hr.units,T.blt,T.val,fun y hy=>?_,O.pass xw _ _ _ _ _ _ _ _ _ hw,O.noF,O.any xw hw,O.okF⟩
     obtain ⟨st2,f2,fd2,h1,h2,h3⟩:=T.fn y hy
     obtain ⟨F2,hF2,hPj⟩:=hP y st2 h1
     have hb2:Binds K fd2 (argNames (cH st2)) []:=by
      cases st2 with
      | FunctionDef x1 a1 body1 e1 e2 e3 sc1 e4 e5 e6 =>
       have hF2:(if cL a1 sc1=true then (cS (trS depth depth (fF gt a1 sc1)) body1).map fun b=>(⟨(argNames a1).length,(namesOf a1 sc1).length,b⟩:Fn) else none)=some F2:=hF2
       by_cases hs1:cL a1 sc1=true
       ·obtain ⟨SC1,hpl1⟩:=mz hs1
        refine h3.binds fun _ _ _ _ _ _ us hl=>?_
        have nd1:(argNames a1).Nodup:=by rw [<- SC1.pre]; exact SC1.nd.sublist (List.take_sublist _ _)
        exact qU hpl1 nd1 hl
       ·rw [if_neg hs1] at hF2; cases hF2
      | _=>cases hF2
     refine ⟨n,f2,fd2,argNames (cH st2),ih y st2 f2 fd2 h1 h3,hr,h2,h3.kp,hb2,fun ds S hne=>?_⟩
     cases n with
     | zero=>rfl
     | succ n =>
      have hpar:F2.par=(argNames (cH st2)).length:=by
       cases st2 with
       | FunctionDef x1 a1 body1 e1 e2 e3 sc1 e4 e5 e6 =>
        have hF2:(if cL a1 sc1=true then (cS (trS depth depth (fF gt a1 sc1)) body1).map fun b=>(⟨(argNames a1).length,(namesOf a1 sc1).length,b⟩:Fn) else none)=some F2:=hF2
        by_cases hs1:cL a1 sc1=true
        ·rw [if_pos hs1] at hF2
         obtain ⟨b1,_,rfl⟩:=dH hF2
         rfl
        ·rw [if_neg hs1] at hF2; cases hF2
       | _=>cases hF2
      exact BY hPj (by rw [hpar]; exact hne)
    have CK:Cok (fF gt a sc) (d9 CX P w K mg base (namesOf a sc) x sc f cdv A outer s H (EW xw)):=⟨rfl,rfl,SC.nd,SC.kind,fun _ _=>rfl⟩
    refine ⟨tMS ⟨K⟩ (gD xw) (exec sub (ak sub Pd n) b),gX (fun s s' h=>Er depth (O.rais _) depth (fF gt a sc) s s' h _ _ FM CK) hb,?_⟩
    have hdl:ds.length=(argNames a).length:=rs.length.trans hl
    refine ⟨ds.map some++List.replicate ((namesOf a sc).length - ds.length) none,ι,S,zq rs _ rfl,hS,?_⟩
    have ho:Out ⟨K⟩ xw ι H (ak sub Pd (n+1) x ds S) _:=ho
    rw [lX hPi hdl] at ho
    unfold frame at ho
    cases q:exec sub (ak sub Pd n) b (ds.map some++List.replicate ((namesOf a sc).length - ds.length) none) S with
    | bad=>rw [q] at ho; exact ho.elim
    | exc k S' =>
     rw [q] at ho
     intro ι' H' e' s'
     have ho:Out ⟨K⟩ xw ι H (if S'.take S.length=S then .exc k S else .exc k S') _:=ho
     by_cases ht:S'.take S.length=S
     ·rw [if_pos ht] at ho
      exact ⟨S,ι,ho ι H' e'.back (aq.back e' hS s' ht)⟩
     ·rw [if_neg ht] at ho
      exact ⟨S',ι',ho ι' H' e' s'⟩
    | ok fl S' =>
     rw [q] at ho
     intro ι' H' e' s'
     cases fl with
     | nx σ'=>exact fun σv hv=>oN hS e' s' .non ho
     | rt d=>exact fun v r=>oN hS e' s' r ho
     | bk σ'=>exact ho.elim
     | ct σ'=>exact ho.elim
   ·rw [if_neg hs] at hF; cases hF
  | _=>cases hF
end
end EV

namespace EV
open PySem PySem.Spec PyProof.Rows L2
inductive dj (K:PySem.W.Frag):List (Str × Stmt)->Prop
 | nil:dj K []
 | cons {x:Str} {st:Stmt} {r:List (Str × Stmt)} {f:Addr} {oc:Value} {od an:Option Addr} {osl:Array (Option Value)} {kV doc pm cdv ct:Value} :
   PySem.W.nsIn K mainGlobals x=some (some (.ref f)) ->
   K.lookup f=some ⟨oc,od,.func (PySem.W.fnOf x x (cH st) (gC st) (h_ st) .none kV doc pm an cdv ct),osl⟩ ->
   PySem.W.codeIn K cdv x=true->PySem.W.keepIn K (.ref f)=true->dj K r->dj K ((x,st)::r)
inductive ef:D->Value->Prop
 | non:ef .non .none
 | bl (b:Bool):ef (.bl b) (.bool b)
 | int (i:Int) (t:Tok):ef (.int i) (.int i t)
 | str (x:Str) (t:Tok):ef (.str x) (.str x t)
inductive ee:List D->List Value->Prop
 | nil:ee [] []
 | cons {d:D} {u:Value} {ds:List D} {us:List Value}:ef d u->ee ds us->ee (d::ds) (u::us)
inductive bY (K:PySem.W.Frag):List (Str × D)->Prop
 | nil:bY K []
 | flat {x:Str} {d:D} {u:Value} {r:List (Str × D)}:PySem.W.nsIn K mainGlobals x=some (some u)->ef d u->bY K r->bY K ((x,d)::r)
 | tup {x:Str} {ds:List D} {a:Addr} {od:Option Addr} {us:List Value} {n:Nat} {sl:Array (Option Value)} {r:List (Str × D)}:PySem.W.nsIn K mainGlobals x=some (some (.ref a)) ->
   K.lookup a=some ⟨.type "tuple",od,.seq us.toArray n,sl⟩->us.length<=1000->ee ds us->bY K r->bY K ((x,.tup ds)::r)
inductive dJ (K:PySem.W.Frag):List Str->Prop
 | nil:dJ K []
 | cons {x:Str} {r:List Str}:PySem.W.nsIn K mainGlobals x=some none->dJ K r->dJ K (x::r)
noncomputable def iY:D->V
 | .bl b=>.bl b
 | .int i=>.int i
 | .str x=>.str x
 | _=>.non
theorem ef.rel {d:D} {u:Value} (h:ef d u):RelV (iY d) u/\∀ Γ ι H,Rep Γ ι H d (iY d):=by
 cases h with
 | non=>exact ⟨rfl,fun _ _ _=>.non⟩
 | bl b=>exact ⟨rfl,fun _ _ _=>.bl b⟩
 | int i t=>exact ⟨⟨t,rfl⟩,fun _ _ _=>.int i⟩
 | str x t=>exact ⟨⟨t,rfl⟩,fun _ _ _=>.str x⟩
theorem ee.rel:∀ {ds:List D} {us:List Value},ee ds us->Vals (ds.map iY) us/\∀ Γ ι H,au Γ ι H ds (ds.map iY)
 | _,_,.nil=>⟨.nil,fun _ _ _=>.nil⟩
 | _,_,.cons h r=>⟨.cons h.rel.1 (ee.rel r).1,fun Γ ι H=>.cons (h.rel.2 Γ ι H) ((ee.rel r).2 Γ ι H)⟩
theorem dj.get {K:PySem.W.Frag}:∀ {fns:List (Str × Stmt)} {x:Str} {st:Stmt},dj K fns->(x,st)∈fns->∃ f fd,PySem.W.nsIn K mainGlobals x=some (some (.ref f))/\Fun K x x st f fd
 | _,_,_,.nil,h=>by simp at h
 | _,_,_,.cons a l c k r,h=>by
  rcases List.mem_cons.mp h with e|h
  ·cases e; exact ⟨_,_,a,E6 l c k⟩
  ·exact dj.get r h
theorem bY.get {K:PySem.W.Frag}:∀ {vals:List (Str × D)} {x:Str} {d:D},bY K vals->(x,d)∈vals->∃ u v,PySem.W.nsIn K mainGlobals x=some (some u)/\RelV v u/\∀ ι H,Rep ⟨K⟩ ι H d v
 | _,_,_,.nil,h=>by simp at h
 | _,x,d,.flat a f r,h=>by
  rcases List.mem_cons.mp h with e|h
  ·cases e; exact ⟨_,_,a,f.rel.1,fun ι H=>f.rel.2 _ ι H⟩
  ·exact bY.get r h
 | _,x,d,.tup a l z f r,h=>by
  rcases List.mem_cons.mp h with e|h
  ·cases e
   refine ⟨_,.ref _,a,rfl,fun ι H=>?_⟩
   have hz:∀ {us:List Value},us.length<=1000->us.toArray.size<=sizeLine:=fun {us} h=>by rw [List.size_toArray,sizeLine_eq]; omega
   exact .fC (.inr ⟨_,_,_,l,rfl,rfl,hz z,by simpa using f.rel.1⟩) (f.rel.2 _ ι H)
  ·exact bY.get r h
theorem dJ.get {K:PySem.W.Frag}:∀ {l:List Str} {x:Str},dJ K l->x∈l->PySem.W.nsIn K mainGlobals x=some none
 | _,_,.nil,h=>by simp at h
 | _,_,.cons a r,h=>by
  rcases List.mem_cons.mp h with rfl|h
  ·exact a
  ·exact dJ.get r h
noncomputable def eK (fns:List (Str × Stmt)) (vals:List (Str × D)) (cls:List Str):List (Str × GE):=(fns.map fun p=>(p.1,.fn))++(vals.map fun p=>(p.1,.val p.2))++cls.map fun x=>(x,.cls)
theorem j4 {α β γ:Type} {f:Str × α->Str × β} (hf:∀ p,(f p).1=p.1) {g:Str × α->γ}:∀ {l:List (Str × α)} {x:Str} {b:β},(l.map f).lookup x=some b->∃ p∈l,p.1=x/\(f p).2=b/\l.lookup x=some p.2
 | [],_,_,h=>by simp at h
 | p::r,x,b,h=>by
  have e:f p=(p.1,(f p).2):=by rw [<- hf p]
  rw [List.map_cons,e,List.lookup_cons] at h
  obtain ⟨y,a⟩:=p
  cases q:x==y with
  | true =>
   simp only [q] at h
   have e:x=y:=by simpa using q
   subst e
   exact ⟨(x,a),List.mem_cons_self,rfl,by simpa using h,by rw [List.lookup_cons,q]⟩
  | false =>
   simp only [q] at h
   obtain ⟨p,h1,h2,h3,h4⟩:=j4 hf (g:=g) h
   exact ⟨p,List.mem_cons_of_mem _ h1,h2,h3,by rw [List.lookup_cons,q]; exact h4⟩
theorem kP {β:Type}:∀ {l m:List (Str × β)} {x:Str},(l++m).lookup x=(match l.lookup x with|some b=>some b|none=>m.lookup x)
 | [],m,x=>by simp
 | (y,a)::r,m,x=>by
  rw [List.cons_append,List.lookup_cons,List.lookup_cons]
  cases x==y with
  | true=>rfl
  | false=>exact kP
theorem je {α:Type}:∀ {l:List (Str × α)} {x:Str} {a:α},l.lookup x=some a->(x,a)∈l
 | [],_,_,h=>by simp at h
 | (y,b)::r,x,a,h=>by
  rw [List.lookup_cons] at h
  cases q:x==y with
  | true =>
   rw [q] at h
   have e:x=y:=by simpa using q
   subst e
   have e:b=a:=by simpa using h
   subst e
   exact List.mem_cons_self
  | false=>rw [q] at h; exact List.mem_cons_of_mem _ (je h)
theorem sR {K:PySem.W.Frag} {h:Heap} {mg:Str->Option Value} {fns:List (Str × Stmt)} {vals:List (Str × D)} {cls:List Str} (X:K.In h) (G:h.Ns mainGlobals mg) (hd:dj K fns) (hv:bY K vals)
  (hb:∀ x∈dN,(eK fns vals cls).lookup x=none->PySem.W.nsIn K mainGlobals x=some none):Txt K mg (eK fns vals cls) fns where
 fn:=fun x hx=>by
  unfold eK at hx
  rw [kP,kP] at hx
  cases q:(fns.map fun p=>(p.1,GE.fn)).lookup x with
  | some b =>
   obtain ⟨p,h1,h2,_,h4⟩:=j4 (g:=fun _=>()) (f:=fun p=>(p.1,GE.fn)) (fun _=>rfl) q
   obtain ⟨y,st⟩:=p
   have h2:y=x:=h2
   subst h2
   obtain ⟨f,fd,a,F⟩:=hd.get h1
   exact ⟨st,f,fd,h4,PySem.W.mg_of X G a,F⟩
  | none =>
   rw [q] at hx
   cases q2:(vals.map fun p=>(p.1,GE.val p.2)).lookup x with
   | some b =>
    rw [q2] at hx
    obtain ⟨p,h1,h2,h3,_⟩:=j4 (g:=fun _=>()) (f:=fun p=>(p.1,GE.val p.2)) (fun _=>rfl) q2
    have hx:b=.fn:=by simpa using hx
    rw [hx] at h3; cases h3
   | none =>
    rw [q2] at hx
    have hm:=je hx
    obtain ⟨p,_,e⟩:=List.mem_map.mp hm; cases e
 blt:=fun x hx hn=>PySem.W.mg_none_of X G (hb x hx hn)
 val:=fun x d hx=>by
  have hm:=je hx
  unfold eK at hm
  rcases List.mem_append.mp hm with hm|hm
  ·rcases List.mem_append.mp hm with hm|hm
   ·obtain ⟨p,hp,e⟩:=List.mem_map.mp hm; cases e
   ·obtain ⟨p,hp,e⟩:=List.mem_map.mp hm
    cases e
    obtain ⟨u,v,a,r,q⟩:=hv.get hp
    exact ⟨u,v,PySem.W.mg_of X G a,r,q⟩
  ·obtain ⟨p,_,e⟩:=List.mem_map.mp hm; cases e
noncomputable def W0:XW->Prop:=fun xw=>xw=XF
noncomputable def EW0:XW->XK:=fun _=>E0
theorem xY:gD XF=XF:=by
 funext c S ι H
 exact propext ⟨fun ⟨_,_,h⟩=>h,fun h=>h.elim⟩
theorem vB {P:Program} {w:World} {K:PySem.W.Frag} {mg:Str->Option Value} {base:Heap} {sub:Sub}:Xok P w K mg base W0 CX0 EW0 sub where
 noF:=fun _ _ _ _ _ h=>h
 okF:=rfl
 any:=fun xw h=>by rw [show xw=XF from h]; exact xY
 pass:=fun _ _ _ _ _ _ _ _ _ _ _ _ _ _ _ _ _ _ h=>h.elim
 rais:=fun cf c X xw e s' pos F C h=>by
  have hw:xw=XF:=F.ok
  subst hw
  have hs:∃ k,s'=.rais k:=by
   unfold jI at h
   repeat' split at h
   all_goals first|(cases h; done)|(cases h; exact ⟨_,rfl⟩)
  obtain ⟨k,rfl⟩:=hs
  refine PS.imp vv fun D σ H h=>?_
  obtain ⟨σd,ι,S,_,hS,ho⟩:=h
  exact ho ι H .refl hS
theorem B5 {K:PySem.W.Frag} {H:Hp} {a:Addr} {ns:List Int} (hO:ic H) (hS:SqL K H a (ns.map V.int)):aq ⟨K⟩ [] H []/\au ⟨K⟩ [] H [.fro (ns.map .int)] [.ref a]:=by
 refine ⟨⟨rfl,List.nodup_nil,fun l c h=>by simp at h⟩,.cons ?_ .nil⟩
 have hp:au ⟨K⟩ [] H (ns.map D.int) (ns.map V.int):=g6 ns
 have hf:Fro K H a (ns.map V.int):=by
  rcases hS with (h|⟨o,h⟩)|h
  ·rcases hO a with z|⟨o,xs,z⟩
   ·rw [h] at z; cases z
   ·rw [h] at z; cases z
  ·exact .inl ⟨o,h⟩
  ·exact .inr fun H=>.inr h
 exact .fro hf (by simp) fun i d v e1 e2=>by
  obtain ⟨y,e,f⟩:=Paired.get hp e1
  rw [e2] at e; cases e; exact f
theorem yo {fns:List (Str × Stmt)} {gt:List (Str × GE)} {Pd:Prg} (hP:fns.map (fun p=>(p.1,trF gt p.2))=Pd.map fun p=>(p.1,some p.2)):∀ x st,fns.lookup x=some st->∃ F,trF gt st=some F/\Pd.lookup x=some F:=by
 have all:∀ (fns:List (Str × Stmt)) (Pd:Prg),(fns.map (fun p=>(p.1,trF gt p.2))=Pd.map fun p=>(p.1,some p.2))->∀ x st,fns.lookup x=some st->∃ F,trF gt st=some F/\Pd.lookup x=some F:=by
  intro fns
  induction fns with
  | nil=>intro Pd _ x st h; simp at h
  | cons p r ih =>
   intro Pd hP x st h
   cases Pd with
   | nil=>simp at hP
   | cons F Pd =>
    obtain ⟨y,st0⟩:=p
    obtain ⟨y2,F⟩:=F
    rw [List.map_cons,List.map_cons] at hP
    injection hP with e1 e2
    have e1a:y=y2:=congrArg Prod.fst e1
    have e1b:trF gt st0=some F:=congrArg Prod.snd e1
    subst e1a
    rw [List.lookup_cons] at h
    rw [List.lookup_cons]
    cases q:x==y with
    | true =>
     rw [q] at h
     have h:st0=st:=by simpa using h
     subst h
     exact ⟨F,e1b,rfl⟩
    | false=>rw [q] at h; exact ih Pd e2 x st h
 exact all fns Pd hP
theorem uu {l:PySem.W.OpenLaw} {q:Program} {loose:List Str} {XP:(Str->Option Value)->Heap->Prop} {YP:World->Heap->Prop} {d:DefRec} {K:Params->PySem.W.Frag} {fns:List (Str × Stmt)} {vals:List (Str × D)} {cls:List Str} {Pd:Prg} {sub:Sub} {n:Nat} {st:Stmt} {x:Str}
  (hn:l.most=some 63) (hdf:d.params.defaults=[]) (hr:bJ n callerA) (hY:∀ (w:World) (h:Heap),YP w h->(K w.params).In h)
  (hP:fns.map (fun p=>(p.1,trF (eK fns vals cls) p.2))=Pd.map fun p=>(p.1,some p.2)) (hL:fns.lookup d.name=some st) (hx:argNames (cH st)=[x])
  (hT:∀ w:World,∀ h:Heap,(K w.params).In h->dj (K w.params) fns/\bY (K w.params) vals/\∀ x∈dN,(eK fns vals cls).lookup x=none->PySem.W.nsIn (K w.params) mainGlobals x=some none)
  (hmain:∀ ns:List Int,ns.length<=63->∃ S',ak sub Pd n d.name [.fro (ns.map .int)] []=.ok (.bl true) S') :
  PySem.W.WalkO q loose XP YP l.row.toRowW d [] (fun f vs=>PySem.call f vs):=by
 have hP':=yo hP
 refine L2.ou (n:=63) (k:=n) (x:=x) (CX:=fun _=>CX0) (sp:=fun w=>spF ⟨K w.params⟩ W0 EW0 (ak sub Pd n d.name) 1) hn (by decide) hdf hr hY (fun w mg fa h KX G hmg=>?_) (fun w H a ns hl hO hS=>?_) fun _ _ _ _ _ z=>z
 ·obtain ⟨h1,h2,h3⟩:=hT w h KX
  have T:=sR KX G h1 h2 h3
  obtain ⟨f,fd,a,F⟩:=h1.get (je hL)
  have e:=hmg.symm.trans (PySem.W.mg_of KX G a)
  cases e
  refine ⟨fd,fun s u=>?_,fun base kb nb=>?_⟩
  ·obtain ⟨F2,hF2,_⟩:=hP' d.name st hL
   obtain ⟨oc,od,kV,doc,pm,an,cdv,ct,osl,rfl,lk,hcd⟩:=F.ex
   cases st with
   | FunctionDef x1 a1 body1 e1 e2 e3 sc1 e4 e5 e6 =>
    have hF2:(if cL a1 sc1=true then (cS (trS depth depth (fF (eK fns vals cls) a1 sc1)) body1).map fun b=>(⟨(argNames a1).length,(namesOf a1 sc1).length,b⟩:Fn) else none)=some F2:=hF2
    by_cases hs1:cL a1 sc1=true
    ·obtain ⟨SC1,hpl1⟩:=mz hs1
     have nd1:(argNames a1).Nodup:=by rw [<- SC1.pre]; exact SC1.nd.sublist (List.take_sublist _ _)
     have hx:argNames a1=[x]:=hx
     have:=qU (x:=d.name) (qual:=d.name) (body:=body1) (sc:=sc1) (kV:=kV) (doc:=doc) (pm:=pm) (cdv:=cdv) (ct:=ct) (an:=an) hpl1 nd1 (us:=[u]) (by rw [hx]; rfl)
     rw [hx] at this
     exact .of_eq this
    ·rw [if_neg hs1] at hF2; cases hF2
   | _=>cases hF2
  ·have T':=sR kb nb h1 h2 h3
   have:=EF (sub:=sub) (P:=l.prog) (w:=w) (base:=base) T' vB hP' n d.name st fa fd hL F
   rw [hx] at this
   exact this
 ·obtain ⟨hs,rs⟩:=B5 hO hS
  obtain ⟨S',hm⟩:=hmain ns hl
  refine ⟨rfl,XF,rfl,rfl,[],[],[.fro (ns.map .int)],hs,rs,?_⟩
  rw [hm]
  intro ι' H' _ _ v r
  cases r
  rfl
end EV

namespace EV
open PySem
variable {α β:Type}
noncomputable def Res.bind (r:Res α) (f:α->aa->Res β):Res β:=match r with
 | .ok a S=>f a S
 | .exc c S=>.exc c S
 | .bad=>.bad
@[simp] theorem Res.aj (a:α) (S:aa) (f:α->aa->Res β):(Res.ok a S).bind f=f a S:=id rfl
@[simp] theorem Res.cN (c:Str) (S:aa) (f:α->aa->Res β):(Res.exc c S:Res α).bind f=.exc c S:=id rfl
@[simp] theorem Res.aV (f:α->aa->Res β):(Res.bad:Res α).bind f=.bad:=id rfl
theorem ay (m:M α) (f:α->M β) (S:aa):(m>>=f) S=(m S).bind fun a S'=>f a S':=by
 rw [cT]; cases m S <;> rfl
@[simp] theorem rN (a:α) (S:aa):(pure a:M α) S=.ok a S:=id rfl
@[simp] theorem eN (b:Bool) (m:M α) (S:aa):guard b m S=if b=true then m S else .bad:=by cases b <;> rfl
@[simp] theorem cV (a:α) (S:aa):opt (some a) S=.ok a S:=id rfl
@[simp] theorem nh (c:Cell) (S:aa):alloc c S=.ok (.loc S.length) (S++[c]):=id rfl
theorem Aw (m:M α) (S:aa):quiet m S=match m S with|.ok a S'=>.ok a S'|_=>.bad:=rfl
theorem ia {m:M α} {S S':aa} {a:α} (h:m S=.ok a S'):quiet m S=.ok a S':=by rw [Aw,h]
section
variable (sub:Sub) (cf:Str->List D->M D) (σ:Sg) (S:aa)
@[simp] theorem As (i:Nat):ev sub cf (.v i) σ S=bf σ i S:=id rfl
@[simp] theorem FD (d:D):ev sub cf (.c d) σ S=.ok d S:=id rfl
@[simp] theorem wM (o:Op2) (a b:E):ev sub cf (.bin o a b) σ S=(ev sub cf a σ S).bind fun x S1=>(ev sub cf b σ S1).bind fun y S2=>opD o x y S2:=by
 show (ev sub cf a σ>>=fun x=>ev sub cf b σ>>=fun y=>opD o x y) S=_
 simp only [ay]
@[simp] theorem qV (o:Cm) (a b:E):ev sub cf (.cmp o a b) σ S=(ev sub cf a σ S).bind fun x S1=>(ev sub cf b σ S1).bind fun y S2=>cmD o x y S2:=by
 show (ev sub cf a σ>>=fun x=>ev sub cf b σ>>=fun y=>cmD o x y) S=_
 simp only [ay]
@[simp] theorem Dt (o o':Cm) (a b c:E):ev sub cf (.chn o o' a b c) σ S=(ev sub cf a σ S).bind fun x S1=>(ev sub cf b σ S1).bind fun y S2=>(cmD o x y S2).bind fun r S3=>match r with
  | .bl true=>(ev sub cf c σ S3).bind fun z S4=>cmD o' y z S4
  | .bl false=>.ok (.bl false) S3
  | _=>.bad:=by
 show (ev sub cf a σ>>=fun x=>ev sub cf b σ>>=fun y=>cmD o x y>>=fun r=>match r with|.bl true=>ev sub cf c σ>>=fun z=>cmD o' y z|.bl false=>pure (D.bl false)|_=>bad) S=_
 simp only [ay]
 congr 1; funext x S1; congr 1; funext y S2; congr 1; funext r S3
 cases r <;> first|rfl|(rename_i b; cases b <;> simp [ay])
@[simp] theorem tT (a b:E):ev sub cf (.and a b) σ S=(ev sub cf a σ S).bind fun r S1=>match r with|.bl true=>ev sub cf b σ S1|.bl false=>.ok (.bl false) S1|_=>.bad:=by
 show (ev sub cf a σ>>=fun r=>match r with|.bl true=>ev sub cf b σ|.bl false=>pure (D.bl false)|_=>bad) S=_
 rw [ay]; congr 1; funext r S1
 cases r <;> first|rfl|(rename_i b; cases b <;> rfl)
@[simp] theorem vm (a:E):ev sub cf (.neg a) σ S=(ev sub cf a σ S).bind fun r S1=>match r with|.int i=>.ok (.int (-i)) S1|_=>.bad:=by
 show (ev sub cf a σ>>=fun r=>match r with|.int i=>pure (D.int (-i))|_=>bad) S=_
 rw [ay]; congr 1; funext r S1; cases r <;> rfl
@[simp] theorem nA (c a b:E):ev sub cf (.ite c a b) σ S=(evT sub cf c σ S).bind fun k S1=>if k=true then ev sub cf a σ S1 else ev sub cf b σ S1:=by
 show (evT sub cf c σ>>=fun k=>if k=true then ev sub cf a σ else ev sub cf b σ) S=_
 rw [ay]; congr 1; funext k S1; cases k <;> rfl
@[simp] theorem AA:evs sub cf .nl σ S=.ok [] S:=id rfl
@[simp] theorem qW (a r:E):evs sub cf (.cs a r) σ S=(ev sub cf a σ S).bind fun x S1=>(evs sub cf r σ S1).bind fun xs S2=>.ok (x::xs) S2:=by
 show (ev sub cf a σ>>=fun x=>evs sub cf r σ>>=fun xs=>pure (x::xs)) S=_
 simp only [ay]; rfl
@[simp] theorem Cr (es:E):ev sub cf (.tup es) σ S=(evs sub cf es σ S).bind fun ds S1=>if fits ds.length=true then .ok (.tup ds) S1 else .bad:=by
 show (evs sub cf es σ>>=fun ds=>guard (fits ds.length) (pure (D.tup ds))) S=_
 rw [ay]; simp only [eN,rN]
@[simp] theorem zF (es:E):ev sub cf (.lst es) σ S=(evs sub cf es σ S).bind fun ds S1=>if fits ds.length=true then .ok (.loc S1.length) (S1++[.lst ds]) else .bad:=by
 show (evs sub cf es σ>>=fun ds=>guard (fits ds.length) (alloc (.lst ds))) S=_
 rw [ay]; simp only [eN,nh]
@[simp] theorem ze (a i:E):ev sub cf (.ix a i) σ S=(ev sub cf a σ S).bind fun x S1=>(ev sub cf i σ S1).bind fun y S2=>ixD x y S2:=by
 show (ev sub cf a σ>>=fun x=>ev sub cf i σ>>=fun y=>ixD x y) S=_
 simp only [ay]
noncomputable def ff (e:E) (S:aa):Res (Option Int):=if e.bh=true then .ok none S else (ev sub cf e σ S).bind fun d S1=>fq d S1
@[simp] theorem wz (a lo hi:E):ev sub cf (.sl a lo hi) σ S=(ev sub cf a σ S).bind fun x S1=>(ff sub cf σ lo S1).bind fun l S2=>(ff sub cf σ hi S2).bind fun h S3=>slD x l h S3:=by
 show (ev sub cf a σ>>=fun x=>(if lo.bh=true then pure none else ev sub cf lo σ>>=fq)>>=fun l=>(if hi.bh=true then pure none else ev sub cf hi σ>>=fq)>>=fun h=>slD x l h) S=_
 simp only [ay]
 congr 1; funext x S1
 unfold ff
 cases lo.bh <;> cases hi.bh <;> simp [ay]
@[simp] theorem BF (f:Str) (es:E):ev sub cf (.call f es) σ S=(evs sub cf es σ S).bind fun ds S1=>cf f ds S1:=by
 show (evs sub cf es σ>>=fun ds=>cf f ds) S=_
 rw [ay]
@[simp] theorem Cq (b:Bi) (es:E):ev sub cf (.bi b es) σ S=(evs sub cf es σ S).bind fun ds S1=>biD sub b ds S1:=by
 show (evs sub cf es σ>>=fun ds=>biD sub b ds) S=_
 rw [ay]
@[simp] theorem p7 (m:Me) (o es:E):ev sub cf (.me m o es) σ S=(ev sub cf o σ S).bind fun x S1=>if x.dw S1=true then (evs sub cf es σ S1).bind fun ds S2=>meD m x ds S2 else .bad:=by
 show (ev sub cf o σ>>=fun x=>iD x (evs sub cf es σ>>=fun ds=>meD m x ds)) S=_
 rw [ay]; congr 1; funext x S1
 show guard (x.dw S1) (evs sub cf es σ>>=fun ds=>meD m x ds) S1=_
 rw [eN,ay]
theorem iy (k:Nat) (el:E) (t:Tg) (it tt:E):ev sub cf (.comp k el t it tt) σ S=(evI sub cf it σ S).bind fun s S1=>(quiet (bw s (fun d=>aO t d (σ++List.replicate k none)>>=fun σ'=>(if tt.bh=true then pure true else evT sub cf tt σ')>>=fun b=>if b=true then ev sub cf el σ'>>=fun y=>pure (some y) else pure none) s.its) S1).bind fun ys S2=>if fits ys.length=true then .ok (.loc S2.length) (S2++[.lst ys]) else .bad:=by
 show (evI sub cf it σ>>=fun s=>quiet (bw s (fun d=>aO t d (σ++List.replicate k none)>>=fun σ'=>(if tt.bh=true then pure true else evT sub cf tt σ')>>=fun b=>if b=true then ev sub cf el σ'>>=fun y=>pure (some y) else pure none) s.its)>>=fun ys=>guard (fits ys.length) (alloc (.lst ys))) S=_
 simp only [ay,eN,nh]
@[simp] theorem sA (a b:E):evT sub cf (.and a b) σ S=(evT sub cf a σ S).bind fun k S1=>if k=true then evT sub cf b σ S1 else .ok false S1:=by
 show (evT sub cf a σ>>=fun k=>if k=true then evT sub cf b σ else pure false) S=_
 rw [ay]; congr 1; funext k S1; cases k <;> rfl
@[simp] theorem oK (a b:E):evT sub cf (.or a b) σ S=(evT sub cf a σ S).bind fun k S1=>if k=true then .ok true S1 else evT sub cf b σ S1:=by
 show (evT sub cf a σ>>=fun k=>if k=true then pure true else evT sub cf b σ) S=_
 rw [ay]; congr 1; funext k S1; cases k <;> rfl
@[simp] theorem Et (a:E):evT sub cf (.not a) σ S=(evT sub cf a σ S).bind fun k S1=>.ok (!k) S1:=by
 show (evT sub cf a σ>>=fun k=>pure (!k)) S=_
 rw [ay]; rfl
@[simp] theorem xC (o:Cm) (a b:E):evT sub cf (.cmp o a b) σ S=(ev sub cf a σ S).bind fun x S1=>(ev sub cf b σ S1).bind fun y S2=>(cmD o x y S2).bind fun r S3=>truth r S3:=by
 show (ev sub cf a σ>>=fun x=>ev sub cf b σ>>=fun y=>cmD o x y>>=fun r=>truth r) S=_
 simp only [ay]
@[simp] theorem tW (f:Str) (es:E):evT sub cf (.call f es) σ S=(ev sub cf (.call f es) σ S).bind fun d S1=>truth d S1:=by
 show (ev sub cf (.call f es) σ>>=truth) S=_
 rw [ay]
@[simp] theorem vF (b:Bi) (es:E):evT sub cf (.bi b es) σ S=(ev sub cf (.bi b es) σ S).bind fun d S1=>truth d S1:=by
 show (ev sub cf (.bi b es) σ>>=truth) S=_
 rw [ay]
@[simp] theorem tS (a:E):evI sub cf (.iSeq a) σ S=(ev sub cf a σ S).bind fun d S1=>srcOf d S1:=by
 show (ev sub cf a σ>>=srcOf) S=_
 rw [ay]
@[simp] theorem BU (a:E):evI sub cf (.iEnum a) σ S=(ev sub cf a σ S).bind fun d S1=>(srcOf d S1).bind fun s S2=>.ok { s with its:=num 0 s.its } S2:=by
 show (ev sub cf a σ>>=fun d=>srcOf d>>=fun s=>pure { s with its:=num 0 s.its }) S=_
 simp only [ay]; rfl
@[simp] theorem z7 (es:E):evI sub cf (.iRng es) σ S=(evs sub cf es σ S).bind fun ds S1=>(opt (bN ds) S1).bind fun is S2=>.ok ⟨is.map .int,none,[]⟩ S2:=by
 show (evs sub cf es σ>>=fun ds=>opt (bN ds)>>=fun is=>pure (⟨is.map .int,none,[]⟩:Src)) S=_
 simp only [ay]; rfl
@[simp] theorem wD (e:E):exec sub cf (.ret e) σ S=(ev sub cf e σ S).bind fun d S1=>.ok (.rt d) S1:=by
 show (ev sub cf e σ>>=fun d=>pure (Fl.rt d)) S=_
 rw [ay]; rfl
@[simp] theorem tN (t:Tg) (e:E):exec sub cf (.set t e) σ S=(ev sub cf e σ S).bind fun d S1=>(aO t d σ S1).bind fun σ' S2=>.ok (.nx σ') S2:=by
 show (ev sub cf e σ>>=fun d=>aO t d σ>>=fun σ'=>pure (Fl.nx σ')) S=_
 simp only [ay]; rfl
@[simp] theorem oM (e:E):exec sub cf (.ex e) σ S=(ev sub cf e σ S).bind fun _ S1=>.ok (.nx σ) S1:=by
 show (ev sub cf e σ>>=fun _=>pure (Fl.nx σ)) S=_
 rw [ay]; rfl
@[simp] theorem nW (c:E) (a b:EV.S):exec sub cf (.ite c a b) σ S=(evT sub cf c σ S).bind fun k S1=>if k=true then exec sub cf a σ S1 else exec sub cf b σ S1:=by
 show (evT sub cf c σ>>=fun k=>if k=true then exec sub cf a σ else exec sub cf b σ) S=_
 rw [ay]; congr 1; funext k S1; cases k <;> rfl
theorem v_ (t:Tg) (it:E) (b:EV.S):exec sub cf (.forS t it b) σ S=quiet (evI sub cf it σ>>=fun s=>forL s (fun d σ=>aO t d σ>>=fun σ'=>exec sub cf b σ') s.its σ) S:=rfl
noncomputable def jl (b:EV.S) (r:Res Fl):Res Fl:=r.bind fun f S1=>match f with|.nx σ'=>exec sub cf b σ' S1|f=>.ok f S1
@[simp] theorem DF (b:EV.S) (σ':Sg) (S1:aa):jl sub cf b (.ok (.nx σ') S1)=exec sub cf b σ' S1:=id rfl
@[simp] theorem zV (b:EV.S) (d:D) (S1:aa):jl sub cf b (.ok (.rt d) S1)=.ok (.rt d) S1:=id rfl
@[simp] theorem r_ (a b:EV.S):exec sub cf (.seq a b) σ S=jl sub cf b (exec sub cf a σ S):=by
 show (exec sub cf a σ>>=fun f=>match f with|.nx σ'=>exec sub cf b σ'|f=>pure f) S=_
 rw [ay]; unfold jl; congr 1; funext f S1; cases f <;> rfl
end
theorem yT {sub:Sub} {cf:Str->List D->M D} {σ σ':Sg} {S S':aa} {a r:EV.S} (h:exec sub cf a σ S=.ok (.nx σ') S'):exec sub cf (.seq a r) σ S=exec sub cf r σ' S':=by
 rw [r_,h,DF]
theorem rY (σ:Sg) (i:Nat) (S:aa):bf σ i S=match σ[i]? with|some (some d)=>.ok d S|_=>.bad:=by
 unfold bf
 cases σ[i]? with
 | none=>rfl
 | some x=>cases x <;> rfl
@[simp] theorem Fz (d:D) (σ:Sg) (S:aa):bf (some d::σ) 0 S=.ok d S:=id rfl
@[simp] theorem Fp (x:Option D) (σ:Sg) (i:Nat) (S:aa):bf (x::σ) (i+1) S=bf σ i S:=id rfl
@[simp] theorem iz (i:Nat) (d:D) (σ:Sg) (S:aa):aO (.one i) d σ S=.ok (σ.set i (some d)) S:=id rfl
@[simp] theorem jY (is:List Nat) (ds:List D) (σ:Sg) (S:aa):aO (.many is) (.tup ds) σ S=if ds.length=is.length then .ok (bV is ds σ) S else .bad:=by
 show guard (decide (ds.length=is.length)) (pure (bV is ds σ)) S=_
 simp
@[simp] theorem jZ (i j:Int) (S:aa):opD .add (.int i) (.int j) S=.ok (.int (i+j)) S:=id rfl
@[simp] theorem cu (i j:Int) (S:aa):opD .sub (.int i) (.int j) S=.ok (.int (i - j)) S:=id rfl
@[simp] theorem zg (i j:Int) (S:aa):opD .mul (.int i) (.int j) S=if (small i||small j)=true then .ok (.int (i * j)) S else .bad:=by
 show guard _ _ S=_
 simp
@[simp] theorem z8 (i j:Int) (S:aa):opD .fdiv (.int i) (.int j) S=if (decide (0 < j)&&decide (j < 1073741824))=true then .ok (.int (i / j)) S else .bad:=by
 show guard _ _ S=_
 simp
theorem C8 (i j:Int) (S:aa):opD .pow (.int i) (.int j) S=if (decide (0<=j)&&decide (j<=1000)&&decide (i.natAbs < 2 ^ 64))=true then .ok (.int (i ^ j.toNat)) S else .bad:=by
 show guard _ _ S=_
 simp
@[simp] theorem t8 (i j:Int) (S:aa):opD .mod (.int i) (.int j) S=if 0 < j then .ok (.int (i % j)) S else .bad:=by
 show guard _ _ S=_
 simp
@[simp] theorem zG {n:Nat} (h:n<=1000):fits n=true:=decide_eq_true (by unfold aM; omega)
@[simp] theorem jq (i j:Int) (S:aa):cmD .lt (.int i) (.int j) S=.ok (.bl (decide (i < j))) S:=id rfl
@[simp] theorem lN (i j:Int) (S:aa):cmD .le (.int i) (.int j) S=.ok (.bl (decide (i<=j))) S:=id rfl
@[simp] theorem rq (i j:Int) (S:aa):cmD .gt (.int i) (.int j) S=.ok (.bl (decide (j < i))) S:=id rfl
@[simp] theorem D9 (i j:Int) (S:aa):cmD .ge (.int i) (.int j) S=.ok (.bl (decide (j<=i))) S:=id rfl
theorem jR (x y:D) (S:aa):cmD .eq x y S=match eqD deep S x y with|some k=>.ok (.bl k) S|none=>.bad:=by
 show (eqM x y>>=fun b=>pure (D.bl b)) S=_
 rw [ay]
 unfold eqM
 cases eqD deep S x y <;> rfl
@[simp] theorem iL (i j:Int) (S:aa):cmD .eq (.int i) (.int j) S=.ok (.bl (i==j)) S:=id rfl
@[simp] theorem fz (i j:Str) (S:aa):cmD .eq (.str i) (.str j) S=.ok (.bl (i==j)) S:=id rfl
@[simp] theorem DM (i j:Int) (S:aa):cmD .ne (.int i) (.int j) S=.ok (.bl (!(i==j))) S:=id rfl
theorem cE {l:Nat} {ds:List D} {S:aa} (h:S[l]?=some (.lst ds)):items (.loc l) S=.ok ds S:=by
 show (match listAt S l with|some ds=>Res.ok ds S|none=>.bad)=_
 unfold listAt; rw [h]
theorem kM (a:D) (j:Int) (S:aa):ixD a (.int j) S=(items a S).bind fun xs S1=>opt (atI xs j) S1:=by
 show (items a>>=fun xs=>opt (atI xs j)) S=_
 rw [ay]
@[simp] theorem tZ (xs:List D) (j:Int) (S:aa):ixD (.tup xs) (.int j) S=opt (atI xs j) S:=by rw [kM]; rfl
@[simp] theorem Cz (xs:List D) (j:Int) (S:aa):ixD (.fro xs) (.int j) S=opt (atI xs j) S:=by rw [kM]; rfl
theorem CP {l:Nat} {xs:List D} {j:Int} {S:aa} (h:S[l]?=some (.lst xs)):ixD (.loc l) (.int j) S=opt (atI xs j) S:=by rw [kM,cE h]; rfl
theorem fj {xs:List D} {j:Nat}:atI xs (j:Int)=xs[j]?:=by
 unfold atI ixN
 rw [if_pos (by omega)]
 by_cases h:j < xs.length
 ·rw [if_pos (by omega)]; simp
 ·rw [if_neg (by omega)]; rw [List.getElem?_eq_none (by omega)]; rfl
@[simp] theorem iA (xs:List D):atI xs 0=xs[0]?:=fj (j:=0)
@[simp] theorem kX (sub:Sub) (d:D) (S:aa):biD sub .len [d] S=(items d S).bind fun ds S1=>.ok (.int ds.length) S1:=by
 show (items d>>=fun ds=>pure (D.int ds.length)) S=_
 rw [ay]; rfl
@[simp] theorem tO (sub:Sub) (t:Ty) (d:D) (S:aa):biD sub (.inst t) [d] S=match ek sub S d t with|some k=>.ok (.bl k) S|none=>.bad:=id rfl
@[simp] theorem D_ (sub:Sub) (d:D) (S:aa):biD sub .tuple [d] S=(items d S).bind fun ds S1=>.ok (.tup ds) S1:=by
 show (items d>>=fun ds=>pure (D.tup ds)) S=_
 rw [ay]; rfl
@[simp] theorem Ep (sub:Sub) (d:D) (S:aa):biD sub .list [d] S=(items d S).bind fun ds S1=>.ok (.loc S1.length) (S1++[.lst ds]):=by
 show (items d>>=fun ds=>alloc (.lst ds)) S=_
 rw [ay]; rfl
theorem xS (sub:Sub) (d:D) (S:aa):biD sub .all [d] S=(items d S).bind fun ds S1=>(opt (cX ds) S1).bind fun bs S2=>.ok (.bl (bs.all id)) S2:=by
 show (items d>>=fun ds=>opt (cX ds)>>=fun bs=>pure (D.bl (bs.all id))) S=_
 simp only [ay]; rfl
theorem zO (sub:Sub) (d:D) (S:aa):biD sub .sum [d] S=(items d S).bind fun ds S1=>(opt (allInts ds) S1).bind fun is S2=>.ok (.int is.sum) S2:=by
 show (items d>>=fun ds=>opt (allInts ds)>>=fun is=>pure (D.int is.sum)) S=_
 simp only [ay]; rfl
theorem w4 (sub:Sub) (d:D) (S:aa):biD sub .min [d] S=(items d S).bind fun ds S1=>(opt (allInts ds) S1).bind fun is S2=>mF is S2:=by
 show (items d>>=fun ds=>opt (allInts ds)>>=fun is=>mF is) S=_
 simp only [ay]
theorem tR (sub:Sub) (d:D) (S:aa):biD sub .max [d] S=(items d S).bind fun ds S1=>(opt (allInts ds) S1).bind fun is S2=>l9 is S2:=by
 show (items d>>=fun ds=>opt (allInts ds)>>=fun is=>l9 is) S=_
 simp only [ay]
theorem iu {l:Nat} {ds:List D} {d:D} {S:aa} (h:S[l]?=some (.lst ds)) (hz:ds.length < aM):meD .append (.loc l) [d] S=.ok .non (S.set l (.lst (ds++[d]))):=by
 show bK l (fun ds=>guard (dP ds.length) (put l (.lst (ds++[d])))) S=_
 unfold bK
 rw [h]
 simp [dP,hz,put]
@[simp] theorem bR (S T:aa) (c:Cell):(S++c::T)[S.length]?=some c:=by simp
@[simp] theorem vI (S T:aa) (k:Nat):(S++T)[S.length+k]?=T[k]?:=by
 rw [List.getElem?_append_right (by omega)]; congr 1; omega
@[simp] theorem ig (S T:aa) (c d:Cell):(S++c::T).set S.length d=S++d::T:=by simp
@[simp] theorem fJ (S T:aa):(S++T).take S.length=S:=by simp
theorem kK {S T:aa} {xs:List D} {d:D} (h:xs.length<=1000000):meD .append (.loc S.length) [d] (S++.lst xs::T)=.ok .non (S++.lst (xs++[d])::T):=by
 rw [iu (ds:=xs) (bR S T _) (by unfold aM; omega),ig]
theorem zU (its raw:List D) (S:aa):aI ⟨its,none,raw⟩ S=.ok () S:=rfl
theorem gn {s:Src} {S:aa} (h:s.l=none\/∃ l,s.l=some l/\S[l]?=some (.lst s.raw)):aI s S=.ok () S:=by
 unfold aI
 rcases h with h|⟨l,h,h2⟩
 ·rw [h]; rfl
 ·rw [h]; unfold listAt; simp [h2]
theorem eW (s:Src) (f:D->Sg->M Fl) (σ:Sg) (S:aa):forL s f [] σ S=(aI s S).bind fun _ S1=>.ok (.nx σ) S1:=by
 show (aI s>>=fun _=>pure (Fl.nx σ)) S=_
 rw [ay]; rfl
theorem gE (s:Src) (f:D->Sg->M Fl) (d:D) (ds:List D) (σ:Sg) (S:aa):forL s f (d::ds) σ S=(aI s S).bind fun _ S1=>(f d σ S1).bind fun fl S2=>match fl with
  | .nx σ'=>forL s f ds σ' S2|.ct σ'=>forL s f ds σ' S2|.bk σ'=>.ok (.nx σ') S2|.rt d=>.ok (.rt d) S2:=by
 show (aI s>>=fun _=>f d σ>>=fun fl=>match fl with|.nx σ'=>forL s f ds σ'|.ct σ'=>forL s f ds σ'|.bk σ'=>pure (Fl.nx σ')|.rt d=>pure (Fl.rt d)) S=_
 simp only [ay]
 congr 1; funext _ S1; congr 1; funext fl S2; cases fl <;> rfl
theorem kR (s:Src) (f:D->M (Option D)) (S:aa):bw s f [] S=(aI s S).bind fun _ S1=>.ok [] S1:=by
 show (aI s>>=fun _=>pure []) S=_
 rw [ay]; rfl
theorem lD (s:Src) (f:D->M (Option D)) (d:D) (ds:List D) (S:aa):bw s f (d::ds) S=(aI s S).bind fun _ S1=>(f d S1).bind fun y S2=>(bw s f ds S2).bind fun ys S3=>.ok (match y with|some y=>y::ys|none=>ys) S3:=by
 show (aI s>>=fun _=>f d>>=fun y=>bw s f ds>>=fun ys=>pure (match y with|some y=>y::ys|none=>ys)) S=_
 simp only [ay]; rfl
theorem kW {s:Src} {f:D->M (Option D)} {g:D->Option D} {S:aa} (hs:aI s S=.ok () S):∀ {its:List D},(∀ d∈its,f d S=.ok (g d) S)->bw s f its S=.ok (its.filterMap g) S
 | [],_=>by rw [kR,hs]; rfl
 | d::ds,h=>by
  rw [lD,hs]
  simp only [Res.aj]
  rw [h d List.mem_cons_self]
  simp only [Res.aj]
  rw [kW hs fun e he=>h e (List.mem_cons_of_mem _ he)]
  simp only [Res.aj,List.filterMap_cons]
  cases g d <;> rfl
theorem DY (S S':aa) (d:D):fO S (.ok (.rt d) S')=leave S d S':=rfl
mutual
theorem mT:∀ {d:D} {n m:Nat},n<=m->d.low n=true->d.low m=true
 | .tup ds,n,m,h,q=>fK h q
 | .fro ds,n,m,h,q=>fK h q
 | .loc l,n,m,h,q=>decide_eq_true (Nat.lt_of_lt_of_le (of_decide_eq_true q) h)
 | .non,_,_,_,_=>rfl
 | .bl _,_,_,_,_=>rfl
 | .int _,_,_,_,_=>rfl
 | .str _,_,_,_,_=>rfl
 | .exn _,_,_,_,_=>rfl
theorem fK:∀ {ds:List D} {n m:Nat},n<=m->D.lows n ds=true->D.lows m ds=true
 | [],_,_,_,_=>rfl
 | d::r,n,m,h,q=>by
  rw [D.lows,Bool.and_eq_true] at q ⊢
  exact ⟨mT h q.1,fK h q.2⟩
end
abbrev D.cl (d:D):Prop:=d.low 0=true
theorem cQ {S S':aa} {d:D} (h:d.cl) (ht:S'.take S.length=S):leave S d S'=.ok d S:=by
 unfold leave
 rw [if_pos ht,if_pos (mT (Nat.zero_le _) h)]
theorem leave_new {S T:aa} {ds:List D} {k:Nat} (h:T[k]?=some (.lst ds)) (hc:D.lows 0 ds=true):leave S (.loc (S.length+k)) (S++T)=.ok (.loc S.length) (S++[.lst ds]):=by
 unfold leave
 rw [if_pos (by simp)]
 rw [if_neg (by show ¬ decide (S.length+k < S.length)=true; simp)]
 simp only
 rw [vI,h]
 simp only
 rw [if_pos (show Cell.low S.length (.lst ds)=true from fK (Nat.zero_le _) hc)]
theorem j8 {n:Nat}:∀ {ds:List D},D.lows n ds=true ↔ ∀ d∈ds,d.low n=true
 | []=>by simp [D.lows]
 | d::r=>by rw [D.lows,Bool.and_eq_true,j8]; simp
theorem p8 {n:Nat} (is:List Int):D.lows n (is.map .int)=true:=j8.mpr fun d h=>by
 obtain ⟨i,_,rfl⟩:=List.mem_map.mp h; rfl
theorem fL {α:Type} {n:Nat} {f:α->D} (hf:∀ a,(f a).low n=true) (l:List α):D.lows n (l.map f)=true:=j8.mpr fun d h=>by
 obtain ⟨i,_,rfl⟩:=List.mem_map.mp h; exact hf i
theorem kQ (is:List Int):allInts (is.map .int)=some is:=by
 induction is with
 | nil=>rfl
 | cons i r ih=>simp [allInts,ih]
theorem z0 (is:List Bool):cX (is.map .bl)=some is:=by
 induction is with
 | nil=>rfl
 | cons i r ih=>simp [cX,ih]
section
variable {sub:Sub} {cf:Str->List D->M D} {σ:Sg} {S S1:aa} {k i:Nat} {el it tt:E} {s:Src}
theorem Dk {g:D->D} {p:D->Bool} (hn:tt.bh=false) (hi:evI sub cf it σ S=.ok s S1) (hs:aI s S1=.ok () S1) (hp:∀ d∈s.its,evT sub cf tt ((σ++List.replicate k none).set i (some d)) S1=.ok (p d) S1)
  (hg:∀ d∈s.its,p d=true->ev sub cf el ((σ++List.replicate k none).set i (some d)) S1=.ok (g d) S1) (hz:s.its.length<=aM) :
  ev sub cf (.comp k el (.one i) it tt) σ S=.ok (.loc S1.length) (S1++[.lst ((s.its.filter p).map g)]):=by
 rw [iy,hi]
 simp only [Res.aj]
 have:=kW (s:=s) (f:=fun d=>aO (.one i) d (σ++List.replicate k none)>>=fun σ'=>(if tt.bh=true then pure true else evT sub cf tt σ')>>=fun b=>if b=true then ev sub cf el σ'>>=fun y=>pure (some y) else pure none) (g:=fun d=>if p d=true then some (g d) else none) (S:=S1) hs (its:=s.its) (fun d hd=>by
  simp only [ay,iz,Res.aj,hn,Bool.false_eq_true,if_false]
  rw [hp d hd]
  cases q:p d with
  | false=>simp
  | true=>simp [ay,hg d hd q])
 rw [ia this]
 have e:s.its.filterMap (fun d=>if p d=true then some (g d) else none)=(s.its.filter p).map g:=by
  induction s.its with
  | nil=>rfl
  | cons a r ih=>cases q:p a <;> simp [q,ih]
 rw [e]
 have hz':((s.its.filter p).map g).length<=aM:=by
  rw [List.length_map]; exact Nat.le_trans (List.length_filter_le _ _) hz
 simp only [Res.aj]
 rw [if_pos (show fits ((s.its.filter p).map g).length=true from decide_eq_true hz')]
theorem B7 {is:List Nat} {g:D->D} (hi:evI sub cf it σ S=.ok s S1) (hs:aI s S1=.ok () S1) (hg:∀ d∈s.its,∃ ds,d=.tup ds/\ds.length=is.length/\ev sub cf el (bV is ds (σ++List.replicate k none)) S1=.ok (g d) S1) (hz:s.its.length<=aM) :
  ev sub cf (.comp k el (.many is) it .nl) σ S=.ok (.loc S1.length) (S1++[.lst (s.its.map g)]):=by
 rw [iy,hi]
 simp only [Res.aj]
 have:=kW (s:=s) (f:=fun d=>aO (.many is) d (σ++List.replicate k none)>>=fun σ'=>(if E.bh .nl=true then pure true else evT sub cf .nl σ')>>=fun b=>if b=true then ev sub cf el σ'>>=fun y=>pure (some y) else pure none) (g:=fun d=>some (g d)) (S:=S1) hs (its:=s.its) (fun d hd=>by
  obtain ⟨ds,rfl,hl,hd⟩:=hg d hd
  simp only [ay,jY,hl,if_true,Res.aj]
  show (ev sub cf el (bV is ds (σ++List.replicate k none))>>=fun y=>pure (some y)) S1=_
  rw [ay,hd]; rfl)
 rw [ia this]
 have e:s.its.filterMap (fun d=>some (g d))=s.its.map g:=by rw [<- List.filterMap_eq_map]; rfl
 rw [e]
 simp [fits,hz]
end
theorem iB {l:Nat} {ds:List D} {S:aa} (h:S[l]?=some (.lst ds)):srcOf (.loc l) S=.ok ⟨ds,some l,ds⟩ S:=by
 show (items (.loc l)>>=fun ds=>pure (⟨ds,some l,ds⟩:Src)) S=_
 rw [ay,cE h]; rfl
theorem jz {sub:Sub} {S:aa} {α:Type} (l:List α) (g:α->Bool):biD sub .all [.loc S.length] (S++[.lst (l.map fun a=>.bl (g a))])=.ok (.bl (l.all g)) (S++[.lst (l.map fun a=>.bl (g a))]):=by
 rw [xS,cE (ds:=l.map fun a=>D.bl (g a)) (bR S [] _)]
 simp only [Res.aj]
 rw [show cX (l.map fun a=>D.bl (g a))=some (l.map g) from by rw [<- z0,List.map_map]; rfl]
 simp [List.all_map]
section
variable {sub:Sub} {cf:Str->List D->M D} {σ:Sg} {S S1 S2:aa} {t:Tg} {it:E} {b:EV.S} {s:Src} {fl:Fl}
noncomputable def bO (sub:Sub) (cf:Str->List D->M D) (t:Tg) (b:EV.S):D->Sg->M Fl:=fun d σ=>aO t d σ>>=fun σ'=>exec sub cf b σ'
theorem fY (i:Nat) (b:EV.S) (d:D) (σ:Sg) (S:aa):bO sub cf (.one i) b d σ S=exec sub cf b (σ.set i (some d)) S:=by
 unfold bO; rw [ay]; rfl
theorem zR (is:List Nat) (b:EV.S) (ds:List D) (σ:Sg) (S:aa) (h:ds.length=is.length):bO sub cf (.many is) b (.tup ds) σ S=exec sub cf b (bV is ds σ) S:=by
 unfold bO; rw [ay,jY,if_pos h]; rfl
theorem fu (hi:evI sub cf it σ S=.ok s S1) (hf:forL s (bO sub cf t b) s.its σ S1=.ok fl S2):exec sub cf (.forS t it b) σ S=.ok fl S2:=by
 rw [v_]
 apply ia
 rw [ay,hi]
 exact hf
end
section
variable {sub:Sub} {cf:Str->List D->M D} {s:Src} {i j l:Nat} {e:E} {g:D->D}
noncomputable def fm (i:Nat) (its:List D) (σ:Sg):Sg:=match its.getLast? with
 | some d=>σ.set i (some d)
 | none=>σ
@[simp] theorem Fq (i:Nat) (σ:Sg):fm i [] σ=σ:=id rfl
theorem zC (i:Nat) (d:D) (its:List D) (σ:Sg):fm i (d::its) σ=fm i its (σ.set i (some d)):=by
 unfold fm
 rw [List.getLast?_cons]
 cases q:its.getLast? with
 | none=>rfl
 | some e=>simp [List.set_set]
theorem ir {α:Type} {S:List α} {l:Nat} {c:α} (h:S[l]?=some c):S.set l c=S:=by
 apply List.ext_getElem?
 intro k
 rw [List.getElem?_set]
 split
 ·rename_i e; subst e
  split
  ·exact h.symm
  ·rename_i h2; exact absurd (List.getElem?_eq_some_iff.mp h).1 h2
 ·rfl
theorem get_set {α:Type} {S:List α} {l:Nat} {c d:α} (h:S[l]?=some c):(S.set l d)[l]?=some d:=by
 rw [List.getElem?_set_self (List.getElem?_eq_some_iff.mp h).1]
theorem ET {σ:Sg} {S:aa} {xs:List D} {d:D} (hj:σ[j]?=some (some (.loc l))) (hS:S[l]?=some (.lst xs)) (he:ev sub cf e σ S=.ok d S) (hz:xs.length < aM) :
  exec sub cf (.ex (.me .append (.v j) (.cs e .nl))) σ S=.ok (.nx σ) (S.set l (.lst (xs++[d]))):=by
 have hv:bf σ j S=.ok (.loc l) S:=by rw [rY,hj]
 have hL:(D.loc l).dw S=true:=by show (match S[l]? with|some (.lst _)=>true|_=>false)=true; rw [hS]
 simp only [oM,p7,As,hv,Res.aj,hL,if_true,qW,he,AA,iu hS hz]
theorem nP {α:Type} {f g:α->D} (hij:i≠j):∀ {ks:List α} {σ:Sg} {S:aa} {xs:List D},σ[j]?=some (some (.loc l))->S[l]?=some (.lst xs)->(∀ ys,aI s (S.set l (.lst ys))=.ok () (S.set l (.lst ys))) ->
  (∀ a∈ks,∀ ys,ev sub cf e (σ.set i (some (f a))) (S.set l (.lst ys))=.ok (g a) (S.set l (.lst ys)))->xs.length+ks.length<=aM ->
  forL s (bO sub cf (.one i) (.ex (.me .append (.v j) (.cs e .nl)))) (ks.map f) σ S=.ok (.nx (fm i (ks.map f) σ)) (S.set l (.lst (xs++ks.map g)))
 | [],σ,S,xs,h1,h2,h3,h4,h5=>by
  have:=h3 xs
  rw [ir h2] at this
  rw [List.map_nil,eW,this]
  simp [ir h2]
 | d::ks,σ,S,xs,h1,h2,h3,h4,h5=>by
  have hst:=h3 xs
  rw [ir h2] at hst
  rw [List.map_cons,gE,hst]
  simp only [Res.aj,fY]
  have h1':(σ.set i (some (f d)))[j]?=some (some (.loc l)):=by rw [List.getElem?_set_ne hij]; exact h1
  have hd:=h4 d List.mem_cons_self xs
  rw [ir h2] at hd
  rw [ET h1' h2 hd (by simp at h5; omega)]
  simp only [Res.aj]
  rw [nP hij (xs:=xs++[g d]) h1' (get_set h2) (fun ys=>by rw [List.set_set]; exact h3 ys)
   (fun a ha ys=>by rw [List.set_set,List.set_set]; exact h4 a (List.mem_cons_of_mem _ ha) ys) (by simp at h5 ⊢; omega)]
  rw [zC,List.set_set,List.map_cons,List.append_assoc]
  rfl
end
theorem E2 {i:Nat} {its:List D} {σ:Sg} (h:i < σ.length):∃ x,fm i its σ=σ.set i x:=by
 unfold fm
 cases its.getLast? with
 | some d=>exact ⟨_,rfl⟩
 | none=>exact ⟨σ[i],(ir (List.getElem?_eq_getElem h)).symm⟩
theorem vj {i:Int} (h1:-1000000000<=i) (h2:i<=1000000000):near i=true:=decide_eq_true ⟨by omega,by omega⟩
theorem BN (j:Int):rng 0 j 1=(List.range j.toNat).map fun (k:Nat)=>(k:Int):=by
 unfold rng
 rw [if_pos (by decide)]
 have:(j - 0+1 - 1) / 1=j:=by rw [Int.ediv_one]; omega
 rw [this]
 simp
theorem B8 {j:Int} (h1:-1000000000<=j) (h2:j<=1000000000):bN [.int j]=some ((List.range j.toNat).map fun (k:Nat)=>(k:Int)):=by
 show (if near j=true then some (rng 0 j 1) else none)=_
 rw [if_pos (vj h1 h2),BN]
theorem lB {sub:Sub} {cf:Str->List D->M D} {i j l:Nat} {it e:E} {σ:Sg} {S S1:aa} {xs:List D} {α:Type} {ks:List α} {f g:α->D} {o:Option Nat} {raw:List D}
  (hit:evI sub cf it σ S=.ok ⟨ks.map f,o,raw⟩ S1) (hj:σ[j]?=some (some (.loc l))) (hS:S1[l]?=some (.lst xs)) (hij:i≠j) (hi:i < σ.length) (hst:∀ ys,aI ⟨ks.map f,o,raw⟩ (S1.set l (.lst ys))=.ok () (S1.set l (.lst ys)))
  (he:∀ a∈ks,∀ ys,ev sub cf e (σ.set i (some (f a))) (S1.set l (.lst ys))=.ok (g a) (S1.set l (.lst ys))) (hz:xs.length+ks.length<=aM) :
  ∃ x,exec sub cf (.forS (.one i) it (.ex (.me .append (.v j) (.cs e .nl)))) σ S=.ok (.nx (σ.set i x)) (S1.set l (.lst (xs++ks.map g))):=by
 obtain ⟨x,hx⟩:=E2 (i:=i) (its:=ks.map f) (σ:=σ) hi
 refine ⟨x,?_⟩
 rw [<- hx]
 exact fu hit (nP hij hj hS hst he hz)
theorem n5 {S:aa} {a b:Nat} {xs ys:List D} (ha:S[a]?=some (.lst xs)) (hb:S[b]?=some (.lst ys)):eqD deep S (.loc a) (.loc b)=if xs.length=ys.length then bG (eqD 11 S) xs ys else some false:=by
 have e1:listAt S a=some xs:=by unfold listAt; rw [ha]
 have e2:listAt S b=some ys:=by unfold listAt; rw [hb]
 show (match listAt S a,listAt S b with|some xs,some ys=>if xs.length=ys.length then bG (eqD 11 S) xs ys else some false|_,_=>none)=_
 rw [e1,e2]
theorem p6 {S:aa} {a b:Nat} {xs:List D} (ha:S[a]?=some (.lst xs)) (hb:S[b]?=some (.lst [])):cmD .eq (.loc a) (.loc b) S=.ok (.bl xs.isEmpty) S:=by
 rw [jR,n5 ha hb]
 cases xs <;> simp [bG]
theorem m8 {s:Src} {f:D->Sg->M Fl}:∀ {its:List D} (I:Nat->Sg->aa->Prop) {σ:Sg} {S:aa},I 0 σ S->(∀ i σ T,I i σ T->aI s T=.ok () T) ->
  (∀ i (h:i < its.length) σ T,I i σ T->∃ σ' T',f its[i] σ T=.ok (.nx σ') T'/\I (i+1) σ' T')->∃ σ' T',forL s f its σ S=.ok (.nx σ') T'/\I its.length σ' T'
 | [],I,σ,S,h0,h1,_=>⟨σ,S,by rw [eW,h1 0 σ S h0]; rfl,h0⟩
 | d::ds,I,σ,S,h0,h1,h2=>by
  obtain ⟨σ1,T1,e1,i1⟩:=h2 0 (by simp) σ S h0
  obtain ⟨σ2,T2,e2,i2⟩:=m8 (its:=ds) (fun i=>I (i+1)) i1 (fun i=>h1 (i+1)) fun i hi=>h2 (i+1) (by simpa using hi)
  refine ⟨σ2,T2,?_,i2⟩
  rw [gE,h1 0 σ S h0]
  simp only [Res.aj]
  rw [show f d σ S=.ok (.nx σ1) T1 from e1]
  exact e2
theorem gG {sub:Sub} {cf:Str->List D->M D} {t:Tg} {it:E} {b:EV.S} {σ:Sg} {S S1:aa} {s:Src} (I:Nat->Sg->aa->Prop) (hi:evI sub cf it σ S=.ok s S1) (h0:I 0 σ S1) (h1:∀ i σ T,I i σ T->aI s T=.ok () T)
  (h2:∀ i (h:i < s.its.length) σ T,I i σ T->∃ σ' T',bO sub cf t b s.its[i] σ T=.ok (.nx σ') T'/\I (i+1) σ' T'):∃ σ' T',exec sub cf (.forS t it b) σ S=.ok (.nx σ') T'/\I s.its.length σ' T':=by
 obtain ⟨σ',T',e,i⟩:=m8 I h0 h1 h2
 exact ⟨σ',T',fu hi e,i⟩
theorem pA {α:Type} {s:Src} {fn:D->M (Option D)} {f:α->D} {g:α->Option D} {S:aa} (hs:aI s S=.ok () S):∀ {ks:List α},(∀ a∈ks,fn (f a) S=.ok (g a) S)->bw s fn (ks.map f) S=.ok (ks.filterMap g) S
 | [],_=>by rw [List.map_nil,kR,hs]; rfl
 | d::ds,h=>by
  rw [List.map_cons,lD,hs]
  simp only [Res.aj]
  rw [h d List.mem_cons_self]
  simp only [Res.aj]
  rw [pA hs fun e he=>h e (List.mem_cons_of_mem _ he)]
  simp only [Res.aj,List.filterMap_cons]
  cases g d <;> rfl
theorem eF {sub:Sub} {cf:Str->List D->M D} {σ:Sg} {S S1:aa} {k i:Nat} {el it:E} {α:Type} {ks:List α} {f g:α->D} {o:Option Nat} {raw:List D} (hi:evI sub cf it σ S=.ok ⟨ks.map f,o,raw⟩ S1) (hs:aI ⟨ks.map f,o,raw⟩ S1=.ok () S1)
  (hg:∀ a∈ks,ev sub cf el ((σ++List.replicate k none).set i (some (f a))) S1=.ok (g a) S1) (hz:ks.length<=aM) :
  ev sub cf (.comp k el (.one i) it .nl) σ S=.ok (.loc S1.length) (S1++[.lst (ks.map g)]):=by
 rw [iy,hi]
 simp only [Res.aj]
 have:=pA (s:=⟨ks.map f,o,raw⟩) (f:=f) (fn:=fun d=>aO (.one i) d (σ++List.replicate k none)>>=fun σ'=>(if E.bh .nl=true then pure true else evT sub cf .nl σ')>>=fun b=>if b=true then ev sub cf el σ'>>=fun y=>pure (some y) else pure none) (g:=fun a=>some (g a)) (S:=S1) hs (ks:=ks) (fun d hd=>by
  simp only [ay,iz,Res.aj]
  show (ev sub cf el ((σ++List.replicate k none).set i (some (f d)))>>=fun y=>pure (some y)) S1=_
  rw [ay,hg d hd]; rfl)
 rw [ia this]
 have e:ks.filterMap (fun d=>some (g d))=ks.map g:=by rw [<- List.filterMap_eq_map]; rfl
 rw [e]
 simp only [Res.aj]
 rw [if_pos (show fits (ks.map g).length=true from decide_eq_true (by rw [List.length_map]; exact hz))]
section
variable {sub:Sub} {cf:Str->List D->M D} {σ:Sg} {S:aa}
@[simp] theorem o_:ff sub cf σ .nl S=.ok none S:=id rfl
@[simp] theorem rD (i:Int):ff sub cf σ (.c (.int i)) S=.ok (some i) S:=id rfl
theorem kC {f:D->D->Option Bool}:∀ {xs:List D},(∀ x∈xs,f x x=some true)->bG f xs xs=some true
 | [],_=>rfl
 | x::r,h=>by
  show (match f x x,bG f r r with|some a,some b=>some (a&&b)|_,_=>none)=_
  rw [h x List.mem_cons_self,kC fun y hy=>h y (List.mem_cons_of_mem _ hy)]
  rfl
theorem EU (n:Nat) (i:Int):eqD (n+1) S (.int i) (.int i)=some true:=by
 show some (i==i)=_
 simp
theorem EG (n:Nat) (is:List Int):eqD (n+2) S (.tup (is.map .int)) (.tup (is.map .int))=some true:=by
 show (bG (eqD (n+1) S) (is.map .int) (is.map .int)).map (fun r=>r&&((is.map D.int).length==(is.map D.int).length))=_
 rw [kC fun x hx=>by obtain ⟨i,_,rfl⟩:=List.mem_map.mp hx; exact EU n i]
 simp
end
theorem rP (ds:List D):∀ (k i:Nat) (h:i < (num k ds).length),(num k ds)[i]=.tup [.int ((k+i:Nat):Int),ds[i]'(by have:(num k ds).length=ds.length:=(by clear h; induction ds generalizing k with|nil=>rfl|cons _ _ ih=>simp [num,ih]); omega)]:=by
 induction ds with
 | nil=>intro k i h; simp [num] at h
 | cons d r ih =>
  intro k i h
  cases i with
  | zero=>simp [num]
  | succ i =>
   simp only [num,List.getElem_cons_succ]
   rw [ih (k+1) i (by simpa [num] using h)]
   congr 3
   omega
theorem iG:∀ (ds:List D) (k:Nat),(num k ds).length=ds.length
 | [],_=>rfl
 | _::r,k=>by simp [num,iG r]
end EV

namespace GO
open PySem EV
theorem gv {S:aa} {l:Nat} {ds:List D} (h:S[l]?=some (.lst ds)):(D.loc l).dw S=true:=by show (match S[l]? with|some (.lst _)=>true|_=>false)=true; rw [h]
theorem uT (T:aa) (ds:List D):(D.loc T.length).dw (T++[.lst ds])=true:=gv (ds:=ds) (by simp)
theorem qF (T:aa) (ds:List D) (G:aa):(D.loc T.length).dw (T++.lst ds::G)=true:=gv (ds:=ds) (by simp)
theorem ve (T:aa) (ds:List D) (G U:aa):(D.loc T.length).dw ((T++.lst ds::G)++U)=true:=by rw [List.append_assoc,List.cons_append]; exact qF _ _ _
section
variable {sub:Sub} {cf:Str->List D->M D} {σ σ1:Sg} {S S1 S2 S3:aa} {R:Res D} {RF:Res Fl} {x y z d:D} {ds:List D} {a b c r es:E} {u v w:EV.S}
theorem r_v {i:Nat} (h:bf σ i S=.ok d S):ev sub cf (.v i) σ S=.ok d S:=h
theorem r_c:ev sub cf (.c d) σ S=.ok d S:=id rfl
theorem a_ {o:Op2} (ha:ev sub cf a σ S=.ok x S1) (hb:ev sub cf b σ S1=.ok y S2) (h:opD o x y S2=R):ev sub cf (.bin o a b) σ S=R:=by rw [wM,ha,Res.aj,hb,Res.aj,h]
theorem aY {o:Cm} (ha:ev sub cf a σ S=.ok x S1) (hb:ev sub cf b σ S1=.ok y S2) (h:cmD o x y S2=R):ev sub cf (.cmp o a b) σ S=R:=by rw [qV,ha,Res.aj,hb,Res.aj,h]
theorem dg (ha:ev sub cf a σ S=.ok (.bl true) S1) (hb:ev sub cf b σ S1=R):ev sub cf (.and a b) σ S=R:=by rw [tT,ha]; exact hb
theorem gz {i:Int} (ha:ev sub cf a σ S=.ok (.int i) S1):ev sub cf (.neg a) σ S=.ok (.int (-i)) S1:=by rw [vm,ha]; rfl
theorem Ah (hc:evT sub cf c σ S=.ok true S1) (ha:ev sub cf a σ S1=R):ev sub cf (.ite c a b) σ S=R:=by rw [nA,hc,Res.aj,if_pos rfl,ha]
theorem xx (hc:evT sub cf c σ S=.ok false S1) (hb:ev sub cf b σ S1=R):ev sub cf (.ite c a b) σ S=R:=by rw [nA,hc,Res.aj,if_neg (by decide),hb]
theorem ah:evs sub cf .nl σ S=.ok [] S:=id rfl
theorem af (ha:ev sub cf a σ S=.ok x S1) (hr:evs sub cf r σ S1=.ok ds S2):evs sub cf (.cs a r) σ S=.ok (x::ds) S2:=by rw [qW,ha,Res.aj,hr,Res.aj]
theorem jv (hs:evs sub cf es σ S=.ok ds S1) (hz:fits ds.length=true):ev sub cf (.tup es) σ S=.ok (.tup ds) S1:=by rw [Cr,hs,Res.aj,if_pos hz]
theorem cj (hs:evs sub cf es σ S=.ok ds S1) (hz:fits ds.length=true):ev sub cf (.lst es) σ S=.ok (.loc S1.length) (S1++[.lst ds]):=by rw [zF,hs,Res.aj,if_pos hz]
theorem av (ha:ev sub cf a σ S=.ok x S1) (hb:ev sub cf b σ S1=.ok y S2) (h:ixD x y S2=R):ev sub cf (.ix a b) σ S=R:=by rw [ze,ha,Res.aj,hb,Res.aj,h]
theorem nE {lo hi:E} {p q:Option Int} (ha:ev sub cf a σ S=.ok x S1) (hl:ff sub cf σ lo S1=.ok p S2) (hh:ff sub cf σ hi S2=.ok q S3) (h:slD x p q S3=R):ev sub cf (.sl a lo hi) σ S=R:=by
 rw [wz,ha,Res.aj,hl,Res.aj,hh,Res.aj,h]
theorem aH {f:Str} (hs:evs sub cf es σ S=.ok ds S1) (h:cf f ds S1=R):ev sub cf (.call f es) σ S=R:=by rw [BF,hs,Res.aj,h]
theorem aJ {o:Bi} (hs:evs sub cf es σ S=.ok ds S1) (h:biD sub o ds S1=R):ev sub cf (.bi o es) σ S=R:=by rw [Cq,hs,Res.aj,h]
theorem eO {m:Me} {l:Nat} (ha:ev sub cf a σ S=.ok (.loc l) S1) (hs:evs sub cf es σ S1=.ok ds S2) (h:meD m (.loc l) ds S2=R) (hL:(D.loc l).dw S1=true:=by first|assumption|exact uT _ _|exact qF _ _ _|exact gv (by assumption)):ev sub cf (.me m a es) σ S=R:=by
 rw [p7,ha,Res.aj,if_pos hL,hs,Res.aj,h]
theorem lW {k:Bool} (h:ev sub cf a σ S=.ok (.bl k) S1) (ht:evT sub cf a σ S=(ev sub cf a σ S).bind fun d S1=>truth d S1):evT sub cf a σ S=.ok k S1:=by rw [ht,h]; rfl
theorem bL {f:Str} {k:Bool} (h:ev sub cf (.call f es) σ S=.ok (.bl k) S1):evT sub cf (.call f es) σ S=.ok k S1:=lW h (tW _ _ _ _ _ _)
theorem fR {o:Bi} {k:Bool} (h:ev sub cf (.bi o es) σ S=.ok (.bl k) S1):evT sub cf (.bi o es) σ S=.ok k S1:=lW h (vF _ _ _ _ _ _)
theorem aX {o:Cm} {k:Bool} (h:ev sub cf (.cmp o a b) σ S=.ok (.bl k) S1):evT sub cf (.cmp o a b) σ S=.ok k S1:=lW h (by
 rw [xC,qV]; cases ev sub cf a σ S <;> simp [Res.bind]; rename_i q Q; cases ev sub cf b σ Q <;> simp [Res.bind])
theorem jd {k:Bool} (ha:evT sub cf a σ S=.ok true S1) (hb:evT sub cf b σ S1=.ok k S2):evT sub cf (.and a b) σ S=.ok k S2:=by rw [sA,ha,Res.aj,if_pos rfl,hb]
theorem nQ (ha:evT sub cf a σ S=.ok false S1):evT sub cf (.and a b) σ S=.ok false S1:=by rw [sA,ha,Res.aj,if_neg (by decide)]
theorem yf (ha:evT sub cf a σ S=.ok true S1):evT sub cf (.or a b) σ S=.ok true S1:=by rw [oK,ha,Res.aj,if_pos rfl]
theorem cK {k:Bool} (ha:evT sub cf a σ S=.ok false S1) (hb:evT sub cf b σ S1=.ok k S2):evT sub cf (.or a b) σ S=.ok k S2:=by rw [oK,ha,Res.aj,if_neg (by decide),hb]
theorem bD {k:Bool} (ha:evT sub cf a σ S=.ok k S1):evT sub cf (.not a) σ S=.ok (!k) S1:=by rw [Et,ha,Res.aj]
theorem t_k {k k':Bool} (h:evT sub cf a σ S=.ok k' S1) (e:k'=k):evT sub cf a σ S=.ok k S1:=by rw [h,e]
theorem Ck (h:Nat.ble ds.length 1000=true):fits ds.length=true:=zG (Nat.le_of_ble_eq_true h)
theorem dY {i j:Int} (h:0 < j):opD .mod (.int i) (.int j) S=.ok (.int (i % j)) S:=by rw [t8,if_pos h]
theorem l5 {i j:Int} (h:(small i||small j)=true):opD .mul (.int i) (.int j) S=.ok (.int (i * j)) S:=by rw [zg,if_pos h]
theorem nS {i:Int} (h:-1000000000000 < i/\i < 1000000000000):small i=true:=decide_eq_true ⟨by omega,by omega⟩
theorem yq {i j:Int} (h:-1000000000000 < i/\i < 1000000000000):opD .mul (.int i) (.int j) S=.ok (.int (i * j)) S:=l5 (by rw [nS h,Bool.true_or])
theorem oj {i j:Int} (h:-1000000000000 < j/\j < 1000000000000):opD .mul (.int i) (.int j) S=.ok (.int (i * j)) S:=l5 (by rw [nS h,Bool.or_true])
theorem Ao {i j:Int} (h:0 < j/\j < 1073741824):opD .fdiv (.int i) (.int j) S=.ok (.int (i / j)) S:=by rw [z8,if_pos (by rw [decide_eq_true h.1,decide_eq_true h.2]; rfl)]
theorem aA {xs:List D} {j:Int} (h:atI xs j=some d):ixD (.tup xs) (.int j) S=.ok d S:=by rw [tZ,h,cV]
theorem qY {xs:List D} {j:Int} (h:atI xs j=some d):ixD (.fro xs) (.int j) S=.ok d S:=by rw [Cz,h,cV]
theorem d8 {xs:List D} {j:Int} {l:Nat} (hl:S[l]?=some (.lst xs)) (h:atI xs j=some d):ixD (.loc l) (.int j) S=.ok d S:=by rw [CP hl,h,cV]
theorem gb {xs:List D}:biD sub .len [.tup xs] S=.ok (.int xs.length) S:=by rw [kX]; rfl
theorem p5 {xs:List D}:biD sub .len [.fro xs] S=.ok (.int xs.length) S:=by rw [kX]; rfl
theorem iJ {xs:List D} {l:Nat} (hl:S[l]?=some (.lst xs)):biD sub .len [.loc l] S=.ok (.int xs.length) S:=by rw [kX,cE hl]; rfl
theorem dX {xs:List D} {l:Nat} (hl:S[l]?=some (.lst xs)):biD sub .tuple [.loc l] S=.ok (.tup xs) S:=by rw [D_,cE hl]; rfl
theorem eS {t:Ty} {k:Bool} (h:ek sub S x t=some k):biD sub (.inst t) [x] S=.ok (.bl k) S:=by rw [tO,h]
theorem bP {α:Type} (T:List α) (c:α):(T++[c])[T.length]?=some c:=by simp
theorem rC {T:aa} {xs:List D} {j:Int} (h:atI xs j=some d):ixD (.loc T.length) (.int j) (T++[.lst xs])=.ok d (T++[.lst xs]):=d8 (bP T _) h
theorem jm {T:aa} {xs:List D}:biD sub .tuple [.loc T.length] (T++[.lst xs])=.ok (.tup xs) (T++[.lst xs]):=dX (bP T _)
theorem t9 {T:aa} {xs:List D}:biD sub .len [.loc T.length] (T++[.lst xs])=.ok (.int xs.length) (T++[.lst xs]):=iJ (bP T _)
theorem cz {s:Src} (ha:ev sub cf a σ S=.ok x S1) (h:srcOf x S1=.ok s S2):evI sub cf (.iSeq a) σ S=.ok s S2:=by rw [tS,ha,Res.aj,h]
theorem mL {is:List Int} (hs:evs sub cf es σ S=.ok ds S1) (h:bN ds=some is):evI sub cf (.iRng es) σ S=.ok ⟨is.map .int,none,[]⟩ S1:=by rw [z7,hs,Res.aj,h,cV,Res.aj]
theorem eG {j:Int} {k:Nat} {f:Nat->D} (hs:evs sub cf es σ S=.ok [.int j] S1) (hj:j=(k:Int)) (hk:k<=1000000) (hf:∀ i:Nat,f i=.int (i:Int)):evI sub cf (.iRng es) σ S=.ok ⟨(List.range k).map f,none,[]⟩ S1:=by
 subst hj
 rw [mL hs (B8 (by omega) (by omega)),Int.toNat_natCast,List.map_map,show (D.int ∘ fun k:Nat=>(k:Int))=f from funext fun i=>(hf i).symm]
theorem aK {i:Nat} (h:ev sub cf a σ S=.ok d S1):exec sub cf (.set (.one i) a) σ S=.ok (.nx (σ.set i (some d))) S1:=by rw [tN,h,Res.aj,iz,Res.aj]
theorem uH {is:List Nat} (h:ev sub cf a σ S=.ok (.tup ds) S1) (hl:ds.length=is.length):exec sub cf (.set (.many is) a) σ S=.ok (.nx (bV is ds σ)) S1:=by rw [tN,h,Res.aj,jY,if_pos hl,Res.aj]
theorem fV (h:ev sub cf a σ S=.ok d S1):exec sub cf (.ex a) σ S=.ok (.nx σ) S1:=by rw [oM,h,Res.aj]
theorem aF (h:ev sub cf a σ S=.ok d S1):exec sub cf (.ret a) σ S=.ok (.rt d) S1:=by rw [wD,h,Res.aj]
theorem bC (hc:evT sub cf c σ S=.ok true S1) (h:exec sub cf u σ S1=RF):exec sub cf (.ite c u v) σ S=RF:=by rw [nW,hc,Res.aj,if_pos rfl,h]
theorem aE (hc:evT sub cf c σ S=.ok false S1) (h:exec sub cf v σ S1=RF):exec sub cf (.ite c u v) σ S=RF:=by rw [nW,hc,Res.aj,if_neg (by decide),h]
theorem ao (hu:exec sub cf u σ S=.ok (.nx σ1) S1) (h:exec sub cf v σ1 S1=RF):exec sub cf (.seq u v) σ S=RF:=(yT hu).trans h
theorem bF (hu:exec sub cf u σ S=.ok (.rt d) S1):exec sub cf (.seq u v) σ S=.ok (.rt d) S1:=by rw [r_,hu,zV]
theorem aD:exec sub cf .skip σ S=.ok (.nx σ) S:=id rfl
theorem x_call {P:Prg} {n:Nat} {f:Str} {F:Fn} (hP:P.lookup f=some F) (hl:ds.length=F.par) (hb:exec sub (ak sub P n) F.body (frame F ds) S=.ok (.rt d) S1) (h:leave S d S1=R):ak sub P (n+1) f ds S=R:=by
 rw [lX hP hl,hb,DY,h]
theorem gx {s:Src} {f:D->Sg->M Fl} {ds:List D} (hs:aI s S=.ok () S) (hb:f d σ S=.ok (.nx σ1) S1) (h:forL s f ds σ1 S1=RF):forL s f (d::ds) σ S=RF:=by
 rw [gE,hs,Res.aj,hb]; exact h
theorem fh {i:Nat} (h:exec sub cf u (σ.set i (some d)) S=RF):bO sub cf (.one i) u d σ S=RF:=(fY i u d σ S).trans h
theorem DK {is:List Nat} (hl:ds.length=is.length) (h:exec sub cf u (bV is ds σ) S=RF):bO sub cf (.many is) u (.tup ds) σ S=RF:=(zR is u ds σ S hl).trans h
theorem uQ {P:Prg} {n:Nat} {f:Str} {F:Fn} (hP:P.lookup f=some F) (hl:ds.length=F.par) (hb:exec sub (ak sub P n) F.body (frame F ds) S=RF) (h:∃ S',RF=.ok (.rt d) S'/\S'.take S.length=S) (hc:d.cl):ak sub P (n+1) f ds S=.ok d S:=by
 obtain ⟨S',e,ht⟩:=h
 exact x_call hP hl (hb.trans e) (cQ hc ht)
end
end GO

namespace RL
open PySem EV GO
noncomputable def jO:Fn:=⟨3,3,(.seq (.ite (.or (.not (.bi (.inst .int) (.cs (.v 0) .nl))) (.bi (.inst .bool) (.cs (.v 0) .nl)))
  (.ret (.c (.bl false)))
  .skip)
 (.ret (.chn .le .le (.v 1) (.v 0) (.v 2))))⟩
noncomputable def qd:Fn:=⟨1,1,(.ret (.call "is_whole" (.cs (.v 0) (.cs (.c (.int 0)) (.cs (.bin .sub (.c (.int 9973)) (.c (.int 1))) .nl)))))⟩
noncomputable def iZ:Fn:=⟨3,3,(.ret (.and (.bi (.inst .tuple) (.cs (.v 0) .nl)) (.chn .le .le (.v 1) (.bi .len (.cs (.v 0) .nl)) (.v 2))))⟩
noncomputable def qR:Fn:=⟨1,1,(.ret (.and (.call "is_row" (.cs (.v 0) (.cs (.c (.int 2)) (.cs (.c (.int 2)) .nl)))) (.and (.call "is_whole" (.cs (.ix (.v 0) (.c (.int 0))) (.cs (.c (.int 1)) (.cs (.c (.int 3)) .nl)))) (.call "is_whole" (.cs (.ix (.v 0) (.c (.int 1))) (.cs (.c (.int 1)) (.cs (.c (.int 4)) .nl)))))))⟩
noncomputable def sV:Fn:=⟨1,1,(.ret (.and (.call "is_row" (.cs (.v 0) (.cs (.c (.int 1)) (.cs (.c (.int 3)) .nl)))) (.bi .all (.cs (.comp 2 (.call "is_crew" (.cs (.v 2) .nl)) (.one 2) (.iSeq (.v 0)) .nl) .nl))))⟩
noncomputable def qX:Fn:=⟨3,4,(.seq (.ite (.or (.not (.call "is_row" (.cs (.v 0) (.cs (.c (.int 3)) (.cs (.c (.int 3)) .nl))))) (.not (.call "is_whole" (.cs (.ix (.v 0) (.c (.int 2))) (.cs (.c (.int 0)) (.cs (.c (.int 3)) .nl))))))
  (.ret (.c (.bl false)))
  .skip)
 (.seq (.set (.one 3) (.ite (.cmp .eq (.ix (.v 0) (.c (.int 2))) (.c (.int 0))) (.v 1) (.v 2)))
 (.ret (.call "is_whole" (.cs (.ix (.v 0) (.c (.int 1))) (.cs (.c (.int 0)) (.cs (.bin .sub (.v 3) (.c (.int 1))) .nl)))))))⟩
noncomputable def nV:Fn:=⟨4,4,(.seq (.ite (.or (.not (.call "is_row" (.cs (.v 0) (.cs (.c (.int 2)) (.cs (.c (.int 3)) .nl))))) (.not (.bi (.inst .str) (.cs (.ix (.v 0) (.c (.int 0))) .nl))))
  (.ret (.c (.bl false)))
  .skip)
 (.seq (.ite (.cmp .eq (.ix (.v 0) (.c (.int 0))) (.c (.str "work")))
  (.ret (.call "is_work_source" (.cs (.v 0) (.cs (.v 1) (.cs (.v 2) .nl)))))
  .skip)
 (.seq (.ite (.cmp .ne (.bi .len (.cs (.v 0) .nl)) (.c (.int 2)))
  (.ret (.c (.bl false)))
  .skip)
 (.seq (.ite (.cmp .eq (.ix (.v 0) (.c (.int 0))) (.c (.str "input")))
  (.ret (.call "is_whole" (.cs (.ix (.v 0) (.c (.int 1))) (.cs (.c (.int 0)) (.cs (.bin .sub (.v 3) (.c (.int 1))) .nl)))))
  .skip)
 (.ret (.and (.cmp .eq (.ix (.v 0) (.c (.int 0))) (.c (.str "value"))) (.call "is_value" (.cs (.ix (.v 0) (.c (.int 1))) .nl))))))))⟩
noncomputable def oB:Fn:=⟨1,1,(.ret (.and (.call "is_row" (.cs (.v 0) (.cs (.c (.int 3)) (.cs (.c (.int 3)) .nl)))) (.bi .all (.cs (.comp 2 (.call "is_value" (.cs (.v 2) .nl)) (.one 2) (.iSeq (.v 0)) .nl) .nl))))⟩
noncomputable def rj:Fn:=⟨5,6,(.seq (.ite (.not (.call "is_row" (.cs (.v 0) (.cs (.c (.int 5)) (.cs (.c (.int 5)) .nl)))))
  (.ret (.c (.bl false)))
  .skip)
 (.seq (.ite (.or (.not (.call "is_whole" (.cs (.ix (.v 0) (.c (.int 0))) (.cs (.c (.int 0)) (.cs (.bin .sub (.v 4) (.c (.int 1))) .nl))))) (.not (.call "is_whole" (.cs (.ix (.v 0) (.c (.int 1))) (.cs (.c (.int 1)) (.cs (.c (.int 8)) .nl))))))
  (.ret (.c (.bl false)))
  .skip)
 (.seq (.ite (.or (.not (.bi (.inst .str) (.cs (.ix (.v 0) (.c (.int 2))) .nl))) (.cmp .dI (.ix (.v 0) (.c (.int 2))) (.c (.tup [(.str "plus"),(.str "less"),(.str "times"),(.str "least"),(.str "greatest")]))))
  (.ret (.c (.bl false)))
  .skip)
 (.seq (.set (.one 5) (.ix (.v 0) (.c (.int 3))))
 (.seq (.ite (.or (.not (.call "is_row" (.cs (.v 5) (.cs (.c (.int 1)) (.cs (.c (.int 3)) .nl))))) (.not (.call "are_starts" (.cs (.ix (.v 0) (.c (.int 4))) .nl))))
  (.ret (.c (.bl false)))
  .skip)
 (.ret (.bi .all (.cs (.comp 2 (.call "is_source" (.cs (.v 7) (.cs (.v 1) (.cs (.v 2) (.cs (.v 3) .nl))))) (.one 7) (.iSeq (.v 5)) .nl) .nl))))))))⟩
noncomputable def pW:Fn:=⟨3,4,(.seq (.ite (.not (.call "is_row" (.cs (.v 0) (.cs (.c (.int 1)) (.cs (.c (.int 8)) .nl)))))
  (.ret (.c (.bl false)))
  .skip)
 (.seq (.set (.one 3) (.bi .len (.cs (.v 0) .nl)))
 (.ret (.bi .all (.cs (.comp 3 (.call "is_work" (.cs (.v 6) (.cs (.v 5) (.cs (.v 3) (.cs (.v 1) (.cs (.v 2) .nl)))))) (.many [5,6]) (.iEnum (.v 0)) .nl) .nl)))))⟩
noncomputable def tG:Fn:=⟨2,4,(.seq (.ite (.not (.call "is_row" (.cs (.v 0) (.cs (.c (.int 1)) (.cs (.v 1) .nl)))))
  (.ret (.c (.bl false)))
  .skip)
 (.seq (.set (.one 2) (.c (.int 0)))
 (.seq (.forS (.one 3) (.iSeq (.v 0))
  (.seq (.ite (.not (.call "is_whole" (.cs (.v 3) (.cs (.v 2) (.cs (.bin .sub (.v 1) (.c (.int 1))) .nl)))))
  (.ret (.c (.bl false)))
  .skip)
 (.set (.one 2) (.bin .add (.v 3) (.c (.int 1))))))
 (.ret (.c (.bl true))))))⟩
noncomputable def tH:Fn:=⟨1,1,(.seq (.ite (.not (.call "is_row" (.cs (.v 0) (.cs (.c (.int 4)) (.cs (.c (.int 4)) .nl)))))
  (.ret (.c (.bl false)))
  .skip)
 (.seq (.ite (.or (.not (.call "is_whole" (.cs (.ix (.v 0) (.c (.int 0))) (.cs (.c (.int 0)) (.cs (.c (.int 6)) .nl))))) (.not (.call "are_crews" (.cs (.ix (.v 0) (.c (.int 1))) .nl))))
  (.ret (.c (.bl false)))
  .skip)
 (.ret (.and (.call "are_works" (.cs (.ix (.v 0) (.c (.int 2))) (.cs (.ix (.v 0) (.c (.int 0))) (.cs (.bi .len (.cs (.ix (.v 0) (.c (.int 1))) .nl)) .nl)))) (.call "are_outs" (.cs (.ix (.v 0) (.c (.int 3))) (.cs (.bi .len (.cs (.ix (.v 0) (.c (.int 2))) .nl)) .nl)))))))⟩
noncomputable def nB:Fn:=⟨1,1,(.seq (.ite (.not (.call "is_loop" (.cs (.v 0) .nl)))
  (.rais "NoLoop")
  .skip)
 (.ret (.v 0)))⟩
noncomputable def cD:List Str:=["plus","less","times","least","greatest"]
noncomputable def oE (S:aa):Prop:=∀ (l:Nat) c,S[l]?=some c->∃ ds,c=.lst ds
noncomputable def Has (P:Prg) (x:String) (F:Fn):Prop:=P.lookup (Str.ofString x)=some F
inductive Srs where|val (v:Int)|inp (k:Nat)|wrk (w b:Nat)
noncomputable def Srs.toD:Srs->D
 | .val v=>.tup [.str "value",.int v]
 | .inp k=>.tup [.str "input",.int k]
 | .wrk w b=>.tup [.str "work",.int w,.int b]
structure Wk where
 crew:Nat
 long:Nat
 doing:Str
 srcs:List Srs
 starts:List Int
noncomputable def Wk.toD (w:Wk):D:=.tup [.int w.crew,.int w.long,.str w.doing,.tup (w.srcs.map Srs.toD),.tup (w.starts.map .int)]
structure Lp where
 streams:Nat
 crews:List (Nat × Nat)
 works:List Wk
 outs:List Nat
noncomputable def cB (c:Nat × Nat):D:=.tup [.int c.1,.int c.2]
noncomputable def aQ (k:Nat):D:=.int k
noncomputable def Lp.toD (l:Lp):D:=.tup [.int l.streams,.tup (l.crews.map cB),.tup (l.works.map Wk.toD),.tup (l.outs.map aQ)]
noncomputable def Srs.WF (own many streams:Nat):Srs->Prop
 | .val v=>0<=v/\v<=9972
 | .inp k=>k < streams
 | .wrk w b=>b<=3/\w < (if b=0 then own else many)
structure Wk.WF (own many streams ncrews:Nat) (w:Wk):Prop where
 crew:w.crew < ncrews
 long:1<=w.long/\w.long<=8
 doing:w.doing∈cD
 some:1<=w.srcs.length/\w.srcs.length<=3
 srcs:∀ s∈w.srcs,s.WF own many streams
 three:w.starts.length=3
 starts:∀ v∈w.starts,0<=v/\v<=9972
noncomputable def cM:Nat->Nat->List Nat->Prop
 | _,_,[]=>True
 | many,least,k::r=>least<=k/\k < many/\cM many (k+1) r
structure Lp.WF (l:Lp):Prop where
 streams:l.streams<=6
 ncrews:1<=l.crews.length/\l.crews.length<=3
 crews:∀ c∈l.crews,(1<=c.1/\c.1<=3)/\(1<=c.2/\c.2<=4)
 nworks:1<=l.works.length/\l.works.length<=8
 works:∀ (i:Nat) w,l.works[i]?=some w->w.WF i l.works.length l.streams l.crews.length
 nouts:1<=l.outs.length
 outs:cM l.works.length 0 l.outs
structure HB (P:Prg):Prop where
 whole:Has P "is_whole" jO
 value:Has P "is_value" qd
 row:Has P "is_row" iZ
 crew:Has P "is_crew" qR
 crews:Has P "are_crews" sV
 worksource:Has P "is_work_source" qX
 source:Has P "is_source" nV
 starts:Has P "are_starts" oB
 work:Has P "is_work" rj
 works:Has P "are_works" pW
 outs:Has P "are_outs" tG
 loop:Has P "is_loop" tH
 checked:Has P "checked" nB
variable {sub:Sub} {P:Prg} {n:Nat} {S:aa}
@[simp] theorem gp (S T:aa) (b:Bool):leave S (.bl b) (S++T)=.ok (.bl b) S:=cQ rfl (fJ _ _)
@[simp] theorem dz (S:aa) (b:Bool):leave S (.bl b) S=.ok (.bl b) S:=cQ rfl (List.take_length)
@[simp] theorem ji (S T:aa) (b:Int):leave S (.int b) (S++T)=.ok (.int b) S:=cQ rfl (fJ _ _)
@[simp] theorem b5 (S:aa) (b:Int):leave S (.int b) S=.ok (.int b) S:=cQ rfl (List.take_length)
@[simp] theorem Fw (S S':aa) (d:D):fO S (.ok (.rt d) S')=leave S d S':=id rfl
theorem short {ds:List D} {k:Int} (h:(ds.length:Int)<=k) (hk:k<=1000):ds.length<=aM:=by unfold aM; omega
theorem oZ {σ:Sg} {cf:Str->List D->M D} {a b c:E} {i j k:Int} (ha:ev sub cf a σ S=.ok (.int i) S) (hb:ev sub cf b σ S=.ok (.int j) S) (hc:ev sub cf c σ S=.ok (.int k) S) (h1:i<=j) (h2:j<=k) :
  ev sub cf (.chn .le .le a b c) σ S=.ok (.bl true) S:=by
 rw [Dt,ha,Res.aj,hb,Res.aj,lN,Res.aj,decide_eq_true h1]
 show (ev sub cf c σ S).bind _=_
 rw [hc,Res.aj,lN,decide_eq_true h2]
theorem c9 (h:Has P "is_whole" jO) {i lo hi:Int} (h1:lo<=i) (h2:i<=hi):ak sub P (n+1) "is_whole" [.int i,.int lo,.int hi] S=.ok (.bl true) S :=
 x_call h rfl (ao (aE (cK (bD (k:=true) (fR (aJ (af (r_v rfl) ah) (eS rfl)))) (k:=false) (fR (aJ (af (r_v rfl) ah) (eS rfl)))) aD) (aF (oZ (r_v rfl) (r_v rfl) (r_v rfl) h1 h2))) (dz _ _)
theorem lJ (h:HB P) {v:Int} (h1:0<=v) (h2:v<=9972):ak sub P (n+2) "is_value" [.int v] S=.ok (.bl true) S :=
 x_call h.value rfl (aF (aH (af (r_v rfl) (af r_c (af (a_ r_c r_c (cu _ _ _)) ah))) (c9 h.whole h1 h2))) (dz _ _)
theorem gr (h:Has P "is_row" iZ) {ds:List D} {lo hi:Int} (h1:lo<=(ds.length:Int)) (h2:(ds.length:Int)<=hi):ak sub P (n+1) "is_row" [.tup ds,.int lo,.int hi] S=.ok (.bl true) S :=
 x_call h rfl (aF (dg (aJ (af (r_v rfl) ah) (eS rfl)) (oZ (r_v rfl) (aJ (af (r_v rfl) ah) gb) (r_v rfl) h1 h2))) (dz _ _)
theorem fQ (h:Has P "is_row" iZ) {ds:List D} {lo hi:Int} (m:Nat) (hm:ds.length=m) (h1:lo<=(m:Int)) (h2:(m:Int)<=hi):ak sub P (n+1) "is_row" [.tup ds,.int lo,.int hi] S=.ok (.bl true) S :=
 gr h (by rw [hm]; exact h1) (by rw [hm]; exact h2)
theorem D3 (h:HB P) {c:Nat × Nat} (hc:(1<=c.1/\c.1<=3)/\(1<=c.2/\c.2<=4)):ak sub P (n+2) "is_crew" [cB c] S=.ok (.bl true) S :=
 x_call h.crew rfl (aF (dg (aH (af (r_v rfl) (af r_c (af r_c ah))) (fQ h.row 2 rfl (by decide) (by decide)))
  (dg (aH (af (av (r_v rfl) r_c (aA rfl)) (af r_c (af r_c ah))) (c9 h.whole (Int.ofNat_le.mpr hc.1.1) (Int.ofNat_le.mpr hc.1.2)))
   (aH (af (av (r_v rfl) r_c (aA rfl)) (af r_c (af r_c ah))) (c9 h.whole (Int.ofNat_le.mpr hc.2.1) (Int.ofNat_le.mpr hc.2.2)))))) (dz _ _)
theorem i8 {cf:Str->List D->M D} {σ:Sg} {i k:Nat} {el a:E} {α:Type} {l:List α} {f:α->D} (ha:ev sub cf a σ S=.ok (.tup (l.map f)) S) (hn:l.length<=1000) (h:∀ x∈l,ev sub cf el ((σ++List.replicate k none).set i (some (f x))) S=.ok (.bl true) S) :
  ∃ T,ev sub cf (.bi .all (.cs (.comp k el (.one i) (.iSeq a) .nl) .nl)) σ S=.ok (.bl true) (S++T):=by
 have hc:=eF (sub:=sub) (cf:=cf) (k:=k) (i:=i) (el:=el) (it:=.iSeq a) (σ:=σ) (S:=S) (S1:=S) (ks:=l) (f:=f) (g:=fun _=>.bl true) (o:=none) (raw:=l.map f) (cz ha rfl) rfl h (by unfold aM; omega)
 refine ⟨[.lst (l.map fun _=>.bl true)],aJ (R:=.ok (.bl true) _) (af hc ah) ((jz l fun _=>true).trans ?_)⟩
 rw [List.all_eq_true.mpr fun _ _=>rfl]
theorem za (h:HB P) {cs:List (Nat × Nat)} (h1:1<=cs.length) (h2:cs.length<=3) (hc:∀ c∈cs,(1<=c.1/\c.1<=3)/\(1<=c.2/\c.2<=4)):ak sub P (n+3) "are_crews" [.tup (cs.map cB)] S=.ok (.bl true) S:=by
 obtain ⟨T,e⟩:=i8 (sub:=sub) (cf:=ak sub P (n+2)) (σ:=[some (.tup (cs.map cB))]) (S:=S) (i:=2) (k:=2) (el:=.call "is_crew" (.cs (.v 2) .nl)) (a:=.v 0) (l:=cs) (f:=cB) (r_v rfl) (by omega) (fun c hm=>aH (af (r_v rfl) ah) (D3 h (hc c hm)))
 exact x_call h.crews rfl (aF (dg (aH (af (r_v rfl) (af r_c (af r_c ah))) (gr h.row (by rw [List.length_map]; omega) (by rw [List.length_map]; omega))) e)) (gp _ _ _)
theorem Ek (h:HB P) {vs:List Int} (h1:vs.length=3) (hv:∀ v∈vs,0<=v/\v<=9972):ak sub P (n+3) "are_starts" [.tup (vs.map .int)] S=.ok (.bl true) S:=by
 obtain ⟨T,e⟩:=i8 (sub:=sub) (cf:=ak sub P (n+2)) (σ:=[some (.tup (vs.map .int))]) (S:=S) (i:=2) (k:=2) (el:=.call "is_value" (.cs (.v 2) .nl)) (a:=.v 0) (l:=vs) (f:=.int) (r_v rfl) (by omega) (fun c hm=>aH (af (r_v rfl) ah) (lJ h (hv c hm).1 (hv c hm).2))
 exact x_call h.starts rfl (aF (dg (aH (af (r_v rfl) (af r_c (af r_c ah))) (gr h.row (by rw [List.length_map,h1]; decide) (by rw [List.length_map,h1]; decide))) e)) (gp _ _ _)
theorem Ai (h:HB P) {x:D} {w b own many:Nat} (hb:b<=3) (hw:w < (if b=0 then own else many)):ak sub P (n+2) "is_work_source" [.tup [x,.int w,.int b],.int own,.int many] S=.ok (.bl true) S:=by
 have h0:∀ k:Nat,(0:Int)<=(k:Int):=fun k=>Int.natCast_nonneg k
 refine x_call h.worksource rfl (ao (aE (cK (bD (k:=true) (bL (aH (af (r_v rfl) (af r_c (af r_c ah))) (fQ h.row 3 rfl (by decide) (by decide)))))
  (k:=false) (bD (k:=true) (bL (aH (af (av (r_v rfl) r_c (aA rfl)) (af r_c (af r_c ah))) (c9 h.whole (h0 b) (Int.ofNat_le.mpr hb)))))) aD)
  (ao (aK (d:=.int ((if b=0 then own else many:Nat):Int)) (S1:=S) ?_) (aF (aH (af (av (r_v rfl) r_c (aA rfl)) (af r_c (af (a_ (r_v rfl) r_c (cu _ _ _)) ah))) (c9 h.whole (h0 w) (by omega)))))) (dz _ _)
 by_cases z:b=0
 ·rw [if_pos z]; subst z
  exact Ah (S1:=S) (aX (aY (av (r_v rfl) r_c (aA rfl)) r_c (iL _ _ _))) (r_v rfl)
 ·rw [if_neg z]
  exact xx (S1:=S) (t_k (aX (aY (av (r_v rfl) r_c (aA rfl)) r_c (iL _ _ _))) (beq_false_of_ne (by omega))) (r_v rfl)
theorem zD (h:HB P) {s:Srs} {own many streams:Nat} (hs:s.WF own many streams):ak sub P (n+3) "is_source" [s.toD,.int own,.int many,.int streams] S=.ok (.bl true) S:=by
 have first:∀ {x:Str} {r:List D} {σ:Sg} (e:bf σ 0 S=.ok (.tup (.str x::r)) S) (m:Nat) (hm:(D.str x::r).length=m) (h1:2<=(m:Int)) (h2:(m:Int)<=3),evT sub (ak sub P (n+2)) (.or (.not (.call "is_row" (.cs (.v 0) (.cs (.c (.int 2)) (.cs (.c (.int 3)) .nl))))) (.not (.bi (.inst .str) (.cs (.ix (.v 0) (.c (.int 0))) .nl)))) σ S=.ok false S:=fun {x r σ} e m hm h1 h2 =>
  cK (bD (k:=true) (bL (aH (af (r_v e) (af r_c (af r_c ah))) (fQ h.row m hm h1 h2)))) (k:=false) (bD (k:=true) (fR (aJ (af (av (r_v e) r_c (aA (d:=.str x) (iA _))) ah) (eS rfl))))
 have word:∀ {x:Str} {r:List D} {σ:Sg} (y:Str) {k:Bool} (e:bf σ 0 S=.ok (.tup (.str x::r)) S) (hk:(x==y)=k),ev sub (ak sub P (n+2)) (.cmp .eq (.ix (.v 0) (.c (.int 0))) (.c (.str y))) σ S=.ok (.bl k) S:=fun y k e hk=>by
  rw [<- hk]; exact aY (av (r_v e) r_c (aA (iA _))) r_c (fz _ _ _)
 have two:∀ {x y:D} {σ:Sg} (e:bf σ 0 S=.ok (.tup [x,y]) S),evT sub (ak sub P (n+2)) (.cmp .ne (.bi .len (.cs (.v 0) .nl)) (.c (.int 2))) σ S=.ok false S:=fun e =>
  aX (aY (aJ (af (r_v e) ah) gb) r_c (DM _ _ _))
 cases s with
 | val v =>
  exact x_call h.source rfl (ao (aE (first (x:="value") rfl 2 rfl (by decide) (by decide)) aD) (ao (aE (aX (word "work" (x:="value") rfl (by decide +kernel))) aD) (ao (aE (two rfl) aD) (ao (aE (aX (word "input" (x:="value") rfl (by decide +kernel))) aD)
   (aF (dg (word "value" (x:="value") rfl (by decide +kernel)) (aH (af (av (r_v rfl) r_c (aA rfl)) ah) (lJ h hs.1 hs.2)))))))) (dz _ _)
 | inp k =>
  have hk:k < streams:=hs
  exact x_call h.source rfl (ao (aE (first (x:="input") rfl 2 rfl (by decide) (by decide)) aD) (ao (aE (aX (word "work" (x:="input") rfl (by decide +kernel))) aD) (ao (aE (two rfl) aD) (bF (bC (aX (word "input" (x:="input") rfl (by decide +kernel)))
   (aF (aH (af (av (r_v rfl) r_c (aA rfl)) (af r_c (af (a_ (r_v rfl) r_c (cu _ _ _)) ah))) (c9 h.whole (Int.natCast_nonneg k) (by omega))))))))) (dz _ _)
 | wrk w b =>
  exact x_call h.source rfl (ao (aE (first (x:="work") rfl 3 rfl (by decide) (by decide)) aD) (bF (bC (aX (word "work" (x:="work") rfl (by decide +kernel))) (aF (aH (af (r_v rfl) (af (r_v rfl) (af (r_v rfl) ah))) (Ai h hs.1 hs.2)))))) (dz _ _)
theorem yz {x:Str} (h:x∈cD):cmD .dI (.str x) (.tup [(.str "plus"),(.str "less"),(.str "times"),(.str "least"),(.str "greatest")]) S=.ok (.bl false) S:=by
 have h:x = "plus"\/x = "less"\/x = "times"\/x = "least"\/x = "greatest":=by simpa [cD] using h
 rcases h with rfl|rfl|rfl|rfl|rfl <;> rfl
theorem yg (h:HB P) {w:Wk} {own many streams ncrews:Nat} (hw:w.WF own many streams ncrews):ak sub P (n+4) "is_work" [w.toD,.int own,.int many,.int streams,.int ncrews] S=.ok (.bl true) S:=by
 have hc:=hw.crew
 obtain ⟨T,e⟩:=i8 (sub:=sub) (cf:=ak sub P (n+3)) (σ:=[some w.toD,some (.int own),some (.int many),some (.int streams),some (.int ncrews),some (.tup (w.srcs.map Srs.toD))]) (S:=S) (i:=7) (k:=2) (el:=.call "is_source" (.cs (.v 7) (.cs (.v 1) (.cs (.v 2) (.cs (.v 3) .nl))))) (a:=.v 5) (l:=w.srcs) (f:=Srs.toD) (r_v rfl) (by have:=hw.some; omega) (fun s hm=>aH (af (r_v rfl) (af (r_v rfl) (af (r_v rfl) (af (r_v rfl) ah)))) (zD h (hw.srcs s hm)))
 refine x_call h.work rfl (ao (aE (bD (k:=true) (bL (aH (af (r_v rfl) (af r_c (af r_c ah))) (fQ h.row 5 rfl (by decide) (by decide))))) aD)
  (ao (aE (cK (bD (k:=true) (bL (aH (af (av (r_v rfl) r_c (aA rfl)) (af r_c (af (a_ (r_v rfl) r_c (cu _ _ _)) ah))) (c9 h.whole (Int.natCast_nonneg _) (by omega))))) (k:=false)
   (bD (k:=true) (bL (aH (af (av (r_v rfl) r_c (aA rfl)) (af r_c (af r_c ah))) (c9 h.whole (Int.ofNat_le.mpr hw.long.1) (Int.ofNat_le.mpr hw.long.2)))))) aD)
  (ao (aE (cK (bD (k:=true) (fR (aJ (af (av (r_v rfl) r_c (aA rfl)) ah) (eS rfl)))) (aX (aY (av (r_v rfl) r_c (aA rfl)) r_c (yz hw.doing)))) aD)
  (ao (aK (av (r_v rfl) r_c (aA rfl)))
  (ao (aE (cK (bD (k:=true) (bL (aH (af (r_v rfl) (af r_c (af r_c ah))) (gr h.row (ds:=w.srcs.map Srs.toD) ?_ ?_)))) (k:=false) (bD (k:=true) (bL (aH (af (av (r_v rfl) r_c (aA rfl)) ah) (Ek h hw.three hw.starts))))) aD)
  (aF e)))))) (gp _ _ _)
 ·rw [List.length_map]; have:=hw.some; omega
 ·rw [List.length_map]; have:=hw.some; omega
theorem EZ (h:HB P) {ws:List Wk} {streams ncrews:Nat} (h1:1<=ws.length) (h2:ws.length<=8) (hw:∀ (i:Nat) w,ws[i]?=some w->w.WF i ws.length streams ncrews):ak sub P (n+5) "are_works" [.tup (ws.map Wk.toD),.int streams,.int ncrews] S=.ok (.bl true) S:=by
 have hc:=B7 (sub:=sub) (cf:=ak sub P (n+4)) (k:=3) (is:=[5,6]) (el:=.call "is_work" (.cs (.v 6) (.cs (.v 5) (.cs (.v 3) (.cs (.v 1) (.cs (.v 2) .nl)))))) (it:=.iEnum (.v 0))
  (σ:=[some (.tup (ws.map Wk.toD)),some (.int streams),some (.int ncrews),some (.int ws.length)]) (S:=S) (S1:=S) (s:=⟨num 0 (ws.map Wk.toD),none,ws.map Wk.toD⟩) (g:=fun _=>.bl true) rfl rfl (fun d hd=>by
   obtain ⟨i,hi,rfl⟩:=List.mem_iff_getElem.mp hd
   have hi':i < ws.length:=by rw [iG,List.length_map] at hi; exact hi
   refine ⟨_,rP _ 0 i hi,rfl,?_⟩
   rw [List.getElem_map,Nat.zero_add]
   exact aH (af (r_v rfl) (af (r_v rfl) (af (r_v rfl) (af (r_v rfl) (af (r_v rfl) ah))))) (yg h (hw i _ (List.getElem?_eq_getElem hi')))) (by unfold aM; rw [iG,List.length_map]; omega)
 have ha:ev sub (ak sub P (n+4)) (.bi .all (.cs (.comp 3 (.call "is_work" (.cs (.v 6) (.cs (.v 5) (.cs (.v 3) (.cs (.v 1) (.cs (.v 2) .nl)))))) (.many [5,6]) (.iEnum (.v 0)) .nl) .nl)) [some (.tup (ws.map Wk.toD)),some (.int streams),some (.int ncrews),some (.int ws.length)] S=.ok (.bl true) (S++[.lst ((num 0 (ws.map Wk.toD)).map fun _=>.bl true)]) :=
  aJ (af hc ah) ((jz _ fun _=>true).trans (by rw [List.all_eq_true.mpr fun _ _=>rfl]))
 refine x_call h.works rfl (ao (aE (bD (k:=true) (bL (aH (af (r_v rfl) (af r_c (af r_c ah))) (gr h.row (ds:=ws.map Wk.toD) ?_ ?_)))) aD)
  (ao (aK (d:=.int ws.length) (S1:=S) ?_) (aF ha))) (gp _ _ _)
 ·rw [List.length_map]; omega
 ·rw [List.length_map]; omega
 ·have:=gb (sub:=sub) (S:=S) (xs:=ws.map Wk.toD)
  rw [List.length_map] at this
  exact aJ (af (r_v rfl) ah) this
theorem rF (h:HB P) {d0:D} {many:Nat} {s:Src} (hs:∀ T,aI s T=.ok () T):∀ (l:List Nat) (least:Nat) (x:Option D),cM many least l->∃ σ',forL s (bO sub (ak sub P (n+1)) (.one 3) (.seq (.ite (.not (.call "is_whole" (.cs (.v 3) (.cs (.v 2) (.cs (.bin .sub (.v 1) (.c (.int 1))) .nl))))) (.ret (.c (.bl false))) .skip) (.set (.one 2) (.bin .add (.v 3) (.c (.int 1))))))
   (l.map aQ) [some d0,some (.int many),some (.int least),x] S=.ok (.nx σ') S
 | [],least,x,_=>⟨_,by rw [List.map_nil,eW,hs,Res.aj]⟩
 | k::r,least,x,⟨h1,h2,h3⟩=>by
  obtain ⟨σ',e⟩:=rF h hs r (k+1) (some (aQ k)) h3
  refine ⟨σ',?_⟩
  rw [List.map_cons,gE,hs,Res.aj,fY,ao (aE (bD (k:=true) (bL (aH (af (r_v rfl) (af (r_v rfl) (af (a_ (r_v rfl) r_c (cu _ _ _)) ah))) (c9 h.whole (Int.ofNat_le.mpr h1) (by omega))))) aD) (aK (a_ (r_v rfl) r_c (jZ _ _ _)))]
  exact e
theorem iO {many:Nat}:∀ {l:List Nat} {least:Nat},cM many least l->least<=many->l.length+least<=many
 | [],_,_,h=>by simpa using h
 | k::r,least,⟨h1,h2,h3⟩,_=>by
  have:=iO h3 (by omega)
  simp only [List.length_cons]; omega
theorem wU (h:HB P) {os:List Nat} {many:Nat} (h1:1<=os.length) (hr:cM many 0 os):ak sub P (n+2) "are_outs" [.tup (os.map aQ),.int many] S=.ok (.bl true) S:=by
 have hl:=iO hr (Nat.zero_le _)
 obtain ⟨σ',e⟩:=rF (sub:=sub) (n:=n) (S:=S) (d0:=.tup (os.map aQ)) (s:=⟨os.map aQ,none,os.map aQ⟩) h (fun _=>rfl) os 0 none hr
 exact x_call h.outs rfl (ao (aE (bD (k:=true) (bL (aH (af (r_v rfl) (af r_c (af (r_v rfl) ah))) (gr h.row (ds:=os.map aQ) (by rw [List.length_map]; omega) (by rw [List.length_map]; omega))))) aD)
  (ao (aK r_c) (ao (fu (cz (r_v rfl) rfl) e) (aF r_c)))) (dz _ _)
theorem DB (h:HB P) {l:Lp} (hl:l.WF):ak sub P (n+6) "is_loop" [l.toD] S=.ok (.bl true) S:=by
 have e1:=gb (sub:=sub) (S:=S) (xs:=l.crews.map cB)
 have e2:=gb (sub:=sub) (S:=S) (xs:=l.works.map Wk.toD)
 rw [List.length_map] at e1 e2
 exact x_call h.loop rfl (ao (aE (bD (k:=true) (bL (aH (af (r_v rfl) (af r_c (af r_c ah))) (fQ h.row 4 rfl (by decide) (by decide))))) aD)
  (ao (aE (cK (bD (k:=true) (bL (aH (af (av (r_v rfl) r_c (aA rfl)) (af r_c (af r_c ah))) (c9 h.whole (Int.natCast_nonneg _) (Int.ofNat_le.mpr hl.streams))))) (k:=false)
   (bD (k:=true) (bL (aH (af (av (r_v rfl) r_c (aA rfl)) ah) (za h hl.ncrews.1 hl.ncrews.2 hl.crews))))) aD)
  (aF (dg (aH (af (av (r_v rfl) r_c (aA rfl)) (af (av (r_v rfl) r_c (aA rfl)) (af (aJ (af (av (r_v rfl) r_c (aA rfl)) ah) e1) ah))) (EZ h hl.nworks.1 hl.nworks.2 hl.works))
   (aH (af (av (r_v rfl) r_c (aA rfl)) (af (aJ (af (av (r_v rfl) r_c (aA rfl)) ah) e2) ah)) (wU h hl.nouts hl.outs)))))) (dz _ _)
end RL

namespace RL
open PySem EV GO
section
local macro_rules|`(tactic| done)=>`(tactic| (first|with_reducible exact r_c|((with_reducible apply r_v); exact rfl)|with_reducible apply a_|with_reducible apply aY|with_reducible apply av|with_reducible apply aH|with_reducible exact ah|with_reducible apply af|with_reducible apply aJ|with_reducible apply eO|with_reducible apply jv|with_reducible apply cj|((with_reducible apply Ck); exact rfl)|with_reducible apply gz|with_reducible apply bL|with_reducible apply fR|with_reducible apply aX|with_reducible exact jZ _ _ _|with_reducible exact cu _ _ _|((with_reducible apply dY); first|decide|assumption|omega)|((with_reducible apply yq); first|decide|omega)|((with_reducible apply oj); first|decide|omega)|((with_reducible apply Ao); decide)|with_reducible exact jq _ _ _|with_reducible exact lN _ _ _|with_reducible exact rq _ _ _|with_reducible exact D9 _ _ _|with_reducible exact iL _ _ _|with_reducible exact fz _ _ _|((with_reducible apply rC); assumption)|with_reducible exact jm|with_reducible exact t9|with_reducible exact gb|with_reducible exact p5|((with_reducible apply aA); exact rfl)|with_reducible assumption|((apply dY); first|decide|assumption)|apply iL|apply fz))
noncomputable def mO:Fn:=⟨2,2,(.seq (.ite (.cmp .lt (.v 1) (.bi .len (.cs (.v 0) .nl)))
  (.ret (.ix (.v 0) (.v 1)))
  .skip)
 (.seq (.ite (.cmp .eq (.v 0) (.lst .nl))
  (.ret (.c (.int 0)))
  .skip)
 (.ret (.bin .add (.bin .mul (.ix (.v 0) (.bin .mod (.v 1) (.bi .len (.cs (.v 0) .nl)))) (.c (.int 31))) (.v 1)))))⟩
noncomputable def sF:Fn:=⟨3,4,(.seq (.set (.one 3) (.bin .mod (.bin .mul (.bin .add (.bin .add (.call "_law_cell_at" (.cs (.v 0) (.cs (.v 1) .nl))) (.bin .mul (.c (.int 7919)) (.v 1))) (.c (.int 1))) (.c (.int 48271))) (.c (.int 2147483647))))
 (.ret (.bin .mod (.bin .mod (.bin .add (.bin .add (.bin .mul (.v 3) (.v 3)) (.bin .mul (.c (.int 7)) (.v 3))) (.v 1)) (.c (.int 2147483629))) (.v 2))))⟩
noncomputable def mU:Fn:=⟨5,7,(.seq (.set (.one 5) (.call "_law_mixed" (.cs (.v 0) (.cs (.v 1) (.cs (.c (.int 7)) .nl)))))
 (.seq (.ite (.or (.cmp .eq (.v 5) (.c (.int 0))) (.and (.cmp .eq (.v 5) (.c (.int 1))) (.cmp .eq (.v 2) (.c (.int 0)))))
  (.ret (.tup (.cs (.c (.str "value")) (.cs (.call "_law_mixed" (.cs (.v 0) (.cs (.bin .add (.v 1) (.c (.int 1))) (.cs (.c (.int 9973)) .nl)))) .nl))))
  .skip)
 (.seq (.ite (.cmp .eq (.v 5) (.c (.int 1)))
  (.ret (.tup (.cs (.c (.str "input")) (.cs (.call "_law_mixed" (.cs (.v 0) (.cs (.bin .add (.v 1) (.c (.int 1))) (.cs (.v 2) .nl)))) .nl))))
  .skip)
 (.seq (.set (.one 6) (.call "_law_mixed" (.cs (.v 0) (.cs (.bin .add (.v 1) (.c (.int 1))) (.cs (.v 3) .nl)))))
 (.seq (.ite (.and (.cmp .lt (.v 6) (.v 4)) (.cmp .lt (.v 5) (.c (.int 5))))
  (.ret (.tup (.cs (.c (.str "work")) (.cs (.v 6) (.cs (.c (.int 0)) .nl)))))
  .skip)
 (.ret (.tup (.cs (.c (.str "work")) (.cs (.v 6) (.cs (.bin .add (.c (.int 1)) (.call "_law_mixed" (.cs (.v 0) (.cs (.bin .add (.v 1) (.c (.int 2))) (.cs (.c (.int 3)) .nl))))) .nl))))))))))⟩
noncomputable def tB:Fn:=⟨4,12,(.seq (.set (.many [4,5,6]) (.v 2))
 (.seq (.set (.one 7) (.lst .nl))
 (.seq (.forS (.one 8) (.iRng (.cs (.bin .add (.c (.int 1)) (.call "_law_mixed" (.cs (.v 0) (.cs (.bin .add (.v 1) (.c (.int 2))) (.cs (.c (.int 2)) .nl))))) .nl))
  (.ex (.me .append (.v 7) (.cs (.call "_law_source" (.cs (.v 0) (.cs (.bin .add (.bin .add (.v 1) (.c (.int 3))) (.bin .mul (.c (.int 3)) (.v 8))) (.cs (.v 4) (.cs (.v 6) (.cs (.v 3) .nl)))))) .nl))))
 (.seq (.set (.one 9) (.ix (.lst (.cs (.c (.str "plus")) (.cs (.c (.str "less")) (.cs (.c (.str "times")) (.cs (.c (.str "least")) (.cs (.c (.str "greatest")) .nl)))))) (.call "_law_mixed" (.cs (.v 0) (.cs (.v 1) (.cs (.c (.int 5)) .nl))))))
 (.seq (.set (.one 10) (.bin .add (.c (.int 1)) (.call "_law_mixed" (.cs (.v 0) (.cs (.bin .add (.v 1) (.c (.int 1))) (.cs (.ix (.lst (.cs (.c (.int 2)) (.cs (.c (.int 5)) .nl))) (.call "_law_mixed" (.cs (.v 0) (.cs (.bin .add (.v 1) (.c (.int 2))) (.cs (.c (.int 2)) .nl))))) .nl))))))
 (.seq (.set (.one 11) (.bi .tuple (.cs (.comp 2 (.call "_law_mixed" (.cs (.v 0) (.cs (.bin .add (.v 1) (.v 13)) (.cs (.c (.int 9973)) .nl)))) (.one 13) (.iSeq (.tup (.cs (.c (.int 0)) (.cs (.c (.int 5)) (.cs (.c (.int 6)) .nl))))) .nl) .nl)))
 (.ret (.tup (.cs (.call "_law_mixed" (.cs (.v 0) (.cs (.bin .add (.v 1) (.c (.int 7))) (.cs (.v 5) .nl)))) (.cs (.v 10) (.cs (.v 9) (.cs (.bi .tuple (.cs (.v 7) .nl)) (.cs (.v 11) .nl)))))))))))))⟩
noncomputable def se:Fn:=⟨3,9,(.seq (.set (.one 3) (.call "_law_mixed" (.cs (.v 0) (.cs (.v 1) (.cs (.c (.int 3)) .nl)))))
 (.seq (.set (.one 4) (.bin .add (.c (.int 1)) (.call "_law_mixed" (.cs (.v 0) (.cs (.bin .add (.v 1) (.c (.int 1))) (.cs (.v 2) .nl))))))
 (.seq (.set (.one 5) (.lst .nl))
 (.seq (.forS (.one 6) (.iRng (.cs (.bin .add (.c (.int 1)) (.call "_law_mixed" (.cs (.v 0) (.cs (.bin .add (.v 1) (.c (.int 2))) (.cs (.c (.int 2)) .nl))))) .nl))
  (.ex (.me .append (.v 5) (.cs (.tup (.cs (.bin .add (.c (.int 1)) (.call "_law_mixed" (.cs (.v 0) (.cs (.bin .add (.bin .add (.v 1) (.c (.int 3))) (.v 6)) (.cs (.c (.int 2)) .nl))))) (.cs (.bin .add (.c (.int 1)) (.bin .fdiv (.call "_law_mixed" (.cs (.v 0) (.cs (.bin .add (.bin .add (.v 1) (.c (.int 5))) (.v 6)) (.cs (.c (.int 5)) .nl)))) (.c (.int 2)))) .nl))) .nl))))
 (.seq (.set (.one 7) (.lst .nl))
 (.seq (.forS (.one 6) (.iRng (.cs (.v 4) .nl))
  (.ex (.me .append (.v 7) (.cs (.call "_law_work" (.cs (.v 0) (.cs (.bin .add (.bin .add (.v 1) (.c (.int 7))) (.bin .mul (.c (.int 9)) (.v 6))) (.cs (.tup (.cs (.v 3) (.cs (.bi .len (.cs (.v 5) .nl)) (.cs (.v 4) .nl)))) (.cs (.v 6) .nl))))) .nl))))
 (.seq (.set (.one 8) (.comp 2 (.v 10) (.one 10) (.iRng (.cs (.v 4) .nl)) (.cmp .gt (.call "_law_mixed" (.cs (.v 0) (.cs (.bin .add (.bin .add (.v 1) (.c (.int 7))) (.v 10)) (.cs (.c (.int 3)) .nl)))) (.c (.int 0)))))
 (.seq (.ite (.cmp .eq (.v 8) (.lst .nl))
  (.set (.one 8) (.lst (.cs (.bin .sub (.v 4) (.c (.int 1))) .nl)))
  .skip)
 (.ret (.tup (.cs (.v 3) (.cs (.bi .tuple (.cs (.v 5) .nl)) (.cs (.bi .tuple (.cs (.v 7) .nl)) (.cs (.bi .tuple (.cs (.v 8) .nl)) .nl))))))))))))))⟩
noncomputable def lG:Fn:=⟨4,10,(.seq (.set (.one 4) (.call "_law_mixed" (.cs (.v 0) (.cs (.v 1) (.cs (.bin .pow (.c (.int 10)) (.c (.int 9))) .nl)))))
 (.seq (.set (.one 5) (.lst .nl))
 (.seq (.forS (.one 6) (.iRng (.cs (.call "_law_mixed" (.cs (.v 0) (.cs (.bin .add (.v 1) (.c (.int 1))) (.cs (.bin .add (.v 3) (.c (.int 1))) .nl)))) .nl))
  (.seq (.set (.one 7) (.lst .nl))
 (.seq (.forS (.one 8) (.iRng (.cs (.v 2) .nl))
  (.seq (.set (.one 9) (.bin .mod (.bin .mul (.bin .add (.bin .add (.bin .add (.v 4) (.bin .mul (.bin .mul (.c (.int 104729)) (.v 6)) (.v 6))) (.bin .mul (.c (.int 7919)) (.v 6))) (.bin .mul (.c (.int 31)) (.v 8))) (.c (.int 48271))) (.c (.int 2147483647))))
 (.ex (.me .append (.v 7) (.cs (.ix (.lst (.cs (.bin .mod (.bin .fdiv (.v 9) (.c (.int 7))) (.c (.int 9973))) (.cs (.bin .mod (.bin .fdiv (.v 9) (.c (.int 7))) (.c (.int 4))) .nl))) (.bin .mod (.v 9) (.c (.int 2)))) .nl)))))
 (.ex (.me .append (.v 5) (.cs (.bi .tuple (.cs (.v 7) .nl)) .nl))))))
 (.ret (.v 5)))))⟩
theorem Srs.cl (s:Srs):s.toD.cl:=by cases s <;> rfl
theorem Wk.cl (w:Wk):w.toD.cl:=by
 show (true&&(true&&(true&&(D.lows 0 (w.srcs.map Srs.toD)&&(D.lows 0 (w.starts.map .int)&&true)))))=true
 rw [fL Srs.cl,p8]; rfl
theorem Lp.cl (l:Lp):l.toD.cl:=by
 show (true&&(D.lows 0 (l.crews.map cB)&&(D.lows 0 (l.works.map Wk.toD)&&(D.lows 0 (l.outs.map aQ)&&true))))=true
 rw [fL (f:=cB) fun _=>rfl,fL Wk.cl,fL (f:=aQ) fun _=>rfl]; rfl
theorem AG {sub:Sub} {P:Prg} {n:Nat} {S:aa} (h:HB P) {l:Lp} (hw:l.WF):ak sub P (n+7) "checked" [l.toD] S=.ok l.toD S :=
 x_call h.checked rfl (ao (aE (bD (k:=true) (bL (aH (af (r_v rfl) ah) (DB h hw)))) aD) (aF (r_v rfl))) (cQ l.cl List.take_length)
noncomputable def cellAt (ns:List Int) (k:Int):Int:=if k < ns.length then ns.getD k.toNat 0 else if ns.length=0 then 0 else ns.getD (k % (ns.length:Int)).toNat 0 * 31+k
noncomputable def drawn (ns:List Int) (k:Int):Int:=(cellAt ns k+7919 * k+1) * 48271 % 2147483647
noncomputable def mixed (ns:List Int) (k m:Int):Int:=(drawn ns k * drawn ns k+7 * drawn ns k+k) % 2147483629 % m
theorem DO (ns:List Int) (k:Int) {m:Int} (h:0 < m):0<=mixed ns k m/\mixed ns k m < m:=⟨Int.emod_nonneg _ (by omega),Int.emod_lt_of_pos _ h⟩
structure HG (P:Prg):Prop where
 cell:Has P "_law_cell_at" mO
 mix:Has P "_law_mixed" sF
 source:Has P "_law_source" mU
 work:Has P "_law_work" tB
 loop:Has P "_law_loop" se
variable {sub:Sub} {P:Prg} {n:Nat} {S:aa}
theorem rG {ns:List Int} {k:Int} (h0:0<=k) (h:k < ns.length):atI (ns.map D.int) k=some (.int (ns.getD k.toNat 0)):=by
 obtain ⟨j,rfl⟩:=Int.eq_ofNat_of_zero_le h0
 rw [fj]
 have hj:j < ns.length:=by omega
 simp [hj]
theorem eq_empty (ns:List Int) (S:aa):cmD .eq (.fro (ns.map .int)) (.loc S.length) (S++[.lst []])=.ok (.bl (decide (ns.length=0))) (S++[.lst []]):=by
 rw [jR]
 have:eqD deep (S++[.lst []]) (.fro (ns.map .int)) (.loc S.length)=some (decide (ns.length=0)):=by
  show (match some (ns.map D.int),listAt (S++[.lst []]) S.length with|some xs,some ys=>if xs.length=ys.length then bG _ xs ys else some false|_,_=>none)=_
  have e:listAt (S++[.lst []]) S.length=some []:=by unfold listAt; simp
  rw [e]
  cases ns <;> simp [bG]
 rw [this]
theorem zJ (h:HG P) (ns:List Int) {k:Int} (hk:0<=k):ak sub P (n+1) "_law_cell_at" [.fro (ns.map .int),.int k] S=.ok (.int (cellAt ns k)) S:=by
 have hl:∀ S:aa,biD sub .len [.fro (ns.map .int)] S=.ok (.int ns.length) S:=fun S=>by
  have:=p5 (sub:=sub) (S:=S) (xs:=ns.map .int)
  rw [List.length_map] at this
  exact this
 have e1:∀ {b:Bool},decide (k < (ns.length:Int))=b->evT sub (ak sub P n) (.cmp .lt (.v 1) (.bi .len (.cs (.v 0) .nl))) [some (.fro (ns.map .int)),some (.int k)] S=.ok b S:=fun e=>t_k (aX (aY (r_v rfl) (aJ (af (r_v rfl) ah) (hl _)) (jq _ _ _))) e
 have e2:∀ {b:Bool},decide (ns.length=0)=b->evT sub (ak sub P n) (.cmp .eq (.v 0) (.lst .nl)) [some (.fro (ns.map .int)),some (.int k)] S=.ok b (S++[.lst []]):=fun e=>t_k (aX (aY (r_v rfl) (cj ah rfl) (eq_empty ns S))) e
 unfold cellAt
 by_cases h1:k < ns.length
 ·rw [if_pos h1]
  exact x_call h.cell rfl (bF (bC (e1 (decide_eq_true h1)) (aF (av (r_v rfl) (r_v rfl) (qY (rG hk h1)))))) (b5 _ _)
 rw [if_neg h1]
 by_cases h2:ns.length=0
 ·rw [if_pos h2]
  exact x_call h.cell rfl (ao (aE (e1 (decide_eq_false h1)) aD) (bF (bC (e2 (decide_eq_true h2)) (aF r_c)))) (ji _ _ _)
 ·rw [if_neg h2]
  have h3:0 < (ns.length:Int):=by omega
  exact x_call h.cell rfl (ao (aE (e1 (decide_eq_false h1)) aD) (ao (aE (e2 (decide_eq_false h2)) aD) (aF (a_ (a_ (av (r_v rfl) (a_ (r_v rfl) (aJ (af (r_v rfl) ah) (hl _)) (dY h3)) (qY (rG (Int.emod_nonneg k (by omega)) (Int.emod_lt_of_pos k h3)))) r_c (oj (by decide))) (r_v rfl) (jZ _ _ _))))) (ji _ _ _)
theorem Bv (h:HG P) (ns:List Int) {k m:Int} (hk:0<=k) (hm:0 < m):ak sub P (n+2) "_law_mixed" [.fro (ns.map .int),.int k,.int m] S=.ok (.int (mixed ns k m)) S:=by
 have hc:=zJ (sub:=sub) (n:=n) (S:=S) h ns hk
 have h1:0<=drawn ns k:=Int.emod_nonneg _ (by decide)
 have h2:drawn ns k < 2147483647:=Int.emod_lt_of_pos _ (by decide)
 refine x_call h.mix rfl (ao (aK (d:=.int (drawn ns k)) (S1:=S) ?_) (aF (d:=.int (mixed ns k m)) (S1:=S) ?_)) (cQ rfl (by simp)) <;> (repeat' done)
structure Mix (P:Prg) (mx:List Int->Int->Int->Int):Prop where
 ok:∀ {sub:Sub} {n:Nat} {S:aa} (ns:List Int) {k m:Int},0<=k->0 < m->ak sub P (n+2) "_law_mixed" [.fro (ns.map .int),.int k,.int m] S=.ok (.int (mx ns k m)) S
 rng:∀ (ns:List Int) (k:Int) {m:Int},0 < m->0<=mx ns k m/\mx ns k m < m
theorem ue (h:HG P):∃ mx,Mix P mx:=⟨mixed,fun ns _ _ hk hm=>Bv h ns hk hm,fun ns k _ h=>DO ns k h⟩
variable {mx:List Int->Int->Int->Int}
noncomputable def dO (mx:List Int->Int->Int->Int) (ns:List Int) (at':Int) (streams many own:Nat):Srs :=
 if mx ns at' 7=0\/(mx ns at' 7=1/\streams=0) then .val (mx ns (at' + 1) 9973)
 else if mx ns at' 7=1 then .inp (mx ns (at' + 1) streams).toNat
 else if (mx ns (at' + 1) many).toNat < own/\mx ns at' 7 < 5 then .wrk (mx ns (at' + 1) many).toNat 0
 else .wrk (mx ns (at' + 1) many).toNat (1+mx ns (at' + 2) 3).toNat
theorem uX (S:aa) (s:Srs):leave S s.toD S=.ok s.toD S:=cQ s.cl (by simp)
theorem toNat_cast {i:Int} (h:0<=i):((i.toNat:Nat):Int)=i:=Int.toNat_of_nonneg h
theorem Cn (h:HG P) (M:Mix P mx) (ns:List Int) {at':Int} {streams many own:Nat} (hat:0<=at') (hm:0 < many):ak sub P (n+3) "_law_source" [.fro (ns.map .int),.int at',.int streams,.int many,.int own] S=.ok (dO mx ns at' streams many own).toD S:=by
 have hm':(0:Int) < many:=by omega
 have a1:0<=at' + 1:=by omega
 have a2:0<=at' + 2:=by omega
 have m0:=M.ok (sub:=sub) (n:=n) (S:=S) ns (k:=at') (m:=7) hat (by decide)
 have r3:=M.rng ns (at' + 1) hm'
 have m1:=M.ok (sub:=sub) (n:=n) (S:=S) ns (k:=at' + 1) (m:=9973) a1 (by decide)
 have m3:=M.ok (sub:=sub) (n:=n) (S:=S) ns (k:=at' + 1) (m:=many) a1 hm'
 have m4:=M.ok (sub:=sub) (n:=n) (S:=S) ns (k:=at' + 2) (m:=3) a2 (by decide)
 have r4:=M.rng ns (at' + 2) (show (0:Int) < 3 by decide)
 unfold dO
 generalize hw:mx ns at' 7=w at m0
 refine x_call (S1:=S) h.source rfl (ao (aK (d:=.int w) (S1:=S) (by (repeat' done))) ?_) (uX S _)
 by_cases w0:w=0\/(w=1/\streams=0)
 ·rw [if_pos w0]
  refine bF (bC (S1:=S) ?_ (show _=Res.ok (Fl.rt (.tup [.str "value",.int _])) S from aF (by (repeat' done))))
  rcases w0 with rfl|⟨rfl,rfl⟩
  ·exact yf (t_k (by (repeat' done)) rfl)
  ·exact cK (t_k (S1:=S) (by (repeat' done)) rfl) (jd (t_k (S1:=S) (by (repeat' done)) rfl) (t_k (by (repeat' done)) rfl))
 ·rw [if_neg w0]
  refine ao (aE (S1:=S) ?_ aD) ?_
  ·by_cases z:w=0
   ·exact (w0 (.inl z)).elim
   ·by_cases z1:w=1
    ·have hs2:¬ (streams=0):=fun q=>w0 (.inr ⟨z1,q⟩)
     exact cK (t_k (S1:=S) (by (repeat' done)) (beq_false_of_ne z)) (jd (t_k (S1:=S) (by (repeat' done)) (beq_iff_eq.mpr z1)) (t_k (by (repeat' done)) (by simp [hs2])))
    ·exact cK (t_k (S1:=S) (by (repeat' done)) (beq_false_of_ne z)) (nQ (t_k (by (repeat' done)) (beq_false_of_ne z1)))
  ·by_cases w1:w=1
   ·have hs':(0:Int) < streams:=by have:¬ streams=0:=fun q=>w0 (.inr ⟨w1,q⟩); omega
    have m2:=M.ok (sub:=sub) (n:=n) (S:=S) ns (k:=at' + 1) (m:=streams) a1 hs'
    have r2:=toNat_cast (M.rng ns (at' + 1) hs').1
    rw [if_pos w1]
    refine bF (bC (S1:=S) (t_k (by (repeat' done)) (beq_iff_eq.mpr w1)) ?_)
    show _=Res.ok (Fl.rt (.tup [.str "input",.int _])) S
    rw [r2]
    exact aF (by (repeat' done))
   ·rw [if_neg w1]
    have t3:=toNat_cast r3.1
    generalize hv:mx ns (at' + 1) many=v at m3 r3 t3
    refine ao (aE (S1:=S) (t_k (by (repeat' done)) (beq_false_of_ne w1)) aD) (ao (aK (d:=.int v) (S1:=S) (by (repeat' done))) ?_)
    by_cases w2:v.toNat < own/\w < 5
    ·rw [if_pos w2]
     refine bF (bC (S1:=S) (jd (t_k (S1:=S) (by (repeat' done)) (decide_eq_true (by omega))) (t_k (by (repeat' done)) (decide_eq_true w2.2))) ?_)
     show _=Res.ok (Fl.rt (.tup [.str "work",.int _,.int 0])) S
     rw [t3]
     exact aF (by (repeat' done))
    ·rw [if_neg w2]
     refine ao (aE (S1:=S) ?_ aD) ?_
     ·by_cases w3:v < own
      ·exact jd (t_k (S1:=S) (by (repeat' done)) (decide_eq_true w3)) (t_k (by (repeat' done)) (decide_eq_false fun z=>w2 ⟨by omega,z⟩))
      ·exact nQ (t_k (by (repeat' done)) (decide_eq_false w3))
     ·show _=Res.ok (Fl.rt (.tup [.str "work",.int _,.int _])) S
      rw [t3,toNat_cast (show 0<=1+mx ns (at' + 2) 3 by omega)]
      exact aF (by (repeat' done))
theorem xO (M:Mix P mx) (ns:List Int) (at':Int) {streams many own:Nat} (hm:0 < many):(dO mx ns at' streams many own).WF own many streams:=by
 have r1:=M.rng ns (at' + 1) (show (0:Int) < 9973 by decide)
 have r3:=M.rng ns (at' + 1) (show (0:Int) < many by omega)
 have r4:=M.rng ns (at' + 2) (show (0:Int) < 3 by decide)
 unfold dO
 by_cases w0:mx ns at' 7=0\/(mx ns at' 7=1/\streams=0)
 ·rw [if_pos w0]; exact ⟨r1.1,by omega⟩
 ·rw [if_neg w0]
  by_cases w1:mx ns at' 7=1
  ·rw [if_pos w1]
   have hs:streams≠0:=fun z=>w0 (.inr ⟨w1,z⟩)
   have r2:=M.rng ns (at' + 1) (show (0:Int) < streams by omega)
   show _ < streams
   omega
  ·rw [if_neg w1]
   split
   ·rename_i h; exact ⟨by omega,by simpa using h.1⟩
   ·refine ⟨by omega,?_⟩
    rw [if_neg (by omega)]
    omega
noncomputable def cA (i:Int):Int:=if i=0 then 2 else 5
noncomputable def cW (mx:List Int->Int->Int->Int) (ns:List Int) (at':Int) (streams ncrews many own:Nat):Wk where
 crew:=(mx ns (at' + 7) ncrews).toNat
 long:=(1+mx ns (at' + 1) (cA (mx ns (at' + 2) 2))).toNat
 doing:=cD.getD (mx ns at' 5).toNat "plus"
 srcs:=(List.range (1+mx ns (at' + 2) 2).toNat).map fun (k:Nat)=>dO mx ns (at' + 3+3 * (k:Int)) streams many own
 starts:=[mx ns (at' + 0) 9973,mx ns (at' + 5) 9973,mx ns (at' + 6) 9973]
theorem b_ (k:Nat):aQ k=.int (k:Int):=rfl
theorem w9 {i:Int} (h:0<=i/\i < 2):atI [D.int 2,D.int 5] i=some (.int (cA i)):=by
 rcases (show i=0\/i=1 by omega) with rfl|rfl <;> rfl
theorem tP {i:Int} (h:0<=i/\i < 5):atI [D.str "plus",D.str "less",D.str "times",D.str "least",D.str "greatest"] i=some (.str (cD.getD i.toNat "plus")):=by
 obtain ⟨k,rfl⟩:=Int.eq_ofNat_of_zero_le h.1
 rw [fj]
 have hk:k < 5:=by omega
 exact (by decide:∀ k:Fin 5,[D.str "plus",D.str "less",D.str "times",D.str "least",D.str "greatest"][k.1]?=some (.str (cD.getD ((k.1:Nat):Int).toNat "plus"))) ⟨k,hk⟩
theorem y_ (h:HG P) (M:Mix P mx) (ns:List Int) {at':Int} {streams ncrews many own:Nat} (hat:0<=at') (hm:0 < many) (hc:0 < ncrews) :
  ak sub P (n+4) "_law_work" [.fro (ns.map .int),.int at',.tup [.int streams,.int ncrews,.int many],.int own] S=.ok (cW mx ns at' streams ncrews many own).toD S:=by
 have r2:=M.rng ns (at' + 2) (show (0:Int) < 2 by decide)
 have rl:0 < cA (mx ns (at' + 2) 2):=by unfold cA; split <;> decide
 have hn:(0:Int) < ncrews:=by omega
 have m (k m:Int) (hk:0<=k) (hm:0 < m) (S:aa):ak sub P (n+3) "_law_mixed" [.fro (ns.map .int),.int k,.int m] S=.ok (.int (mx ns k m)) S:=M.ok ns hk hm
 have m2:=m (at' + 2) 2 (by omega) (by decide)
 have m0:=m at' 5 hat (by decide)
 have m7:=m (at' + 7) ncrews (by omega) hn
 have m1:=m (at' + 1) (cA (mx ns (at' + 2) 2)) (by omega) rl
 have hw:=tP (M.rng ns at' (show (0:Int) < 5 by decide))
 have h25:=w9 r2
 have val:(cW mx ns at' streams ncrews many own).toD=.tup [.int (mx ns (at' + 7) ncrews),.int (1+mx ns (at' + 1) (cA (mx ns (at' + 2) 2))),.str (cD.getD (mx ns at' 5).toNat "plus"),
   .tup ((List.range (1+mx ns (at' + 2) 2).toNat).map fun (k:Nat)=>(dO mx ns (at' + 3+3 * (k:Int)) streams many own).toD),.tup [.int (mx ns (at' + 0) 9973),.int (mx ns (at' + 5) 9973),.int (mx ns (at' + 6) 9973)]]:=by
  have e1:=toNat_cast (M.rng ns (at' + 7) hn).1
  have e2:=toNat_cast (i:=1+mx ns (at' + 1) (cA (mx ns (at' + 2) 2))) (by have:=M.rng ns (at' + 1) rl; omega)
  unfold cW Wk.toD
  rw [e1,e2,List.map_map]; rfl
 have hcl:=(cW mx ns at' streams ncrews many own).cl
 rw [val] at hcl ⊢
 generalize hq:(1+mx ns (at' + 2) 2).toNat=q at hcl
 have hq':(1+mx ns (at' + 2) 2)=(q:Int):=by omega
 obtain ⟨x,loop⟩:=lB (sub:=sub) (cf:=ak sub P (n+3)) (i:=8) (j:=7) (l:=S.length)
   (it:=.iRng (.cs (.bin .add (.c (.int 1)) (.call "_law_mixed" (.cs (.v 0) (.cs (.bin .add (.v 1) (.c (.int 2))) (.cs (.c (.int 2)) .nl))))) .nl))
   (e:=.call "_law_source" (.cs (.v 0) (.cs (.bin .add (.bin .add (.v 1) (.c (.int 3))) (.bin .mul (.c (.int 3)) (.v 8))) (.cs (.v 4) (.cs (.v 6) (.cs (.v 3) .nl))))))
   (σ:=[some (.fro (ns.map .int)),some (.int at'),some (.tup [.int streams,.int ncrews,.int many]),some (.int own),some (.int streams),some (.int ncrews),some (.int many),some (.loc S.length),none,none,none,none])
   (S:=S++[.lst []]) (S1:=S++[.lst []]) (xs:=[]) (ks:=List.range q) (f:=aQ) (g:=fun (k:Nat)=>(dO mx ns (at' + 3+3 * (k:Int)) streams many own).toD) (o:=none) (raw:=[])
   (eG (by (repeat' (first|done|with_reducible exact m2 _))) hq' (by omega) b_) rfl (bP _ _) (by decide) (Nat.lt_of_sub_pos (by exact Nat.succ_pos 3)) (fun _=>rfl)
   (fun k _ ys=>by
    have:=Cn (sub:=sub) (n:=n) (S:=List.set (S++[.lst []]) S.length (.lst ys)) h M ns (at':=at' + 3+3 * (k:Int)) (streams:=streams) (many:=many) (own:=own) (by omega) hm
    rw [b_]
    (repeat' done)) (by unfold aM; rw [List.length_range,List.length_nil]; omega)
 rw [ig,List.nil_append] at loop
 have comp:∀ (y:Option D) (d1 d2:D) (T:aa),ev sub (ak sub P (n+3)) (.comp 2 (.call "_law_mixed" (.cs (.v 0) (.cs (.bin .add (.v 1) (.v 13)) (.cs (.c (.int 9973)) .nl)))) (.one 13) (.iSeq (.tup (.cs (.c (.int 0)) (.cs (.c (.int 5)) (.cs (.c (.int 6)) .nl))))) .nl)
   [some (.fro (ns.map .int)),some (.int at'),some (.tup [.int streams,.int ncrews,.int many]),some (.int own),some (.int streams),some (.int ncrews),some (.int many),some (.loc S.length),y,some d1,some d2,none] T =
   .ok (.loc T.length) (T++[.lst [.int (mx ns (at' + 0) 9973),.int (mx ns (at' + 5) 9973),.int (mx ns (at' + 6) 9973)]]):=fun y d1 d2 T =>
  eF (ks:=[0,5,6]) (f:=D.int) (g:=fun k=>.int (mx ns (at' + k) 9973)) (cz (x:=.tup [.int 0,.int 5,.int 6]) (by (repeat' done)) rfl) rfl (fun k hk=>by
   have hk:0<=k:=by
    have:k=0\/k=5\/k=6:=by simpa using hk
    omega
   have:=m (at' + k) 9973 (by omega) (by decide) T
   (repeat' done)) (by decide)
 have go:∀ (T:aa),(S++.lst ((List.range q).map fun (k:Nat)=>(dO mx ns (at' + 3+3 * (k:Int)) streams many own).toD)::T)[S.length]?=some (.lst ((List.range q).map fun (k:Nat)=>(dO mx ns (at' + 3+3 * (k:Int)) streams many own).toD)):=fun T=>bR S T _
 refine x_call h.work rfl (ao (uH (ds:=[.int streams,.int ncrews,.int many]) (r_v rfl) rfl) (ao (aK (cj ah rfl)) (ao loop (ao (aK (by (repeat' (first|done|with_reducible exact m0 _))))
  (ao (aK (by (repeat' (first|done|with_reducible exact m2 _|with_reducible exact m1 _)))) (ao (aK (aJ (af (comp _ _ _ _) ah) jm)) (aF (jv (af (by (repeat' (first|done|with_reducible exact m7 _))) (af (r_v rfl) (af (r_v rfl) (af (aJ (af (r_v rfl) ah) (dX (by rw [List.append_assoc,List.append_assoc,List.append_assoc]; exact go _))) (af (r_v rfl) ah))))) rfl)))))))) (cQ hcl (by rw [List.append_assoc,List.append_assoc,List.append_assoc]; exact fJ _ _))
theorem zB (M:Mix P mx) (ns:List Int) (at':Int) {streams ncrews many own:Nat} (hm:0 < many) (hc:0 < ncrews):(cW mx ns at' streams ncrews many own).WF own many streams ncrews:=by
 have r2:=M.rng ns (at' + 2) (show (0:Int) < 2 by decide)
 have r5:=M.rng ns at' (show (0:Int) < 5 by decide)
 have rl:0 < cA (mx ns (at' + 2) 2)/\cA (mx ns (at' + 2) 2)<=5:=by unfold cA; split <;> decide
 have r1:=M.rng ns (at' + 1) rl.1
 have r7:=M.rng ns (at' + 7) (show (0:Int) < ncrews by omega)
 refine ⟨?_,⟨?_,?_⟩,?_,⟨?_,?_⟩,fun s hs=>?_,rfl,fun v hv=>?_⟩
 ·show (mx ns (at' + 7) ncrews).toNat < ncrews; omega
 ·show 1<=(1+mx ns (at' + 1) (cA (mx ns (at' + 2) 2))).toNat; omega
 ·show (1+mx ns (at' + 1) (cA (mx ns (at' + 2) 2))).toNat<=8; omega
 ·show cD.getD (mx ns at' 5).toNat "plus"∈cD
  rw [List.getD_eq_getElem?_getD,List.getElem?_eq_getElem (show (mx ns at' 5).toNat < cD.length by show _ < 5; omega)]
  exact List.getElem_mem _
 ·show 1<=((List.range (1+mx ns (at' + 2) 2).toNat).map _).length
  rw [List.length_map,List.length_range]; omega
 ·show ((List.range (1+mx ns (at' + 2) 2).toNat).map _).length<=3
  rw [List.length_map,List.length_range]; omega
 ·obtain ⟨k,_,rfl⟩:=List.mem_map.mp hs
  exact xO M ns _ hm
 ·have:∀ k,0<=mx ns k 9973/\mx ns k 9973<=9972:=fun k=>by have:=M.rng ns k (show (0:Int) < 9973 by decide); omega
  have hv:v∈[mx ns (at' + 0) 9973,mx ns (at' + 5) 9973,mx ns (at' + 6) 9973]:=hv
  simp at hv
  rcases hv with rfl|rfl|rfl <;> exact this _
noncomputable def gf (mx:List Int->Int->Int->Int) (ns:List Int) (at':Int) (k:Nat):Nat × Nat:=((1+mx ns (at' + 3+(k:Int)) 2).toNat,(1+mx ns (at' + 5+(k:Int)) 5 / 2).toNat)
noncomputable def b9 (mx:List Int->Int->Int->Int) (ns:List Int) (at':Int) (many:Nat):List Nat:=(List.range many).filter fun k=>decide (0 < mx ns (at' + 7+(k:Int)) 3)
noncomputable def dF (mx:List Int->Int->Int->Int) (ns:List Int) (at' most:Int):Lp where
 streams:=(mx ns at' 3).toNat
 crews:=(List.range (1+mx ns (at' + 2) 2).toNat).map (gf mx ns at')
 works:=(List.range (1+mx ns (at' + 1) most).toNat).map fun (k:Nat)=>cW mx ns (at' + 7+9 * (k:Int)) (mx ns at' 3).toNat (1+mx ns (at' + 2) 2).toNat (1+mx ns (at' + 1) most).toNat k
 outs:=if b9 mx ns at' (1+mx ns (at' + 1) most).toNat=[] then [(1+mx ns (at' + 1) most).toNat - 1] else b9 mx ns at' (1+mx ns (at' + 1) most).toNat
theorem zK (M:Mix P mx) (ns:List Int) {at' most:Int} {nc many:Nat} {os:List Nat} (hq:(1+mx ns (at' + 2) 2).toNat=nc) (hw:(1+mx ns (at' + 1) most).toNat=many) (ho:(if b9 mx ns at' many=[] then [many - 1] else b9 mx ns at' many)=os):(dF mx ns at' most).toD =
  .tup [.int (mx ns at' 3),.tup ((List.range nc).map fun (k:Nat)=>cB (gf mx ns at' k)),.tup ((List.range many).map fun (k:Nat)=>(cW mx ns (at' + 7+9 * (k:Int)) (mx ns at' 3).toNat nc many k).toD),.tup (os.map aQ)]:=by
 have e0:=toNat_cast (M.rng ns at' (show (0:Int) < 3 by decide)).1
 unfold dF Lp.toD
 simp only [hq,hw,ho,e0,List.map_map]
 rfl
theorem vS (h:HG P) (M:Mix P mx) (ns:List Int) {at' most:Int} (hat:0<=at') (hmo:0 < most) (hmo2:most<=8) :
  ak sub P (n+5) "_law_loop" [.fro (ns.map .int),.int at',.int most] S=.ok (dF mx ns at' most).toD S:=by
 have r1:=M.rng ns (at' + 1) hmo
 have r2:=M.rng ns (at' + 2) (show (0:Int) < 2 by decide)
 have m (k m:Int) (hk:0<=k) (hm:0 < m) (S:aa):ak sub P (n+4) "_law_mixed" [.fro (ns.map .int),.int k,.int m] S=.ok (.int (mx ns k m)) S:=M.ok ns hk hm
 have m0:=m at' 3 hat (by decide)
 have m1:=m (at' + 1) most (by omega) hmo
 have m2:=m (at' + 2) 2 (by omega) (by decide)
 have e0:=toNat_cast (M.rng ns at' (show (0:Int) < 3 by decide)).1
 generalize hq:(1+mx ns (at' + 2) 2).toNat=nc
 generalize hw:(1+mx ns (at' + 1) most).toNat=many
 have hq':(1+mx ns (at' + 2) 2)=(nc:Int):=by omega
 have hw':(1+mx ns (at' + 1) most)=(many:Int):=by omega
 have hcl:=(dF mx ns at' most).cl
 generalize ho:(if b9 mx ns at' many=[] then [many - 1] else b9 mx ns at' many)=os
 rw [zK M ns hq hw ho] at hcl ⊢
 generalize hs:(mx ns at' 3).toNat=streams at e0 hcl ⊢
 obtain ⟨x,loop1⟩:=lB (sub:=sub) (cf:=ak sub P (n+4)) (i:=6) (j:=5) (l:=S.length) (it:=.iRng (.cs (.bin .add (.c (.int 1)) (.call "_law_mixed" (.cs (.v 0) (.cs (.bin .add (.v 1) (.c (.int 2))) (.cs (.c (.int 2)) .nl))))) .nl))
   (e:=.tup (.cs (.bin .add (.c (.int 1)) (.call "_law_mixed" (.cs (.v 0) (.cs (.bin .add (.bin .add (.v 1) (.c (.int 3))) (.v 6)) (.cs (.c (.int 2)) .nl))))) (.cs (.bin .add (.c (.int 1)) (.bin .fdiv (.call "_law_mixed" (.cs (.v 0) (.cs (.bin .add (.bin .add (.v 1) (.c (.int 5))) (.v 6)) (.cs (.c (.int 5)) .nl)))) (.c (.int 2)))) .nl)))
   (σ:=[some (.fro (ns.map .int)),some (.int at'),some (.int most),some (.int (mx ns at' 3)),some (.int (1+mx ns (at' + 1) most)),some (.loc S.length),none,none,none])
   (S:=S++[.lst []]) (S1:=S++[.lst []]) (xs:=[]) (ks:=List.range nc) (f:=aQ) (g:=fun (k:Nat)=>cB (gf mx ns at' k)) (o:=none) (raw:=[])
   (eG (by (repeat' (first|done|with_reducible exact m2 _))) hq' (by omega) b_) rfl (bP _ _) (by decide) (Nat.lt_of_sub_pos (by exact Nat.succ_pos 2)) (fun _=>rfl)
   (fun k _ ys=>by
    have q1:=m (at' + 3+(k:Int)) 2 (by omega) (by decide)
    have q2:=m (at' + 5+(k:Int)) 5 (by omega) (by decide)
    have g1:=M.rng ns (at' + 3+(k:Int)) (show (0:Int) < 2 by decide)
    have g2:=M.rng ns (at' + 5+(k:Int)) (show (0:Int) < 5 by decide)
    have t1:=toNat_cast (i:=1+mx ns (at' + 3+(k:Int)) 2) (by omega)
    have t2:=toNat_cast (i:=1+mx ns (at' + 5+(k:Int)) 5 / 2) (by omega)
    rw [b_]
    unfold cB gf
    rw [t1,t2]
    (repeat' (first|done|with_reducible exact q1 _|with_reducible exact q2 _))) (by unfold aM; rw [List.length_range,List.length_nil]; omega)
 rw [ig,List.nil_append] at loop1
 generalize hcr:((List.range nc).map fun (k:Nat)=>cB (gf mx ns at' k))=cr at loop1 hcl ⊢
 have hcrl:cr.length=nc:=by rw [<- hcr,List.length_map,List.length_range]
 obtain ⟨y,loop2⟩:=lB (sub:=sub) (cf:=ak sub P (n+4)) (i:=6) (j:=7) (l:=(S++[Cell.lst cr]).length) (it:=.iRng (.cs (.v 4) .nl))
   (e:=.call "_law_work" (.cs (.v 0) (.cs (.bin .add (.bin .add (.v 1) (.c (.int 7))) (.bin .mul (.c (.int 9)) (.v 6))) (.cs (.tup (.cs (.v 3) (.cs (.bi .len (.cs (.v 5) .nl)) (.cs (.v 4) .nl)))) (.cs (.v 6) .nl)))))
   (σ:=[some (.fro (ns.map .int)),some (.int at'),some (.int most),some (.int (mx ns at' 3)),some (.int (1+mx ns (at' + 1) most)),some (.loc S.length),x,some (.loc (S++[Cell.lst cr]).length),none])
   (S:=(S++[.lst cr])++[.lst []]) (S1:=(S++[.lst cr])++[.lst []]) (xs:=[]) (ks:=List.range many) (f:=aQ)
   (g:=fun (k:Nat)=>(cW mx ns (at' + 7+9 * (k:Int)) streams nc many k).toD) (o:=none) (raw:=[])
   (eG (by (repeat' done)) hw' (by omega) b_) rfl (bP _ _) (by decide) (Nat.lt_of_sub_pos (by exact Nat.succ_pos 2)) (fun _=>rfl)
   (fun k _ ys=>by
    rw [ig,b_]
    have hd:=y_ (sub:=sub) (n:=n) (S:=(S++[.lst cr])++[.lst ys]) h M ns (at':=at' + 7+9 * (k:Int)) (streams:=streams) (ncrews:=nc) (many:=many) (own:=k) (by omega) (by omega) (by omega)
    rw [e0,<- hw'] at hd
    have hl:biD sub .len [.loc S.length] ((S++[.lst cr])++[.lst ys])=.ok (.int (nc:Int)) ((S++[.lst cr])++[.lst ys]):=by
     rw [<- hcrl]; exact iJ (by rw [List.append_assoc]; exact bR _ _ _)
    (repeat' done)) (by unfold aM; rw [List.length_range,List.length_nil]; omega)
 rw [ig,List.nil_append] at loop2
 generalize hwk:((List.range many).map fun (k:Nat)=>(cW mx ns (at' + 7+9 * (k:Int)) streams nc many k).toD)=wk at loop2 hcl ⊢
 generalize hT:(S++[Cell.lst cr])++[Cell.lst wk]=T at loop2
 have gc:∀ U:aa,(T++U)[S.length]?=some (.lst cr):=fun U=>by rw [<- hT,List.append_assoc,List.append_assoc]; exact bR _ _ _
 have gw:∀ U:aa,(T++U)[(S++[Cell.lst cr]).length]?=some (.lst wk):=fun U=>by rw [<- hT,List.append_assoc]; exact bR _ _ _
 have tk:∀ U:aa,(T++U).take S.length=S:=fun U=>by rw [<- hT,List.append_assoc,List.append_assoc]; exact fJ _ _
 have comp:=Dk (sub:=sub) (cf:=ak sub P (n+4)) (k:=2) (i:=10) (el:=.v 10) (it:=.iRng (.cs (.v 4) .nl)) (tt:=.cmp .gt (.call "_law_mixed" (.cs (.v 0) (.cs (.bin .add (.bin .add (.v 1) (.c (.int 7))) (.v 10)) (.cs (.c (.int 3)) .nl)))) (.c (.int 0)))
   (σ:=[some (.fro (ns.map .int)),some (.int at'),some (.int most),some (.int (mx ns at' 3)),some (.int (1+mx ns (at' + 1) most)),some (.loc S.length),y,some (.loc (S++[Cell.lst cr]).length),none]) (S:=T) (S1:=T) (s:=⟨(List.range many).map aQ,none,[]⟩) (g:=id) (p:=fun d=>match d with|.int k=>decide (0 < mx ns (at' + 7+k) 3)|_=>false) rfl
   (eG (by (repeat' done)) hw' (by omega) b_) rfl
   (fun d hd=>by
    obtain ⟨k,_,rfl⟩:=List.mem_map.mp hd
    have:=m (at' + 7+(k:Int)) 3 (by omega) (by decide) T
    rw [b_]
    (repeat' done))
   (fun d hd _=>r_v rfl) (by unfold aM; rw [List.length_map,List.length_range]; omega)
 rw [List.map_id,List.filter_map,show List.filter ((fun d=>match d with|.int k=>decide (0 < mx ns (at' + 7+k) 3)|_=>false) ∘ aQ) (List.range many)=b9 mx ns at' many from rfl] at comp
 refine uQ h.loop rfl (ao (aK (by (repeat' (first|done|with_reducible exact m0 _)))) (ao (aK (by (repeat' (first|done|with_reducible exact m1 _)))) (ao (aK (cj ah rfl)) (ao loop1 (ao (aK (cj ah rfl)) (ao loop2 (ao (aK comp) rfl))))))) ?_ hcl
 cases hu:b9 mx ns at' many with
 | nil =>
  rw [hu,if_pos rfl] at ho
  subst ho
  have t3:((many - 1:Nat):Int)=1+mx ns (at' + 1) most - 1:=by omega
  have hE:cmD .eq (.loc T.length) (.loc (T++[Cell.lst []]).length) ((T++[.lst []])++[.lst []])=.ok (.bl true) ((T++[.lst []])++[.lst []]):=p6 (xs:=[]) (by rw [List.append_assoc]; exact bR _ _ _) (bP _ _)
  refine ⟨_,ao (bC (aX (aY (r_v rfl) (cj ah rfl) hE)) (aK (by (repeat' done)))) (aF (jv (af (r_v rfl) (af (aJ (af (r_v rfl) ah) (dX ?_)) (af (aJ (af (r_v rfl) ah) (dX ?_)) (af (aJ (af (r_v rfl) ah) (dX ?_)) ah)))) rfl)),?_⟩
  ·rw [List.append_assoc,List.append_assoc]; exact gc _
  ·rw [List.append_assoc,List.append_assoc]; exact gw _
  ·rw [List.map_cons,b_,t3]; exact bP _ _
  ·rw [List.append_assoc,List.append_assoc]; exact tk _
 | cons a r =>
  rw [hu,if_neg (by intro z; cases z)] at ho
  subst ho
  have hE:cmD .eq (.loc T.length) (.loc (T++[Cell.lst ((a::r).map aQ)]).length) ((T++[.lst ((a::r).map aQ)])++[.lst []])=.ok (.bl false) ((T++[.lst ((a::r).map aQ)])++[.lst []]):=p6 (xs:=(a::r).map aQ) (by rw [List.append_assoc]; exact bR _ _ _) (bP _ _)
  refine ⟨_,ao (aE (aX (aY (r_v rfl) (cj ah rfl) hE)) aD) (aF (jv (af (r_v rfl) (af (aJ (af (r_v rfl) ah) (dX ?_)) (af (aJ (af (r_v rfl) ah) (dX ?_)) (af (aJ (af (r_v rfl) ah) (dX ?_)) ah)))) rfl)),?_⟩
  ·rw [List.append_assoc]; exact gc _
  ·rw [List.append_assoc]; exact gw _
  ·rw [List.append_assoc]; exact bR _ _ _
  ·rw [List.append_assoc]; exact tk _
theorem sQ (p:Nat->Bool) (many:Nat):∀ (k c:Nat),k+c<=many->cM many k ((List.range' k c).filter p)
 | k,0,_=>trivial
 | k,c+1,h=>by
  rw [List.range'_succ,List.filter_cons]
  have:=sQ p many (k+1) c (by omega)
  split
  ·exact ⟨Nat.le_refl _,by omega,this⟩
  ·have low:∀ (l:List Nat) (a b:Nat),a<=b->cM many b l->cM many a l:=by
    intro l
    cases l with
    | nil=>intros; trivial
    | cons x r=>intro a b hab ⟨h1,h2,h3⟩; exact ⟨by omega,h2,h3⟩
   exact low _ _ _ (Nat.le_succ _) this
theorem CU (M:Mix P mx) (ns:List Int) {at' most:Int} (hmo:0 < most) (hmo2:most<=8):(dF mx ns at' most).WF:=by
 have r0:=M.rng ns at' (show (0:Int) < 3 by decide)
 have r1:=M.rng ns (at' + 1) hmo
 have r2:=M.rng ns (at' + 2) (show (0:Int) < 2 by decide)
 have hw:(dF mx ns at' most).works.length=(1+mx ns (at' + 1) most).toNat:=by simp [dF]
 have hc:(dF mx ns at' most).crews.length=(1+mx ns (at' + 2) 2).toNat:=by simp [dF]
 refine ⟨?_,?_,fun c hcm=>?_,?_,fun i w hi=>?_,?_,?_⟩
 ·show (mx ns at' 3).toNat<=6; omega
 ·rw [hc]; omega
 ·obtain ⟨k,_,rfl⟩:=List.mem_map.mp hcm
  have q1:=M.rng ns (at' + 3+(k:Int)) (show (0:Int) < 2 by decide)
  have q2:=M.rng ns (at' + 5+(k:Int)) (show (0:Int) < 5 by decide)
  simp only [gf]
  omega
 ·rw [hw]; omega
 ·rw [hw,hc]
  have hi':i < (1+mx ns (at' + 1) most).toNat:=by rw [<- hw]; exact (List.getElem?_eq_some_iff.mp hi).1
  have hi:((List.range (1+mx ns (at' + 1) most).toNat).map fun (k:Nat)=>cW mx ns (at' + 7+9 * (k:Int)) (mx ns at' 3).toNat (1+mx ns (at' + 2) 2).toNat (1+mx ns (at' + 1) most).toNat k)[i]?=some w:=hi
  rw [List.getElem?_map,List.getElem?_range hi'] at hi
  cases hi
  exact zB M ns _ (by omega) (by omega)
 ·show 1<=(if b9 mx ns at' (1+mx ns (at' + 1) most).toNat=[] then [(1+mx ns (at' + 1) most).toNat - 1] else b9 mx ns at' (1+mx ns (at' + 1) most).toNat).length
  split
  ·simp
  ·rename_i h; exact List.length_pos_iff.mpr h
 ·rw [hw]
  show cM _ 0 (if b9 mx ns at' (1+mx ns (at' + 1) most).toNat=[] then [(1+mx ns (at' + 1) most).toNat - 1] else b9 mx ns at' (1+mx ns (at' + 1) most).toNat)
  split
  ·exact ⟨Nat.zero_le _,by omega,trivial⟩
  ·unfold b9
   rw [List.range_eq_range']
   exact sQ _ _ 0 _ (by omega)
noncomputable def aC (r:List Int):D:=.tup (r.map .int)
structure fB (streams:Nat) (rows:List (List Int)):Prop where
 len:∀ r∈rows,r.length=streams
 val:∀ r∈rows,∀ v∈r,0<=v/\v<=9972
noncomputable def dB (seed:Int) (k j:Nat):Int:=(seed+104729 * (k:Int) * (k:Int)+7919 * (k:Int)+31 * (j:Int)) * 48271 % 2147483647
noncomputable def d7 (d:Int):Int:=if d % 2=0 then d / 7 % 9973 else d / 7 % 4
noncomputable def cG (seed:Int) (streams k:Nat):List Int:=(List.range streams).map fun j=>d7 (dB seed k j)
theorem qT (n:Nat):List.range (n+1)=List.range n++[n]:=List.range_succ
theorem Ex (d:Int):atI [D.int (d / 7 % 9973),D.int (d / 7 % 4)] (d % 2)=some (.int (d7 d)):=by
 unfold d7
 rcases Int.emod_two_eq d with e|e <;> rw [e] <;> rfl
theorem yK (h:HG P) (hi:Has P "_law_inputs" lG) (M:Mix P mx) (ns:List Int) {at':Int} {streams most:Nat} (hat:0<=at') (hmo:most<=100) (hst:streams<=100) :
  ∃ rows,rows.length<=most/\fB streams rows/\ak sub P (n+3) "_law_inputs" [.fro (ns.map .int),.int at',.int streams,.int most] S=.ok (.loc S.length) (S++[.lst (rows.map aC)]):=by
 have r1:=M.rng ns (at' + 1) (show (0:Int) < (most:Int)+1 by omega)
 have m0:∀ S,ak sub P (n+2) "_law_mixed" [.fro (ns.map .int),.int at',.int 1000000000] S=.ok (.int (mx ns at' 1000000000)) S:=fun S=>M.ok ns hat (by decide)
 have m1:∀ S,ak sub P (n+2) "_law_mixed" [.fro (ns.map .int),.int (at' + 1),.int ((most:Int)+1)] S=.ok (.int (mx ns (at' + 1) ((most:Int)+1))) S:=fun S=>M.ok ns (by omega) (by omega)
 generalize hq:(mx ns (at' + 1) ((most:Int)+1)).toNat=q
 have hq':mx ns (at' + 1) ((most:Int)+1)=(q:Int):=by omega
 generalize mx ns at' 1000000000=seed at m0
 refine ⟨(List.range q).map (cG seed streams),by simp; omega,⟨fun r hr=>?_,fun r hr v hv=>?_⟩,?_⟩
 ·obtain ⟨k,_,rfl⟩:=List.mem_map.mp hr
  simp [cG]
 ·obtain ⟨k,_,rfl⟩:=List.mem_map.mp hr
  obtain ⟨j,_,rfl⟩:=List.mem_map.mp hv
  unfold d7
  split <;> omega
 ·have inner:∀ (k:Nat) (hk:k < 1000) (d5:D) (y z:Option D) (S2:aa),∃ y' z' G',exec sub (ak sub P (n+2)) (.forS (.one 8) (.iRng (.cs (.v 2) .nl)) (.seq (.set (.one 9) (.bin .mod (.bin .mul (.bin .add (.bin .add (.bin .add (.v 4) (.bin .mul (.bin .mul (.c (.int 104729)) (.v 6)) (.v 6))) (.bin .mul (.c (.int 7919)) (.v 6))) (.bin .mul (.c (.int 31)) (.v 8))) (.c (.int 48271))) (.c (.int 2147483647))))
     (.ex (.me .append (.v 7) (.cs (.ix (.lst (.cs (.bin .mod (.bin .fdiv (.v 9) (.c (.int 7))) (.c (.int 9973))) (.cs (.bin .mod (.bin .fdiv (.v 9) (.c (.int 7))) (.c (.int 4))) .nl))) (.bin .mod (.v 9) (.c (.int 2)))) .nl)))))
    [some (.fro (ns.map .int)),some (.int at'),some (.int streams),some (.int most),some (.int seed),some d5,some (.int k),some (.loc S2.length),y,z] (S2++[.lst []]) =
    .ok (.nx [some (.fro (ns.map .int)),some (.int at'),some (.int streams),some (.int most),some (.int seed),some d5,some (.int k),some (.loc S2.length),y',z']) (S2++.lst ((cG seed streams k).map .int)::G'):=by
   intro k hk d5 y z S2
   obtain ⟨σ',T',e,y',z',G',hσ,hT⟩:=gG (sub:=sub) (cf:=ak sub P (n+2)) (t:=.one 8) (it:=.iRng (.cs (.v 2) .nl)) (b:=.seq (.set (.one 9) (.bin .mod (.bin .mul (.bin .add (.bin .add (.bin .add (.v 4) (.bin .mul (.bin .mul (.c (.int 104729)) (.v 6)) (.v 6))) (.bin .mul (.c (.int 7919)) (.v 6))) (.bin .mul (.c (.int 31)) (.v 8))) (.c (.int 48271))) (.c (.int 2147483647))))
     (.ex (.me .append (.v 7) (.cs (.ix (.lst (.cs (.bin .mod (.bin .fdiv (.v 9) (.c (.int 7))) (.c (.int 9973))) (.cs (.bin .mod (.bin .fdiv (.v 9) (.c (.int 7))) (.c (.int 4))) .nl))) (.bin .mod (.v 9) (.c (.int 2)))) .nl))))
    (σ:=[some (.fro (ns.map .int)),some (.int at'),some (.int streams),some (.int most),some (.int seed),some d5,some (.int k),some (.loc S2.length),y,z]) (S:=S2++[.lst []]) (S1:=S2++[.lst []]) (s:=⟨(List.range streams).map aQ,none,[]⟩)
    (fun i σ T=>∃ y' z' G',σ=[some (.fro (ns.map .int)),some (.int at'),some (.int streams),some (.int most),some (.int seed),some d5,some (.int k),some (.loc S2.length),y',z']/\T=S2++.lst ((List.range i).map fun (j:Nat)=>.int (d7 (dB seed k j)))::G')
    (eG (by (repeat' done)) rfl (by omega) b_) ⟨y,z,[],rfl,rfl⟩ (fun _ _ _ _=>rfl) (fun i hi σ T ⟨y',z',G',hσ,hT⟩=>by
     subst hσ; subst hT
     have hi':i < streams:=by simpa using hi
     rw [fY,List.getElem_map,List.getElem_range,b_]
     refine ⟨_,_,?_,some (.int i),some (.int (dB seed k i)),G'++[.lst [.int (dB seed k i / 7 % 9973),.int (dB seed k i / 7 % 4)]],rfl,rfl⟩
     have hap:∀ c:Cell,meD .append (.loc S2.length) [.int (d7 (dB seed k i))] ((S2++.lst ((List.range i).map fun (j:Nat)=>.int (d7 (dB seed k j)))::G')++[c])=.ok .non (S2++.lst ((List.range (i+1)).map fun (j:Nat)=>.int (d7 (dB seed k j)))::(G'++[c])):=fun c=>by
      rw [List.append_assoc,List.cons_append,kK (by rw [List.length_map,List.length_range]; omega),qT,List.map_append]; rfl
     have hat:=Ex (dB seed k i)
     exact ao (aK (d:=.int (dB seed k i)) (by (repeat' done))) (fV (eO (r_v rfl) (by (repeat' done)) (hap _))))
   subst hσ; subst hT
   refine ⟨y',z',G',?_⟩
   rw [e]
   simp [cG]
  obtain ⟨σ',T',e,a,b,c,d,G,hσ,hT⟩:=gG (sub:=sub) (cf:=ak sub P (n+2)) (t:=.one 6) (it:=.iRng (.cs (.call "_law_mixed" (.cs (.v 0) (.cs (.bin .add (.v 1) (.c (.int 1))) (.cs (.bin .add (.v 3) (.c (.int 1))) .nl)))) .nl)) (b:=.seq (.set (.one 7) (.lst .nl)) (.seq (.forS (.one 8) (.iRng (.cs (.v 2) .nl))
     (.seq (.set (.one 9) (.bin .mod (.bin .mul (.bin .add (.bin .add (.bin .add (.v 4) (.bin .mul (.bin .mul (.c (.int 104729)) (.v 6)) (.v 6))) (.bin .mul (.c (.int 7919)) (.v 6))) (.bin .mul (.c (.int 31)) (.v 8))) (.c (.int 48271))) (.c (.int 2147483647))))
     (.ex (.me .append (.v 7) (.cs (.ix (.lst (.cs (.bin .mod (.bin .fdiv (.v 9) (.c (.int 7))) (.c (.int 9973))) (.cs (.bin .mod (.bin .fdiv (.v 9) (.c (.int 7))) (.c (.int 4))) .nl))) (.bin .mod (.v 9) (.c (.int 2)))) .nl)))))
     (.ex (.me .append (.v 5) (.cs (.bi .tuple (.cs (.v 7) .nl)) .nl)))))
    (σ:=[some (.fro (ns.map .int)),some (.int at'),some (.int streams),some (.int most),some (.int seed),some (.loc S.length),none,none,none,none]) (S:=S++[.lst []]) (S1:=S++[.lst []]) (s:=⟨(List.range q).map aQ,none,[]⟩)
    (fun i σ T=>∃ a b c d G,σ=[some (.fro (ns.map .int)),some (.int at'),some (.int streams),some (.int most),some (.int seed),some (.loc S.length),a,b,c,d]/\T=S++.lst ((List.range i).map fun (j:Nat)=>aC (cG seed streams j))::G)
    (eG (by (repeat' (first|done|with_reducible exact m1 _))) hq' (by omega) b_) ⟨none,none,none,none,[],rfl,rfl⟩ (fun _ _ _ _=>rfl) (fun i hi σ T ⟨a,b,c,d,G,hσ,hT⟩=>by
     subst hσ; subst hT
     have hi':i < q:=by simpa using hi
     rw [fY,List.getElem_map,List.getElem_range,b_]
     obtain ⟨y',z',G',hin⟩:=inner i (by omega) (.loc S.length) c d (S++.lst ((List.range i).map fun (j:Nat)=>aC (cG seed streams j))::G)
     have hap:∀ c:Cell,∀ U:aa,meD .append (.loc S.length) [aC (cG seed streams i)] ((S++.lst ((List.range i).map fun (j:Nat)=>aC (cG seed streams j))::G)++c::U)=.ok .non (S++.lst ((List.range (i+1)).map fun (j:Nat)=>aC (cG seed streams j))::(G++c::U)):=fun c U=>by
      rw [List.append_assoc,List.cons_append,kK (by rw [List.length_map,List.length_range]; omega),qT,List.map_append]; rfl
     refine ⟨_,_,?_,some (.int i),some (.loc (S++.lst ((List.range i).map fun (j:Nat)=>aC (cG seed streams j))::G).length),y',z',G++.lst ((cG seed streams i).map .int)::G',rfl,rfl⟩
     exact ao (aK (cj ah rfl)) (ao hin (fV (eO (r_v rfl) (af (aJ (af (r_v rfl) ah) (dX (bR _ _ _))) ah) (hap _ _) (ve _ _ _ _)))))
  subst hσ; subst hT
  have h10:opD .pow (.int 10) (.int 9) S=.ok (.int 1000000000) S:=by rw [C8]; rfl
  have hlv:=leave_new (S:=S) (T:=.lst ((List.range q).map fun (j:Nat)=>aC (cG seed streams j))::G) (k:=0) rfl (fL (fun j=>by show D.lows 0 _=true; exact p8 _) _)
  rw [List.length_map,List.length_range] at e
  rw [List.map_map]
  exact x_call hi rfl (ao (aK (aH (af (r_v rfl) (af (r_v rfl) (af (a_ r_c r_c h10) ah))) (m0 _))) (ao (aK (cj ah rfl)) (ao e (aF (r_v rfl))))) hlv
end
end RL

namespace RL
open PySem EV GO
noncomputable def oY:Fn:=⟨2,2,(.ret (.and (.call "is_row" (.cs (.v 0) (.cs (.v 1) (.cs (.v 1) .nl)))) (.bi .all (.cs (.comp 2 (.call "is_value" (.cs (.v 3) .nl)) (.one 3) (.iSeq (.v 0)) .nl) .nl))))⟩
noncomputable def sE:Fn:=⟨2,2,(.seq (.ite (.or (.not (.bi (.inst .list) (.cs (.v 0) .nl))) (.cmp .gt (.bi .len (.cs (.v 0) .nl)) (.c (.int 40))))
  (.ret (.c (.bl false)))
  .skip)
 (.ret (.bi .all (.cs (.comp 2 (.call "is_given" (.cs (.v 3) (.cs (.v 1) .nl))) (.one 3) (.iSeq (.v 0)) .nl) .nl))))⟩
noncomputable def qy:Fn:=⟨2,2,(.seq (.ite (.not (.call "are_inputs" (.cs (.v 1) (.cs (.ix (.v 0) (.c (.int 0))) .nl))))
  (.rais "NoInputs")
  .skip)
 (.ret (.v 1)))⟩
noncomputable def k6:Fn:=⟨1,3,(.seq (.set (.one 1) (.c (.int 1)))
 (.seq (.forS (.one 2) (.iSeq (.v 0))
  (.set (.one 1) (.bin .mul (.v 1) (.v 2))))
 (.ret (.v 1))))⟩
noncomputable def nU:Fn:=⟨2,2,(.seq (.ite (.cmp .eq (.v 0) (.c (.str "plus")))
  (.ret (.bin .mod (.bi .sum (.cs (.v 1) .nl)) (.c (.int 9973))))
  .skip)
 (.seq (.ite (.cmp .eq (.v 0) (.c (.str "less")))
  (.ret (.bin .mod (.bin .sub (.ix (.v 1) (.c (.int 0))) (.bi .sum (.cs (.sl (.v 1) (.c (.int 1)) .nl) .nl))) (.c (.int 9973))))
  .skip)
 (.seq (.ite (.cmp .eq (.v 0) (.c (.str "times")))
  (.ret (.bin .mod (.call "product" (.cs (.v 1) .nl)) (.c (.int 9973))))
  .skip)
 (.seq (.ite (.cmp .eq (.v 0) (.c (.str "least")))
  (.ret (.bi .min (.cs (.v 1) .nl)))
  .skip)
 (.ret (.bi .max (.cs (.v 1) .nl)))))))⟩
noncomputable def nY:Fn:=⟨1,3,(.seq (.set (.one 1) (.lst .nl))
 (.seq (.forS (.one 2) (.iRng (.cs (.c (.int 3)) (.cs (.c (.int 0)) (.cs (.neg (.c (.int 1))) .nl))))
  (.ex (.me .append (.v 1) (.cs (.comp 2 (.ix (.ix (.v 4) (.c (.int 4))) (.bin .sub (.v 2) (.c (.int 1)))) (.one 4) (.iSeq (.v 0)) .nl) .nl))))
 (.ret (.v 1))))⟩
noncomputable def pD:Fn:=⟨3,3,(.seq (.ite (.cmp .eq (.ix (.v 0) (.c (.int 0))) (.c (.str "value")))
  (.ret (.ix (.v 0) (.c (.int 1))))
  .skip)
 (.seq (.ite (.cmp .eq (.ix (.v 0) (.c (.int 0))) (.c (.str "input")))
  (.ret (.ix (.v 2) (.ix (.v 0) (.c (.int 1)))))
  .skip)
 (.ret (.ix (.ix (.v 1) (.bin .sub (.neg (.c (.int 1))) (.ix (.v 0) (.c (.int 2))))) (.ix (.v 0) (.c (.int 1)))))))⟩
noncomputable def m6:Fn:=⟨2,8,(.seq (.set (.one 2) (.ix (.call "checked" (.cs (.v 0) .nl)) (.c (.int 2))))
 (.seq (.set (.one 3) (.call "start_rows" (.cs (.v 2) .nl)))
 (.seq (.set (.one 4) (.lst .nl))
 (.seq (.forS (.one 5) (.iSeq (.call "checked_inputs" (.cs (.v 0) (.cs (.v 1) .nl))))
  (.seq (.set (.one 6) (.lst .nl))
 (.seq (.ex (.me .append (.v 3) (.cs (.v 6) .nl)))
 (.seq (.forS (.one 7) (.iSeq (.v 2))
  (.ex (.me .append (.v 6) (.cs (.call "outcome" (.cs (.ix (.v 7) (.c (.int 2))) (.cs (.comp 2 (.call "source_value" (.cs (.v 9) (.cs (.v 3) (.cs (.v 5) .nl)))) (.one 9) (.iSeq (.ix (.v 7) (.c (.int 3)))) .nl) .nl))) .nl))))
 (.ex (.me .append (.v 4) (.cs (.bi .tuple (.cs (.comp 2 (.ix (.v 6) (.v 9)) (.one 9) (.iSeq (.ix (.v 0) (.c (.int 3)))) .nl) .nl)) .nl)))))))
 (.ret (.v 4))))))⟩
structure HV (P:Prg):Prop where
 given:Has P "is_given" oY
 inputs:Has P "are_inputs" sE
 checked:Has P "checked_inputs" qy
 product:Has P "product" k6
 outcome:Has P "outcome" nU
 startrows:Has P "start_rows" nY
 sourcevalue:Has P "source_value" pD
 answers:Has P "answers" m6
variable {sub:Sub} {P:Prg} {n:Nat} {S:aa}
theorem u9 (h:HB P) (hv:HV P) {r:List Int} {streams:Nat} (hl:r.length=streams) (hs:streams<=1000) (hr:∀ v∈r,0<=v/\v<=9972):ak sub P (n+3) "is_given" [aC r,.int streams] S=.ok (.bl true) S:=by
 obtain ⟨T,e⟩:=i8 (sub:=sub) (cf:=ak sub P (n+2)) (σ:=[some (aC r),some (.int streams)]) (S:=S) (i:=3) (k:=2) (el:=.call "is_value" (.cs (.v 3) .nl)) (a:=.v 0) (l:=r) (f:=.int) (r_v rfl) (by omega) (fun v hm=>aH (af (r_v rfl) ah) (lJ h (hr v hm).1 (hr v hm).2))
 exact x_call hv.given rfl (aF (dg (aH (af (r_v rfl) (af (r_v rfl) (af (r_v rfl) ah))) (fQ h.row (ds:=r.map .int) streams (by rw [List.length_map,hl]) (Int.le_refl _) (Int.le_refl _))) e)) (gp _ _ _)
theorem vU (h:HB P) (hv:HV P) {c:Nat} {rows:List (List Int)} {streams:Nat} (hc:S[c]?=some (.lst (rows.map aC))) (hw:fB streams rows) (hs:streams<=1000) (hn:rows.length<=40):ak sub P (n+4) "are_inputs" [.loc c,.int streams] S=.ok (.bl true) S:=by
 have hcm:ev sub (ak sub P (n+3)) (.comp 2 (.call "is_given" (.cs (.v 3) (.cs (.v 1) .nl))) (.one 3) (.iSeq (.v 0)) .nl) [some (.loc c),some (.int streams)] S=.ok (.loc S.length) (S++[.lst (rows.map fun _=>.bl true)]) :=
  eF (f:=aC) (o:=some c) (raw:=rows.map aC) (cz (r_v rfl) (iB hc)) (gn (.inr ⟨c,rfl,hc⟩)) (fun r hr=>aH (af (r_v rfl) (af (r_v rfl) ah)) (u9 h hv (hw.len r hr) hs (hw.val r hr))) (by unfold aM; omega)
 have ha:ev sub (ak sub P (n+3)) (.bi .all (.cs (.comp 2 (.call "is_given" (.cs (.v 3) (.cs (.v 1) .nl))) (.one 3) (.iSeq (.v 0)) .nl) .nl)) [some (.loc c),some (.int streams)] S=.ok (.bl true) (S++[.lst (rows.map fun _=>.bl true)]) :=
  aJ (af hcm ah) ((jz _ fun _=>true).trans (by rw [List.all_eq_true.mpr fun _ _=>rfl]))
 have ht:ek sub S (.loc c) .list=some true:=by simp only [ek,hc]
 have hl:=iJ (sub:=sub) hc
 rw [List.length_map] at hl
 exact x_call hv.inputs rfl (ao (aE (cK (bD (k:=true) (fR (aJ (af (r_v rfl) ah) (eS ht)))) (t_k (aX (aY (aJ (af (r_v rfl) ah) hl) r_c (rq _ _ _))) (decide_eq_false (by omega)))) aD) (aF ha)) (gp _ _ _)
theorem Eg (h:HB P) (hv:HV P) {c:Nat} {l:Lp} {rows:List (List Int)} (hc:S[c]?=some (.lst (rows.map aC))) (hw:fB l.streams rows) (hs:l.streams<=1000) (hn:rows.length<=40):ak sub P (n+5) "checked_inputs" [l.toD,.loc c] S=.ok (.loc c) S:=by
 have hlt:c < S.length:=(List.getElem?_eq_some_iff.mp hc).1
 have hl:leave S (.loc c) S=.ok (.loc c) S:=by
  unfold leave
  rw [if_pos List.take_length,if_pos (show D.low S.length (.loc c)=true from decide_eq_true hlt)]
 exact x_call hv.checked rfl (ao (aE (bD (k:=true) (bL (aH (af (r_v rfl) (af (av (r_v rfl) r_c (aA rfl)) ah)) (vU h hv hc hw hs hn)))) aD) (aF (r_v rfl))) hl
noncomputable def eZ:Int->List Int->Int
 | a,[]=>a
 | a,v::r=>eZ (a * v) r
theorem Es (hv:HV P) {c:Nat} {vs:List Int} (hc:S[c]?=some (.lst (vs.map .int))) (hs:∀ v∈vs,small v=true):ak sub P (n+1) "product" [.loc c] S=.ok (.int (eZ 1 vs)) S:=by
 rw [lX hv.product rfl]
 have loop:∀ (us:List Int) (a:Int) (x:Option D),(∀ v∈us,small v=true)->∃ x',forL ⟨vs.map .int,some c,vs.map .int⟩ (bO sub (ak sub P n) (.one 2) (.set (.one 1) (.bin .mul (.v 1) (.v 2)))) (us.map .int) [some (.loc c),some (.int a),x] S=.ok (.nx [some (.loc c),some (.int (eZ a us)),x']) S:=by
  intro us
  induction us with
  | nil=>intro a x _; exact ⟨x,by rw [List.map_nil,eW,gn (.inr ⟨c,rfl,hc⟩)]; rfl⟩
  | cons v r ih =>
   intro a x hs
   obtain ⟨x',e⟩:=ih (a * v) (some (.int v)) fun u hu=>hs u (List.mem_cons_of_mem _ hu)
   refine ⟨x',?_⟩
   rw [List.map_cons,gE,gn (.inr ⟨c,rfl,hc⟩)]
   simp only [Res.aj,fY]
   have:=hs v List.mem_cons_self
   simp [this]
   exact e
 obtain ⟨x',e⟩:=loop vs 1 none hs
 have:=fu (sub:=sub) (cf:=ak sub P n) (t:=.one 2) (it:=.iSeq (.v 0)) (σ:=[some (.loc c),some (.int 1),none]) (S:=S) (s:=⟨vs.map .int,some c,vs.map .int⟩) (by simp [iB hc]) e
 simp [k6,frame,this]
noncomputable def bI (doing:Str) (vs:List Int):Int :=
 if doing = "plus" then vs.sum % 9973 else if doing = "less" then (vs.getD 0 0 - (vs.drop 1).sum) % 9973 else if doing = "times" then eZ 1 vs % 9973
 else if doing = "least" then (vs.drop 1).foldl min (vs.getD 0 0) else (vs.drop 1).foldl max (vs.getD 0 0)
theorem sj (vs:List D):cut vs (some 1) none=vs.drop 1:=by
 unfold cut sIx
 cases vs with
 | nil=>rfl
 | cons a r =>
  have:(if (1:Int) < 0 then ((1:Int)+((a::r).length:Int)).toNat else min (1:Int).toNat (a::r).length)=1:=by
   rw [if_neg (by decide)]; simp
  simp
theorem jk {c:Nat} {vs:List Int} (hc:S[c]?=some (.lst (vs.map .int))):biD sub .sum [.loc c] S=.ok (.int vs.sum) S:=by
 rw [zO,cE hc,Res.aj,kQ,cV,Res.aj]
theorem zc {c:Nat} {v:Int} {r:List Int} (hc:S[c]?=some (.lst ((v::r).map .int))):biD sub .min [.loc c] S=.ok (.int (r.foldl min v)) S:=by
 rw [w4,cE hc,Res.aj,kQ,cV,Res.aj]; rfl
theorem yR {c:Nat} {v:Int} {r:List Int} (hc:S[c]?=some (.lst ((v::r).map .int))):biD sub .max [.loc c] S=.ok (.int (r.foldl max v)) S:=by
 rw [tR,cE hc,Res.aj,kQ,cV,Res.aj]; rfl
theorem BP (hv:HV P) {c:Nat} {vs:List Int} {doing:Str} (hc:S[c]?=some (.lst (vs.map .int))) (hne:vs≠[]) (hs:∀ v∈vs,small v=true):ak sub P (n+2) "outcome" [.str doing,.loc c] S=.ok (.int (bI doing vs)) S:=by
 obtain ⟨v,r,rfl⟩:=List.exists_cons_of_ne_nil hne
 have word:∀ (y:Str) {k:Bool},(doing==y)=k->evT sub (ak sub P (n+1)) (.cmp .eq (.v 0) (.c (.str y))) [some (.str doing),some (.loc c)] S=.ok k S:=fun y k e=>e ▸ aX (aY (r_v rfl) r_c (fz _ _ _))
 have no:∀ {y:Str},¬ doing=y->(doing==y)=false:=fun h=>beq_false_of_ne h
 have yes:∀ {y:Str},doing=y->(doing==y)=true:=fun h=>beq_iff_eq.mpr h
 unfold bI
 by_cases h1:doing = "plus"
 ·rw [if_pos h1]
  exact x_call hv.outcome rfl (bF (bC (word "plus" (yes h1)) (aF (a_ (aJ (af (r_v rfl) ah) (jk hc)) r_c (dY (by decide)))))) (b5 _ _)
 rw [if_neg h1]
 by_cases h2:doing = "less"
 ·rw [if_pos h2]
  have hcut:slD (.loc c) (some 1) none S=.ok (.loc S.length) (S++[.lst (r.map .int)]):=by
   show (items (.loc c)>>=fun xs=>alloc (.lst (cut xs (some 1) none))) S=_
   rw [ay,cE hc,Res.aj,sj]; rfl
  exact x_call hv.outcome rfl (ao (aE (word "plus" (no h1)) aD) (bF (bC (word "less" (yes h2)) (aF (a_ (a_ (av (r_v rfl) r_c (d8 hc (iA _))) (aJ (af (nE (r_v rfl) (rD _) o_ hcut) ah) (jk (bP _ _))) (cu _ _ _)) r_c (dY (by decide))))))) (ji _ _ _)
 rw [if_neg h2]
 by_cases h3:doing = "times"
 ·rw [if_pos h3]
  exact x_call hv.outcome rfl (ao (aE (word "plus" (no h1)) aD) (ao (aE (word "less" (no h2)) aD) (bF (bC (word "times" (yes h3)) (aF (a_ (aH (af (r_v rfl) ah) (Es hv hc hs)) r_c (dY (by decide)))))))) (b5 _ _)
 rw [if_neg h3]
 by_cases h4:doing = "least"
 ·rw [if_pos h4]
  exact x_call hv.outcome rfl (ao (aE (word "plus" (no h1)) aD) (ao (aE (word "less" (no h2)) aD) (ao (aE (word "times" (no h3)) aD) (bF (bC (word "least" (yes h4)) (aF (aJ (af (r_v rfl) ah) (zc hc)))))))) (b5 _ _)
 ·rw [if_neg h4]
  exact x_call hv.outcome rfl (ao (aE (word "plus" (no h1)) aD) (ao (aE (word "less" (no h2)) aD) (ao (aE (word "times" (no h3)) aD) (ao (aE (word "least" (no h4)) aD) (aF (aJ (af (r_v rfl) ah) (yR hc))))))) (b5 _ _)
noncomputable def aW (works:List Wk) (b:Nat):List Int:=works.map fun w=>w.starts.getD b 0
theorem u0 (hv:HV P) {works:List Wk} (hn:works.length<=1000) (hw:∀ w∈works,w.starts.length=3):ak sub P (n+1) "start_rows" [.tup (works.map Wk.toD)] S =
  .ok (.loc S.length) (S++[.lst [.loc (S.length+1),.loc (S.length+2),.loc (S.length+3)],.lst ((aW works 2).map .int),.lst ((aW works 1).map .int),.lst ((aW works 0).map .int)]):=by
 have turn:∀ (b:Nat) (_:b < 3) (xs:List D) (U:aa) (_:xs.length<=10),exec sub (ak sub P n) (.ex (.me .append (.v 1) (.cs (.comp 2 (.ix (.ix (.v 4) (.c (.int 4))) (.bin .sub (.v 2) (.c (.int 1)))) (.one 4) (.iSeq (.v 0)) .nl) .nl))) [some (.tup (works.map Wk.toD)),some (.loc S.length),some (.int ((b:Int)+1))] (S++.lst xs::U) =
   .ok (.nx [some (.tup (works.map Wk.toD)),some (.loc S.length),some (.int ((b:Int)+1))]) (S++.lst (xs++[.loc (S.length+(U.length+1))])::(U++[.lst ((aW works b).map .int)])):=fun b hb xs U hx=>by
  have c:=eF (sub:=sub) (cf:=ak sub P n) (k:=2) (i:=4) (el:=.ix (.ix (.v 4) (.c (.int 4))) (.bin .sub (.v 2) (.c (.int 1)))) (it:=.iSeq (.v 0)) (σ:=[some (.tup (works.map Wk.toD)),some (.loc S.length),some (.int ((b:Int)+1))]) (S:=S++.lst xs::U) (S1:=S++.lst xs::U) (ks:=works) (f:=Wk.toD) (g:=fun w=>.int (w.starts.getD b 0)) (o:=none) (raw:=works.map Wk.toD)
   (cz (r_v rfl) rfl) rfl (fun w hm=>by
    have hb':b < w.starts.length:=(hw w hm).symm ▸ hb
    refine av (av (r_v rfl) r_c (aA rfl)) (a_ (r_v rfl) r_c (cu _ _ _)) (aA ?_)
    rw [Int.add_sub_cancel,fj,List.getElem?_map,List.getD_eq_getElem?_getD,List.getElem?_eq_getElem hb']; rfl) (by unfold aM; omega)
  rw [show (works.map fun w=>D.int (w.starts.getD b 0))=(aW works b).map .int by unfold aW; rw [List.map_map]; rfl,List.append_assoc,List.cons_append,List.length_append,List.length_cons] at c
  exact fV (eO (r_v rfl) (af c ah) (kK (by omega)))
 have loop:=fu (sub:=sub) (cf:=ak sub P n) (t:=.one 2) (σ:=[some (.tup (works.map Wk.toD)),some (.loc S.length),none]) (s:=⟨[.int 3,.int 2,.int 1],none,[]⟩) (mL (S:=S++[.lst []]) (is:=[3,2,1]) (af (r_c (d:=.int 3)) (af (r_c (d:=.int 0)) (af (gz (i:=1) r_c) ah))) rfl)
  (gx rfl (fh (turn 2 (by decide) [] [] (by decide))) (gx rfl (fh (turn 1 (by decide) _ _ (by exact Nat.le_of_ble_eq_true rfl))) (gx rfl (fh (turn 0 (by decide) _ _ (by exact Nat.le_of_ble_eq_true rfl))) (eW _ _ _ _))))
 refine x_call hv.startrows rfl (ao (aK (cj ah rfl)) (ao loop (aF (r_v rfl)))) ?_
 unfold leave
 rw [if_pos (fJ _ _),if_neg (by show ¬ decide (S.length < S.length)=true; simp)]
 simp only [bR]
 rw [if_neg]
 ·rfl
 show ¬ (D.lows S.length [.loc (S.length+1),.loc (S.length+2),.loc (S.length+3)])=true
 simp [D.lows,D.low]
structure nD (T:aa) (locs:List Nat) (rows:List (List Int)):Prop where
 len:locs.length=rows.length
 row:∀ (m l:Nat) r,locs[m]?=some l->rows[m]?=some r->T[l]?=some (.lst (r.map .int))
noncomputable def aN (rows:List (List Int)) (given:List Int):Srs->Int
 | .val v=>v
 | .inp k=>given.getD k 0
 | .wrk w b=>(rows.getD (rows.length - 1 - b) []).getD w 0
theorem qL (xs:List D) (b:Nat) (h:b < xs.length):atI xs (-1 - (b:Int))=xs[xs.length - 1 - b]?:=by
 unfold atI ixN
 rw [if_neg (by omega),if_pos (by omega)]
 show xs[(-1 - (b:Int)+(xs.length:Int)).toNat]?=_
 congr 1; omega
theorem DE (hv:HV P) {R:Nat} {locs:List Nat} {rows:List (List Int)} {given:List Int} {s:Srs} (hR:S[R]?=some (.lst (locs.map .loc))) (hA:nD S locs rows)
  (hs:match s with|.val _=>True|.inp k=>k < given.length|.wrk w b=>b < rows.length/\w < (rows.getD (rows.length - 1 - b) []).length) :
  ak sub P (n+1) "source_value" [s.toD,.loc R,aC given] S=.ok (.int (aN rows given s)) S:=by
 have word:∀ {x:Str} {r:List D} {σ:Sg} (y:Str) {k:Bool} (e:bf σ 0 S=.ok (.tup (.str x::r)) S) (hk:(x==y)=k),evT sub (ak sub P n) (.cmp .eq (.ix (.v 0) (.c (.int 0))) (.c (.str y))) σ S=.ok k S:=fun y k e hk=>by
  rw [<- hk]; exact aX (aY (av (r_v e) r_c (aA (iA _))) r_c (fz _ _ _))
 have nth:∀ {l:List Int} {w:Nat},w < l.length->atI (l.map D.int) (w:Int)=some (.int (l.getD w 0)):=fun h=>by rw [fj]; simp [h]
 cases s with
 | val v=>exact x_call hv.sourcevalue rfl (bF (bC (word (x:="value") "value" rfl (by decide +kernel)) (aF (av (r_v rfl) r_c (aA rfl))))) (b5 _ _)
 | inp k=>exact x_call hv.sourcevalue rfl (ao (aE (word (x:="input") "value" rfl (by decide +kernel)) aD) (bF (bC (word (x:="input") "input" rfl (by decide +kernel)) (aF (av (r_v rfl) (av (r_v rfl) r_c (aA rfl)) (aA (nth hs))))))) (b5 _ _)
 | wrk w b =>
  obtain ⟨h1,h2⟩:=hs
  have hl:=hA.len
  have hr:rows.length - 1 - b < rows.length:=by omega
  have hm:rows.length - 1 - b < locs.length:=hl ▸ hr
  have hrow:=hA.row (rows.length - 1 - b) locs[rows.length - 1 - b] rows[rows.length - 1 - b] (List.getElem?_eq_getElem hm) (List.getElem?_eq_getElem hr)
  have hat:atI (locs.map D.loc) (-1 - (b:Int))=some (.loc locs[rows.length - 1 - b]):=by
   rw [qL _ _ (by rw [List.length_map,hl]; exact h1),List.length_map,hl,List.getElem?_map,List.getElem?_eq_getElem hm]; rfl
  have hg:rows.getD (rows.length - 1 - b) []=rows[rows.length - 1 - b]:=by rw [List.getD_eq_getElem?_getD,List.getElem?_eq_getElem hr]; rfl
  have hz:aN rows given (.wrk w b)=rows[rows.length - 1 - b].getD w 0:=congrArg (fun l=>List.getD l w 0) hg
  rw [hg] at h2
  rw [hz]
  exact x_call hv.sourcevalue rfl (ao (aE (word (x:="work") "value" rfl (by decide +kernel)) aD) (ao (aE (word (x:="work") "input" rfl (by decide +kernel)) aD) (aF (av (av (r_v rfl) (a_ (gz r_c) (av (r_v rfl) r_c (aA rfl)) (cu _ _ _)) (d8 hR hat)) (av (r_v rfl) r_c (aA rfl)) (d8 hrow (nth h2)))))) (b5 _ _)
abbrev VR (v:Int):Prop:=0<=v/\v<=9972
theorem VR.small {v:Int} (h:VR v):small v=true:=decide_eq_true ⟨by have:=h.1; omega,by have:=h.2; omega⟩
theorem pF:∀ (r:List Int) (a:Int),VR a->(∀ v∈r,VR v)->VR (r.foldl min a)
 | [],a,h,_=>h
 | v::r,a,h,hr=>pF r (min a v) (by have:=hr v List.mem_cons_self; have:=h; unfold VR at *; omega) fun u hu=>hr u (List.mem_cons_of_mem _ hu)
theorem qg:∀ (r:List Int) (a:Int),VR a->(∀ v∈r,VR v)->VR (r.foldl max a)
 | [],a,h,_=>h
 | v::r,a,h,hr=>qg r (max a v) (by have:=hr v List.mem_cons_self; have:=h; unfold VR at *; omega) fun u hu=>hr u (List.mem_cons_of_mem _ hu)
theorem sM {doing:Str} {vs:List Int} (hne:vs≠[]) (h:∀ v∈vs,VR v):VR (bI doing vs):=by
 obtain ⟨v,r,rfl⟩:=List.exists_cons_of_ne_nil hne
 have hv:=h v List.mem_cons_self
 have hr:∀ u∈r,VR u:=fun u hu=>h u (List.mem_cons_of_mem _ hu)
 have m:∀ x:Int,VR (x % 9973):=fun x=>⟨Int.emod_nonneg _ (by decide),by have:=Int.emod_lt_of_pos x (show (0:Int) < 9973 by decide); omega⟩
 unfold bI
 split
 ·exact m _
 ·split
  ·exact m _
  ·split
   ·exact m _
   ·split
    ·exact pF r v hv hr
    ·exact qg r v hv hr
noncomputable def aP (rows:List (List Int)) (given:List Int):List Wk->List Int->List Int
 | [],row=>row
 | w::ws,row=>aP rows given ws (row++[bI w.doing (w.srcs.map (aN (rows++[row]) given))])
structure AT (S T:aa) (locs:List Nat) (rows:List (List Int)) (told:List D):Prop where
 pre:T.take S.length=S
 rws:T[S.length]?=some (.lst (locs.map .loc))
 td:T[S.length+4]?=some (.lst told)
 ra:nD T locs rows
 lo:∀ l∈locs,S.length < l/\l≠S.length+4
 nd:locs.Nodup
theorem take_set {α:Type} {T:List α} {k l:Nat} {c:α} (h:k<=l):(T.set l c).take k=T.take k:=by
 apply List.ext_getElem?
 intro i
 by_cases hi:i < k
 ·rw [List.getElem?_take_of_lt hi,List.getElem?_take_of_lt hi,List.getElem?_set_ne (by omega)]
 ·rw [List.getElem?_eq_none (by simp; omega),List.getElem?_eq_none (by simp; omega)]
section
variable {T:aa} {locs:List Nat} {rows:List (List Int)} {told:List D}
theorem AT.len (h:AT S T locs rows told):S.length+4 < T.length:=(List.getElem?_eq_some_iff.mp h.td).1
theorem AT.lt (h:AT S T locs rows told) {l:Nat} (hl:l∈locs):l < T.length:=by
 obtain ⟨m,hm⟩:=List.getElem?_of_mem hl
 have hm':m < rows.length:=by rw [<- h.ra.len]; exact (List.getElem?_eq_some_iff.mp hm).1
 exact (List.getElem?_eq_some_iff.mp (h.ra.row m l _ hm (List.getElem?_eq_getElem hm'))).1
theorem AT.more (h:AT S T locs rows told) (c:Cell):AT S (T++[c]) locs rows told:=by
 have hl:=h.len
 refine ⟨by rw [List.take_append_of_le_length (by omega)]; exact h.pre,by rw [List.getElem?_append_left (by omega)]; exact h.rws,by rw [List.getElem?_append_left (by omega)]; exact h.td,⟨h.ra.len,fun m l r h1 h2=>?_⟩,h.lo,h.nd⟩
 rw [List.getElem?_append_left (h.lt (List.mem_of_getElem? h1))]
 exact h.ra.row m l r h1 h2
theorem AT.Bg (h:AT S T locs rows told):AT S (List.set (T++[Cell.lst []]) S.length (Cell.lst ((locs++[T.length]).map D.loc))) (locs++[T.length]) (rows++[[]]) told:=by
 have hl:=h.len
 refine ⟨by rw [take_set (Nat.le_refl _)]; rw [List.take_append_of_le_length (by omega)]; exact h.pre,by rw [List.getElem?_set_self (by simp; omega)],by rw [List.getElem?_set_ne (by omega),List.getElem?_append_left (by omega)]; exact h.td,⟨by simp [h.ra.len],fun m l r h1 h2=>?_⟩,fun l hm=>?_,?_⟩
 ·have hne:S.length≠l:=by
   intro e
   have hm:=List.mem_of_getElem? h1
   rcases List.mem_append.mp hm with z|z
   ·have:=(h.lo l z).1; omega
   ·have:l=T.length:=by simpa using z
    omega
  rw [List.getElem?_set_ne hne]
  by_cases hm:m < locs.length
  ·rw [List.getElem?_append_left hm] at h1
   rw [List.getElem?_append_left (by rw [<- h.ra.len]; exact hm)] at h2
   rw [List.getElem?_append_left (h.lt (List.mem_of_getElem? h1))]
   exact h.ra.row m l r h1 h2
  ·rw [List.getElem?_append_right (by omega)] at h1
   rw [List.getElem?_append_right (by rw [<- h.ra.len]; omega)] at h2
   have hm2:m - locs.length=0:=by
    have:=(List.getElem?_eq_some_iff.mp h1).1; simp at this; omega
   rw [hm2] at h1
   rw [<- h.ra.len,hm2] at h2
   simp at h1 h2
   subst h1; subst h2
   simp
 ·rcases List.mem_append.mp hm with z|z
  ·exact h.lo l z
  ·have:l=T.length:=by simpa using z
   omega
 ·rw [List.nodup_append]
  refine ⟨h.nd,by simp,fun a ha b hb=>?_⟩
  have:b=T.length:=by simpa using hb
  have:=h.lt ha
  omega
theorem AT.push {L:Nat} {row:List Int} (h:AT S T (locs++[L]) (rows++[row]) told) (v:Int):AT S (T.set L (.lst ((row++[v]).map .int))) (locs++[L]) (rows++[row++[v]]) told:=by
 have hL:=h.lo L (by simp)
 have hLt:=h.lt (l:=L) (by simp)
 have hll:locs.length=rows.length:=by have:=h.ra.len; simpa using this
 refine ⟨by rw [take_set (by omega)]; exact h.pre,by rw [List.getElem?_set_ne (by omega)]; exact h.rws,by rw [List.getElem?_set_ne (by omega)]; exact h.td,⟨by simp [hll],fun m l r h1 h2=>?_⟩,h.lo,h.nd⟩
 by_cases hm:m < locs.length
 ·have h1':locs[m]?=some l:=by rw [List.getElem?_append_left hm] at h1; exact h1
  have hne:L≠l:=by
   intro e
   subst e
   exact (List.nodup_append.mp h.nd).2.2 L (List.mem_of_getElem? h1') L (by simp) rfl
  rw [List.getElem?_set_ne hne]
  refine h.ra.row m l r h1 ?_
  rw [List.getElem?_append_left (by omega)] at h2 ⊢
  exact h2
 ·rw [List.getElem?_append_right (by omega)] at h1
  rw [List.getElem?_append_right (by omega)] at h2
  have hm2:m - locs.length=0:=by
   have:=(List.getElem?_eq_some_iff.mp h1).1; simp at this; omega
  rw [hm2] at h1
  rw [<- hll,hm2] at h2
  simp at h1 h2
  subst h1; subst h2
  rw [List.getElem?_set_self hLt]
theorem AT.tell (h:AT S T locs rows told) (d:D):AT S (T.set (S.length+4) (.lst (told++[d]))) locs rows (told++[d]):=by
 have hl:=h.len
 refine ⟨by rw [take_set (by omega)]; exact h.pre,by rw [List.getElem?_set_ne (by omega)]; exact h.rws,by rw [List.getElem?_set_self hl],⟨h.ra.len,fun m l r h1 h2=>?_⟩,h.lo,h.nd⟩
 have:=(h.lo l (List.mem_of_getElem? h1)).2
 rw [List.getElem?_set_ne (by omega)]
 exact h.ra.row m l r h1 h2
theorem AT.last {L:Nat} {row:List Int} (h:AT S T (locs++[L]) (rows++[row]) told):T[L]?=some (.lst (row.map .int)):=by
 have hll:locs.length=rows.length:=by have:=h.ra.len; simpa using this
 exact h.ra.row locs.length L row (by simp) (by rw [hll]; simp)
end
structure cR (N:Nat) (rows:List (List Int)):Prop where
 len:∀ r∈rows,r.length=N
 val:∀ r∈rows,∀ v∈r,VR v
theorem k7 {N streams ncrews:Nat} {w:Wk} {rows:List (List Int)} {row given:List Int} (hw:w.WF row.length N streams ncrews) (hr:cR N rows) (h3:3<=rows.length) (hrow:∀ v∈row,VR v) (hg:given.length=streams) (hgv:∀ v∈given,VR v):∀ s∈w.srcs,
  (match s with|.val _=>True|.inp k=>k < given.length|.wrk w b=>b < (rows++[row]).length/\w < ((rows++[row]).getD ((rows++[row]).length - 1 - b) []).length)/\VR (aN (rows++[row]) given s):=by
 intro s hs
 have h:=hw.srcs s hs
 cases s with
 | val v=>exact ⟨trivial,h⟩
 | inp k =>
  have h:k < streams:=h
  refine ⟨by show k < _; omega,?_⟩
  show VR (given.getD k 0)
  have hk:k < given.length:=by omega
  rw [List.getD_eq_getElem?_getD,List.getElem?_eq_getElem hk]
  exact hgv _ (List.getElem_mem hk)
 | wrk u b =>
  obtain ⟨hb,hu⟩:=h
  have hlen:(rows++[row]).length=rows.length+1:=by simp
  have key:∃ r,(rows++[row]).getD ((rows++[row]).length - 1 - b) []=r/\u < r.length/\∀ v∈r,VR v:=by
   by_cases hb0:b=0
   ·subst hb0
    refine ⟨row,?_,by simpa using hu,hrow⟩
    rw [hlen]
    simp
   ·rw [if_neg hb0] at hu
    have hi:rows.length - b < rows.length:=by omega
    refine ⟨rows[rows.length - b],?_,by rw [hr.len _ (List.getElem_mem hi)]; exact hu,hr.val _ (List.getElem_mem hi)⟩
    rw [hlen,show rows.length+1 - 1 - b=rows.length - b by omega,List.getD_eq_getElem?_getD,List.getElem?_append_left hi,List.getElem?_eq_getElem hi]
    rfl
  obtain ⟨r,e,hur,hv⟩:=key
  refine ⟨⟨by omega,by rw [e]; exact hur⟩,?_⟩
  show VR (((rows++[row]).getD ((rows++[row]).length - 1 - b) []).getD u 0)
  rw [e,List.getD_eq_getElem?_getD,List.getElem?_eq_getElem hur]
  exact hv _ (List.getElem_mem hur)
theorem vn {T:aa} {ds:List D} {k:Nat} (ht:T.take S.length=S) (h:T[S.length+k]?=some (.lst ds)) (hc:D.lows 0 ds=true):leave S (.loc (S.length+k)) T=.ok (.loc S.length) (S++[.lst ds]):=by
 unfold leave
 rw [if_pos ht,if_neg (by show ¬ decide (S.length+k < S.length)=true; simp)]
 simp only [h]
 rw [if_pos (show Cell.low S.length (.lst ds)=true from fK (Nat.zero_le _) hc)]
theorem nR (hv:HV P) {locs:List Nat} {L:Nat} {rows:List (List Int)} {told:List D} {given:List Int} {N streams ncrews:Nat} {A0 A1 A2 A4:D} {W:List D} (hr:cR N rows) (h3:3<=rows.length) (hg:given.length=streams) (hgv:∀ v∈given,VR v) :
  ∀ (ws:List Wk) (row:List Int) (T:aa) (x7:Option D),AT S T (locs++[L]) (rows++[row]) told->(∀ (j:Nat) w,ws[j]?=some w->w.WF (row.length+j) N streams ncrews)->(∀ v∈row,VR v)->row.length+ws.length<=1000 ->
  ∃ T' x7',forL ⟨W,none,W⟩ (bO sub (ak sub P (n+2)) (.one 7) (.ex (.me .append (.v 6) (.cs (.call "outcome" (.cs (.ix (.v 7) (.c (.int 2))) (.cs (.comp 2 (.call "source_value" (.cs (.v 9) (.cs (.v 3) (.cs (.v 5) .nl)))) (.one 9) (.iSeq (.ix (.v 7) (.c (.int 3)))) .nl) .nl))) .nl)))) (ws.map Wk.toD)
    [some A0,some A1,some A2,some (.loc S.length),some A4,some (aC given),some (.loc L),x7] T=.ok (.nx [some A0,some A1,some A2,some (.loc S.length),some A4,some (aC given),some (.loc L),x7']) T'/\AT S T' (locs++[L]) (rows++[aP rows given ws row]) told/\((∀ v∈aP rows given ws row,VR v)/\(aP rows given ws row).length=row.length+ws.length)
 | [],row,T,x7,h,_,hrow,_=>⟨T,x7,by rw [List.map_nil,eW]; rfl,h,hrow,rfl⟩
 | w::ws,row,T,x7,h,hw,hrow,hn=>by
  have hw0:w.WF row.length N streams ncrews:=hw 0 w rfl
  have hsv:=k7 hw0 hr h3 hrow hg hgv
  have hcomp:ev sub (ak sub P (n+2)) (.comp 2 (.call "source_value" (.cs (.v 9) (.cs (.v 3) (.cs (.v 5) .nl)))) (.one 9) (.iSeq (.ix (.v 7) (.c (.int 3)))) .nl) [some A0,some A1,some A2,some (.loc S.length),some A4,some (aC given),some (.loc L),some w.toD] T =
    .ok (.loc T.length) (T++[.lst (w.srcs.map fun s=>.int (aN (rows++[row]) given s))]) :=
   eF (f:=Srs.toD) (o:=none) (raw:=w.srcs.map Srs.toD) (cz (av (r_v rfl) r_c (aA rfl)) rfl) rfl (fun s hs=>aH (af (r_v rfl) (af (r_v rfl) (af (r_v rfl) ah))) (DE hv h.rws h.ra (hsv s hs).1)) (by have:=hw0.some.2; unfold aM; omega)
  have hvs:(w.srcs.map fun s=>D.int (aN (rows++[row]) given s))=(w.srcs.map (aN (rows++[row]) given)).map .int:=by rw [List.map_map]; rfl
  rw [hvs] at hcomp
  have hne:w.srcs.map (aN (rows++[row]) given)≠[]:=by
   intro e
   have:=hw0.some.1
   rw [List.map_eq_nil_iff] at e
   rw [e] at this; simp at this
  have hall:∀ v∈w.srcs.map (aN (rows++[row]) given),VR v:=fun v hm=>by
   obtain ⟨s,hs,rfl⟩:=List.mem_map.mp hm
   exact (hsv s hs).2
  have hout:=BP (sub:=sub) (n:=n) (S:=T++[.lst ((w.srcs.map (aN (rows++[row]) given)).map .int)]) hv (doing:=w.doing) (bR T [] _) hne fun v hm=>(hall v hm).small
  have hm:=h.more (.lst ((w.srcs.map (aN (rows++[row]) given)).map .int))
  have hlast:=hm.last
  have hap:=iu (d:=.int (bI w.doing (w.srcs.map (aN (rows++[row]) given)))) hlast (by unfold aM; simp at hn ⊢; omega)
  have hpush:=hm.push (bI w.doing (w.srcs.map (aN (rows++[row]) given)))
  rw [List.map_append] at hpush
  obtain ⟨T',x7',e,hA,hV,hL⟩:=nR hv (L:=L) (W:=W) (A0:=A0) (A1:=A1) (A2:=A2) (A4:=A4) hr h3 hg hgv ws (row++[bI w.doing (w.srcs.map (aN (rows++[row]) given))]) _ (some w.toD) hpush
   (fun j u hj=>by
    have:=hw (j+1) u (by simpa using hj)
    rw [show row.length+(j+1)=(row++[bI w.doing (w.srcs.map (aN (rows++[row]) given))]).length+j by simp; omega] at this
    exact this)
   (fun v hm=>by
    rcases List.mem_append.mp hm with z|z
    ·exact hrow v z
    ·rw [List.mem_singleton.mp z]; exact sM hne hall) (by simp at hn ⊢; omega)
  refine ⟨T',x7',?_,hA,hV,by rw [show aP rows given (w::ws) row=aP rows given ws (row++[bI w.doing (w.srcs.map (aN (rows++[row]) given))]) from rfl,hL]; simp; omega⟩
  exact gx (zU _ _ _) (fh (fV (eO (r_v rfl) (af (aH (af (av (r_v rfl) r_c (aA rfl)) (af hcomp ah)) hout) ah) hap (gv h.last)))) e
noncomputable def outD (outs:List Nat) (row:List Int):D:=.tup (outs.map fun k=>.int (row.getD k 0))
noncomputable def f_ (works:List Wk) (outs:List Nat):List (List Int)->List (List Int)->List D
 | _,[]=>[]
 | rows,g::gs=>outD outs (aP rows g works [])::f_ works outs (rows++[aP rows g works []]) gs
noncomputable def aG (works:List Wk):List (List Int):=[aW works 2,aW works 1,aW works 0]
noncomputable def cU (l:Lp) (inputs:List (List Int)):List D:=f_ l.works l.outs (aG l.works) inputs
theorem jD (works:List Wk) (outs:List Nat):∀ (gs rows:List (List Int)),D.lows 0 (f_ works outs rows gs)=true
 | [],_=>rfl
 | g::gs,rows=>by
  show (D.low 0 (outD outs _)&&D.lows 0 _)=true
  rw [jD works outs gs]
  show (D.lows 0 (outs.map _)&&true)=true
  rw [fL fun _=>rfl]; rfl
theorem oi (hv:HV P) {l:Lp} {c:Nat} {inputs:List (List Int)} (hc:S[c]?=some (.lst (inputs.map aC))) (hl:l.WF) (hlen:l.works.length<=100) :
  ∀ (gs:List (List Int)) (rows:List (List Int)) (locs:List Nat) (told:List D) (T:aa) (x5 x6 x7:Option D),AT S T locs rows told->cR l.works.length rows->3<=rows.length->fB l.streams gs->told.length+gs.length<=1000->rows.length+gs.length<=1000 ->
  ∃ T' σ',forL ⟨inputs.map aC,some c,inputs.map aC⟩ (bO sub (ak sub P (n+2)) (.one 5) (.seq (.set (.one 6) (.lst .nl)) (.seq (.ex (.me .append (.v 3) (.cs (.v 6) .nl))) (.seq (.forS (.one 7) (.iSeq (.v 2)) (.ex (.me .append (.v 6) (.cs (.call "outcome" (.cs (.ix (.v 7) (.c (.int 2))) (.cs (.comp 2 (.call "source_value" (.cs (.v 9) (.cs (.v 3) (.cs (.v 5) .nl)))) (.one 9) (.iSeq (.ix (.v 7) (.c (.int 3)))) .nl) .nl))) .nl))))
     (.ex (.me .append (.v 4) (.cs (.bi .tuple (.cs (.comp 2 (.ix (.v 6) (.v 9)) (.one 9) (.iSeq (.ix (.v 0) (.c (.int 3)))) .nl) .nl)) .nl))))))) (gs.map aC)
    [some l.toD,some (.loc c),some (.tup (l.works.map Wk.toD)),some (.loc S.length),some (.loc (S.length+4)),x5,x6,x7] T=.ok (.nx σ') T'/\T'.take S.length=S/\T'[S.length+4]?=some (.lst (told++f_ l.works l.outs rows gs))/\σ'[4]?=some (some (.loc (S.length+4)))
 | [],rows,locs,told,T,x5,x6,x7,h,_,_,_,_,_=>⟨T,_,by
   have hcS:c < S.length:=(List.getElem?_eq_some_iff.mp hc).1
   have hT:T[c]?=some (.lst (inputs.map aC)):=by rw [<- List.getElem?_take_of_lt (j:=S.length) hcS,h.pre]; exact hc
   rw [List.map_nil,eW,gn (.inr ⟨c,rfl,hT⟩)]; rfl,h.pre,by rw [h.td]; simp [f_],rfl⟩
 | g::gs,rows,locs,told,T,x5,x6,x7,h,hr,h3,hi,hn,hn2=>by
  have hcS:c < S.length:=(List.getElem?_eq_some_iff.mp hc).1
  have hT:T[c]?=some (.lst (inputs.map aC)):=by rw [<- List.getElem?_take_of_lt (j:=S.length) hcS,h.pre]; exact hc
  have hgl:=hi.len g List.mem_cons_self
  have hgv:=hi.val g List.mem_cons_self
  have hrows1:(T++[Cell.lst []])[S.length]?=some (.lst (locs.map .loc)):=(h.more (.lst [])).rws
  have hap1:=iu (d:=.loc T.length) hrows1 (by have:=h.ra.len; unfold aM; simp at hn2 ⊢; omega)
  have hnew:=h.Bg
  rw [List.map_append] at hnew
  obtain ⟨T1,x7',e1,hA1,hV1,hL1⟩:=nR (sub:=sub) (n:=n) hv (locs:=locs) (L:=T.length) (rows:=rows) (told:=told) (given:=g) (N:=l.works.length) (streams:=l.streams) (ncrews:=l.crews.length) (A0:=l.toD) (A1:=.loc c) (A2:=.tup (l.works.map Wk.toD)) (A4:=.loc (S.length+4)) (W:=l.works.map Wk.toD) hr h3 hgl hgv
   l.works [] _ x7 hnew (fun j w hj=>by have:=hl.works j w hj; simpa using this) (by simp) (by simp; omega)
  have hfor:=fu (sub:=sub) (cf:=ak sub P (n+2)) (t:=.one 7) (it:=.iSeq (.v 2)) (σ:=[some l.toD,some (.loc c),some (.tup (l.works.map Wk.toD)),some (.loc S.length),some (.loc (S.length+4)),some (aC g),some (.loc T.length),x7]) (s:=⟨l.works.map Wk.toD,none,l.works.map Wk.toD⟩)
   (S:=List.set (T++[Cell.lst []]) S.length (Cell.lst (locs.map D.loc++[D.loc T.length]))) (cz (r_v rfl) rfl) e1
  have hrl:(aP rows g l.works []).length=l.works.length:=by rw [hL1]; simp
  have hlast:=hA1.last
  have hrise:∀ (os:List Nat) (least:Nat),cM l.works.length least os->∀ k∈os,k < l.works.length:=by
   intro os
   induction os with
   | nil=>intro _ _ k hk; simp at hk
   | cons a r ih =>
    intro least ⟨_,h2,h3⟩ k hk
    rcases List.mem_cons.mp hk with rfl|hk
    ·exact h2
    ·exact ih _ h3 k hk
  have hcomp:ev sub (ak sub P (n+2)) (.comp 2 (.ix (.v 6) (.v 9)) (.one 9) (.iSeq (.ix (.v 0) (.c (.int 3)))) .nl) [some l.toD,some (.loc c),some (.tup (l.works.map Wk.toD)),some (.loc S.length),some (.loc (S.length+4)),some (aC g),some (.loc T.length),x7'] T1 =
    .ok (.loc T1.length) (T1++[.lst (l.outs.map fun k=>.int ((aP rows g l.works []).getD k 0))]) :=
   eF (f:=aQ) (o:=none) (raw:=l.outs.map aQ) (cz (av (r_v rfl) r_c (aA rfl)) rfl) rfl (fun k hk=>by
    have hkl:=hrise l.outs 0 hl.outs k hk
    have hk':k < (aP rows g l.works []).length:=hrl ▸ hkl
    exact av (r_v rfl) (r_v rfl) (d8 hlast (by rw [fj]; simp [hk']))) (by have:=iO hl.outs (Nat.zero_le _); unfold aM; omega)
  have hA2:=hA1.more (.lst (l.outs.map fun k=>.int ((aP rows g l.works []).getD k 0)))
  have hap2:=iu (d:=outD l.outs (aP rows g l.works [])) hA2.td (by unfold aM; simp at hn; omega)
  have hA3:=hA2.tell (outD l.outs (aP rows g l.works []))
  have hgood:cR l.works.length (rows++[aP rows g l.works []]):=⟨fun r hm=>by
   rcases List.mem_append.mp hm with z|z
   ·exact hr.len r z
   ·rw [List.mem_singleton.mp z]; exact hrl,fun r hm=>by
   rcases List.mem_append.mp hm with z|z
   ·exact hr.val r z
   ·rw [List.mem_singleton.mp z]; exact hV1⟩
  obtain ⟨T',σ',e,hp,ht,hs⟩:=oi hv hc hl hlen gs (rows++[aP rows g l.works []]) (locs++[T.length]) (told++[outD l.outs (aP rows g l.works [])]) _ (some (aC g)) (some (.loc T.length)) x7' hA3 hgood (by simp; omega)
   ⟨fun r hm=>hi.len r (List.mem_cons_of_mem _ hm),fun r hm=>hi.val r (List.mem_cons_of_mem _ hm)⟩ (by simp at hn ⊢; omega) (by simp at hn2 ⊢; omega)
  refine ⟨T',σ',?_,hp,by rw [ht,List.append_assoc]; rfl,hs⟩
  exact gx (gn (.inr ⟨c,rfl,hT⟩)) (fh (ao (aK (cj ah rfl)) (ao (fV (eO (r_v rfl) (af (r_v rfl) ah) hap1 (gv hrows1))) (ao hfor (fV (eO (r_v rfl) (af (aJ (af hcomp ah) jm) ah) hap2 (gv hA1.td))))))) e
theorem iK {l:Lp} (hl:l.WF):cR l.works.length (aG l.works):=by
 have one:∀ b,b < 3->(aW l.works b).length=l.works.length/\∀ v∈aW l.works b,VR v:=fun b hb=>by
  refine ⟨by simp [aW],fun v hm=>?_⟩
  obtain ⟨w,hw,rfl⟩:=List.mem_map.mp hm
  obtain ⟨i,hi⟩:=List.getElem?_of_mem hw
  have hW:=hl.works i w hi
  have hb':b < w.starts.length:=by rw [hW.three]; exact hb
  rw [List.getD_eq_getElem?_getD,List.getElem?_eq_getElem hb']
  exact hW.starts _ (List.getElem_mem hb')
 refine ⟨fun r hr=>?_,fun r hr=>?_⟩
 ·simp [aG] at hr
  rcases hr with rfl|rfl|rfl
  ·exact (one 2 (by decide)).1
  ·exact (one 1 (by decide)).1
  ·exact (one 0 (by decide)).1
 ·simp [aG] at hr
  rcases hr with rfl|rfl|rfl
  ·exact (one 2 (by decide)).2
  ·exact (one 1 (by decide)).2
  ·exact (one 0 (by decide)).2
theorem Em (h:HB P) (hv:HV P) (hS:oE S) {l:Lp} {c:Nat} {inputs:List (List Int)} (hc:S[c]?=some (.lst (inputs.map aC))) (hl:l.WF) (hi:fB l.streams inputs) (hn:inputs.length<=40) :
  ak sub P (n+8) "answers" [l.toD,.loc c] S=.ok (.loc S.length) (S++[.lst (cU l inputs)]):=by
 have hcS:c < S.length:=(List.getElem?_eq_some_iff.mp hc).1
 have hwl:=hl.nworks
 have hst:∀ w∈l.works,w.starts.length=3:=fun w hm=>by
  obtain ⟨i,hi⟩:=List.getElem?_of_mem hm
  exact (hl.works i w hi).three
 have hsr:=u0 (sub:=sub) (n:=n+6) (S:=S) hv (works:=l.works) (by omega) hst
 have hT:(S++[Cell.lst [.loc (S.length+1),.loc (S.length+2),.loc (S.length+3)],.lst ((aW l.works 2).map .int),.lst ((aW l.works 1).map .int),.lst ((aW l.works 0).map .int),.lst []])[c]?=some (.lst (inputs.map aC)):=by
  rw [List.getElem?_append_left hcS]; exact hc
 have hci:=Eg (sub:=sub) (n:=n+2) h hv (l:=l) hT hi (by have:=hl.streams; omega) hn
 have hA:AT S (S++[Cell.lst [.loc (S.length+1),.loc (S.length+2),.loc (S.length+3)],.lst ((aW l.works 2).map .int),.lst ((aW l.works 1).map .int),.lst ((aW l.works 0).map .int),.lst []]) [S.length+1,S.length+2,S.length+3] (aG l.works) []:=by
  refine ⟨by simp,by simp,by simp,⟨rfl,fun m k r h1 h2=>?_⟩,fun k hk=>?_,by simp⟩
  ·match m,h1,h2 with
   | 0,h1,h2=>simp [aG] at h1 h2; subst h1; subst h2; simp
   | 1,h1,h2=>simp [aG] at h1 h2; subst h1; subst h2; simp
   | 2,h1,h2=>simp [aG] at h1 h2; subst h1; subst h2; simp
   | m+3,h1,h2=>simp at h1
  ·simp at hk
   rcases hk with rfl|rfl|rfl <;> omega
 obtain ⟨T',σ',e,hp,ht,hs⟩:=oi (sub:=sub) (n:=n+5) hv hc hl (by omega) inputs (aG l.works) _ [] _ none none none hA (iK hl) (by simp [aG]) hi (by simp; omega) (by simp [aG]; omega)
 have hsrc:=iB hT
 have hfor:=fu (sub:=sub) (cf:=ak sub P (n+7)) (t:=.one 5) (it:=.iSeq (.call "checked_inputs" (.cs (.v 0) (.cs (.v 1) .nl)))) (σ:=[some l.toD,some (.loc c),some (.tup (l.works.map Wk.toD)),some (.loc S.length),some (.loc (S.length+4)),none,none,none]) (s:=⟨inputs.map aC,some c,inputs.map aC⟩)
  (S:=S++[Cell.lst [.loc (S.length+1),.loc (S.length+2),.loc (S.length+3)],.lst ((aW l.works 2).map .int),.lst ((aW l.works 1).map .int),.lst ((aW l.works 0).map .int),.lst []]) (cz (aH (af (r_v rfl) (af (r_v rfl) ah)) hci) hsrc) e
 have hvar:∀ T,bf σ' 4 T=.ok (.loc (S.length+4)) T:=fun T=>by rw [rY,hs]
 have h4:=fun σ:Sg=>aK (sub:=sub) (cf:=ak sub P (n+7)) (σ:=σ) (i:=4) (cj (S:=S++[Cell.lst [.loc (S.length+1),.loc (S.length+2),.loc (S.length+3)],.lst ((aW l.works 2).map .int),.lst ((aW l.works 1).map .int),.lst ((aW l.works 0).map .int)]) ah rfl)
 rw [List.append_assoc,List.length_append] at h4
 have hlv:=vn hp ht (jD l.works l.outs inputs _)
 exact x_call (ds:=[l.toD,.loc c]) hv.answers rfl (ao (aK (av (aH (af (r_v rfl) ah) (AG h hl)) r_c (aA rfl))) (ao (aK (aH (af (r_v rfl) ah) hsr)) (ao (h4 _) (ao hfor (aF (r_v (hvar _))))))) hlv
noncomputable def bu (works:List Wk):List (List Int)->List (List Int)->List (List Int)
 | _,[]=>[]
 | rows,g::gs=>aP rows g works []::bu works (rows++[aP rows g works []]) gs
theorem lY (works:List Wk) (outs:List Nat):∀ (gs rows:List (List Int)),f_ works outs rows gs=(bu works rows gs).map (outD outs)
 | [],_=>rfl
 | g::gs,rows=>by show _::_=_::_; rw [lY works outs gs]
theorem ni (works:List Wk):∀ (gs rows:List (List Int)),(bu works rows gs).length=gs.length
 | [],_=>rfl
 | g::gs,rows=>congrArg (· + 1) (ni works gs _)
theorem rK (works:List Wk):∀ (gs hs rows:List (List Int)),bu works rows (gs++hs)=bu works rows gs++bu works (rows++bu works rows gs) hs
 | [],hs,rows=>by simp [bu]
 | g::gs,hs,rows=>by
  show _::bu works _ (gs++hs)=_
  rw [rK works gs hs]
  simp [bu,List.append_assoc]
theorem oz (works:List Wk):∀ (gs rows:List (List Int)) (m:Nat),bu works rows (gs.take m)=(bu works rows gs).take m
 | _,_,0=>by simp [bu]
 | [],_,m+1=>rfl
 | g::gs,rows,m+1=>by
  show _::bu works _ (gs.take m)=_::_
  rw [oz works gs]
noncomputable def yc:List Wk->List Wk->Prop
 | [],[]=>True
 | w::ws,v::vs=>w.doing=v.doing/\w.srcs=v.srcs/\yc ws vs
 | _,_=>False
theorem lC {N streams ncrews:Nat} {rows:List (List Int)} {given:List Int} (hr:cR N rows) (h3:3<=rows.length) (hg:given.length=streams) (hgv:∀ v∈given,VR v):∀ (ws:List Wk) (row:List Int),(∀ (j:Nat) w,ws[j]?=some w->w.WF (row.length+j) N streams ncrews)->(∀ v∈row,VR v)->(aP rows given ws row).length=row.length+ws.length/\∀ v∈aP rows given ws row,VR v
 | [],row,_,h=>⟨rfl,h⟩
 | w::ws,row,hw,hrow=>by
  have hw0:w.WF row.length N streams ncrews:=hw 0 w rfl
  have hsv:=k7 hw0 hr h3 hrow hg hgv
  have hne:w.srcs.map (aN (rows++[row]) given)≠[]:=by
   intro e
   have:=hw0.some.1
   rw [List.map_eq_nil_iff] at e
   rw [e] at this; simp at this
  have hall:∀ v∈w.srcs.map (aN (rows++[row]) given),VR v:=fun v hm=>by
   obtain ⟨s,hs,rfl⟩:=List.mem_map.mp hm
   exact (hsv s hs).2
  obtain ⟨h1,h2⟩:=lC hr h3 hg hgv ws (row++[bI w.doing (w.srcs.map (aN (rows++[row]) given))])
   (fun j u hj=>by
    have:=hw (j+1) u (by simpa using hj)
    rw [show row.length+(j+1)=(row++[bI w.doing (w.srcs.map (aN (rows++[row]) given))]).length+j by simp; omega] at this
    exact this)
   (fun v hm=>by
    rcases List.mem_append.mp hm with z|z
    ·exact hrow v z
    ·rw [List.mem_singleton.mp z]; exact sM hne hall)
  refine ⟨?_,h2⟩
  show (aP rows given ws _).length=_
  rw [h1]; simp; omega
theorem oh {l:Lp} (hl:l.WF):∀ (gs rows:List (List Int)),cR l.works.length rows->3<=rows.length->fB l.streams gs->cR l.works.length (bu l.works rows gs)
 | [],_,_,_,_=>⟨fun r h=>by simp [bu] at h,fun r h=>by simp [bu] at h⟩
 | g::gs,rows,hr,h3,hi=>by
  have h:=lC (ncrews:=l.crews.length) hr h3 (hi.len g List.mem_cons_self) (hi.val g List.mem_cons_self) l.works [] (fun j w hj=>by have:=hl.works j w hj; simpa using this) (by simp)
  have hlen:(aP rows g l.works []).length=l.works.length:=by rw [h.1]; simp
  have ih:=oh hl gs (rows++[aP rows g l.works []]) ⟨fun r hm=>by
   rcases List.mem_append.mp hm with z|z
   ·exact hr.len r z
   ·rw [List.mem_singleton.mp z]; exact hlen,fun r hm=>by
   rcases List.mem_append.mp hm with z|z
   ·exact hr.val r z
   ·rw [List.mem_singleton.mp z]; exact h.2⟩ (by simp; omega) ⟨fun r hm=>hi.len r (List.mem_cons_of_mem _ hm),fun r hm=>hi.val r (List.mem_cons_of_mem _ hm)⟩
  exact ⟨fun r hm=>by
   rcases List.mem_cons.mp hm with rfl|hm
   ·exact hlen
   ·exact ih.len r hm,fun r hm=>by
   rcases List.mem_cons.mp hm with rfl|hm
   ·exact h.2
   ·exact ih.val r hm⟩
end RL

namespace RL
open PySem EV GO
theorem gh {xs:List D} {k:Nat} {d:D} (h:xs[k]?=some d):atI xs (k:Int)=some d:=by rw [fj]; exact h
theorem nX (k:List Int):∀ kvs:List (List Int × D),(kvs.any fun kv=>decide (kv.1=k))=(aU kvs k).isSome
 | []=>rfl
 | p::r=>by
  have ih:=nX k r
  unfold aU at ih ⊢
  rw [List.any_cons,List.find?_cons,ih]
  cases decide (p.1=k) <;> rfl
theorem rE (k j:List Int) (d:D):∀ kvs:List (List Int × D),aU (kvs.map fun kv=>if kv.1=k then (kv.1,d) else kv) j=(aU kvs j).map fun e=>if j=k then d else e
 | []=>rfl
 | p::r=>by
  have ih:=rE k j d r
  unfold aU at ih ⊢
  rw [List.map_cons,List.find?_cons,List.find?_cons]
  have e1:(if p.1=k then (p.1,d) else p).1=p.1:=by split <;> rfl
  rw [e1]
  by_cases h:p.1=j
  ·rw [decide_eq_true h]
   by_cases hk:p.1=k
   ·rw [if_pos hk]
    show some d=some (if j=k then d else p.2)
    rw [if_pos (h.symm.trans hk)]
   ·rw [if_neg hk]
    show some p.2=some (if j=k then d else p.2)
    rw [if_neg fun e=>hk (h.trans e)]
  ·rw [decide_eq_false h]
   exact ih
theorem nF (k j:List Int) (d:D):∀ kvs:List (List Int × D),aU kvs k=none->aU (kvs++[(k,d)]) j=if j=k then some d else aU kvs j
 | [],_=>by
  unfold aU
  rw [List.nil_append,List.find?_cons]
  by_cases h:k=j
  ·rw [decide_eq_true (show (k,d).1=j from h),if_pos h.symm]; rfl
  ·rw [decide_eq_false (show ¬ (k,d).1=j from h),if_neg (Ne.symm h)]
 | p::r,hn=>by
  have hn':aU r k=none:=by
   unfold aU at hn ⊢
   rw [List.find?_cons] at hn
   cases q:decide (p.1=k) with
   | true=>rw [q] at hn; cases hn
   | false=>rw [q] at hn; exact hn
  have ih:=nF k j d r hn'
  have hpk:¬ p.1=k:=fun e=>by
   unfold aU at hn
   rw [List.find?_cons,decide_eq_true e] at hn; cases hn
  unfold aU at ih ⊢
  rw [List.cons_append,List.find?_cons,List.find?_cons]
  by_cases h:p.1=j
  ·rw [decide_eq_true h,if_neg fun e=>hpk (h.trans e)]
  ·rw [decide_eq_false h]; exact ih
theorem CS (kvs:List (List Int × D)) (k j:List Int) (d:D):aU (bX kvs k d) j=if j=k then some d else aU kvs j:=by
 unfold bX
 rw [nX]
 by_cases h:(aU kvs k).isSome=true
 ·rw [if_pos h,rE]
  by_cases e:j=k
  ·subst e
   obtain ⟨x,hx⟩:=Option.isSome_iff_exists.mp h
   rw [hx,if_pos rfl]; simp
  ·rw [if_neg e]
   cases aU kvs j with
   | none=>rfl
   | some x=>show some (if j=k then d else x)=_; rw [if_neg e]
 ·rw [if_neg h]
  have hn:aU kvs k=none:=by
   cases q:aU kvs k with
   | none=>rfl
   | some x=>rw [q] at h; exact absurd rfl h
  exact nF k j d kvs hn
theorem xg (kvs:List (List Int × D)) (k:List Int) (d:D):(bX kvs k d).length<=kvs.length+1:=by
 unfold bX
 split
 ·rw [List.length_map]; omega
 ·simp
section
variable {sub:Sub} {cf:Str->List D->M D} {σ:Sg} {S S1 S2 S3:aa} {d x:D} {ds:List D}
theorem xH:ev sub cf .dnew σ S=.ok (.loc S.length) (S++[.dct []]):=id rfl
theorem oX {a es:E} {l:Nat} {k:List Int} {kvs:List (List Int × D)} (ha:ev sub cf a σ S=.ok (.loc l) S1) (hs:evs sub cf es σ S1=.ok ds S2) (hk:allInts ds=some k) (hd:S2[l]?=some (.dct kvs)) (hg:aU kvs k=some d) (hz:fits ds.length=true) :
  ev sub cf (.dget a es) σ S=.ok d S2:=by
 show (ev sub cf a σ>>=fun x=>evs sub cf es σ>>=fun ds=>guard (fits ds.length) (mC x ds)) S=_
 rw [ay,ha,Res.aj,ay,hs,Res.aj,eN,if_pos hz]
 show (opt (allInts ds)>>=fun k=>dM l fun kvs=>opt (aU kvs k)) S2=_
 rw [hk,ay,cV,Res.aj]
 show (match S2[l]? with|some (.dct kvs)=>opt (aU kvs k) S2|_=>.bad)=_
 rw [hd]
 show opt (aU kvs k) S2=_
 rw [hg,cV]
theorem uW {o es e:E} {l:Nat} {k:List Int} {kvs:List (List Int × D)} (he:ev sub cf e σ S=.ok d S1) (ho:ev sub cf o σ S1=.ok (.loc l) S2) (hs:evs sub cf es σ S2=.ok ds S3) (hk:allInts ds=some k) (hd:S3[l]?=some (.dct kvs)) (hz:fits ds.length=true) (hz2:dP kvs.length=true) :
  exec sub cf (.dset o es e) σ S=.ok (.nx σ) (S3.set l (.dct (bX kvs k d))):=by
 show (ev sub cf e σ>>=fun d=>ev sub cf o σ>>=fun a=>evs sub cf es σ>>=fun ks=>guard (fits ks.length) (ja a ks d)>>=fun _=>(pure (Fl.nx σ):M Fl)) S=_
 rw [ay,he,Res.aj,ay,ho,Res.aj,ay,hs,Res.aj,ay,eN,if_pos hz]
 have e1:ja (.loc l) ds d S3=.ok .non (S3.set l (.dct (bX kvs k d))):=by
  show (opt (allInts ds)>>=fun k=>dM l fun kvs=>guard (dP kvs.length) (put l (.dct (bX kvs k d)))) S3=_
  rw [hk,ay,cV,Res.aj]
  show (match S3[l]? with|some (.dct kvs)=>guard (dP kvs.length) (put l (.dct (bX kvs k d))) S3|_=>.bad)=_
  rw [hd]
  show guard (dP kvs.length) (put l (.dct (bX kvs k d))) S3=_
  rw [eN,if_pos hz2]; rfl
 rw [e1]; rfl
theorem pH {α:Type} {s:Src} {fn:D->M (Option D)} {f g:α->D} (hs:∀ G,aI s (S++G)=.ok () (S++G)):∀ {ks:List α},(∀ a∈ks,∀ G,∃ G',fn (f a) (S++G)=.ok (some (g a)) (S++G'))->∀ G,∃ G',bw s fn (ks.map f) (S++G)=.ok (ks.map g) (S++G')
 | [],_,G=>⟨G,by rw [List.map_nil,kR,hs]; rfl⟩
 | a::r,h,G=>by
  obtain ⟨G1,e1⟩:=h a List.mem_cons_self G
  obtain ⟨G2,e2⟩:=pH hs (ks:=r) (fun b hb=>h b (List.mem_cons_of_mem _ hb)) G1
  refine ⟨G2,?_⟩
  rw [List.map_cons,lD,hs,Res.aj,e1,Res.aj,e2,Res.aj]; rfl
theorem xK {k i:Nat} {el it:E} {α:Type} {ks:List α} {f g:α->D} {o:Option Nat} {raw:List D} (hi:evI sub cf it σ S=.ok ⟨ks.map f,o,raw⟩ S1) (hs:∀ G,aI ⟨ks.map f,o,raw⟩ (S1++G)=.ok () (S1++G))
  (hg:∀ a∈ks,∀ G,∃ G',ev sub cf el ((σ++List.replicate k none).set i (some (f a))) (S1++G)=.ok (g a) (S1++G')) (hz:ks.length<=aM) :
  ∃ G',ev sub cf (.comp k el (.one i) it .nl) σ S=.ok (.loc (S1++G').length) ((S1++G')++[.lst (ks.map g)]):=by
 obtain ⟨G',e⟩:=pH (S:=S1) (s:=⟨ks.map f,o,raw⟩) (f:=f) (g:=g) (fn:=fun d=>aO (.one i) d (σ++List.replicate k none)>>=fun σ'=>(if E.bh .nl=true then pure true else evT sub cf .nl σ')>>=fun b=>if b=true then ev sub cf el σ'>>=fun y=>pure (some y) else pure none) hs (ks:=ks) (fun a ha G=>by
  obtain ⟨G',e⟩:=hg a ha G
  refine ⟨G',?_⟩
  have e0:E.bh .nl=true:=rfl
  simp only [ay,iz,Res.aj,e0,if_true,rN,e]) []
 refine ⟨G',?_⟩
 rw [iy,hi]
 simp only [Res.aj]
 rw [List.append_nil] at e
 rw [ia e]
 simp only [Res.aj]
 rw [if_pos (show fits (ks.map g).length=true from decide_eq_true (by rw [List.length_map]; exact hz))]
end
noncomputable def jg:Fn:=⟨2,4,(.seq (.ite (.cmp .eq (.v 0) (.c (.str "plus")))
  (.ret (.bin .mod (.bi .sum (.cs (.v 1) .nl)) (.c (.int 9973))))
  .skip)
 (.seq (.ite (.cmp .eq (.v 0) (.c (.str "less")))
  (.ret (.bin .mod (.bin .sub (.ix (.v 1) (.c (.int 0))) (.bi .sum (.cs (.sl (.v 1) (.c (.int 1)) .nl) .nl))) (.c (.int 9973))))
  .skip)
 (.seq (.ite (.cmp .eq (.v 0) (.c (.str "times")))
  (.seq (.set (.one 2) (.c (.int 1)))
 (.seq (.forS (.one 3) (.iSeq (.v 1))
  (.set (.one 2) (.bin .mul (.v 2) (.v 3))))
 (.ret (.bin .mod (.v 2) (.c (.int 9973))))))
  .skip)
 (.ret (.ix (.bi .sorted (.cs (.v 1) .nl)) (.ix (.lst (.cs (.c (.int 0)) (.cs (.neg (.c (.int 1))) .nl))) (.bi .int (.cs (.cmp .eq (.v 0) (.c (.str "greatest"))) .nl))))))))⟩
theorem sI (v:Int):∀ (xs:List Int) (a:Int),eZ a (xs++[v])=eZ a xs * v
 | [],_=>rfl
 | x::r,a=>sI v r (a * x)
section
variable {sub:Sub} {P:Prg} {n:Nat} {S:aa}
theorem DQ {T:aa} {c:Nat} {is:List Int} (hc:T[c]?=some (.lst (is.map .int))) (h1:is.length < 64):biD sub .sorted [.loc c] T=.ok (.loc T.length) (T++[.lst ((cg is).map .int)]):=by
 have ai:allInts (is.map .int)=some is:=by
  clear hc h1
  induction is with
  | nil=>rfl
  | cons a r ih=>show (allInts (r.map .int)).map (a :: ·)=_; rw [ih]; rfl
 show (items (.loc c)>>=fun ds=>jo ds) T=_
 rw [ay,cE hc,Res.aj]
 show nq (l8 (tups (is.map .int))) (allInts (is.map .int)) T=_
 rw [ai]
 show guard (decide (is.length < 64)) (alloc (.lst ((cg is).map .int))) T=_
 rw [decide_eq_true h1]; rfl
theorem mX {v:Int} {r:List Int}:cg (v::r)≠[]:=fun e=>by
 have:=(gm (v::r)).length_eq
 rw [e] at this; cases this
theorem A8 {v:Int} {r:List Int}:atI ((cg (v::r)).map .int) 0=some (.int (r.foldl min v)):=by
 obtain ⟨a,q,e⟩:=List.exists_cons_of_ne_nil (mX (v:=v) (r:=r))
 have hp:=gm (v::r)
 have hs:=jh (v::r)
 rw [e] at hp hs
 have hm:a∈v::r:=hp.mem_iff.mp List.mem_cons_self
 rw [<- qo (is:=v::r) rfl hm fun b hb=>by
  rcases List.mem_cons.mp (hp.mem_iff.mpr hb) with rfl|z
  ·exact Int.le_refl _
  ·exact (List.pairwise_cons.mp hs).1 b z]
 rw [e]
 exact gh (k:=0) rfl
theorem vd {v:Int} {r:List Int}:atI ((cg (v::r)).map .int) (-1)=some (.int (r.foldl max v)):=by
 have hne:=mX (v:=v) (r:=r)
 have hp:=gm (v::r)
 have hs:=jh (v::r)
 obtain ⟨q,a,e⟩:∃ q a,cg (v::r)=q++[a]:=⟨_,_,(List.dropLast_concat_getLast hne).symm⟩
 rw [e] at hp hs
 have hm:a∈v::r:=hp.mem_iff.mp (by simp)
 rw [<- nT (is:=v::r) rfl hm fun b hb=>by
  rcases List.mem_append.mp (hp.mem_iff.mpr hb) with z|z
  ·exact (List.pairwise_append.mp hs).2.2 b z a (by simp)
  ·rw [List.mem_singleton.mp z]; exact Int.le_refl _]
 rw [e]
 have:=qL ((q++[a]).map D.int) 0 (by simp)
 rw [show (-1 - ((0:Nat):Int))=-1 from rfl] at this
 rw [this]; simp
theorem Bc (hd:Has P "_law_done" jg) {c:Nat} {vs:List Int} {doing:Str} (hc:S[c]?=some (.lst (vs.map .int))) (hne:vs≠[]) (h64:vs.length < 64) (hs:∀ v∈vs,small v=true) (hw:doing∈cD):ak sub P (n+1) "_law_done" [.str doing,.loc c] S=.ok (.int (bI doing vs)) S:=by
 obtain ⟨v,r,rfl⟩:=List.exists_cons_of_ne_nil hne
 have word:∀ (y:Str) {k:Bool},(doing==y)=k->evT sub (ak sub P n) (.cmp .eq (.v 0) (.c (.str y))) [some (.str doing),some (.loc c),none,none] S=.ok k S:=fun y k e=>e ▸ aX (aY (r_v rfl) r_c (fz _ _ _))
 have no:∀ {y:Str},¬ doing=y->(doing==y)=false:=fun h=>beq_false_of_ne h
 have yes:∀ {y:Str},doing=y->(doing==y)=true:=fun h=>beq_iff_eq.mpr h
 unfold bI
 by_cases h1:doing = "plus"
 ·rw [if_pos h1]
  exact x_call hd rfl (bF (bC (word "plus" (yes h1)) (aF (a_ (aJ (af (r_v rfl) ah) (jk hc)) r_c (dY (by decide)))))) (b5 _ _)
 rw [if_neg h1]
 by_cases h2:doing = "less"
 ·rw [if_pos h2]
  have hcut:slD (.loc c) (some 1) none S=.ok (.loc S.length) (S++[.lst (r.map .int)]):=by
   show (items (.loc c)>>=fun xs=>alloc (.lst (cut xs (some 1) none))) S=_
   rw [ay,cE hc,Res.aj,sj]; rfl
  exact x_call hd rfl (ao (aE (word "plus" (no h1)) aD) (bF (bC (word "less" (yes h2)) (aF (a_ (a_ (av (r_v rfl) r_c (d8 hc (gh (k:=0) rfl))) (aJ (af (nE (r_v rfl) (rD _) o_ hcut) ah) (jk (bP _ _))) (cu _ _ _)) r_c (dY (by decide))))))) (ji _ _ _)
 rw [if_neg h2]
 by_cases h3:doing = "times"
 ·rw [if_pos h3]
  obtain ⟨σ',T',e,x3,rfl,rfl⟩:=gG (sub:=sub) (cf:=ak sub P n) (t:=.one 3) (it:=.iSeq (.v 1)) (b:=.set (.one 2) (.bin .mul (.v 2) (.v 3))) (σ:=[some (.str doing),some (.loc c),some (.int 1),none]) (S:=S) (S1:=S) (s:=⟨(v::r).map .int,some c,(v::r).map .int⟩)
   (fun i σ T=>∃ x3,σ=[some (.str doing),some (.loc c),some (.int (eZ 1 ((v::r).take i))),x3]/\T=S)
   (cz (r_v rfl) (iB hc)) ⟨none,rfl,rfl⟩ (fun i σ T h=>by obtain ⟨_,_,rfl⟩:=h; exact gn (.inr ⟨c,rfl,hc⟩)) (fun i hi σ T ⟨x3,hσ,hT⟩=>by
    subst hσ; subst hT
    have hi':i < (v::r).length:=by simpa using hi
    have hit:((v::r).map D.int)[i]'hi=.int (v::r)[i]:=List.getElem_map _
    show ∃ σ' T',bO sub (ak sub P n) _ _ (((v::r).map D.int)[i]'hi) _ _=_/\_
    rw [hit]
    have hsm:=hs (v::r)[i] (List.getElem_mem hi')
    refine ⟨_,_,fh (aK (a_ (r_v rfl) (r_v rfl) (l5 (by rw [hsm,Bool.or_true])))),some (.int (v::r)[i]),?_,rfl⟩
    rw [List.take_succ_eq_append_getElem hi',sI]; rfl)
  rw [List.length_map,List.take_length] at e
  exact x_call hd rfl (ao (aE (word "plus" (no h1)) aD) (ao (aE (word "less" (no h2)) aD) (bF (bC (word "times" (yes h3)) (ao (aK r_c) (ao e (aF (a_ (r_v rfl) r_c (dY (by decide)))))))))) (b5 _ _)
 rw [if_neg h3]
 have hsort:=DQ (sub:=sub) hc h64
 have fin:∀ (k:Bool) (i:Int) (x:Int),(doing==("greatest" : Str))=k->atI [D.int 0,D.int (-1)] (i2b k)=some (.int i)->atI ((cg (v::r)).map .int) i=some (.int x)->ak sub P (n+1) "_law_done" [.str doing,.loc c] S=.ok (.int x) S:=fun k i x hk hi hx=>by
  refine x_call hd rfl (ao (aE (word "plus" (no h1)) aD) (ao (aE (word "less" (no h2)) aD) (ao (aE (word "times" (no h3)) aD) (aF (av (aJ (af (r_v rfl) ah) hsort) (av (cj (af r_c (af (gz r_c) ah)) rfl) (aJ (af (aY (r_v rfl) r_c (by rw [fz,hk])) ah) rfl) (rC hi)) (d8 ((List.getElem?_append_left (by simp)).trans (bP _ _)) hx)))))) (cQ rfl ?_)
  rw [List.append_assoc,fJ]
 by_cases h4:doing = "least"
 ·rw [if_pos h4]
  exact fin false 0 _ (by rw [h4]; decide) rfl A8
 ·rw [if_neg h4]
  have h5:doing = "greatest":=by
   have:doing = "plus"\/doing = "less"\/doing = "times"\/doing = "least"\/doing = "greatest":=by simpa [cD] using hw
   rcases this with z|z|z|z|z
   ·exact absurd z h1
   ·exact absurd z h2
   ·exact absurd z h3
   ·exact absurd z h4
   ·exact z
  exact fin true (-1) _ (by rw [h5]; decide) rfl vd
end
end RL

namespace RL
open PySem EV GO
noncomputable def iM:Fn:=⟨5,6,(.seq (.ite (.cmp .eq (.ix (.v 4) (.c (.int 0))) (.c (.str "value")))
  (.ret (.ix (.v 4) (.c (.int 1))))
  .skip)
 (.seq (.ite (.cmp .eq (.ix (.v 4) (.c (.int 0))) (.c (.str "input")))
  (.ret (.ix (.ix (.v 3) (.v 2)) (.ix (.v 4) (.c (.int 1)))))
  .skip)
 (.seq (.set (.one 5) (.bin .sub (.v 2) (.ix (.v 4) (.c (.int 2)))))
 (.seq (.ite (.cmp .lt (.v 5) (.c (.int 0)))
  (.ret (.ix (.ix (.ix (.ix (.v 0) (.c (.int 2))) (.ix (.v 4) (.c (.int 1)))) (.c (.int 4))) (.bin .sub (.neg (.c (.int 1))) (.v 5))))
  .skip)
 (.ret (.dget (.v 1) (.cs (.ix (.v 4) (.c (.int 1))) (.cs (.v 5) .nl))))))))⟩
noncomputable def mQ:Fn:=⟨2,7,(.seq (.set (.one 2) .dnew)
 (.seq (.forS (.one 3) (.iRng (.cs (.bi .len (.cs (.v 1) .nl)) .nl))
  (.forS (.many [4,5]) (.iEnum (.ix (.v 0) (.c (.int 2))))
  (.seq (.set (.one 6) (.comp 2 (.call "_law_value" (.cs (.v 0) (.cs (.v 2) (.cs (.v 3) (.cs (.v 1) (.cs (.v 8) .nl)))))) (.one 8) (.iSeq (.ix (.v 5) (.c (.int 3)))) .nl))
 (.dset (.v 2) (.cs (.v 4) (.cs (.v 3) .nl)) (.call "_law_done" (.cs (.ix (.v 5) (.c (.int 2))) (.cs (.v 6) .nl)))))))
 (.ret (.comp 2 (.bi .tuple (.cs (.comp 2 (.dget (.v 2) (.cs (.v 10) (.cs (.v 8) .nl))) (.one 10) (.iSeq (.ix (.v 0) (.c (.int 3)))) .nl) .nl)) (.one 8) (.iRng (.cs (.bi .len (.cs (.v 1) .nl)) .nl)) .nl))))⟩
noncomputable def Kn (kvs:List (List Int × D)) (rs:List (List Int)):Prop:=∀ (m w:Nat) r,rs[m]?=some r->w < r.length->aU kvs [(w:Int),(m:Int)]=some (.int (r.getD w 0))
theorem Kn.round {kvs:List (List Int × D)} {A:List (List Int)} (h:Kn kvs A):Kn kvs (A++[[]]):=fun m w r e hw=>by
 by_cases hm:m < A.length
 ·rw [List.getElem?_append_left hm] at e; exact h m w r e hw
 ·rw [List.getElem?_append_right (by omega)] at e
  have:r=[]:=by
   cases q:m - A.length with
   | zero=>rw [q] at e; exact (Option.some.inj e).symm
   | succ j=>rw [q] at e; simp at e
  rw [this] at hw; exact absurd hw (Nat.not_lt_zero _)
theorem Kn.put {kvs:List (List Int × D)} {A:List (List Int)} {row:List Int} (h:Kn kvs (A++[row])) (v:Int):Kn (bX kvs [(row.length:Int),(A.length:Int)] (.int v)) (A++[row++[v]]):=fun m w r e hw=>by
 rw [CS]
 by_cases hm:m < A.length
 ·rw [List.getElem?_append_left hm] at e
  rw [if_neg fun z=>by
   have:=(List.cons.inj (List.cons.inj z).2).1
   omega]
  exact h m w r (by rw [List.getElem?_append_left hm]; exact e) hw
 ·rw [List.getElem?_append_right (by omega)] at e
  cases q:m - A.length with
  | succ j=>rw [q] at e; simp at e
  | zero =>
   rw [q] at e
   have er:r=row++[v]:=(Option.some.inj e).symm
   have em:m=A.length:=by omega
   subst er; subst em
   by_cases hl:w=row.length
   ·subst hl
    rw [if_pos rfl]; simp
   ·have hw':w < row.length:=by simp at hw; omega
    rw [if_neg fun z=>by
     have:=(List.cons.inj z).1
     omega]
    rw [h A.length w row (bP _ _) hw']
    congr 2
    rw [List.getD_eq_getElem?_getD,List.getD_eq_getElem?_getD,List.getElem?_append_left hw']
theorem Di {works:List Wk} {A:List (List Int)} {row given:List Int} {w b:Nat} (hb:b<=3) (hw:w < works.length) (h:A.length < b):aN (aG works++A++[row]) given (.wrk w b)=(works.getD w ⟨0,0,"",[],[]⟩).starts.getD (b - A.length - 1) 0:=by
 show ((aG works++A++[row]).getD ((aG works++A++[row]).length - 1 - b) []).getD w 0=_
 have hlen:(aG works++A++[row]).length=A.length+4:=by simp [aG]
 rw [hlen,List.append_assoc,List.getD_eq_getElem?_getD (l:=aG works++(A++[row])),List.getElem?_append_left (by show _ < 3; omega)]
 have one:∀ j,j < 3->(aG works)[j]?=some (aW works (2 - j)):=fun j hj=>by
  match j,hj with
  | 0,_=>rfl
  | 1,_=>rfl
  | 2,_=>rfl
 rw [one _ (by omega)]
 show (aW works (2 - (A.length+4 - 1 - b))).getD w 0=_
 rw [show 2 - (A.length+4 - 1 - b)=b - A.length - 1 by omega]
 unfold aW
 rw [List.getD_eq_getElem?_getD,List.getElem?_map,List.getElem?_eq_getElem hw,List.getD_eq_getElem?_getD (l:=works),List.getElem?_eq_getElem hw]; rfl
theorem xj {works:List Wk} {A:List (List Int)} {row given r:List Int} {w b:Nat} (h:b<=A.length) (hr:(A++[row])[A.length - b]?=some r):aN (aG works++A++[row]) given (.wrk w b)=r.getD w 0:=by
 show ((aG works++A++[row]).getD ((aG works++A++[row]).length - 1 - b) []).getD w 0=_
 have hlen:(aG works++A++[row]).length=A.length+4:=by simp [aG]
 rw [hlen,List.append_assoc,List.getD_eq_getElem?_getD (l:=aG works++(A++[row])),List.getElem?_append_right (by show 3<=_; omega)]
 rw [show A.length+4 - 1 - b - (aG works).length=A.length - b by show _ - 3=_; omega,hr]; rfl
section
variable {sub:Sub} {P:Prg} {n:Nat} {S:aa}
theorem CH (hv:Has P "_law_value" iM) {l:Lp} {K c own:Nat} {kvs:List (List Int × D)} {A inputs:List (List Int)} {row given:List Int} {s:Srs} (hK:S[K]?=some (.dct kvs)) (hc:S[c]?=some (.lst (inputs.map aC))) (hkn:Kn kvs (A++[row]))
  (hg:inputs[A.length]?=some given) (hgl:given.length=l.streams) (hA:∀ r∈A,r.length=l.works.length) (hst:∀ w∈l.works,w.starts.length=3) (hrow:row.length=own) (how:own<=l.works.length) (hs:s.WF own l.works.length l.streams) :
  ak sub P (n+1) "_law_value" [l.toD,.loc K,.int (A.length:Int),.loc c,s.toD] S=.ok (.int (aN (aG l.works++A++[row]) given s)) S:=by
 cases s with
 | val v=>exact x_call hv rfl (bF (bC (aX (aY (av (r_v rfl) r_c (aA rfl)) r_c rfl)) (aF (av (r_v rfl) r_c (aA rfl))))) (b5 _ _)
 | inp k =>
  have hk:k < l.streams:=hs
  have h1:atI (inputs.map aC) (A.length:Int)=some (aC given):=gh (by rw [List.getElem?_map,hg]; rfl)
  have h2:atI (given.map D.int) (k:Int)=some (.int (given.getD k 0)):=gh (by rw [List.getElem?_map,List.getD_eq_getElem?_getD,List.getElem?_eq_getElem (by omega)]; rfl)
  exact x_call hv rfl (ao (aE (aX (aY (av (r_v rfl) r_c (aA rfl)) r_c rfl)) aD) (bF (bC (aX (aY (av (r_v rfl) r_c (aA rfl)) r_c rfl)) (aF (av (av (r_v rfl) (r_v rfl) (d8 hc h1)) (av (r_v rfl) r_c (aA rfl)) (aA h2)))))) (b5 _ _)
 | wrk w b =>
  obtain ⟨hb,hw⟩:=(show b<=3/\w < (if b=0 then own else l.works.length) from hs)
  have hw':w < l.works.length:=by split at hw <;> omega
  by_cases h:A.length < b
  ·rw [Di hb hw' h]
   have hst':(l.works.getD w ⟨0,0,"",[],[]⟩).starts.length=3:=by
    rw [List.getD_eq_getElem?_getD,List.getElem?_eq_getElem hw']
    exact hst _ (List.getElem_mem hw')
   have h1:atI (l.works.map Wk.toD) (w:Int)=some (l.works.getD w ⟨0,0,"",[],[]⟩).toD:=gh (by rw [List.getElem?_map,List.getD_eq_getElem?_getD,List.getElem?_eq_getElem hw']; rfl)
   have h2:∀ st:List Int,st.length=3->atI (st.map D.int) (-1 - ((A.length:Int) - (b:Int)))=some (.int (st.getD (b - A.length - 1) 0)):=fun st hst=>by
    rw [show (-1 - ((A.length:Int) - (b:Int)))=((b - A.length - 1:Nat):Int) by omega]
    exact gh (by rw [List.getElem?_map,List.getD_eq_getElem?_getD,List.getElem?_eq_getElem (by omega)]; rfl)
   have h2:=h2 _ hst'
   exact x_call hv rfl (ao (aE (aX (aY (av (r_v rfl) r_c (aA rfl)) r_c rfl)) aD) (ao (aE (aX (aY (av (r_v rfl) r_c (aA rfl)) r_c rfl)) aD) (ao (aK (a_ (r_v rfl) (av (r_v rfl) r_c (aA rfl)) (cu _ _ _)))
    (bF (bC (t_k (aX (aY (r_v rfl) r_c (jq _ _ _))) (decide_eq_true (by omega))) (aF (av (av (av (av (r_v rfl) r_c (aA rfl)) (av (r_v rfl) r_c (aA rfl)) (aA h1)) r_c (aA rfl)) (a_ (gz r_c) (r_v rfl) (cu _ _ _)) (aA h2)))))))) (b5 _ _)
  ·have hle:b<=A.length:=by omega
   obtain ⟨r,hr,hwr⟩:∃ r,(A++[row])[A.length - b]?=some r/\w < r.length:=by
    by_cases h0:b=0
    ·subst h0
     rw [if_pos rfl] at hw
     exact ⟨row,by rw [Nat.sub_zero]; exact bP _ _,by omega⟩
    ·have hlt:A.length - b < A.length:=by omega
     exact ⟨A[A.length - b],by rw [List.getElem?_append_left hlt,List.getElem?_eq_getElem hlt],by rw [hA _ (List.getElem_mem hlt)]; exact hw'⟩
   rw [xj hle hr]
   have hget:=hkn _ w r hr hwr
   have e5:((A.length:Int) - (b:Int))=((A.length - b:Nat):Int):=by omega
   have hsub:opD .sub (.int (A.length:Int)) (.int (b:Int)) S=.ok (.int ((A.length - b:Nat):Int)) S:=by rw [<- e5]; exact cu _ _ _
   exact x_call hv rfl (ao (aE (aX (aY (av (r_v rfl) r_c (aA rfl)) r_c rfl)) aD) (ao (aE (aX (aY (av (r_v rfl) r_c (aA rfl)) r_c rfl)) aD) (ao (aK (a_ (r_v rfl) (av (r_v rfl) r_c (aA rfl)) hsub))
    (ao (aE (t_k (aX (aY (r_v rfl) r_c (jq _ _ _))) (decide_eq_false (by omega))) aD) (aF (oX (r_v rfl) (af (av (r_v rfl) r_c (aA rfl)) (af (r_v rfl) ah)) rfl hK hget rfl)))))) (b5 _ _)
theorem qt (rows:List (List Int)) (given:List Int) (w:Wk):∀ (ws:List Wk) (row:List Int),aP rows given (ws++[w]) row=aP rows given ws row++[bI w.doing (w.srcs.map (aN (rows++[aP rows given ws row]) given))]
 | [],row=>rfl
 | v::r,row=>qt rows given w r _
noncomputable def k9:EV.S:=.seq (.set (.one 6) (.comp 2 (.call "_law_value" (.cs (.v 0) (.cs (.v 2) (.cs (.v 3) (.cs (.v 1) (.cs (.v 8) .nl)))))) (.one 8) (.iSeq (.ix (.v 5) (.c (.int 3)))) .nl))
 (.dset (.v 2) (.cs (.v 4) (.cs (.v 3) .nl)) (.call "_law_done" (.cs (.ix (.v 5) (.c (.int 2))) (.cs (.v 6) .nl))))
theorem CY (hv:Has P "_law_value" iM) (hd:Has P "_law_done" jg) {l:Lp} (hl:l.WF) {c:Nat} {inputs A:List (List Int)} {given:List Int} (hc:S[c]?=some (.lst (inputs.map aC))) (hg:inputs[A.length]?=some given) (hgl:given.length=l.streams) (hgv:∀ v∈given,VR v) (hA:cR l.works.length (aG l.works++A)) (hAl:A.length<=40)
  {kvs:List (List Int × D)} {G:aa} {x4 x5 x6:Option D} (hk:Kn kvs A) (hkl:kvs.length<=8 * A.length) :
  ∃ x4' x5' x6' kvs' G',exec sub (ak sub P (n+1)) (.forS (.many [4,5]) (.iEnum (.ix (.v 0) (.c (.int 2)))) k9) [some l.toD,some (.loc c),some (.loc S.length),some (.int (A.length:Int)),x4,x5,x6] (S++.dct kvs::G) =
   .ok (.nx [some l.toD,some (.loc c),some (.loc S.length),some (.int (A.length:Int)),x4',x5',x6']) (S++.dct kvs' :: G')/\Kn kvs' (A++[aP (aG l.works++A) given l.works []])/\kvs'.length<=8 * (A.length+1):=by
 have hnum:(num 0 (l.works.map Wk.toD)).length=l.works.length:=by rw [iG,List.length_map]
 have hcS:c < S.length:=(List.getElem?_eq_some_iff.mp hc).1
 have hw8:=hl.nworks.2
 have h3:3<=(aG l.works++A).length:=by simp [aG]
 have hgood:∀ i,i<=l.works.length->(aP (aG l.works++A) given (l.works.take i) []).length=i/\∀ v∈aP (aG l.works++A) given (l.works.take i) [],VR v:=fun i hi=>by
  have:=lC (N:=l.works.length) (streams:=l.streams) (ncrews:=l.crews.length) hA h3 hgl hgv (l.works.take i) [] (fun j w hj=>by
   have hj':=(List.getElem?_eq_some_iff.mp hj).1
   rw [List.length_take] at hj'
   rw [List.getElem?_take_of_lt (by omega)] at hj
   have:=hl.works j w hj
   simpa using this) (by simp)
  rw [List.length_take,List.length_nil] at this
  exact ⟨by omega,this.2⟩
 have hst:∀ w∈l.works,w.starts.length=3:=fun w hm=>by
  obtain ⟨i,hi⟩:=List.getElem?_of_mem hm
  exact (hl.works i w hi).three
 obtain ⟨σ',T',e,x4',x5',x6',kvs',G',rfl,rfl,hk',hkl'⟩:=gG (sub:=sub) (cf:=ak sub P (n+1)) (t:=.many [4,5]) (it:=.iEnum (.ix (.v 0) (.c (.int 2)))) (b:=k9)
  (σ:=[some l.toD,some (.loc c),some (.loc S.length),some (.int (A.length:Int)),x4,x5,x6]) (S:=S++.dct kvs::G) (S1:=S++.dct kvs::G) (s:=⟨num 0 (l.works.map Wk.toD),none,l.works.map Wk.toD⟩)
  (fun i σ T=>∃ x4 x5 x6 kvs G,σ=[some l.toD,some (.loc c),some (.loc S.length),some (.int (A.length:Int)),x4,x5,x6]/\T=S++.dct kvs::G/\Kn kvs (A++[aP (aG l.works++A) given (l.works.take i) []])/\kvs.length<=8 * A.length+i)
  (by rw [BU,av (r_v rfl) r_c (aA rfl),Res.aj]; rfl) ⟨x4,x5,x6,kvs,G,rfl,rfl,hk.round,hkl⟩ (fun _ _ _ _=>rfl) (fun i hi σ T ⟨x4,x5,x6,kvs,G,hσ,hT,hk,hkl⟩=>by
   subst hσ; subst hT
   have hi':i < l.works.length:=by rw [<- hnum]; exact hi
   have hit:(num 0 (l.works.map Wk.toD))[i]=.tup [.int (i:Int),(l.works[i]).toD]:=by
    rw [rP]; simp
   show ∃ σ' T',bO sub (ak sub P (n+1)) _ _ (num 0 (l.works.map Wk.toD))[i] _ _=_/\_
   rw [hit]
   have hw:=hl.works i _ (List.getElem?_eq_getElem hi')
   obtain ⟨g1,g2⟩:=hgood i (by omega)
   have htake:=List.take_succ_eq_append_getElem hi'
   have hsnoc:=qt (aG l.works++A) given l.works[i] (l.works.take i) []
   rw [<- htake] at hsnoc
   generalize hrow:aP (aG l.works++A) given (l.works.take i) []=row at hk g1 g2 hsnoc
   generalize l.works[i]=w at hw hsnoc
   have hw2:w.WF row.length l.works.length l.streams l.crews.length:=by rw [g1]; exact hw
   have hsv:=k7 hw2 hA h3 g2 hgl hgv
   have hK:(S++Cell.dct kvs::G)[S.length]?=some (.dct kvs):=bR _ _ _
   have hc':(S++Cell.dct kvs::G)[c]?=some (.lst (inputs.map aC)):=by rw [List.getElem?_append_left hcS]; exact hc
   have hcomp:=eF (sub:=sub) (cf:=ak sub P (n+1)) (σ:=[some l.toD,some (.loc c),some (.loc S.length),some (.int (A.length:Int)),some (.int (i:Int)),some w.toD,x6]) (S:=S++.dct kvs::G) (S1:=S++.dct kvs::G) (k:=2) (i:=8) (el:=.call "_law_value" (.cs (.v 0) (.cs (.v 2) (.cs (.v 3) (.cs (.v 1) (.cs (.v 8) .nl)))))) (it:=.iSeq (.ix (.v 5) (.c (.int 3))))
    (ks:=w.srcs) (f:=Srs.toD) (g:=fun s=>.int (aN (aG l.works++A++[row]) given s)) (o:=none) (raw:=w.srcs.map Srs.toD) (cz (av (r_v rfl) r_c (aA rfl)) rfl) rfl
    (fun s hs=>aH (af (r_v rfl) (af (r_v rfl) (af (r_v rfl) (af (r_v rfl) (af (r_v rfl) ah))))) (CH hv hK hc' hk hg hgl (fun r hr=>hA.len r (List.mem_append_right _ hr)) hst g1 (by omega) (hw.srcs s hs))) (by have:=hw.some.2; unfold aM; omega)
   rw [show (w.srcs.map fun s=>D.int (aN (aG l.works++A++[row]) given s))=(w.srcs.map (aN (aG l.works++A++[row]) given)).map .int by rw [List.map_map]; rfl] at hcomp
   have hall:∀ v∈w.srcs.map (aN (aG l.works++A++[row]) given),VR v:=fun v hm=>by
    obtain ⟨s,hs,rfl⟩:=List.mem_map.mp hm
    exact (hsv s hs).2
   have hne:w.srcs.map (aN (aG l.works++A++[row]) given)≠[]:=fun e=>by
    have:=congrArg List.length e
    rw [List.length_map,List.length_nil] at this
    have:=hw.some.1; omega
   have hdone:=Bc (sub:=sub) (n:=n) (S:=(S++.dct kvs::G)++[.lst ((w.srcs.map (aN (aG l.works++A++[row]) given)).map .int)]) hd (bP _ _) hne (by rw [List.length_map]; have:=hw.some.2; omega) (fun v hm=>(hall v hm).small) hw.doing
   have hK2:((S++Cell.dct kvs::G)++[.lst ((w.srcs.map (aN (aG l.works++A++[row]) given)).map .int)])[S.length]?=some (.dct kvs):=by rw [List.append_assoc,List.cons_append]; exact bR _ _ _
   refine ⟨_,_,DK rfl (ao (aK hcomp) (uW (aH (af (av (r_v rfl) r_c (aA rfl)) (af (r_v rfl) ah)) hdone) (r_v rfl) (af (r_v rfl) (af (r_v rfl) ah)) rfl hK2 rfl (decide_eq_true (by show kvs.length < aM; unfold aM; omega)))),_,_,_,bX kvs [(row.length:Int),(A.length:Int)] (.int (bI w.doing (w.srcs.map (aN (aG l.works++A++[row]) given)))),G++[.lst ((w.srcs.map (aN (aG l.works++A++[row]) given)).map .int)],rfl,?_,?_,?_⟩
   ·rw [List.append_assoc,List.cons_append,List.set_append_right _ _ (Nat.le_refl _),Nat.sub_self,g1]; rfl
   ·rw [hsnoc]
    exact hk.put _
   ·have:=xg kvs [(row.length:Int),(A.length:Int)] (.int (bI w.doing (w.srcs.map (aN (aG l.works++A++[row]) given))))
    omega)
 rw [hnum,List.take_length] at hk'
 have hk':=hk'
 exact ⟨x4',x5',x6',kvs',G',e,hk',by have:=hl.nworks.2; rw [hnum] at hkl'; omega⟩
end
end RL

namespace K02
open PySem EV RL GO
noncomputable def pM:Fn:=⟨1,5,(.seq (.set (.one 1) (.call "_law_loop" (.cs (.v 0) (.cs (.c (.int 2)) (.cs (.c (.int 4)) .nl)))))
 (.seq (.set (.one 2) (.call "_law_inputs" (.cs (.v 0) (.cs (.c (.int 0)) (.cs (.ix (.v 1) (.c (.int 0))) (.cs (.c (.int 12)) .nl))))))
 (.seq (.set (.one 3) (.bi .list (.cs (.v 2) .nl)))
 (.seq (.set (.one 4) (.call "answers" (.cs (.v 1) (.cs (.v 3) .nl))))
 (.ret (.and (.bi (.inst .list) (.cs (.v 4) .nl)) (.and (.cmp .eq (.v 4) (.call "_law_answers" (.cs (.v 1) (.cs (.v 2) .nl)))) (.cmp .eq (.v 3) (.v 2)))))))))⟩
noncomputable def Pd:Prg:=[("is_whole",jO),("is_value",qd),("is_row",iZ),("is_crew",qR),("are_crews",sV),("is_work_source",qX),("is_source",nV),("are_starts",oB),("is_work",rj),("are_works",pW),("are_outs",tG),("is_loop",tH),("checked",nB),("is_given",oY),("are_inputs",sE),("checked_inputs",qy),("product",k6),("outcome",nU),("start_rows",nY),("source_value",pD),("answers",m6),("_law_cell_at",mO),("_law_mixed",sF),("_law_source",mU),("_law_work",tB),("_law_loop",se),("_law_inputs",lG),("_law_done",jg),("_law_value",iM),("_law_answers",mQ),("law",pM)]
theorem hB:HB Pd:=⟨rfl,rfl,rfl,rfl,rfl,rfl,rfl,rfl,rfl,rfl,rfl,rfl,rfl⟩
theorem hV:HV Pd:=⟨rfl,rfl,rfl,rfl,rfl,rfl,rfl,rfl⟩
theorem hG:HG Pd:=⟨rfl,rfl,rfl,rfl,rfl⟩
theorem hI:Has Pd "_law_inputs" lG:=rfl
section
variable {sub:Sub} {P:Prg} {n:Nat} {S:aa}
theorem CT {T:aa} {ds:List D} {m:Nat} (hm:S.length<=m) (ht:T.take S.length=S) (h:T[m]?=some (.lst ds)) (hc:D.lows 0 ds=true):leave S (.loc m) T=.ok (.loc S.length) (S++[.lst ds]):=by
 unfold leave
 rw [if_pos ht,if_neg (by show ¬ decide (m < S.length)=true; simp; omega)]
 simp only [h]
 rw [if_pos (show Cell.low S.length (.lst ds)=true from fK (Nat.zero_le _) hc)]
theorem xV (works:List Wk) (rows gs:List (List Int)) (g:List Int):bu works rows (gs++[g])=bu works rows gs++[aP (rows++bu works rows gs) g works []]:=by
 rw [rK]; rfl
theorem pB {many:Nat}:∀ (os:List Nat) (least:Nat),cM many least os->∀ k∈os,k < many
 | [],_,_,k,hk=>by cases hk
 | a::r,least,⟨_,h2,h3⟩,k,hk=>by
  rcases List.mem_cons.mp hk with rfl|hk
  ·exact h2
  ·exact pB r _ h3 k hk
theorem Cd (hv:Has P "_law_value" iM) (hd:Has P "_law_done" jg) (ha:Has P "_law_answers" mQ) {l:Lp} (hl:l.WF) {c:Nat} {inputs:List (List Int)} (hc:S[c]?=some (.lst (inputs.map aC))) (hi:fB l.streams inputs) (hn:inputs.length<=40) :
  ak sub P (n+2) "_law_answers" [l.toD,.loc c] S=.ok (.loc S.length) (S++[.lst (cU l inputs)]):=by
 have hcS:c < S.length:=(List.getElem?_eq_some_iff.mp hc).1
 generalize hF:bu l.works (aG l.works) inputs=F
 have hFl:F.length=inputs.length:=by rw [<- hF,ni]
 have hFt:∀ t,bu l.works (aG l.works) (inputs.take t)=F.take t:=fun t=>by rw [<- hF,oz]
 have hFg:cR l.works.length F:=by rw [<- hF]; exact oh hl inputs _ (iK hl) (by simp [aG]) hi
 have hlen:∀ T:aa,(∃ G,T=S++G)->biD sub .len [.loc c] T=.ok (.int ((inputs.length:Nat):Int)) T:=fun T ⟨G,e⟩=>by
  rw [e,iJ (xs:=inputs.map aC) (by rw [List.getElem?_append_left hcS]; exact hc),List.length_map]
 obtain ⟨σ',T',e,x3,x4,x5,x6,kvs,G,rfl,rfl,hk,hkl⟩:=gG (sub:=sub) (cf:=ak sub P (n+1)) (t:=.one 3) (it:=.iRng (.cs (.bi .len (.cs (.v 1) .nl)) .nl)) (b:=.forS (.many [4,5]) (.iEnum (.ix (.v 0) (.c (.int 2)))) k9)
  (σ:=[some l.toD,some (.loc c),some (.loc S.length),none,none,none,none]) (S:=S++[.dct []]) (S1:=S++[.dct []]) (s:=⟨(List.range inputs.length).map aQ,none,[]⟩)
  (fun t σ T=>∃ x3 x4 x5 x6 kvs G,σ=[some l.toD,some (.loc c),some (.loc S.length),x3,x4,x5,x6]/\T=S++.dct kvs::G/\Kn kvs (F.take t)/\kvs.length<=8 * t)
  (eG (af (aJ (af (r_v rfl) ah) (hlen _ ⟨_,rfl⟩)) ah) rfl (by omega) fun _=>rfl) ⟨none,none,none,none,[],[],rfl,rfl,fun m w r h=>by simp at h,Nat.le_refl _⟩ (fun _ _ _ _=>rfl) (fun t ht σ T ⟨x3,x4,x5,x6,kvs,G,hσ,hT,hk,hkl⟩=>by
   subst hσ; subst hT
   have ht':t < inputs.length:=by simpa using ht
   have hit:((List.range inputs.length).map aQ)[t]'ht=.int (t:Int):=by simp [aQ]
   show ∃ σ' T',bO sub (ak sub P (n+1)) _ _ (((List.range inputs.length).map aQ)[t]'ht) _ _=_/\_
   rw [hit]
   have hAl:(F.take t).length=t:=by rw [List.length_take]; omega
   have hg:inputs[(F.take t).length]?=some inputs[t]:=by rw [hAl]; exact List.getElem?_eq_getElem ht'
   have hgm:=List.getElem_mem ht'
   have hgd:cR l.works.length (aG l.works++F.take t):=⟨fun r hr=>(List.mem_append.mp hr).elim ((iK hl).len r) fun z=>hFg.len r (List.mem_of_mem_take z),fun r hr=>(List.mem_append.mp hr).elim ((iK hl).val r) fun z=>hFg.val r (List.mem_of_mem_take z)⟩
   obtain ⟨x4',x5',x6',kvs',G',e,hk',hkl'⟩:=CY (sub:=sub) (n:=n) (S:=S) hv hd hl hc hg (hi.len _ hgm) (hi.val _ hgm) hgd (by omega) (kvs:=kvs) (G:=G) (x4:=x4) (x5:=x5) (x6:=x6) hk (by omega)
   rw [hAl] at e hkl'
   refine ⟨_,_,fh e,some (.int (t:Int)),x4',x5',x6',kvs',G',rfl,rfl,?_,hkl'⟩
   rw [<- hFt (t+1),List.take_succ_eq_append_getElem ht',xV,hFt t]
   exact hk')
 rw [List.length_map,List.length_range,<- hFl,List.take_length] at hk
 have hlt:=pB l.outs 0 hl.outs
 have hol:=iO hl.outs (Nat.zero_le _)
 have hw8:=hl.nworks.2
 have inner:∀ t,t < F.length->∀ G2:aa,ev sub (ak sub P (n+1)) (.comp 2 (.dget (.v 2) (.cs (.v 10) (.cs (.v 8) .nl))) (.one 10) (.iSeq (.ix (.v 0) (.c (.int 3)))) .nl) ([some l.toD,some (.loc c),some (.loc S.length),x3,x4,x5,x6]++[none,some (.int (t:Int))]) ((S++.dct kvs::G)++G2) =
   .ok (.loc ((S++Cell.dct kvs::G)++G2).length) (((S++.dct kvs::G)++G2)++[.lst (l.outs.map fun k=>.int ((F.getD t []).getD k 0))]):=fun t ht G2=>by
  refine eF (ks:=l.outs) (f:=aQ) (g:=fun k=>.int ((F.getD t []).getD k 0)) (o:=none) (raw:=l.outs.map aQ) (cz (av (r_v rfl) r_c (aA rfl)) rfl) rfl (fun k hk2=>?_) (by unfold aM; omega)
  have hr:F[t]?=some (F.getD t []):=by rw [List.getD_eq_getElem?_getD,List.getElem?_eq_getElem ht]; rfl
  have hget:=hk t k _ hr (by rw [hFg.len _ (List.mem_of_getElem? hr)]; exact hlt k hk2)
  exact oX (r_v rfl) (af (r_v rfl) (af (r_v rfl) ah)) rfl (show ((S++Cell.dct kvs::G)++G2)[S.length]?=some (.dct kvs) by rw [List.append_assoc,List.cons_append]; exact bR _ _ _) hget rfl
 obtain ⟨G',ec⟩:=xK (sub:=sub) (cf:=ak sub P (n+1)) (σ:=[some l.toD,some (.loc c),some (.loc S.length),x3,x4,x5,x6]) (S:=S++.dct kvs::G) (S1:=S++.dct kvs::G) (k:=2) (i:=8) (el:=.bi .tuple (.cs (.comp 2 (.dget (.v 2) (.cs (.v 10) (.cs (.v 8) .nl))) (.one 10) (.iSeq (.ix (.v 0) (.c (.int 3)))) .nl) .nl)) (it:=.iRng (.cs (.bi .len (.cs (.v 1) .nl)) .nl))
  (ks:=List.range inputs.length) (f:=aQ) (g:=fun t=>outD l.outs (F.getD t [])) (o:=none) (raw:=[]) (eG (af (aJ (af (r_v rfl) ah) (hlen _ ⟨_,rfl⟩)) ah) rfl (by omega) fun _=>rfl) (fun _=>rfl)
  (fun t ht G2=>⟨G2++[.lst (l.outs.map fun k=>.int ((F.getD t []).getD k 0))],by
   have ht':t < F.length:=by rw [hFl]; exact List.mem_range.mp ht
   rw [<- List.append_assoc]
   exact aJ (af (inner t ht' G2) ah) jm⟩) (by rw [List.length_range]; unfold aM; omega)
 have ea:(List.range inputs.length).map (fun t=>outD l.outs (F.getD t []))=cU l inputs:=by
  unfold cU
  rw [lY,hF,<- hFl]
  refine List.ext_getElem? fun j=>?_
  rw [List.getElem?_map,List.getElem?_map]
  by_cases hj:j < F.length
  ·rw [List.getElem?_range hj,List.getElem?_eq_getElem hj]
   show some (outD l.outs (F.getD j []))=some (outD l.outs F[j])
   rw [List.getD_eq_getElem?_getD,List.getElem?_eq_getElem hj]; rfl
  ·rw [List.getElem?_eq_none (by rw [List.length_range]; omega),List.getElem?_eq_none (by omega)]; rfl
 rw [ea] at ec
 refine x_call (ds:=[l.toD,.loc c]) ha rfl (ao (aK xH) (ao e (aF ec))) (CT (by simp) ?_ (bP _ _) (jD _ _ _ _))
 rw [List.append_assoc,List.append_assoc,fJ]
end
theorem m5 {T:aa} {a b:Nat} {xs:List D} (ha:T[a]?=some (.lst xs)) (hb:T[b]?=some (.lst xs)) (h:∀ x∈xs,∃ is:List Int,x=.tup (is.map .int)):cmD .eq (.loc a) (.loc b) T=.ok (.bl true) T:=by
 rw [jR,n5 ha hb,if_pos rfl,kC fun x hx=>by
  obtain ⟨is,rfl⟩:=h x hx
  exact EG 9 is]
theorem main (ns:List Int) (h:ns.length<=63):∃ S',ak (fun _ _=>false) Pd 30 "law" [.fro (ns.map .int)] []=.ok (.bl true) S':=by
 obtain ⟨mx,M⟩:=ue hG
 have hl:=CU M ns (at':=2) (most:=4) (by decide) (by decide)
 have ed:=vS (sub:=fun _ _=>false) (n:=24) (S:=[]) hG M ns (at':=2) (most:=4) (by decide) (by decide) (by decide)
 generalize dF mx ns 2 4=l at hl ed
 obtain ⟨inp,hil,hi,ei⟩:=yK (sub:=fun _ _=>false) (n:=26) (S:=[]) hG hI M ns (at':=0) (streams:=l.streams) (most:=12) (by decide) (by decide) (by have:=hl.streams; omega)
 have ei:ak (fun _ _=>false) Pd 29 "_law_inputs" [.fro (ns.map .int),.int 0,.int l.streams,.int 12] []=.ok (.loc 0) [.lst (inp.map aC)]:=ei
 have hls:oE [Cell.lst (inp.map aC),Cell.lst (inp.map aC)]:=fun k c hk=>by
  match k,hk with
  | 0,hk=>exact ⟨_,(Option.some.inj hk).symm⟩
  | 1,hk=>exact ⟨_,(Option.some.inj hk).symm⟩
  | k+2,hk=>simp at hk
 have ea:ak (fun _ _=>false) Pd 29 "answers" [l.toD,.loc 1] [.lst (inp.map aC),.lst (inp.map aC)]=.ok (.loc 2) [.lst (inp.map aC),.lst (inp.map aC),.lst (cU l inp)]:=Em (sub:=fun _ _=>false) (n:=21) hB hV hls (l:=l) (c:=1) (inputs:=inp) rfl hl hi (by omega)
 have el:ak (fun _ _=>false) Pd 29 "_law_answers" [l.toD,.loc 0] [.lst (inp.map aC),.lst (inp.map aC),.lst (cU l inp)]=.ok (.loc 3) [.lst (inp.map aC),.lst (inp.map aC),.lst (cU l inp),.lst (cU l inp)]:=Cd (sub:=fun _ _=>false) (P:=Pd) (n:=27) rfl rfl rfl hl rfl hi (by omega)
 have elist:biD (fun _ _=>false) .list [.loc 0] [.lst (inp.map aC)]=.ok (.loc 1) [.lst (inp.map aC),.lst (inp.map aC)]:=by rw [Ep,cE rfl]; rfl
 have h1:∀ x∈cU l inp,∃ is:List Int,x=.tup (is.map .int):=fun x hx=>by
  unfold cU at hx
  rw [lY] at hx
  obtain ⟨r,_,rfl⟩:=List.mem_map.mp hx
  exact ⟨l.outs.map fun k=>r.getD k 0,by unfold outD; rw [List.map_map]; rfl⟩
 have h2:∀ x∈inp.map aC,∃ is:List Int,x=.tup (is.map .int):=fun x hx=>by
  obtain ⟨r,_,rfl⟩:=List.mem_map.mp hx
  exact ⟨r,rfl⟩
 exact ⟨[],x_call (ds:=[.fro (ns.map .int)]) (show Has Pd "law" pM from rfl) rfl (ao (aK (aH (af (r_v rfl) (af r_c (af r_c ah))) ed)) (ao (aK (aH (af (r_v rfl) (af r_c (af (av (r_v rfl) r_c (aA rfl)) (af r_c ah)))) ei))
  (ao (aK (aJ (af (r_v rfl) ah) elist)) (ao (aK (aH (af (r_v rfl) (af (r_v rfl) ah)) ea))
  (aF (dg (aJ (af (r_v rfl) ah) (eS rfl)) (dg (aY (r_v rfl) (aH (af (r_v rfl) (af (r_v rfl) ah)) el) (m5 (xs:=cU l inp) rfl rfl h1)) (aY (r_v rfl) (r_v rfl) (m5 (xs:=inp.map aC) rfl rfl h2)))))))) ) (cQ (S:=[]) (d:=.bl true) rfl rfl)⟩
end K02

namespace K02
open PySem EV RL
noncomputable def top (i:Nat):Stmt:=PySem.Challenge.pw_roundlap_k02_answers.main.body.getD i (.Pass ⟨0,0,0,0⟩)
noncomputable def fns:List (Str × Stmt):=[("is_whole",top 15),("is_value",top 16),("is_row",top 17),("is_crew",top 18),("are_crews",top 19),("is_work_source",top 20),("is_source",top 21),("are_starts",top 22),("is_work",top 23),("are_works",top 24),("are_outs",top 25),("is_loop",top 26),("checked",top 27),("is_given",top 30),("are_inputs",top 31),("checked_inputs",top 32),("product",top 33),("outcome",top 34),("start_rows",top 35),("source_value",top 36),("answers",top 37),("_law_cell_at",top 39),("_law_mixed",top 40),("_law_source",top 41),("_law_work",top 42),("_law_loop",top 43),("_law_inputs",top 44),("_law_done",top 45),("_law_value",top 46),("_law_answers",top 47),("law",top 48)]
noncomputable def vals:List (Str × D):=[("REST",(.int 9973)),("MOST_STREAMS",(.int 6)),("MOST_CREWS",(.int 3)),("MOST_MACHINES",(.int 3)),("MOST_BUSY",(.int 4)),("MOST_WORKS",(.int 8)),("MOST_LONG",(.int 8)),("MOST_SOURCES",(.int 3)),("MOST_BACK",(.int 3)),("WORDS",(.tup [(.str "plus"),(.str "less"),(.str "times"),(.str "least"),(.str "greatest")])),("MOST_ROUNDS",(.int 40))]
noncomputable def cls:List Str:=["LapError","NoLoop","NoInputs"]
set_option maxRecDepth 100000 in
set_option maxHeartbeats 0 in
theorem hP:fns.map (fun p=>(p.1,trF (eK fns vals cls) p.2))=Pd.map fun p=>(p.1,some p.2):=by kernel_rfl
end K02
noncomputable def PySem.W.Fast.tw8120504505318920265:Nat:=0
noncomputable def PySem.W.Fast.tw11595669851682957402:Nat:=0
noncomputable def PySem.W.Fast.tw16230755907350314181:Nat:=0
noncomputable def PySem.W.Fast.tw1362814599889662669:Nat:=0
noncomputable def PySem.W.Fast.tw938736230749577035:Nat:=0
noncomputable def PySem.W.Fast.tw5495997168860335767:Nat:=0
noncomputable def PySem.W.Fast.tw12929289544030904017:Nat:=0
noncomputable def PySem.W.Fast.tw13341204830547047678:Nat:=0
noncomputable def PySem.W.Fast.tw7759059436442397258:Nat:=0
noncomputable def PySem.W.Fast.tw1914069529138461653:Nat:=0
noncomputable def PySem.W.Fast.tw13946269195523021079:Nat:=0
noncomputable def PySem.W.Fast.tw17498412333297634719:Nat:=0
noncomputable def PySem.W.Fast.tw11173808632125113112:Nat:=0
noncomputable def PySem.W.Fast.tw11694983916539118063:Nat:=0
noncomputable def PySem.W.Fast.tw13345197873773526012:Nat:=0
noncomputable def PySem.W.Fast.tw8082632238164555001:Nat:=0
noncomputable def PySem.W.Fast.tw10301373183573934250:Nat:=0
noncomputable def PySem.W.Fast.tw13872471215213405305:Nat:=0
noncomputable def PySem.W.Fast.tw11389666475013921421:Nat:=0
noncomputable def PySem.W.Fast.tw14763214235990267378:Nat:=0
noncomputable def PySem.W.Fast.tw15762788069182639463:Nat:=0
noncomputable def PySem.W.Fast.tw6659245249958510618:Nat:=0
noncomputable def PySem.W.Fast.tw10829604741464920604:Nat:=0
noncomputable def PySem.W.Fast.tw11729082218674442425:Nat:=0
noncomputable def PySem.W.Fast.tw7715081475524661766:Nat:=0
noncomputable def PySem.W.Fast.tw11160842084413947540:Nat:=0
noncomputable def PySem.W.Fast.tw11229239004600535722:Nat:=0
noncomputable def PySem.W.Fast.tw1265443751048599414:Nat:=0
noncomputable def PySem.W.Fast.tw8361344141792179699:Nat:=0
noncomputable def PySem.W.Fast.tw573748153269102022:Nat:=0
noncomputable def PySem.W.Fast.tw8624747119184586257:Nat:=0
noncomputable def PySem.W.Fast.tw5859087231186545485:Nat:=0
noncomputable def PySem.W.Fast.tw4227533991628055006:Nat:=0
noncomputable def PySem.W.Fast.tw8098978646431663319:Nat:=0
noncomputable def PySem.W.Fast.tw15164840259506637697:Nat:=0
noncomputable def PySem.W.Fast.tw7820792537998856415:Nat:=0
noncomputable def PySem.W.Fast.tw5519867308471112386:Nat:=0
noncomputable def PySem.W.Fast.tw7105258478843105629:Nat:=0
noncomputable def PySem.W.Fast.tw11962352074911596728:Nat:=0
noncomputable def PySem.W.Fast.tw2222261729895741310:Nat:=0
noncomputable def PySem.W.Fast.tw3019880888536686994:Nat:=0
noncomputable def PySem.W.Fast.tw11644656738214920435:Nat:=0
noncomputable def PySem.W.Fast.tw7393294090632151791:Nat:=0
noncomputable def PySem.W.Fast.tw12716419379756011056:Nat:=0
noncomputable def PySem.W.Fast.tw16775170743188527935:Nat:=0
noncomputable def PySem.W.Fast.tw13417638394477845542:Nat:=0
noncomputable def PySem.W.Fast.tw12563751751413787730:Nat:=0
noncomputable def PySem.W.Fast.tw2404731530608453069:Nat:=0
noncomputable def PySem.W.Fast.tw17949499609626379289:Nat:=0
noncomputable def PySem.W.Fast.tw8803801294546874157:Nat:=0
noncomputable def PySem.W.Fast.tw1576318504140454238:Nat:=0
noncomputable def PySem.W.Fast.tw5561313406537258079:Nat:=0
noncomputable def PySem.W.Fast.tw3798585527520861192:Nat:=0
noncomputable def PySem.W.Fast.tw4890493121666657507:Nat:=0
noncomputable def PySem.W.Fast.tw3550896216669115498:Nat:=0
noncomputable def PySem.W.Fast.tw8442914674283469955:Nat:=0
noncomputable def PySem.W.Fast.tw8035090978884276583:Nat:=0
noncomputable def PySem.W.Fast.tw15203143190730807159:Nat:=0
noncomputable def PySem.W.Fast.tw14827765916382340703:Nat:=0
noncomputable def PySem.W.Fast.tw7524246410453958031:Nat:=0
noncomputable def PySem.W.Fast.tw1700832028821488036:Nat:=0
noncomputable def PySem.W.Fast.tw5448128281765563687:Nat:=0
noncomputable def PySem.W.Fast.tw1347255232744361997:Nat:=0
noncomputable def PySem.W.Fast.tw6798252872948992285:Nat:=0
noncomputable def PySem.W.Fast.tw5592598683154852064:Nat:=0
noncomputable def PySem.W.Fast.tw16678435624905092729:Nat:=0
noncomputable def PySem.W.Fast.tw9154773605062946003:Nat:=0
noncomputable def PySem.W.Fast.tw8934162807035761189:Nat:=0
noncomputable def PySem.W.Fast.tw6294604213822425365:Nat:=0
noncomputable def PySem.W.Fast.tw4225186920799885774:Nat:=0
noncomputable def PySem.W.Fast.tw5283186605939269641:Nat:=0
noncomputable def PySem.W.Fast.tw10029239935041949335:Nat:=0
noncomputable def PySem.W.Fast.tw10060496191862678343:Nat:=0
noncomputable def PySem.W.Fast.tw9170010517343424562:Nat:=0
noncomputable def PySem.W.Fast.tw12852524132054798630:Nat:=0
noncomputable def PySem.W.Fast.tw18046644881949728904:Nat:=0
noncomputable def PySem.W.Fast.tw14078335129114581270:Nat:=0
noncomputable def PySem.W.Fast.tw4405687122435948269:Nat:=0
noncomputable def PySem.W.Fast.tw4099923936567941910:Nat:=0
noncomputable def PySem.W.Fast.tw6829610443088832956:Nat:=0
noncomputable def PySem.W.Fast.tw13974737302791424303:Nat:=0
noncomputable def PySem.W.Fast.tw14565234330609956435:Nat:=0
noncomputable def PySem.W.Fast.tw4760910049589645549:Nat:=0
noncomputable def PySem.W.Fast.tw15993344853877189382:Nat:=0
noncomputable def PySem.W.Fast.tw8290107717093104059:Nat:=0
noncomputable def PySem.W.Fast.tw15647560427119770900:Nat:=0
noncomputable def PySem.W.Fast.tw14664158684711583736:Nat:=0
noncomputable def PySem.W.Fast.tw495861223256077222:Nat:=0
noncomputable def PySem.W.Fast.tw14155744700355804900:Nat:=0
noncomputable def PySem.W.Fast.tw11131306971724424774:Nat:=0
noncomputable def PySem.W.Fast.tw11241858149440205834:Nat:=0
noncomputable def PySem.W.Fast.tw15352134542002446388:Nat:=0
noncomputable def PySem.W.Fast.tw3434778535020012063:Nat:=0
noncomputable def PySem.W.Fast.tw9114155916476532537:Nat:=0
noncomputable def PySem.W.Fast.tw4973919215115537575:Nat:=0
noncomputable def PySem.W.Fast.tw14481401040089587332:Nat:=0
noncomputable def PySem.W.Fast.tw17470018245994041190:Nat:=0
noncomputable def PySem.W.Fast.tw14953019953473656087:Nat:=0
noncomputable def PySem.W.Fast.tw371163438445784637:Nat:=0
noncomputable def PySem.W.Fast.tw6487068040178641183:Nat:=0
noncomputable def PySem.W.Fast.tw11801857895581184785:Nat:=0
noncomputable def PySem.W.Fast.tw11653140677137842117:Nat:=0
noncomputable def PySem.W.Fast.tw8391935236487900130:Nat:=0
noncomputable def PySem.W.Fast.tw12934012644345153278:Nat:=0
noncomputable def PySem.W.Fast.tw1796129485420583944:Nat:=0
noncomputable def PySem.W.Fast.tw12227552049338050146:Nat:=0
noncomputable def PySem.W.Fast.tw11972272186829437208:Nat:=0
noncomputable def PySem.W.Fast.tw6339440579047971216:Nat:=0
noncomputable def PySem.W.Fast.tw6201048261426101017:Nat:=0
noncomputable def PySem.W.Fast.tw8174447852196324111:Nat:=0
noncomputable def PySem.W.Fast.tw16680576307412725125:Nat:=0
noncomputable def PySem.W.Fast.tw5125226049862794379:Nat:=0
noncomputable def PySem.W.Fast.tw15990671963452229075:Nat:=0
noncomputable def PySem.W.Fast.tw16590008931925580837:Nat:=0
noncomputable def PySem.W.Fast.tw13920922485296467516:Nat:=0
noncomputable def PySem.W.Fast.tw4236966427698248457:Nat:=0
noncomputable def PySem.W.Fast.tw5715162790122552094:Nat:=0
noncomputable def PySem.W.Fast.tw8594930919966720962:Nat:=0
noncomputable def PySem.W.Fast.tw4365187456922536324:Nat:=0
noncomputable def PySem.W.Fast.tw6949980374189750681:Nat:=0
noncomputable def PySem.W.Fast.tw18054157378157263563:Nat:=0
noncomputable def PySem.W.Fast.tw11776388444444358364:Nat:=0
noncomputable def PySem.W.Fast.tw13660286734036743735:Nat:=0
noncomputable def PySem.W.Fast.tw10404823229555075425:Nat:=0
noncomputable def PySem.W.Fast.tw10689902050427268788:Nat:=0
noncomputable def PySem.W.Fast.tw7876830305452845120:Nat:=0
noncomputable def PySem.W.Fast.tw4427372447867940558:Nat:=0
noncomputable def PySem.W.Fast.tw4806403611652423482:Nat:=0
noncomputable def PySem.W.Fast.tw841330944914601535:Nat:=0
noncomputable def PySem.W.Fast.tw2284374910650102882:Nat:=0
noncomputable def PySem.W.Fast.tw2054285342594212130:Nat:=0
noncomputable def PySem.W.Fast.tw12477522490592919508:Nat:=0
noncomputable def PySem.W.Fast.tw138955839925416030:Nat:=0
noncomputable def PySem.W.Fast.tw680967216529476444:Nat:=0
noncomputable def PySem.W.Fast.tw6505624849789392061:Nat:=0
noncomputable def PySem.W.Fast.tw16813635474882556641:Nat:=0
noncomputable def PySem.W.Fast.tw12534031958622003723:Nat:=0
noncomputable def PySem.W.Fast.tw15821372253135865849:Nat:=0
noncomputable def PySem.W.Fast.tw17575294212314896938:Nat:=0
noncomputable def PySem.W.Fast.tw15368533771096676340:Nat:=0
noncomputable def PySem.W.Fast.tw10085436228670595568:Nat:=0
noncomputable def PySem.W.Fast.tw14360862704379822410:Nat:=0
noncomputable def PySem.W.Fast.tw10197406513453909190:Nat:=0
noncomputable def PySem.W.Fast.tw11532420269575299452:Nat:=0
noncomputable def PySem.W.Fast.tw16197863541941224889:Nat:=0
noncomputable def PySem.W.Fast.tw8720382976424582864:Nat:=0
noncomputable def PySem.W.Fast.tw16613480064294787641:Nat:=0
noncomputable def PySem.W.Fast.tw13207667571437748755:Nat:=0
noncomputable def PySem.W.Fast.tw14154829079266710204:Nat:=0
noncomputable def PySem.W.Fast.tw4338782153651631155:Nat:=0
noncomputable def PySem.W.Fast.tw17612473695854564777:Nat:=0
noncomputable def PySem.W.Fast.tw7620373167990441496:Nat:=0
noncomputable def PySem.W.Fast.tw6899871752613159584:Nat:=0
noncomputable def PySem.W.Fast.tw10392620393997716582:Nat:=0
noncomputable def PySem.W.Fast.tw10462146483533516154:Nat:=0
noncomputable def PySem.W.Fast.tw3762401684092498000:Nat:=0
noncomputable def PySem.W.Fast.tw14233874649626407315:Nat:=0
noncomputable def PySem.W.Fast.tw516213719071551424:Nat:=0
noncomputable def PySem.W.Fast.tw3620373825921691864:Nat:=0
noncomputable def PySem.W.Fast.tw10744436369810494480:Nat:=0
noncomputable def PySem.W.Fast.tw5644057845731398623:Nat:=0
noncomputable def PySem.W.Fast.tw9934933509122446610:Nat:=0
noncomputable def PySem.W.Fast.tw9144654399691765513:Nat:=0
noncomputable def PySem.W.Fast.tw7277005939590513123:Nat:=0
noncomputable def PySem.W.Fast.tw14123284377043815328:Nat:=0
noncomputable def PySem.W.Fast.tw3472843634544634089:Nat:=0
noncomputable def PySem.W.Fast.tw4814385619058278389:Nat:=0
noncomputable def PySem.W.Fast.tw3991539126333457134:Nat:=0
noncomputable def PySem.W.Fast.tw15842630743779794559:Nat:=0
noncomputable def PySem.W.Fast.tw3952694496915921467:Nat:=0
noncomputable def PySem.W.Fast.tw17934502689756949385:Nat:=0
noncomputable def PySem.W.Fast.tw14697701015800658596:Nat:=0
noncomputable def PySem.W.Fast.tw9582696937688853398:Nat:=0
noncomputable def PySem.W.Fast.tw1954842204940742057:Nat:=0
noncomputable def PySem.W.Fast.tw7598012095192304099:Nat:=0
noncomputable def PySem.W.Fast.tw11247685226579393288:Nat:=0
noncomputable def PySem.W.Fast.tw17530661181466582746:Nat:=0
noncomputable def PySem.W.Fast.tw12455887362824982359:Nat:=0
noncomputable def PySem.W.Fast.tw3401912780323242132:Nat:=0
noncomputable def PySem.W.Fast.tw7633857968192074783:Nat:=0
noncomputable def PySem.W.Fast.tw17597696327086067498:Nat:=0
noncomputable def PySem.W.Fast.tw2978668508139817694:Nat:=0
noncomputable def PySem.W.Fast.tw17859400411252347327:Nat:=0
noncomputable def PySem.W.Fast.tw8522132650685626380:Nat:=0
noncomputable def PySem.W.Fast.tw17757501172892907150:Nat:=0
noncomputable def PySem.W.Fast.tw5019271446157163228:Nat:=0
noncomputable def PySem.W.Fast.tw12785265919730917992:Nat:=0
noncomputable def PySem.W.Fast.tw8415680541664174326:Nat:=0
noncomputable def PySem.W.Fast.tw9112955549472627302:Nat:=0
noncomputable def PySem.W.Fast.tw9616799742220690073:Nat:=0
noncomputable def PySem.W.Fast.tw17907259480003727770:Nat:=0
noncomputable def PySem.W.Fast.tw14960560574278546458:Nat:=0
noncomputable def PySem.W.Fast.tw6721849708298986482:Nat:=0
noncomputable def PySem.W.Fast.tw4199900779713728026:Nat:=0
noncomputable def PySem.W.Fast.tw4431055828429863034:Nat:=0
noncomputable def PySem.W.Fast.tw7030174151611950279:Nat:=0
noncomputable def PySem.W.Fast.tw13555965662450796180:Nat:=0
noncomputable def PySem.W.Fast.tw2272083829316600058:Nat:=0
noncomputable def PySem.W.Fast.tw15362225266739024741:Nat:=0
noncomputable def PySem.W.Fast.tw1854432410733693751:Nat:=0
noncomputable def PySem.W.Fast.tw3050701881137215483:Nat:=0
noncomputable def PySem.W.Fast.tw9376738166708040408:Nat:=0
noncomputable def PySem.W.Fast.tw6374525496497374194:Nat:=0
noncomputable def PySem.W.Fast.tw11607514143151996151:Nat:=0
noncomputable def PySem.W.Fast.tw658112683925476797:Nat:=0
noncomputable def PySem.W.Fast.tw8150515411933237319:Nat:=0
noncomputable def PySem.W.Fast.tw13310694236040206700:Nat:=0
noncomputable def PySem.W.Fast.tw12342738629590371432:Nat:=0
noncomputable def PySem.W.Fast.tw5237694035329276796:Nat:=0
noncomputable def PySem.W.Fast.tw16011945153149330735:Nat:=0
noncomputable def PySem.W.Fast.tw7436972649658276653:Nat:=0
noncomputable def PySem.W.Fast.tw18072686365826688547:Nat:=0
noncomputable def PySem.W.Fast.tw5861523417266630879:Nat:=0
noncomputable def PySem.W.Fast.tw1880423021465797789:Nat:=0
noncomputable def PySem.W.Fast.tw14659330423950000162:Nat:=0
noncomputable def PySem.W.Fast.tw6786641012560426349:Nat:=0
noncomputable def PySem.W.Fast.tw8058669092520186142:Nat:=0
noncomputable def PySem.W.Fast.tw10449491222812636785:Nat:=0
noncomputable def PySem.W.Fast.tw12794307979800234352:Nat:=0
noncomputable def PySem.W.Fast.tw7375289883390990689:Nat:=0
noncomputable def PySem.W.Fast.tw2123425592193023143:Nat:=0
noncomputable def PySem.W.Fast.tw15622524219986889934:Nat:=0
noncomputable def PySem.W.Fast.tw6157571741285564180:Nat:=0
noncomputable def PySem.W.Fast.tw3394775350956030355:Nat:=0
noncomputable def PySem.W.Fast.tw14294726447803021687:Nat:=0
noncomputable def PySem.W.Fast.tw7357517556701489557:Nat:=0
noncomputable def PySem.W.Fast.tw11037185653809429325:Nat:=0
noncomputable def PySem.W.Fast.tw9953358637332248342:Nat:=0
noncomputable def PySem.W.Fast.tw12278854684380252929:Nat:=0
open PySem PySem.W PyProof.Rows
set_option maxRecDepth 100000 in
set_option maxHeartbeats 0 in
theorem PySem.Challenge.cw_roundlap_k02_answers_holds : PySem.Challenge.rw_roundlap_k02_answers.Holds := by
 w_on; o_law; k_head; (case hw=>w_witness2)
 k_fill
 refine EV.uu (l:=PySem.Challenge.rw_roundlap_k02_answers) (fns:=K02.fns) (vals:=K02.vals) (cls:=K02.cls) (Pd:=K02.Pd) (sub:=fun _ _=>false) (n:=30) (st:=K02.top 48) (x:="_law_script") rfl rfl ⟨rfl,by decide,by decide⟩ (fun w h Y=>PySem.W.kIn_of Y) K02.hP rfl rfl ?T K02.main
 case T =>
  intro w h KX
  refine ⟨?_,?_,?_⟩
  ·unfold K02.fns
   repeat (apply EV.dj.cons; k_is; k_is; k_is; k_is)
   exact EV.dj.nil
  ·unfold K02.vals
   repeat first
    | (apply EV.bY.flat; k_is; constructor)
    | (apply EV.bY.tup; k_is; k_is; decide; (focus (repeat' constructor)))
   exact EV.bY.nil
  ·refine fun x hx _=>EV.dJ.get (l:=EV.dN) ?hNone0 hx
   unfold EV.dN
   repeat (apply EV.dJ.cons; k_is)
   exact EV.dJ.nil
end
