import PyProof.Rows.All
import Wide.All
import OpenK.AllK
import Wide.FinOn
import Lean
import PyProof.EqAt
import PyProof.EqKinds
import PyProof.TupleCall
import PyProof.ListRange
import PyProof.TupleOfSeq
import PySem.Str
import PySem.Eval
import PyProof.NeKinds
import PyProof.ZipIter
import OpenK.KRaise
import OpenK.KOwn
import PyProof.NsDelKeeps
import PyProof.StrOps2
import PyProof.ExcAttrAll.ValueError
import PySem.SetTable
import PyProof.SetScanFacts
import PyProof.TupleKey
import PyProof.SetKind
import PyProof.IsRules
import PyProof.DictKinds
import PyProof.InstSpecial
import PyProof.Rows.SortShellK
import PyProof.WalksS
import PyProof.Walks
import PyProof.Seq
import PyProof.FactsAll.set_1
import PyProof.Comp
import PyProof.CollectWalk
import PyProof.SetNew
import PyProof.FactsAll.set_2
import PyProof.Rows.SetFrom
import PyProof.Rows.SortWalk
import PyProof.ExcBaseAll.ValueError
import PySem.Challenge.RW_roundlap_k24_refused
set_option genSizeOfSpec false
set_option bootstrap.genMatcherCode false
set_option compiler.extract_closed false
set_option genSizeOf false
noncomputable section
open PySem renaming wpAny_bind->Za,wpAny_pure->Zd,wpAny_field->ZW,wpAny_callSpecial?_slot->ZY,wpAny_call_entry->Z4,wpAny_setField_rec->Z5,wpAny_truthy_bool->Xd,wpAny_newObj_type->Xe,wpAny_holding->Xg,wpAny_Call_Name_kw->Xp,wpAny_mono->Xu,sizeLine_eq->XA,wpAny_seqItems->XC,wpAny_setState_of->XG,codeAny_builtin->XI,wpAny_attempt->XX,wpAny_rule->X2,wpAny_pyIter_tuple->X4,call_meets->Qd,mem_of_lookup->Qk,wpAny_of_eq->Qt,wpAny_forIn_list->QD,wpAny_askSetting->QF,plainId_quiet->QG,wpAny_execs_nil->QI,wpAny_ite_false->QJ,codeAny_mono->QL,wpAny_setField->QS,wpAny_pyIter_list->QV,richCompare_meets_room->QY,wpAny_isInstance->Q1,wpAny_loadName_local->Q6,wpAny_typeOf->Q8,wpAny_updateSeq_pair->Wh,codeAny_call_builtin->Wl
open List renaming getElem?_eq_getElem->Zb,getElem?_eq_some_iff->Zf,size_toArray->Zh,length_map->Zi,mem_cons->Zm,mem_cons_self->Zp,take_length->Zq,mem_cons_of_mem->Zr,append_assoc->Zt,getD_eq_getElem?_getD->Zu,mem_of_getElem?->ZB,getElem?_append_left->ZF,length_append->ZG,getElem?_of_mem->ZH,getElem?_append_right->ZI,getElem?_map->ZJ,not_mem_nil->ZM,mem_singleton->ZN,mem_map->ZP,mem_append->ZQ,getElem?_set_ne->ZR,length_range->ZS,map_cons->ZT,mem_append_right->ZV,mem_range->ZZ,length_cons->Z0,lookup_cons->Z1,replicate_succ->Z3,all_eq_true->Z7,filterMap_cons->Z8,length_replicate->Z9,nodup_cons->Xh,getElem?_set_self->Xi,drop_eq_getElem_cons->Xk,append_nil->Xn,length_eq_zero_iff->Xq,getElem_mem->Xr,getElem?_replicate->XD,nil_append->XH,length_singleton->XN,getElem?_eq_none->XO,length_set->XS,flatten_cons->XU,length_take->XZ,map_map->X3,lookup_cons_self->X8,pairwise_iff_getElem->Qe,cons_append->Qg,prefix_refl->Qj,all_cons->Qm,mem_filterMap->Qn,length_nil->Qp,mem_replicate->Qq,prefix_append->Qr,getElem_map->QA,mem_nil_iff->QE,getElem?_take_of_lt->QM,ext_getElem?->QU,length_drop->QZ,filterMap_eq_map->Q3,mem_filter->Q4,mem_append_left->Q5,foldl_cons->Q9,map_nil->Wb,set_set->Wc,mem_of_mem_take->We,map_append->Wf,forIn_cons->Wg,forIn_nil->Wn,pairwise_cons->Wr,getElem?_set->Wu,nodup_append->Ww,pairwise_map->Wy
open PySem.Heap renaming get?_push_of_some->Zc,lt_size->Zo,get?_push_size->Zy,size_push->Z2,get?_update_self->Xv,get?_update_other->X1
open Bool renaming and_eq_true->Zl,false_eq_true->Zw,false_ne_true->Zx,not_true->XY,eq_iff_iff->X6,or_eq_true->Qs,and_false->Qy,or_eq_false_iff->QC,false_and->Wm,and_self->Ws
open Nat renaming le_refl->Zn,ne_of_lt->ZC,lt_of_lt_of_le->ZE,lt_irrefl->Z6,zero_le->Xj,mod_lt->Xl,le_trans->Xm,ne_of_gt->Xw,le_add_right->Xz,zero_add->XL,lt_succ_of_lt->XV,lt_succ_self->X0,le_of_ble_eq_true->X7,le_of_lt->Qf,succ_pos->Qh,lt_succ_iff->QK,lt_trans->QP,le_succ->QX,succ_le_succ->Q2,lt_of_sub_pos->Wv,lt_trichotomy->Wx,mul_comm->Wz,sub_self->WA,lt_or_ge->WB
open Array renaming getElem?_eq_getElem->Zv,length_toList->ZD,getElem?_eq_some_iff->ZO,getElem?_toList->ZX,getD_eq_getD_getElem?->Xb,getElem_toList->XT,getElem?_eq_none->Qu,perm_iff_toList_perm->QH
open Option.some renaming inj->Zz
open Option renaming map_eq_some_iff->ZA
open Int renaming toNat_natCast->ZL,ofNat_le->Xx,natCast_nonneg->Xy,emod_lt_of_pos->QO,natCast_emod->Q0,ediv_one->Q7,emod_nonneg->Wd
open PyProof.Rows renaming wpS_bind->ZU,callWith_type1->Xo,wpS_pure->Xs,slot_tuple_getitem->XQ,callWith_builtin1->XR,wpS_forRange->QQ
open PySem.Around renaming under_plainId->XB
open PySem.Heap.SameBut renaming update->XJ
open PySem.Calls renaming spliced_cons->XM,Name_function_global->Qa,spliced_nil->Qw
open PyProof.Rows.F renaming plain_set_update_loop->X5,entry_set_update_loop->QR
open PySem.W renaming kia_one->X9,looks_findIn->Wj,of_hideAll->Wo,callWith_K->Wp,mg_of->Wt
open PySem.F renaming slot_tuple_iterator_next->Qc,plainAttrs_list->Ql,slot_enumerate_next->Qz,args_tuple_add_2->QN,entry_tuple_add->QT,slot_tuple_add->QW,slot_int_rmul->Wa,slot_zip_next->Wi
open PySem.Value renaming isInt_shape->Qv
abbrev WC:=PySem.Value->PySem.Shared->Prop
abbrev WD:=List (PySem.Addr×PySem.Obj)
abbrev WE:=List Int
abbrev WG:=PySem.W.Frag
abbrev WH:=List PySem.Value
abbrev WI:=PySem.Shared
abbrev WJ:=List (List Int)
abbrev WK:=PySem.Program
abbrev WL:=List PySem.Addr
abbrev WM:=PySem.Str->Option PySem.Value
abbrev WN:=PySem.World
abbrev WO:=Array (Int×PySem.Value)
abbrev WP:=List PySem.Str
abbrev WQ:=Array PySem.Value
abbrev WR:=PySem.Expr
abbrev WS:=List PySem.Expr
noncomputable abbrev Ze:=@if_pos
noncomputable abbrev Zg:=@if_neg
noncomputable abbrev Zj:=@decide_eq_true
noncomputable abbrev Zk:=@of_decide_eq_true
noncomputable abbrev Zs:=@decide_eq_false
noncomputable abbrev ZK:=@if_false
noncomputable abbrev Xa:=@if_true
noncomputable abbrev Xf:=@or_false
noncomputable abbrev Xt:=@beq_eq_false_iff_ne
noncomputable abbrev XE:=@decide_eq_true_eq
noncomputable abbrev Qb:=@congrArg
noncomputable abbrev Qi:=@beq_self_eq_true
noncomputable abbrev Qo:=@beq_false_of_ne
noncomputable abbrev Qx:=@bne_self_eq_false
noncomputable abbrev QB:=@beq_iff_eq
noncomputable abbrev Wq:=@of_decide_eq_false
set_option Elab.async false
set_option linter.all false
set_option maxRecDepth 100000
namespace L2
open PySem PySem.Spec PyProof.Rows
abbrev Key:=Sum Int Str
noncomputable def uZ:Key->Value->Bool
 | .inl k,v=>Value.isInt k v
 | .inr x,v=>Value.isStrOf x v
noncomputable def E6(w:WN):Key->Int
 | .inl k=>hashInt k
 | .inr x=>hashStr w x
theorem eS:∀{k:Key} {v:Value},uZ k v=true->(∃i t,k=Sum.inl i/\v=Value.int i t)\/(∃x t,k=Sum.inr x/\v=Value.str x t)
 | .inl i,v,h=>by
  obtain⟨t,e⟩:=Qv (k:=i) (v:=v) h;exact .inl ⟨i,t,rfl,e⟩
 | .inr x,v,h=>by
  obtain⟨t,e⟩:=Value.isStrOf_shape (x:=x) (v:=v) h;exact .inr ⟨x,t,rfl,e⟩
theorem Ef(a b:Int):decide ((Sum.inl a:Key)=Sum.inl b)=(a==b):=by
 by_cases e:a=b
 ·subst e; simp
 ·have h:¬(Sum.inl a:Key)=Sum.inl b:=λq=>e (Sum.inl.inj q)
  rw[Zs h];exact(Xt.mpr e).symm
theorem HL(a b:Str):decide ((Sum.inr a:Key)=Sum.inr b)=decide (a=b):=by
 by_cases e:a=b
 ·subst e; simp
 ·have h:¬(Sum.inr a:Key)=Sum.inr b:=λq=>e (Sum.inr.inj q)
  rw[Zs h,Zs e]
theorem HJ(a:Int)(b:Str):decide ((Sum.inl a:Key)=Sum.inr b)=false:=Zs (λq=>nomatch q)
theorem IY(a:Str)(b:Int):decide ((Sum.inr a:Key)=Sum.inl b)=false:=Zs (λq=>nomatch q)
noncomputable def l6(prog:WK)(w:WN):PySem.KeyKind prog w Key where
 is:=uZ
 hash:=E6 w
 inj:=λv a b ha hb=>by
  rcases eS ha with⟨i,t,rfl,rfl⟩|⟨x,t,rfl,rfl⟩
  ·rcases eS hb with⟨j,u,rfl,e⟩|⟨y,u,rfl,e⟩
   ·injection e with e1 _; rw[e1]
   ·exact nomatch e
  ·rcases eS hb with⟨j,u,rfl,e⟩|⟨y,u,rfl,e⟩
   ·exact nomatch e
   ·injection e with e1 _; rw[e1]
 byValue:=λk v h=>by
  rcases eS h with⟨i,t,rfl,rfl⟩|⟨x,t,rfl,rfl⟩<;>rfl
 pyHash:=λhv h=>by
  rcases eS hv with⟨i,t,rfl,rfl⟩|⟨x,t,rfl,rfl⟩
  ·exact wpAny_pyHash_int h
  ·exact wpAny_pyHash_str h
 eqBool:=λhu hv h=>by
  rcases eS hu with⟨i,t,rfl,rfl⟩|⟨x,t,rfl,rfl⟩
  ·rcases eS hv with⟨j,u,rfl,rfl⟩|⟨y,u,rfl,rfl⟩
   ·rw[Ef] at h; exact wpAny_eqBool_int h
   ·rw[HJ] at h; exact SeqAt.EqAt.int_str i t y u _ _ _ _ h
  ·rcases eS hv with⟨j,u,rfl,rfl⟩|⟨y,u,rfl,rfl⟩
   ·rw[IY] at h; exact SeqAt.EqAt.str_int x t j u _ _ _ _ h
   ·rw[HL] at h; exact wpAny_eqBool_str h
 «strs»:=λk x t v h=>by
  rcases eS h with⟨i,u,rfl,e⟩|⟨y,u,rfl,e⟩
  ·exact nomatch e
  ·injection e with e1 _;subst e1;cases v<;>rfl
end L2
namespace L2
open PySem PySem.Spec PyProof.Rows
inductive V where
 | non|bl (b:Bool)|int (i:Int)|str (x:Str)|byt (b:Array UInt8)|flt (b:UInt64)|ref (a:Addr)|ty (n:String)
 deriving DecidableEq
abbrev WU:=List (List Key×V)
abbrev WT:=List V
noncomputable def RelV:V->Value->Prop
 | .non,u=>u=Value.none
 | .bl b,u=>u=Value.bool b
 | .int i,u=>∃t,u=Value.int i t
 | .str x,u=>∃t,u=Value.str x t
 | .byt b,u=>∃t,u=Value.bytes b t
 | .flt b,u=>∃t,u=Value.float b t
 | .ref a,u=>u=Value.ref a
 | .ty n,u=>u=Value.type n
abbrev Vals:List V->List Value->Prop:=Paired RelV
theorem Vals.length{xs:WT}{us:WH}(r:Vals xs us):xs.length=us.length:=Paired.length r
theorem Vals.get:∀{xs:WT} {us:WH} {i:Nat} {x:V},Vals xs us->xs[i]?=some x->∃u,us[i]?=some u/\RelV x u
 | _,_,_,_,.nil,e=>by simp at e
 | _,_,0,_,.cons r _,e=>by simp at e; subst e; exact⟨_,rfl,r⟩
 | _,_,i+1,x,.cons _ t,e=>by
  obtain⟨u,h1,h2⟩:=Vals.get (i:=i) (x:=x) t (by simpa using e);exact⟨u,by simpa using h1,h2⟩
theorem Vals.set{x:V}{u:Value}(r:RelV x u):∀{xs:WT} {us:WH} (i:Nat),Vals xs us->Vals (xs.set i x) (us.set i u)
 | _,_,_,.nil=>.nil
 | _,_,0,.cons _ t=>.cons r t
 | _,_,i+1,.cons q t=>.cons q (Vals.set r i t)
theorem Vals.append:∀{xs ys:WT} {us ws:WH},Vals xs us->Vals ys ws->Vals (xs++ys) (us++ws)
 | _,_,_,_,.nil,s=>s
 | _,_,_,_,.cons r t,s=>.cons r (Vals.append t s)
theorem Vals.take:∀{xs:WT} {us:WH} (n:Nat),Vals xs us->Vals (xs.take n) (us.take n)
 | _,_,0,_=>.nil
 | _,_,_+1,.nil=>.nil
 | _,_,n+1,.cons r t=>.cons r (Vals.take n t)
theorem Vals.drop:∀{xs:WT} {us:WH} (n:Nat),Vals xs us->Vals (xs.drop n) (us.drop n)
 | _,_,0,r=>r
 | _,_,_+1,.nil=>.nil
 | _,_,n+1,.cons _ t=>Vals.drop n t
noncomputable def uK:Option V->Option Value->Prop
 | some v,some u=>RelV v u
 | none,none=>True
 | _,_=>False
noncomputable def KV{κ:Type}:List (κ×V)->List (κ×Value)->Prop:=Paired λ(p:κ×V) (q:κ×Value)=>p.1=q.1/\RelV p.2 q.2
noncomputable def kV:Key->V
 | .inl i=>.int i
 | .inr x=>.str x
inductive HO where
 /-- a list -/
 | lst (xs:WT)
 /-- a tuple (never changes) -/
 | tup (xs:WT)
 /-- a dict whose keys are ints and texts; one whose keys are tuples of ints and texts (the empty one is both) -/
 | dK (kvs:List (Key×V))|dT (kvs:WU)
 /-- a set of ints: its members,its size -/
 | set (S:Int->Bool) (n:Nat)
 /-- an instance of the class at C,its dict at dx,its attributes -/
 | ins (C dx:Addr) (fs:List (Str×V))
 /-- the dict of the instance at x -/
 | own (x:Addr)
 /-- the dict of an exception -/
 | xd (fs:List (Str×V))
 /-- a bound method,f of x -/
 | met (f x:Addr)
 /-- a range object lo,lo+1,.. below hi -/
 | rng (lo hi:Int)
 /-- a thing that is known to the object (the script; a dict while a loop walks it): read,never written while it is so -/
 | frz (o:Obj) (u:HO)
 /-- a code object's table -/
 | tbl (ps:WQ)
 /-- any other thing,by what is true of its one object (a def of one's own: SetO a S n:=HO.ext λh=>..) -/
 | ext (φ:Heap->Prop)
abbrev Hp:=Addr->Option HO
noncomputable def upd(H:Hp)(a:Addr)(o:HO):Hp:=λb=>if b=a then some o else H b
theorem cT{H:Hp}{a:Addr}{o:HO}:upd H a o a=some o:=by unfold upd; rw[Ze rfl]
theorem aF{H:Hp}{a b:Addr}{o:HO}(h:b≠a):upd H a o b=H b:=by unfold upd; rw[Zg h]
theorem r_{H:Hp}{a b:Addr}{o u:HO}(h:H a=some o)(h':H b=some u)(d:o≠u):a≠b:=by
 intro e; subst e; rw[h] at h'; exact d (Zz h')
theorem bu{H:Hp}{a b:Addr}{o:HO}(h:H a=some o)(h':H b=none):a≠b:=by
 intro e; subst e; rw[h] at h'; cases h'
section
variable(P:WK)(w:WN)
noncomputable def bY(H:Hp)(h:Heap)(a:Addr):HO->Prop
 | .lst xs=>xs.length<=sizeLine/\∃(its:WH) (n:Nat),Vals xs its/\h.get? a=some { cls:=.type "list",data:=.seq its.toArray n }
 | .tup xs=>xs.length<=sizeLine/\∃its:List Value,Vals xs its/\IsTup h a its.toArray
 | .dK kvs=>kvs.length<=sizeLine/\(a==sysModules)=false/\∃vs,KV kvs vs/\h.DictOf (l6 P w) a vs
 | .dT kvs=>kvs.length<=sizeLine/\(a==sysModules)=false/\∃xs:List (List Key×Addr×Value),
   Paired (λ(p:List Key×V) (q:List Key×Addr×Value)=>p.1=q.1/\H q.2.1=some (.tup (p.1.map kV))/\RelV p.2 q.2.2) kvs xs /\
   ∃o es ep,h.get? a=some o/\o.ExactDict/\o.data=.dict es ep/\es.toList=xs.map (entryOfKey (tupleKind (l6 P w)))/\(xs.map (·.1)).Nodup
 | .set S n=>h.SetOf (intKind P w) a S n
 | .ins C dx fs=>H dx=some (.own a)/\fs.length<=1000/\dx≠a/\h.get? a=some (PySem.W.instObj C dx) /\
   ∃mA,h.Ns1 dx mA/\(∀f,uK (fs.lookup f) (mA f))/\PySem.Within mA (fs.map (·.1))
 | .own _=>∃o,h.get? a=some o
 | .xd fs=>∃mA,h.Ns1 a mA/\∀f,uK (fs.lookup f) (mA f)
 | .rng lo hi=>∃t u v,h.get? a=some { cls:=.type "range",data:=.fields #[.int lo t,.int hi u,.int 1 v] }
 | .frz o u=>h.get? a=some o/\bY H h a u
 | .tbl ps=>h.get? a=some { cls:=.none,data:=.fields ps }
 | .met f x=>h.get? a=some (PySem.W.methodObj (.ref f) (.ref x))
 | .ext φ=>φ h/\(∃o,h.get? a=some o)/\∀h1 h2:Heap,φ h1->(∀o,h1.get? a=some o->h2.get? a=some o)->φ h2
def HOk(H:Hp)(h:Heap):Prop:=∀a o,H a=some o->bY P w H h a o
end
section
variable{P:WK}{w:WN}{H H':Hp}{h h':Heap}{a:Addr}{o:HO}
theorem bY.lt(x:bY P w H h a o):a<h.objs.size:=by
 cases o with
 | lst xs=>obtain⟨_,_,_,_,e⟩:=x; exact Zo e
 | tup xs=>obtain⟨_,_,_,p⟩:=x; exact p.lt
 | dK kvs=>obtain⟨_,_,_,_,o,_,_,e,_⟩:=x; exact Zo e
 | dT kvs=>obtain⟨_,_,_,_,o,_,_,e,_⟩:=x; exact Zo e
 | set S n=>obtain⟨o,_,_,_,e,_⟩:=x; exact Zo e
 | ins C dx fs=>obtain⟨_,_,_,e,_⟩:=x; exact Zo e
 | own y=>obtain⟨_,e⟩:=x; exact Zo e
 | xd fs=>obtain⟨_,⟨_,_,_,e,_⟩,_⟩:=x; exact Zo e
 | rng lo hi=>obtain⟨_,_,_,e⟩:=x; exact Zo e
 | frz ob u=>obtain⟨e,_⟩:=x; exact Zo e
 | tbl ps=>exact Zo (show h.get? a=some _ from x)
 | met f y=>exact Zo (show h.get? a=some _ from x)
 | ext φ=>obtain⟨_,⟨_,e⟩,_⟩:=x; exact Zo e
theorem Paired.vC{α β:Type}{F G:α->β->Prop}:∀{l₁:List α} {l₂:List β},Paired F l₁ l₂->(∀a b,F a b->G a b)->Paired G l₁ l₂
 | _,_,.nil,_=>.nil
 | _,_,.cons r t,f=>.cons (f _ _ r) (Paired.vC t f)
theorem bY.stay(x:bY P w H h a o)(k:∀b u,(b=a\/H b=some (.own a))->h.get? b=some u->h'.get? b=some u)
  (ho:∀b,H b=some (.own a)->H' b=some (.own a)) (ht:∀b xs,H b=some (.tup xs)->H' b=some (.tup xs)):bY P w H' h' a o:=by
 induction o with
 | lst xs=>obtain⟨z,its,n,r,e⟩:=x; exact⟨z,its,n,r,k _ _ (.inl rfl) e⟩
 | tup xs=>obtain⟨z,its,r,ob,e,c⟩:=x; exact⟨z,its,r,ob,k _ _ (.inl rfl) e,c⟩
 | dK kvs=>obtain⟨z,y,vs,r,ob,es,ep,e,c⟩:=x; exact⟨z,y,vs,r,ob,es,ep,k _ _ (.inl rfl) e,c⟩
 | dT kvs =>
  obtain⟨z,y,xs,r,ob,es,ep,e,c⟩:=x;exact⟨z,y,xs,Paired.vC r λp q z=>⟨z.1,ht _ _ z.2.1,z.2.2⟩,ob,es,ep,k _ _ (.inl rfl) e,c⟩
 | set S n=>obtain⟨ob,es,ep,t,e,c⟩:=x; exact⟨ob,es,ep,t,k _ _ (.inl rfl) e,c⟩
 | ins C dx fs =>
  obtain⟨d,z,ne,e,mA,⟨od,es,ep,e2,c⟩,r⟩:=x;exact⟨ho _ d,z,ne,k _ _ (.inl rfl) e,mA,⟨od,es,ep,k _ _ (.inr d) e2,c⟩,r⟩
 | own y=>obtain⟨ob,e⟩:=x; exact⟨ob,k _ _ (.inl rfl) e⟩
 | xd fs=>obtain⟨mA,⟨od,es,ep,e,c⟩,r⟩:=x; exact⟨mA,⟨od,es,ep,k _ _ (.inl rfl) e,c⟩,r⟩
 | rng lo hi=>obtain⟨t,u,v,e⟩:=x; exact⟨t,u,v,k _ _ (.inl rfl) e⟩
 | frz ob u ih=>obtain⟨e,q⟩:=x; exact⟨k _ _ (.inl rfl) e,ih q⟩
 | tbl ps =>
  have e:h.get? a=some { cls:=.none,data:=.fields ps }:=x;show h'.get? a=some { cls:=.none,data:=.fields ps };exact k a _ (.inl rfl) e
 | met f y =>
  have e:h.get? a=some (PySem.W.methodObj (.ref f) (.ref y)):=x;show h'.get? a=some (PySem.W.methodObj (.ref f) (.ref y));exact k a _ (.inl rfl) e
 | ext φ=>obtain⟨p,⟨o,e⟩,st⟩:=x; exact⟨st _ _ p λo q=>k _ _ (.inl rfl) q,⟨o,k _ _ (.inl rfl) e⟩,st⟩
theorem HOk.lt(x:HOk P w H h)(e:H a=some o):a<h.objs.size:=(x a o e).lt
theorem HOk.fresh(x:HOk P w H h)(e:h.objs.size<=a):H a=none:=by
 cases q:H a with
 | none=>rfl
 | some u=>exact absurd (ZE (x.lt q) e) (Z6 _)
theorem HOk.kept(x:HOk P w H h)(k:∀b u,h.get? b=some u->h'.get? b=some u):HOk P w H h':=λa o e =>
 (x a o e).stay (λb u _ q=>k b u q) (λ_ q=>q) λ_ _ q=>q
theorem HOk.laid(x:HOk P w H h)(k:∀b u,h.get? b=some u->h'.get? b=some u)(hp:h.objs.size<=a)(new:bY P w (upd H a o) h' a o):HOk P w (upd H a o) h':=λb u e=>by
 have hn:=x.fresh hp
 by_cases hb:b=a
 ·subst hb; rw[cT] at e; cases e; exact new
 ·rw[aF hb] at e;exact(x b u e).stay (λc v _ q=>k c v q) (λc q=>by rw[aF (bu q hn)]; exact q) λc xs q=>by rw[aF (bu q hn)]; exact q
end
def Rd(H:Hp)(a:Addr)(u:HO):Prop:=H a=some u\/∃o,H a=some (.frz o u)
theorem Rd.ok{P:WK}{w:WN}{H:Hp}{h:Heap}{a:Addr}{u:HO}(r:Rd H a u)(x:HOk P w H h):bY P w H h a u:=by
 rcases r with r|⟨o,r⟩
 ·exact x a u r
 ·obtain⟨_,q⟩:=x a _ r;exact q
noncomputable def Mut:Option HO->Prop
 | some (.lst _)=>True
 | some (.dK _)=>True
 | some (.dT _)=>True
 | some (.set _ _)=>True
 | some (.ins _ _ _)=>True
 | some (.ext _)=>True
 | _=>False
section
variable{P:WK}{w:WN}{H:Hp}{h h':Heap}{x e:Addr}{o':HO}
theorem HOk.write(ok:HOk P w H h)(mu:Mut (H x))(he:e=x\/H e=some (.own x))(k:∀b u,b≠e->h.get? b=some u->h'.get? b=some u)(heo:∃u,h'.get? e=some u)
  (new:bY P w (upd H x o') h' x o'):HOk P w (upd H x o') h':=λb u q=>by
 have nown:∀c y,H c=some (.own y)->c≠x:=λc y r z=>by subst z; rw[r] at mu; exact mu
 have ntup:∀c xs,H c=some (.tup xs)->c≠x:=λc xs r z=>by subst z; rw[r] at mu; exact mu
 by_cases hb:b=x
 ·subst hb; rw[cT] at q; cases q; exact new
 ·rw[aF hb] at q
  by_cases hbe:b=e
  ·have q':H b=some (.own x):=by
    rcases he with z|z
    ·exact absurd (hbe.trans z) hb
    ·rw[hbe]; exact z
   rw[q] at q'; cases q';obtain⟨v,hv⟩:=heo;exact⟨v,by rw[hbe]; exact hv⟩
  ·refine(ok b u q).stay (λc v hc r=>k c v ?_ r) (λc r=>by rw[aF (nown c b r)]; exact r) λc xs r=>by rw[aF (ntup c xs r)]; exact r
   rcases hc with rfl|hc
   ·exact hbe
   ·rintro rfl;rcases he with z|z
    ·exact nown c b hc z
    ·rw[hc] at z; cases z; exact hb rfl
end
structure Un(fs ex:WL)(H H':Hp)(h h':Heap):Prop where
 keep:∀b o,h.get? b=some o->H b=none->b∉fs->b∉ex->h'.get? b=some o
 slot:∀b o,h.get? b=some o->H b=none->b∈fs->b∉ex->∃sl,h'.get? b=some { o with slots:=sl }
 free:∀b o,h.get? b=some o->H b=none->b∉ex->H' b=none
 there:∀b o,h.get? b=some o->b∉ex->∃o',h'.get? b=some o'
 tups:∀b xs,H b=some (.tup xs)->H' b=some (.tup xs)
 frzs:∀b o u,H b=some (.frz o u)->H' b=some (.frz o u)
 tbls:∀b ps,H b=some (.tbl ps)->∃more,H' b=some (.tbl (ps++more))
section
variable{fs fs' ex ex':WL}{H H1 H2:Hp}{h h1 h2 h':Heap}{a x e:Addr}{o:HO}
theorem Un.any(u:Un fs ex H H1 h h1){b:Addr}{ob:Obj}(q:h.get? b=some ob)(n:H b=none)(hx:b∉ex):∃sl,h1.get? b=some { ob with slots:=sl }:=by
 by_cases hb:b∈fs
 ·exact u.slot b ob q n hb hx
 ·exact⟨ob.slots,u.keep b ob q n hb hx⟩
theorem Un.kept(k:∀b u,h.get? b=some u->h'.get? b=some u):Un fs ex H H h h' :=
 ⟨λb ob q _ _ _=>k b ob q,λb ob q _ _ _=>⟨ob.slots,k b ob q⟩,λ_ _ _ n _=>n,λb ob q _=>⟨ob,k b ob q⟩,λ_ _ q=>q,λ_ _ _ q=>q,λ_ ps q=>⟨#[],by rw[q]; simp⟩⟩
theorem Un.refl:Un fs ex H H h h:=Un.kept λ_ _ q=>q
theorem Un.laid(k:∀b u,h.get? b=some u->h'.get? b=some u)(hp:h.objs.size<=a)(hn:H a=none):Un fs ex H (upd H a o) h h' where
 keep:=λb u q _ _ _=>k b u q
 slot:=λb u q _ _ _=>⟨u.slots,k b u q⟩
 free:=λb u q n _=>by rw[aF (ZC (ZE (Zo q) hp))]; exact n
 there:=λb u q _=>⟨u,k b u q⟩
 tups:=λb xs q=>by rw[aF (bu q hn)]; exact q
 frzs:=λb u xs q=>by rw[aF (bu q hn)]; exact q
 tbls:=λb ps q=>⟨#[],by rw[aF (bu q hn),q]; simp⟩
theorem Un.write(mu:Mut (H x))(he:e=x\/H e=some (.own x))(k:∀b u,b≠e->h.get? b=some u->h'.get? b=some u)(heo:∃u,h'.get? e=some u):Un fs ex H (upd H x o) h h':=by
 have hx:∀b,H b=none->b≠x:=λb n z=>by subst z; rw[n] at mu; exact mu
 have hb:∀b,H b=none->b≠e:=λb n z=>by
  subst z;rcases he with r|r
  ·exact hx b n r
  ·rw[n] at r; cases r
 have hm:∀b u,H b=some u->¬Mut (some u)->b≠x:=λb u q nm z=>by subst z; rw[q] at mu; exact nm mu
 refine⟨λb u q n _ _=>k b u (hb b n) q,λb u q n _ _=>⟨u.slots,k b u (hb b n) q⟩,λb u q n _=>by rw[aF (hx b n)]; exact n,λb u q _=>?_,
  λb xs q=>by rw[aF (hm b _ q λz=>z)]; exact q,λb u xs q=>by rw[aF (hm b _ q λz=>z)]; exact q,λb ps q=>⟨#[],by rw[aF (hm b _ q λz=>z),q]; simp⟩⟩
 by_cases hbe:b=e
 ·subst hbe; exact heo
 ·exact⟨u,k b u hbe q⟩
end
noncomputable def trk(h:Heap)(H:Hp):List Addr:=(List.range h.objs.size).filter λa=>(H a).isSome
noncomputable def ef(h:Heap)(H:Hp):Heap:=PySem.W.hideAll h (trk h H)
theorem Bw(h:Heap)(H:Hp):(ef h H).objs.size=h.objs.size:=PySem.W.hideAll_size _ _
theorem I_{h:Heap}{H:Hp}{b:Addr}{o:Obj}(e:h.get? b=some o)(n:H b=none):(ef h H).get? b=some o :=
 PySem.W.hideAll_get _ e λhm=>by
  have q:(H b).isSome=true:=(Q4.mp hm).2;rw[n] at q; simp at q
theorem z8{h:Heap}{H:Hp}{b:Addr}{o:Obj}(e:(ef h H).get? b=some o):h.get? b=some o/\H b=none:=by
 have e':h.get? b=some o:=Wo (trk h H) e;refine⟨e',?_⟩
 cases q:H b with
 | none=>rfl
 | some x =>
  have hm:b∈trk h H:=Q4.mpr ⟨ZZ.mpr (Zo e'),by simp[q]⟩;have z:(ef h H).get? b=none:=PySem.W.hideAll_none (trk h H) hm;rw[z] at e; cases e
end L2
namespace L2
open PySem PySem.Spec PyProof.Rows
structure Mod(K:WG)(mg:WM)(base:Heap):Prop where
 kin:K.In base
 glob:base.Ns mainGlobals mg
 blt:∃mb,base.Ns builtinsNs mb/\∀x:Str,x≠"__name__"->mb x=bootBuiltins x
 nolimit:base.NoLimit
structure Cx where
 prog:Program
 w:World
 K:PySem.W.Frag
 mg:Str->Option Value
 base:Heap
 A:Around
 N:List Str
 s₀:Shared
 H₀:Hp
 env:Env
 outer:List Env
 stack:List Env
 ex:List Addr
 fn:Str->Bool
 calm:Bool
 pn:List (Addr×Obj)
 xe:Value->Shared->Prop
noncomputable def frs(l:List Env):List Addr:=l.filterMap (·.frame)
abbrev Cx.fs(X:Cx):List Addr:=frs X.outer
def Vis(sc:Scope)(x:Str):Prop:=sc.names.lookup x=some .local\/sc.names.lookup x=some .cell\/sc.names.lookup x=some .free
def Loc(sc:Scope)(x:Str):Prop:=sc.names.lookup x=some .local\/sc.names.lookup x=some .cell
noncomputable def Look(env:Env)(h:Heap)(m:WM)(x:Str)(u:Value):Prop :=
 (env.kindOf x=some .local/\m x=some u)\/((env.kindOf x=some .cell\/env.kindOf x=some .free)/\∃c,env.cells.lookup x=some c/\h.IsCell c (some u))
structure Cx.Ok(X:Cx):Prop where
 mod:Mod X.K X.mg X.base
 kind:X.env.scope.kind=.function
 glob:X.env.globals=mainGlobals
 blt:X.env.builtins=builtinsNs
 above:X.s₀.heap.objs.size<=X.env.locals
 inj:∀x y c,X.env.cells.lookup x=some c->X.env.cells.lookup y=some c->x=y
 has:∀x,(X.env.kindOf x=some .cell\/X.env.kindOf x=some .free)->∃c,X.env.cells.lookup x=some c
 cab:∀x c,X.fn x=true->X.env.cells.lookup x=some c->X.s₀.heap.objs.size<=c
 hd:X.calm=true->X.A.handled=none
 frames:X.A.frames=some X.stack
 stk:X.stack=X.outer\/(X.stack=X.env::X.outer/\X.env.frame=some X.env.locals)
 exf:∀b∈X.ex,b≠X.env.locals/\∀x c,X.env.cells.lookup x=some c->c≠b
 bs:∀b o,X.base.get? b=some o->X.s₀.heap.get? b=some o/\X.H₀ b=none
 bsz:X.base.objs.size<=X.s₀.heap.objs.size
 noex:∀b o,X.base.get? b=some o->b∉X.ex
 exfs:∀b∈X.ex,b∉X.fs
 cP:X.s₀.heap.FunFrames X.base X.outer
 frf:∀b∈X.fs,X.H₀ b=none
structure Inv(X:Cx)(pins:WD)(σ:List (Option V))(H:Hp)(s:WI):Prop where
 ok:X.Ok
 os:s.os=X.s₀.os
 bare:AllBare s.gens
 base:Un X.fs X.ex X.H₀ H X.s₀.heap s.heap
 loc:∃m,s.heap.Ns X.env.locals m/\∀(i:Nat) (x:Str) (v:V),X.N[i]?=some x->σ[i]?=some (some v)->Vis X.env.scope x->∃u,RelV v u/\Look X.env s.heap m x u
 cell:∀x c,X.env.cells.lookup x=some c->∃v,s.heap.IsCell c v
 free:H X.env.locals=none
 freeC:∀x c,X.env.cells.lookup x=some c->H c=none
 pin:∀p∈X.pn++pins,s.heap.get? p.1=some p.2/\H p.1=none/\p.1≠X.env.locals/\p.1∉X.fs/\∀v,p.2.data≠.cell v
 hok:HOk X.prog X.w H s.heap
 len:σ.length=X.N.length
section
variable{X:Cx}{pins:WD}{σ:List (Option V)}{H H':Hp}{s:WI}{h':Heap}
theorem Cx.Ok.Cv(ok:X.Ok){b:Addr}{o:Obj}(e:X.base.get? b=some o):b∉X.fs:=λhb=>by
 have:=(ok.cP.mem hb).1;rw[e] at this; cases this
theorem Inv.bs(I:Inv X pins σ H s):∀b o,X.base.get? b=some o->s.heap.get? b=some o/\H b=none:=λb o e =>
 ⟨I.base.keep b o (I.ok.bs b o e).1 (I.ok.bs b o e).2 (I.ok.Cv e) (I.ok.noex b o e),I.base.free b o (I.ok.bs b o e).1 (I.ok.bs b o e).2 (I.ok.noex b o e)⟩
theorem Inv.bk(I:Inv X pins σ H s):∀b o,X.base.get? b=some o->s.heap.get? b=some o:=λb o e=>(I.bs b o e).1
theorem Inv.mod(I:Inv X pins σ H s):Mod X.K X.mg X.base:=I.ok.mod
theorem Inv.kIn(I:Inv X pins σ H s):X.K.In s.heap:=I.ok.mod.kin.keeps I.bk
theorem Inv.lt(I:Inv X pins σ H s):X.env.locals<s.heap.objs.size:=let⟨_,hn,_⟩:=I.loc; hn.lt
theorem Inv.sz(I:Inv X pins σ H s):X.s₀.heap.objs.size<=s.heap.objs.size:=Xm I.ok.above (Qf I.lt)
theorem Inv.CG(I:Inv X pins σ H s){a:Addr}(h:s.heap.objs.size<=a):a∉X.fs:=λhb=>by
 obtain⟨_,o,ho,_⟩:=I.ok.cP.mem hb;exact absurd (ZE (Zo ho) (Xm I.sz h)) (Z6 _)
theorem Inv.cne(I:Inv X pins σ H s):∀x c,X.env.cells.lookup x=some c->c≠X.env.locals:=λx c e z=>by
 obtain⟨v,o,ho,hd⟩:=I.cell x c e;obtain⟨m,⟨o',es,ep,ho',hd',_⟩,_⟩:=I.loc;rw[z,ho'] at ho; cases ho; rw[hd'] at hd; cases hd
theorem Inv.cP(I:Inv X pins σ H s):s.heap.FunFrames X.base X.outer:=by
 have all:∀(l:List Env),(∀b∈frs l,b∈X.fs)->X.s₀.heap.FunFrames X.base l->s.heap.FunFrames X.base l:=by
  intro l
  induction l with
  | nil=>intro _ _; trivial
  | cons env r ih =>
   intro hs hl;obtain⟨hk,⟨L,o,hf,hn,ho,hd⟩,hr⟩:=hl;have hL:L∈X.fs:=hs L (by unfold frs; rw[Z8,hf]; exact Zp);obtain⟨sl,e⟩:=I.base.slot L o ho (I.ok.frf L hL) hL λz=>I.ok.exfs L z hL
   exact⟨hk,⟨L,_,hf,hn,e,hd⟩,ih (λb hb=>hs b (by unfold frs; rw[Z8,hf]; exact Zr _ hb)) hr⟩
 exact all X.outer (λ_ hb=>hb) I.ok.cP
theorem Inv.stack(I:Inv X pins σ H s):s.heap.FunFrames X.base X.stack:=by
 rcases I.ok.stk with e|⟨e,hf⟩
 ·rw[e]; exact I.cP
 ·rw[e];obtain⟨m,hn,_⟩:=I.loc;refine .cons (by rw[I.ok.kind]; decide) hf hn ?_ I.cP;exact Heap.get?_none_of_le (Xm I.ok.bsz I.ok.above)
theorem Inv.mC(I:Inv X pins σ H s):∀b∈frs X.stack,b∈X.env.locals::X.fs:=λb hb=>by
 rcases I.ok.stk with e|⟨e,hf⟩
 ·rw[e] at hb; exact Zr _ hb
 ·rw[e] at hb;unfold frs at hb;rw[Z8,hf] at hb;exact hb
theorem Inv.l7(I:Inv X pins σ H s):∀b∈frs X.stack,H b=none:=λb hb=>by
 rcases Zm.mp (I.mC b hb) with e|hb
 ·rw[e]; exact I.free
 ·obtain⟨_,o,ho,_⟩:=I.ok.cP.mem hb;exact I.base.free b o ho (I.ok.frf b hb) λz=>I.ok.exfs b z hb
theorem Inv.step{g':Array GenState}{t':Nat}{d':Drawn}{ch:WL}(I:Inv X pins σ H s)
  (hch:∀b∈ch,(b∈X.ex\/X.s₀.heap.objs.size<=b)/\b≠X.env.locals/\(∀x c,X.env.cells.lookup x=some c->c≠b)/\∀p∈X.pn++pins,p.1≠b)
  (keep:∀b o,b≠X.env.locals->b∉X.fs->b∉ch->s.heap.get? b=some o->H b=none->h'.get? b=some o)
  (slot:∀b o,b≠X.env.locals->b∈X.fs->b∉ch->s.heap.get? b=some o->H b=none->∃sl,h'.get? b=some { o with slots:=sl }) (free:∀b o,b∉ch->s.heap.get? b=some o->H b=none->H' b=none)
  (there:∀b o,b∉ch->s.heap.get? b=some o->∃o',h'.get? b=some o')
  (tups:∀b xs,H b=some (.tup xs)->H' b=some (.tup xs)) (frzs:∀b o u,H b=some (.frz o u)->H' b=some (.frz o u)) (tbls:∀b ps,H b=some (.tbl ps)->∃more,H' b=some (.tbl (ps++more)))
  (ns:∀m,s.heap.Ns X.env.locals m->h'.Ns X.env.locals m) (hok:HOk X.prog X.w H' h') (hg:AllBare g') :
  Inv X pins σ H' { s with heap:=h',gens:=g',drawn:=d',toks:=t' }:=by
 have neL:∀b o,X.s₀.heap.get? b=some o->b≠X.env.locals:=λb o e=>ZC (ZE (Zo e) I.ok.above)
 have neC:∀b o,X.s₀.heap.get? b=some o->b∉X.ex->b∉ch:=λb o e hx hb=>by
  rcases(hch b hb).1 with z|z
  ·exact hx z
  ·exact absurd (ZE (Zo e) z) (Z6 _)
 have cellK:∀x c,X.env.cells.lookup x=some c->∀v,s.heap.IsCell c v->h'.IsCell c v:=λx c e v ⟨o,ho,hd⟩=>by
  have nch:c∉ch:=λz=>(hch c z).2.2.1 x c e rfl
  by_cases hc:c∈X.fs
  ·obtain⟨sl,q⟩:=slot c o (I.cne x c e) hc nch ho (I.freeC x c e);exact⟨_,q,hd⟩
  ·exact⟨o,keep c o (I.cne x c e) hc nch ho (I.freeC x c e),hd⟩
 refine⟨I.ok,I.os,hg,⟨λb o e n hb hx=>?_,λb o e n hb hx=>?_,λb o e n hx=>?_,λb o e hx=>?_,λb xs e=>tups b xs (I.base.tups b xs e),λb o xs e=>frzs b o xs (I.base.frzs b o xs e),λb ps e=>?_⟩,?_,λx c e=>?_,?_,λx c e=>?_,λp hp=>?_,hok,I.len⟩
 ·exact keep b o (neL b o e) hb (neC b o e hx) (I.base.keep b o e n hb hx) (I.base.free b o e n hx)
 ·obtain⟨sl,e1⟩:=I.base.slot b o e n hb hx;obtain⟨sl',e2⟩:=slot b _ (neL b o e) hb (neC b o e hx) e1 (I.base.free b o e n hx);exact⟨sl',e2⟩
 ·obtain⟨o',e1⟩:=I.base.there b o e hx;exact free b o' (neC b o e hx) e1 (I.base.free b o e n hx)
 ·obtain⟨o',e1⟩:=I.base.there b o e hx;exact there b o' (neC b o e hx) e1
 ·obtain⟨m1,e1⟩:=I.base.tbls b ps e;obtain⟨m2,e2⟩:=tbls b _ e1;exact⟨m1++m2,by rw[e2,Array.append_assoc]⟩
 ·obtain⟨m,hn,hl⟩:=I.loc;refine⟨m,ns m hn,λi x v e1 e2 e3=>?_⟩;obtain⟨u,r,l⟩:=hl i x v e1 e2 e3;refine⟨u,r,?_⟩;rcases l with l|⟨k,c,e,z⟩
  ·exact .inl l
  ·exact .inr ⟨k,c,e,cellK x c e _ z⟩
 ·obtain⟨v,z⟩:=I.cell x c e;exact⟨v,cellK x c e v z⟩
 ·obtain⟨m,⟨o,_,_,ho,_⟩,_⟩:=I.loc;exact free _ o (λz=>(hch _ z).2.1 rfl) ho I.free
 ·obtain⟨v,o,ho,hd⟩:=I.cell x c e;exact free c o (λz=>(hch c z).2.2.1 x c e rfl) ho (I.freeC x c e)
 ·obtain⟨e,n,ne,nf,d⟩:=I.pin p hp;have nch:p.1∉ch:=λz=>(hch p.1 z).2.2.2 p hp rfl
  exact⟨keep p.1 p.2 ne nf nch e n,free p.1 p.2 nch e n,ne,nf,d⟩
theorem Inv.un{t':Nat}(I:Inv X pins σ H s)(u:Un X.fs [] H H' s.heap h')(hok:HOk X.prog X.w H' h'):Inv X pins σ H' { s with heap:=h',toks:=t' }:=by
 obtain⟨m,⟨o,es,ep,ho,r⟩,_⟩:=id I.loc;obtain⟨sl,hL⟩:=u.any ho I.free (by simp)
 exact I.step (g':=s.gens) (d':=s.drawn) (ch:=[]) (λ_ z=>nomatch z) (λb o _ hb _ e n=>u.keep b o e n hb (by simp)) (λb o _ hb _ e n=>u.slot b o e n hb (by simp)) (λb o _ e n=>u.free b o e n (by simp)) (λb o _ e=>u.there b o e (by simp)) u.tups u.frzs u.tbls (λm' hm=>by
  obtain⟨o',es',ep',ho',r'⟩:=hm;rw[ho] at ho'; cases ho';exact⟨_,es',ep',hL,r'⟩) hok I.bare
theorem Inv.call{g':Array GenState}{t':Nat}{d':Drawn}{ch:WL}(I:Inv X pins σ H s)(u:Un (frs X.stack) ch H H' s.heap h')(hok:HOk X.prog X.w H' h')(hg:AllBare g')
  (hch:∀b∈ch,(b∈X.ex\/X.s₀.heap.objs.size<=b)/\b≠X.env.locals/\(∀x c,X.env.cells.lookup x=some c->c≠b)/\∀p∈X.pn++pins,p.1≠b) :
  Inv X pins σ H' { s with heap:=h',gens:=g',drawn:=d',toks:=t' }:=by
 obtain⟨m,⟨o,es,ep,ho,r⟩,_⟩:=id I.loc;obtain⟨sl,hL⟩:=u.any ho I.free λz=>(hch _ z).2.1 rfl
 exact I.step (ch:=ch) hch (λb o hL hb hc e n=>u.keep b o e n (λz=>(Zm.mp (I.mC b z)).elim hL hb) hc) (λb o _ _ hc e n=>u.any e n hc) (λb o hc e n=>u.free b o e n hc) (λb o hc e=>u.there b o e hc) u.tups u.frzs u.tbls (λm' hm=>by
  obtain⟨o',es',ep',ho',r'⟩:=hm;rw[ho] at ho'; cases ho';exact⟨_,es',ep',hL,r'⟩) hok hg
theorem Inv.turned{t':Nat}{it:Addr}(I:Inv X pins σ H s)(k:∀b o,b≠it->s.heap.get? b=some o->h'.get? b=some o)(hn:H it=none)(hL:it≠X.env.locals)
  (h1:it∈X.ex\/X.s₀.heap.objs.size<=it) (h2:∀x c,X.env.cells.lookup x=some c->c≠it) (h3:∀p∈X.pn++pins,p.1≠it):Inv X pins σ H { s with heap:=h',toks:=t' }:=by
 have nit:∀b u,H b=some u->b≠it:=λb u e z=>by rw[z,hn] at e; cases e
 refine I.step (g':=s.gens) (d':=s.drawn) (ch:=[it]) (λb hb=>?_) (λb o _ _ hc e _=>k b o (λz=>hc (by simp[z])) e) (λb o _ _ hc e _=>⟨o.slots,k b o (λz=>hc (by simp[z])) e⟩) (λ_ _ _ _ n=>n)
  (λb o hc e=>⟨o,k b o (λz=>hc (by simp[z])) e⟩) (λ_ _ e=>e) (λ_ _ _ e=>e) (λb ps e=>⟨#[],by rw[e]; simp⟩) (λm hm=>?_) (λb u e=>?_) I.bare
 ·have e:b=it:=by simpa using hb
  subst e;exact⟨h1,hL,h2,h3⟩
 ·obtain⟨o,es,ep,ho,r⟩:=hm;exact⟨o,es,ep,k _ o (Ne.symm hL) ho,r⟩
 ·refine(I.hok b u e).stay (λc v hc q=>k c v ?_ q) (λ_ q=>q) λ_ _ q=>q
  rcases hc with z|z
  ·rw[z]; exact nit b u e
  ·exact nit c _ z
theorem Inv.tok(I:Inv X pins σ H s)(t:Nat):Inv X pins σ H { s with toks:=t }:=I.un (h':=s.heap) (t':=t) Un.refl I.hok
theorem Inv.kept{t':Nat}(I:Inv X pins σ H s)(k:∀b u,s.heap.get? b=some u->h'.get? b=some u):Inv X pins σ H { s with heap:=h',toks:=t' }:=I.un (Un.kept k) (I.hok.kept k)
theorem Inv.laid{a:Addr}{o:HO}{t':Nat}(I:Inv X pins σ H s)(k:∀b u,s.heap.get? b=some u->h'.get? b=some u)(hp:s.heap.objs.size<=a)(new:bY X.prog X.w (upd H a o) h' a o) :
  Inv X pins σ (upd H a o) { s with heap:=h',toks:=t' }:=I.un (Un.laid k hp (I.hok.fresh hp)) (I.hok.laid k hp new)
theorem Inv.write{x e:Addr}{o:HO}{t':Nat}(I:Inv X pins σ H s)(mu:Mut (H x))(he:e=x\/H e=some (.own x))(k:∀b u,b≠e->s.heap.get? b=some u->h'.get? b=some u)(heo:∃u,h'.get? e=some u)
  (new:bY X.prog X.w (upd H x o) h' x o):Inv X pins σ (upd H x o) { s with heap:=h',toks:=t' }:=I.un (Un.write mu he k heo) (I.hok.write mu he k heo new)
theorem Inv.weak{σ':List (Option V)}(I:Inv X pins σ H s)(hl:σ'.length=σ.length)(w:∀(i:Nat) v,σ'[i]?=some (some v)->σ[i]?=some (some v)):Inv X pins σ' H s :=
 ⟨I.ok,I.os,I.bare,I.base,let⟨m,hn,hl'⟩:=I.loc; ⟨m,hn,λi x v e1 e2 e3=>hl' i x v e1 (w i v e2) e3⟩,I.cell,I.free,I.freeC,I.pin,I.hok,hl.trans I.len⟩
theorem Inv.sj{pins':WD}(I:Inv X pins σ H s)(h:∀p∈pins',s.heap.get? p.1=some p.2/\H p.1=none/\p.1≠X.env.locals/\p.1∉X.fs/\∀v,p.2.data≠.cell v):Inv X pins' σ H s :=
 ⟨I.ok,I.os,I.bare,I.base,I.loc,I.cell,I.free,I.freeC,λp hp=>(ZQ.mp hp).elim (λz=>I.pin p (Q5 _ z)) (h p),I.hok,I.len⟩
theorem kW{N:WP}(hN:N.Nodup){i j:Nat}{x:Str}(a:N[i]?=some x)(b:N[j]?=some x):i=j:=by
 obtain⟨h1,e1⟩:=Zf.mp a;obtain⟨h2,e2⟩:=Zf.mp b;exact(List.getElem_inj hN).mp (e1.trans e2.symm)
theorem mQ{M:Model}{A:Around}{E:WC}{i:Nat}{x:Str}{v:V}{u:Value}{Q:Unit->Shared->Prop}(I:Inv X pins σ H s)(hN:X.N.Nodup)(hi:X.N[i]?=some x)(hx:Loc X.env.scope x)(r:RelV v u)
  (h:∀s',Inv X pins (σ.set i (some v)) H s'->(∃a,Heap.SameBut a s.heap s'.heap/\(a=X.env.locals\/X.env.cells.lookup x=some a))->Q () s') (hf:X.fn x=true\/X.env.scope.names.lookup x=some .local:=by first|exact .inl rfl|exact .inr rfl|assumption):wpAny M A (storeName X.env x u) Q E s:=by
 obtain⟨m,hn,hl⟩:=id I.loc;have hcls:(X.env.scope.kind==.class||(X.env.scope.kind==.module&&X.env.locals != X.env.globals))=false:=by rw[I.ok.kind]; rfl
 have hiσ:i<σ.length:=by rw[I.len]; exact(Zf.mp hi).1
 have cne:=I.cne
 have tracked:∀{a:Addr} {h':Heap},(∃o,s.heap.get? a=some o/\H a=none)->Heap.SameBut a s.heap h'->HOk X.prog X.w H h':=λ{a h'} ha hs b ob e=>by
  obtain⟨_,_,hfree⟩:=ha;refine(I.hok b ob e).stay (λc w' hc q=>(hs.2 c ?_).trans q) (λ_ q=>q) λ_ _ q=>q
  rintro rfl;rcases hc with rfl|hc
  ·rw[hfree] at e; cases e
  ·rw[hfree] at hc; cases hc
 rcases hx with hk|hk
 ·refine wpAny_storeName_local hk hn (λh' hn' hs=>?_) hcls;obtain⟨oL,_,_,hoL,_⟩:=id hn;refine h _ ⟨I.ok,I.os,I.bare,⟨λb o e n hb hx=>?_,λb o e n hb hx=>?_,I.base.free,λb o e hx=>?_,I.base.tups,I.base.frzs,I.base.tbls⟩,⟨_,hn',λj y v' e1 e2 e3=>?_⟩,λy c e=>?_,I.free,I.freeC,λp hp=>?_,tracked ⟨oL,hoL,I.free⟩ hs,by simpa using I.len⟩ ⟨_,hs,.inl rfl⟩
  ·exact(hs.2 b (ZC (ZE (Zo e) I.ok.above))).trans (I.base.keep b o e n hb hx)
  ·obtain⟨sl,e1⟩:=I.base.slot b o e n hb hx;exact⟨sl,(hs.2 b (ZC (ZE (Zo e) I.ok.above))).trans e1⟩
  ·obtain⟨o',e1⟩:=I.base.there b o e hx;exact⟨o',(hs.2 b (ZC (ZE (Zo e) I.ok.above))).trans e1⟩
  ·by_cases hj:j=i
   ·subst hj;rw[hi] at e1; cases e1;rw[Xi hiσ] at e2;cases e2;exact⟨u,r,.inl ⟨hk,by simp⟩⟩
   ·rw[ZR (Ne.symm hj)] at e2;obtain⟨u',r',q⟩:=hl j y v' e1 e2 e3;refine⟨u',r',?_⟩;rcases q with⟨k,e⟩|⟨k,c,e,z⟩
    ·refine .inl ⟨k,?_⟩;have:y≠x:=λe=>hj (kW hN e1 (e▸hi))
     simp[this,e]
    ·exact .inr ⟨k,c,e,z.sameBut hs (cne y c e)⟩
  ·obtain⟨w',z⟩:=I.cell y c e;exact⟨w',z.sameBut hs (cne y c e)⟩
  ·obtain⟨e,n,ne,nf,d⟩:=I.pin p hp;exact⟨(hs.2 p.1 ne).trans e,n,ne,nf,d⟩
 ·have hfn:X.fn x=true:=by
   rcases hf with z|z
   ·exact z
   ·rw[z] at hk; cases hk
  obtain⟨c,hc⟩:=I.ok.has x (.inl hk);obtain⟨w',z⟩:=I.cell x c hc;refine wpAny_storeName_cell I.ok.kind hk hc z (λh' hc' hs=>?_);obtain⟨oc,hoc,hocd⟩:=id z;refine h { s with heap:=h' } ⟨I.ok,I.os,I.bare,⟨λb o e n hb hx=>?_,λb o e n hb hx=>?_,I.base.free,λb o e hx=>?_,I.base.tups,I.base.frzs,I.base.tbls⟩,⟨m,hn.sameBut hs (Ne.symm (cne x c hc)),λj y v' e1 e2 e3=>?_⟩,λy c' e=>?_,I.free,I.freeC,λp hp=>?_,tracked ⟨oc,hoc,I.freeC x c hc⟩ hs,by simpa using I.len⟩ ⟨c,hs,.inr hc⟩
  ·exact(hs.2 b (ZC (ZE (Zo e) (I.ok.cab x c hfn hc)))).trans (I.base.keep b o e n hb hx)
  ·obtain⟨sl,e1⟩:=I.base.slot b o e n hb hx;exact⟨sl,(hs.2 b (ZC (ZE (Zo e) (I.ok.cab x c hfn hc)))).trans e1⟩
  ·obtain⟨o',e1⟩:=I.base.there b o e hx;exact⟨o',(hs.2 b (ZC (ZE (Zo e) (I.ok.cab x c hfn hc)))).trans e1⟩
  ·by_cases hj:j=i
   ·subst hj;rw[hi] at e1; cases e1;rw[Xi hiσ] at e2;cases e2;exact⟨u,r,.inr ⟨.inl hk,c,hc,hc'⟩⟩
   ·rw[ZR (Ne.symm hj)] at e2;obtain⟨u',r',q⟩:=hl j y v' e1 e2 e3;refine⟨u',r',?_⟩;rcases q with q|⟨k,c',e,z'⟩
    ·exact .inl q
    ·refine .inr ⟨k,c',e,z'.sameBut hs ?_⟩;rintro rfl;exact hj (kW hN e1 (I.ok.inj _ _ _ e hc▸hi))
  ·by_cases hcc:c'=c
   ·subst hcc; exact⟨_,hc'⟩
   ·obtain⟨w2,z2⟩:=I.cell y c' e;exact⟨w2,z2.sameBut hs hcc⟩
  ·obtain⟨e,n,ne,nf,d⟩:=I.pin p hp;refine⟨(hs.2 p.1 ?_).trans e,n,ne,nf,d⟩;intro q;rw[q,hoc] at e;have q':oc=p.2:=Zz e;exact d w' (by rw[<- q']; exact hocd)
theorem r9{M:Model}{A:Around}{E:WC}{i:Nat}{x:Str}{v:V}{u:Value}{Q:Unit->Shared->Prop}(I:Inv X pins σ H s)(hN:X.N.Nodup)(hi:X.N[i]?=some x)(hx:Loc X.env.scope x)(r:RelV v u)
  (h:∀s',Inv X pins (σ.set i (some v)) H s'->Q () s') (hf:X.fn x=true\/X.env.scope.names.lookup x=some .local:=by first|exact .inl rfl|exact .inr rfl|assumption):wpAny M A (storeName X.env x u) Q E s :=
 mQ I hN hi hx r (λs' I' _=>h s' I') hf
theorem Inv.pU{s':WI}{ch:WL}(I:Inv X pins σ H s)(ho:s'.os=s.os)(u:Un (frs X.stack) ch H H' s.heap s'.heap)(hok:HOk X.prog X.w H' s'.heap)(hg:AllBare s'.gens)
  (hch:∀b∈ch,(b∈X.ex\/X.s₀.heap.objs.size<=b)/\b≠X.env.locals/\(∀x c,X.env.cells.lookup x=some c->c≠b)/\∀p∈X.pn++pins,p.1≠b):Inv X pins σ H' s':=by
 obtain⟨h',g',d',t',o'⟩:=s';have e:o'=s.os:=ho;subst e;exact I.call (g':=g') (t':=t') (d':=d') u hok hg hch
end
abbrev XK:=Value->Option Addr->Hp->Prop
abbrev St:=List (Option V)
abbrev VK:=V->Hp->Prop
abbrev TE:=St->Hp->VK->Prop
abbrev TT:=St->Hp->(Bool->Hp->Prop)->Prop
abbrev TA:=St->Hp->(List V->Hp->Prop)->Prop
structure Ends where
 nx:St->Hp->Prop
 rt:VK
 bk:St->Hp->Prop:=λ_ _=>False
 ct:St->Hp->Prop:=λ_ _=>False
abbrev TS:=Ends->St->Hp->Prop
def EP(X:Cx)(pins:WD)(σ:St)(Q:VK)(u:Value)(s':WI):Prop:=∃v H',Inv X pins σ H' s'/\RelV v u/\Q v H'
def TP(X:Cx)(pins:WD)(σ:St)(Q:Bool->Hp->Prop)(b:Bool)(s':WI):Prop:=∃H',Inv X pins σ H' s'/\Q b H'
def AP(X:Cx)(pins:WD)(σ:St)(Q:List V->Hp->Prop)(us:WH)(s':WI):Prop:=∃vs H',Inv X pins σ H' s'/\Vals vs us/\Q vs H'
noncomputable def SP(X:Cx)(pins:WD)(D:Ends)(f:Flow)(s':WI):Prop :=
 match f with
 | .next=>∃σ' H',Inv X pins σ' H' s'/\D.nx σ' H'
 | .brk=>∃σ' H',Inv X pins σ' H' s'/\D.bk σ' H'
 | .cont=>∃σ' H',Inv X pins σ' H' s'/\D.ct σ' H'
 | .ret u=>∃v σ' H',Inv X pins σ' H' s'/\RelV v u/\D.rt v H'
noncomputable def PE(X:Cx)(e:Expr)(t:TE):Prop :=
 ∀(pins:WD) (s:WI) (σ:St) (H:Hp) (Q:VK),Inv X pins σ H s->t σ H Q->wpAny (model X.prog X.w) X.A (eval e X.env) (EP X pins σ Q) X.xe s
noncomputable def PT(X:Cx)(e:Expr)(t:TT):Prop :=
 ∀(pins:WD) (s:WI) (σ:St) (H:Hp) (Q:Bool->Hp->Prop),Inv X pins σ H s->t σ H Q->wpAny (model X.prog X.w) X.A (isTrue e X.env (eval e X.env)) (TP X pins σ Q) X.xe s
noncomputable def PW(X:Cx)(e:Expr)(t:TT):Prop :=
 ∀(whole:Sem Value) (pins:WD) (s:WI) (σ:St) (H:Hp) (Q:Bool->Hp->Prop),Inv X pins σ H s->t σ H Q->wpAny (model X.prog X.w) X.A (isTrue e X.env whole) (TP X pins σ Q) X.xe s
theorem PW.pt{X:Cx}{e:Expr}{t:TT}(h:PW X e t):PT X e t:=h _
noncomputable def PA(X:Cx)(es:WS)(t:TA):Prop :=
 ∀(pos:Pos) (pins:WD) (s:WI) (σ:St) (H:Hp) (Q:List V->Hp->Prop),Inv X pins σ H s->t σ H Q->wpAny (model X.prog X.w) X.A (spliced (backTo pos (starEach es X.env))) (AP X pins σ Q) X.xe s
noncomputable def PS(X:Cx)(st:Stmt)(t:TS):Prop :=
 ∀(pins:WD) (s:WI) (σ:St) (H:Hp) (D:Ends),Inv X pins σ H s->t D σ H->wpAny (model X.prog X.w) X.A (exec st X.env) (SP X pins D) X.xe s
noncomputable def PSs(X:Cx)(st:List Stmt)(t:TS):Prop :=
 ∀(pins:WD) (s:WI) (σ:St) (H:Hp) (D:Ends),Inv X pins σ H s->t D σ H->wpAny (model X.prog X.w) X.A (execs st X.env) (SP X pins D) X.xe s
theorem thn{α:Type}{t:Sem α}{Q Q':α->Shared->Prop}{M:Model}{A:Around}{E:WC}{s:WI}(h:wpAny M A t Q E s)(hQ:∀a s,Q a s->Q' a s):wpAny M A t Q' E s:=Xu h hQ λ_ _ x=>x
end L2
namespace L2
open PySem PySem.Spec PyProof.Rows
section
variable{X:Cx}
noncomputable def zI(i:Nat):TE:=λσ H Q=>∃v,σ[i]?=some (some v)/\Q v H
noncomputable def tC(v:V):TE:=λ_ H Q=>Q v H
theorem iB{i:Nat}{x:Str}{pos:Pos}(hN:X.N[i]?=some x)(hv:Vis X.env.scope x)(hd:(x==("__debug__" : Str))=false:=by decide)(hcd:(x==("__classdict__" : Str))=false:=by decide):PE X (.Name x pos) (zI i):=by
 intro pins s σ H Q I h;obtain⟨v,e,h⟩:=h;obtain⟨m,hn,hl⟩:=I.loc;obtain⟨u,r,l⟩:=hl i x v hN e hv;have fin:EP X pins σ Q u s:=⟨v,H,I,r,h⟩
 rcases l with⟨hk,hm⟩|⟨hk,c,hc,hcell⟩
 ·exact wpAny_Name (Q6 I.ok.kind hk hn hm fin) hd
 ·rcases hk with hk|hk
  ·exact wpAny_Name (wpAny_loadName_cell I.ok.kind hk hc hcell fin) hd
  ·exact wpAny_Name (wpAny_loadName_free I.ok.kind hk hc hcell fin hcd) hd
theorem vZ{i j pos}:PE X (.Constant (.int i) j pos) (tC (.int i)):=λ_ _ _ H _ I h=>wpAny_Constant_int ⟨.int i,H,I.tok _,⟨_,rfl⟩,h⟩
theorem nG{b j pos}:PE X (.Constant (.bool b) j pos) (tC (.bl b)):=λ_ _ _ H _ I h=>Constant_bool ⟨.bl b,H,I,rfl,h⟩
theorem Jv{j pos}:PE X (.Constant .none j pos) (tC .non):=λ_ _ _ H _ I h=>Constant_none ⟨.non,H,I,rfl,h⟩
theorem wW{x j pos}:PE X (.Constant (.str x) j pos) (tC (.str x)):=λ_ _ _ H _ I h=>Calls.Constant_str ⟨.str x,H,I.tok _,⟨_,rfl⟩,h⟩
def Gl(X:Cx)(x:Str):Prop:=X.env.kindOf x=some .globalImplicit
theorem iV{E:WC}{pins:WD}{s:WI}{σ:St}{H:Hp}{x:Str}{u:Value}{pos:Pos}{Q:WC}(I:Inv X pins σ H s)(hg:Gl X x)(hm:X.mg x=some u)(h:Q u s)
  (hd:(x==("__debug__" : Str))=false:=by decide):wpAny (model X.prog X.w) X.A (eval (.Name x pos) X.env) Q E s :=
 Qa I.ok.kind hg (Calls.loadGlobal_global (by rw[I.ok.glob]; exact I.mod.glob.keeps I.bk) hm h) hd
theorem eN{E:WC}{pins:WD}{s:WI}{σ:St}{H:Hp}{x:Str}{u:Value}{pos:Pos}{Q:WC}(I:Inv X pins σ H s)(hg:Gl X x)(hm:X.mg x=none)(hv:bootBuiltins x=some u)(h:Q u s)
  (hn:x≠"__name__":=by decide) (hd:(x==("__debug__" : Str))=false:=by decide):wpAny (model X.prog X.w) X.A (eval (.Name x pos) X.env) Q E s:=by
 obtain⟨mb,h1,h2⟩:=I.mod.blt;exact Qa I.ok.kind hg (Calls.loadGlobal_builtin (by rw[I.ok.glob]; exact I.mod.glob.keeps I.bk) hm (by rw[I.ok.blt]; exact h1.keeps I.bk) ((h2 x hn).trans hv) h) hd
theorem ve{x:Str}{v:V}{u:Value}{pos:Pos}(hg:Gl X x)(hm:X.mg x=some u)(r:RelV v u)(hd:(x==("__debug__" : Str))=false:=by decide):PE X (.Name x pos) (tC v) :=
 λ_ _ _ H _ I h=>iV I hg hm ⟨v,H,I,r,h⟩ hd
theorem Eh{x:Str}{v:V}{u:Value}{pos:Pos}(hg:Gl X x)(hm:X.mg x=none)(hv:bootBuiltins x=some u)(r:RelV v u)(hn:x≠"__name__":=by decide)(hd:(x==("__debug__" : Str))=false:=by decide):PE X (.Name x pos) (tC v) :=
 λ_ _ _ H _ I h=>eN I hg hm hv ⟨v,H,I,r,h⟩ hn hd
variable{a b:Expr}{ta tb:TE}{pos:Pos}
noncomputable def PC(X:Cx)(op:CmpOp)(a b:Expr)(t:TE):Prop :=
 ∀(pins:WD) (s:WI) (σ:St) (H:Hp) (Q:VK),Inv X pins σ H s->t σ H Q ->
  wpAny (model X.prog X.w) X.A (eval a X.env) (λv s₁=>wpAny (model X.prog X.w) X.A (eval b X.env) (λu s₂=>wpAny (model X.prog X.w) X.A (compareOp op v u) (EP X pins σ Q) X.xe s₂) X.xe s₁) X.xe s
theorem sE(b:Expr){op:CmpOp}(h:op≠.In)(h2:op≠.NotIn):behindInMarks op b=false:=by
 have e1:(op==CmpOp.In)=false:=by cases op<;>first|rfl|exact absurd rfl h
 have e2:(op==CmpOp.NotIn)=false:=by cases op<;>first|rfl|exact absurd rfl h2
 cases b<;>simp[behindInMarks,e1,e2]
noncomputable def BH(ta:TE):TE:=λσ H Q=>ta σ H λx H1=>Q (.bl (decide (x=.non))) H1
noncomputable def B4(ta:TE):TE:=λσ H Q=>ta σ H λx H1=>Q (.bl (!decide (x=.non))) H1
theorem RelV.vt{x:V}{v:Value}(r:RelV x v):(v==Value.none)=decide (x=.non):=by
 cases x with
 | non=>cases r; rfl
 | bl _=>cases r; rfl
 | int _=>obtain⟨t,rfl⟩:=r; rfl
 | str _=>obtain⟨t,rfl⟩:=r; rfl
 | byt _=>obtain⟨t,rfl⟩:=r; rfl
 | flt _=>obtain⟨t,rfl⟩:=r; rfl
 | ref _=>cases r; rfl
 | ty _=>cases r; rfl
theorem pH{j pos'}(ha:PE X a ta):PC X .Is a (.Constant .none j pos') (BH ta):=by
 intro pins s σ H Q I h;refine thn (ha pins s σ H _ I h) λv s1 ⟨x,H1,I1,r1,q1⟩=>?_
 exact Constant_none (is_none_gen ⟨.bl _,H1,I1,by rw[r1.vt]; rfl,q1⟩)
theorem qY{j pos'}(ha:PE X a ta):PC X .IsNot a (.Constant .none j pos') (B4 ta):=by
 intro pins s σ H Q I h;refine thn (ha pins s σ H _ I h) λv s1 ⟨x,H1,I1,r1,q1⟩=>?_
 exact Constant_none (isnot_none_gen ⟨.bl _,H1,I1,by rw[r1.vt]; rfl,q1⟩)
noncomputable def tB(t:TE):TT:=λσ H Q=>t σ H λx H1=>∃c,x=.bl c/\Q c H1
theorem pR{op:CmpOp}{t:TE}(h:PC X op a b t)(h1:behindInMarks op b=false:=by first|exact sE _ (by decide) (by decide)|rfl):PE X (.Compare a [op] [b] pos) t:=λpins s σ H Q I hw=>wpAny_Compare1 (h pins s σ H Q I hw) h1
theorem qV{op:CmpOp}{t:TE}(h:PC X op a b t)(h1:behindInMarks op b=false:=by first|exact sE _ (by decide) (by decide)|rfl):PT X (.Compare a [op] [b] pos) (tB t):=by
 intro pins s σ H Q I hw;refine wpAny_isTrue_Compare1 (thn (h pins s σ H _ I hw) λv s1 h1=>thn h1 λu s2 h2=>thn h2 λc s3 ⟨x,H1,I1,r1,q1⟩=>?_) h1;obtain⟨d,rfl,q⟩:=q1;cases r1;exact Xd ⟨H1,I1,q⟩
variable{tA tB':TT}{rest:WS}
noncomputable def EH(t u:TT):TT:=λσ H Q=>t σ H λc H1=>if c=true then u σ H1 Q else Q false H1
noncomputable def tOr(t u:TT):TT:=λσ H Q=>t σ H λc H1=>if c=true then Q true H1 else u σ H1 Q
noncomputable def Ao(t:TT):TT:=λσ H Q=>t σ H λc H1=>Q (!c) H1
theorem uP(ha:PT X a tA):PW X (.BoolOp .And [a] pos) tA:=by
 intro wh pins s σ H Q I h;refine isTrue_and (thn (ha pins s σ H Q I h) λc s1 e=>?_)
 cases c with
 | true=>exact isTrue_and_nil e
 | false=>exact e
theorem p_(ha:PT X a tA):PW X (.BoolOp .Or [a] pos) tA:=by
 intro wh pins s σ H Q I h;refine isTrue_or (thn (ha pins s σ H Q I h) λc s1 e=>?_)
 cases c with
 | false=>exact isTrue_or_nil e
 | true=>exact e
theorem EC(ha:PT X a tA)(hb:PW X (.BoolOp .And (b::rest) pos) tB'):PW X (.BoolOp .And (a::b::rest) pos) (EH tA tB'):=by
 intro wh pins s σ H Q I h;refine isTrue_and (thn (ha pins s σ H _ I h) λc s1 ⟨H1,I1,q1⟩=>?_)
 cases c with
 | true=>exact hb wh pins s1 σ H1 Q I1 q1
 | false=>exact⟨H1,I1,q1⟩
theorem zR(ha:PT X a tA)(hb:PW X (.BoolOp .Or (b::rest) pos) tB'):PW X (.BoolOp .Or (a::b::rest) pos) (tOr tA tB'):=by
 intro wh pins s σ H Q I h;refine isTrue_or (thn (ha pins s σ H _ I h) λc s1 ⟨H1,I1,q1⟩=>?_)
 cases c with
 | true=>exact⟨H1,I1,q1⟩
 | false=>exact hb wh pins s1 σ H1 Q I1 q1
theorem B8(ha:PT X a tA):PT X (.UnaryOp .Not a pos) (Ao tA):=by
 intro pins s σ H Q I h;exact isTrue_not (ha pins s σ H (λc H1=>Q (!c) H1) I h)
noncomputable def w6(ta tb:TE):TE:=λσ H Q=>ta σ H λx H1=>∃c,x=.bl c/\if c=true then tb σ H1 Q else Q (.bl false) H1
noncomputable def yf(ta tb:TE):TE:=λσ H Q=>ta σ H λx H1=>∃c,x=.bl c/\if c=true then Q (.bl true) H1 else tb σ H1 Q
noncomputable def yt(ta:TE):TE:=λσ H Q=>ta σ H λx H1=>∃c,x=.bl c/\Q (.bl (!c)) H1
theorem k9{op}{t:TE}(h:PE X a t):PE X (.BoolOp op [a] pos) t:=λpins s σ H Q I hw=>BoolOp_one (h pins s σ H Q I hw)
theorem oq(ha:PE X a ta)(hb:PE X (.BoolOp .And (b::rest) pos) tb):PE X (.BoolOp .And (a::b::rest) pos) (w6 ta tb):=by
 intro pins s σ H Q I h;refine BoolOp_and (thn (ha pins s σ H _ I h) λv s1 ⟨x,H1,I1,r1,q1⟩=>?_);obtain⟨c,rfl,q1⟩:=q1;cases r1;refine Xd ?_
 cases c with
 | true=>exact hb pins s1 σ H1 Q I1 q1
 | false=>exact⟨.bl false,H1,I1,rfl,q1⟩
theorem Hi(ha:PE X a ta)(hb:PE X (.BoolOp .Or (b::rest) pos) tb):PE X (.BoolOp .Or (a::b::rest) pos) (yf ta tb):=by
 intro pins s σ H Q I h;refine BoolOp_or (thn (ha pins s σ H _ I h) λv s1 ⟨x,H1,I1,r1,q1⟩=>?_);obtain⟨c,rfl,q1⟩:=q1;cases r1;refine Xd ?_
 cases c with
 | false=>exact hb pins s1 σ H1 Q I1 q1
 | true=>exact⟨.bl true,H1,I1,rfl,q1⟩
theorem Dm(ha:PE X a ta):PE X (.UnaryOp .Not a pos) (yt ta):=by
 intro pins s σ H Q I h;refine UnaryOp_ (thn (ha pins s σ H _ I h) λv s1 ⟨x,H1,I1,r1,q1⟩=>?_);obtain⟨c,rfl,q1⟩:=q1;cases r1;exact not_of (Xd ⟨.bl (!c),H1,I1,rfl,q1⟩)
noncomputable def tIf(t:TT)(ta tb:TE):TE:=λσ H Q=>t σ H λc H1=>if c=true then ta σ H1 Q else tb σ H1 Q
theorem CL{c:Expr}(hc:PT X c tA)(ha:PE X a ta)(hb:PE X b tb):PE X (.IfExp c a b pos) (tIf tA ta tb):=by
 intro pins s σ H Q I h;refine wpAny_IfExp (thn (hc pins s σ H _ I h) λd s1 ⟨H1,I1,q1⟩=>?_)
 cases d with
 | true=>exact ha pins s1 σ H1 Q I1 q1
 | false=>exact hb pins s1 σ H1 Q I1 q1
end
end L2
namespace L2
open PySem PySem.Spec PyProof.Rows
noncomputable def SqL(K:WG)(H:Hp)(a:Addr)(xs:WT):Prop :=
 Rd H a (.lst xs) \/
  ∃(o:Obj) (its:WQ) (n:Nat),K.lookup a=some o/\o.cls=.type "list"/\o.dict=none/\o.data=.seq its n/\its.size<=sizeLine/\Vals xs its.toList
noncomputable def SqT(K:WG)(H:Hp)(a:Addr)(xs:WT):Prop :=
 Rd H a (.tup xs) \/
  ∃(o:Obj) (its:WQ) (n:Nat),K.lookup a=some o/\o.cls=.type "tuple"/\o.data=.seq its n/\its.size<=sizeLine/\Vals xs its.toList
noncomputable def B0:Value->Option V
 | .none=>some .non
 | .bool b=>some (.bl b)
 | .int i _=>some (.int i)
 | .str x _=>some (.str x)
 | .bytes b _=>some (.byt b)
 | .float b _=>some (.flt b)
 | .ref a=>some (.ref a)
 | .type n=>some (.ty n)
 | _=>none
theorem RelV.abs{x:V}{u:Value}(r:RelV x u):B0 u=some x:=by
 cases x with
 | non=>cases r; rfl
 | bl _=>cases r; rfl
 | int _=>obtain⟨t,rfl⟩:=r; rfl
 | str _=>obtain⟨t,rfl⟩:=r; rfl
 | byt _=>obtain⟨t,rfl⟩:=r; rfl
 | flt _=>obtain⟨t,rfl⟩:=r; rfl
 | ref _=>cases r; rfl
 | ty _=>cases r; rfl
theorem RelV.inj{x y:V}{u:Value}(r:RelV x u)(q:RelV y u):x=y:=Zz (r.abs.symm.trans q.abs)
theorem Vals.inj:∀{xs ys:WT} {us:WH},Vals xs us->Vals ys us->xs=ys
 | _,_,_,.nil,.nil=>rfl
 | _,_,_,.cons r t,.cons r' t'=>by rw[r.inj r',Vals.inj t t']
section
variable{X:Cx}{pins:WD}{σ:St}{H:Hp}{s:WI}{a:Addr}{xs ys:WT}
theorem SqL.of{K:WG}(h:H a=some (.lst xs)):SqL K H a xs:=.inl (.inl h)
theorem SqT.of{K:WG}(h:H a=some (.tup xs)):SqT K H a xs:=.inl (.inl h)
theorem Inv.list(I:Inv X pins σ H s)(h:SqL X.K H a xs):∃its:List Value,Vals xs its/\PlainL s.heap a its.toArray/\xs.length<=sizeLine:=by
 rcases h with h|⟨o,its,n,hk,hc,hd,hs,hz,r⟩
 ·obtain⟨z,its,n,r,e⟩:=h.ok I.hok;exact⟨its,r,⟨_,n,e,rfl,rfl,rfl⟩,z⟩
 ·refine⟨its.toList,r,⟨o,n,I.kIn a o hk,hc,hd,by simpa using hs⟩,?_⟩;have e:=r.length;simp only[ZD] at e;omega
theorem Inv.tuple(I:Inv X pins σ H s)(h:SqT X.K H a xs):∃its:List Value,Vals xs its/\IsTup s.heap a its.toArray/\xs.length<=sizeLine:=by
 rcases h with h|⟨o,its,n,hk,hc,hs,hz,r⟩
 ·obtain⟨z,its,r,p⟩:=h.ok I.hok;exact⟨its,r,p,z⟩
 ·refine⟨its.toList,r,⟨o,I.kIn a o hk,hc,n,by simpa using hs⟩,?_⟩;have e:=r.length;simp only[ZD] at e;omega
theorem Inv.jU(I:Inv X pins σ H s)(h:SqL X.K H a xs)(h':SqL X.K H a ys):xs=ys:=by
 obtain⟨its,r,⟨o,n,e,_,_,d⟩,_⟩:=I.list h;obtain⟨its',r',⟨o',n',e',_,_,d'⟩,_⟩:=I.list h';rw[e] at e'; cases e';rw[d] at d';injection d' with d1 _;have:its=its':=by simpa using Qb Array.toList d1
 subst this;exact r.inj r'
theorem Inv.jw(I:Inv X pins σ H s)(h:SqT X.K H a xs)(h':SqT X.K H a ys):xs=ys:=by
 obtain⟨its,r,⟨o,e,_,n,d⟩,_⟩:=I.tuple h;obtain⟨its',r',⟨o',e',_,n',d'⟩,_⟩:=I.tuple h';rw[e] at e'; cases e';rw[d] at d';injection d' with d1 _;have:its=its':=by simpa using Qb Array.toList d1
 subst this;exact r.inj r'
end
abbrev Cx.dO(X:Cx)(E:WC):Cx:={ X with xe:=E }
abbrev Cx.nox(X:Cx):Cx:=X.dO λ_ _=>False
theorem Cx.Ok.dO{X:Cx}(ok:X.Ok)(E:WC):(X.dO E).Ok :=
 ⟨ok.mod,ok.kind,ok.glob,ok.blt,ok.above,ok.inj,ok.has,ok.cab,ok.hd,ok.frames,ok.stk,ok.exf,ok.bs,ok.bsz,ok.noex,ok.exfs,ok.cP,ok.frf⟩
theorem Cx.Ok.fk{X:Cx}{E:WC}(ok:(X.dO E).Ok):X.Ok :=
 ⟨ok.mod,ok.kind,ok.glob,ok.blt,ok.above,ok.inj,ok.has,ok.cab,ok.hd,ok.frames,ok.stk,ok.exf,ok.bs,ok.bsz,ok.noex,ok.exfs,ok.cP,ok.frf⟩
section
variable{X:Cx}{pins:WD}{σ:St}{H:Hp}{s:WI}{E:WC}
theorem Inv.dO(I:Inv X pins σ H s)(E:WC):Inv (X.dO E) pins σ H s:=⟨I.ok.dO E,I.os,I.bare,I.base,I.loc,I.cell,I.free,I.freeC,I.pin,I.hok,I.len⟩
theorem Inv.fk(I:Inv (X.dO E) pins σ H s):Inv X pins σ H s:=⟨I.ok.fk,I.os,I.bare,I.base,I.loc,I.cell,I.free,I.freeC,I.pin,I.hok,I.len⟩
end
section
variable{X:Cx}{st:Stmt}{rest:List Stmt}{t u:TS}{e:Expr}{te:TE}{pos:Pos}
noncomputable def lC:TS:=λD σ H=>D.nx σ H
noncomputable def Ax(t u:TS):TS:=λD σ H=>t { D with nx:=u D } σ H
theorem Av:PSs X [] lC:=λ_ _ σ H _ I h=>QI ⟨σ,H,I,h⟩
theorem oJ(h1:PS X st t)(h2:PSs X rest u):PSs X (st::rest) (Ax t u):=by
 intro pins s σ H D I h;refine wpAny_execs_cons (thn (h1 pins s σ H { D with nx:=u D } I h) λf s1 q=>?_)
 cases f with
 | next =>
  obtain⟨σ',H',I',q⟩:=q;exact h2 pins s1 σ' H' D I' q
 | ret v=>exact q
 | brk=>exact q
 | cont=>exact q
theorem rf(h1:PS X st t):PSs X [st] t:=by
 intro pins s σ H D I h;refine wpAny_execs_cons (thn (h1 pins s σ H D I h) λf s1 q=>?_)
 cases f with
 | next=>exact QI q
 | ret v=>exact q
 | brk=>exact q
 | cont=>exact q
theorem Ca:PS X (.Pass pos) lC:=λ_ _ σ H _ I h=>wpAny_Pass ⟨σ,H,I,h⟩
theorem Inv.quiet{pins:WD}{σ:St}{H:Hp}{s:WI}(I:Inv X pins σ H s):interactive X.env=false:=by simp[interactive,I.ok.kind]
theorem FF{x j pos pos'}:PS X (.Expr (.Constant (.str x) j pos) pos') lC:=λ_ s σ H _ I h=>wpAny_Expr (Calls.Constant_str (show SP X _ _ .next { s with toks:=s.toks+1 } from⟨σ,H,I.tok _,h⟩)) I.quiet
noncomputable def zY(te:TE):TS:=λD σ H=>te σ H λ_ H1=>D.nx σ H1
theorem qo(he:PE X e te)(hs:swapsWith e none pos.line X.env=pure false:=by rfl):PS X (.Expr e pos) (zY te):=by
 intro pins s σ H D I h;exact wpAny_Expr_any (thn (he pins s σ H _ I h) λv s1 ⟨x,H1,I1,r1,q1⟩=>⟨σ,H1,I1,q1⟩) I.quiet hs
noncomputable def yI(te:TE):TS:=λD σ H=>te σ H D.rt
theorem pX(he:PE X e te):PS X (.Return (some e) pos) (yI te):=by
 intro pins s σ H D I h;exact wpAny_Return_some (thn (he pins s σ H _ I h) λv s1 ⟨x,H1,I1,r1,q1⟩=>⟨x,σ,H1,I1,r1,q1⟩)
noncomputable def CV:TS:=λD _ H=>D.rt .non H
theorem F_:PS X (.Return none pos) CV:=λ_ _ σ H _ I h=>wpAny_Return_none ⟨.non,σ,H,I,rfl,h⟩
noncomputable def yW(c:TT)(t u:TS):TS:=λD σ H=>c σ H λb H1=>if b=true then t D σ H1 else u D σ H1
theorem zD{c:Expr}{a b:List Stmt}{tc:TT}(hc:PT X c tc)(ha:PSs X a t)(hb:PSs X b u):PS X (.If c a b pos) (yW tc t u):=by
 intro pins s σ H D I h;refine wpAny_If (thn (hc pins s σ H _ I h) λd s1 ⟨H1,I1,q1⟩=>?_)
 cases d with
 | true=>exact ha pins s1 σ H1 D I1 q1
 | false=>exact hb pins s1 σ H1 D I1 q1
end
abbrev TG:=V->St->Hp->(St->Hp->Prop)->Prop
abbrev TGs:=List V->St->Hp->(St->Hp->Prop)->Prop
noncomputable def PG(X:Cx)(target:Expr)(t:TG):Prop :=
 ∀(pins:WD) (s:WI) (σ:St) (H:Hp) (v:V) (u:Value) (Q:St->Hp->Prop),Inv X pins σ H s->RelV v u->t v σ H Q ->
  wpAny (model X.prog X.w) X.A (assign target X.env u) (λ_ s'=>∃σ' H',Inv X pins σ' H' s'/\Q σ' H') X.xe s
noncomputable def PGs(X:Cx)(ts:WS)(t:TGs):Prop :=
 ∀(pins:WD) (s:WI) (σ:St) (H:Hp) (vs:WT) (us:WH) (Q:St->Hp->Prop),Inv X pins σ H s->Vals vs us->t vs σ H Q ->
  wpAny (model X.prog X.w) X.A (assignInOrder ((assignEach ts X.env).map (·.2)) us) (λ_ s'=>∃σ' H',Inv X pins σ' H' s'/\Q σ' H') X.xe s
abbrev bW:=V->V->V->Hp->(Hp->Prop)->Prop
noncomputable def kY(X:Cx)(t:bW):Prop :=
 ∀(pins:WD) (s:WI) (σ:St) (H:Hp) (o i v:V) (ov iv u:Value) (Q:Hp->Prop),Inv X pins σ H s->RelV o ov->RelV i iv->RelV v u->t o i v H Q ->
  wpAny (model X.prog X.w) X.A (setItem ov iv u) (λ_ s'=>∃H',Inv X pins σ H' s'/\Q H') X.xe s
section
variable{X:Cx}{pos:Pos}
noncomputable def gD(i:Nat):TG:=λv σ H Q=>Q (σ.set i (some v)) H
theorem vJ{i:Nat}{x:Str}(hN:X.N.Nodup)(hi:X.N[i]?=some x)(hx:Loc X.env.scope x)(hf:X.fn x=true\/X.env.scope.names.lookup x=some .local:=by first|exact .inl rfl|exact .inr rfl|assumption):PG X (.Name x pos) (gD i):=by
 intro pins s σ H v u Q I r h;exact wpAny_assign_Name (r9 I hN hi hx r (λs' I'=>⟨_,H,I',h⟩) hf)
noncomputable def qN:TGs:=λvs σ H Q=>vs=[]/\Q σ H
noncomputable def qJ(t:TG)(u:TGs):TGs:=λvs σ H Q=>∃v r,vs=v::r/\t v σ H λσ' H'=>u r σ' H' Q
theorem EF:PGs X [] qN:=by
 intro pins s σ H vs us Q I r h;obtain⟨e,h⟩:=h;subst e;cases r;exact assignInOrder_nil ⟨σ,H,I,h⟩
theorem zm{e:Expr}{es:WS}{t:TG}{u:TGs}(h1:PG X e t)(h2:PGs X es u)
  (hs:(assignEach (e::es) X.env).map (·.2)=assign e X.env::(assignEach es X.env).map (·.2):=by rfl):PGs X (e::es) (qJ t u):=by
 intro pins s σ H vs us Q I r h;obtain⟨v,vr,e1,h⟩:=h;subst e1
 cases r with
 | cons r rr =>
  rw[hs];refine assignInOrder_cons (thn (h1 pins s σ H _ _ _ I r h) λ_ s1 ⟨σ1,H1,I1,q1⟩=>?_);exact h2 pins s1 σ1 H1 _ _ Q I1 rr q1
noncomputable def CS(K:WG)(n:Nat)(t:TGs):TG:=λv σ H Q=>∃a xs,v=.ref a/\SqT K H a xs/\xs.length=n/\t xs σ H Q
theorem xM{es:WS}{k:Nat}{t:TGs}{n:Nat}(hc:X.calm=true)(h:PGs X es t)
  (hn:(assignEach es X.env).length=n:=by rfl) (hst:(assignEach es X.env).findIdx? (·.1)=none:=by rfl):PG X (.Tuple es k pos) (CS X.K n t):=by
 intro pins s σ H v u Q I r hw;obtain⟨a,xs,e1,hq,hl,hw⟩:=hw;subst e1;cases r;obtain⟨its,rv,ht,hz⟩:=I.tuple hq;refine assign_Tuple_tuple (I.ok.hd hc) ht (by simp[hn,<- hl,rv.length]) hst λh' hx=>?_
 have I1:Inv X pins σ H { s with heap:=h' }:=I.kept (t':=s.toks) λb o e=>hx b o (ZC (Zo e)) e
 exact h pins _ σ H xs _ Q I1 (by simpa using rv) hw
noncomputable def tE(to ti:TE)(t:bW):TG:=λv σ H Q=>to σ H λo H1=>ti σ H1 λi H2=>t o i v H2 λH3=>Q σ H3
theorem C2{o i:Expr}{to ti:TE}{t:bW}(ho:PE X o to)(hi:PE X i ti)(hs:kY X t)
  (ha:∀v,assign (.Subscript o i pos) X.env v=(do
   let ov <- holding [v] (eval o X.env)
   let iv <- holding [v,ov] (eval i X.env)
   standAt pos
   holding [v,ov,iv] (setItem ov iv v)
   release [v,ov,iv] []):=by intro _; rfl):PG X (.Subscript o i pos) (tE to ti t):=by
 intro pins s σ H v u Q I r h;rw[ha];refine Za (Xg (thn (ho pins s σ H _ I h) λov s1 ⟨x,H1,I1,r1,q1⟩=>?_));refine Za (Xg (thn (hi pins s1 σ H1 _ I1 q1) λiv s2 ⟨y,H2,I2,r2,q2⟩=>?_));refine Za (wpAny_standAt (Za (Xg (thn (hs pins s2 σ H2 x y v ov iv u _ I2 r1 r2 r q2) λ_ s3 ⟨H3,I3,q3⟩=>?_))));exact wpAny_release ⟨σ,H3,I3,q3⟩
noncomputable def kr(te:TE)(g:TG):TS:=λD σ H=>te σ H λx H1=>g x σ H1 D.nx
theorem qH{tg e:Expr}{te:TE}{g:TG}(he:PE X e te)(hg:PG X tg g)(hs:swapsWithSole [tg] e pos.line X.env=pure false:=by rfl)(hw:swappedStores [tg] e X.env=pure none:=by rfl)
  (h1:(assignEach [tg] X.env).map (·.2)=[assign tg X.env]:=by rfl):PS X (.Assign [tg] e pos) (kr te g):=by
 intro pins s σ H D I h;refine wpAny_Assign_stores (thn (he pins s σ H _ I h) λv s1 ⟨x,H1,I1,r1,q1⟩=>?_) hs hw;rw[h1];exact thn (hg pins s1 σ H1 x v _ I1 r1 q1) λ_ s2 q=>q
theorem B6{i:Nat}{x:Str}{e:Expr}{te:TE}{pos':Pos}(hN:X.N.Nodup)(hi:X.N[i]?=some x)(hx:Loc X.env.scope x)(he:PE X e te)(hs:swapsWith e (some (.Name x pos')) pos.line X.env=pure false:=by rfl)(hf:X.fn x=true\/X.env.scope.names.lookup x=some .local:=by first|exact .inl rfl|exact .inr rfl|assumption) :
  PS X (.Assign [.Name x pos'] e pos) (kr te (gD i)):=by
 intro pins s σ H D I h;refine wpAny_Assign_Name (thn (he pins s σ H _ I h) λv s1 ⟨y,H1,I1,r1,q1⟩=>?_) hs;exact r9 I1 hN hi hx r1 (λs2 I2=>⟨_,H1,I2,q1⟩) hf
end
section
variable{X:Cx}{pos:Pos}
end
structure It where
 go:Nat->Hp->Prop
 yld:Nat->Hp->V->Hp->Prop
 stop:Nat->Hp->Prop
noncomputable def cE(X:Cx)(pins:WD)(H:Hp)(b:Addr):Prop :=
 H b=none/\b≠X.env.locals/\b∉X.fs/\(b∈X.ex\/X.s₀.heap.objs.size<=b)/\(∀x c,X.env.cells.lookup x=some c->c≠b)/\∀p∈X.pn++pins,p.1≠b
theorem Inv.f6{X:Cx}{pins:WD}{σ:St}{H H':Hp}{s:WI}{b:Addr}(I:Inv X pins σ H s)(hb:s.heap.objs.size<=b)(hn:H' b=none):cE X pins H' b:=by
 refine⟨hn,Xw (ZE I.lt hb),I.CG hb,.inr (Xm I.sz hb),λx c e z=>?_,λp hp z=>?_⟩
 ·obtain⟨v,q⟩:=I.cell x c e;exact absurd (ZE q.lt (by rw[z]; exact hb)) (Z6 _)
 ·exact absurd (ZE (Zo (I.pin p hp).1) (by rw[z]; exact hb)) (Z6 _)
structure Turn(P:WK)(w:WN)(K:WG)(tg:Expr)(J:It)(fp:WL)(it:Addr)(tn:Nat->Heap->Prop):Prop where
 mem:it∈fp
 obj:∀i h,tn i h->∀b∈fp,∃o,h.get? b=some o/\∀v,o.data≠.cell v
 keep:∀i h h',tn i h->(∀b∈fp,∀o,h.get? b=some o->h'.get? b=some o)->tn i h'
 item:∀(X:Cx),X.prog=P->X.w=w->X.K=K->X.calm=true->∀(i:Nat) (pins:WD) (s:WI) (σ:St) (H:Hp) (E:WC),Inv X pins σ H s->(∀b∈fp,cE X pins H b)->tn i s.heap->J.go i H ->
  wpAny (model P w) X.A (pyNext (.ref it)) (λr s1=>∃u,r=some u /\
   wpAny (model P w) X.A (letOwnedTupleGo tg (.ref it) u) (λ_ s2=>∃x H',Inv X pins σ H' s2/\RelV x u/\J.yld i H x H'/\tn (i+1) s2.heap/\∀b∈fp,H' b=none) E s1) E s
 done:∀(X:Cx),X.prog=P->X.w=w->X.K=K->X.calm=true->∀(i:Nat) (pins:WD) (s:WI) (σ:St) (H:Hp) (E:WC),Inv X pins σ H s->(∀b∈fp,cE X pins H b)->tn i s.heap->J.stop i H ->
  wpAny (model P w) X.A (pyNext (.ref it)) (λr s1=>r=none/\Inv X pins σ H s1) E s
 self:∀(A:Around) (i:Nat) (s:WI) (Q:WC) (E:WC),tn i s.heap->Q (.ref it) s->wpAny (model P w) A (pyIter (.ref it)) Q E s
abbrev TI:=St->Hp->(It->Hp->Prop)->Prop
noncomputable def PIE(X:Cx)(pins:WD)(σ:St)(tg:Expr)(R:It->Hp->Prop)(itv:Value)(s2:WI):Prop :=
 ∃(it:Addr) (fp:WL) (tn:Nat->Heap->Prop) (J:It) (H':Hp),itv=.ref it/\Inv X pins σ H' s2/\Turn X.prog X.w X.K tg J fp it tn/\tn 0 s2.heap/\(∀b∈fp,cE X pins H' b)/\R J H'
noncomputable def PI(X:Cx)(tg iter:Expr)(wi:TI):Prop :=
 ∀(pins:WD) (s:WI) (σ:St) (H:Hp) (R:It->Hp->Prop),Inv X pins σ H s->wi σ H R ->
  wpAny (model X.prog X.w) X.A (eval iter X.env) (λv s1=>wpAny (model X.prog X.w) X.A (pyIter v) (PIE X pins σ tg R) X.xe s1) X.xe s
theorem jd{M:Model}{A:Around}{E:WC}{s:WI}{tg:Expr}{it:Addr}{u:Value}{o:Obj}{n:String}{vs:WQ}{Q:Unit->Shared->Prop}(ho:s.heap.get? it=some o)(hc:o.cls=.type n)(hd:o.data=.fields vs)
  (hn:["enumerate","zip","dict_itemiterator","dict_reverseitemiterator","odict_iterator","itertools.zip_longest","itertools.pairwise"].contains n=false) (hQ:Q () s):wpAny M A (letOwnedTupleGo tg (.ref it) u) Q E s:=by
 unfold letOwnedTupleGo
 cases tg<;>first
  | exact Zd hQ
  | (cases u<;>first
    | exact Zd hQ
    | (
      refine Za (wpAny_load ho ?_);rw[hc,hd];show wpAny M A (if(["enumerate","zip","dict_itemiterator","dict_reverseitemiterator","odict_iterator","itertools.zip_longest","itertools.pairwise"].contains n&&vs[0]?==some (rawInt _))=true then _ else _) Q E s;rw[Zg (by intro h; rw[hn,Wm] at h; cases h)];exact Zd hQ))
noncomputable def Itl(K:WG)(a:Addr):It :=
 ⟨λi H=>∃xs x,SqL K H a xs/\xs[i]?=some x,λi H x H'=>H'=H/\∀xs,SqL K H a xs->xs[i]?=some x,λi H=>∃xs,SqL K H a xs/\xs.length<=i⟩
noncomputable def Itt(K:WG)(a:Addr):It :=
 ⟨λi H=>∃xs x,SqT K H a xs/\xs[i]?=some x,λi H x H'=>H'=H/\∀xs,SqT K H a xs->xs[i]?=some x,λi H=>∃xs,SqT K H a xs/\xs.length<=i⟩
noncomputable def Itr(lo:Int)(n:Nat):It:=⟨λi _=>i<n,λi H x H'=>H'=H/\x=.int (lo+i),λi _=>n<=i⟩
theorem zB{P:WK}{w:WN}{K:WG}{tg:Expr}(a it:Addr):Turn P w K tg (Itl K a) [it] it (λi h=>h.IsListIter it a i) where
 mem:=by simp
 obj:=λi h st b hb=>by
  have e:b=it:=by simpa using hb
  subst e;obtain⟨o,e,c,d⟩:=st;exact⟨o,e,λv z=>by rw[d] at z; cases z⟩
 keep:=λi h h' st k=>st.at λo e=>k it (by simp) o e
 item:=by
  intro X hP hw hK hc i pins s σ H E I hf st hg;subst hP hw hK;obtain⟨xs,x,hq,hx⟩:=hg;obtain⟨its,rv,p,hz⟩:=I.list hq;obtain⟨u,hu,ru⟩:=rv.get hx;obtain⟨f0,f1,f2,f3,f4,f5⟩:=hf it (by simp);refine wpAny_pyNext_list_item st p.isList (x:=u) (by simpa using hu) λh' st' sb=>?_
  have I1:Inv X pins σ H { s with heap:=h' }:=I.turned (t':=s.toks) (λb o hb e=>(sb.2 b hb).trans e) f0 f1 f3 f4 f5;obtain⟨o,e,c,d⟩:=id st';exact⟨u,rfl,jd (s:={ s with heap:=h' }) e c d (by decide) ⟨x,H,I1,ru,⟨rfl,λys hy=>by rw[I.jU hy hq]; exact hx⟩,st',λb hb=>(hf b hb).1⟩⟩
 done:=by
  intro X hP hw hK hc i pins s σ H E I hf st hg;subst hP hw hK;obtain⟨xs,hq,hx⟩:=hg;obtain⟨its,rv,p,hz⟩:=I.list hq;obtain⟨f0,f1,f2,f3,f4,f5⟩:=hf it (by simp);have hl:=rv.length;exact wpAny_pyNext_list_end (I.ok.hd hc) st p.isList (by simp; omega) λh' eb=>⟨rfl,I.turned (t':=s.toks) (λb o hb e=>eb b o hb e) f0 f1 f3 f4 f5⟩
 self:=λ_ _ _ _ _ st h=>wpAny_pyIter_listiter st h
theorem FI{P:WK}{w:WN}{K:WG}{tg:Expr}(a it:Addr):Turn P w K tg (Itt K a) [it] it (λi h=>h.IsTupleIter it a i) where
 mem:=by simp
 obj:=λi h st b hb=>by
  have e:b=it:=by simpa using hb
  subst e;obtain⟨o,e,c,d⟩:=st;exact⟨o,e,λv z=>by rw[d] at z; cases z⟩
 keep:=λi h h' st k=>st.at λo e=>k it (by simp) o e
 item:=by
  intro X hP hw hK hc i pins s σ H E I hf st hg;subst hP hw hK;obtain⟨xs,x,hq,hx⟩:=hg;obtain⟨its,rv,p,hz⟩:=I.tuple hq;obtain⟨u,hu,ru⟩:=rv.get hx;obtain⟨f0,f1,f2,f3,f4,f5⟩:=hf it (by simp);refine wpAny_pyNext_tuple_item st (show s.heap.IsTuple a its.toArray from p) (x:=u) (by simpa using hu) λh' st' sb=>?_
  have I1:Inv X pins σ H { s with heap:=h' }:=I.turned (t':=s.toks) (λb o hb e=>(sb.2 b hb).trans e) f0 f1 f3 f4 f5;obtain⟨o,e,c,d⟩:=id st';exact⟨u,rfl,jd (s:={ s with heap:=h' }) e c d (by decide) ⟨x,H,I1,ru,⟨rfl,λys hy=>by rw[I.jw hy hq]; exact hx⟩,st',λb hb=>(hf b hb).1⟩⟩
 done:=by
  intro X hP hw hK hc i pins s σ H E I hf st hg;subst hP hw hK;obtain⟨xs,hq,hx⟩:=hg;obtain⟨its,rv,p,hz⟩:=I.tuple hq;obtain⟨f0,f1,f2,f3,f4,f5⟩:=hf it (by simp);have hl:=rv.length;exact wpAny_pyNext_tuple_end (I.ok.hd hc) st (show s.heap.IsTuple a its.toArray from p) (by simp; omega) λh' eb=>⟨rfl,I.turned (t':=s.toks) (λb o hb e=>eb b o hb e) f0 f1 f3 f4 f5⟩
 self:=λ_ _ _ _ _ st h=>wpAny_pyIter_tupleiter st h
theorem Il{P:WK}{w:WN}{K:WG}{tg:Expr}(it:Addr)(lo:Int)(n:Nat):Turn P w K tg (Itr lo n) [it] it (λi h=>IsRangeIter h it (lo+(i:Nat)*1) ((n:Int)-(i:Nat)) 1) where
 mem:=by simp
 obj:=λi h st b hb=>by
  have e:b=it:=by simpa using hb
  subst e
  exact⟨_,st,λv z=>by
   have z':Data.fields _=Data.cell v:=z;cases z'⟩
 keep:=λi h h' st k=>k it (by simp) _ st
 item:=by
  intro X hP hw hK hc i pins s σ H E I hf st hg;subst hP hw hK;obtain⟨f0,f1,f2,f3,f4,f5⟩:=hf it (by simp);have W:=Walks.range (prog:=X.prog) (w:=X.w) (I.ok.hd hc) it lo 1 n;refine W.item i s _ _ hg st λv h' tk hv st' kk=>?_
  obtain⟨t,rfl⟩:=hv;have I1:Inv X pins σ H { s with heap:=h',toks:=tk }:=I.turned (λb o hb e=>kk b o (by simpa using hb) e) f0 f1 f3 f4 f5;refine⟨_,rfl,jd (s:={ s with heap:=h',toks:=tk }) (n:="range_iterator") st' rfl rfl (by decide) ⟨.int (lo+i),H,I1,⟨t,?_⟩,⟨rfl,rfl⟩,st',λb hb=>(hf b hb).1⟩⟩;rw[Int.mul_one]
 done:=by
  intro X hP hw hK hc i pins s σ H E I hf st hg;subst hP hw hK;obtain⟨f0,f1,f2,f3,f4,f5⟩:=hf it (by simp);exact wpAny_pyNext_range_end (I.ok.hd hc) st (by have:n<=i:=hg; omega) λh' eb=>⟨rfl,I.turned (t':=s.toks) (λb o hb e=>eb b o hb e) f0 f1 f3 f4 f5⟩
 self:=λ_ _ _ _ _ st h=>wpAny_pyIter_rangeiter st h
end L2
namespace L2
open PySem PySem.Spec PyProof.Rows
section
variable{X:Cx}{tg:Expr}
theorem IZ{pins:WD}{σ:St}{H:Hp}{s:WI}{R:It->Hp->Prop}{E:WC}{lo hi:Int}{t u v:Tok}{tk:Nat}(I:Inv X pins σ H s)(h1:-(2^62)<=lo)(h2:lo<2^62)(h3:-(2^62)<=hi)(h4:hi<2^62)
  (q:R (Itr lo (hi-lo).toNat) H):wpAny (model X.prog X.w) X.A (pyIter (.ref s.heap.objs.size)) (PIE X pins σ tg R) E { s with heap:=s.heap.push { cls:=.type "range",data:=.fields #[.int lo t,.int hi u,.int 1 v] },toks:=tk }:=by
 refine wpAny_pyIter_range (IsRange.new ..) (small_one h1 h2 h3 h4) ?_;have I1:Inv X pins σ H { s with heap:=s.heap.push { cls:=.type "range",data:=.fields #[.int lo t,.int hi u,.int 1 v] },toks:=tk }:=I.kept λb o e=>Zc _ e
 refine⟨(s.heap.push { cls:=.type "range",data:=.fields #[.int lo t,.int hi u,.int 1 v] }).objs.size,[(s.heap.push { cls:=.type "range",data:=.fields #[.int lo t,.int hi u,.int 1 v] }).objs.size],_,_,H,rfl,
  I1.kept (t':=tk) λb o e=>Zc _ e,Il _ lo (hi-lo).toNat,?_,λb hb=>?_,q⟩
 ·have e1:lo+((0:Nat):Int)*1=lo:=by simp
  have e2:(((hi-lo).toNat:Nat):Int)-((0:Nat):Int)=Builtin.Range.rangeSize lo hi 1:=by rw[rangeSize_one]; split<;>omega
  show IsRangeIter _ _ (lo+((0:Nat):Int)*1) ((((hi-lo).toNat:Nat):Int)-((0:Nat):Int)) 1;rw[e1,e2];exact Zy _ rfl
 ·have e:b=(s.heap.push { cls:=.type "range",data:=.fields #[.int lo t,.int hi u,.int 1 v] }).objs.size:=by simpa using hb
  subst e;exact I1.f6 (Zn _) (I1.hok.fresh (Zn _))
noncomputable def Bg(ta:TA):TI:=λσ H R=>ta σ H λvs H1=>∃j:Int,vs=[.int j]/\-(2^62)<=j/\j<2^62/\R (Itr 0 j.toNat) H1
theorem DP{a:Expr}{ta:TA}{p pos:Pos}(hg:Gl X "range")(hm:X.mg "range" = none)(ha:PA X [a] ta)(hs:starEach [a] X.env=[(false,eval a X.env)]:=by rfl):PI X tg (.Call (.Name "range" p) [a] [] pos) (Bg ta):=by
 intro pins s σ H R I h;refine Call_ (eN I hg hm boot_range (Xo (thn (ha pos pins s σ H _ I h) λus s1 ⟨vs,H1,I1,r1,q1⟩=>?_) hs rfl));obtain⟨j,e,q1,q2,q⟩:=q1;subst e
 cases r1 with
 | cons r rr =>
  cases rr;obtain⟨t,rfl⟩:=r;exact call_range_1 (IZ I1 (by omega) (by omega) q1 q2 (by simpa using q))
noncomputable def rV(wi:TI)(g:TG)(tb:TS):TS:=λD σ H=>wi σ H λJ H1=>∃W:Nat->Nat->St->Hp->Prop,(∃m,W 0 m σ H1)/\∀i m σ H,W i m σ H ->
 (J.stop i H/\D.nx σ H)\/(J.go i H/\∃N:St->Hp->Prop,(∀σ' H',N σ' H'->∃m',m'<m/\W (i+1) m' σ' H')/\∀x H',J.yld i H x H'->g x σ H' λσ2 H2=>tb { D with nx:=N,ct:=N,bk:=D.nx } σ2 H2)
noncomputable def iu(fp:WL)(h:Heap):List (Addr×Obj):=fp.filterMap λb=>(h.get? b).map λo=>(b,o)
theorem kG{fp:WL}{h:Heap}{b:Addr}{o:Obj}(hb:b∈fp)(e:h.get? b=some o):(b,o)∈iu fp h:=Qn.mpr ⟨b,hb,by rw[e]; rfl⟩
theorem yY{fp:WL}{h:Heap}{p:Addr×Obj}(hp:p∈iu fp h):p.1∈fp/\h.get? p.1=some p.2:=by
 obtain⟨b,hb,e⟩:=Qn.mp hp
 cases q:h.get? b with
 | none=>rw[q] at e; cases e
 | some o =>
  rw[q] at e;have e':(b,o)=p:=Zz e;subst e';exact⟨hb,q⟩
theorem Inv.pinned{pins:WD}{σ:St}{H:Hp}{s:WI}{fp:WL}(I:Inv X pins σ H s)(hf:∀b∈fp,cE X pins H b)(ho:∀b∈fp,∃o,s.heap.get? b=some o/\∀v,o.data≠.cell v):Inv X (pins++iu fp s.heap) σ H s :=
 I.sj λp hp=>(ZQ.mp hp).elim (λz=>I.pin p (ZV _ z)) λz=>by
  obtain⟨hb,e⟩:=yY z;obtain⟨f0,f1,f2,_⟩:=hf p.1 hb;obtain⟨o,e',d⟩:=ho p.1 hb;rw[e] at e'; cases e';exact⟨e,f0,f1,f2,d⟩
theorem Inv.kB{pins pl:WD}{σ:St}{H:Hp}{s:WI}(I:Inv X (pins++pl) σ H s):Inv X pins σ H s:=I.sj λp hp=>I.pin p (ZV _ (Q5 _ hp))
end
end L2
namespace L2
open PySem PySem.Spec PyProof.Rows
abbrev R2:=V->V->Hp->VK->Prop
noncomputable def OpR(X:Cx)(f:Value->Value->Sem Value)(r:R2):Prop :=
 ∀(pins:WD) (s:WI) (σ:St) (H:Hp) (x y:V) (v u:Value) (Q:VK),Inv X pins σ H s->RelV x v->RelV y u->r x y H Q ->
  wpAny (model X.prog X.w) X.A (f v u) (EP X pins σ Q) X.xe s
noncomputable def UnR(X:Cx)(f:Value->Sem Value)(r:V->Hp->VK->Prop):Prop :=
 ∀(pins:WD) (s:WI) (σ:St) (H:Hp) (x:V) (v:Value) (Q:VK),Inv X pins σ H s->RelV x v->r x H Q ->
  wpAny (model X.prog X.w) X.A (f v) (EP X pins σ Q) X.xe s
noncomputable def cA(X:Cx)(f:Value)(r:List V->Hp->VK->Prop):Prop :=
 ∀(pins:WD) (s:WI) (σ:St) (H:Hp) (xs:WT) (us:WH) (Q:VK),Inv X pins σ H s->Vals xs us->r xs H Q ->
  wpAny (model X.prog X.w) X.A (call f us) (EP X pins σ Q) X.xe s
noncomputable def vE(X:Cx)(r:V->Hp->(Bool->Hp->Prop)->Prop):Prop :=
 ∀(pins:WD) (s:WI) (σ:St) (H:Hp) (x:V) (v:Value) (Q:Bool->Hp->Prop),Inv X pins σ H s->RelV x v->r x H Q ->
  wpAny (model X.prog X.w) X.A (truthy v) (TP X pins σ Q) X.xe s
noncomputable def tOp(r:R2)(ta tb:TE):TE:=λσ H Q=>ta σ H λx H1=>tb σ H1 λy H2=>r x y H2 Q
noncomputable def tUn(r:V->Hp->VK->Prop)(ta:TE):TE:=λσ H Q=>ta σ H λx H1=>r x H1 Q
noncomputable def rI(C:Int->Int->Prop)(g:Int->Int->V):R2:=λx y H Q=>∃i j,x=.int i/\y=.int j/\C i j/\Q (g i j) H
noncomputable def rI0(g:Int->Int->V):R2:=λx y H Q=>∃i j,x=.int i/\y=.int j/\Q (g i j) H
noncomputable def rU(g:Int->V):V->Hp->VK->Prop:=λx H Q=>∃i,x=.int i/\Q (g i) H
section
variable{X:Cx}{a b c:Expr}{ta tb tc:TE}{pos:Pos}
theorem kN(ha:PE X a ta)(hb:PE X b tb){pins:WD}{s:WI}{σ:St}{H:Hp}{R:V->V->Hp->Prop}(I:Inv X pins σ H s)
  (h:ta σ H λx H1=>tb σ H1 λy H2=>R x y H2) {Q:WC} {f:Value->Value->Sem Value}
  (hf:∀v u s2 x y H2,Inv X pins σ H2 s2->RelV x v->RelV y u->R x y H2->wpAny (model X.prog X.w) X.A (f v u) Q X.xe s2) :
  wpAny (model X.prog X.w) X.A (eval a X.env) (λv s₁=>wpAny (model X.prog X.w) X.A (eval b X.env) (λu s₂=>wpAny (model X.prog X.w) X.A (f v u) Q X.xe s₂) X.xe s₁) X.xe s:=by
 refine thn (ha pins s σ H _ I h) λv s1 ⟨x,H1,I1,r1,q1⟩=>?_
 refine thn (hb pins s1 σ H1 _ I1 q1) λu s2 ⟨y,H2,I2,r2,q2⟩=>?_
 exact hf v u s2 x y H2 I2 r1 r2 q2
theorem Iq{op:Operator}{r:R2}(ho:OpR X (binaryOp op) r)(ha:PE X a ta)(hb:PE X b tb):PE X (.BinOp a op b pos) (tOp r ta tb):=by
 intro pins s σ H Q I h;exact wpAny_BinOp (kN ha hb I h λv u s2 x y H2 I2 rx ry q=>ho pins s2 σ H2 x y v u Q I2 rx ry q)
theorem G1{op:UnaryOp}{r:V->Hp->VK->Prop}(ho:UnR X (unaryOp op) r)(ha:PE X a ta):PE X (.UnaryOp op a pos) (tUn r ta):=by
 intro pins s σ H Q I h;exact UnaryOp_ (thn (ha pins s σ H _ I h) λv s1 ⟨x,H1,I1,r1,q1⟩=>ho pins s1 σ H1 x v Q I1 r1 q1)
theorem opI{f:Value->Value->Sem Value}{C:Int->Int->Prop}{g:Int->Int->Int}
  (rule:∀(i j:Int) (t u:Tok) (s:WI) (Q:WC) (E:WC),C i j->Q (.int (g i j) s.toks) { s with toks:=s.toks+1 }->wpAny (model X.prog X.w) X.A (f (.int i t) (.int j u)) Q E s) :
  OpR X f (rI C λi j=>.int (g i j)):=by
 intro pins s σ H x y v u Q I rx ry h;obtain⟨i,j,rfl,rfl,hc,q⟩:=h;obtain⟨t,rfl⟩:=rx;obtain⟨t',rfl⟩:=ry;exact rule i j t t' s _ _ hc ⟨.int (g i j),H,I.tok _,⟨_,rfl⟩,q⟩
theorem sC{f:Value->Value->Sem Value}{g:Int->Int->Int}
  (rule:∀(i j:Int) (t u:Tok) (s:WI) (Q:WC) (E:WC),Q (.int (g i j) s.toks) { s with toks:=s.toks+1 }->wpAny (model X.prog X.w) X.A (f (.int i t) (.int j u)) Q E s) :
  OpR X f (rI0 λi j=>.int (g i j)):=by
 intro pins s σ H x y v u Q I rx ry h;obtain⟨i,j,rfl,rfl,q⟩:=h;obtain⟨t,rfl⟩:=rx;obtain⟨t',rfl⟩:=ry;exact rule i j t t' s _ _ ⟨.int (g i j),H,I.tok _,⟨_,rfl⟩,q⟩
theorem j6{f:Value->Value->Sem Value}{g:Int->Int->Bool}
  (rule:∀(i j:Int) (t u:Tok) (s:WI) (Q:WC) (E:WC),Q (.bool (g i j)) s->wpAny (model X.prog X.w) X.A (f (.int i t) (.int j u)) Q E s) :
  OpR X f (rI0 λi j=>.bl (g i j)):=by
 intro pins s σ H x y v u Q I rx ry h;obtain⟨i,j,rfl,rfl,q⟩:=h;obtain⟨t,rfl⟩:=rx;obtain⟨t',rfl⟩:=ry;exact rule i j t t' s _ _ ⟨.bl (g i j),H,I,rfl,q⟩
def yr(i j:Int):Prop:=0<j/\j<1073741824
def IP(i j:Int):Prop:=0<=j/\j<=1000000/\i.natAbs<2^64
def m_(i j:Int):Prop:=(-(2^64)<i/\i<2^64)\/(-(2^64)<j/\j<2^64)
theorem m_.ok{i j:Int}(h:m_ i j):IntMulOk i j:=by
 rcases h with⟨h1,h2⟩|⟨h1,h2⟩
 ·exact .of_left (intBits_le_64 h1 h2)
 ·exact .of_right (intBits_le_64 h1 h2)
theorem yw:OpR X (binaryOp .Add) (rI0 λi j=>.int (i+j)):=sC λ_ _ _ _ _ _ _ q=>add_int q
theorem CP:OpR X (binaryOp .Sub) (rI0 λi j=>.int (i-j)):=sC λ_ _ _ _ _ _ _ q=>sub_int q
theorem Hs:OpR X (binaryOp .Mult) (rI m_ λi j=>.int (i*j)):=opI λ_ _ _ _ _ _ _ hc q=>mul_int q hc.ok
theorem Jw:OpR X (binaryOp .FloorDiv) (rI yr λi j=>.int (i/j)):=opI λi j _ _ _ _ _ hc q=>by
 have h1:(0:Int)<j:=hc.1;have h2:j<1073741824:=hc.2;exact floordiv_int (by omega) (by rw[Int.fdiv_eq_ediv_of_nonneg i (by omega)]; exact q) (.inl (PyProof.noPylong_small (by omega)))
theorem Fe:OpR X (binaryOp .Mod) (rI (λ_ j=>0<j) λi j=>.int (i%j)):=opI λi j _ _ _ _ _ hc q=>by
 have h1:(0:Int)<j:=hc;exact mod_int' (by omega) (by rw[Int.fmod_eq_emod_of_nonneg i (by omega)]; exact q)
theorem G2:OpR X (binaryOp .Pow) (rI IP λi j=>.int (i^j.toNat)):=opI λ_ _ _ _ _ _ _ hc q=>pow_int_small hc.1 hc.2.1 hc.2.2 q
theorem unI{f:Value->Sem Value}{g:Int->Int}
  (rule:∀(i:Int) (t:Tok) (s:WI) (Q:WC) (E:WC),Q (.int (g i) s.toks) { s with toks:=s.toks+1 }->wpAny (model X.prog X.w) X.A (f (.int i t)) Q E s) :
  UnR X f (rU λi=>.int (g i)):=by
 intro pins s σ H x v Q I rx h;obtain⟨i,rfl,q⟩:=h;obtain⟨t,rfl⟩:=rx;exact rule i t s _ _ ⟨.int (g i),H,I.tok _,⟨_,rfl⟩,q⟩
theorem EO:UnR X (unaryOp .USub) (rU λi=>.int (-i)):=unI λ_ _ _ _ _ q=>neg_int q
end
noncomputable def oj:V->V->Bool
 | .non,.non=>true|.non,.int _=>true|.int _,.non=>true|.non,.bl _=>true|.bl _,.non=>true|.non,.str _=>true|.str _,.non=>true
 | .int _,.int _=>true|.bl _,.bl _=>true|.str _,.str _=>true|.byt _,.byt _=>true
 | .int _,.str _=>true|.str _,.int _=>true|.bl _,.str _=>true|.str _,.bl _=>true
 | _,_=>false
noncomputable def rEq:R2:=λx y H Q=>oj x y=true/\Q (.bl (decide (x=y))) H
noncomputable def rNe:R2:=λx y H Q=>oj x y=true/\Q (.bl (!decide (x=y))) H
theorem iL{i j:Int}:decide (V.int i=V.int j)=(i==j):=by
 rw[X6];simp
theorem nE{i j:Bool}:decide (V.bl i=V.bl j)=(i==j):=by
 rw[X6];simp
theorem m8{i j:Str}:decide (V.str i=V.str j)=(i==j):=by
 rw[X6];simp
theorem wH{i j:Array UInt8}:decide (V.byt i=V.byt j)=(i.toList==j.toList):=by
 rw[X6];cases i;cases j;simp
section
variable{X:Cx}{a b c:Expr}{ta tb tc:TE}{pos:Pos}
theorem aV{pins:WD}{σ:St}{H:Hp}{s:WI}{Q:VK}{k k':Bool}(I:Inv X pins σ H s)(q:Q (.bl k) H)(e:k=k'):EP X pins σ Q (.bool k') s:=by
 subst e;exact⟨.bl k,H,I,rfl,q⟩
theorem tV:OpR X (compareOp .Eq) rEq:=by
 intro pins s σ H x y v u Q I rx ry h;obtain⟨hs,q⟩:=h
 cases x with
 | non =>
  cases rx
  cases y with
  | non=>cases ry; exact PySem.EqNone.eq_none_none (aV I q (by simp))
  | bl j=>cases ry; exact PySem.EqNone.eq_none_bool (aV I q (by simp))
  | int j=>obtain⟨t',rfl⟩:=ry; exact PySem.EqNone.eq_none_int (aV I q (by simp))
  | str j=>obtain⟨t',rfl⟩:=ry; exact PySem.EqNone.eq_none_str (aV I q (by simp))
  | _=>exact absurd (show false=true from hs) Zx
 | bl i =>
  cases rx
  cases y with
  | non=>cases ry; exact PySem.EqNone.eq_bool_none (aV I q (by simp))
  | bl j=>cases ry; exact eq_bool (aV I q nE)
  | str j=>obtain⟨t',rfl⟩:=ry; exact PySem.EqMixed.eq_bool_str (aV I q (by simp))
  | _=>exact absurd (show false=true from hs) Zx
 | int i =>
  obtain⟨t,rfl⟩:=rx
  cases y with
  | non=>cases ry; exact PySem.EqNone.eq_int_none (aV I q (by simp))
  | int j=>obtain⟨t',rfl⟩:=ry; exact eq_int (aV I q iL)
  | str j=>obtain⟨t',rfl⟩:=ry; exact PySem.EqMixed.eq_int_str (aV I q (by simp))
  | _=>exact absurd (show false=true from hs) Zx
 | str i =>
  obtain⟨t,rfl⟩:=rx
  cases y with
  | non=>cases ry; exact PySem.EqNone.eq_str_none (aV I q (by simp))
  | bl j=>cases ry; exact PySem.EqMixed.eq_str_bool (aV I q (by simp))
  | int j=>obtain⟨t',rfl⟩:=ry; exact PySem.EqMixed.eq_str_int (aV I q (by simp))
  | str j=>obtain⟨t',rfl⟩:=ry; exact eq_str (aV I q m8)
  | _=>exact absurd (show false=true from hs) Zx
 | byt i =>
  obtain⟨t,rfl⟩:=rx
  cases y with
  | byt j=>obtain⟨t',rfl⟩:=ry; exact PySem.W.eq_bytes (aV I q wH)
  | _=>exact absurd (show false=true from hs) Zx
 | _=>cases y<;>exact absurd (show false=true from hs) Zx
theorem Jl:OpR X (compareOp .NotEq) rNe:=by
 intro pins s σ H x y v u Q I rx ry h;obtain⟨hs,q⟩:=h
 cases x with
 | non =>
  cases rx
  cases y with
  | non=>cases ry; exact PySem.EqNone.ne_none_none (aV I q (by simp))
  | bl j=>cases ry; exact PySem.EqNone.ne_none_bool (aV I q (by simp))
  | int j=>obtain⟨t',rfl⟩:=ry; exact PySem.EqNone.ne_none_int (aV I q (by simp))
  | str j=>obtain⟨t',rfl⟩:=ry; exact PySem.EqNone.ne_none_str (aV I q (by simp))
  | _=>exact absurd (show false=true from hs) Zx
 | bl i =>
  cases rx
  cases y with
  | non=>cases ry; exact PySem.EqNone.ne_bool_none (aV I q (by simp))
  | bl j=>cases ry; exact ne_bool (aV I q (Qb not nE))
  | str j=>obtain⟨t',rfl⟩:=ry; exact PySem.EqMixed.ne_bool_str (aV I q (by simp))
  | _=>exact absurd (show false=true from hs) Zx
 | int i =>
  obtain⟨t,rfl⟩:=rx
  cases y with
  | non=>cases ry; exact PySem.EqNone.ne_int_none (aV I q (by simp))
  | int j=>obtain⟨t',rfl⟩:=ry; exact ne_int (aV I q (Qb not iL))
  | str j=>obtain⟨t',rfl⟩:=ry; exact PySem.EqMixed.ne_int_str (aV I q (by simp))
  | _=>exact absurd (show false=true from hs) Zx
 | str i =>
  obtain⟨t,rfl⟩:=rx
  cases y with
  | non=>cases ry; exact PySem.EqNone.ne_str_none (aV I q (by simp))
  | bl j=>cases ry; exact PySem.EqMixed.ne_str_bool (aV I q (by simp))
  | int j=>obtain⟨t',rfl⟩:=ry; exact PySem.EqMixed.ne_str_int (aV I q (by simp))
  | str j=>obtain⟨t',rfl⟩:=ry; exact ne_str (aV I q (Qb not m8))
  | _=>exact absurd (show false=true from hs) Zx
 | byt i =>
  obtain⟨t,rfl⟩:=rx
  cases y with
  | byt j=>obtain⟨t',rfl⟩:=ry; exact PySem.W.ne_bytes (aV I q (Qb not wH))
  | _=>exact absurd (show false=true from hs) Zx
 | _=>cases y<;>exact absurd (show false=true from hs) Zx
theorem D4:OpR X (compareOp .Lt) (rI0 λi j=>.bl (decide (i<j))):=j6 λ_ _ _ _ _ _ _ q=>lt_int q
theorem Fq:OpR X (compareOp .LtE) (rI0 λi j=>.bl (decide (i<=j))):=j6 λ_ _ _ _ _ _ _ q=>le_int q
theorem xZ:OpR X (compareOp .Gt) (rI0 λi j=>.bl (decide (j<i))):=j6 λ_ _ _ _ _ _ _ q=>gt_int q
theorem FH:OpR X (compareOp .GtE) (rI0 λi j=>.bl (decide (j<=i))):=j6 λ_ _ _ _ _ _ _ q=>ge_int q
theorem nP{op:CmpOp}{r:R2}(ho:OpR X (compareOp op) r)(ha:PE X a ta)(hb:PE X b tb)(hm:behindInMarks op b=false):PE X (.Compare a [op] [b] pos) (tOp r ta tb):=by
 intro pins s σ H Q I h;exact wpAny_Compare1 (kN ha hb I h λv u s2 x y H2 I2 rx ry q=>ho pins s2 σ H2 x y v u Q I2 rx ry q) hm
noncomputable def rJ(t:TE):TT:=λσ H Q=>t σ H λx H'=>∃k,x=.bl k/\Q k H'
theorem CC{op:CmpOp}{r:R2}(ho:OpR X (compareOp op) r)(ha:PE X a ta)(hb:PE X b tb)(hm:behindInMarks op b=false):PT X (.Compare a [op] [b] pos) (rJ (tOp r ta tb)):=by
 intro pins s σ H Q I h
 refine wpAny_isTrue_Compare1 (thn (ha pins s σ H _ I h) λv s1 ⟨x,H1,I1,r1,q1⟩=>thn (hb pins s1 σ H1 _ I1 q1) λu s2 ⟨y,H2,I2,r2,q2⟩ =>
  thn (ho pins s2 σ H2 x y v u _ I2 r1 r2 q2) λc s3 ⟨z,H3,I3,r3,k,e,q3⟩=>?_) hm
 subst e;cases r3;exact Xd ⟨H3,I3,q3⟩
noncomputable def vz(r r':R2)(ta tb tc:TE):TE:=λσ H Q=>ta σ H λx H1=>tb σ H1 λy H2=>r x y H2 λz H3=>∃k,z=.bl k /\
 (if k=true then tc σ H3 λw' H4=>r' y w' H4 Q else Q (.bl false) H3)
theorem xV{op op':CmpOp}{r r':R2}(ho:OpR X (compareOp op) r)(ho':OpR X (compareOp op') r')(ha:PE X a ta)(hb:PE X b tb)(hc:PE X c tc)
  (hm:lastMarks [op,op'] [b,c]=false:=by with_unfolding_all rfl):PE X (.Compare a [op,op'] [b,c] pos) (vz r r' ta tb tc):=by
 intro pins s σ H Q I h
 refine Compare_chain (thn (ha pins s σ H _ I h) λv s1 ⟨x,H1,I1,r1,q1⟩=>chain_link (thn (hb pins s1 σ H1 _ I1 q1) λu s2 ⟨y,H2,I2,r2,q2⟩ =>
  thn (ho pins s2 σ H2 x y v u _ I2 r1 r2 q2) λd s3 ⟨z,H3,I3,r3,k,e,q3⟩=>?_)) hm
 subst e;cases r3;refine Xd ?_
 cases k with
 | false=>exact ite_ff ⟨.bl false,H3,I3,rfl,q3⟩
 | true=>exact ite_tt (chain_last (thn (hc pins s3 σ H3 _ I3 q3) λw' s4 ⟨z',H4,I4,r4,q4⟩=>ho' pins s4 σ H4 y z' u w' Q I4 r2 r4 q4))
theorem w9{op op':CmpOp}{r r':R2}(ho:OpR X (compareOp op) r)(ho':OpR X (compareOp op') r')(ha:PE X a ta)(hb:PE X b tb)(hc:PE X c tc)
  (hm:lastMarks [op,op'] [b,c]=false:=by with_unfolding_all rfl):PT X (.Compare a [op,op'] [b,c] pos) (rJ (vz r r' ta tb tc)):=by
 intro pins s σ H Q I h
 refine isTrue_chain (thn (ha pins s σ H _ I h) λv s1 ⟨x,H1,I1,r1,q1⟩=>test_link (thn (hb pins s1 σ H1 _ I1 q1) λu s2 ⟨y,H2,I2,r2,q2⟩ =>
  thn (ho pins s2 σ H2 x y v u _ I2 r1 r2 q2) λd s3 ⟨z,H3,I3,r3,k,e,q3⟩=>?_)) hm
 subst e;cases r3;refine Xd ?_
 cases k with
 | false =>
  obtain⟨k',e',q'⟩:=q3;cases e';exact ite_ff ⟨H3,I3,q'⟩
 | true =>
  refine ite_tt (test_last (thn (hc pins s3 σ H3 _ I3 q3) λw' s4 ⟨z',H4,I4,r4,q4⟩=>thn (ho' pins s4 σ H4 y z' u w' _ I4 r2 r4 q4) λd' s5 ⟨z2,H5,I5,r5,k2,e2,q5⟩=>?_));subst e2;cases r5;exact Xd ⟨H5,I5,q5⟩
noncomputable def GN(K:WG)(x:V)(H:Hp)(k:Bool):Prop :=
 match x with
 | .non=>k=false
 | .bl b=>k=b
 | .int i=>k=(i != 0)
 | .str y=>y.length<=sizeLine/\k=((y.length:Int)!=0)
 | .byt y=>y.size<=sizeLine/\k=((y.size:Int)!=0)
 | .ref p=>(∃xs,SqL K H p xs/\k=!xs.isEmpty)\/(∃xs,SqT K H p xs/\k=!xs.isEmpty)\/∃kvs,H p=some (.dK kvs)/\k=!kvs.isEmpty
 | _=>False
theorem Ci{κ:Type}{kvs:List (κ×V)}{vs:List (κ×Value)}(r:KV kvs vs):(!vs.isEmpty)=!kvs.isEmpty:=by
 cases r<;>rfl
theorem u7{xs:WT}{its:WH}(r:Vals xs its):(!its.toArray.isEmpty)=!xs.isEmpty:=by
 cases r<;>simp
theorem iG:(sizeLine:Nat)<2^63:=by rw[XA]; decide
theorem Cn:vE X (λx H Q=>∃k,GN X.K x H k/\Q k H):=by
 intro pins s σ H x v Q I rx h;obtain⟨k,e,q⟩:=h;have hl:=iG;have hs:sizeLine=16777216:=XA
 cases x with
 | non =>
  cases rx;have e':k=false:=e;subst e';exact truthy_none ⟨H,I,q⟩
 | bl b =>
  cases rx;have e':k=b:=e;subst e';exact Xd ⟨H,I,q⟩
 | int i =>
  obtain⟨t,rfl⟩:=rx;have e':k=(i != 0):=e;subst e';exact PySem.P.truthy_int ⟨H,I,q⟩
 | str y =>
  obtain⟨t,rfl⟩:=rx;obtain⟨hy,e'⟩:y.length<=sizeLine/\k=((y.length:Int)!=0):=e;subst e';exact PySem.P.truthy_str (by omega) ⟨H,I.tok _,q⟩
 | byt y =>
  obtain⟨t,rfl⟩:=rx;obtain⟨hy,e'⟩:y.size<=sizeLine/\k=((y.size:Int)!=0):=e;subst e';exact PySem.W.truthy_bytes (by omega) ⟨H,I.tok _,q⟩
 | ref p =>
  cases rx;have e':(∃xs,SqL X.K H p xs/\k=!xs.isEmpty)\/(∃xs,SqT X.K H p xs/\k=!xs.isEmpty)\/∃kvs,H p=some (.dK kvs)/\k=!kvs.isEmpty:=e;rcases e' with⟨xs,hx,e'⟩|⟨xs,hx,e'⟩|⟨kvs,hx,e'⟩
  ·subst e';obtain⟨its,r,pl,hz⟩:=I.list hx;have hlen:=r.length;exact wpAny_truthy_list pl.isList (by simp only[Zh]; omega) ⟨H,I.tok _,by rw[u7 r]; exact q⟩
  ·subst e';obtain⟨its,r,pl,hz⟩:=I.tuple hx;have hlen:=r.length;exact truthy_tuple pl (by simp only[Zh]; omega) ⟨H,I.tok _,by rw[u7 r]; exact q⟩
  ·subst e';obtain⟨hz,hS,vs,r,m⟩:kvs.length<=sizeLine/\(p==sysModules)=false/\∃vs,KV kvs vs/\s.heap.DictOf (l6 X.prog X.w) p vs:=I.hok p _ hx;have hlen:kvs.length=vs.length:=Paired.length r;exact wpAny_truthy_dict hS m (by omega) ⟨H,I.tok _,by rw[Ci r]; exact q⟩
 | _=>exact(show False from e).elim
theorem BW:OpR X (binaryOp .Add) (λx y H Q=>∃i j,x=.str i/\y=.str j/\i.length+j.length<=sizeLine/\Q (.str (i++j)) H):=by
 intro pins s σ H x y v u Q I rx ry h;obtain⟨i,j,rfl,rfl,hz,q⟩:=h;obtain⟨t,rfl⟩:=rx;obtain⟨t',rfl⟩:=ry;exact add_str (λt' tk=>⟨.str (i++j),H,I.tok _,⟨_,rfl⟩,q⟩) hz
theorem vals1{x:V}{us:WH}(r:Vals [x] us):∃u,us=[u]/\RelV x u:=by
 cases r with
 | cons r1 r2=>cases r2; exact⟨_,rfl,r1⟩
theorem vals2{x y:V}{us:WH}(r:Vals [x,y] us):∃u w',us=[u,w']/\RelV x u/\RelV y w':=by
 cases r with
 | cons r1 r2 =>
  cases r2 with
  | cons r3 r4=>cases r4; exact⟨_,_,rfl,r1,r3⟩
theorem Gu(hc:X.calm=true):cA X (.builtin "max") (λxs H Q=>∃i j,xs=[.int i,.int j]/\Q (.int (if j>i then j else i)) H):=by
 intro pins s σ H xs us Q I r h;obtain⟨i,j,rfl,q⟩:=h;obtain⟨u,w',rfl,⟨t,rfl⟩,⟨t',rfl⟩⟩:=vals2 r;refine max_two_ints (I.ok.hd hc) λh' tk k=>⟨_,H,I.kept k,?_,q⟩
 by_cases hj:j>i
 ·rw[Ze hj,Ze hj]; exact⟨_,rfl⟩
 ·rw[Zg hj,Zg hj]; exact⟨_,rfl⟩
end
end L2
namespace L2
open PySem PySem.Spec PyProof.Rows
structure JT(h:Heap)(x dx C:Addr)(mA:WM):Prop where
 obj:h.get? x=some (PySem.W.instObj C dx)
 ns:h.Ns1 dx mA
 ne:dx≠x
section
variable{prog:WK}{w:WN}{A:Around}{E:WC}{s:WI}{K:WG}{x dx C f:Addr}{mA:WM}{name:Str}{v:Value}
end
section
variable{P:WK}{w:WN}{H H':Hp}{h h':Heap}{a C dx:Addr}{fs fs':List (Str×V)}
end
structure Cls(K:WG)(C:Addr):Prop where
 pg:PySem.W.plainGet K C Str.empty=true
 hd:PySem.W.hasDictIn K C=true
 po:PySem.W.plainOver K C=true
 sa:PySem.W.findIn K (.ref C) "__setattr__" = some (some (.builtin "object.__setattr__"))
structure Con(K:WG)(C:Addr)(f:Str)(v:V)(u:Value):Prop where
 at_:PySem.W.findIn K (.ref C) f=some (some u)
 rel:RelV v u
 get:PySem.W.specialIn K u "__get__" = some none
 cp:PySem.W.copiedNames.contains f=false
section
variable{X:Cx}{pins:WD}{σ:St}{H:Hp}{s:WI}{a C dx:Addr}{fs:List (Str×V)}{f:Str}{v:V}{A:Around}{E:WC}
end
section
variable{X:Cx}{o e value:Expr}{f:Str}{pos pos' tpos:Pos}{ta tv:TE}
end
section
variable{X:Cx}{pins:WD}{σ:St}{H:Hp}{s:WI}{A:Around}{E:WC}{Q:WC}{c:Value}{b:Bool}
inductive dg(K:WG)(H:Hp):V->Value->Prop where
 | non:dg K H .non (.type "NoneType")
 | bl (x:Bool):dg K H (.bl x) (.type "bool")
 | int (i:Int):dg K H (.int i) (.type "int")
 | str (x:Str):dg K H (.str x) (.type "str")
 | flt (x:UInt64):dg K H (.flt x) (.type "float")
 | lst {a:Addr} {xs:WT} (e:H a=some (.lst xs)):dg K H (.ref a) (.type "list")
 | frz {a:Addr} {o:Obj} {xs:WT} (e:H a=some (.frz o (.lst xs))):dg K H (.ref a) (.type "list")
 | tup {a:Addr} {xs:WT} (e:H a=some (.tup xs)):dg K H (.ref a) (.type "tuple")
 | dK {a:Addr} {kvs:List (Key×V)} (e:H a=some (.dK kvs)):dg K H (.ref a) (.type "dict")
 | dT {a:Addr} {kvs:WU} (e:H a=some (.dT kvs)):dg K H (.ref a) (.type "dict")
 | ins {a C dx:Addr} {fs:List (Str×V)} (e:H a=some (.ins C dx fs)) (cl:Cls K C) (ha:PySem.W.findIn K (.ref C) "__class__" = some (some (.builtin "object.__class__")))
   (hn:PySem.W.specialIn K (.builtin "object.__class__") "__get__" = some (some (.builtin "getset_descriptor.__get__"))) (htk:PySem.W.takesIn K (.builtin "object.__class__")=some true)
   (hm:PySem.W.mroIn K C (.type "object")=some true):dg K H (.ref a) (.ref C)
end
end L2
namespace L2
open PySem PySem.Spec PyProof.Rows
structure bR(k:Nat)(A:Around):Prop where
 hd:A.handled=none
 dp:A.depth+3*k+5<recursionLimit
 un:A.units+16*k+200<cLine
theorem bR.deeper{k:Nat}{A:Around}(r:bR (k+1) A)(env:Env):bR k (A.deeper env) :=
 ⟨r.hd,by have:=r.dp; show A.depth+1+3*k+5<_; omega,by have:=r.un; show A.units+3+16*k+200<_; omega⟩
theorem bR.depth{k:Nat}{A:Around}(r:bR k A):A.depth<recursionLimit:=by have:=r.dp; omega
theorem bR.units{k:Nat}{A:Around}(r:bR k A):A.units+64<cLine:=by have:=r.un; omega
noncomputable def m9:TA:=λ_ H Q=>Q [] H
noncomputable def GI(ta:TE)(tr:TA):TA:=λσ H Q=>ta σ H λx H1=>tr σ H1 λxs H2=>Q (x::xs) H2
section
variable{X:Cx}{e:Expr}{es:WS}{te:TE}{t:TA}{pos:Pos}
theorem d_:PA X [] m9:=λ_ _ _ _ H Q I h=>Qw ⟨[],H,I,.nil,h⟩
theorem dJ(ha:PE X e te)(hr:PA X es t)(hs:starEach (e::es) X.env=(false,eval e X.env)::starEach es X.env:=by rfl):PA X (e::es) (GI te t):=by
 intro pos pins s σ H Q I h;rw[hs];show wpAny _ _ (spliced ((false,eval e X.env)::backTo pos (starEach es X.env))) _ _ s;refine XM (thn (ha pins s σ H _ I h) λu s1 ⟨x,H1,I1,r1,q1⟩=>?_);exact thn (hr pos pins s1 σ H1 _ I1 q1) λus s2 ⟨xs,H2,I2,r2,q2⟩=>⟨x::xs,H2,I2,.cons r1 r2,q2⟩
noncomputable def Dl(t:TA):TE:=λσ H Q=>t σ H λxs H1=>xs.length<=sizeLine/\∀p,H1 p=none->Q (.ref p) (upd H1 p (.tup xs))
noncomputable def AX(t:TA):TE:=λσ H Q=>t σ H λxs H1=>xs.length<=sizeLine/\∀p,H1 p=none->Q (.ref p) (upd H1 p (.lst xs))
theorem Ek{x1}(h:PA X es t):PE X (.Tuple es x1 pos) (Dl t):=by
 intro pins s σ H Q I hq;refine wpAny_Tuple_spliced (thn (h pos pins s σ H _ I hq) λus s1 ⟨xs,H1,I1,r,z,q⟩=>⟨by rw[<- r.length]; exact z,?_⟩);have hf:H1 s1.heap.objs.size=none:=I1.hok.fresh (Zn _);refine⟨.ref s1.heap.objs.size,upd H1 s1.heap.objs.size (.tup xs),I1.laid (t':=s1.toks) (λb u e=>Zc _ e) (Zn _) ?_,rfl,q _ hf⟩;exact⟨z,us,r,⟨_,Zy _ rfl,rfl,_,rfl⟩⟩
theorem jI(h:PA X es t):PE X (.List es pos) (AX t):=by
 intro pins s σ H Q I hq;refine wpAny_List_spliced (thn (h pos pins s σ H _ I hq) λus s1 ⟨xs,H1,I1,r,z,q⟩=>⟨by rw[<- r.length]; exact z,?_⟩);have hf:H1 s1.heap.objs.size=none:=I1.hok.fresh (Zn _);refine⟨.ref s1.heap.objs.size,upd H1 s1.heap.objs.size (.lst xs),I1.laid (t':=s1.toks) (λb u e=>Zc _ e) (Zn _) ?_,rfl,q _ hf⟩;exact⟨z,us,0,r,Zy _ rfl⟩
end
abbrev Sp:=List V->Hp->VK->XK->Prop
abbrev CXT:=List Env->Hp->Shared->XK->Value->Shared->Prop
structure jG(P:WK)(w:WN)(K:WG)(mg:WM)(base:Heap)(A:Around)(outer:List Env)(s:WI)(H:Hp):Prop where
 frames:A.frames=some outer
 mod:Mod K mg base
 bs:∀b o,base.get? b=some o->s.heap.get? b=some o/\H b=none
 bsz:base.objs.size<=s.heap.objs.size
 cP:s.heap.FunFrames base outer
 frf:∀b∈frs outer,H b=none
 hok:HOk P w H s.heap
 bare:AllBare s.gens
noncomputable def CE(outer:List Env)(P:WK)(w:WN)(H:Hp)(s:WI)(Q:VK)(u:Value)(s':WI):Prop :=
 ∃v H',s'.os=s.os/\AllBare s'.gens/\Un (frs outer) [] H H' s.heap s'.heap/\HOk P w H' s'.heap/\RelV v u/\Q v H'
noncomputable def CR(CX:CXT)(outer:List Env)(P:WK)(w:WN)(H:Hp)(s:WI)(Q:VK)(E:XK)(r:Result)(s':WI):Prop :=
 match r with
 | .ok (.ret u)=>CE outer P w H s Q u s'
 | .ok _=>False
 | .error e=>CX outer H s E e s'
structure cS(P:WK)(w:WN)(K:WG)(mg:WM)(base:Heap)(CX:CXT)(k:Nat)(f:Addr)(fd:FuncData)(ps:WP)(sp:Sp):Prop where
 len:∀vs H Q E,sp vs H Q E->vs.length=ps.length
 run:∀(A:Around) (outer:List Env) (s:WI) (H:Hp) (args:Args) (us:WH) (vs:WT) (Q:VK) (E:XK),bR k A->jG P w K mg base A outer s H->BindsTo s fd args (ps.zip us)->Vals vs us->sp vs H Q E ->
  codeAny (model P w) A (.call (.ref f) args) (CR CX outer P w H s Q E) s
section
variable{X:Cx}{pins:WD}{σ:St}{H:Hp}{s s':WI}
theorem Inv.qc(I:Inv X pins σ H s):jG X.prog X.w X.K X.mg X.base X.A X.stack s H :=
 ⟨I.ok.frames,I.ok.mod,I.bs,Xm I.ok.bsz I.sz,I.stack,I.l7,I.hok,I.bare⟩
theorem Inv.after{Q:VK}{u:Value}(I:Inv X pins σ H s)(h:CE X.stack X.prog X.w H s Q u s'):EP X pins σ Q u s':=by
 obtain⟨v,H',os,bare,un,hok,r,q⟩:=h;obtain⟨hh,g,d,t,os'⟩:=s';obtain rfl:os'=s.os:=os;exact⟨v,H',I.call (h':=hh) (g':=g) (d':=d) (t':=t) (ch:=[]) un hok bare (λb z=>absurd z (by simp)),r,q⟩
end
noncomputable def nR(sp:Sp)(dvs:WT)(E:XK)(t:TA):TE:=λσ H Q=>t σ H λvs H1=>sp (vs++dvs) H1 Q E
noncomputable def Binds(K:WG)(fd:FuncData)(ps:WP)(ds:WH):Prop :=
 ∀(s:WI) (us:WH),K.In s.heap->(us++ds).length=ps.length->BindsTo s fd ⟨us,[]⟩ (ps.zip (us++ds))
theorem Binds.all{K:WG}{fd:FuncData}{ps:WP}(h:∀us:List Value,us.length=ps.length->bindArgs fd ⟨us,[]⟩=pure (ps.zip us)):Binds K fd ps []:=λs us _ hl=>by
 rw[Xn] at hl ⊢;exact .of_eq (h us hl)
def Passes(CX:CXT)(X:Cx)(E:XK):Prop:=∀(pins:WD) (σ:St) (H:Hp) (s:WI) (e:Value) (s':WI),Inv X pins σ H s->CX X.stack H s E e s'->X.xe e s'
section
variable{X:Cx}{CX:CXT}{k:Nat}{f C:Addr}{fd:FuncData}{ps:WP}{sp:Sp}{dvs:WT}{ds:WH}{E:XK}{x m:Str}{p pos apos:Pos}{e o:Expr}{es:WS}{ta:TE}{t:TA}
theorem lP{pins:WD}{σ:St}{H:Hp}{s:WI}{Q:VK}{us:WH}{vs:WT}(F:cS X.prog X.w X.K X.mg X.base CX k f fd ps sp)(hr:bR k X.A)(hb:Binds X.K fd ps ds)(hd:Vals dvs ds)(hx:Passes CX X E)
  (I:Inv X pins σ H s) (r:Vals vs us) (h:sp (vs++dvs) H Q E):wpAny (model X.prog X.w) X.A (call (.ref f) us) (EP X pins σ Q) X.xe s:=by
 have r2:Vals (vs++dvs) (us++ds):=r.append hd;have hl:(us++ds).length=ps.length:=by rw[<- r2.length]; exact F.len _ _ _ _ h
 refine wpAny_call (QL (F.run X.A X.stack s H ⟨us,[]⟩ (us++ds) (vs++dvs) Q E hr I.qc (hb s us I.kIn hl) r2 h) λr s' hq=>?_)
 cases r with
 | error e=>exact hx pins σ H s e s' I hq
 | ok fl =>
  cases fl with
  | ret u=>exact I.after hq
  | next=>exact False.elim hq
  | brk=>exact False.elim hq
  | cont=>exact False.elim hq
theorem Bl(F:cS X.prog X.w X.K X.mg X.base CX k f fd ps sp)(hr:bR k X.A)(hg:Gl X x)(hm:X.mg x=some (.ref f))(hk:PySem.W.keepIn X.K (.ref f)=true)(hb:Binds X.K fd ps ds)(hd:Vals dvs ds)(hx:Passes CX X E)
  (ha:PA X (e::es) t) (hdb:(x==("__debug__" : Str))=false:=by decide) (he:starEach (e::es) X.env=(false,eval e X.env)::starEach es X.env:=by rfl) (hpl:(backTo pos (starEach es X.env)).any (·.1)=false:=by rfl) :
  PE X (.Call (.Name x p) (e::es) [] pos) (nR sp dvs E t):=by
 intro pins s σ H Q I h;refine Xp (iV I hg hm ?_ hdb);refine Wp (h₀:=X.base) I.ok.mod.kin hk (thn (ha pos pins s σ H _ I h) λus s1 ⟨vs,H1,I1,r,q⟩=>⟨I1.kIn,?_⟩) he hpl;exact lP F hr hb hd hx I1 r q
theorem Ba(F:cS X.prog X.w X.K X.mg X.base CX k f fd ps sp)(hr:bR k X.A)(hg:Gl X x)(hm:X.mg x=some (.ref f))(hk:PySem.W.keepIn X.K (.ref f)=true)(hb:Binds X.K fd ps ds)(hd:Vals dvs ds)(hx:Passes CX X E)
  (hdb:(x==("__debug__" : Str))=false:=by decide):PE X (.Call (.Name x p) [] [] pos) (nR sp dvs E m9):=by
 intro pins s σ H Q I h;refine Xp (iV I hg hm ?_ hdb);exact PySem.W.callWith_K0 I.kIn hk (lP (us:=[]) F hr hb hd hx I .nil h)
structure Mk(K:WG)(C f:Addr):Prop where
 makes:PySem.W.makesIn K C=true
 init:PySem.W.findIn K (.ref C) "__init__" = some (some (.ref f))
 fn:PySem.W.isFn K (.ref f)=true
 kp:PySem.W.keepIn K (.ref C)=true
end
section
variable{X:Cx}{CX:CXT}{k:Nat}{f C:Addr}{fd:FuncData}{ps ks:WP}{sp:Sp}{E:XK}{x m:Str}{p pos apos kpos:Pos}{e o:Expr}{es:WS}{kws:List Keyword}{te ta:TE}{t tk:TA}{nm:Option Str}
structure JM(K:WG)(fd:FuncData)(ps ks:WP)(g:List Value->List Value->List Value)(gV:List V->List V->List V):Prop where
 to:∀(s:WI) (us ws:WH),K.In s.heap->(g us ws).length=ps.length->BindsTo s fd ⟨us,ks.zip ws⟩ (ps.zip (g us ws))
 rel:∀{vs:WT} {us:WH} {zs:WT} {ws:WH},Vals vs us->Vals zs ws->Vals (gV vs zs) (g us ws)
variable{g:List Value->List Value->List Value}{gV:List V->List V->List V}
end
structure lV(N P:WP)(sc:Scope):Prop where
 kind:sc.kind=.function
 co:sc.isCoroutine=false
 gen:sc.isGenerator=false
 nd:N.Nodup
 pre:N.take P.length=P
 par:∀x∈P,sc.names.lookup x=some .local\/sc.names.lookup x=some .cell
 nofree:∀y∈sc.names,y.2≠.free
theorem pY{kindOf:Str->Option NameKind}{x:Str}:∀{binds:List (Str×Value)} {m:WM},(∀v,(x,v)∉binds)->bindL kindOf binds m x=m x
 | [],_,_=>rfl
 | (n,v)::r,m,h=>by
  unfold bindL;rw[pY λw hw=>h w (Zr _ hw)];split
  ·have:x≠n:=by rintro rfl; exact h v Zp
   simp[this]
  ·rfl
theorem tY{kindOf:Str->Option NameKind}{x:Str}:∀{binds:List (Str×Value)} {m:WM},(∀v,(x,v)∉binds)->bindC kindOf binds m x=m x
 | [],_,_=>rfl
 | (n,v)::r,m,h=>by
  unfold bindC;rw[tY λw hw=>h w (Zr _ hw)];split
  ·rfl
  ·have:x≠n:=by rintro rfl; exact h v Zp
   simp[this]
theorem qZ{kindOf:Str->Option NameKind}{x:Str}{v:Value}:∀{P:WP} {vs:WH} {i:Nat} {m:WM},P.Nodup->P[i]?=some x->vs[i]?=some v->kindOf x=some .local ->
  bindL kindOf (P.zip vs) m x=some v
 | [],_,_,_,_,h,_,_=>by simp at h
 | _::_,[],_,_,_,_,h,_=>by simp at h
 | p::P,w::vs,0,m,nd,h1,h2,hk=>by
  simp at h1 h2; subst h1; subst h2;show bindL kindOf ((p,w)::P.zip vs) m p=_;unfold bindL;rw[pY λv hv=>(Xh.mp nd).1 (List.of_mem_zip hv).1,Ze hk];simp
 | p::P,w::vs,i+1,m,nd,h1,h2,hk=>by
  show bindL kindOf ((p,w)::P.zip vs) m x=_;unfold bindL;exact qZ (i:=i) (Xh.mp nd).2 (by simpa using h1) (by simpa using h2) hk
theorem sI{kindOf:Str->Option NameKind}{x:Str}{v:Value}:∀{P:WP} {vs:WH} {i:Nat} {m:WM},P.Nodup->P[i]?=some x->vs[i]?=some v->kindOf x≠some .local ->
  bindC kindOf (P.zip vs) m x=some v
 | [],_,_,_,_,h,_,_=>by simp at h
 | _::_,[],_,_,_,_,h,_=>by simp at h
 | p::P,w::vs,0,m,nd,h1,h2,hk=>by
  simp at h1 h2; subst h1; subst h2;show bindC kindOf ((p,w)::P.zip vs) m p=_;unfold bindC;rw[tY λv hv=>(Xh.mp nd).1 (List.of_mem_zip hv).1,Zg hk];simp
 | p::P,w::vs,i+1,m,nd,h1,h2,hk=>by
  show bindC kindOf ((p,w)::P.zip vs) m x=_;unfold bindC;exact sI (i:=i) (Xh.mp nd).2 (by simpa using h1) (by simpa using h2) hk
noncomputable def start(N:WP)(vs:WT):St:=vs.map some++List.replicate (N.length-vs.length) none
noncomputable def cJ(CX:CXT)(P:WK)(w:WN)(K:WG)(mg:WM)(base:Heap)(N:WP)(qual:Str)(scope:Scope)(f:Addr)(cd:Value)(A:Around)(outer:List Env)(s:WI)(H:Hp)(E:XK):Cx where
 prog:=P
 w:=w
 K:=K
 mg:=mg
 base:=base
 A:=A.deeper (envOfC qual scope s.heap.objs.size f cd)
 N:=N
 s₀:=s
 H₀:=H
 env:=envOfC qual scope s.heap.objs.size f cd
 outer:=outer
 stack:=envOfC qual scope s.heap.objs.size f cd::outer
 ex:=[]
 calm:=true
 fn:=λ_=>true
 pn:=[]
 xe:=λe s'=>wpAny (model P w) (A.deeper (envOfC qual scope s.heap.objs.size f cd)) (leaving (envOfC qual scope s.heap.objs.size f cd) e) (λ_ s''=>CX outer H s E e s'') (λe' s''=>CX outer H s E e' s'') s'
theorem oh{sc:Scope}{n:Nat}{x:Str}(h:sc.names.lookup x=some .cell):∃c,(cellsFrom n sc.names []).lookup x=some c:=by
 have q:=PySem.W.cellsFrom_some sc.names n [] (.inl h);exact Option.isSome_iff_exists.mp q
theorem DJ{CX:CXT}{P:WK}{w:WN}{K:WG}{mg:WM}{base:Heap}{N ps:WP}{qual:Str}{scope:Scope}{f:Addr}{cd:Value}{A:Around}{outer:List Env}{s s1:WI}{H:Hp}{E:XK}{us:WH}{vs:WT}
  (S:lV N ps scope) (hd:A.handled=none) (e0:jG P w K mg base A outer s H) (hl:vs.length=ps.length) (r:Vals vs us)
  (x:InCallC s s.heap.objs.size (bindL (envOfC qual scope s.heap.objs.size f cd).kindOf (ps.zip us) λ_=>none) (cellsFrom (s.heap.objs.size+1) scope.names []) (bindC (envOfC qual scope s.heap.objs.size f cd).kindOf (ps.zip us) λ_=>none) s1) :
  Inv (cJ CX P w K mg base N qual scope f cd A outer s H E) [] (start N vs) H s1:=by
 have hpl:ps.length<=N.length:=by have:=Qb List.length S.pre; rw[XZ] at this; omega
 obtain⟨h1,tk,rfl,hk⟩:=x.done;have noA:∀b:Addr,b∉(cJ CX P w K mg base N qual scope f cd A outer s H E).ex:=λb z=>absurd (show b∈([]:List Addr) from z) (by simp)
 refine⟨⟨e0.mod,S.kind,rfl,rfl,Zn _,λy z c h1 h2=>?_,λy hy=>?_,λy c _ h=>?_,λ_=>hd,Around.frames_deeper e0.frames,.inr ⟨rfl,rfl⟩,λb z=>absurd z (noA b),e0.bs,e0.bsz,λb _ _=>noA b,λb z=>absurd z (noA b),e0.cP,e0.frf⟩,
  rfl,e0.bare,Un.kept hk,⟨_,x.toInCall.ns,λi y v h1 h2 h3=>?_⟩,λy c h=>⟨_,x.cell y c h⟩,e0.hok.fresh (Zn _),λy c h=>?_,λp hp=>absurd (show p∈([]:List (Addr×Obj)) from hp) (by simp),e0.hok.kept hk,?_⟩
 ·exact name_of_addr x.apart (Qk h1) (Qk h2)
 ·have hy:scope.names.lookup y=some .cell\/scope.names.lookup y=some .free:=hy;rcases hy with hy|hy
  ·exact oh hy
  ·exact absurd rfl (S.nofree _ (Qk hy))
 ·exact Qf (x.above y c (Qk h))
 ·have hi:i<vs.length:=by
   unfold start at h2
   by_cases hi:i<vs.length
   ·exact hi
   ·rw[ZI (by simpa using hi)] at h2;rw[XD] at h2;split at h2<;>cases h2
  have ha:vs[i]?=some v:=by
   unfold start at h2;rw[ZF (by simpa using hi),ZJ] at h2
   cases e:vs[i]? with
   | none=>rw[e] at h2; cases h2
   | some a=>rw[e] at h2; cases h2; rfl
  obtain⟨u,hu,rv⟩:=r.get ha
  have hp:ps[i]?=some y:=by
   rw[<- S.pre,QM (by omega)]; exact h1
  have ndP:ps.Nodup:=by rw[<- S.pre]; exact S.nd.sublist (List.take_sublist _ _)
  refine⟨u,rv,?_⟩;rcases S.par y (ZB hp) with k|k
  ·exact .inl ⟨k,qZ ndP hp hu k⟩
  ·obtain⟨c,e⟩:=oh (n:=s.heap.objs.size+1) k;refine .inr ⟨.inl k,c,e,?_⟩;have q:=x.cell y c e;rw[sI ndP hp hu (by show scope.names.lookup y≠_; rw[k]; decide)] at q;exact q
 ·exact e0.hok.fresh (Qf (x.above y c (Qk h)))
 ·unfold start;show _=N.length;rw[ZG,Zi,Z9];omega
theorem AL{CX:CXT}{P:WK}{w:WN}{K:WG}{mg:WM}{base:Heap}{k:Nat}{f:Addr}{name qual:Str}{params:Arguments}{body:List Stmt}{scope:Scope}{dV kV doc pm cdv ct oc:Value}{an od:Option Addr}
  {osl:Array (Option Value)} {N ps:WP} {sp:Sp} (lk:K.lookup f=some ⟨oc,od,.func (PySem.W.fnOf name qual params body scope dV kV doc pm an cdv ct),osl⟩) (hcd:PySem.W.codeIn K cdv qual=true) (S:lV N ps scope)
  (len:∀vs H Q E,sp vs H Q E->vs.length=ps.length)
  (hbody:∀(A:Around) (outer:List Env) (s:WI) (H:Hp) (vs:WT) (Q:VK) (E:XK),bR k (A.deeper (envOfC qual scope s.heap.objs.size f cdv))->sp vs H Q E ->
   ∃t,PSs (cJ CX P w K mg base N qual scope f cdv A outer s H E) body t/\t { nx:=λ_ H'=>Q .non H',rt:=Q } (start N vs) H) :
  cS P w K mg base CX (k+1) f (PySem.W.fnOf name qual params body scope dV kV doc pm an cdv ct) ps sp:=by
 refine⟨len,λA outer s H args us vs Q E hr e0 hb r hsp=>?_⟩;have hl:=len _ _ _ _ hsp;have KX:K.In s.heap:=e0.mod.kin.keeps λb o e=>(e0.bs b o e).1
 have lim:s.heap.NoLimit:=e0.mod.nolimit.keeps λb o e=>(e0.bs b o e).1
 have hkind:∀y∈ps.zip us,scope.names.lookup y.1=some .local\/(scope.names.lookup y.1=some .cell/\((cellsFrom (s.heap.objs.size+1) scope.names []).lookup y.1).isSome=true):=λ⟨n,v⟩ hy=>by
  rcases S.par n (List.of_mem_zip hy).1 with q|q
  ·exact .inl q
  ·exact .inr ⟨q,PySem.W.cellsFrom_some _ _ _ (.inl q)⟩
 refine codeAny_call_function hr.depth (KX _ _ lk) rfl S.co S.gen rfl (PySem.W.codeRec_of KX hcd) (hb _ _ _ _ ?_);refine wpAny_newFunctionEnv_cells S.kind hkind λenv he s1 x=>?_
 subst he;refine⟨lim.keeps x.toInCall.keep,codeAny_func ?_⟩;obtain⟨t,ht,hq⟩:=hbody A outer s H vs Q E (hr.deeper _) hsp;have I:Inv (cJ CX P w K mg base N qual scope f cdv A outer s H E) [] (start N vs) H s1:=DJ S hr.hd e0 hl r x;refine Xu (ht [] s1 (start N vs) H _ I hq) (λfl s' hs=>?_) λe s' hs=>hs
 have fin:∀{σ':St} {H':Hp} {v:V} {u:Value},Inv (cJ CX P w K mg base N qual scope f cdv A outer s H E) [] σ' H' s'->RelV v u->Q v H'->CE outer P w H s Q u s' :=
  λ{σ' H' v u} J rv q=>⟨v,H',J.os,J.bare,J.base,J.hok,rv,q⟩
 cases fl with
 | ret u =>
  obtain⟨v,σ',H',J,rv,q⟩:=hs;exact fin J rv q
 | next =>
  obtain⟨σ',H',J,q⟩:=hs;exact fin (v:=V.non) (u:=Value.none) J rfl q
 | brk =>
  obtain⟨_,_,_,q⟩:=hs;exact False.elim q
 | cont =>
  obtain⟨_,_,_,q⟩:=hs;exact False.elim q
end L2
namespace L2
open PySem PySem.Spec PyProof.Rows
section
variable{X:Cx}{x:Str}{p pos:Pos}{e:Expr}{es:WS}{t:TA}{id T:String}{r:List V->Hp->VK->Prop}
noncomputable def tCB(r:List V->Hp->VK->Prop)(t:TA):TE:=λσ H Q=>t σ H λvs H1=>r vs H1 Q
theorem qu(hc:cA X (.builtin id) r)(hg:Gl X x)(hm:X.mg x=none)(hv:bootBuiltins x=some (.builtin id))(ha:PA X (e::es) t)(hn:x≠"__name__":=by decide)(hdb:(x==("__debug__" : Str))=false:=by decide)
  (he:starEach (e::es) X.env=(false,eval e X.env)::starEach es X.env:=by rfl) (hpl:(backTo pos (starEach es X.env)).any (·.1)=false:=by rfl):PE X (.Call (.Name x p) (e::es) [] pos) (tCB r t):=by
 intro pins s σ H Q I h;refine Xp (eN I hg hm hv ?_ hn hdb);exact XR (thn (ha pos pins s σ H _ I h) λus s1 ⟨vs,H1,I1,r1,q1⟩=>hc pins s1 σ H1 vs us Q I1 r1 q1) he hpl
theorem HS(hc:cA X (.type T) r)(hg:Gl X x)(hm:X.mg x=none)(hv:bootBuiltins x=some (.type T))(ha:PA X (e::es) t)(hn:x≠"__name__":=by decide)(hdb:(x==("__debug__" : Str))=false:=by decide)
  (he:starEach (e::es) X.env=(false,eval e X.env)::starEach es X.env:=by rfl) (hpl:(backTo pos (starEach es X.env)).any (·.1)=false:=by rfl):PE X (.Call (.Name x p) (e::es) [] pos) (tCB r t):=by
 intro pins s σ H Q I h;refine Xp (eN I hg hm hv ?_ hn hdb);exact Xo (thn (ha pos pins s σ H _ I h) λus s1 ⟨vs,H1,I1,r1,q1⟩=>hc pins s1 σ H1 vs us Q I1 r1 q1) he hpl
end
end L2
namespace HT
open PySem PyProof.Rows
section
open PySem.SeqAt
open PySem.AutoSeq1 (wpAny_loadPart')
open PySem.MeetsSeq PySem.MeetsSeq2 PySem.MeetsSeq3
end
section
variable{prog:WK}{w:WN}{A:Around}{E:WC}{s:WI}
theorem GW{t b:Addr}{vs ws:WH}{Q:WC}(ht:IsTup s.heap t vs.toArray)(hb:IsTup s.heap b ws.toArray)(hv:vs≠[])
  (h1:ws=[]->Q (.ref t) s) (h2:ws≠[]->Q (.ref s.heap.objs.size) { s with heap:=s.heap.push { cls:=.type "tuple",data:=.seq (vs++ws).toArray } })
  (hsz:vs.length+ws.length<=sizeLine):wpAny (model prog w) A (binaryOp .Add (.ref t) (.ref b)) Q E s:=by
 obtain⟨⟨cls,dd,data,sl⟩,ho,hc,n,hd⟩:=id ht;obtain⟨⟨cls2,dd2,data2,sl2⟩,ho2,hc2,n2,hd2⟩:=id hb;simp only at hc hd hc2 hd2;subst hc hd hc2 hd2;have e:vs.toArray++ws.toArray=(vs++ws).toArray:=by simp
 by_cases hw:ws=[]
 ·exact concat_meets ⟨_,ho,rfl⟩ ⟨_,ho2,rfl⟩ noFill_tuple_add seq_tuple_add QW QT (QN _ _)
   (tuple_addW1 t b vs.toArray ws.toArray n n2 dd dd2 sl sl2 (by simpa using hv) (by simp[hw])) ⟨ho,ho2,h1 hw⟩
 ·refine concat_meets ⟨_,ho,rfl⟩ ⟨_,ho2,rfl⟩ noFill_tuple_add seq_tuple_add QW QT (QN _ _)
   (tuple_addW2 t b vs.toArray ws.toArray n n2 dd dd2 sl sl2 (by simpa using hv) (by simpa using hw) (by rw[Zh,Zh]; exact hsz)) ⟨ho,ho2,?_⟩
  rw[e];exact h2 hw
noncomputable def sIx(n d:Nat):Option Int->Nat
 | none=>d
 | some v=>if v<0 then(v+(n:Int)).toNat else min v.toNat n
theorem FG(n d:Nat)(hd:d<=n)(o:Option Int):sIx n d o<=n:=by
 cases o with
 | none=>exact hd
 | some v =>
  show(if v<0 then(v+(n:Int)).toNat else min v.toNat n)<=n
  by_cases hv:v<0
  ·rw[Ze hv]; omega
  ·rw[Zg hv]; exact Nat.min_le_right _ _
theorem t6(v:Int)(n d:Nat):(if v<0 then max (v+(n:Int)) 0 else min v (n:Int))=((sIx n d (some v):Nat):Int):=by
 show(if v<0 then max (v+(n:Int)) 0 else min v (n:Int))=(((if v<0 then(v+(n:Int)).toNat else min v.toNat n):Nat):Int)
 by_cases hv:v<0
 ·simp only[Ze hv]; omega
 ·simp only[Zg hv]; omega
theorem Ed(lo hi:Option Int)(n:Nat):Builtin.Slice.sliceAdjust lo hi 1 (n:Int)=(((sIx n 0 lo:Nat):Int),((sIx n n hi:Nat):Int)):=by
 have h1:¬((1:Int)<0):=by omega
 unfold Builtin.Slice.sliceAdjust;simp only[h1,ZK];refine Prod.ext ?_ ?_
 ·cases lo with
  | none=>rfl
  | some v=>exact t6 v n 0
 ·cases hi with
  | none=>rfl
  | some v=>exact t6 v n n
theorem Ds(i j:Nat):Builtin.Slice.slicePlaces (i:Int) (j:Int) 1=j-i:=by
 unfold Builtin.Slice.slicePlaces;have h1:(1:Int)>0:=by omega
 simp only[h1,Xa,Q7];split<;>omega
theorem v_{v:Value}{o:Option Int}{Q:Option Int->Shared->Prop}(p:IsPart v o)(h:Q o s):wpAny (model prog w) A (Builtin.Slice.slicePartIndex v) Q E s:=by
 cases p with
 | none=>exact slicePart_none h
 | int i t=>exact slicePart_int h
theorem qi{sl:Addr}{vl vu:Value}{lo hi:Option Int}{n:Nat}{Q:Int×Int×Nat->Shared->Prop}(hs:s.heap.IsSliceOf sl vl vu .none)(pl:IsPart vl lo)(pu:IsPart vu hi)
  (h:Q (((sIx n 0 lo:Nat):Int),1,sIx n n hi-sIx n 0 lo) s):wpAny (model prog w) A (Builtin.Slice.sliceApplied (.ref sl) (pure (n:Int))) Q E s:=by
 obtain⟨os,hos,hcs,hds⟩:=id hs;unfold Builtin.Slice.sliceApplied Builtin.Slice.sliceFields;refine Za (Za (ZW hos hds (x:=vl) rfl (Za (ZW hos hds (x:=vu) rfl (Za (ZW hos hds (x:=.none) rfl (Zd ?_)))))));refine Za (slicePart_none ?_);show wpAny _ _ (if((1:Int)==0)=true then _ else _) _ _ s;rw[Zg (by decide)];refine Za (v_ pl (Za (v_ pu (Za (Zd ?_)))));show wpAny _ _ (match Builtin.Slice.sliceAdjust lo hi 1 (n:Int) with|(lo,hi)=>pure (lo,(1:Int),Builtin.Slice.slicePlaces lo hi 1)) _ _ s;rw[Ed lo hi n];show wpAny _ _ (pure (((sIx n 0 lo:Nat):Int),(1:Int),Builtin.Slice.slicePlaces ((sIx n 0 lo:Nat):Int) ((sIx n n hi:Nat):Int) 1)) _ _ s;rw[Ds];exact Zd h
theorem BK(xs:WQ)(i k:Nat):((List.range k).filterMap λ(m:Nat)=>xs[((i:Int)+(m:Int)*1).toNat]?).toArray=((xs.toList.drop i).take k).toArray:=by
 have e:(λ(m:Nat)=>xs[((i:Int)+(m:Int)*1).toNat]?)=λm=>xs[i+m]?:=by
  funext m;have:((i:Int)+(m:Int)*1).toNat=i+m:=by omega
  rw[this]
 rw[e];have:=pick_run xs i k;rw[List.filterMap_map] at this;have e2:((λx=>xs[x]?)∘λx=>i+x)=λm=>xs[i+m]?:=rfl
 rw[e2] at this;rw[this]
theorem yj{t sl:Addr}{items:WQ}{vl vu:Value}{lo hi:Option Int}{Q:WC}(ht:IsTup s.heap t items)(hs:s.heap.IsSliceOf sl vl vu .none)(pl:IsPart vl lo)(pu:IsPart vu hi)
  (hw:¬(sIx items.size 0 lo=0/\sIx items.size items.size hi=items.size))
  (h:Q (.ref s.heap.objs.size) { s with heap:=s.heap.push { cls:=.type "tuple",data:=.seq ((items.toList.drop (sIx items.size 0 lo)).take (sIx items.size items.size hi-sIx items.size 0 lo)).toArray } })
  (hsz:items.size<=sizeLine):wpAny (model prog w) A (getItem (.ref t) (.ref sl)) Q E s:=by
 have htake:sizeOk (.seq ((items.toList.drop (sIx items.size 0 lo)).take (sIx items.size items.size hi-sIx items.size 0 lo)).toArray):=by
  show((items.toList.drop (sIx items.size 0 lo)).take (sIx items.size items.size hi-sIx items.size 0 lo)).toArray.size<=sizeLine;rw[Zh,XZ,QZ,ZD];omega
 have hj:sIx items.size items.size hi<=items.size:=FG _ _ (Zn _) hi;obtain⟨os,hos,hcs,hds⟩:=id hs;have hTs:s.TypeIs (.ref sl) "slice":=⟨os,hos,hcs⟩
 unfold getItem
 try with_reducible refine Xg ?_
 first|refine Za (Zd ?_)|skip
 refine Za (wpAny_sequenceKey ht.typeIs (by decide) ?_)
 refine Za (ZY (name:=Str.ofString "__getitem__") ht.typeIs XQ
  (Z4 XQ ht.typeIs entry_tuple_getitem ?_ (args_tuple_getitem _ _)))
 show wpAny _ _ (Builtin.Tuple.tupleItemsOf (.ref t)>>=_) _ _ s;refine Za (tupleItemsOf_ ht ?_);refine Za (Q8 hTs ?_);rw[Ze (by decide)];refine Za (qi hs pl pu ?_)
 have hno:¬((((sIx items.size 0 lo:Nat):Int)==0&&(1:Int)==1&&(sIx items.size items.size hi-sIx items.size 0 lo)==items.size)=true):=by
  intro q;rw[Zl,Zl] at q;have q1:((sIx items.size 0 lo:Nat):Int)=0:=eq_of_beq q.1.1;have q2:sIx items.size items.size hi-sIx items.size 0 lo=items.size:=eq_of_beq q.2;exact hw ⟨by omega,by omega⟩
 show wpAny _ _ (if(((sIx items.size 0 lo:Nat):Int)==0&&(1:Int)==1&&(sIx items.size items.size hi-sIx items.size 0 lo)==items.size)=true then _ else _) _ _ s;rw[Zg hno,BK]
 first
  | exact Za (m:=Builtin.Tuple.tupleExact _) (Xe (Zd ⟨_,rfl,Zd h⟩) htake)
  | exact Za (m:=Builtin.Tuple.tupleExact _) (Xe (Za (Zd (Zd ⟨_,rfl,Zd h⟩))) htake)
  | exact Za (Za (m:=Builtin.Tuple.tupleExact _) (Xe (Zd (Zd ⟨_,rfl,Zd h⟩)) htake))
  | exact Za (Za (m:=Builtin.Tuple.tupleExact _) (Xe (Zd ⟨_,rfl,Zd h⟩) htake))
end
end HT
namespace L2
open PySem PySem.Spec PyProof.Rows
abbrev TO:=St->Hp->(Option Int->Hp->Prop)->Prop
noncomputable def PO(X:Cx)(e:Option Expr)(t:TO):Prop :=
 ∀(pins:WD) (s:WI) (σ:St) (H:Hp) (Q:Option Int->Hp->Prop),Inv X pins σ H s->t σ H Q ->
  wpAny (model X.prog X.w) X.A (evalPart e X.env) (λu s'=>∃o H',Inv X pins σ H' s'/\IsPart u o/\Q o H') X.xe s
noncomputable def DC:TO:=λ_ H Q=>Q none H
noncomputable def Am(t:TE):TO:=λσ H Q=>t σ H λx H1=>∃i,x=.int i/\Q (some i) H1
section
variable{X:Cx}{e:Expr}{te:TE}{lo hi:Option Expr}{tl th:TO}{pos p2:Pos}
theorem Di:PO X none DC:=by
 intro pins s σ H Q I h;rw[evalPart_none];exact Zd ⟨none,H,I,.none,h⟩
theorem Gd(h:PE X e te):PO X (some e) (Am te):=by
 intro pins s σ H Q I hw;rw[evalPart_some];refine thn (h pins s σ H _ I hw) λu s1 ⟨x,H1,I1,r1,q1⟩=>?_
 obtain⟨i,rfl,q⟩:=q1;obtain⟨t,rfl⟩:=r1;exact⟨some i,H1,I1,.int i t,q⟩
noncomputable def SlR(X:Cx)(r:V->Option Int->Option Int->Hp->VK->Prop):Prop :=
 ∀(pins:WD) (s:WI) (σ:St) (H:Hp) (x:V) (v vl vu:Value) (lo hi:Option Int) (sl:Addr) (Q:VK),Inv X pins σ H s->RelV x v->s.heap.IsSliceOf sl vl vu .none->IsPart vl lo->IsPart vu hi->r x lo hi H Q ->
  ∃T id,typeLookup (.type T) "__getitem__" = pure (some (.builtin id))/\s.TypeIs v T/\wpAny (model X.prog X.w) X.A (getItem v (.ref sl)) (EP X pins σ Q) X.xe s
noncomputable def tSl(r:V->Option Int->Option Int->Hp->VK->Prop)(te:TE)(tl th:TO):TE:=λσ H Q=>te σ H λx H1=>tl σ H1 λl H2=>th σ H2 λu H3=>r x l u H3 Q
theorem Bj{r:V->Option Int->Option Int->Hp->VK->Prop}(hr:SlR X r)(he:PE X e te)(hl:PO X lo tl)(hu:PO X hi th):PE X (.Subscript e (.Slice lo hi none p2) pos) (tSl r te tl th):=by
 intro pins s σ H Q I h;refine Subscript_ (thn (he pins s σ H _ I h) λv s1 ⟨x,H1,I1,r1,q1⟩=>?_);refine wpAny_Slice (thn (hl pins s1 σ H1 _ I1 q1) λvl s2 ⟨l,H2,I2,pl,q2⟩=>thn (hu pins s2 σ H2 _ I2 q2) λvu s3 ⟨u,H3,I3,pu,q3⟩=>?_);rw[evalPart_none];refine Zd ?_;have I4:Inv X pins σ H3 { s3 with heap:=s3.heap.push { cls:=.type "slice",data:=.fields #[vl,vu,.none] } }:=I3.kept (t':=s3.toks) λb ob q=>Zc _ q
 obtain⟨T,id,hT,ht,hg⟩:=hr pins { s3 with heap:=s3.heap.push { cls:=.type "slice",data:=.fields #[vl,vu,.none] } } σ H3 x v vl vu l u s3.heap.objs.size Q I4 r1 (Heap.IsSliceOf.new ..) pl pu q3;show wpAny (model X.prog X.w) X.A (subscriptTail e (.Slice lo hi none p2) v (.ref s3.heap.objs.size)) (EP X pins σ Q) X.xe { s3 with heap:=s3.heap.push { cls:=.type "slice",data:=.fields #[vl,vu,.none] } };exact tail_any (ops:=[.ref s3.heap.objs.size,v]) ht hT hg (by with_unfolding_all rfl)
noncomputable def dH(xs:WT)(lo hi:Option Int):List V:=(xs.drop (HT.sIx xs.length 0 lo)).take (HT.sIx xs.length xs.length hi-HT.sIx xs.length 0 lo)
theorem rR(xs:WT)(lo hi:Option Int):(dH xs lo hi).length<=xs.length:=by
 unfold dH;rw[XZ,QZ];omega
noncomputable def FD(K:WG):V->Option Int->Option Int->Hp->VK->Prop:=λx lo hi H Q=>∃a xs,x=.ref a/\SqT K H a xs /\
 ¬(HT.sIx xs.length 0 lo=0/\HT.sIx xs.length xs.length hi=xs.length)/\∀p,H p=none->Q (.ref p) (upd H p (.tup (dH xs lo hi)))
theorem DM:SlR X (FD X.K):=by
 intro pins s σ H x v vl vu lo hi sl Q I rx hs pl pu h;obtain⟨a,xs,rfl,hx,hw,q⟩:=h;cases rx;obtain⟨its,r,ht,hz⟩:=I.tuple hx;have hlen:its.toArray.size=xs.length:=by rw[Zh]; exact r.length.symm
 refine⟨"tuple",_,PyProof.Rows.slot_tuple_getitem.lookup,ht.typeIs,?_⟩;refine HT.yj ht hs pl pu (by rw[hlen]; exact hw) ?_ (by rw[hlen]; exact hz);rw[hlen];refine⟨.ref s.heap.objs.size,_,I.laid (t':=s.toks) (o:=.tup (dH xs lo hi)) (λb ob q=>Zc _ q) (Zn _) ?_,rfl,q _ (I.hok.fresh (Zn _))⟩;exact⟨Xm (rR xs lo hi) hz,_,(r.drop (HT.sIx xs.length 0 lo)).take (HT.sIx xs.length xs.length hi-HT.sIx xs.length 0 lo),IsTup.new _ _⟩
noncomputable def yk(K:WG):R2:=λx y H Q=>∃a b xs ys,x=.ref a/\y=.ref b/\SqT K H a xs/\SqT K H b ys/\xs≠[]/\xs.length+ys.length<=sizeLine /\
 (ys=[]->Q (.ref a) H)/\(ys≠[]->∀p,H p=none->Q (.ref p) (upd H p (.tup (xs++ys))))
theorem Vals.oV{xs:WT}{us:WH}(r:Vals xs us):us=[] ↔ xs=[]:=by
 cases r with
 | nil=>simp
 | cons _ _=>simp
theorem Ie:OpR X (binaryOp .Add) (yk X.K):=by
 intro pins s σ H x y v u Q I rx ry h;obtain⟨a,b,xs,ys,rfl,rfl,ha,hb,hx,hz,q1,q2⟩:=h;cases rx;cases ry;obtain⟨its,r1,p1,_⟩:=I.tuple ha;obtain⟨its2,r2,p2,_⟩:=I.tuple hb;refine HT.GW p1 p2 (λz=>hx (r1.oV.mp z)) (λz=>⟨.ref a,H,I,rfl,q1 (r2.oV.mp z)⟩) (λz=>?_) (by rw[<- r1.length,<- r2.length]; exact hz);refine⟨.ref s.heap.objs.size,_,I.laid (t':=s.toks) (o:=.tup (xs++ys)) (λb ob q=>Zc _ q) (Zn _) ?_,rfl,q2 (λw=>z (r2.oV.mpr w)) _ (I.hok.fresh (Zn _))⟩;exact⟨by rw[ZG]; exact hz,_,r1.append r2,IsTup.new _ _⟩
end
end L2
namespace L2
open PySem PySem.Spec PyProof.Rows
noncomputable def ixN(n:Nat)(i:Int):Option Nat:=if 0<=i then(if i<n then some i.toNat else none) else if -(n:Int)<=i then some (i+n).toNat else none
noncomputable def atI{α:Type}(xs:List α)(i:Int):Option α:=(ixN xs.length i).bind λj=>xs[j]?
theorem qX{n:Nat}{i:Int}{j:Nat}(h:ixN n i=some j):seqIndex? i n=some j/\j<n/\-(n:Int)<=i/\i<n:=by
 unfold ixN at h
 by_cases h0:0<=i
 ·rw[Ze h0] at h
  by_cases h1:i<n
  ·rw[Ze h1] at h;have e:i.toNat=j:=Zz h;exact⟨by rw[seqIndex_of h0 h1,e],by omega,by omega,h1⟩
  ·rw[Zg h1] at h; cases h
 ·rw[Zg h0] at h
  by_cases h1:-(n:Int)<=i
  ·rw[Ze h1] at h;have e:(i+n).toNat=j:=Zz h;exact⟨by rw[seqIndex_neg (by omega) h1,e],by omega,h1,by omega⟩
  ·rw[Zg h1] at h; cases h
theorem pC{α:Type}{xs:List α}{i:Int}{v:α}(h:atI xs i=some v):∃j,seqIndex? i xs.length=some j/\xs[j]?=some v/\j<xs.length/\-(xs.length:Int)<=i/\i<xs.length:=by
 unfold atI at h
 cases e:ixN xs.length i with
 | none=>rw[e] at h; cases h
 | some j =>
  rw[e] at h;obtain⟨h1,h2,h3,h4⟩:=qX e;exact⟨j,h1,h,h2,h3,h4⟩
def iS(b:Expr):Prop:=∀o i,subscripted b false o i=operate [o,i] (getItem o i)
noncomputable def IxR(X:Cx)(r:R2):Prop :=
 ∀(value slice:Expr) (pins:WD) (s:WI) (σ:St) (H:Hp) (x y:V) (v u:Value) (Q:VK),Inv X pins σ H s->RelV x v->RelV y u->r x y H Q ->
  subscripted slice false v u=operate [v,u] (getItem v u)->wpAny (model X.prog X.w) X.A (subscriptTail value slice v u) (EP X pins σ Q) X.xe s
noncomputable def MtR(X:Cx)(id:String)(r:V->List V->Hp->VK->Prop):Prop :=
 ∀(pins:WD) (s:WI) (σ:St) (H:Hp) (x:V) (xs:WT) (v:Value) (us:WH) (Q:VK),Inv X pins σ H s->RelV x v->Vals xs us->r x xs H Q ->
  wpAny (model X.prog X.w) X.A (call (.builtin id) (v::us)) (EP X pins σ Q) X.xe s
section
variable{X:Cx}{a b:Expr}{ta tb:TE}{pos:Pos}
theorem sU{r:R2}(hr:IxR X r)(ha:PE X a ta)(hb:PE X b tb)(hs:iS b):PE X (.Subscript a b pos) (tOp r ta tb):=by
 intro pins s σ H Q I h;exact Subscript_ (kN ha hb I h λv u s2 x y H2 I2 rx ry q=>hr a b pins s2 σ H2 x y v u Q I2 rx ry q (hs _ _))
noncomputable def F5(K:WG):R2:=λx y H Q=>∃p xs i v,x=.ref p/\y=.int i/\SqL K H p xs/\atI xs i=some v/\Q v H
noncomputable def Jo(K:WG):R2:=λx y H Q=>∃p xs i v,x=.ref p/\y=.int i/\SqT K H p xs/\atI xs i=some v/\Q v H
theorem wM:IxR X (F5 X.K):=by
 intro value slice pins s σ H x y v u Q I rx ry h hs;obtain⟨p,xs,i,z,rfl,rfl,hq,he,q⟩:=h;cases rx;obtain⟨t,rfl⟩:=ry;obtain⟨its,r,pl,hz⟩:=I.list hq;obtain⟨j,h1,h2,h3,h4,h5⟩:=pC he;obtain⟨w,ew,rw'⟩:=r.get h2;have hl:=r.length;have hn:=iG;have fin:EP X pins σ Q w s:=⟨z,H,I,rw',q⟩
 by_cases h0:0<=i
 ·have hj:i.toNat=j:=by
   rw[seqIndex_of h0 h5] at h1;exact Zz h1
  exact item_listR pl.isList h0 (by omega) (by rw[hj]; simpa using ew) fin hs
 ·have hj:(i+(its.toArray.size:Int)).toNat=j:=by
   rw[seqIndex_neg (by omega) h4] at h1;rw[Zh,<- hl];exact Zz h1
  exact subscriptTail_builtinR (x:=w) pl.isList.typeIs slot_list_getitem.lookup
   (wpAny_getItem_list_neg (Q:=λr s'=>r=w/\EP X pins σ Q r s') pl.isList (by omega) (by rw[Zh]<;>omega) (by omega) (by rw[hj]; simpa using ew) ⟨rfl,fin⟩) hs
theorem HR:IxR X (Jo X.K):=by
 intro value slice pins s σ H x y v u Q I rx ry h hs;obtain⟨p,xs,i,z,rfl,rfl,hq,he,q⟩:=h;cases rx;obtain⟨t,rfl⟩:=ry;obtain⟨its,r,pl,hz⟩:=I.tuple hq;obtain⟨j,h1,h2,h3,h4,h5⟩:=pC he;obtain⟨w,ew,rw'⟩:=r.get h2;have hl:=r.length;have hn:=iG;have fin:EP X pins σ Q w s:=⟨z,H,I,rw',q⟩
 exact subscriptTail_builtinR (x:=w) pl.typeIs slot_tuple_getitem.lookup
  (getItem_tuple (j:=j) (Q:=λr s'=>r=w/\EP X pins σ Q r s') pl (by omega) (by omega) (by rw[Zh,<- hl]; exact h1) (by simpa using ew) ⟨rfl,fin⟩) hs
theorem Ga(its:WH)(n j:Nat)(u:Value):Obj.mapSeq (·.setIfInBounds j u) { cls:=.type "list",data:=.seq its.toArray n }={ cls:=.type "list",data:=.seq (its.set j u).toArray n }:=by
 simp[Obj.mapSeq]
theorem Inv.lst{pins:WD}{σ:St}{H:Hp}{s:WI}{p:Addr}{xs:WT}(I:Inv X pins σ H s)(h:H p=some (.lst xs)) :
  ∃(its:WH) (n:Nat),Vals xs its/\s.heap.get? p=some { cls:=.type "list",data:=.seq its.toArray n }/\xs.length<=sizeLine:=by
 obtain⟨z,its,n,r,e⟩:=I.hok p _ h;exact⟨its,n,r,e,z⟩
theorem Inv.E5{pins:WD}{σ:St}{H:Hp}{s:WI}{p:Addr}{xs ys:WT}{its its':WH}{n n':Nat}{f:Obj->Obj}(I:Inv X pins σ H s)(h:H p=some (.lst xs))
  (ho:s.heap.get? p=some { cls:=.type "list",data:=.seq its.toArray n }) (hf:f { cls:=.type "list",data:=.seq its.toArray n }={ cls:=.type "list",data:=.seq its'.toArray n' }) (r:Vals ys its') (hz:ys.length<=sizeLine) (t:Nat) :
  Inv X pins σ (upd H p (.lst ys)) { s with heap:=s.heap.update p f,toks:=t }:=by
 have e:(s.heap.update p f).get? p=some { cls:=.type "list",data:=.seq its'.toArray n' }:=by
  rw[Xv f ho (by rw[hf]<;>rfl),hf]
 refine I.write (x:=p) (e:=p) (by rw[h]; trivial) (.inl rfl) (λb u hb q=>(X1 _ _ (Ne.symm hb)).trans q) ⟨_,e⟩ ?_;exact⟨hz,its',n',r,e⟩
noncomputable def ID:V->V->V->Hp->(Hp->Prop)->Prop:=λo i v H Q=>∃p xs k j,o=.ref p/\i=.int k/\H p=some (.lst xs)/\ixN xs.length k=some j/\Q (upd H p (.lst (xs.set j v)))
theorem set_list:kY X ID:=by
 intro pins s σ H o i v ov iv u Q I ro ri rv h;obtain⟨p,xs,k,j,rfl,rfl,hp,hj,q⟩:=h;cases ro;obtain⟨t,rfl⟩:=ri;obtain⟨its,n,r,ho,hz⟩:=I.lst hp;obtain⟨h1,h2,h3,h4⟩:=qX hj;have hl:=r.length;have hn:=iG
 have I':Inv X pins σ (upd H p (.lst (xs.set j v))) { s with heap:=s.heap.update p (Obj.mapSeq (·.setIfInBounds j u)) } :=
  I.E5 hp ho (Ga its n j u) (r.set rv j) (by rw[XS]; exact hz) s.toks
 by_cases h0:0<=k
 ·have hk:k.toNat=j:=by
   rw[seqIndex_of h0 h4] at h1;exact Zz h1
  exact PySem.W.ki_setAt ho h0 (by omega) (by rw[Zh,<- hl]; exact h4) (by rw[hk]; exact⟨_,I',q⟩)
 ·have hk:(k+(its.toArray.size:Int)).toNat=j:=by
   rw[seqIndex_neg (by omega) h3] at h1;rw[Zh,<- hl];exact Zz h1
  exact PySem.W.ki_setBack ho (by omega) (by rw[Zh,<- hl]; exact h3) (by omega) (by rw[hk]; exact⟨_,I',q⟩)
theorem xj(lo hi:Option Int)(n:Nat):(sliceBounds lo hi none n).1=((HT.sIx n 0 lo:Nat):Int)/\(sliceBounds lo hi none n).2.1=((HT.sIx n n hi:Nat):Int)/\(sliceBounds lo hi none n).2.2=1:=by
 refine⟨?_,?_,rfl⟩
 ·cases lo with
  | none=>simp[sliceBounds,HT.sIx]
  | some i =>
   simp only[sliceBounds,HT.sIx,Option.getD_none,show(1:Int)>0 by decide,Xa]
   by_cases h:i<0
   ·simp only[h,Xa]<;>omega
   ·simp only[h,ZK]<;>omega
 ·cases hi with
  | none=>simp[sliceBounds,HT.sIx]
  | some i =>
   simp only[sliceBounds,HT.sIx,Option.getD_none,show(1:Int)>0 by decide,Xa]
   by_cases h:i<0
   ·simp only[h,Xa]<;>omega
   ·simp only[h,ZK]<;>omega
theorem ET(its:WH)(lo hi:Option Int):slicePick its.toArray lo hi none=((its.drop (HT.sIx its.length 0 lo)).take (HT.sIx its.length its.length hi-HT.sIx its.length 0 lo)).toArray:=by
 obtain⟨h1,h2,h3⟩:=xj lo hi its.toArray.size;unfold slicePick;rw[h1,h2,h3];simp only[sliceRange_one,pick_run,Zh]<;>rfl
noncomputable def EL(K:WG):V->Option Int->Option Int->Hp->VK->Prop:=λx lo hi H Q=>∃a xs,x=.ref a/\SqL K H a xs/\∀p,H p=none->Q (.ref p) (upd H p (.lst (dH xs lo hi)))
theorem tO:SlR X (EL X.K):=by
 intro pins s σ H x v vl vu lo hi sl Q I rx hs pl pu h;obtain⟨a,xs,rfl,hx,q⟩:=h;cases rx;obtain⟨its,r,ht,hz⟩:=I.list hx;have hlen:=r.length;refine⟨"list",_,slot_list_getitem.lookup,ht.isList.typeIs,?_⟩;refine wpAny_getItem_list_slice ht.isList hs pl pu .none (by simp) ?_ (by rw[Zh]<;>omega);rw[ET,<- hlen];refine⟨.ref s.heap.objs.size,_,I.laid (t':=s.toks) (o:=.lst (dH xs lo hi)) (λb ob q=>Zc _ q) (Zn _) ?_,rfl,q _ (I.hok.fresh (Zn _))⟩;exact⟨Xm (rR xs lo hi) hz,_,0,(r.drop (HT.sIx xs.length 0 lo)).take (HT.sIx xs.length xs.length hi-HT.sIx xs.length 0 lo),Zy _ rfl⟩
noncomputable def Ak:V->Bool
 | .non=>true
 | .bl _=>true
 | .int _=>true
 | .str _=>true
 | _=>false
theorem CI:cA X (.builtin "len") (λxs H Q=>∃p ys,xs=[.ref p]/\(SqL X.K H p ys\/SqT X.K H p ys)/\Q (.int ys.length) H):=by
 intro pins s σ H xs us Q I r h;obtain⟨p,ys,rfl,hq,q⟩:=h;obtain⟨u,rfl,rx⟩:=vals1 r;cases rx;have hn:=iG;rcases hq with hq|hq
 ·obtain⟨its,r',pl,hz⟩:=I.list hq;have hlen:=r'.length;exact Calls.call_len_list pl.isList (by simp only[Zh]<;>omega) ⟨.int ys.length,H,I.tok _,⟨s.toks+1,by rw[Zh,hlen]⟩,q⟩
 ·obtain⟨its,r',pl,hz⟩:=I.tuple hq;have hlen:=r'.length;exact len_tuple pl (by simp only[Zh]<;>omega) ⟨.int ys.length,H,I.tok _,⟨s.toks+1,by rw[Zh,hlen]⟩,q⟩
theorem FT:cA X (.type "list") (λxs H Q=>∃p ys,xs=[.ref p]/\(SqL X.K H p ys\/SqT X.K H p ys)/\∀l,H l=none->Q (.ref l) (upd H l (.lst ys))):=by
 intro pins s σ H xs us Q I r h;obtain⟨p,ys,rfl,hq,q⟩:=h;obtain⟨u,rfl,rx⟩:=vals1 r;cases rx
 have fin:∀(its:WH),Vals ys its->ys.length<=sizeLine->∀(h':Heap) (c':Nat),(∀b o',s.heap.get? b=some o'->h'.get? b=some o') ->
   h'.get? s.heap.objs.size=some { cls:=.type "list",dict:=none,data:=.seq its.toArray c',slots:=#[] }->EP X pins σ Q (.ref s.heap.objs.size) { s with heap:=h' }:=λits r' hz h' c' kp e =>
  ⟨.ref s.heap.objs.size,_,I.laid (t':=s.toks) kp (Zn _) (show bY X.prog X.w _ h' _ (.lst ys) from⟨hz,its,c',r',e⟩),rfl,q _ (I.hok.fresh (Zn _))⟩
 rcases hq with hq|hq
 ·obtain⟨its,r',pl,hz⟩:=I.list hq;have hlen:=r'.length;obtain⟨o,ho,hc,n,hd⟩:=pl.isList;exact call_list_seq p (.inl rfl) ho hc hd (λh' c' kp e=>fin its r' hz h' c' kp e) (by simp only[Zh]<;>omega)
 ·obtain⟨its,r',pl,hz⟩:=I.tuple hq;have hlen:=r'.length;obtain⟨o,ho,hc,n,hd⟩:=pl;exact call_list_seq p (.inr rfl) ho hc hd (λh' c' kp e=>fin its r' hz h' c' kp e) (by simp only[Zh]<;>omega)
theorem lz:cA X (.type "tuple") (λxs H Q=>∃p ys,xs=[.ref p]/\((SqL X.K H p ys/\∀l,H l=none->Q (.ref l) (upd H l (.tup ys)))\/(SqT X.K H p ys/\Q (.ref p) H))):=by
 intro pins s σ H xs us Q I r h;obtain⟨p,ys,rfl,h⟩:=h;obtain⟨u,rfl,rx⟩:=vals1 r;cases rx;rcases h with⟨hq,q⟩|⟨hq,q⟩
 ·obtain⟨its,r',pl,hz⟩:=I.list hq;have hlen:=r'.length;refine call_tuple_list pl.isList (λh' kp=>?_) (by simp only[Zh]<;>omega);have I1:Inv X pins σ H { s with heap:=h' }:=I.kept (t':=s.toks) kp
  have I2:Inv X pins σ (upd H h'.objs.size (.tup ys)) { s with heap:=h'.push { cls:=.type "tuple",data:=.seq its.toArray } } :=
   I1.laid (t':=s.toks) (λb o e=>Zc _ e) (Zn _) (show bY X.prog X.w _ _ _ (.tup ys) from⟨hz,its,r',IsTup.new _ _⟩)
  exact⟨.ref h'.objs.size,_,I2,rfl,q _ (I1.hok.fresh (Zn _))⟩
 ·obtain⟨its,r',pl,hz⟩:=I.tuple hq;exact call_tuple_same pl ⟨.ref p,H,I,rfl,q⟩
def tyV(K:WG)(T:String)(x:V)(H:Hp):Prop:=match x with
 | .str _=>T = "str"
 | .int _=>T = "int"
 | .ref p=>(T = "list"/\∃xs,SqL K H p xs)\/(T = "tuple"/\∃o,K.lookup p=some o/\o.cls=.type "tuple"/\o.dict=none) \/
   (T = "dict"/\((∃kvs,H p=some (.dK kvs))\/∃kvs,H p=some (.dT kvs)))\/(T = "set"/\∃S n,H p=some (.set S n))
 | _=>False
theorem zC{pins:WD}{σ:St}{H:Hp}{s:WI}{T:String}{x:V}{v:Value}(I:Inv X pins σ H s)(r:RelV x v)(ty:tyV X.K T x H) :
  s.TypeIs v T/\∀a,v=.ref a->∃ob,s.heap.get? a=some ob/\ob.dict=none:=by
 cases x with
 | str z =>
  obtain⟨t,rfl⟩:=r;cases(show T = "str" from ty);exact⟨typeIs_str s z t,λ_ e=>nomatch e⟩
 | int i =>
  obtain⟨t,rfl⟩:=r;cases(show T = "int" from ty);exact⟨typeIs_int s i t,λ_ e=>nomatch e⟩
 | ref p =>
  cases r;rcases ty with⟨rfl,xs,hq⟩|⟨rfl,o,hk,hc,hd⟩|⟨rfl,hk⟩|⟨rfl,S,n,hk⟩
  ·obtain⟨its,_,pl,_⟩:=I.list hq;refine⟨pl.isList.typeIs,λa e=>?_⟩;cases e;obtain⟨o,n,e,c,hd,_⟩:=pl;exact⟨o,e,hd⟩
  ·refine⟨⟨o,I.kIn p o hk,hc⟩,λa e=>?_⟩;cases e;exact⟨o,I.kIn _ o hk,hd⟩
  ·have z:∃o,s.heap.get? p=some o/\o.ExactDict:=by
    rcases hk with⟨kvs,hk⟩|⟨kvs,hk⟩
    ·obtain⟨_,_,_,_,o,_,_,e,ex,_⟩:=I.hok p _ hk;exact⟨o,e,ex⟩
    ·obtain⟨_,_,_,_,o,_,_,e,ex,_⟩:=I.hok p _ hk;exact⟨o,e,ex⟩
   obtain⟨o,e,ex⟩:=z;refine⟨⟨o,e,ex.1⟩,λa e2=>?_⟩;cases e2;exact⟨o,e,ex.2.1⟩
  ·obtain⟨o,_,_,_,e,ex,_⟩:=I.hok p _ hk;refine⟨⟨o,e,ex.1⟩,λa e2=>?_⟩;cases e2;exact⟨o,e,ex.2.1⟩
 | _=>exact False.elim ty
noncomputable def tBM(K:WG)(T:String)(r:V->List V->Hp->VK->Prop)(to:TE)(t:TA):TE:=λσ H Q=>to σ H λx H1=>tyV K T x H1/\t σ H1 λxs H2=>r x xs H2 Q
variable{o e:Expr}{es:WS}{to:TE}{t:TA}{name:Str}{apos cpos:Pos}{T id:String}{r:V->List V->Hp->VK->Prop}
theorem jg(pa:PlainAttrs T)(slot:Slot T name id)(hty:typeOf (.builtin id)=pure (.type "method_descriptor"))(hm:MtR X id r)(ho:PE X o to)(ha:PA X (e::es) t)
  (hbase:attributeBase o name X.env (eval o X.env)=eval o X.env:=by rfl)
  (hfew:((backTo cpos (starEach (e::es) X.env)).all (λx=>!x.1)&&(backToKw cpos (keywordEach [] X.env)).all (λx=>x.1.isSome)
  &&decide ((e::es).length+([]:List Keyword).length+(if([]:List Keyword).isEmpty then 0 else 1)<30))=true:=by rfl)
  (hline:(apos.endLine==cpos.line)=true:=by rfl) (hs:starEach (e::es) X.env=(false,eval e X.env)::starEach es X.env:=by rfl) (hplain:(backTo cpos (starEach es X.env)).any (·.1)=false:=by rfl) :
  PE X (.Call (.Attribute o name apos) (e::es) [] cpos) (tBM X.K T r to t):=by
 intro pins s σ H Q I h;refine wpAny_Call_method_late hbase hfew hline rfl (thn (ho pins s σ H _ I h) λv s1 ⟨x,H1,I1,r1,ty,q1⟩=>?_);obtain⟨h1,h2⟩:=zC I1 r1 ty;refine⟨T,id,pa,slot,hty,h1,h2,?_⟩;have hA:=ha cpos pins s1 σ H1 _ I1 q1;rw[hs] at hA ⊢;refine Calls.callWith_builtin (by show(false||(backTo cpos (starEach es X.env)).any (·.1))=false; rw[hplain]<;>rfl) (Calls.evalArgs_plain ?_);exact thn hA λus s2 ⟨vs,H2,I2,r2,q2⟩=>hm pins s2 σ H2 x vs v us Q I2 r1 r2 q2
/- xs.append(e),list.index on a module's tuple .. are MtR facts of 06m -/
end
end L2
namespace L2
open PySem PySem.Spec PyProof.Rows
noncomputable def MtM(X:Cx)(id:String)(r:V->List V->Hp->VK->Prop):Prop :=
 ∀(pins:WD) (s:WI) (σ:St) (H:Hp) (x:V) (xs:WT) (v:Value) (us:WH) (Q:VK),Inv X pins σ H s->RelV x v->Vals xs us->r x xs H Q ->
  wpAny (model X.prog X.w) X.A (call (.builtin id) (v::us)) (EP X pins σ Q) X.xe s
theorem Vals.one:∀{x:V} {us:WH},Vals [x] us->∃u,us=[u]/\RelV x u
 | _,_,.cons r .nil=>⟨_,rfl,r⟩
theorem Vals.two:∀{x y:V} {us:WH},Vals [x,y] us->∃u v,us=[u,v]/\RelV x u/\RelV y v:=λh=>by
 cases h with
 | cons r t=>
  cases t with
  | cons q t=>
   cases t
   exact⟨_,_,rfl,r,q⟩
theorem Vals.rep{xs:WT}{us:WH}(h:Vals xs us):∀k:Nat,Vals (List.replicate k xs).flatten (List.replicate k us).flatten
 | 0=>.nil
 | k+1=>by
  rw[Z3,Z3,XU,XU];exact Vals.append h (Vals.rep h k)
theorem foldl_rep(its:WH):∀(k:Nat) (acc:WH),
  List.foldl (λx1 x2=>x1++x2) acc.toArray (List.replicate k its.toArray)=(acc++(List.replicate k its).flatten).toArray
 | 0,acc=>by simp
 | k+1,acc=>by
  have e:acc.toArray++its.toArray=(acc++its).toArray:=by simp
  have e2:(acc++its)++(List.replicate k its).flatten=acc++(List.replicate (k+1) its).flatten:=by
   rw[Z3,XU,Zt]
  rw[<- e2,<- foldl_rep its k (acc++its),<- e,Z3,Q9]
section
variable{X:Cx}{pins:WD}{σ:St}{H:Hp}{s:WI}{l b:Addr}{xs ys zs:WT}
theorem Inv.uc{its its':WH}{n:Nat}{f:Array Value->Array Value}{t':Nat}(I:Inv X pins σ H s)(hH:H l=some (.lst xs))
  (e:s.heap.get? l=some { cls:=.type "list",data:=.seq its.toArray n }) (hf:f its.toArray=its'.toArray) (hv:Vals ys its') (hz:ys.length<=sizeLine) :
  Inv X pins σ (upd H l (.lst ys)) { s with heap:=s.heap.update l (Obj.mapSeq f),toks:=t' }:=by
 have q:=PySem.IsL.update e f;rw[hf] at q;refine I.write (x:=l) (e:=l) (by rw[hH]; exact trivial) (.inl rfl) (λb' u hb hu=>(X1 s.heap (Obj.mapSeq f) (Ne.symm hb)).trans hu) ⟨_,q⟩ ?_;exact⟨hz,its',_,hv,q⟩
theorem Inv.sQ{its:WH}{t':Nat}(I:Inv X pins σ H s)(hv:Vals ys its)(hz:ys.length<=sizeLine) :
  Inv X pins σ (upd H s.heap.objs.size (.lst ys)) { s with heap:=s.heap.push { cls:=.type "list",data:=.seq its.toArray },toks:=t' } :=
 I.laid (λ_ _ q=>Zc _ q) (Zn _) ⟨hz,its,0,hv,Zy _ rfl⟩
theorem Inv.fresh(I:Inv X pins σ H s):H s.heap.objs.size=none:=I.hok.fresh (Zn _)
theorem Inv.e_(I:Inv X pins σ H s)(hH:H l=some (.lst xs)):xs.length<=sizeLine/\∃(its:WH) (n:Nat),Vals xs its/\xs.length=its.length/\s.heap.get? l=some { cls:=.type "list",data:=.seq its.toArray n }:=by
 obtain⟨z,its,n,r,e⟩:=I.hok l _ hH;exact⟨z,its,n,r,r.length,e⟩
theorem qd{n:Nat}(h:n<=sizeLine):Builtin.List.listTooLong n=false:=by
 unfold Builtin.List.listTooLong;exact Zs (by omega)
end
section
variable{X:Cx}
noncomputable def Jr:V->List V->Hp->VK->Prop:=λx vs H Q=>∃l xs y,x=.ref l/\vs=[y]/\H l=some (.lst xs)/\xs.length<sizeLine/\Q .non (upd H l (.lst (xs++[y])))
theorem qS:MtM X "list.append" Jr:=by
 intro pins s σ H x vs v us Q I rx rv h;obtain⟨l,xs,y,rfl,rfl,hH,hz,q⟩:=h;cases rx;obtain⟨u,rfl,ru⟩:=rv.one;obtain⟨z,its,n,r,hl,e⟩:=I.e_ hH;refine Qd F.slot_list_append ⟨_,e,rfl⟩ F.entry_list_append (F.args_list_append_2 _ _) (PySem.list_append l its.toArray n u (by rw[Zh]; omega)) ⟨e,?_⟩;refine⟨.non,_,I.uc (its':=its++[u]) hH e (by simp) (r.append (.cons ru .nil)) ?_,rfl,q⟩;rw[ZG,XN];omega
noncomputable def C8:V->List V->Hp->VK->Prop:=λx vs H Q=>∃l b xs zs,x=.ref l/\vs=[.ref b]/\H l=some (.lst xs)/\H b=some (.lst zs)/\xs.length+zs.length<=sizeLine/\Q .non (upd H l (.lst (xs++zs)))
theorem rj:MtM X "list.extend" C8:=by
 intro pins s σ H x vs v us Q I rx rv h;obtain⟨l,b,xs,zs,rfl,rfl,hH,hB,hz,q⟩:=h;cases rx;obtain⟨u,rfl,ru⟩:=rv.one;cases ru;obtain⟨z,its,n,r,hl,e⟩:=I.e_ hH;obtain⟨z2,its2,n2,r2,hl2,e2⟩:=I.e_ hB;have hsz:its.toArray.size+its2.toArray.size<=sizeLine:=by rw[Zh,Zh]; omega
 have hlong:¬(!its.toArray.isEmpty&&Builtin.List.listTooLong (its.toArray.size+its2.toArray.size))=true:=by
  rw[qd hsz,Qy];exact Zx
 refine Qd F.slot_list_extend ⟨_,e,rfl⟩ F.entry_list_extend (F.args_list_extend_2 _ _)
  (AutoSeq1.list_extend_list_list_0 l its.toArray n b its2.toArray n2 hlong (by rw[Zh]; omega) (by omega)) ⟨e,e2,?_⟩
 refine⟨.non,_,I.uc (its':=its++its2) hH e (by simp) (r.append r2) ?_,rfl,q⟩;rw[ZG];omega
noncomputable def IF:R2:=λx y H Q=>∃l b xs zs,x=.ref l/\y=.ref b/\H l=some (.lst xs)/\H b=some (.lst zs)/\xs.length+zs.length<=sizeLine/\∀p,H p=none->Q (.ref p) (upd H p (.lst (xs++zs)))
theorem Bh:OpR X (binaryOp .Add) IF:=by
 intro pins s σ H x y v u Q I rx ry h;obtain⟨l,b,xs,zs,rfl,rfl,hH,hB,hz,q⟩:=h;cases rx;cases ry;obtain⟨z,its,n,r,hl,e⟩:=I.e_ hH;obtain⟨z2,its2,n2,r2,hl2,e2⟩:=I.e_ hB;refine PySem.P.add_list e e2 ?_ (by rw[Zh,Zh]; omega);have ea:its.toArray++its2.toArray=(its++its2).toArray:=by simp
 rw[ea];exact⟨.ref _,_,I.sQ (t':=s.toks) (r.append r2) (by rw[ZG]; omega),rfl,q _ I.fresh⟩
noncomputable def xo:R2:=λx y H Q=>∃l k xs,x=.ref l/\y=.int k/\H l=some (.lst xs)/\-(2^63)<=k/\k<2^63/\xs.length*k.toNat<=sizeLine /\
 ∀p,H p=none->Q (.ref p) (upd H p (.lst (List.replicate k.toNat xs).flatten))
theorem len_rep{α:Type}(xs:List α)(k:Nat):(List.replicate k xs).flatten.length=k*xs.length:=by
 induction k with
 | zero=>simp
 | succ k ih=>rw[Z3,XU,ZG,ih,Nat.succ_mul,Nat.add_comm]
theorem Ht:OpR X (binaryOp .Mult) xo:=by
 intro pins s σ H x y v u Q I rx ry h;obtain⟨l,k,xs,rfl,rfl,hH,h1,h2,hz,q⟩:=h;cases rx;obtain⟨t,rfl⟩:=ry;obtain⟨z,its,n,r,hl,e⟩:=I.e_ hH;have hlen:its.toArray.size*k.toNat<=sizeLine:=by rw[Zh,<- hl]; exact hz
 have hcap:¬its.toArray.size*k.toNat>(2^63-1)/8:=by
  have:(sizeLine:Nat)<=(2^63-1)/8:=by decide
  omega
 have hfit:¬(!Builtin.List.listFitsIndex k)=true:=by
  rw[fitsIndex_both h1 h2];exact Zx
 have hlong:¬Builtin.List.listTooLong (its.toArray.size*k.toNat)=true:=by
  rw[qd hlen];exact Zx
 have hnew:List.foldl (λx1 x2=>x1++x2) #[] (List.replicate (if its.toArray.isEmpty=true then 0 else k.toNat) its.toArray)=(List.replicate k.toNat its).flatten.toArray:=by
  have f0:∀m:Nat,List.foldl (λx1 x2=>x1++x2) #[] (List.replicate m its.toArray)=(List.replicate m its).flatten.toArray:=λm=>by
   have:=foldl_rep its m [];rw[XH] at this;exact this
  rw[f0]
  cases its with
  | nil=>simp
  | cons a r'=>rw[Zg (by simp)]
 refine wpAny_binaryOp_repeat_ref (T:="list") (U:="int") (by decide) ⟨_,e,rfl⟩ (λs'=>typeIs_int s' k t) noFill_list_mul F.fills_int_mul Wa repeat_list F.slot_int_index.lookup
  (Qd Wa (typeIs_int s k t) F.entry_int_rmul (F.args_int_rmul_2 _ _) (int___rmul___int_list k t l its.toArray n)
   ⟨e,rfl,⟨_,e,rfl⟩,Qd F.slot_list_mul ⟨_,e,rfl⟩ F.entry_list_mul (F.args_list_mul_2 _ _) (AutoListH.list___mul___list_int_3 l its.toArray n k t hfit hcap hlong) ⟨e,?_⟩⟩)
 rw[hnew];exact⟨.ref _,_,I.sQ (t':=s.toks) (r.rep k.toNat) (by rw[len_rep,Wz]; exact hz),rfl,q _ I.fresh⟩
end
section
variable{prog:WK}{w:WN}{A:Around}{E:WC}{s:WI}
end
section
variable{X:Cx}
end
end L2
namespace Att
open PySem PySem.W PySem.Calls PyProof.Rows
theorem Cy{P:Params}{h:Heap}:∀(ns:WE) (vs:WH),WellAll P h vs (ns.map WData.int)->IntsAre vs ns:=by
 intro ns
 induction ns with
 | nil =>
  intro vs w;rw[Wb] at w;cases w;exact .nil
 | cons n ns ih =>
  intro vs w;rw[ZT] at w
  cases w with
  | cons a b =>
   cases a;exact .cons _ _ (ih _ b)
theorem GV{l:OpenLaw}{n:Nat}(hn:l.most=some n){P:Params}{h:Heap}{args:List WData}{vals:WH}
  (hpre:l.row.toRowW.claim.pre args=true) (hwl:WellAll P h vals args) :
  ∃a vs ns,vals=[Value.ref a]/\args=[WData.list (ns.map WData.int)]/\h.get? a=some { cls:=.type "list",data:=.seq vs.toArray }/\IntsAre vs ns/\ns.length<=n:=by
 have hsh:WShape.hasAll [] args [.list .int]=true:=(pre_splitW hpre).1;have hc:l.pre.holds [] { args:=args }=true:=(pre_splitW hpre).2;obtain⟨d,r,rfl,h1,h2⟩:=hasAllW_cons hsh;obtain rfl:=hasAllW_nil h2;obtain⟨xs,rfl,h3⟩:=hasW_list h1;obtain⟨ns,rfl⟩:=items_int h3
 have hlen:ns.length<=n:=by
  unfold OpenLaw.pre at hc
  have h4:(WTm.not (.lt (.lit (.int (n:Int))) (.len (.arg 0)))).holds [] { args:=[.list (ns.map .int)] }=true:=by
   have h4:=(holds_andW hc).1;rw[hn] at h4;exact h4
  have h5:=condW_of h4 (w_not (w_lt w_lit (w_len_list (w_arg rfl))));rw[Zi] at h5;refine Nat.le_of_not_lt λq=>?_
  have q':(n:Int)<((ns.length:Nat):Int):=by omega
  first
   | (rw[Zj q'] at h5; exact absurd h5 (by decide))
   | (simp at h5; omega)
 cases hwl with
 | cons w1 w2 =>
  cases w2
  cases w1 with
  | list ho hall=>exact⟨_,_,ns,rfl,rfl,ho,Cy ns _ hall,hlen⟩
theorem AO(l:OpenLaw)(args:List WData):l.row.toRowW.claim.post args (.bool true) args=true :=
 postW_of (r:=l.row.toRowW) (X:=(true==true))
  (show WShape.has [] (.bool true) .bool=true by first|rfl|decide|simp[WShape.has,WShape.arms,WShape.armsAll])
  (show(WTm.eq .res (.lit (.bool true))).value [] { args:=args,res:=some (.bool true),after:=args }=some (.bool (true==true)) from w_eq_bool (w_res rfl) w_lit) rfl
theorem Bf{l:OpenLaw}{n:Nat}{q:WK}{loose:WP}{XP:(Str->Option Value)->Heap->Prop}{YP:World->Heap->Prop}{d:DefRec}
  (hn:l.most=some n) (hdf:d.params.defaults=[])
  (call:∀(w:WN) (s₀ s₁:WI) (mg mb:WM) (fa:Addr) (o:Obj) (pm cd doc:Value) (a:Addr) (vs:WH) (ns:WE),
   Ground q loose [] XP w s₀ mg mb s₁.heap->YP w s₁.heap ->
   s₁.heap.get? fa=some o->o.data=.func (docDef d.name d.params d.body d.scope pm cd doc)->s₁.heap.CodeRec cd d.name->mg d.name=some (.ref fa) ->
   s₁.heap.get? a=some { cls:=.type "list",data:=.seq vs.toArray }->IntsAre vs ns->ns.length<=n->s₁.gens=#[] ->
   codeAny (model l.prog w) callerA (.call (.ref fa) ⟨[.ref a],[]⟩) (λr s'=>r=.ok (.ret (.bool true))/\OldK s₁.heap s'.heap/\s'.os=s₁.os/\AllBare s'.gens) s₁) :
  WalkO q loose XP YP l.row.toRowW d [] (λf vs=>PySem.call f vs):=by
 intro w s₀ s₁ mg mb G Y fa o pm cd doc dV kV ho hd hcd hD hmg hg args vals as hpre hlay hrd hwl hlo;obtain rfl:dV=.none:=Dflts.none hD hdf;obtain rfl:kV=.none:=Dflts.noKw hD;obtain⟨a,vs,ns,rfl,rfl,hobj,hints,hlen⟩:=GV hn hpre hwl;refine enter_call (QL (call w s₀ s₁ mg mb fa o pm cd doc a vs ns G Y ho (fd_plain hd) hcd hmg hobj hints hlen hg) λr s' hq=>?_);obtain⟨rfl,h2,h3,h4⟩:=hq;exact⟨.inl ⟨.bool true,.bool true,[],rfl,λ_=>rfl,.bool true,AO l _,λ_=>⟨List.Pairwise.nil,λ_ hm=>(nomatch hm)⟩⟩,h2,h3,h4⟩
section
variable{prog:WK}{w:WN}{A:Around}{E:WC}{s:WI}{K:Frag}
end
end Att
namespace L2
open PySem PySem.Spec PyProof.Rows
theorem pF:∀{vs:WH} {ns:WE},IntsAre vs ns->Vals (ns.map V.int) vs
 | _,_,.nil=>.nil
 | _,_,.cons n t h=>.cons ⟨t,rfl⟩ (pF h)
def iD(H:Hp):Prop:=∀b,H b=none\/∃o xs,H b=some (.frz o (.lst xs))
theorem Fz{P:WK}{w:WN}{K:WG}{mg mb:WM}{CX:CXT}{k:Nat}{fa a:Addr}{fd:FuncData}{x:Str}{sp:Sp}{s₁:WI}{vs:WH}{ns:WE}
  (KX:K.In s₁.heap) (hns:s₁.heap.Ns mainGlobals mg) (hb:s₁.heap.Ns builtinsNs mb) (hbb:∀x:Str,x≠"__name__"->mb x=bootBuiltins x) (hlim:s₁.heap.NoLimit) (hg:s₁.gens=#[])
  (ha:s₁.heap.get? a=some { cls:=.type "list",data:=.seq vs.toArray }) (hi:IntsAre vs ns) (hl:ns.length<=sizeLine) (hr:bR k callerA)
  (F:∀base:Heap,K.In base->base.Ns mainGlobals mg->cS P w K mg base CX k fa fd [x] sp) (hbind:∀(s:WI) (u:Value),BindsTo s fd ⟨[u],[]⟩ [(x,u)])
  (hsp:∀H:Hp,iD H->SqL K H a (ns.map V.int)->sp [.ref a] H (λv _=>v=.bl true) λ_ _ _=>False)
  (hCX:∀H e s',CX [] H s₁ (λ_ _ _=>False) e s'->False) :
  codeAny (model P w) callerA (.call (.ref fa) ⟨[.ref a],[]⟩) (λr s'=>r=.ok (.ret (.bool true))/\OldK s₁.heap s'.heap/\s'.os=s₁.os/\AllBare s'.gens) s₁:=by
 have rv:=pF hi;have lenV:=hi.length
 have core:∀H:Hp,iD H->SqL K H a (ns.map V.int)->HOk P w H s₁.heap->(∀b,H b≠none->b=a)->(H a≠none->K.lookup a=none) ->
   codeAny (model P w) callerA (.call (.ref fa) ⟨[.ref a],[]⟩) (λr s'=>r=.ok (.ret (.bool true))/\OldK s₁.heap s'.heap/\s'.os=s₁.os/\AllBare s'.gens) s₁:=by
  intro H hO hS hok hA hK;have base_of:∀{b:Addr} {o:Obj},s₁.heap.get? b=some o->H b=none->(ef s₁.heap H).get? b=some o:=λe n=>I_ e n
  have noA:∀{b:Addr} {o:Obj} {es:Array DictEntry} {ep:Nat},s₁.heap.get? b=some o->o.data=.dict es ep->H b=none:=λ{b o es ep} e d=>by
   cases q:H b with
   | none=>rfl
   | some u =>
    have e':b=a:=hA b (by rw[q]; simp);subst e';rw[ha] at e; cases e;have d':Data.seq vs.toArray _=Data.dict es ep:=d;cases d'
  have nsK:∀{b:Addr} {m:WM},s₁.heap.Ns b m->(ef s₁.heap H).Ns b m:=λ{b m} ⟨o,es,ep,e,d,r⟩=>⟨o,es,ep,base_of e (noA e d),d,r⟩
  have hKb:K.In (ef s₁.heap H):=λb o e=>base_of (KX b o e) (by
   cases q:H b with
   | none=>rfl
   | some u =>
    have e':b=a:=hA b (by rw[q]; simp);subst e';rw[hK (by rw[q]; simp)] at e; cases e)
  have hM:Mod K mg (ef s₁.heap H):=⟨hKb,nsK hns,⟨mb,nsK hb,hbb⟩,let⟨mc,h1,h2⟩:=hlim; ⟨mc,nsK h1,h2⟩⟩
  have e0:jG P w K mg (ef s₁.heap H) callerA [] s₁ H:=⟨rfl,hM,λb o e=>z8 e,Nat.le_of_eq (Bw _ _),trivial,λb hb=>absurd (show b∈([]:List Addr) from hb) (by simp),hok,.of_eq hg⟩
  refine QL ((F _ hKb (nsK hns)).run callerA [] s₁ H ⟨[.ref a],[]⟩ [.ref a] [.ref a] _ _ hr e0 (hbind s₁ (.ref a)) (.cons rfl .nil) (hsp H hO hS)) λr s' h=>?_
  cases r with
  | error e=>exact(hCX H e s' h).elim
  | ok fl =>
   cases fl with
   | next=>exact False.elim h
   | brk=>exact False.elim h
   | cont=>exact False.elim h
   | ret u =>
    obtain⟨v,H',os,bare,un,hok',r',q⟩:=h;have q':v=.bl true:=q;subst q';obtain rfl:u=Value.bool true:=r';refine⟨rfl,OldK.of_keep λb o e=>?_,os,bare⟩
    cases q:H b with
    | none=>exact un.keep b o e q (by intro z; exact absurd (show b∈([]:List Addr) from z) (by simp)) (by simp)
    | some u =>
     rcases hO b with z|⟨ob,xs,z⟩
     ·rw[q] at z; cases z
     ·have z2:=un.frzs b ob _ z;obtain⟨e1,_⟩:=hok b _ z;obtain⟨e2,_⟩:=hok' b _ z2;rw[e] at e1; cases e1;exact e2
 cases hk:K.lookup a with
 | some o =>
  have e:=KX a o hk;rw[ha] at e;cases e;refine core (λ_=>none) (λ_=>.inl rfl) (.inr ⟨_,vs.toArray,_,hk,rfl,rfl,rfl,by rw[Zh,lenV]; exact hl,by simpa using rv⟩) (λb u z=>by have z':(none:Option HO)=some u:=z; cases z') (λb z=>absurd rfl z) λz=>absurd rfl z
 | none =>
  refine core (λb=>if b=a then some (.frz { cls:=.type "list",data:=.seq vs.toArray } (.lst (ns.map V.int))) else none) (λb=>?_) (.inl (.inr ⟨{ cls:=.type "list",data:=.seq vs.toArray },Ze rfl⟩)) (λb u z=>?_) (λb z=>?_) λ_=>hk
  ·by_cases hb:b=a
   ·exact .inr ⟨_,_,Ze hb⟩
   ·exact .inl (Zg hb)
  ·by_cases hb:b=a
   ·have z':=(Ze hb).symm.trans z;cases z';subst hb;exact⟨ha,by rw[Zi]; exact hl,vs,_,rv,ha⟩
   ·have z':=(Zg hb).symm.trans z;cases z'
  ·by_cases hb:b=a
   ·exact hb
   ·exact absurd (Zg hb) z
end L2
namespace L2
open PySem PySem.Spec PyProof.Rows
theorem rD{l:PySem.W.OpenLaw}{n k:Nat}{q:WK}{loose:WP}{XP:(Str->Option Value)->Heap->Prop}{YP:World->Heap->Prop}{d:DefRec}{K:Params->PySem.W.Frag}{CX:World->CXT}{sp:World->Sp}{x:Str}
  (hn:l.most=some n) (hn2:n<=sizeLine) (hdf:d.params.defaults=[]) (hr:bR k callerA)
  (hY:∀(w:WN) (h:Heap),YP w h->(K w.params).In h)
  (F:∀(w:WN) (mg:WM) (fa:Addr) (h:Heap),(K w.params).In h->h.Ns mainGlobals mg->mg d.name=some (.ref fa) ->
   ∃fd:FuncData,(∀(s:WI) (u:Value),BindsTo s fd ⟨[u],[]⟩ [(x,u)]) /\
    ∀base:Heap,(K w.params).In base->base.Ns mainGlobals mg->cS l.prog w (K w.params) mg base (CX w) k fa fd [x] (sp w))
  (hsp:∀(w:WN) (H:Hp) (a:Addr) (ns:WE),ns.length<=n->iD H->SqL (K w.params) H a (ns.map V.int)->sp w [.ref a] H (λv _=>v=.bl true) λ_ _ _=>False)
  (hCX:∀(w:WN) (H:Hp) (s:WI) (e:Value) (s':WI),CX w [] H s (λ_ _ _=>False) e s'->False) :
  PySem.W.WalkO q loose XP YP l.row.toRowW d [] (λf vs=>PySem.call f vs):=by
 refine Att.Bf hn hdf λw s₀ s₁ mg mb fa o pm cd doc a vs ns G Y ho hd hcd hmg hobj hints hlen hg=>?_
 have KX:=hY w _ Y;obtain⟨fd,hb,hF⟩:=F w mg fa _ KX G.T.g hmg;exact Fz KX G.T.g G.T.b G.T.builtins G.T.nolimit hg hobj hints (Xm hlen hn2) hr hF hb (λH hO hS=>hsp w H a ns hlen hO hS) λH e s'=>hCX w H s₁ e s'
theorem JI{l:PySem.W.OpenLaw}{n k:Nat}{q:WK}{loose:WP}{XP:(Str->Option Value)->Heap->Prop}{YP:World->Heap->Prop}{d:DefRec}{K:Params->PySem.W.Frag}{CX:CXT}{sp:PySem.W.Frag->Sp}{x:Str}
  (hn:l.most=some n) (hn2:n<=sizeLine) (hdf:d.params.defaults=[]) (hr:bR k callerA)
  (hY:∀(w:WN) (h:Heap),YP w h->(K w.params).In h)
  (F:∀(w:WN) (mg:WM) (fa:Addr) (h:Heap),(K w.params).In h->h.Ns mainGlobals mg->mg d.name=some (.ref fa) ->
   ∃fd:FuncData,(∀(s:WI) (u:Value),BindsTo s fd ⟨[u],[]⟩ [(x,u)]) /\
    ∀base:Heap,(K w.params).In base->base.Ns mainGlobals mg->cS l.prog w (K w.params) mg base CX k fa fd [x] (sp (K w.params)))
  (hsp:∀(K:WG) (H:Hp) (a:Addr) (ns:WE),ns.length<=n->iD H->SqL K H a (ns.map V.int)->sp K [.ref a] H (λv _=>v=.bl true) λ_ _ _=>False)
  (hCX:∀(H:Hp) (s:WI) (e:Value) (s':WI),CX [] H s (λ_ _ _=>False) e s'->False) :
  PySem.W.WalkO q loose XP YP l.row.toRowW d [] (λf vs=>PySem.call f vs) :=
 rD (K:=K) (CX:=λ_=>CX) (sp:=λw=>sp (K w.params)) hn hn2 hdf hr hY F (λw H a ns h1 h2 h3=>hsp (K w.params) H a ns h1 h2 h3) λ_ H s e s'=>hCX H s e s'
end L2
namespace L2
open PySem PySem.Spec PyProof.Rows
noncomputable def fC(s:Stmt):Arguments:=match s with
 | .FunctionDef _ a _ _ _ _ _ _ _ _=>a
 | _=>{ posonlyargs:=[],args:=[],vararg:=none,kwonlyargs:=[],kw_defaults:=[],kwarg:=none,defaults:=[] }
noncomputable def iW(s:Stmt):List Stmt:=match s with
 | .FunctionDef _ _ b _ _ _ _ _ _ _=>b
 | _=>[]
noncomputable def iw(s:Stmt):Scope:=match s with
 | .FunctionDef _ _ _ _ _ _ sc _ _ _=>sc
 | _=>{ kind:=.function,names:=[],isGenerator:=false,isCoroutine:=false }
structure Fun(K:WG)(x qual:Str)(st:Stmt)(f:Addr)(fd:FuncData):Prop where
 ex:∃(oc:Value) (od:Option Addr) (kV doc pm:Value) (an:Option Addr) (cdv ct:Value) (osl:Array (Option Value)),
  fd=PySem.W.fnOf x qual (fC st) (iW st) (iw st) .none kV doc pm an cdv ct/\K.lookup f=some ⟨oc,od,.func fd,osl⟩/\PySem.W.codeIn K cdv qual=true
 kp:PySem.W.keepIn K (.ref f)=true
section
variable{P:WK}{w:WN}{K:WG}{mg:WM}{base:Heap}
theorem Fun.binds{x qual:Str}{st:Stmt}{f:Addr}{fd:FuncData}{ps:WP}(F:Fun K x qual st f fd)
  (h:∀(kV doc pm:Value) (an:Option Addr) (cdv ct:Value) (us:WH),us.length=ps.length->bindArgs (PySem.W.fnOf x qual (fC st) (iW st) (iw st) .none kV doc pm an cdv ct) ⟨us,[]⟩=pure (ps.zip us)):Binds K fd ps []:=by
 obtain⟨oc,od,kV,doc,pm,an,cdv,ct,osl,rfl,lk,hcd⟩:=F.ex;exact .all (h kV doc pm an cdv ct)
theorem xX{x qual:Str}{st:Stmt}{f:Addr}{oc:Value}{od an:Option Addr}{osl:Array (Option Value)}{kV doc pm cdv ct:Value}(l:K.lookup f=some ⟨oc,od,.func (PySem.W.fnOf x qual (fC st) (iW st) (iw st) .none kV doc pm an cdv ct),osl⟩)
  (c:PySem.W.codeIn K cdv qual=true) (k:PySem.W.keepIn K (.ref f)=true):Fun K x qual st f (PySem.W.fnOf x qual (fC st) (iW st) (iw st) .none kV doc pm an cdv ct):=⟨⟨oc,od,kV,doc,pm,an,cdv,ct,osl,rfl,l,c⟩,k⟩
end
section
variable{X:Cx}
end
end L2

namespace EV
open PySem
inductive D where
 | non|bl (b:Bool)|int (i:Int)|str (x:Str)|tup (ds:List D)|loc (l:Nat)|exn (c:Str)|fro (ds:List D)
 deriving Inhabited
abbrev WW:=List (List Int×D)
abbrev WV:=List D
mutual
noncomputable def D.dec:(a b:D)->Decidable (a=b)
 | .non,b=>match b with|.non=>.isTrue rfl|.bl _|.int _|.str _|.tup _|.loc _|.exn _|.fro _=>.isFalse (λh=>nomatch h)
 | .bl x,b=>match b with
  | .bl y=>if h:x=y then .isTrue (by rw[h]) else .isFalse (λe=>h (D.bl.inj e))
  | .non|.int _|.str _|.tup _|.loc _|.exn _|.fro _=>.isFalse (λh=>nomatch h)
 | .int x,b=>match b with
  | .int y=>if h:x=y then .isTrue (by rw[h]) else .isFalse (λe=>h (D.int.inj e))
  | .non|.bl _|.str _|.tup _|.loc _|.exn _|.fro _=>.isFalse (λh=>nomatch h)
 | .str x,b=>match b with
  | .str y=>if h:x=y then .isTrue (by rw[h]) else .isFalse (λe=>h (D.str.inj e))
  | .non|.bl _|.int _|.tup _|.loc _|.exn _|.fro _=>.isFalse (λh=>nomatch h)
 | .tup x,b=>match b with
  | .tup y=>match D.decs x y with
   | .isTrue h=>.isTrue (by rw[h])
   | .isFalse h=>.isFalse (λe=>h (D.tup.inj e))
  | .non|.bl _|.int _|.str _|.loc _|.exn _|.fro _=>.isFalse (λh=>nomatch h)
 | .loc x,b=>match b with
  | .loc y=>if h:x=y then .isTrue (by rw[h]) else .isFalse (λe=>h (D.loc.inj e))
  | .non|.bl _|.int _|.str _|.tup _|.exn _|.fro _=>.isFalse (λh=>nomatch h)
 | .exn x,b=>match b with
  | .exn y=>if h:x=y then .isTrue (by rw[h]) else .isFalse (λe=>h (D.exn.inj e))
  | .non|.bl _|.int _|.str _|.tup _|.loc _|.fro _=>.isFalse (λh=>nomatch h)
 | .fro x,b=>match b with
  | .fro y=>match D.decs x y with
   | .isTrue h=>.isTrue (by rw[h])
   | .isFalse h=>.isFalse (λe=>h (D.fro.inj e))
  | .non|.bl _|.int _|.str _|.loc _|.exn _|.tup _=>.isFalse (λh=>nomatch h)
noncomputable def D.decs:(a b:WV)->Decidable (a=b)
 | [],[]=>.isTrue rfl
 | [],_::_=>.isFalse (λh=>nomatch h)
 | _::_,[]=>.isFalse (λh=>nomatch h)
 | x::xs,y::ys=>match D.dec x y with
  | .isFalse h=>.isFalse (λe=>h (List.cons.inj e).1)
  | .isTrue h=>match D.decs xs ys with
   | .isTrue h'=>.isTrue (by rw[h,h'])
   | .isFalse h'=>.isFalse (λe=>h' (List.cons.inj e).2)
end
noncomputable instance:DecidableEq D:=D.dec
inductive Cell where
 | lst (ds:WV)|dct (kvs:WW)|fdc (kvs:WW)
 deriving DecidableEq,Inhabited
abbrev af:=List Cell
inductive Res(α:Type) where
 | ok (a:α) (S:af)|exc (c:Str) (S:af)|bad
noncomputable def M(α:Type):=af->Res α
noncomputable instance:Monad M where
 pure a:=λS=>.ok a S
 bind m f:=λS=>match m S with
  | .ok a S'=>f a S'
  | .exc c S'=>.exc c S'
  | .bad=>.bad
theorem cI{α β:Type}(m:M α)(f:α->M β)(S:af):(m>>=f) S=match m S with|.ok a S'=>f a S'|.exc c S'=>.exc c S'|.bad=>.bad:=rfl
theorem aq{α β:Type}{m:M α}{f:α->M β}{S S':af}{a:α}(h:m S=.ok a S'):(m>>=f) S=f a S':=by rw[cI,h]
theorem cY{α β:Type}{m:M α}{f:α->M β}{S S':af}{c:Str}(h:m S=.exc c S'):(m>>=f) S=.exc c S':=by rw[cI,h]
theorem bh{α β:Type}{m:M α}{f:α->M β}{S:af}(h:m S=.bad):(m>>=f) S=.bad:=by rw[cI,h]
noncomputable def bad{α:Type}:M α:=λ_=>.bad
noncomputable def opt{α:Type}:Option α->M α
 | some a=>pure a
 | none=>bad
noncomputable def alloc(c:Cell):M D:=λS=>.ok (.loc S.length) (S++[c])
noncomputable def quiet{α:Type}(m:M α):M α:=λS=>match m S with
 | .ok a S'=>.ok a S'
 | _=>.bad
noncomputable def aT:Nat:=16777216
noncomputable def fits(n:Nat):Bool:=decide (n<=aT)
noncomputable def iF(n:Nat):Bool:=decide (n<aT)
noncomputable def guard{α:Type}(b:Bool)(m:M α):M α:=match b with
 | true=>m
 | false=>bad
noncomputable def listAt(S:af)(l:Nat):Option (List D):=match S[l]? with
 | some (.lst ds)=>some ds
 | _=>none
noncomputable def items:D->M (List D)
 | .tup ds=>pure ds
 | .loc l=>λS=>match listAt S l with
  | some ds=>.ok ds S
  | none=>.bad
 | .fro ds=>pure ds
 | _=>bad
noncomputable def cz:D->M (List D)
 | .loc l=>items (.loc l)
 | .fro ds=>pure ds
 | _=>bad
noncomputable def asL(S:af):D->Option (List D)
 | .loc l=>listAt S l
 | .fro ds=>some ds
 | _=>none
noncomputable def i2b(b:Bool):Int:=if b then 1 else 0
noncomputable def kI:D->D->Option Bool
 | .non,.non=>some true
 | .non,.bl _|.non,.int _|.non,.str _|.bl _,.non|.int _,.non|.str _,.non=>some false
 | .bl a,.bl b=>some (a==b)
 | .bl a,.int b=>some (i2b a==b)
 | .int a,.bl b=>some (a==i2b b)
 | .int a,.int b=>some (a==b)
 | .str a,.str b=>some (a==b)
 | .bl _,.str _|.int _,.str _|.str _,.bl _|.str _,.int _=>some false
 | _,_=>none
noncomputable def b7(f:D->D->Option Bool):List D->List D->Option Bool
 | x::xs,y::ys=>match f x y,b7 f xs ys with
  | some a,some b=>some (a&&b)
  | _,_=>none
 | _,_=>some true
set_option genInjectivity false in
inductive Kd where|flat|tup|list|other
noncomputable def D.kd:D->Kd
 | .non|.bl _|.int _|.str _=>.flat
 | .tup _=>.tup
 | .loc _|.fro _=>.list
 | .exn _=>.other
noncomputable def D.its:D->List D
 | .tup ds=>ds
 | _=>[]
noncomputable def eqD:Nat->af->D->D->Option Bool
 | 0,_,_,_=>none
 | n+1,S,a,b=>match a.kd,b.kd with
  | .flat,.flat=>kI a b
  | .tup,.tup=>(b7 (eqD n S) a.its b.its).map λr=>r&&(a.its.length==b.its.length)
  | .list,.list=>match asL S a,asL S b with
   | some xs,some ys=>if xs.length=ys.length then b7 (eqD n S) xs ys else some false
   | _,_=>none
  | .list,.tup=>(asL S a).map λ_=>false
  | .tup,.list=>(asL S b).map λ_=>false
  | .list,.flat=>(asL S a).map λ_=>false
  | .flat,.list=>(asL S b).map λ_=>false
  | .tup,.flat=>some false
  | .flat,.tup=>some false
  | _,_=>none
noncomputable def deep:Nat:=12
noncomputable def eqM(a b:D):M Bool:=λS=>match eqD deep S a b with
 | some k=>.ok k S
 | none=>.bad
noncomputable def inL(S:af)(x:D):List D->Option Bool
 | []=>some false
 | y::ys=>match eqD deep S y x,inL S x ys with
  | some a,some b=>some (a||b)
  | _,_=>none
set_option genInjectivity false in
inductive Op2 where|add|sub|mul|fdiv|mod|pow
set_option genInjectivity false in
inductive Cm where|lt|le|gt|ge|eq|ne|isin|eV|din|dnin|nisB|tin
set_option genInjectivity false in
inductive Ty where|int|bool|str|list|tuple|dict|cls (c:Str)
 deriving DecidableEq
set_option genInjectivity false in
inductive Bi where|len|inst (t:Ty)|all|any|sum|min|max|sorted|sortedSet|list|tuple|int|abs|rangeT|rangeL|vals|lenS|rev|jJ|lenT|intT|str1|signs|tTo|tFrom|tAt
set_option genInjectivity false in
inductive Tm where|join|split|starts|part
set_option genInjectivity false in
inductive Me where|append|extend
noncomputable def small(i:Int):Bool:=decide (-(2^64)<i/\i<2^64)
noncomputable def aZ(l:Nat)(f:List D->M D):M D:=λS=>match S[l]? with
 | some (.lst ds)=>f ds S
 | _=>.bad
noncomputable def put(l:Nat)(c:Cell):M D:=λS=>.ok .non (S.set l c)
noncomputable def BI(a b:Nat):M D:=aZ a λxs=>aZ b λys=>guard (fits (xs.length+ys.length)) (alloc (.lst (xs++ys)))
noncomputable def F1:D->D->M D
 | .int i,.int j=>pure (.int (i+j))
 | .tup xs,.tup ys=>guard (fits (xs.length+ys.length)) (pure (.tup (xs++ys)))
 | .str x,.str y=>guard (fits (x.length+y.length)) (pure (.str (x++y)))
 | .loc a,.loc b=>BI a b
 | _,_=>bad
noncomputable def yu:D->D->M D
 | .int i,.int j=>pure (.int (i-j))
 | _,_=>bad
noncomputable def Ia(l:Nat)(j:Int):M D:=aZ l λxs=>guard (decide (-(2^63)<=j)&&decide (j<2^63)&&fits (xs.length*j.toNat)) (alloc (.lst (List.replicate j.toNat xs).flatten))
noncomputable def B7:D->D->M D
 | .int i,.int j=>guard (small i||small j) (pure (.int (i*j)))
 | .tup xs,.int j=>guard (decide (-(2^63)<=j)&&decide (j<2^63)&&fits (xs.length*j.toNat)) (pure (.tup (List.replicate j.toNat xs).flatten))
 | .loc l,.int j=>Ia l j
 | _,_=>bad
noncomputable def EZ:D->D->M D
 | .int i,.int j=>guard (decide (0<j)&&decide (j<1073741824)) (pure (.int (i/j)))
 | _,_=>bad
noncomputable def Dj:D->D->M D
 | .int i,.int j=>guard (decide (0<j)) (pure (.int (i%j)))
 | _,_=>bad
noncomputable def GJ:D->D->M D
 | .int i,.int j=>guard (decide (0<=j)&&decide (j<=1000)&&decide (i.natAbs<2^64)) (pure (.int (i^j.toNat)))
 | _,_=>bad
noncomputable def opD:Op2->D->D->M D
 | .add=>F1
 | .sub=>yu
 | .mul=>B7
 | .fdiv=>EZ
 | .mod=>Dj
 | .pow=>GJ
noncomputable def gG(p:Int->Int->Bool):D->D->M D
 | .int i,.int j=>pure (.bl (p i j))
 | _,_=>bad
noncomputable def inA(neg:Bool)(a:D)(ys:WV):M D:=λS=>match inL S a ys with
 | some k=>.ok (.bl (k != neg)) S
 | none=>.bad
noncomputable def inM(neg:Bool)(a b:D):M D:=do
 let ys <- items b
 inA neg a ys
noncomputable def allInts:List D->Option (List Int)
 | []=>some []
 | .int i::r=>(allInts r).map (i :: ·)
 | _=>none
noncomputable def ia(kvs:WW)(k:WE):Option D:=(kvs.find? λkv=>decide (kv.1=k)).map (·.2)
noncomputable def AG(kvs:WW)(k:WE)(d:D):List (List Int×D) :=
 if(kvs.any λkv=>decide (kv.1=k))=true then kvs.map (λkv=>if kv.1=k then(kv.1,d) else kv) else kvs++[(k,d)]
noncomputable def gv(l:Nat)(f:List (List Int×D)->M D):M D:=λS=>match S[l]? with
 | some (.dct kvs)=>f kvs S
 | some (.fdc kvs)=>f kvs S
 | _=>.bad
noncomputable def CD:D->D->M D
 | .loc l,.tup ds=>do
  let k <- opt (allInts ds)
  gv l λkvs=>opt (ia kvs k)
 | _,_=>bad
noncomputable def lG(neg:Bool):D->D->M D
 | .tup ds,.loc l=>do
  let k <- opt (allInts ds)
  gv l λkvs=>pure (.bl ((ia kvs k).isSome != neg))
 | _,_=>bad
noncomputable def Cu:D->M D
 | .loc l=>gv l λkvs=>guard (fits kvs.length) (alloc (.lst (kvs.map (·.2))))
 | _=>bad
noncomputable def Jg(acc:WE)(x:Int):List Int:=if acc.contains x then acc else acc++[x]
noncomputable def tS(xs:WE):Nat:=(xs.foldl Jg []).length
noncomputable def zh:D->D->M D
 | .bl a,.bl b=>pure (.bl (a != b))
 | _,_=>bad
noncomputable def tx(xs:List Nat):Str:=⟨xs.toArray⟩
noncomputable def vN(c:Nat):D:=.str ⟨#[c]⟩
noncomputable def oN(c:Nat):List Nat->List (List Nat)
 | []=>[[]]
 | a::r=>if a=c then[]::oN c r else match oN c r with
  | h::t=>(a::h)::t
  | []=>[[a]]
noncomputable def tK(a:Str):List Str->Str
 | []=>tx []
 | [y]=>y
 | y::r=>y++a++tK a r
noncomputable def allStrs:List D->Option (List Str)
 | []=>some []
 | .str y::r=>(allStrs r).map (y :: ·)
 | _=>none
noncomputable def w_(x:Str):D->M D
 | .str y=>match y.cps.toList with
  | [c]=>guard (decide (x.length<=1000000)) (alloc (.lst ((oN c x.cps.toList).map λp=>.str (tx p))))
  | _=>bad
 | _=>bad
noncomputable def yC(c:Nat)(xs:List Nat):List D:=if c∈xs then[.str (tx (xs.takeWhile λa=>a != c)),.str ⟨#[c]⟩,.str (tx ((xs.dropWhile λa=>a != c).drop 1))] else[.str (tx xs),.str (tx []),.str (tx [])]
noncomputable def xN(x:Str):D->M D
 | .str y=>match y.cps.toList with
  | [c]=>guard (decide (x.length<=1000000)) (pure (.tup (yC c x.cps.toList)))
  | _=>bad
 | _=>bad
noncomputable def Iw(x:Str):D->M D
 | .str y=>match y.cps.toList with
  | [c]=>pure (.bl (decide (x.cps.toList.head?=some c)))
  | _=>bad
 | _=>bad
noncomputable def joinM(x:Str)(ys:WP):M D:=guard (decide ((ys.map (λy=>y.length)).sum+ys.length*x.length<=16777216)) (pure (.str (tK x ys)))
noncomputable def xB(x:Str)(d:D):M D:=do
 let ds <- cz d
 let ys <- opt (allStrs ds)
 joinM x ys
noncomputable def tmD:Tm->Str->D->M D
 | .join=>xB
 | .split=>w_
 | .starts=>Iw
 | .part=>xN
noncomputable def tD(m:Tm)(s:Str)(as:WV):M D:=match as with
 | [y]=>tmD m s y
 | _=>bad
noncomputable def vK(x:D)(f:Str->M D):M D:=match x with
 | .str s=>f s
 | _=>bad
noncomputable def GF:D->D->M D
 | .str x,.str y=>match x.cps.toList with
  | [c]=>pure (.bl (decide (c∈y.cps.toList)))
  | _=>bad
 | _,_=>bad
noncomputable def yy(c:Nat):Bool:=decide (48<=c)&&decide (c<=57)
noncomputable def valN(xs:List Nat):Nat:=xs.foldl (λacc c=>acc*10+(c-48)) 0
noncomputable def A2:D->M D
 | .str x=>guard (x.cps.toList.all yy&&decide (1<=x.length)&&decide (x.length<=4)) (pure (.int (valN x.cps.toList:Nat)))
 | _=>bad
noncomputable def zq:D->M D
 | .int i=>guard (small i) (pure (.str (Str.ofString (toString i))))
 | .str x=>pure (.str x)
 | _=>bad
noncomputable def z9:D->M D
 | .str x=>guard (fits x.length) (pure (.int x.length))
 | _=>bad
noncomputable def yK:D->M D
 | .str x=>guard (x.cps.toList.all λc=>decide (c<128)) (pure (.tup (x.cps.toList.map vN)))
 | _=>bad
noncomputable def zc:D->D->M D
 | .str x,.int j=>guard (decide (-(x.length:Int)<=j)&&decide (j<=(x.length:Int))&&fits x.length) (pure (.str (tx (x.cps.toList.take (if j<0 then(j+(x.length:Int)).toNat else j.toNat)))))
 | _,_=>bad
noncomputable def HY:D->D->M D
 | .str x,.int j=>guard (decide (0<=j)&&fits x.length) (pure (.str (tx (x.cps.toList.drop j.toNat))))
 | _,_=>bad
noncomputable def Ih:D->D->M D
 | .str x,.int j=>guard (decide (0<=j)&&fits x.length) (match x.cps.toList[j.toNat]? with
  | some c=>pure (vN c)
  | none=>bad)
 | _,_=>bad
noncomputable def gZ:D->D->Bool
 | .bl _,.int _=>false
 | .int _,.bl _=>false
 | .tup _,.str _=>true
 | .tup _,.int _=>true
 | a,b=>match a.kd,b.kd with
  | .flat,.flat=>true
  | .tup,.tup=>true
  | .list,.list=>true
  | _,_=>false
noncomputable def cmD:Cm->D->D->M D
 | .lt=>gG λi j=>decide (i<j)
 | .le=>gG λi j=>decide (i<=j)
 | .gt=>gG λi j=>decide (j<i)
 | .ge=>gG λi j=>decide (j<=i)
 | .eq=>λa b=>do pure (.bl (<- eqM a b))
 | .ne=>λa b=>guard (gZ a b) (do pure (.bl (!(<- eqM a b))))
 | .isin=>inM false
 | .eV=>inM true
 | .din=>lG false
 | .dnin=>lG true
 | .nisB=>zh
 | .tin=>GF
noncomputable def truth:D->M Bool
 | .bl b=>pure b
 | .non=>pure false
 | .int i=>pure (i != 0)
 | .tup ds=>pure (!ds.isEmpty)
 | .loc l=>do
  let xs <- items (.loc l)
  pure (!xs.isEmpty)
 | .fro ds=>pure (!ds.isEmpty)
 | _=>bad
noncomputable def ixN(n:Nat)(i:Int):Option Nat:=if 0<=i then(if i<n then some i.toNat else none) else if -(n:Int)<=i then some (i+n).toNat else none
noncomputable def atI(xs:WV)(i:Int):Option D:=(ixN xs.length i).bind λj=>xs[j]?
noncomputable def ixD(a i:D):M D:=match i with
 | .int j=>do
  let xs <- items a
  opt (atI xs j)
 | _=>bad
noncomputable def gm:D->D->D->M D
 | .loc l,.int k,d=>aZ l λxs=>match ixN xs.length k with
  | some j=>put l (.lst (xs.set j d))
  | none=>bad
 | _,_,_=>bad
noncomputable def sIx(n d:Nat):Option Int->Nat
 | none=>d
 | some v=>if v<0 then(v+(n:Int)).toNat else min v.toNat n
noncomputable def cut(xs:WV)(lo hi:Option Int):List D:=(xs.drop (sIx xs.length 0 lo)).take (sIx xs.length xs.length hi-sIx xs.length 0 lo)
noncomputable def slD(a:D)(lo hi:Option Int):M D:=match a with
 | .tup xs=>pure (.tup (cut xs lo hi))
 | .loc l=>do
  let xs <- items (.loc l)
  alloc (.lst (cut xs lo hi))
 | .fro xs=>alloc (.lst (cut xs lo hi))
 | _=>bad
noncomputable def dh:List D->Option (List Bool)
 | []=>some []
 | .bl i::r=>(dh r).map (i :: ·)
 | _=>none
noncomputable def ins(i:Int):List Int->List Int
 | []=>[i]
 | j::r=>if i<=j then i::j::r else j::ins i r
noncomputable def ue:List Int->List Int
 | []=>[]
 | i::r=>ins i (ue r)
abbrev Sub:=Str->Str->Bool
noncomputable def bH(sub:Sub)(S:af):D->Ty->Option Bool
 | .non,t=>match t with|.cls _=>none|_=>some false
 | .bl _,t=>match t with|.cls _=>none|.int=>some true|.bool=>some true|_=>some false
 | .int _,t=>match t with|.cls _=>none|.int=>some true|_=>some false
 | .str _,t=>match t with|.cls _=>none|.str=>some true|_=>some false
 | .tup _,t=>match t with|.cls _=>none|.tuple=>some true|_=>some false
 | .loc l,t=>match S[l]?,t with
  | _,.cls _=>none
  | some (.lst _),.list=>some true
  | some (.lst _),_=>some false
  | some (.dct _),_=>none
  | some (.fdc _),_=>none
  | none,_=>none
 | .fro _,t=>match t with|.cls _=>none|.list=>some true|_=>some false
 | .exn c,t=>match t with|.cls d=>some (sub c d)|_=>none
noncomputable def lexLe:List Int->List Int->Bool
 | [],_=>true
 | _::_,[]=>false
 | a::r,b::q=>if a<b then true else if a=b then lexLe r q else false
noncomputable def cg(t:WE):List (List Int)->List (List Int)
 | []=>[t]
 | u::r=>if t=u then u::r else if lexLe t u then t::u::r else u::cg t r
noncomputable def aQ:List (List Int)->List (List Int)
 | []=>[]
 | t::r=>cg t (aQ r)
noncomputable def tups:List D->Option (List (List Int))
 | []=>some []
 | .tup ds::r=>match allInts ds,tups r with
  | some t,some q=>some (t::q)
  | _,_=>none
 | _=>none
noncomputable def rng(lo hi step:Int):List Int :=
 if 0<step then(List.range ((hi-lo+step-1)/step).toNat).map λ(k:Nat)=>lo+k*step
 else if step<0 then(List.range ((lo-hi-step-1)/(-step)).toNat).map λ(k:Nat)=>lo+k*step
 else[]
noncomputable def near(i:Int):Bool:=decide (-(2^62)<=i/\i<2^62)
noncomputable def cV:List D->Option (List Int)
 | [.int j]=>if near j then some (rng 0 j 1) else none
 | [.int i,.int j]=>if near i&&near j then some (rng i j 1) else none
 | [.int i,.int j,.int k]=>if near i&&near j&&decide (k=-1) then some (rng i j k) else none
 | _=>none
noncomputable def AU:List Int->M D
 | []=>bad
 | i::r=>pure (.int (r.foldl min i))
noncomputable def Ea:List Int->M D
 | []=>bad
 | i::r=>pure (.int (r.foldl max i))
noncomputable def min2:D->D->M D
 | .int i,.int j=>pure (.int (if j<i then j else i))
 | _,_=>bad
noncomputable def max2:D->D->M D
 | .int i,.int j=>pure (.int (if j>i then j else i))
 | _,_=>bad
noncomputable def toInt:D->M D
 | .int i=>pure (.int i)
 | .bl b=>pure (.int (i2b b))
 | _=>bad
noncomputable def FP:D->M D
 | .int i=>pure (.int (if i<0 then -i else i))
 | _=>bad
noncomputable def iz(sub:Sub)(t:Ty)(a:D):M D:=λS=>match bH sub S a t with
 | some k=>.ok (.bl k) S
 | none=>.bad
noncomputable def JE:D->M D
 | .tup ds=>pure (.tup ds)
 | a=>do pure (.tup (<- items a))
noncomputable def A9:Option (List (List Int))->M D
 | some ts=>guard (decide (ts.length<64)&&decide ts.Nodup&&ts.all λt=>!t.isEmpty) (alloc (.lst ((aQ ts).map λt=>.tup (t.map .int))))
 | none=>bad
noncomputable def Je(r:M D):Option (List Int)->M D
 | some is=>guard (decide (is.length<64)) (alloc (.lst ((ue is).map .int)))
 | none=>r
noncomputable def HH(ds:WV):M D:=Je (A9 (tups ds)) (allInts ds)
noncomputable def C4:D->Option Int
 | .tup [.int n,_]=>some n
 | _=>none
noncomputable def firstsP:List D->Option (List Int)
 | []=>some []
 | d::r=>match C4 d,firstsP r with
  | some n,some ns=>some (n::ns)
  | _,_=>none
noncomputable def bi1(sub:Sub):Bi->D->M D
 | .len,a=>do
  let ds <- items a
  pure (.int ds.length)
 | .inst t,a=>iz sub t a
 | .all,a=>do
  let ds <- items a
  let bs <- opt (dh ds)
  pure (.bl (bs.all id))
 | .any,a=>do
  let ds <- items a
  let bs <- opt (dh ds)
  pure (.bl (bs.any id))
 | .sum,a=>do
  let ds <- items a
  let is <- opt (allInts ds)
  pure (.int is.sum)
 | .min,a=>do
  let ds <- items a
  let is <- opt (allInts ds)
  AU is
 | .max,a=>do
  let ds <- items a
  let is <- opt (allInts ds)
  Ea is
 | .sorted,a=>do
  let ds <- items a
  HH ds
 | .sortedSet,a=>do
  let ds <- cz a
  let ts <- opt (tups ds)
  guard (decide (ts.length<=18)&&ts.all λt=>!t.isEmpty) (alloc (.lst ((aQ ts).map λt=>.tup (t.map .int))))
 | .list,a=>do
  let ds <- items a
  alloc (.lst ds)
 | .tuple,a=>do
  let ds <- items a
  pure (.tup ds)
 | .int,a=>toInt a
 | .abs,a=>FP a
 | .vals,a=>Cu a
 | .lenS,a=>do
  let ds <- cz a
  let is <- opt (allInts ds)
  guard (decide (is.length<=18)) (pure (.int (tS is)))
 | .rev,a=>do
  let ds <- cz a
  alloc (.lst ds.reverse)
 | .jJ,a=>do
  let ds <- cz a
  let is <- opt (firstsP ds)
  guard (decide (is.length<=18)) (pure (.int (tS is)))
 | .lenT,a=>z9 a
 | .intT,a=>A2 a
 | .str1,a=>zq a
 | .signs,a=>yK a
 | .tTo,_=>bad
 | .tFrom,_=>bad
 | .tAt,_=>bad
 | .rangeT,_=>bad
 | .rangeL,_=>bad
noncomputable def bi2:Bi->D->D->M D
 | .min=>min2
 | .max=>max2
 | .tTo=>zc
 | .tFrom=>HY
 | .tAt=>Ih
 | _=>λ_ _=>bad
noncomputable def biR:Bi->List D->M D
 | .rangeT,as=>do
  let is <- opt (cV as)
  guard (fits is.length) (pure (.tup (is.map .int)))
 | .rangeL,as=>do
  let is <- opt (cV as)
  guard (fits is.length) (alloc (.lst (is.map .int)))
 | _,_=>bad
noncomputable def Bi.isR:Bi->Bool
 | .rangeT=>true
 | .rangeL=>true
 | _=>false
noncomputable def biD(sub:Sub)(b:Bi)(as:WV):M D:=match b.isR with
 | true=>biR b as
 | false=>match as with
  | [a]=>bi1 sub b a
  | [a,c]=>bi2 b a c
  | _=>bad
noncomputable def DW:D->D->M D
 | .loc l,d=>aZ l λds=>guard (iF ds.length) (put l (.lst (ds++[d])))
 | _,_=>bad
noncomputable def DH:D->D->M D
 | .loc l,.loc k=>aZ l λds=>aZ k λes=>guard (fits (ds.length+es.length)) (put l (.lst (ds++es)))
 | _,_=>bad
noncomputable def za:D->M D
 | .loc l=>aZ l λds=>match ds.getLast? with
  | some d=>λS=>.ok d (S.set l (.lst ds.dropLast))
  | none=>bad
 | _=>bad
noncomputable def meD(m:Me)(o:D)(as:WV):M D:=match as with
 | [d]=>match m with
  | .append=>DW o d
  | .extend=>DH o d
 | _=>bad
set_option genInjectivity false in
inductive Tg where
 | one (i:Nat)|many (is:List Nat)
abbrev Sg:=List (Option D)
noncomputable def Tg.has:Tg->Nat->Bool
 | .one i,j=>i==j
 | .many is,j=>is.contains j
noncomputable def b_:List Nat->List D->Sg->Sg
 | i::is,d::ds,σ=>b_ is ds (σ.set i (some d))
 | _,_,σ=>σ
noncomputable def aO:Tg->D->Sg->M Sg
 | .one i,d,σ=>pure (σ.set i (some d))
 | .many is,.tup ds,σ=>guard (decide (ds.length=is.length)) (pure (b_ is ds σ))
 | _,_,_=>bad
set_option genInjectivity false in
inductive E where
 | v (i:Nat)|c (d:D)|bin (op:Op2) (a b:E)|cmp (op:Cm) (a b:E)|chn (o o':Cm) (a b c:E)|and (a b:E)|or (a b:E)|not (a:E)|neg (a:E)|isN (a:E)|notN (a:E)|ite (c a b:E)
 | nl|cs (a r:E)|tup (es:E)|lst (es:E)|ix (a i:E)|sl (a lo hi:E)|call (f:Str) (es:E)|bi (b:Bi) (es:E)|me (m:Me) (o es:E)
 | iSeq (a:E)|iEnum (a:E)|iRng (es:E)|iZip (es:E)|comp (k:Nat) (elt:E) (t:Tg) (it ife:E)|dget (o es:E)|dnew|dgv (o i:E)|iDct (o:E)|pop (o:E)|tm (m:Tm) (o es:E)|callL (fs:WP) (i es:E)
set_option genInjectivity false in
structure Src where
 its:List D
 l:Option Nat
 raw:List D
noncomputable def aG(s:Src):M Unit:=match s.l with
 | none=>pure ()
 | some l=>λS=>match listAt S l with
  | some ds=>guard (decide (ds=s.raw)) (pure ()) S
  | none=>.bad
noncomputable def srcOf:D->M Src
 | .tup ds=>pure ⟨ds,none,ds⟩
 | .loc l=>do
  let ds <- items (.loc l)
  pure ⟨ds,some l,ds⟩
 | .fro ds=>pure ⟨ds,none,ds⟩
 | _=>bad
noncomputable def Bt:D->M Src
 | .loc l=>λS=>match S[l]? with
  | some (.dct kvs)=>.ok ⟨kvs.map λkv=>.tup (kv.1.map .int),none,[]⟩ (S.set l (.fdc kvs))
  | some (.fdc kvs)=>.ok ⟨kvs.map λkv=>.tup (kv.1.map .int),none,[]⟩ S
  | _=>.bad
 | _=>bad
noncomputable def b9:List D->List D->List D
 | x::r,y::q=>.tup [x,y]::b9 r q
 | _,_=>[]
noncomputable def gC:List D->M Src
 | [.tup xs,.tup ys]=>pure ⟨b9 xs ys,none,[]⟩
 | _=>bad
noncomputable def num(k:Nat):List D->List D
 | []=>[]
 | d::r=>.tup [.int k,d]::num (k+1) r
noncomputable def bL(s:Src)(f:D->M (Option D)):List D->M (List D)
 | []=>do
  aG s
  pure []
 | d::ds=>do
  aG s
  let y <- f d
  let ys <- bL s f ds
  pure (match y with|some y=>y::ys|none=>ys)
noncomputable def fO:D->M (Option Int)
 | .int i=>pure (some i)
 | _=>bad
noncomputable def D.dF(S:af):D->Bool
 | .loc l=>match S[l]? with|some (.lst _)=>true|_=>false
 | _=>false
noncomputable def jb{α:Type}(x:D)(m:M α):M α:=λS=>guard (x.dF S) m S
noncomputable def rW(l:Nat)(f:List (List Int×D)->M D):M D:=λS=>match S[l]? with
 | some (.dct kvs)=>f kvs S
 | _=>.bad
noncomputable def yg(a:D)(ds:WV):M D:=match a with
 | .loc l=>do
  let k <- opt (allInts ds)
  rW l λkvs=>opt (ia kvs k)
 | _=>bad
noncomputable def u0(a:D)(ds:WV)(d:D):M D:=match a with
 | .loc l=>do
  let k <- opt (allInts ds)
  rW l λkvs=>guard (iF kvs.length) (put l (.dct (AG kvs k d)))
 | _=>bad
noncomputable def Co(a:D):D->D->M D
 | .tup ds,d=>u0 a ds d
 | _,_=>bad
noncomputable def jO(fs:WP):D->M Str
 | .int j=>guard (decide (0<=j)) (opt fs[j.toNat]?)
 | _=>bad
noncomputable def bF(σ:Sg)(i:Nat):M D:=match σ[i]? with
 | some (some d)=>pure d
 | _=>bad
noncomputable def E.bD:E->Bool
 | .nl=>true
 | _=>false
section
variable(sub:Sub)(cf:Str->List D->M D)
mutual
noncomputable def ev:E->Sg->M D
 | .v i,σ=>bF σ i
 | .c d,_=>pure d
 | .bin op a b,σ=>do
  let x <- ev a σ
  let y <- ev b σ
  opD op x y
 | .cmp op a b,σ=>do
  let x <- ev a σ
  let y <- ev b σ
  cmD op x y
 | .chn o o' a b c,σ=>do
  let x <- ev a σ
  let y <- ev b σ
  match <- cmD o x y with
   | .bl true=>do
    let z <- ev c σ
    cmD o' y z
   | .bl false=>pure (.bl false)
   | _=>bad
 | .and a b,σ=>do
  match <- ev a σ with
   | .bl true=>ev b σ
   | .bl false=>pure (.bl false)
   | _=>bad
 | .or a b,σ=>do
  match <- ev a σ with
   | .bl true=>pure (.bl true)
   | .bl false=>ev b σ
   | _=>bad
 | .not a,σ=>do
  match <- ev a σ with
   | .bl b=>pure (.bl (!b))
   | _=>bad
 | .neg a,σ=>do
  match <- ev a σ with
   | .int i=>pure (.int (-i))
   | _=>bad
 | .isN a,σ=>do
  let x <- ev a σ
  pure (.bl (decide (x=.non)))
 | .notN a,σ=>do
  let x <- ev a σ
  pure (.bl (!decide (x=.non)))
 | .ite c a b,σ=>do
  if <- evT c σ then ev a σ else ev b σ
 | .tup es,σ=>do
  let ds <- evs es σ
  guard (fits ds.length) (pure (.tup ds))
 | .lst es,σ=>do
  let ds <- evs es σ
  guard (fits ds.length) (alloc (.lst ds))
 | .ix a i,σ=>do
  let x <- ev a σ
  let y <- ev i σ
  ixD x y
 | .sl a lo hi,σ=>do
  let x <- ev a σ
  let l <- (if lo.bD then pure none else do fO (<- ev lo σ))
  let h <- (if hi.bD then pure none else do fO (<- ev hi σ))
  slD x l h
 | .call f es,σ=>do
  let ds <- evs es σ
  cf f ds
 | .bi b es,σ=>do
  let ds <- evs es σ
  biD sub b ds
 | .me m o es,σ=>do
  let x <- ev o σ
  jb x (do
   let ds <- evs es σ
   meD m x ds)
 | .comp k elt t it ife,σ=>do
  let s <- evI it σ
  let ys <- quiet (bL s (λd=>do
   let σ' <- aO t d (σ++List.replicate k none)
   if <- (if ife.bD then pure true else evT ife σ') then do
    let y <- ev elt σ'
    pure (some y)
   else pure none) s.its)
  guard (fits ys.length) (alloc (.lst ys))
 | .dget o es,σ=>do
  let x <- ev o σ
  let ds <- evs es σ
  guard (fits ds.length) (yg x ds)
 | .dnew,_=>alloc (.dct [])
 | .dgv o i,σ=>do
  let x <- ev o σ
  let y <- ev i σ
  CD x y
 | .iDct _,_=>bad
 | .pop o,σ=>do
  let x <- ev o σ
  za x
 | .tm m o es,σ=>do
  let x <- ev o σ
  vK x λs=>do
   let ds <- evs es σ
   tD m s ds
 | .callL fs i es,σ=>do
  let k <- ev i σ
  let f <- jO fs k
  let ds <- evs es σ
  cf f ds
 | .nl,_=>bad
 | .cs _ _,_=>bad
 | .iSeq _,_=>bad
 | .iEnum _,_=>bad
 | .iRng _,_=>bad
 | .iZip _,_=>bad
noncomputable def evT:E->Sg->M Bool
 | .and a b,σ=>do
  if <- evT a σ then evT b σ else pure false
 | .or a b,σ=>do
  if <- evT a σ then pure true else evT b σ
 | .not a,σ=>do
  let b <- evT a σ
  pure (!b)
 | .v i,σ=>bF σ i>>=truth
 | .c d,_=>pure d>>=truth
 | .cmp op a b,σ=>do
  let x <- ev a σ
  let y <- ev b σ
  truth (<- cmD op x y)
 | .chn o o' a b c,σ=>do
  let x <- ev a σ
  let y <- ev b σ
  if <- truth (<- cmD o x y) then do
   let z <- ev c σ
   truth (<- cmD o' y z)
  else pure false
 | .isN a,σ=>do
  let x <- ev a σ
  pure (decide (x=.non))
 | .notN a,σ=>do
  let x <- ev a σ
  pure (!decide (x=.non))
 | .ix a i,σ=>(do
  let x <- ev a σ
  let y <- ev i σ
  ixD x y)>>=truth
 | .call f es,σ=>(do
  let ds <- evs es σ
  cf f ds)>>=truth
 | .bi b es,σ=>(do
  let ds <- evs es σ
  biD sub b ds)>>=truth
 | .tm m o es,σ=>(do
  let x <- ev o σ
  vK x λs=>do
   let ds <- evs es σ
   tD m s ds)>>=truth
 | _,_=>bad
noncomputable def evs:E->Sg->M (List D)
 | .nl,_=>pure []
 | .cs a r,σ=>do
  let x <- ev a σ
  let xs <- evs r σ
  pure (x::xs)
 | _,_=>bad
noncomputable def evI:E->Sg->M Src
 | .iSeq a,σ=>do srcOf (<- ev a σ)
 | .iEnum a,σ=>do
  let s <- srcOf (<- ev a σ)
  pure { s with its:=num 0 s.its }
 | .iRng es,σ=>do
  let is <- opt (cV (<- evs es σ))
  pure ⟨is.map .int,none,[]⟩
 | .iZip es,σ=>do gC (<- evs es σ)
 | .iDct a,σ=>do Bt (<- ev a σ)
 | _,_=>bad
end
end
set_option genInjectivity false in
inductive S where
 | ret (e:E)|retN|set (t:Tg) (e:E)|setIx (o i e:E)|dset (o es e:E)|dsv (o i e:E)|ex (e:E)|ite (c:E) (a b:S)|forS (t:Tg) (it:E) (b:S)|whl (c:E) (b:S)|rais (c:Str)|tryR (f:Str) (es:E) (c:Str) (d:D)|tryE (f:Str) (es:E) (c:Str) (d:D)|tryK (f:Str) (es:E) (cs:WP) (j:Nat)|bot
 | skip|seq (a b:S)|brk|cont
set_option genInjectivity false in
inductive Fl where
 | nx (σ:Sg)|rt (d:D)|bk (σ:Sg)|ct (σ:Sg)
noncomputable def forL(s:Src)(f:D->Sg->M Fl):List D->Sg->M Fl
 | [],σ=>do
  aG s
  pure (.nx σ)
 | d::ds,σ=>do
  aG s
  match <- f d σ with
   | .nx σ'=>forL s f ds σ'
   | .ct σ'=>forL s f ds σ'
   | .bk σ'=>pure (.nx σ')
   | .rt d=>pure (.rt d)
noncomputable def oO(c:Sg->M Bool)(f:Sg->M Fl):Nat->Sg->M Fl
 | 0,_=>bad
 | n+1,σ=>do
  if <- c σ then do
   match <- f σ with
    | .nx σ'=>oO c f n σ'
    | .ct σ'=>oO c f n σ'
    | .bk σ'=>pure (.nx σ')
    | .rt d=>pure (.rt d)
  else pure (.nx σ)
noncomputable def IA(c:Str)(d:D)(m:M D):M D:=λS=>match m S with
 | .ok v S'=>.ok v S'
 | .exc c' S'=>if c'=c then .ok d S' else .bad
 | .bad=>.bad
noncomputable def Hq(c:Str)(d:D)(σ:Sg)(m:M D):M Fl:=λS=>match m S with
 | .ok _ S'=>.ok (.nx σ) S'
 | .exc c' S'=>if c'=c then .ok (.rt d) S' else .bad
 | .bad=>.bad
noncomputable def fz:List Str->Str->Option Nat
 | [],_=>none
 | y::r,x=>if y=x then some 0 else(fz r x).map (· + 1)
noncomputable def gq(cs:WP)(kd:Option (Option D))(σ:Sg)(m:M D):M Fl:=λS=>match m S with
 | .ok _ S'=>.ok (.nx σ) S'
 | .exc c S'=>match fz cs c,kd with
  | some k,some (some (.int n))=>.ok (.rt (.bl (decide ((k:Int)=n)))) S'
  | _,_=>.bad
 | .bad=>.bad
noncomputable def yU:Nat:=1000000
section
variable(sub:Sub)(cf:Str->List D->M D)
noncomputable def exec:S->Sg->M Fl
 | .ret e,σ=>do
  let d <- ev sub cf e σ
  pure (.rt d)
 | .retN,_=>pure (.rt .non)
 | .set t e,σ=>do
  let d <- ev sub cf e σ
  let σ' <- aO t d σ
  pure (.nx σ')
 | .setIx o i e,σ=>do
  let d <- ev sub cf e σ
  let a <- ev sub cf o σ
  let k <- ev sub cf i σ
  let _ <- gm a k d
  pure (.nx σ)
 | .dset o es e,σ=>do
  let d <- ev sub cf e σ
  let a <- ev sub cf o σ
  let ks <- evs sub cf es σ
  let _ <- guard (fits ks.length) (u0 a ks d)
  pure (.nx σ)
 | .dsv o i e,σ=>do
  let d <- ev sub cf e σ
  let a <- ev sub cf o σ
  let k <- ev sub cf i σ
  let _ <- Co a k d
  pure (.nx σ)
 | .ex e,σ=>do
  let _ <- ev sub cf e σ
  pure (.nx σ)
 | .ite c a b,σ=>do
  if <- evT sub cf c σ then exec a σ else exec b σ
 | .forS t it b,σ=>do
  let s <- evI sub cf it σ
  quiet (forL s (λd σ=>do
   let σ' <- aO t d σ
   exec b σ') s.its σ)
 | .whl c b,σ=>quiet (oO (evT sub cf c) (exec b) yU σ)
 | .rais c,_=>λS=>.exc c S
 | .tryR f es c d,σ=>do
  let ds <- quiet (evs sub cf es σ)
  let v <- IA c d (cf f ds)
  pure (.rt v)
 | .tryE f es c d,σ=>do
  let ds <- quiet (evs sub cf es σ)
  Hq c d σ (cf f ds)
 | .tryK f es cs j,σ=>do
  let ds <- quiet (evs sub cf es σ)
  gq cs σ[j]? σ (cf f ds)
 | .bot,_=>bad
 | .skip,σ=>pure (.nx σ)
 | .seq a b,σ=>do
  match <- exec a σ with
   | .nx σ'=>exec b σ'
   | f=>pure f
 | .brk,σ=>pure (.bk σ)
 | .cont,σ=>pure (.ct σ)
end
mutual
noncomputable def D.low(n:Nat):D->Bool
 | .tup ds=>D.lows n ds
 | .fro ds=>D.lows n ds
 | .loc l=>decide (l<n)
 | _=>true
noncomputable def D.lows(n:Nat):List D->Bool
 | []=>true
 | d::r=>D.low n d&&D.lows n r
end
noncomputable def Cell.low(n:Nat):Cell->Bool
 | .lst ds=>D.lows n ds
 | .dct _=>false
 | .fdc _=>false
noncomputable def leave(S:af)(d:D)(S':af):Res D :=
 if S'.take S.length=S then
  if d.low S.length then .ok d S
  else match d with
   | .loc l=>match S'[l]? with
    | some c=>if c.low S.length then .ok (.loc S.length) (S++[c]) else .ok d S'
    | none=>.ok d S'
   | _=>.ok d S'
 else .ok d S'
set_option genInjectivity false in
structure Fn where
 par:Nat
 names:Nat
 body:S
abbrev Prg:=List (Str×Fn)
noncomputable def gH(S:af):Res Fl->Res D
 | .ok (.rt d) S'=>leave S d S'
 | .ok (.nx _) S'=>leave S .non S'
 | .ok (.bk _) _=>.bad
 | .ok (.ct _) _=>.bad
 | .exc c S'=>if S'.take S.length=S then .exc c S else .exc c S'
 | .bad=>.bad
noncomputable def frame(F:Fn)(ds:WV):Sg:=ds.map some++List.replicate (F.names-ds.length) none
noncomputable def aj(sub:Sub)(P:Prg):Nat->Str->List D->M D
 | 0,_,_=>bad
 | n+1,f,ds=>λS=>match P.lookup f with
  | none=>.bad
  | some F=>if ds.length=F.par then gH S (exec sub (aj sub P n) F.body (frame F ds) S) else .bad
theorem fN{sub:Sub}{P:Prg}{n:Nat}{f:Str}{ds:WV}{S:af}{F:Fn}(h:P.lookup f=some F)(hl:ds.length=F.par):aj sub P (n+1) f ds S=gH S (exec sub (aj sub P n) F.body (frame F ds) S):=by
 show(match P.lookup f with|none=>Res.bad|some F=>if ds.length=F.par then gH S (exec sub (aj sub P n) F.body (frame F ds) S) else .bad)=_;rw[h]; simp only[hl,Xa]
theorem Cw{sub:Sub}{P:Prg}{n:Nat}{f:Str}{ds:WV}{S:af}{F:Fn}(h:P.lookup f=some F)(hl:ds.length≠F.par):aj sub P (n+1) f ds S=.bad:=by
 show(match P.lookup f with|none=>Res.bad|some F=>if ds.length=F.par then gH S (exec sub (aj sub P n) F.body (frame F ds) S) else .bad)=_;rw[h]; simp only[hl,ZK]
end EV

namespace EV
open PySem
variable{α β:Type}
noncomputable def Res.bind(r:Res α)(f:α->af->Res β):Res β:=match r with
 | .ok a S=>f a S
 | .exc c S=>.exc c S
 | .bad=>.bad
@[simp]theorem Res.aq(a:α)(S:af)(f:α->af->Res β):(Res.ok a S).bind f=f a S:=id rfl
@[simp]theorem Res.cY(c:Str)(S:af)(f:α->af->Res β):(Res.exc c S:Res α).bind f=.exc c S:=id rfl
@[simp]theorem Res.bh(f:α->af->Res β):(Res.bad:Res α).bind f=.bad:=id rfl
theorem aA(m:M α)(f:α->M β)(S:af):(m>>=f) S=(m S).bind λa S'=>f a S':=by
 rw[cI]; cases m S<;>rfl
@[simp]theorem DV(a:α)(S:af):(pure a:M α) S=.ok a S:=id rfl
@[simp]theorem j5(b:Bool)(m:M α)(S:af):guard b m S=if b=true then m S else .bad:=by cases b<;>rfl
@[simp]theorem iZ(a:α)(S:af):opt (some a) S=.ok a S:=id rfl
@[simp]theorem tG(c:Cell)(S:af):alloc c S=.ok (.loc S.length) (S++[c]):=id rfl
theorem HF(m:M α)(S:af):quiet m S=match m S with|.ok a S'=>.ok a S'|_=>.bad:=rfl
theorem eY{m:M α}{S S':af}{a:α}(h:m S=.ok a S'):quiet m S=.ok a S':=by rw[HF,h]
section
variable(sub:Sub)(cf:Str->List D->M D)(σ:Sg)(S:af)
@[simp]theorem xD(i:Nat):ev sub cf (.v i) σ S=bF σ i S:=id rfl
@[simp]theorem JF(d:D):ev sub cf (.c d) σ S=.ok d S:=id rfl
@[simp]theorem F7(o:Op2)(a b:E):ev sub cf (.bin o a b) σ S=(ev sub cf a σ S).bind λx S1=>(ev sub cf b σ S1).bind λy S2=>opD o x y S2:=by
 show(ev sub cf a σ>>=λx=>ev sub cf b σ>>=λy=>opD o x y) S=_;simp only[aA]
@[simp]theorem vg(o:Cm)(a b:E):ev sub cf (.cmp o a b) σ S=(ev sub cf a σ S).bind λx S1=>(ev sub cf b σ S1).bind λy S2=>cmD o x y S2:=by
 show(ev sub cf a σ>>=λx=>ev sub cf b σ>>=λy=>cmD o x y) S=_;simp only[aA]
@[simp]theorem Br(o o':Cm)(a b c:E):ev sub cf (.chn o o' a b c) σ S=(ev sub cf a σ S).bind λx S1=>(ev sub cf b σ S1).bind λy S2=>(cmD o x y S2).bind λr S3=>match r with
  | .bl true=>(ev sub cf c σ S3).bind λz S4=>cmD o' y z S4
  | .bl false=>.ok (.bl false) S3
  | _=>.bad:=by
 show(ev sub cf a σ>>=λx=>ev sub cf b σ>>=λy=>cmD o x y>>=λr=>match r with|.bl true=>ev sub cf c σ>>=λz=>cmD o' y z|.bl false=>pure (D.bl false)|_=>bad) S=_;simp only[aA];congr 1; funext x S1; congr 1; funext y S2; congr 1; funext r S3;cases r<;>first|rfl|(rename_i b; cases b<;>simp[aA])
@[simp]theorem sM(a b:E):ev sub cf (.and a b) σ S=(ev sub cf a σ S).bind λr S1=>match r with|.bl true=>ev sub cf b σ S1|.bl false=>.ok (.bl false) S1|_=>.bad:=by
 show(ev sub cf a σ>>=λr=>match r with|.bl true=>ev sub cf b σ|.bl false=>pure (D.bl false)|_=>bad) S=_;rw[aA]; congr 1; funext r S1;cases r<;>first|rfl|(rename_i b; cases b<;>rfl)
@[simp]theorem AV(a:E):ev sub cf (.neg a) σ S=(ev sub cf a σ S).bind λr S1=>match r with|.int i=>.ok (.int (-i)) S1|_=>.bad:=by
 show(ev sub cf a σ>>=λr=>match r with|.int i=>pure (D.int (-i))|_=>bad) S=_;rw[aA]; congr 1; funext r S1; cases r<;>rfl
@[simp]theorem wO(c a b:E):ev sub cf (.ite c a b) σ S=(evT sub cf c σ S).bind λk S1=>if k=true then ev sub cf a σ S1 else ev sub cf b σ S1:=by
 show(evT sub cf c σ>>=λk=>if k=true then ev sub cf a σ else ev sub cf b σ) S=_;rw[aA]; congr 1; funext k S1; cases k<;>rfl
@[simp]theorem HU:evs sub cf .nl σ S=.ok [] S:=id rfl
@[simp]theorem kq(a r:E):evs sub cf (.cs a r) σ S=(ev sub cf a σ S).bind λx S1=>(evs sub cf r σ S1).bind λxs S2=>.ok (x::xs) S2:=by
 show(ev sub cf a σ>>=λx=>evs sub cf r σ>>=λxs=>pure (x::xs)) S=_;simp only[aA]; rfl
@[simp]theorem GR(es:E):ev sub cf (.tup es) σ S=(evs sub cf es σ S).bind λds S1=>if fits ds.length=true then .ok (.tup ds) S1 else .bad:=by
 show(evs sub cf es σ>>=λds=>guard (fits ds.length) (pure (D.tup ds))) S=_;rw[aA]; simp only[j5,DV]
@[simp]theorem F8(es:E):ev sub cf (.lst es) σ S=(evs sub cf es σ S).bind λds S1=>if fits ds.length=true then .ok (.loc S1.length) (S1++[.lst ds]) else .bad:=by
 show(evs sub cf es σ>>=λds=>guard (fits ds.length) (alloc (.lst ds))) S=_;rw[aA]; simp only[j5,tG]
@[simp]theorem pW(a i:E):ev sub cf (.ix a i) σ S=(ev sub cf a σ S).bind λx S1=>(ev sub cf i σ S1).bind λy S2=>ixD x y S2:=by
 show(ev sub cf a σ>>=λx=>ev sub cf i σ>>=λy=>ixD x y) S=_;simp only[aA]
noncomputable def i9(e:E)(S:af):Res (Option Int):=if e.bD=true then .ok none S else(ev sub cf e σ S).bind λd S1=>fO d S1
@[simp]theorem zu(a lo hi:E):ev sub cf (.sl a lo hi) σ S=(ev sub cf a σ S).bind λx S1=>(i9 sub cf σ lo S1).bind λl S2=>(i9 sub cf σ hi S2).bind λh S3=>slD x l h S3:=by
 show(ev sub cf a σ>>=λx=>(if lo.bD=true then pure none else ev sub cf lo σ>>=fO)>>=λl=>(if hi.bD=true then pure none else ev sub cf hi σ>>=fO)>>=λh=>slD x l h) S=_;simp only[aA];congr 1; funext x S1;unfold i9;cases lo.bD<;>cases hi.bD<;>simp[aA]
@[simp]theorem wA(f:Str)(es:E):ev sub cf (.call f es) σ S=(evs sub cf es σ S).bind λds S1=>cf f ds S1:=by
 show(evs sub cf es σ>>=λds=>cf f ds) S=_;rw[aA]
@[simp]theorem uT(b:Bi)(es:E):ev sub cf (.bi b es) σ S=(evs sub cf es σ S).bind λds S1=>biD sub b ds S1:=by
 show(evs sub cf es σ>>=λds=>biD sub b ds) S=_;rw[aA]
@[simp]theorem qF(m:Me)(o es:E):ev sub cf (.me m o es) σ S=(ev sub cf o σ S).bind λx S1=>if x.dF S1=true then(evs sub cf es σ S1).bind λds S2=>meD m x ds S2 else .bad:=by
 show(ev sub cf o σ>>=λx=>jb x (evs sub cf es σ>>=λds=>meD m x ds)) S=_;rw[aA]; congr 1; funext x S1;show guard (x.dF S1) (evs sub cf es σ>>=λds=>meD m x ds) S1=_;rw[j5,aA]
theorem fX(k:Nat)(el:E)(t:Tg)(it tt:E):ev sub cf (.comp k el t it tt) σ S=(evI sub cf it σ S).bind λs S1=>(quiet (bL s (λd=>aO t d (σ++List.replicate k none)>>=λσ'=>(if tt.bD=true then pure true else evT sub cf tt σ')>>=λb=>if b=true then ev sub cf el σ'>>=λy=>pure (some y) else pure none) s.its) S1).bind λys S2=>if fits ys.length=true then .ok (.loc S2.length) (S2++[.lst ys]) else .bad:=by
 show(evI sub cf it σ>>=λs=>quiet (bL s (λd=>aO t d (σ++List.replicate k none)>>=λσ'=>(if tt.bD=true then pure true else evT sub cf tt σ')>>=λb=>if b=true then ev sub cf el σ'>>=λy=>pure (some y) else pure none) s.its)>>=λys=>guard (fits ys.length) (alloc (.lst ys))) S=_;simp only[aA,j5,tG]
@[simp]theorem qh(a b:E):evT sub cf (.and a b) σ S=(evT sub cf a σ S).bind λk S1=>if k=true then evT sub cf b σ S1 else .ok false S1:=by
 show(evT sub cf a σ>>=λk=>if k=true then evT sub cf b σ else pure false) S=_;rw[aA]; congr 1; funext k S1; cases k<;>rfl
@[simp]theorem pL(a b:E):evT sub cf (.or a b) σ S=(evT sub cf a σ S).bind λk S1=>if k=true then .ok true S1 else evT sub cf b σ S1:=by
 show(evT sub cf a σ>>=λk=>if k=true then pure true else evT sub cf b σ) S=_;rw[aA]; congr 1; funext k S1; cases k<;>rfl
@[simp]theorem B9(a:E):evT sub cf (.not a) σ S=(evT sub cf a σ S).bind λk S1=>.ok (!k) S1:=by
 show(evT sub cf a σ>>=λk=>pure (!k)) S=_;rw[aA]; rfl
@[simp]theorem CZ(o:Cm)(a b:E):evT sub cf (.cmp o a b) σ S=(ev sub cf a σ S).bind λx S1=>(ev sub cf b σ S1).bind λy S2=>(cmD o x y S2).bind λr S3=>truth r S3:=by
 show(ev sub cf a σ>>=λx=>ev sub cf b σ>>=λy=>cmD o x y>>=λr=>truth r) S=_;simp only[aA]
@[simp]theorem qx(a:E):evT sub cf (.notN a) σ S=(ev sub cf a σ S).bind λr S1=>.ok (!decide (r=.non)) S1:=by
 show(ev sub cf a σ>>=λr=>pure (!decide (r=.non))) S=_;rw[aA]; rfl
@[simp]theorem Dt(f:Str)(es:E):evT sub cf (.call f es) σ S=(ev sub cf (.call f es) σ S).bind λd S1=>truth d S1:=by
 show(ev sub cf (.call f es) σ>>=truth) S=_;rw[aA]
@[simp]theorem Cp(b:Bi)(es:E):evT sub cf (.bi b es) σ S=(ev sub cf (.bi b es) σ S).bind λd S1=>truth d S1:=by
 show(ev sub cf (.bi b es) σ>>=truth) S=_;rw[aA]
@[simp]theorem wD(a:E):evI sub cf (.iSeq a) σ S=(ev sub cf a σ S).bind λd S1=>srcOf d S1:=by
 show(ev sub cf a σ>>=srcOf) S=_;rw[aA]
@[simp]theorem Fw(a:E):evI sub cf (.iZip a) σ S=(evs sub cf a σ S).bind λds S1=>gC ds S1:=by
 show(evs sub cf a σ>>=λds=>gC ds) S=_;rw[cI];cases evs sub cf a σ S<;>rfl
@[simp]theorem AH(a:E):evI sub cf (.iEnum a) σ S=(ev sub cf a σ S).bind λd S1=>(srcOf d S1).bind λs S2=>.ok { s with its:=num 0 s.its } S2:=by
 show(ev sub cf a σ>>=λd=>srcOf d>>=λs=>pure { s with its:=num 0 s.its }) S=_;simp only[aA]; rfl
@[simp]theorem Gk(es:E):evI sub cf (.iRng es) σ S=(evs sub cf es σ S).bind λds S1=>(opt (cV ds) S1).bind λis S2=>.ok ⟨is.map .int,none,[]⟩ S2:=by
 show(evs sub cf es σ>>=λds=>opt (cV ds)>>=λis=>pure (⟨is.map .int,none,[]⟩:Src)) S=_;simp only[aA]; rfl
@[simp]theorem vh(e:E):exec sub cf (.ret e) σ S=(ev sub cf e σ S).bind λd S1=>.ok (.rt d) S1:=by
 show(ev sub cf e σ>>=λd=>pure (Fl.rt d)) S=_;rw[aA]; rfl
@[simp]theorem kX(t:Tg)(e:E):exec sub cf (.set t e) σ S=(ev sub cf e σ S).bind λd S1=>(aO t d σ S1).bind λσ' S2=>.ok (.nx σ') S2:=by
 show(ev sub cf e σ>>=λd=>aO t d σ>>=λσ'=>pure (Fl.nx σ')) S=_;simp only[aA]; rfl
@[simp]theorem kQ(e:E):exec sub cf (.ex e) σ S=(ev sub cf e σ S).bind λ_ S1=>.ok (.nx σ) S1:=by
 show(ev sub cf e σ>>=λ_=>pure (Fl.nx σ)) S=_;rw[aA]; rfl
@[simp]theorem nU(c:E)(a b:EV.S):exec sub cf (.ite c a b) σ S=(evT sub cf c σ S).bind λk S1=>if k=true then exec sub cf a σ S1 else exec sub cf b σ S1:=by
 show(evT sub cf c σ>>=λk=>if k=true then exec sub cf a σ else exec sub cf b σ) S=_;rw[aA]; congr 1; funext k S1; cases k<;>rfl
theorem uW(t:Tg)(it:E)(b:EV.S):exec sub cf (.forS t it b) σ S=(evI sub cf it σ>>=λs=>quiet (forL s (λd σ=>aO t d σ>>=λσ'=>exec sub cf b σ') s.its σ)) S:=rfl
@[simp]theorem JU:exec sub cf .skip σ S=.ok (.nx σ) S:=id rfl
noncomputable def jC(b:EV.S)(r:Res Fl):Res Fl:=r.bind λf S1=>match f with|.nx σ'=>exec sub cf b σ' S1|f=>.ok f S1
@[simp]theorem AJ(b:EV.S)(σ':Sg)(S1:af):jC sub cf b (.ok (.nx σ') S1)=exec sub cf b σ' S1:=id rfl
@[simp]theorem yV(b:EV.S)(d:D)(S1:af):jC sub cf b (.ok (.rt d) S1)=.ok (.rt d) S1:=id rfl
@[simp]theorem nj(a b:EV.S):exec sub cf (.seq a b) σ S=jC sub cf b (exec sub cf a σ S):=by
 show(exec sub cf a σ>>=λf=>match f with|.nx σ'=>exec sub cf b σ'|f=>pure f) S=_;rw[aA]; unfold jC; congr 1; funext f S1; cases f<;>rfl
end
theorem FA{sub:Sub}{cf:Str->List D->M D}{σ σ':Sg}{S S':af}{a r:EV.S}(h:exec sub cf a σ S=.ok (.nx σ') S'):exec sub cf (.seq a r) σ S=exec sub cf r σ' S':=by
 rw[nj,h,AJ]
theorem CU(σ:Sg)(i:Nat)(S:af):bF σ i S=match σ[i]? with|some (some d)=>.ok d S|_=>.bad:=by
 unfold bF
 cases σ[i]? with
 | none=>rfl
 | some x=>cases x<;>rfl
@[simp]theorem JK(d:D)(σ:Sg)(S:af):bF (some d::σ) 0 S=.ok d S:=id rfl
@[simp]theorem JB(x:Option D)(σ:Sg)(i:Nat)(S:af):bF (x::σ) (i+1) S=bF σ i S:=id rfl
@[simp]theorem gz(i:Nat)(d:D)(σ:Sg)(S:af):aO (.one i) d σ S=.ok (σ.set i (some d)) S:=id rfl
@[simp]theorem oB(is:List Nat)(ds:WV)(σ:Sg)(S:af):aO (.many is) (.tup ds) σ S=if ds.length=is.length then .ok (b_ is ds σ) S else .bad:=by
 show guard (decide (ds.length=is.length)) (pure (b_ is ds σ)) S=_;simp
@[simp]theorem eu(i j:Int)(S:af):opD .add (.int i) (.int j) S=.ok (.int (i+j)) S:=id rfl
@[simp]theorem HM(xs ys:WV)(S:af):opD .add (.tup xs) (.tup ys) S=if fits (xs.length+ys.length)=true then .ok (.tup (xs++ys)) S else .bad:=by
 show guard _ _ S=_;simp
@[simp]theorem c9(i j:Int)(S:af):opD .sub (.int i) (.int j) S=.ok (.int (i-j)) S:=id rfl
@[simp]theorem AF(i j:Int)(S:af):opD .mul (.int i) (.int j) S=if(small i||small j)=true then .ok (.int (i*j)) S else .bad:=by
 show guard _ _ S=_;simp
@[simp]theorem xJ(i j:Int)(S:af):opD .fdiv (.int i) (.int j) S=if(decide (0<j)&&decide (j<1073741824))=true then .ok (.int (i/j)) S else .bad:=by
 show guard _ _ S=_;simp
theorem JV(i j:Int)(S:af):opD .pow (.int i) (.int j) S=if(decide (0<=j)&&decide (j<=1000)&&decide (i.natAbs<2^64))=true then .ok (.int (i^j.toNat)) S else .bad:=by
 show guard _ _ S=_;simp
@[simp]theorem Jy(i j:Int)(S:af):opD .mod (.int i) (.int j) S=if 0<j then .ok (.int (i%j)) S else .bad:=by
 show guard _ _ S=_;simp
@[simp]theorem gE{n:Nat}(h:n<=1000):fits n=true:=Zj (by unfold aT; omega)
@[simp]theorem ku(i j:Int)(S:af):cmD .lt (.int i) (.int j) S=.ok (.bl (decide (i<j))) S:=id rfl
@[simp]theorem l0(i j:Int)(S:af):cmD .le (.int i) (.int j) S=.ok (.bl (decide (i<=j))) S:=id rfl
@[simp]theorem lK(i j:Int)(S:af):cmD .gt (.int i) (.int j) S=.ok (.bl (decide (j<i))) S:=id rfl
@[simp]theorem A1(i j:Int)(S:af):cmD .ge (.int i) (.int j) S=.ok (.bl (decide (j<=i))) S:=id rfl
theorem sL(x y:D)(S:af):cmD .eq x y S=match eqD deep S x y with|some k=>.ok (.bl k) S|none=>.bad:=by
 show(eqM x y>>=λb=>pure (D.bl b)) S=_;rw[aA];unfold eqM;cases eqD deep S x y<;>rfl
@[simp]theorem eK(i j:Int)(S:af):cmD .eq (.int i) (.int j) S=.ok (.bl (i==j)) S:=id rfl
@[simp]theorem oW(i j:Str)(S:af):cmD .eq (.str i) (.str j) S=.ok (.bl (i==j)) S:=id rfl
@[simp]theorem sP(i j:Int)(S:af):cmD .ne (.int i) (.int j) S=.ok (.bl (!(i==j))) S:=id rfl
@[simp]theorem JY(b:Bool)(S:af):truth (.bl b) S=.ok b S:=id rfl
@[simp]theorem JS(ds:WV)(S:af):items (.tup ds) S=.ok ds S:=id rfl
@[simp]theorem JZ(ds:WV)(S:af):items (.fro ds) S=.ok ds S:=id rfl
theorem gA{l:Nat}{ds:WV}{S:af}(h:S[l]?=some (.lst ds)):items (.loc l) S=.ok ds S:=by
 show(match listAt S l with|some ds=>Res.ok ds S|none=>.bad)=_;unfold listAt; rw[h]
theorem lW(a:D)(j:Int)(S:af):ixD a (.int j) S=(items a S).bind λxs S1=>opt (atI xs j) S1:=by
 show(items a>>=λxs=>opt (atI xs j)) S=_;rw[aA]
@[simp]theorem zT(xs:WV)(j:Int)(S:af):ixD (.tup xs) (.int j) S=opt (atI xs j) S:=by rw[lW]; rfl
@[simp]theorem II(xs:WV)(j:Int)(S:af):ixD (.fro xs) (.int j) S=opt (atI xs j) S:=by rw[lW]; rfl
theorem A7{l:Nat}{xs:WV}{j:Int}{S:af}(h:S[l]?=some (.lst xs)):ixD (.loc l) (.int j) S=opt (atI xs j) S:=by rw[lW,gA h]; rfl
theorem iP{xs:WV}{j:Nat}:atI xs (j:Int)=xs[j]?:=by
 unfold atI ixN;rw[Ze (by omega)]
 by_cases h:j<xs.length
 ·rw[Ze (by omega)]; simp
 ·rw[Zg (by omega)]; rw[XO (by omega)]; rfl
@[simp]theorem sy(xs:WV):atI xs 0=xs[0]?:=iP (j:=0)
@[simp]theorem kK(sub:Sub)(d:D)(S:af):biD sub .len [d] S=(items d S).bind λds S1=>.ok (.int ds.length) S1:=by
 show(items d>>=λds=>pure (D.int ds.length)) S=_;rw[aA]; rfl
@[simp]theorem xH(sub:Sub)(t:Ty)(d:D)(S:af):biD sub (.inst t) [d] S=match bH sub S d t with|some k=>.ok (.bl k) S|none=>.bad:=id rfl
@[simp]theorem Gv(sub:Sub)(d:D)(S:af):biD sub .tuple [d] S=(items d S).bind λds S1=>.ok (.tup ds) S1:=by
 show(items d>>=λds=>pure (D.tup ds)) S=_;rw[aA]; rfl
theorem Dv(sub:Sub)(d:D)(S:af):biD sub .all [d] S=(items d S).bind λds S1=>(opt (dh ds) S1).bind λbs S2=>.ok (.bl (bs.all id)) S2:=by
 show(items d>>=λds=>opt (dh ds)>>=λbs=>pure (D.bl (bs.all id))) S=_;simp only[aA]; rfl
theorem wg{l:Nat}{ds:WV}{d:D}{S:af}(h:S[l]?=some (.lst ds))(hz:ds.length<aT):meD .append (.loc l) [d] S=.ok .non (S.set l (.lst (ds++[d]))):=by
 show aZ l (λds=>guard (iF ds.length) (put l (.lst (ds++[d])))) S=_;unfold aZ;rw[h];simp[iF,hz,put]
theorem yh{l k:Nat}{ds es:WV}{S:af}(h:S[l]?=some (.lst ds))(h2:S[k]?=some (.lst es))(hz:ds.length+es.length<=aT):meD .extend (.loc l) [.loc k] S=.ok .non (S.set l (.lst (ds++es))):=by
 show aZ l (λds=>aZ k λes=>guard (fits (ds.length+es.length)) (put l (.lst (ds++es)))) S=_;unfold aZ;rw[h];simp only;rw[h2];simp[fits,hz,put]
@[simp]theorem dM(S T:af)(c:Cell):(S++c::T)[S.length]?=some c:=by simp
@[simp]theorem BC(S T:af)(k:Nat):(S++T)[S.length+k]?=T[k]?:=by
 rw[ZI (by omega)]; congr 1; omega
@[simp]theorem ir(S T:af)(c d:Cell):(S++c::T).set S.length d=S++d::T:=by simp
@[simp]theorem bU(S T:af):(S++T).take S.length=S:=by simp
theorem wK{S T:af}{xs:WV}{d:D}(h:xs.length<=1000000):meD .append (.loc S.length) [d] (S++.lst xs::T)=.ok .non (S++.lst (xs++[d])::T):=by
 rw[wg (ds:=xs) (dM S T _) (by unfold aT; omega),ir]
theorem yx{s:Src}{S:af}(h:s.l=none\/∃l,s.l=some l/\S[l]?=some (.lst s.raw)):aG s S=.ok () S:=by
 unfold aG;rcases h with h|⟨l,h,h2⟩
 ·rw[h]; rfl
 ·rw[h]; unfold listAt; simp[h2]
theorem iE(s:Src)(f:D->Sg->M Fl)(σ:Sg)(S:af):forL s f [] σ S=(aG s S).bind λ_ S1=>.ok (.nx σ) S1:=by
 show(aG s>>=λ_=>pure (Fl.nx σ)) S=_;rw[aA]; rfl
theorem g9(s:Src)(f:D->Sg->M Fl)(d:D)(ds:WV)(σ:Sg)(S:af):forL s f (d::ds) σ S=(aG s S).bind λ_ S1=>(f d σ S1).bind λfl S2=>match fl with
  | .nx σ'=>forL s f ds σ' S2|.ct σ'=>forL s f ds σ' S2|.bk σ'=>.ok (.nx σ') S2|.rt d=>.ok (.rt d) S2:=by
 show(aG s>>=λ_=>f d σ>>=λfl=>match fl with|.nx σ'=>forL s f ds σ'|.ct σ'=>forL s f ds σ'|.bk σ'=>pure (Fl.nx σ')|.rt d=>pure (Fl.rt d)) S=_;simp only[aA];congr 1; funext _ S1; congr 1; funext fl S2; cases fl<;>rfl
theorem oZ(s:Src)(f:D->M (Option D))(S:af):bL s f [] S=(aG s S).bind λ_ S1=>.ok [] S1:=by
 show(aG s>>=λ_=>pure []) S=_;rw[aA]; rfl
theorem ly(s:Src)(f:D->M (Option D))(d:D)(ds:WV)(S:af):bL s f (d::ds) S=(aG s S).bind λ_ S1=>(f d S1).bind λy S2=>(bL s f ds S2).bind λys S3=>.ok (match y with|some y=>y::ys|none=>ys) S3:=by
 show(aG s>>=λ_=>f d>>=λy=>bL s f ds>>=λys=>pure (match y with|some y=>y::ys|none=>ys)) S=_;simp only[aA]; rfl
theorem jD{s:Src}{f:D->M (Option D)}{g:D->Option D}{S:af}(hs:aG s S=.ok () S):∀{its:WV},(∀d∈its,f d S=.ok (g d) S)->bL s f its S=.ok (its.filterMap g) S
 | [],_=>by rw[oZ,hs]; rfl
 | d::ds,h=>by
  rw[ly,hs];simp only[Res.aq];rw[h d Zp];simp only[Res.aq];rw[jD hs λe he=>h e (Zr _ he)];simp only[Res.aq,Z8];cases g d<;>rfl
theorem GK(S S':af)(d:D):gH S (.ok (.rt d) S')=leave S d S':=rfl
mutual
theorem qQ:∀{d:D} {n m:Nat},n<=m->d.low n=true->d.low m=true
 | .tup ds,n,m,h,q=>i7 h q
 | .fro ds,n,m,h,q=>i7 h q
 | .loc l,n,m,h,q=>Zj (ZE (Zk q) h)
 | .non,_,_,_,_=>rfl
 | .bl _,_,_,_,_=>rfl
 | .int _,_,_,_,_=>rfl
 | .str _,_,_,_,_=>rfl
 | .exn _,_,_,_,_=>rfl
theorem i7:∀{ds:WV} {n m:Nat},n<=m->D.lows n ds=true->D.lows m ds=true
 | [],_,_,_,_=>rfl
 | d::r,n,m,h,q=>by
  rw[D.lows,Zl] at q ⊢;exact⟨qQ h q.1,i7 h q.2⟩
end
abbrev D.cl(d:D):Prop:=d.low 0=true
theorem bf{S S':af}{d:D}(h:d.cl)(ht:S'.take S.length=S):leave S d S'=.ok d S:=by
 unfold leave;rw[Ze ht,Ze (qQ (Xj _) h)]
theorem leave_new{S T:af}{ds:WV}{k:Nat}(h:T[k]?=some (.lst ds))(hc:D.lows 0 ds=true):leave S (.loc (S.length+k)) (S++T)=.ok (.loc S.length) (S++[.lst ds]):=by
 unfold leave;rw[Ze (by simp)];rw[Zg (by show ¬decide (S.length+k<S.length)=true; simp)];simp only;rw[BC,h];simp only;rw[Ze (show Cell.low S.length (.lst ds)=true from i7 (Xj _) hc)]
theorem oM{n:Nat}:∀{ds:WV},D.lows n ds=true ↔ ∀d∈ds,d.low n=true
 | []=>by simp[D.lows]
 | d::r=>by rw[D.lows,Zl,oM]; simp
theorem DT{n:Nat}(is:WE):D.lows n (is.map .int)=true:=oM.mpr λd h=>by
 obtain⟨i,_,rfl⟩:=ZP.mp h; rfl
theorem jT{α:Type}{n:Nat}{f:α->D}(hf:∀a,(f a).low n=true)(l:List α):D.lows n (l.map f)=true:=oM.mpr λd h=>by
 obtain⟨i,_,rfl⟩:=ZP.mp h; exact hf i
theorem Jf(is:List Bool):dh (is.map .bl)=some is:=by
 induction is with
 | nil=>rfl
 | cons i r ih=>simp[dh,ih]
section
variable{sub:Sub}{cf:Str->List D->M D}{σ:Sg}{S S1:af}{k i:Nat}{el it tt:E}{s:Src}
theorem comp_map{g:D->D}(hi:evI sub cf it σ S=.ok s S1)(hs:aG s S1=.ok () S1)(hg:∀d∈s.its,ev sub cf el ((σ++List.replicate k none).set i (some d)) S1=.ok (g d) S1)(hz:s.its.length<=aT) :
  ev sub cf (.comp k el (.one i) it .nl) σ S=.ok (.loc S1.length) (S1++[.lst (s.its.map g)]):=by
 rw[fX,hi];simp only[Res.aq]
 have:=jD (s:=s) (f:=λd=>aO (.one i) d (σ++List.replicate k none)>>=λσ'=>(if E.bD .nl=true then pure true else evT sub cf .nl σ')>>=λb=>if b=true then ev sub cf el σ'>>=λy=>pure (some y) else pure none) (g:=λd=>some (g d)) (S:=S1) hs (its:=s.its) (λd hd=>by
  simp only[aA,gz,Res.aq];show(ev sub cf el ((σ++List.replicate k none).set i (some d))>>=λy=>pure (some y)) S1=_;rw[aA,hg d hd]; rfl)
 rw[eY this];have e:s.its.filterMap (λd=>some (g d))=s.its.map g:=by rw[<- Q3]; rfl
 rw[e];simp[fits,hz]
theorem Al{g:D->D}{p:D->Bool}(hn:tt.bD=false)(hi:evI sub cf it σ S=.ok s S1)(hs:aG s S1=.ok () S1)(hp:∀d∈s.its,evT sub cf tt ((σ++List.replicate k none).set i (some d)) S1=.ok (p d) S1)
  (hg:∀d∈s.its,p d=true->ev sub cf el ((σ++List.replicate k none).set i (some d)) S1=.ok (g d) S1) (hz:s.its.length<=aT) :
  ev sub cf (.comp k el (.one i) it tt) σ S=.ok (.loc S1.length) (S1++[.lst ((s.its.filter p).map g)]):=by
 rw[fX,hi];simp only[Res.aq]
 have:=jD (s:=s) (f:=λd=>aO (.one i) d (σ++List.replicate k none)>>=λσ'=>(if tt.bD=true then pure true else evT sub cf tt σ')>>=λb=>if b=true then ev sub cf el σ'>>=λy=>pure (some y) else pure none) (g:=λd=>if p d=true then some (g d) else none) (S:=S1) hs (its:=s.its) (λd hd=>by
  simp only[aA,gz,Res.aq,hn,Zw,ZK];rw[hp d hd]
  cases q:p d with
  | false=>simp
  | true=>simp[aA,hg d hd q])
 rw[eY this]
 have e:s.its.filterMap (λd=>if p d=true then some (g d) else none)=(s.its.filter p).map g:=by
  induction s.its with
  | nil=>rfl
  | cons a r ih=>cases q:p a<;>simp[q,ih]
 rw[e]
 have hz':((s.its.filter p).map g).length<=aT:=by
  rw[Zi]; exact Xm (List.length_filter_le _ _) hz
 simp only[Res.aq];rw[Ze (show fits ((s.its.filter p).map g).length=true from Zj hz')]
theorem Jj{is:List Nat}{g:D->D}(hi:evI sub cf it σ S=.ok s S1)(hs:aG s S1=.ok () S1)(hg:∀d∈s.its,∃ds,d=.tup ds/\ds.length=is.length/\ev sub cf el (b_ is ds (σ++List.replicate k none)) S1=.ok (g d) S1)(hz:s.its.length<=aT) :
  ev sub cf (.comp k el (.many is) it .nl) σ S=.ok (.loc S1.length) (S1++[.lst (s.its.map g)]):=by
 rw[fX,hi];simp only[Res.aq]
 have:=jD (s:=s) (f:=λd=>aO (.many is) d (σ++List.replicate k none)>>=λσ'=>(if E.bD .nl=true then pure true else evT sub cf .nl σ')>>=λb=>if b=true then ev sub cf el σ'>>=λy=>pure (some y) else pure none) (g:=λd=>some (g d)) (S:=S1) hs (its:=s.its) (λd hd=>by
  obtain⟨ds,rfl,hl,hd⟩:=hg d hd;simp only[aA,oB,hl,Xa,Res.aq];show(ev sub cf el (b_ is ds (σ++List.replicate k none))>>=λy=>pure (some y)) S1=_;rw[aA,hd]; rfl)
 rw[eY this];have e:s.its.filterMap (λd=>some (g d))=s.its.map g:=by rw[<- Q3]; rfl
 rw[e];simp[fits,hz]
end
@[simp]theorem JW(ds:WV)(S:af):srcOf (.tup ds) S=.ok ⟨ds,none,ds⟩ S:=id rfl
theorem oS{l:Nat}{ds:WV}{S:af}(h:S[l]?=some (.lst ds)):srcOf (.loc l) S=.ok ⟨ds,some l,ds⟩ S:=by
 show(items (.loc l)>>=λds=>pure (⟨ds,some l,ds⟩:Src)) S=_;rw[aA,gA h]; rfl
theorem jV{sub:Sub}{S:af}{α:Type}(l:List α)(g:α->Bool):biD sub .all [.loc S.length] (S++[.lst (l.map λa=>.bl (g a))])=.ok (.bl (l.all g)) (S++[.lst (l.map λa=>.bl (g a))]):=by
 rw[Dv,gA (ds:=l.map λa=>D.bl (g a)) (dM S [] _)];simp only[Res.aq];rw[show dh (l.map λa=>D.bl (g a))=some (l.map g) from by rw[<- Jf,X3]; rfl];simp[List.all_map]
section
variable{sub:Sub}{cf:Str->List D->M D}{σ:Sg}{S S1 S2:af}{t:Tg}{it:E}{b:EV.S}{s:Src}{fl:Fl}
noncomputable def bC(sub:Sub)(cf:Str->List D->M D)(t:Tg)(b:EV.S):D->Sg->M Fl:=λd σ=>aO t d σ>>=λσ'=>exec sub cf b σ'
theorem lZ(i:Nat)(b:EV.S)(d:D)(σ:Sg)(S:af):bC sub cf (.one i) b d σ S=exec sub cf b (σ.set i (some d)) S:=by
 unfold bC; rw[aA]; rfl
theorem Jb(is:List Nat)(b:EV.S)(ds:WV)(σ:Sg)(S:af)(h:ds.length=is.length):bC sub cf (.many is) b (.tup ds) σ S=exec sub cf b (b_ is ds σ) S:=by
 unfold bC; rw[aA,oB,Ze h]; rfl
theorem c_(hi:evI sub cf it σ S=.ok s S1)(hf:forL s (bC sub cf t b) s.its σ S1=.ok fl S2):exec sub cf (.forS t it b) σ S=.ok fl S2:=by
 rw[uW,aA,hi];exact eY hf
end
section
variable{sub:Sub}{cf:Str->List D->M D}{s:Src}{i j l:Nat}{e:E}{g:D->D}
noncomputable def fP(i:Nat)(its:WV)(σ:Sg):Sg:=match its.getLast? with
 | some d=>σ.set i (some d)
 | none=>σ
@[simp]theorem JQ(i:Nat)(σ:Sg):fP i [] σ=σ:=id rfl
theorem yc(i:Nat)(d:D)(its:WV)(σ:Sg):fP i (d::its) σ=fP i its (σ.set i (some d)):=by
 unfold fP;rw[List.getLast?_cons]
 cases q:its.getLast? with
 | none=>rfl
 | some e=>simp[Wc]
theorem iI{α:Type}{S:List α}{l:Nat}{c:α}(h:S[l]?=some c):S.set l c=S:=by
 apply QU;intro k;rw[Wu];split
 ·rename_i e; subst e;split
  ·exact h.symm
  ·rename_i h2; exact absurd (Zf.mp h).1 h2
 ·rfl
theorem get_set{α:Type}{S:List α}{l:Nat}{c d:α}(h:S[l]?=some c):(S.set l d)[l]?=some d:=by
 rw[Xi (Zf.mp h).1]
theorem Jx{σ:Sg}{S:af}{xs:WV}{d:D}(hj:σ[j]?=some (some (.loc l)))(hS:S[l]?=some (.lst xs))(he:ev sub cf e σ S=.ok d S)(hz:xs.length<aT) :
  exec sub cf (.ex (.me .append (.v j) (.cs e .nl))) σ S=.ok (.nx σ) (S.set l (.lst (xs++[d]))):=by
 have hv:bF σ j S=.ok (.loc l) S:=by rw[CU,hj]
 have hL:(D.loc l).dF S=true:=by show(match S[l]? with|some (.lst _)=>true|_=>false)=true; rw[hS]
 simp only[kQ,qF,xD,hv,Res.aq,hL,Xa,kq,he,HU,wg hS hz]
theorem rG{α:Type}{f g:α->D}(hij:i≠j):∀{ks:List α} {σ:Sg} {S:af} {xs:WV},σ[j]?=some (some (.loc l))->S[l]?=some (.lst xs)->(∀ys,aG s (S.set l (.lst ys))=.ok () (S.set l (.lst ys))) ->
  (∀a∈ks,∀ys,ev sub cf e (σ.set i (some (f a))) (S.set l (.lst ys))=.ok (g a) (S.set l (.lst ys)))->xs.length+ks.length<=aT ->
  forL s (bC sub cf (.one i) (.ex (.me .append (.v j) (.cs e .nl)))) (ks.map f) σ S=.ok (.nx (fP i (ks.map f) σ)) (S.set l (.lst (xs++ks.map g)))
 | [],σ,S,xs,h1,h2,h3,h4,h5=>by
  have:=h3 xs;rw[iI h2] at this;rw[Wb,iE,this];simp[iI h2]
 | d::ks,σ,S,xs,h1,h2,h3,h4,h5=>by
  have hst:=h3 xs;rw[iI h2] at hst;rw[ZT,g9,hst];simp only[Res.aq,lZ];have h1':(σ.set i (some (f d)))[j]?=some (some (.loc l)):=by rw[ZR hij]; exact h1
  have hd:=h4 d Zp xs;rw[iI h2] at hd;rw[Jx h1' h2 hd (by simp at h5; omega)];simp only[Res.aq]
  rw[rG hij (xs:=xs++[g d]) h1' (get_set h2) (λys=>by rw[Wc]; exact h3 ys)
   (λa ha ys=>by rw[Wc,Wc]; exact h4 a (Zr _ ha) ys) (by simp at h5 ⊢; omega)]
  rw[yc,Wc,ZT,Zt];rfl
end
theorem D5{i:Nat}{its:WV}{σ:Sg}(h:i<σ.length):∃x,fP i its σ=σ.set i x:=by
 unfold fP
 cases its.getLast? with
 | some d=>exact⟨_,rfl⟩
 | none=>exact⟨σ[i],(iI (Zb h)).symm⟩
theorem xW{i:Int}(h1:-1000000000<=i)(h2:i<=1000000000):near i=true:=Zj ⟨by omega,by omega⟩
theorem yD(j:Int):rng 0 j 1=(List.range j.toNat).map λ(k:Nat)=>(k:Int):=by
 unfold rng;rw[Ze (by decide)];have:(j-0+1-1)/1=j:=by rw[Q7]; omega
 rw[this];simp
theorem xx{j:Int}(h1:-1000000000<=j)(h2:j<=1000000000):cV [.int j]=some ((List.range j.toNat).map λ(k:Nat)=>(k:Int)):=by
 show(if near j=true then some (rng 0 j 1) else none)=_;rw[Ze (xW h1 h2),yD]
theorem mD{sub:Sub}{cf:Str->List D->M D}{i j l:Nat}{it e:E}{σ:Sg}{S S1:af}{xs:WV}{α:Type}{ks:List α}{f g:α->D}{o:Option Nat}{raw:WV}
  (hit:evI sub cf it σ S=.ok ⟨ks.map f,o,raw⟩ S1) (hj:σ[j]?=some (some (.loc l))) (hS:S1[l]?=some (.lst xs)) (hij:i≠j) (hi:i<σ.length) (hst:∀ys,aG ⟨ks.map f,o,raw⟩ (S1.set l (.lst ys))=.ok () (S1.set l (.lst ys)))
  (he:∀a∈ks,∀ys,ev sub cf e (σ.set i (some (f a))) (S1.set l (.lst ys))=.ok (g a) (S1.set l (.lst ys))) (hz:xs.length+ks.length<=aT) :
  ∃x,exec sub cf (.forS (.one i) it (.ex (.me .append (.v j) (.cs e .nl)))) σ S=.ok (.nx (σ.set i x)) (S1.set l (.lst (xs++ks.map g))):=by
 obtain⟨x,hx⟩:=D5 (i:=i) (its:=ks.map f) (σ:=σ) hi;refine⟨x,?_⟩;rw[<- hx];exact c_ hit (rG hij hj hS hst he hz)
theorem Jq{S:af}{a b:Nat}{xs ys:WV}(ha:S[a]?=some (.lst xs))(hb:S[b]?=some (.lst ys)):eqD deep S (.loc a) (.loc b)=if xs.length=ys.length then b7 (eqD 11 S) xs ys else some false:=by
 have e1:listAt S a=some xs:=by unfold listAt; rw[ha]
 have e2:listAt S b=some ys:=by unfold listAt; rw[hb]
 show(match listAt S a,listAt S b with|some xs,some ys=>if xs.length=ys.length then b7 (eqD 11 S) xs ys else some false|_,_=>none)=_;rw[e1,e2]
theorem tZ{S:af}{a b:Nat}{xs:WV}(ha:S[a]?=some (.lst xs))(hb:S[b]?=some (.lst [])):cmD .eq (.loc a) (.loc b) S=.ok (.bl xs.isEmpty) S:=by
 rw[sL,Jq ha hb];cases xs<;>simp[b7]
theorem r8{s:Src}{f:D->Sg->M Fl}:∀{its:WV} (I:Nat->Sg->af->Prop) {σ:Sg} {S:af},I 0 σ S->(∀i σ T,I i σ T->aG s T=.ok () T) ->
  (∀i (h:i<its.length) σ T,I i σ T->∃σ' T',f its[i] σ T=.ok (.nx σ') T'/\I (i+1) σ' T')->∃σ' T',forL s f its σ S=.ok (.nx σ') T'/\I its.length σ' T'
 | [],I,σ,S,h0,h1,_=>⟨σ,S,by rw[iE,h1 0 σ S h0]; rfl,h0⟩
 | d::ds,I,σ,S,h0,h1,h2=>by
  obtain⟨σ1,T1,e1,i1⟩:=h2 0 (by simp) σ S h0;obtain⟨σ2,T2,e2,i2⟩:=r8 (its:=ds) (λi=>I (i+1)) i1 (λi=>h1 (i+1)) λi hi=>h2 (i+1) (by simpa using hi)
  refine⟨σ2,T2,?_,i2⟩;rw[g9,h1 0 σ S h0];simp only[Res.aq];rw[show f d σ S=.ok (.nx σ1) T1 from e1];exact e2
theorem jX{sub:Sub}{cf:Str->List D->M D}{t:Tg}{it:E}{b:EV.S}{σ:Sg}{S S1:af}{s:Src}(I:Nat->Sg->af->Prop)(hi:evI sub cf it σ S=.ok s S1)(h0:I 0 σ S1)(h1:∀i σ T,I i σ T->aG s T=.ok () T)
  (h2:∀i (h:i<s.its.length) σ T,I i σ T->∃σ' T',bC sub cf t b s.its[i] σ T=.ok (.nx σ') T'/\I (i+1) σ' T'):∃σ' T',exec sub cf (.forS t it b) σ S=.ok (.nx σ') T'/\I s.its.length σ' T':=by
 obtain⟨σ',T',e,i⟩:=r8 I h0 h1 h2;exact⟨σ',T',c_ hi e,i⟩
theorem n_{α:Type}{s:Src}{fn:D->M (Option D)}{f:α->D}{g:α->Option D}{S:af}(hs:aG s S=.ok () S):∀{ks:List α},(∀a∈ks,fn (f a) S=.ok (g a) S)->bL s fn (ks.map f) S=.ok (ks.filterMap g) S
 | [],_=>by rw[Wb,oZ,hs]; rfl
 | d::ds,h=>by
  rw[ZT,ly,hs];simp only[Res.aq];rw[h d Zp];simp only[Res.aq];rw[n_ hs λe he=>h e (Zr _ he)];simp only[Res.aq,Z8];cases g d<;>rfl
theorem nu{sub:Sub}{cf:Str->List D->M D}{σ:Sg}{S S1:af}{k i:Nat}{el it:E}{α:Type}{ks:List α}{f g:α->D}{o:Option Nat}{raw:WV}(hi:evI sub cf it σ S=.ok ⟨ks.map f,o,raw⟩ S1)(hs:aG ⟨ks.map f,o,raw⟩ S1=.ok () S1)
  (hg:∀a∈ks,ev sub cf el ((σ++List.replicate k none).set i (some (f a))) S1=.ok (g a) S1) (hz:ks.length<=aT) :
  ev sub cf (.comp k el (.one i) it .nl) σ S=.ok (.loc S1.length) (S1++[.lst (ks.map g)]):=by
 rw[fX,hi];simp only[Res.aq]
 have:=n_ (s:=⟨ks.map f,o,raw⟩) (f:=f) (fn:=λd=>aO (.one i) d (σ++List.replicate k none)>>=λσ'=>(if E.bD .nl=true then pure true else evT sub cf .nl σ')>>=λb=>if b=true then ev sub cf el σ'>>=λy=>pure (some y) else pure none) (g:=λa=>some (g a)) (S:=S1) hs (ks:=ks) (λd hd=>by
  simp only[aA,gz,Res.aq];show(ev sub cf el ((σ++List.replicate k none).set i (some (f d)))>>=λy=>pure (some y)) S1=_;rw[aA,hg d hd]; rfl)
 rw[eY this];have e:ks.filterMap (λd=>some (g d))=ks.map g:=by rw[<- Q3]; rfl
 rw[e];simp only[Res.aq];rw[Ze (show fits (ks.map g).length=true from Zj (by rw[Zi]; exact hz))]
section
variable{sub:Sub}{cf:Str->List D->M D}{σ:Sg}{S:af}
end
theorem rg(ds:WV):∀(k i:Nat) (h:i<(num k ds).length),(num k ds)[i]=.tup [.int ((k+i:Nat):Int),ds[i]'(by have:(num k ds).length=ds.length:=(by clear h; induction ds generalizing k with|nil=>rfl|cons _ _ ih=>simp[num,ih]); omega)]:=by
 induction ds with
 | nil=>intro k i h; simp[num] at h
 | cons d r ih =>
  intro k i h
  cases i with
  | zero=>simp[num]
  | succ i =>
   simp only[num,List.getElem_cons_succ];rw[ih (k+1) i (by simpa [num] using h)];congr 3;omega
theorem jQ:∀(ds:WV) (k:Nat),(num k ds).length=ds.length
 | [],_=>rfl
 | _::r,k=>by simp[num,jQ r]
end EV

namespace GO
open PySem EV
theorem lJ{S:af}{l:Nat}{ds:WV}(h:S[l]?=some (.lst ds)):(D.loc l).dF S=true:=by show(match S[l]? with|some (.lst _)=>true|_=>false)=true; rw[h]
theorem E0(T:af)(ds:WV):(D.loc T.length).dF (T++[.lst ds])=true:=lJ (ds:=ds) (by simp)
theorem vD(T:af)(ds:WV)(G:af):(D.loc T.length).dF (T++.lst ds::G)=true:=lJ (ds:=ds) (by simp)
theorem JC(T:af)(ds:WV)(G U:af):(D.loc T.length).dF ((T++.lst ds::G)++U)=true:=by rw[Zt,Qg]; exact vD _ _ _
section
variable{sub:Sub}{cf:Str->List D->M D}{σ σ1:Sg}{S S1 S2 S3:af}{R:Res D}{RF:Res Fl}{x y z d:D}{ds:WV}{a b c r es:E}{u v w:EV.S}
theorem r_v{i:Nat}(h:bF σ i S=.ok d S):ev sub cf (.v i) σ S=.ok d S:=h
theorem r_c:ev sub cf (.c d) σ S=.ok d S:=id rfl
theorem aJ{o:Op2}(ha:ev sub cf a σ S=.ok x S1)(hb:ev sub cf b σ S1=.ok y S2)(h:opD o x y S2=R):ev sub cf (.bin o a b) σ S=R:=by rw[F7,ha,Res.aq,hb,Res.aq,h]
theorem bE{o:Cm}(ha:ev sub cf a σ S=.ok x S1)(hb:ev sub cf b σ S1=.ok y S2)(h:cmD o x y S2=R):ev sub cf (.cmp o a b) σ S=R:=by rw[vg,ha,Res.aq,hb,Res.aq,h]
theorem er(ha:ev sub cf a σ S=.ok (.bl true) S1)(hb:ev sub cf b σ S1=R):ev sub cf (.and a b) σ S=R:=by rw[sM,ha]; exact hb
theorem G3(ha:ev sub cf a σ S=.ok (.bl false) S1):ev sub cf (.and a b) σ S=.ok (.bl false) S1:=by rw[sM,ha]; rfl
theorem iQ{i:Int}(ha:ev sub cf a σ S=.ok (.int i) S1):ev sub cf (.neg a) σ S=.ok (.int (-i)) S1:=by rw[AV,ha]; rfl
theorem xQ(hc:evT sub cf c σ S=.ok true S1)(ha:ev sub cf a σ S1=R):ev sub cf (.ite c a b) σ S=R:=by rw[wO,hc,Res.aq,Ze rfl,ha]
theorem Hu(hc:evT sub cf c σ S=.ok false S1)(hb:ev sub cf b σ S1=R):ev sub cf (.ite c a b) σ S=R:=by rw[wO,hc,Res.aq,Zg (by decide),hb]
theorem ah:evs sub cf .nl σ S=.ok [] S:=id rfl
theorem aa(ha:ev sub cf a σ S=.ok x S1)(hr:evs sub cf r σ S1=.ok ds S2):evs sub cf (.cs a r) σ S=.ok (x::ds) S2:=by rw[kq,ha,Res.aq,hr,Res.aq]
theorem aR(hs:evs sub cf es σ S=.ok ds S1)(hz:fits ds.length=true):ev sub cf (.tup es) σ S=.ok (.tup ds) S1:=by rw[GR,hs,Res.aq,Ze hz]
theorem br(hs:evs sub cf es σ S=.ok ds S1)(hz:fits ds.length=true):ev sub cf (.lst es) σ S=.ok (.loc S1.length) (S1++[.lst ds]):=by rw[F8,hs,Res.aq,Ze hz]
theorem ay(ha:ev sub cf a σ S=.ok x S1)(hb:ev sub cf b σ S1=.ok y S2)(h:ixD x y S2=R):ev sub cf (.ix a b) σ S=R:=by rw[pW,ha,Res.aq,hb,Res.aq,h]
theorem mH{lo hi:E}{p q:Option Int}(ha:ev sub cf a σ S=.ok x S1)(hl:i9 sub cf σ lo S1=.ok p S2)(hh:i9 sub cf σ hi S2=.ok q S3)(h:slD x p q S3=R):ev sub cf (.sl a lo hi) σ S=R:=by
 rw[zu,ha,Res.aq,hl,Res.aq,hh,Res.aq,h]
theorem ao{f:Str}(hs:evs sub cf es σ S=.ok ds S1)(h:cf f ds S1=R):ev sub cf (.call f es) σ S=R:=by rw[wA,hs,Res.aq,h]
theorem aL{o:Bi}(hs:evs sub cf es σ S=.ok ds S1)(h:biD sub o ds S1=R):ev sub cf (.bi o es) σ S=R:=by rw[uT,hs,Res.aq,h]
theorem jL{m:Me}{l:Nat}(ha:ev sub cf a σ S=.ok (.loc l) S1)(hs:evs sub cf es σ S1=.ok ds S2)(h:meD m (.loc l) ds S2=R)(hL:(D.loc l).dF S1=true:=by first|assumption|exact E0 _ _|exact vD _ _ _|exact lJ (by assumption)):ev sub cf (.me m a es) σ S=R:=by
 rw[qF,ha,Res.aq,Ze hL,hs,Res.aq,h]
theorem kU{k:Bool}(h:ev sub cf a σ S=.ok (.bl k) S1)(ht:evT sub cf a σ S=(ev sub cf a σ S).bind λd S1=>truth d S1):evT sub cf a σ S=.ok k S1:=by rw[ht,h]; rfl
theorem bw{f:Str}{k:Bool}(h:ev sub cf (.call f es) σ S=.ok (.bl k) S1):evT sub cf (.call f es) σ S=.ok k S1:=kU h (Dt _ _ _ _ _ _)
theorem fZ{o:Bi}{k:Bool}(h:ev sub cf (.bi o es) σ S=.ok (.bl k) S1):evT sub cf (.bi o es) σ S=.ok k S1:=kU h (Cp _ _ _ _ _ _)
theorem aY{o:Cm}{k:Bool}(h:ev sub cf (.cmp o a b) σ S=.ok (.bl k) S1):evT sub cf (.cmp o a b) σ S=.ok k S1:=kU h (by
 rw[CZ,vg]; cases ev sub cf a σ S<;>simp[Res.bind]; rename_i q Q; cases ev sub cf b σ Q<;>simp[Res.bind])
theorem iy{k:Bool}(ha:evT sub cf a σ S=.ok true S1)(hb:evT sub cf b σ S1=.ok k S2):evT sub cf (.and a b) σ S=.ok k S2:=by rw[qh,ha,Res.aq,Ze rfl,hb]
theorem nW(ha:evT sub cf a σ S=.ok false S1):evT sub cf (.and a b) σ S=.ok false S1:=by rw[qh,ha,Res.aq,Zg (by decide)]
theorem qK(ha:evT sub cf a σ S=.ok true S1):evT sub cf (.or a b) σ S=.ok true S1:=by rw[pL,ha,Res.aq,Ze rfl]
theorem cZ{k:Bool}(ha:evT sub cf a σ S=.ok false S1)(hb:evT sub cf b σ S1=.ok k S2):evT sub cf (.or a b) σ S=.ok k S2:=by rw[pL,ha,Res.aq,Zg (by decide),hb]
theorem aX{k:Bool}(ha:evT sub cf a σ S=.ok k S1):evT sub cf (.not a) σ S=.ok (!k) S1:=by rw[B9,ha,Res.aq]
theorem t_k{k k':Bool}(h:evT sub cf a σ S=.ok k' S1)(e:k'=k):evT sub cf a σ S=.ok k S1:=by rw[h,e]
theorem BX(h:Nat.ble ds.length 1000=true):fits ds.length=true:=gE (X7 h)
theorem fM{i j:Int}(h:0<j):opD .mod (.int i) (.int j) S=.ok (.int (i%j)) S:=by rw[Jy,Ze h]
theorem uE{i j:Int}(h:(small i||small j)=true):opD .mul (.int i) (.int j) S=.ok (.int (i*j)) S:=by rw[AF,Ze h]
theorem uJ{i:Int}(h:-1000000000000<i/\i<1000000000000):small i=true:=Zj ⟨by omega,by omega⟩
theorem iX{i j:Int}(h:-1000000000000<i/\i<1000000000000):opD .mul (.int i) (.int j) S=.ok (.int (i*j)) S:=uE (by rw[uJ h,Bool.true_or])
theorem sY{i j:Int}(h:-1000000000000<j/\j<1000000000000):opD .mul (.int i) (.int j) S=.ok (.int (i*j)) S:=uE (by rw[uJ h,Bool.or_true])
theorem qf{i j:Int}(h:0<j/\j<1073741824):opD .fdiv (.int i) (.int j) S=.ok (.int (i/j)) S:=by rw[xJ,Ze (by rw[Zj h.1,Zj h.2]; rfl)]
theorem vj{xs ys:WV}(h:fits (xs.length+ys.length)=true):opD .add (.tup xs) (.tup ys) S=.ok (.tup (xs++ys)) S:=by rw[HM,Ze h]
theorem aB{xs:WV}{j:Int}(h:atI xs j=some d):ixD (.tup xs) (.int j) S=.ok d S:=by rw[zT,h,iZ]
theorem vq{xs:WV}{j:Int}(h:atI xs j=some d):ixD (.fro xs) (.int j) S=.ok d S:=by rw[II,h,iZ]
theorem Cg{xs:WV}{j:Int}{l:Nat}(hl:S[l]?=some (.lst xs))(h:atI xs j=some d):ixD (.loc l) (.int j) S=.ok d S:=by rw[A7 hl,h,iZ]
theorem cR{xs:WV}:biD sub .len [.tup xs] S=.ok (.int xs.length) S:=by rw[kK]; rfl
theorem qB{xs:WV}:biD sub .len [.fro xs] S=.ok (.int xs.length) S:=by rw[kK]; rfl
theorem nY{xs:WV}{l:Nat}(hl:S[l]?=some (.lst xs)):biD sub .len [.loc l] S=.ok (.int xs.length) S:=by rw[kK,gA hl]; rfl
theorem fj{xs:WV}{l:Nat}(hl:S[l]?=some (.lst xs)):biD sub .tuple [.loc l] S=.ok (.tup xs) S:=by rw[Gv,gA hl]; rfl
theorem fQ{t:Ty}{k:Bool}(h:bH sub S x t=some k):biD sub (.inst t) [x] S=.ok (.bl k) S:=by rw[xH,h]
theorem bQ{α:Type}(T:List α)(c:α):(T++[c])[T.length]?=some c:=by simp
theorem mW{T:af}{xs:WV}{j:Int}(h:atI xs j=some d):ixD (.loc T.length) (.int j) (T++[.lst xs])=.ok d (T++[.lst xs]):=Cg (bQ T _) h
theorem kZ{T:af}{xs:WV}:biD sub .tuple [.loc T.length] (T++[.lst xs])=.ok (.tup xs) (T++[.lst xs]):=fj (bQ T _)
theorem xR{T:af}{xs:WV}:biD sub .len [.loc T.length] (T++[.lst xs])=.ok (.int xs.length) (T++[.lst xs]):=nY (bQ T _)
theorem dR{s:Src}(ha:ev sub cf a σ S=.ok x S1)(h:srcOf x S1=.ok s S2):evI sub cf (.iSeq a) σ S=.ok s S2:=by rw[wD,ha,Res.aq,h]
theorem wu{is:WE}(hs:evs sub cf es σ S=.ok ds S1)(h:cV ds=some is):evI sub cf (.iRng es) σ S=.ok ⟨is.map .int,none,[]⟩ S1:=by rw[Gk,hs,Res.aq,h,iZ,Res.aq]
theorem gJ{j:Int}{k:Nat}{f:Nat->D}(hs:evs sub cf es σ S=.ok [.int j] S1)(hj:j=(k:Int))(hk:k<=1000000)(hf:∀i:Nat,f i=.int (i:Int)):evI sub cf (.iRng es) σ S=.ok ⟨(List.range k).map f,none,[]⟩ S1:=by
 subst hj;rw[wu hs (xx (by omega) (by omega)),ZL,X3,show(D.int∘λk:Nat=>(k:Int))=f from funext λi=>(hf i).symm]
theorem aI{i:Nat}(h:ev sub cf a σ S=.ok d S1):exec sub cf (.set (.one i) a) σ S=.ok (.nx (σ.set i (some d))) S1:=by rw[kX,h,Res.aq,gz,Res.aq]
theorem wN{is:List Nat}(h:ev sub cf a σ S=.ok (.tup ds) S1)(hl:ds.length=is.length):exec sub cf (.set (.many is) a) σ S=.ok (.nx (b_ is ds σ)) S1:=by rw[kX,h,Res.aq,oB,Ze hl,Res.aq]
theorem bO(h:ev sub cf a σ S=.ok d S1):exec sub cf (.ex a) σ S=.ok (.nx σ) S1:=by rw[kQ,h,Res.aq]
theorem aH(h:ev sub cf a σ S=.ok d S1):exec sub cf (.ret a) σ S=.ok (.rt d) S1:=by rw[vh,h,Res.aq]
theorem aM(hc:evT sub cf c σ S=.ok true S1)(h:exec sub cf u σ S1=RF):exec sub cf (.ite c u v) σ S=RF:=by rw[nU,hc,Res.aq,Ze rfl,h]
theorem aD(hc:evT sub cf c σ S=.ok false S1)(h:exec sub cf v σ S1=RF):exec sub cf (.ite c u v) σ S=RF:=by rw[nU,hc,Res.aq,Zg (by decide),h]
theorem ak(hu:exec sub cf u σ S=.ok (.nx σ1) S1)(h:exec sub cf v σ1 S1=RF):exec sub cf (.seq u v) σ S=RF:=(FA hu).trans h
theorem b8(hu:exec sub cf u σ S=.ok (.rt d) S1):exec sub cf (.seq u v) σ S=.ok (.rt d) S1:=by rw[nj,hu,yV]
theorem aC:exec sub cf .skip σ S=.ok (.nx σ) S:=id rfl
theorem x_call{P:Prg}{n:Nat}{f:Str}{F:Fn}(hP:P.lookup f=some F)(hl:ds.length=F.par)(hb:exec sub (aj sub P n) F.body (frame F ds) S=.ok (.rt d) S1)(h:leave S d S1=R):aj sub P (n+1) f ds S=R:=by
 rw[fN hP hl,hb,GK,h]
theorem gy{s:Src}{f:D->Sg->M Fl}{ds:WV}(hs:aG s S=.ok () S)(hb:f d σ S=.ok (.nx σ1) S1)(h:forL s f ds σ1 S1=RF):forL s f (d::ds) σ S=RF:=by
 rw[g9,hs,Res.aq,hb]; exact h
theorem eG{i:Nat}(h:exec sub cf u (σ.set i (some d)) S=RF):bC sub cf (.one i) u d σ S=RF:=(lZ i u d σ S).trans h
theorem iO{is:List Nat}(hl:ds.length=is.length)(h:exec sub cf u (b_ is ds σ) S=RF):bC sub cf (.many is) u (.tup ds) σ S=RF:=(Jb is u ds σ S hl).trans h
theorem yN{P:Prg}{n:Nat}{f:Str}{F:Fn}(hP:P.lookup f=some F)(hl:ds.length=F.par)(hb:exec sub (aj sub P n) F.body (frame F ds) S=RF)(h:∃S',RF=.ok (.rt d) S'/\S'.take S.length=S)(hc:d.cl):aj sub P (n+1) f ds S=.ok d S:=by
 obtain⟨S',e,ht⟩:=h;exact x_call hP hl (hb.trans e) (bf hc ht)
end
end GO

namespace RL
open PySem EV GO
noncomputable def eT:Fn:=⟨3,3,(.seq (.ite (.or (.not (.bi (.inst .int) (.cs (.v 0) .nl))) (.bi (.inst .bool) (.cs (.v 0) .nl)))
  (.ret (.c (.bl false)))
  .skip)
 (.ret (.chn .le .le (.v 1) (.v 0) (.v 2))))⟩
noncomputable def i6:Fn:=⟨1,1,(.ret (.call "is_whole" (.cs (.v 0) (.cs (.c (.int 0)) (.cs (.bin .sub (.c (.int 9973)) (.c (.int 1))) .nl)))))⟩
noncomputable def cX:Fn:=⟨3,3,(.ret (.and (.bi (.inst .tuple) (.cs (.v 0) .nl)) (.chn .le .le (.v 1) (.bi .len (.cs (.v 0) .nl)) (.v 2))))⟩
noncomputable def ow:Fn:=⟨1,1,(.ret (.and (.call "is_row" (.cs (.v 0) (.cs (.c (.int 2)) (.cs (.c (.int 2)) .nl)))) (.and (.call "is_whole" (.cs (.ix (.v 0) (.c (.int 0))) (.cs (.c (.int 1)) (.cs (.c (.int 3)) .nl)))) (.call "is_whole" (.cs (.ix (.v 0) (.c (.int 1))) (.cs (.c (.int 1)) (.cs (.c (.int 4)) .nl)))))))⟩
noncomputable def mS:Fn:=⟨1,1,(.ret (.and (.call "is_row" (.cs (.v 0) (.cs (.c (.int 1)) (.cs (.c (.int 3)) .nl)))) (.bi .all (.cs (.comp 2 (.call "is_crew" (.cs (.v 2) .nl)) (.one 2) (.iSeq (.v 0)) .nl) .nl))))⟩
noncomputable def nC:Fn:=⟨3,4,(.seq (.ite (.or (.not (.call "is_row" (.cs (.v 0) (.cs (.c (.int 3)) (.cs (.c (.int 3)) .nl))))) (.not (.call "is_whole" (.cs (.ix (.v 0) (.c (.int 2))) (.cs (.c (.int 0)) (.cs (.c (.int 3)) .nl))))))
  (.ret (.c (.bl false)))
  .skip)
 (.seq (.set (.one 3) (.ite (.cmp .eq (.ix (.v 0) (.c (.int 2))) (.c (.int 0))) (.v 1) (.v 2)))
 (.ret (.call "is_whole" (.cs (.ix (.v 0) (.c (.int 1))) (.cs (.c (.int 0)) (.cs (.bin .sub (.v 3) (.c (.int 1))) .nl)))))))⟩
noncomputable def oQ:Fn:=⟨4,4,(.seq (.ite (.or (.not (.call "is_row" (.cs (.v 0) (.cs (.c (.int 2)) (.cs (.c (.int 3)) .nl))))) (.not (.bi (.inst .str) (.cs (.ix (.v 0) (.c (.int 0))) .nl))))
  (.ret (.c (.bl false)))
  .skip)
 (.seq (.ite (.cmp .eq (.ix (.v 0) (.c (.int 0))) (.c (.str "work")))
  (.ret (.call "is_work_source" (.cs (.v 0) (.cs (.v 1) (.cs (.v 2) .nl)))))
  .skip)
 (.seq (.ite (.cmp .ne (.bi .len (.cs (.v 0) .nl)) (.c (.int 2)))
  (.ret (.c (.bl false)))
  .skip)
 (.seq (.ite (.cmp .eq (.ix (.v 0) (.c (.int 0))) (.c (.str "input")))
  (.ret (.call "is_whole" (.cs (.ix (.v 0) (.c (.int 1))) (.cs (.c (.int 0)) (.cs (.bin .sub (.v 3) (.c (.int 1))) .nl)))))
  .skip)
 (.ret (.and (.cmp .eq (.ix (.v 0) (.c (.int 0))) (.c (.str "value"))) (.call "is_value" (.cs (.ix (.v 0) (.c (.int 1))) .nl))))))))⟩
noncomputable def lY:Fn:=⟨1,1,(.ret (.and (.call "is_row" (.cs (.v 0) (.cs (.c (.int 3)) (.cs (.c (.int 3)) .nl)))) (.bi .all (.cs (.comp 2 (.call "is_value" (.cs (.v 2) .nl)) (.one 2) (.iSeq (.v 0)) .nl) .nl))))⟩
noncomputable def kJ:Fn:=⟨5,6,(.seq (.ite (.not (.call "is_row" (.cs (.v 0) (.cs (.c (.int 5)) (.cs (.c (.int 5)) .nl)))))
  (.ret (.c (.bl false)))
  .skip)
 (.seq (.ite (.or (.not (.call "is_whole" (.cs (.ix (.v 0) (.c (.int 0))) (.cs (.c (.int 0)) (.cs (.bin .sub (.v 4) (.c (.int 1))) .nl))))) (.not (.call "is_whole" (.cs (.ix (.v 0) (.c (.int 1))) (.cs (.c (.int 1)) (.cs (.c (.int 8)) .nl))))))
  (.ret (.c (.bl false)))
  .skip)
 (.seq (.ite (.or (.not (.bi (.inst .str) (.cs (.ix (.v 0) (.c (.int 2))) .nl))) (.cmp .eV (.ix (.v 0) (.c (.int 2))) (.c (.tup [(.str "plus"),(.str "less"),(.str "times"),(.str "least"),(.str "greatest")]))))
  (.ret (.c (.bl false)))
  .skip)
 (.seq (.set (.one 5) (.ix (.v 0) (.c (.int 3))))
 (.seq (.ite (.or (.not (.call "is_row" (.cs (.v 5) (.cs (.c (.int 1)) (.cs (.c (.int 3)) .nl))))) (.not (.call "are_starts" (.cs (.ix (.v 0) (.c (.int 4))) .nl))))
  (.ret (.c (.bl false)))
  .skip)
 (.ret (.bi .all (.cs (.comp 2 (.call "is_source" (.cs (.v 7) (.cs (.v 1) (.cs (.v 2) (.cs (.v 3) .nl))))) (.one 7) (.iSeq (.v 5)) .nl) .nl))))))))⟩
noncomputable def lN:Fn:=⟨3,4,(.seq (.ite (.not (.call "is_row" (.cs (.v 0) (.cs (.c (.int 1)) (.cs (.c (.int 8)) .nl)))))
  (.ret (.c (.bl false)))
  .skip)
 (.seq (.set (.one 3) (.bi .len (.cs (.v 0) .nl)))
 (.ret (.bi .all (.cs (.comp 3 (.call "is_work" (.cs (.v 6) (.cs (.v 5) (.cs (.v 3) (.cs (.v 1) (.cs (.v 2) .nl)))))) (.many [5,6]) (.iEnum (.v 0)) .nl) .nl)))))⟩
noncomputable def lM:Fn:=⟨2,4,(.seq (.ite (.not (.call "is_row" (.cs (.v 0) (.cs (.c (.int 1)) (.cs (.v 1) .nl)))))
  (.ret (.c (.bl false)))
  .skip)
 (.seq (.set (.one 2) (.c (.int 0)))
 (.seq (.forS (.one 3) (.iSeq (.v 0))
  (.seq (.ite (.not (.call "is_whole" (.cs (.v 3) (.cs (.v 2) (.cs (.bin .sub (.v 1) (.c (.int 1))) .nl)))))
  (.ret (.c (.bl false)))
  .skip)
 (.set (.one 2) (.bin .add (.v 3) (.c (.int 1))))))
 (.ret (.c (.bl true))))))⟩
noncomputable def lq:Fn:=⟨1,1,(.seq (.ite (.not (.call "is_row" (.cs (.v 0) (.cs (.c (.int 4)) (.cs (.c (.int 4)) .nl)))))
  (.ret (.c (.bl false)))
  .skip)
 (.seq (.ite (.or (.not (.call "is_whole" (.cs (.ix (.v 0) (.c (.int 0))) (.cs (.c (.int 0)) (.cs (.c (.int 6)) .nl))))) (.not (.call "are_crews" (.cs (.ix (.v 0) (.c (.int 1))) .nl))))
  (.ret (.c (.bl false)))
  .skip)
 (.ret (.and (.call "are_works" (.cs (.ix (.v 0) (.c (.int 2))) (.cs (.ix (.v 0) (.c (.int 0))) (.cs (.bi .len (.cs (.ix (.v 0) (.c (.int 1))) .nl)) .nl)))) (.call "are_outs" (.cs (.ix (.v 0) (.c (.int 3))) (.cs (.bi .len (.cs (.ix (.v 0) (.c (.int 2))) .nl)) .nl)))))))⟩
noncomputable def lA:Fn:=⟨1,1,(.seq (.ite (.not (.call "is_loop" (.cs (.v 0) .nl)))
  (.rais "NoLoop")
  .skip)
 (.ret (.v 0)))⟩
noncomputable def cF:List Str:=["plus","less","times","least","greatest"]
def aP(S:af):Prop:=∀(l:Nat) c,S[l]?=some c->∃ds,c=.lst ds
def Has(P:Prg)(x:String)(F:Fn):Prop:=P.lookup (Str.ofString x)=some F
set_option genInjectivity false in
inductive Srs where|val (v:Int)|inp (k:Nat)|wrk (w b:Nat)
noncomputable def Srs.toD:Srs->D
 | .val v=>.tup [.str "value",.int v]
 | .inp k=>.tup [.str "input",.int k]
 | .wrk w b=>.tup [.str "work",.int w,.int b]
set_option genInjectivity false in
structure Wk where
 crew:Nat
 long:Nat
 doing:Str
 srcs:List Srs
 starts:List Int
noncomputable def Wk.toD(w:Wk):D:=.tup [.int w.crew,.int w.long,.str w.doing,.tup (w.srcs.map Srs.toD),.tup (w.starts.map .int)]
set_option genInjectivity false in
structure Lp where
 streams:Nat
 crews:List (Nat×Nat)
 works:List Wk
 outs:List Nat
noncomputable def bK(c:Nat×Nat):D:=.tup [.int c.1,.int c.2]
noncomputable def au(k:Nat):D:=.int k
noncomputable def Lp.toD(l:Lp):D:=.tup [.int l.streams,.tup (l.crews.map bK),.tup (l.works.map Wk.toD),.tup (l.outs.map au)]
noncomputable def Srs.WF(own many streams:Nat):Srs->Prop
 | .val v=>0<=v/\v<=9972
 | .inp k=>k<streams
 | .wrk w b=>b<=3/\w<(if b=0 then own else many)
set_option genInjectivity false in
structure Wk.WF(own many streams ncrews:Nat)(w:Wk):Prop where
 crew:w.crew<ncrews
 long:1<=w.long/\w.long<=8
 doing:w.doing∈cF
 some:1<=w.srcs.length/\w.srcs.length<=3
 srcs:∀s∈w.srcs,s.WF own many streams
 three:w.starts.length=3
 starts:∀v∈w.starts,0<=v/\v<=9972
noncomputable def dX:Nat->Nat->List Nat->Prop
 | _,_,[]=>True
 | many,least,k::r=>least<=k/\k<many/\dX many (k+1) r
set_option genInjectivity false in
structure Lp.WF(l:Lp):Prop where
 streams:l.streams<=6
 ncrews:1<=l.crews.length/\l.crews.length<=3
 crews:∀c∈l.crews,(1<=c.1/\c.1<=3)/\(1<=c.2/\c.2<=4)
 nworks:1<=l.works.length/\l.works.length<=8
 works:∀(i:Nat) w,l.works[i]?=some w->w.WF i l.works.length l.streams l.crews.length
 nouts:1<=l.outs.length
 outs:dX l.works.length 0 l.outs
set_option genInjectivity false in
structure HB(P:Prg):Prop where
 whole:Has P "is_whole" eT
 value:Has P "is_value" i6
 row:Has P "is_row" cX
 crew:Has P "is_crew" ow
 crews:Has P "are_crews" mS
 worksource:Has P "is_work_source" nC
 source:Has P "is_source" oQ
 starts:Has P "are_starts" lY
 work:Has P "is_work" kJ
 works:Has P "are_works" lN
 outs:Has P "are_outs" lM
 loop:Has P "is_loop" lq
 checked:Has P "checked" lA
variable{sub:Sub}{P:Prg}{n:Nat}{S:af}
@[simp]theorem iR(S T:af)(b:Bool):leave S (.bl b) (S++T)=.ok (.bl b) S:=bf rfl (bU _ _)
@[simp]theorem dI(S:af)(b:Bool):leave S (.bl b) S=.ok (.bl b) S:=bf rfl (Zq)
@[simp]theorem kO(S T:af)(b:Int):leave S (.int b) (S++T)=.ok (.int b) S:=bf rfl (bU _ _)
@[simp]theorem lB(S:af)(b:Int):leave S (.int b) S=.ok (.int b) S:=bf rfl (Zq)
@[simp]theorem JN(S S':af)(d:D):gH S (.ok (.rt d) S')=leave S d S':=id rfl
theorem short{ds:WV}{k:Int}(h:(ds.length:Int)<=k)(hk:k<=1000):ds.length<=aT:=by unfold aT; omega
theorem qC{σ:Sg}{cf:Str->List D->M D}{a b c:E}{i j k:Int}(ha:ev sub cf a σ S=.ok (.int i) S)(hb:ev sub cf b σ S=.ok (.int j) S)(hc:ev sub cf c σ S=.ok (.int k) S)(h1:i<=j)(h2:j<=k) :
  ev sub cf (.chn .le .le a b c) σ S=.ok (.bl true) S:=by
 rw[Br,ha,Res.aq,hb,Res.aq,l0,Res.aq,Zj h1];show(ev sub cf c σ S).bind _=_;rw[hc,Res.aq,l0,Zj h2]
theorem cN(h:Has P "is_whole" eT){i lo hi:Int}(h1:lo<=i)(h2:i<=hi):aj sub P (n+1) "is_whole" [.int i,.int lo,.int hi] S=.ok (.bl true) S :=
 x_call h rfl (ak (aD (cZ (aX (k:=true) (fZ (aL (aa (r_v rfl) ah) (fQ rfl)))) (k:=false) (fZ (aL (aa (r_v rfl) ah) (fQ rfl)))) aC) (aH (qC (r_v rfl) (r_v rfl) (r_v rfl) h1 h2))) (dI _ _)
theorem sA(h:HB P){v:Int}(h1:0<=v)(h2:v<=9972):aj sub P (n+2) "is_value" [.int v] S=.ok (.bl true) S :=
 x_call h.value rfl (aH (ao (aa (r_v rfl) (aa r_c (aa (aJ r_c r_c (c9 _ _ _)) ah))) (cN h.whole h1 h2))) (dI _ _)
theorem gX(h:Has P "is_row" cX){ds:WV}{lo hi:Int}(h1:lo<=(ds.length:Int))(h2:(ds.length:Int)<=hi):aj sub P (n+1) "is_row" [.tup ds,.int lo,.int hi] S=.ok (.bl true) S :=
 x_call h rfl (aH (er (aL (aa (r_v rfl) ah) (fQ rfl)) (qC (r_v rfl) (aL (aa (r_v rfl) ah) cR) (r_v rfl) h1 h2))) (dI _ _)
theorem gQ(h:Has P "is_row" cX){ds:WV}{lo hi:Int}(m:Nat)(hm:ds.length=m)(h1:lo<=(m:Int))(h2:(m:Int)<=hi):aj sub P (n+1) "is_row" [.tup ds,.int lo,.int hi] S=.ok (.bl true) S :=
 gX h (by rw[hm]; exact h1) (by rw[hm]; exact h2)
theorem zS(h:HB P){c:Nat×Nat}(hc:(1<=c.1/\c.1<=3)/\(1<=c.2/\c.2<=4)):aj sub P (n+2) "is_crew" [bK c] S=.ok (.bl true) S :=
 x_call h.crew rfl (aH (er (ao (aa (r_v rfl) (aa r_c (aa r_c ah))) (gQ h.row 2 rfl (by decide) (by decide)))
  (er (ao (aa (ay (r_v rfl) r_c (aB rfl)) (aa r_c (aa r_c ah))) (cN h.whole (Xx.mpr hc.1.1) (Xx.mpr hc.1.2)))
   (ao (aa (ay (r_v rfl) r_c (aB rfl)) (aa r_c (aa r_c ah))) (cN h.whole (Xx.mpr hc.2.1) (Xx.mpr hc.2.2)))))) (dI _ _)
theorem jh{cf:Str->List D->M D}{σ:Sg}{i k:Nat}{el a:E}{α:Type}{l:List α}{f:α->D}(ha:ev sub cf a σ S=.ok (.tup (l.map f)) S)(hn:l.length<=1000)(h:∀x∈l,ev sub cf el ((σ++List.replicate k none).set i (some (f x))) S=.ok (.bl true) S) :
  ∃T,ev sub cf (.bi .all (.cs (.comp k el (.one i) (.iSeq a) .nl) .nl)) σ S=.ok (.bl true) (S++T):=by
 have hc:=nu (sub:=sub) (cf:=cf) (k:=k) (i:=i) (el:=el) (it:=.iSeq a) (σ:=σ) (S:=S) (S1:=S) (ks:=l) (f:=f) (g:=λ_=>.bl true) (o:=none) (raw:=l.map f) (dR ha rfl) rfl h (by unfold aT; omega);refine⟨[.lst (l.map λ_=>.bl true)],aL (R:=.ok (.bl true) _) (aa hc ah) ((jV l λ_=>true).trans ?_)⟩;rw[Z7.mpr λ_ _=>rfl]
theorem Im(h:HB P){cs:List (Nat×Nat)}(h1:1<=cs.length)(h2:cs.length<=3)(hc:∀c∈cs,(1<=c.1/\c.1<=3)/\(1<=c.2/\c.2<=4)):aj sub P (n+3) "are_crews" [.tup (cs.map bK)] S=.ok (.bl true) S:=by
 obtain⟨T,e⟩:=jh (sub:=sub) (cf:=aj sub P (n+2)) (σ:=[some (.tup (cs.map bK))]) (S:=S) (i:=2) (k:=2) (el:=.call "is_crew" (.cs (.v 2) .nl)) (a:=.v 0) (l:=cs) (f:=bK) (r_v rfl) (by omega) (λc hm=>ao (aa (r_v rfl) ah) (zS h (hc c hm)));exact x_call h.crews rfl (aH (er (ao (aa (r_v rfl) (aa r_c (aa r_c ah))) (gX h.row (by rw[Zi]; omega) (by rw[Zi]; omega))) e)) (iR _ _ _)
theorem EG(h:HB P){vs:WE}(h1:vs.length=3)(hv:∀v∈vs,0<=v/\v<=9972):aj sub P (n+3) "are_starts" [.tup (vs.map .int)] S=.ok (.bl true) S:=by
 obtain⟨T,e⟩:=jh (sub:=sub) (cf:=aj sub P (n+2)) (σ:=[some (.tup (vs.map .int))]) (S:=S) (i:=2) (k:=2) (el:=.call "is_value" (.cs (.v 2) .nl)) (a:=.v 0) (l:=vs) (f:=.int) (r_v rfl) (by omega) (λc hm=>ao (aa (r_v rfl) ah) (sA h (hv c hm).1 (hv c hm).2));exact x_call h.starts rfl (aH (er (ao (aa (r_v rfl) (aa r_c (aa r_c ah))) (gX h.row (by rw[Zi,h1]; decide) (by rw[Zi,h1]; decide))) e)) (iR _ _ _)
theorem EB(h:HB P){x:D}{w b own many:Nat}(hb:b<=3)(hw:w<(if b=0 then own else many)):aj sub P (n+2) "is_work_source" [.tup [x,.int w,.int b],.int own,.int many] S=.ok (.bl true) S:=by
 have h0:∀k:Nat,(0:Int)<=(k:Int):=λk=>Xy k
 refine x_call h.worksource rfl (ak (aD (cZ (aX (k:=true) (bw (ao (aa (r_v rfl) (aa r_c (aa r_c ah))) (gQ h.row 3 rfl (by decide) (by decide)))))
  (k:=false) (aX (k:=true) (bw (ao (aa (ay (r_v rfl) r_c (aB rfl)) (aa r_c (aa r_c ah))) (cN h.whole (h0 b) (Xx.mpr hb)))))) aC)
  (ak (aI (d:=.int ((if b=0 then own else many:Nat):Int)) (S1:=S) ?_) (aH (ao (aa (ay (r_v rfl) r_c (aB rfl)) (aa r_c (aa (aJ (r_v rfl) r_c (c9 _ _ _)) ah))) (cN h.whole (h0 w) (by omega)))))) (dI _ _)
 by_cases z:b=0
 ·rw[Ze z]; subst z;exact xQ (S1:=S) (aY (bE (ay (r_v rfl) r_c (aB rfl)) r_c (eK _ _ _))) (r_v rfl)
 ·rw[Zg z];exact Hu (S1:=S) (t_k (aY (bE (ay (r_v rfl) r_c (aB rfl)) r_c (eK _ _ _))) (Qo (by omega))) (r_v rfl)
theorem Ij(h:HB P){s:Srs}{own many streams:Nat}(hs:s.WF own many streams):aj sub P (n+3) "is_source" [s.toD,.int own,.int many,.int streams] S=.ok (.bl true) S:=by
 have first:∀{x:Str} {r:WV} {σ:Sg} (e:bF σ 0 S=.ok (.tup (.str x::r)) S) (m:Nat) (hm:(D.str x::r).length=m) (h1:2<=(m:Int)) (h2:(m:Int)<=3),evT sub (aj sub P (n+2)) (.or (.not (.call "is_row" (.cs (.v 0) (.cs (.c (.int 2)) (.cs (.c (.int 3)) .nl))))) (.not (.bi (.inst .str) (.cs (.ix (.v 0) (.c (.int 0))) .nl)))) σ S=.ok false S:=λ{x r σ} e m hm h1 h2 =>
  cZ (aX (k:=true) (bw (ao (aa (r_v e) (aa r_c (aa r_c ah))) (gQ h.row m hm h1 h2)))) (k:=false) (aX (k:=true) (fZ (aL (aa (ay (r_v e) r_c (aB (d:=.str x) (sy _))) ah) (fQ rfl))))
 have word:∀{x:Str} {r:WV} {σ:Sg} (y:Str) {k:Bool} (e:bF σ 0 S=.ok (.tup (.str x::r)) S) (hk:(x==y)=k),ev sub (aj sub P (n+2)) (.cmp .eq (.ix (.v 0) (.c (.int 0))) (.c (.str y))) σ S=.ok (.bl k) S:=λy k e hk=>by
  rw[<- hk]; exact bE (ay (r_v e) r_c (aB (sy _))) r_c (oW _ _ _)
 have two:∀{x y:D} {σ:Sg} (e:bF σ 0 S=.ok (.tup [x,y]) S),evT sub (aj sub P (n+2)) (.cmp .ne (.bi .len (.cs (.v 0) .nl)) (.c (.int 2))) σ S=.ok false S:=λe =>
  aY (bE (aL (aa (r_v e) ah) cR) r_c (sP _ _ _))
 cases s with
 | val v =>
  exact x_call h.source rfl (ak (aD (first (x:="value") rfl 2 rfl (by decide) (by decide)) aC) (ak (aD (aY (word "work" (x:="value") rfl (by decide +kernel))) aC) (ak (aD (two rfl) aC) (ak (aD (aY (word "input" (x:="value") rfl (by decide +kernel))) aC)
   (aH (er (word "value" (x:="value") rfl (by decide +kernel)) (ao (aa (ay (r_v rfl) r_c (aB rfl)) ah) (sA h hs.1 hs.2)))))))) (dI _ _)
 | inp k =>
  have hk:k<streams:=hs
  exact x_call h.source rfl (ak (aD (first (x:="input") rfl 2 rfl (by decide) (by decide)) aC) (ak (aD (aY (word "work" (x:="input") rfl (by decide +kernel))) aC) (ak (aD (two rfl) aC) (b8 (aM (aY (word "input" (x:="input") rfl (by decide +kernel)))
   (aH (ao (aa (ay (r_v rfl) r_c (aB rfl)) (aa r_c (aa (aJ (r_v rfl) r_c (c9 _ _ _)) ah))) (cN h.whole (Xy k) (by omega))))))))) (dI _ _)
 | wrk w b =>
  exact x_call h.source rfl (ak (aD (first (x:="work") rfl 3 rfl (by decide) (by decide)) aC) (b8 (aM (aY (word "work" (x:="work") rfl (by decide +kernel))) (aH (ao (aa (r_v rfl) (aa (r_v rfl) (aa (r_v rfl) ah))) (EB h hs.1 hs.2)))))) (dI _ _)
theorem As{x:Str}(h:x∈cF):cmD .eV (.str x) (.tup [(.str "plus"),(.str "less"),(.str "times"),(.str "least"),(.str "greatest")]) S=.ok (.bl false) S:=by
 have h:x = "plus"\/x = "less"\/x = "times"\/x = "least"\/x = "greatest":=by simpa [cF] using h
 rcases h with rfl|rfl|rfl|rfl|rfl<;>rfl
theorem HX(h:HB P){w:Wk}{own many streams ncrews:Nat}(hw:w.WF own many streams ncrews):aj sub P (n+4) "is_work" [w.toD,.int own,.int many,.int streams,.int ncrews] S=.ok (.bl true) S:=by
 have hc:=hw.crew;obtain⟨T,e⟩:=jh (sub:=sub) (cf:=aj sub P (n+3)) (σ:=[some w.toD,some (.int own),some (.int many),some (.int streams),some (.int ncrews),some (.tup (w.srcs.map Srs.toD))]) (S:=S) (i:=7) (k:=2) (el:=.call "is_source" (.cs (.v 7) (.cs (.v 1) (.cs (.v 2) (.cs (.v 3) .nl))))) (a:=.v 5) (l:=w.srcs) (f:=Srs.toD) (r_v rfl) (by have:=hw.some; omega) (λs hm=>ao (aa (r_v rfl) (aa (r_v rfl) (aa (r_v rfl) (aa (r_v rfl) ah)))) (Ij h (hw.srcs s hm)))
 refine x_call h.work rfl (ak (aD (aX (k:=true) (bw (ao (aa (r_v rfl) (aa r_c (aa r_c ah))) (gQ h.row 5 rfl (by decide) (by decide))))) aC)
  (ak (aD (cZ (aX (k:=true) (bw (ao (aa (ay (r_v rfl) r_c (aB rfl)) (aa r_c (aa (aJ (r_v rfl) r_c (c9 _ _ _)) ah))) (cN h.whole (Xy _) (by omega))))) (k:=false)
   (aX (k:=true) (bw (ao (aa (ay (r_v rfl) r_c (aB rfl)) (aa r_c (aa r_c ah))) (cN h.whole (Xx.mpr hw.long.1) (Xx.mpr hw.long.2)))))) aC)
  (ak (aD (cZ (aX (k:=true) (fZ (aL (aa (ay (r_v rfl) r_c (aB rfl)) ah) (fQ rfl)))) (aY (bE (ay (r_v rfl) r_c (aB rfl)) r_c (As hw.doing)))) aC)
  (ak (aI (ay (r_v rfl) r_c (aB rfl)))
  (ak (aD (cZ (aX (k:=true) (bw (ao (aa (r_v rfl) (aa r_c (aa r_c ah))) (gX h.row (ds:=w.srcs.map Srs.toD) ?_ ?_)))) (k:=false) (aX (k:=true) (bw (ao (aa (ay (r_v rfl) r_c (aB rfl)) ah) (EG h hw.three hw.starts))))) aC)
  (aH e)))))) (iR _ _ _)
 ·rw[Zi]; have:=hw.some; omega
 ·rw[Zi]; have:=hw.some; omega
theorem Bp(h:HB P){ws:List Wk}{streams ncrews:Nat}(h1:1<=ws.length)(h2:ws.length<=8)(hw:∀(i:Nat) w,ws[i]?=some w->w.WF i ws.length streams ncrews):aj sub P (n+5) "are_works" [.tup (ws.map Wk.toD),.int streams,.int ncrews] S=.ok (.bl true) S:=by
 have hc:=Jj (sub:=sub) (cf:=aj sub P (n+4)) (k:=3) (is:=[5,6]) (el:=.call "is_work" (.cs (.v 6) (.cs (.v 5) (.cs (.v 3) (.cs (.v 1) (.cs (.v 2) .nl)))))) (it:=.iEnum (.v 0))
  (σ:=[some (.tup (ws.map Wk.toD)),some (.int streams),some (.int ncrews),some (.int ws.length)]) (S:=S) (S1:=S) (s:=⟨num 0 (ws.map Wk.toD),none,ws.map Wk.toD⟩) (g:=λ_=>.bl true) rfl rfl (λd hd=>by
   obtain⟨i,hi,rfl⟩:=List.mem_iff_getElem.mp hd;have hi':i<ws.length:=by rw[jQ,Zi] at hi; exact hi
   refine⟨_,rg _ 0 i hi,rfl,?_⟩;rw[QA,XL];exact ao (aa (r_v rfl) (aa (r_v rfl) (aa (r_v rfl) (aa (r_v rfl) (aa (r_v rfl) ah))))) (HX h (hw i _ (Zb hi')))) (by unfold aT; rw[jQ,Zi]; omega)
 have ha:ev sub (aj sub P (n+4)) (.bi .all (.cs (.comp 3 (.call "is_work" (.cs (.v 6) (.cs (.v 5) (.cs (.v 3) (.cs (.v 1) (.cs (.v 2) .nl)))))) (.many [5,6]) (.iEnum (.v 0)) .nl) .nl)) [some (.tup (ws.map Wk.toD)),some (.int streams),some (.int ncrews),some (.int ws.length)] S=.ok (.bl true) (S++[.lst ((num 0 (ws.map Wk.toD)).map λ_=>.bl true)]) :=
  aL (aa hc ah) ((jV _ λ_=>true).trans (by rw[Z7.mpr λ_ _=>rfl]))
 refine x_call h.works rfl (ak (aD (aX (k:=true) (bw (ao (aa (r_v rfl) (aa r_c (aa r_c ah))) (gX h.row (ds:=ws.map Wk.toD) ?_ ?_)))) aC)
  (ak (aI (d:=.int ws.length) (S1:=S) ?_) (aH ha))) (iR _ _ _)
 ·rw[Zi]; omega
 ·rw[Zi]; omega
 ·have:=cR (sub:=sub) (S:=S) (xs:=ws.map Wk.toD);rw[Zi] at this;exact aL (aa (r_v rfl) ah) this
theorem qR(h:HB P){d0:D}{many:Nat}{s:Src}(hs:∀T,aG s T=.ok () T):∀(l:List Nat) (least:Nat) (x:Option D),dX many least l->∃σ',forL s (bC sub (aj sub P (n+1)) (.one 3) (.seq (.ite (.not (.call "is_whole" (.cs (.v 3) (.cs (.v 2) (.cs (.bin .sub (.v 1) (.c (.int 1))) .nl))))) (.ret (.c (.bl false))) .skip) (.set (.one 2) (.bin .add (.v 3) (.c (.int 1))))))
   (l.map au) [some d0,some (.int many),some (.int least),x] S=.ok (.nx σ') S
 | [],least,x,_=>⟨_,by rw[Wb,iE,hs,Res.aq]⟩
 | k::r,least,x,⟨h1,h2,h3⟩=>by
  obtain⟨σ',e⟩:=qR h hs r (k+1) (some (au k)) h3;refine⟨σ',?_⟩;rw[ZT,g9,hs,Res.aq,lZ,ak (aD (aX (k:=true) (bw (ao (aa (r_v rfl) (aa (r_v rfl) (aa (aJ (r_v rfl) r_c (c9 _ _ _)) ah))) (cN h.whole (Xx.mpr h1) (by omega))))) aC) (aI (aJ (r_v rfl) r_c (eu _ _ _)))];exact e
theorem qT{many:Nat}:∀{l:List Nat} {least:Nat},dX many least l->least<=many->l.length+least<=many
 | [],_,_,h=>by simpa using h
 | k::r,least,⟨h1,h2,h3⟩,_=>by
  have:=qT h3 (by omega);simp only[Z0]; omega
theorem Ib(h:HB P){os:List Nat}{many:Nat}(h1:1<=os.length)(hr:dX many 0 os):aj sub P (n+2) "are_outs" [.tup (os.map au),.int many] S=.ok (.bl true) S:=by
 have hl:=qT hr (Xj _);obtain⟨σ',e⟩:=qR (sub:=sub) (n:=n) (S:=S) (d0:=.tup (os.map au)) (s:=⟨os.map au,none,os.map au⟩) h (λ_=>rfl) os 0 none hr
 exact x_call h.outs rfl (ak (aD (aX (k:=true) (bw (ao (aa (r_v rfl) (aa r_c (aa (r_v rfl) ah))) (gX h.row (ds:=os.map au) (by rw[Zi]; omega) (by rw[Zi]; omega))))) aC)
  (ak (aI r_c) (ak (c_ (dR (r_v rfl) rfl) e) (aH r_c)))) (dI _ _)
theorem Ck(h:HB P){l:Lp}(hl:l.WF):aj sub P (n+6) "is_loop" [l.toD] S=.ok (.bl true) S:=by
 have e1:=cR (sub:=sub) (S:=S) (xs:=l.crews.map bK);have e2:=cR (sub:=sub) (S:=S) (xs:=l.works.map Wk.toD);rw[Zi] at e1 e2
 exact x_call h.loop rfl (ak (aD (aX (k:=true) (bw (ao (aa (r_v rfl) (aa r_c (aa r_c ah))) (gQ h.row 4 rfl (by decide) (by decide))))) aC)
  (ak (aD (cZ (aX (k:=true) (bw (ao (aa (ay (r_v rfl) r_c (aB rfl)) (aa r_c (aa r_c ah))) (cN h.whole (Xy _) (Xx.mpr hl.streams))))) (k:=false)
   (aX (k:=true) (bw (ao (aa (ay (r_v rfl) r_c (aB rfl)) ah) (Im h hl.ncrews.1 hl.ncrews.2 hl.crews))))) aC)
  (aH (er (ao (aa (ay (r_v rfl) r_c (aB rfl)) (aa (ay (r_v rfl) r_c (aB rfl)) (aa (aL (aa (ay (r_v rfl) r_c (aB rfl)) ah) e1) ah))) (Bp h hl.nworks.1 hl.nworks.2 hl.works))
   (ao (aa (ay (r_v rfl) r_c (aB rfl)) (aa (aL (aa (ay (r_v rfl) r_c (aB rfl)) ah) e2) ah)) (Ib h hl.nouts hl.outs)))))) (dI _ _)
end RL

namespace RL
open PySem EV GO
section
local macro_rules|`(tactic| done)=>`(tactic| (first|with_reducible exact r_c|((with_reducible apply r_v); exact rfl)|with_reducible apply aJ|with_reducible apply bE|with_reducible apply ay|with_reducible apply ao|with_reducible exact ah|with_reducible apply aa|with_reducible apply aL|with_reducible apply jL|with_reducible apply aR|with_reducible apply br|((with_reducible apply BX); exact rfl)|with_reducible apply iQ|with_reducible apply bw|with_reducible apply fZ|with_reducible apply aY|with_reducible exact eu _ _ _|with_reducible exact c9 _ _ _|((with_reducible apply fM); first|decide|assumption|omega)|((with_reducible apply iX); first|decide|omega)|((with_reducible apply sY); first|decide|omega)|((with_reducible apply qf); decide)|with_reducible exact ku _ _ _|with_reducible exact l0 _ _ _|with_reducible exact lK _ _ _|with_reducible exact A1 _ _ _|with_reducible exact eK _ _ _|with_reducible exact oW _ _ _|((with_reducible apply mW); assumption)|with_reducible exact kZ|with_reducible exact xR|with_reducible exact cR|with_reducible exact qB|((with_reducible apply aB); exact rfl)|with_reducible assumption|((apply fM); first|decide|assumption)|apply eK|apply oW))
noncomputable def vH:Fn:=⟨2,2,(.seq (.ite (.cmp .lt (.v 1) (.bi .len (.cs (.v 0) .nl)))
  (.ret (.ix (.v 0) (.v 1)))
  .skip)
 (.seq (.ite (.cmp .eq (.v 0) (.lst .nl))
  (.ret (.c (.int 0)))
  .skip)
 (.ret (.bin .add (.bin .mul (.ix (.v 0) (.bin .mod (.v 1) (.bi .len (.cs (.v 0) .nl)))) (.c (.int 31))) (.v 1)))))⟩
noncomputable def pG:Fn:=⟨3,4,(.seq (.set (.one 3) (.bin .mod (.bin .mul (.bin .add (.bin .add (.call "_law_cell_at" (.cs (.v 0) (.cs (.v 1) .nl))) (.bin .mul (.c (.int 7919)) (.v 1))) (.c (.int 1))) (.c (.int 48271))) (.c (.int 2147483647))))
 (.ret (.bin .mod (.bin .mod (.bin .add (.bin .add (.bin .mul (.v 3) (.v 3)) (.bin .mul (.c (.int 7)) (.v 3))) (.v 1)) (.c (.int 2147483629))) (.v 2))))⟩
noncomputable def wX:Fn:=⟨5,7,(.seq (.set (.one 5) (.call "_law_mixed" (.cs (.v 0) (.cs (.v 1) (.cs (.c (.int 7)) .nl)))))
 (.seq (.ite (.or (.cmp .eq (.v 5) (.c (.int 0))) (.and (.cmp .eq (.v 5) (.c (.int 1))) (.cmp .eq (.v 2) (.c (.int 0)))))
  (.ret (.tup (.cs (.c (.str "value")) (.cs (.call "_law_mixed" (.cs (.v 0) (.cs (.bin .add (.v 1) (.c (.int 1))) (.cs (.c (.int 9973)) .nl)))) .nl))))
  .skip)
 (.seq (.ite (.cmp .eq (.v 5) (.c (.int 1)))
  (.ret (.tup (.cs (.c (.str "input")) (.cs (.call "_law_mixed" (.cs (.v 0) (.cs (.bin .add (.v 1) (.c (.int 1))) (.cs (.v 2) .nl)))) .nl))))
  .skip)
 (.seq (.set (.one 6) (.call "_law_mixed" (.cs (.v 0) (.cs (.bin .add (.v 1) (.c (.int 1))) (.cs (.v 3) .nl)))))
 (.seq (.ite (.and (.cmp .lt (.v 6) (.v 4)) (.cmp .lt (.v 5) (.c (.int 5))))
  (.ret (.tup (.cs (.c (.str "work")) (.cs (.v 6) (.cs (.c (.int 0)) .nl)))))
  .skip)
 (.ret (.tup (.cs (.c (.str "work")) (.cs (.v 6) (.cs (.bin .add (.c (.int 1)) (.call "_law_mixed" (.cs (.v 0) (.cs (.bin .add (.v 1) (.c (.int 2))) (.cs (.c (.int 3)) .nl))))) .nl))))))))))⟩
noncomputable def vQ:Fn:=⟨4,12,(.seq (.set (.many [4,5,6]) (.v 2))
 (.seq (.set (.one 7) (.lst .nl))
 (.seq (.forS (.one 8) (.iRng (.cs (.bin .add (.c (.int 1)) (.call "_law_mixed" (.cs (.v 0) (.cs (.bin .add (.v 1) (.c (.int 2))) (.cs (.c (.int 2)) .nl))))) .nl))
  (.ex (.me .append (.v 7) (.cs (.call "_law_source" (.cs (.v 0) (.cs (.bin .add (.bin .add (.v 1) (.c (.int 3))) (.bin .mul (.c (.int 3)) (.v 8))) (.cs (.v 4) (.cs (.v 6) (.cs (.v 3) .nl)))))) .nl))))
 (.seq (.set (.one 9) (.ix (.lst (.cs (.c (.str "plus")) (.cs (.c (.str "less")) (.cs (.c (.str "times")) (.cs (.c (.str "least")) (.cs (.c (.str "greatest")) .nl)))))) (.call "_law_mixed" (.cs (.v 0) (.cs (.v 1) (.cs (.c (.int 5)) .nl))))))
 (.seq (.set (.one 10) (.bin .add (.c (.int 1)) (.call "_law_mixed" (.cs (.v 0) (.cs (.bin .add (.v 1) (.c (.int 1))) (.cs (.ix (.lst (.cs (.c (.int 2)) (.cs (.c (.int 5)) .nl))) (.call "_law_mixed" (.cs (.v 0) (.cs (.bin .add (.v 1) (.c (.int 2))) (.cs (.c (.int 2)) .nl))))) .nl))))))
 (.seq (.set (.one 11) (.bi .tuple (.cs (.comp 2 (.call "_law_mixed" (.cs (.v 0) (.cs (.bin .add (.v 1) (.v 13)) (.cs (.c (.int 9973)) .nl)))) (.one 13) (.iSeq (.tup (.cs (.c (.int 0)) (.cs (.c (.int 5)) (.cs (.c (.int 6)) .nl))))) .nl) .nl)))
 (.ret (.tup (.cs (.call "_law_mixed" (.cs (.v 0) (.cs (.bin .add (.v 1) (.c (.int 7))) (.cs (.v 5) .nl)))) (.cs (.v 10) (.cs (.v 9) (.cs (.bi .tuple (.cs (.v 7) .nl)) (.cs (.v 11) .nl)))))))))))))⟩
noncomputable def sN:Fn:=⟨3,9,(.seq (.set (.one 3) (.call "_law_mixed" (.cs (.v 0) (.cs (.v 1) (.cs (.c (.int 3)) .nl)))))
 (.seq (.set (.one 4) (.bin .add (.c (.int 1)) (.call "_law_mixed" (.cs (.v 0) (.cs (.bin .add (.v 1) (.c (.int 1))) (.cs (.v 2) .nl))))))
 (.seq (.set (.one 5) (.lst .nl))
 (.seq (.forS (.one 6) (.iRng (.cs (.bin .add (.c (.int 1)) (.call "_law_mixed" (.cs (.v 0) (.cs (.bin .add (.v 1) (.c (.int 2))) (.cs (.c (.int 2)) .nl))))) .nl))
  (.ex (.me .append (.v 5) (.cs (.tup (.cs (.bin .add (.c (.int 1)) (.call "_law_mixed" (.cs (.v 0) (.cs (.bin .add (.bin .add (.v 1) (.c (.int 3))) (.v 6)) (.cs (.c (.int 2)) .nl))))) (.cs (.bin .add (.c (.int 1)) (.bin .fdiv (.call "_law_mixed" (.cs (.v 0) (.cs (.bin .add (.bin .add (.v 1) (.c (.int 5))) (.v 6)) (.cs (.c (.int 5)) .nl)))) (.c (.int 2)))) .nl))) .nl))))
 (.seq (.set (.one 7) (.lst .nl))
 (.seq (.forS (.one 6) (.iRng (.cs (.v 4) .nl))
  (.ex (.me .append (.v 7) (.cs (.call "_law_work" (.cs (.v 0) (.cs (.bin .add (.bin .add (.v 1) (.c (.int 7))) (.bin .mul (.c (.int 9)) (.v 6))) (.cs (.tup (.cs (.v 3) (.cs (.bi .len (.cs (.v 5) .nl)) (.cs (.v 4) .nl)))) (.cs (.v 6) .nl))))) .nl))))
 (.seq (.set (.one 8) (.comp 2 (.v 10) (.one 10) (.iRng (.cs (.v 4) .nl)) (.cmp .gt (.call "_law_mixed" (.cs (.v 0) (.cs (.bin .add (.bin .add (.v 1) (.c (.int 7))) (.v 10)) (.cs (.c (.int 3)) .nl)))) (.c (.int 0)))))
 (.seq (.ite (.cmp .eq (.v 8) (.lst .nl))
  (.set (.one 8) (.lst (.cs (.bin .sub (.v 4) (.c (.int 1))) .nl)))
  .skip)
 (.ret (.tup (.cs (.v 3) (.cs (.bi .tuple (.cs (.v 5) .nl)) (.cs (.bi .tuple (.cs (.v 7) .nl)) (.cs (.bi .tuple (.cs (.v 8) .nl)) .nl))))))))))))))⟩
theorem Srs.cl(s:Srs):s.toD.cl:=by cases s<;>rfl
theorem Wk.cl(w:Wk):w.toD.cl:=by
 show(true&&(true&&(true&&(D.lows 0 (w.srcs.map Srs.toD)&&(D.lows 0 (w.starts.map .int)&&true)))))=true;rw[jT Srs.cl,DT]; rfl
theorem Lp.cl(l:Lp):l.toD.cl:=by
 show(true&&(D.lows 0 (l.crews.map bK)&&(D.lows 0 (l.works.map Wk.toD)&&(D.lows 0 (l.outs.map au)&&true))))=true;rw[jT (f:=bK) λ_=>rfl,jT Wk.cl,jT (f:=au) λ_=>rfl]; rfl
theorem nV{sub:Sub}{P:Prg}{n:Nat}{S:af}(h:HB P){l:Lp}(hw:l.WF):aj sub P (n+7) "checked" [l.toD] S=.ok l.toD S :=
 x_call h.checked rfl (ak (aD (aX (k:=true) (bw (ao (aa (r_v rfl) ah) (Ck h hw)))) aC) (aH (r_v rfl))) (bf l.cl Zq)
noncomputable def cellAt(ns:WE)(k:Int):Int:=if k<ns.length then ns.getD k.toNat 0 else if ns.length=0 then 0 else ns.getD (k%(ns.length:Int)).toNat 0*31+k
noncomputable def drawn(ns:WE)(k:Int):Int:=(cellAt ns k+7919*k+1)*48271%2147483647
noncomputable def mixed(ns:WE)(k m:Int):Int:=(drawn ns k*drawn ns k+7*drawn ns k+k)%2147483629%m
theorem HK(ns:WE)(k:Int){m:Int}(h:0<m):0<=mixed ns k m/\mixed ns k m<m:=⟨Wd _ (by omega),QO _ h⟩
structure HG(P:Prg):Prop where
 cell:Has P "_law_cell_at" vH
 mix:Has P "_law_mixed" pG
 source:Has P "_law_source" wX
 work:Has P "_law_work" vQ
 loop:Has P "_law_loop" sN
variable{sub:Sub}{P:Prg}{n:Nat}{S:af}
theorem t7{ns:WE}{k:Int}(h0:0<=k)(h:k<ns.length):atI (ns.map D.int) k=some (.int (ns.getD k.toNat 0)):=by
 obtain⟨j,rfl⟩:=Int.eq_ofNat_of_zero_le h0;rw[iP];have hj:j<ns.length:=by omega
 simp[hj]
theorem eq_empty(ns:WE)(S:af):cmD .eq (.fro (ns.map .int)) (.loc S.length) (S++[.lst []])=.ok (.bl (decide (ns.length=0))) (S++[.lst []]):=by
 rw[sL]
 have:eqD deep (S++[.lst []]) (.fro (ns.map .int)) (.loc S.length)=some (decide (ns.length=0)):=by
  show(match some (ns.map D.int),listAt (S++[.lst []]) S.length with|some xs,some ys=>if xs.length=ys.length then b7 _ xs ys else some false|_,_=>none)=_;have e:listAt (S++[.lst []]) S.length=some []:=by unfold listAt; simp
  rw[e];cases ns<;>simp[b7]
 rw[this]
theorem E9(h:HG P)(ns:WE){k:Int}(hk:0<=k):aj sub P (n+1) "_law_cell_at" [.fro (ns.map .int),.int k] S=.ok (.int (cellAt ns k)) S:=by
 have hl:∀S:af,biD sub .len [.fro (ns.map .int)] S=.ok (.int ns.length) S:=λS=>by
  have:=qB (sub:=sub) (S:=S) (xs:=ns.map .int);rw[Zi] at this;exact this
 have e1:∀{b:Bool},decide (k<(ns.length:Int))=b->evT sub (aj sub P n) (.cmp .lt (.v 1) (.bi .len (.cs (.v 0) .nl))) [some (.fro (ns.map .int)),some (.int k)] S=.ok b S:=λe=>t_k (aY (bE (r_v rfl) (aL (aa (r_v rfl) ah) (hl _)) (ku _ _ _))) e
 have e2:∀{b:Bool},decide (ns.length=0)=b->evT sub (aj sub P n) (.cmp .eq (.v 0) (.lst .nl)) [some (.fro (ns.map .int)),some (.int k)] S=.ok b (S++[.lst []]):=λe=>t_k (aY (bE (r_v rfl) (br ah rfl) (eq_empty ns S))) e
 unfold cellAt
 by_cases h1:k<ns.length
 ·rw[Ze h1];exact x_call h.cell rfl (b8 (aM (e1 (Zj h1)) (aH (ay (r_v rfl) (r_v rfl) (vq (t7 hk h1)))))) (lB _ _)
 rw[Zg h1]
 by_cases h2:ns.length=0
 ·rw[Ze h2];exact x_call h.cell rfl (ak (aD (e1 (Zs h1)) aC) (b8 (aM (e2 (Zj h2)) (aH r_c)))) (kO _ _ _)
 ·rw[Zg h2];have h3:0<(ns.length:Int):=by omega
  exact x_call h.cell rfl (ak (aD (e1 (Zs h1)) aC) (ak (aD (e2 (Zs h2)) aC) (aH (aJ (aJ (ay (r_v rfl) (aJ (r_v rfl) (aL (aa (r_v rfl) ah) (hl _)) (fM h3)) (vq (t7 (Wd k (by omega)) (QO k h3)))) r_c (sY (by decide))) (r_v rfl) (eu _ _ _))))) (kO _ _ _)
theorem xF(h:HG P)(ns:WE){k m:Int}(hk:0<=k)(hm:0<m):aj sub P (n+2) "_law_mixed" [.fro (ns.map .int),.int k,.int m] S=.ok (.int (mixed ns k m)) S:=by
 have hc:=E9 (sub:=sub) (n:=n) (S:=S) h ns hk;have h1:0<=drawn ns k:=Wd _ (by decide);have h2:drawn ns k<2147483647:=QO _ (by decide);refine x_call h.mix rfl (ak (aI (d:=.int (drawn ns k)) (S1:=S) ?_) (aH (d:=.int (mixed ns k m)) (S1:=S) ?_)) (bf rfl (by simp))<;>(repeat' done)
structure Mix(P:Prg)(mx:List Int->Int->Int->Int):Prop where
 ok:∀{sub:Sub} {n:Nat} {S:af} (ns:WE) {k m:Int},0<=k->0<m->aj sub P (n+2) "_law_mixed" [.fro (ns.map .int),.int k,.int m] S=.ok (.int (mx ns k m)) S
 rng:∀(ns:WE) (k:Int) {m:Int},0<m->0<=mx ns k m/\mx ns k m<m
theorem zG(h:HG P):∃mx,Mix P mx:=⟨mixed,λns _ _ hk hm=>xF h ns hk hm,λns k _ h=>HK ns k h⟩
variable{mx:List Int->Int->Int->Int}
noncomputable def eU(mx:List Int->Int->Int->Int)(ns:WE)(at':Int)(streams many own:Nat):Srs :=
 if mx ns at' 7=0\/(mx ns at' 7=1/\streams=0) then .val (mx ns (at' + 1) 9973)
 else if mx ns at' 7=1 then .inp (mx ns (at' + 1) streams).toNat
 else if(mx ns (at' + 1) many).toNat<own/\mx ns at' 7<5 then .wrk (mx ns (at' + 1) many).toNat 0
 else .wrk (mx ns (at' + 1) many).toNat (1+mx ns (at' + 2) 3).toNat
theorem E7(S:af)(s:Srs):leave S s.toD S=.ok s.toD S:=bf s.cl (by simp)
theorem toNat_cast{i:Int}(h:0<=i):((i.toNat:Nat):Int)=i:=Int.toNat_of_nonneg h
theorem Jc(h:HG P)(M:Mix P mx)(ns:WE){at':Int}{streams many own:Nat}(hat:0<=at')(hm:0<many):aj sub P (n+3) "_law_source" [.fro (ns.map .int),.int at',.int streams,.int many,.int own] S=.ok (eU mx ns at' streams many own).toD S:=by
 have hm':(0:Int)<many:=by omega
 have a1:0<=at' + 1:=by omega
 have a2:0<=at' + 2:=by omega
 have m0:=M.ok (sub:=sub) (n:=n) (S:=S) ns (k:=at') (m:=7) hat (by decide);have r3:=M.rng ns (at' + 1) hm';have m1:=M.ok (sub:=sub) (n:=n) (S:=S) ns (k:=at' + 1) (m:=9973) a1 (by decide);have m3:=M.ok (sub:=sub) (n:=n) (S:=S) ns (k:=at' + 1) (m:=many) a1 hm';have m4:=M.ok (sub:=sub) (n:=n) (S:=S) ns (k:=at' + 2) (m:=3) a2 (by decide);have r4:=M.rng ns (at' + 2) (show(0:Int)<3 by decide);unfold eU;generalize hw:mx ns at' 7=w at m0;refine x_call (S1:=S) h.source rfl (ak (aI (d:=.int w) (S1:=S) (by(repeat' done))) ?_) (E7 S _)
 by_cases w0:w=0\/(w=1/\streams=0)
 ·rw[Ze w0];refine b8 (aM (S1:=S) ?_ (show _=Res.ok (Fl.rt (.tup [.str "value",.int _])) S from aH (by(repeat' done))));rcases w0 with rfl|⟨rfl,rfl⟩
  ·exact qK (t_k (by(repeat' done)) rfl)
  ·exact cZ (t_k (S1:=S) (by(repeat' done)) rfl) (iy (t_k (S1:=S) (by(repeat' done)) rfl) (t_k (by(repeat' done)) rfl))
 ·rw[Zg w0];refine ak (aD (S1:=S) ?_ aC) ?_
  ·by_cases z:w=0
   ·exact(w0 (.inl z)).elim
   ·by_cases z1:w=1
    ·have hs2:¬(streams=0):=λq=>w0 (.inr ⟨z1,q⟩)
     exact cZ (t_k (S1:=S) (by(repeat' done)) (Qo z)) (iy (t_k (S1:=S) (by(repeat' done)) (QB.mpr z1)) (t_k (by(repeat' done)) (by simp[hs2])))
    ·exact cZ (t_k (S1:=S) (by(repeat' done)) (Qo z)) (nW (t_k (by(repeat' done)) (Qo z1)))
  ·by_cases w1:w=1
   ·have hs':(0:Int)<streams:=by have:¬streams=0:=λq=>w0 (.inr ⟨w1,q⟩); omega
    have m2:=M.ok (sub:=sub) (n:=n) (S:=S) ns (k:=at' + 1) (m:=streams) a1 hs';have r2:=toNat_cast (M.rng ns (at' + 1) hs').1;rw[Ze w1];refine b8 (aM (S1:=S) (t_k (by(repeat' done)) (QB.mpr w1)) ?_);show _=Res.ok (Fl.rt (.tup [.str "input",.int _])) S;rw[r2];exact aH (by(repeat' done))
   ·rw[Zg w1];have t3:=toNat_cast r3.1;generalize hv:mx ns (at' + 1) many=v at m3 r3 t3;refine ak (aD (S1:=S) (t_k (by(repeat' done)) (Qo w1)) aC) (ak (aI (d:=.int v) (S1:=S) (by(repeat' done))) ?_)
    by_cases w2:v.toNat<own/\w<5
    ·rw[Ze w2];refine b8 (aM (S1:=S) (iy (t_k (S1:=S) (by(repeat' done)) (Zj (by omega))) (t_k (by(repeat' done)) (Zj w2.2))) ?_);show _=Res.ok (Fl.rt (.tup [.str "work",.int _,.int 0])) S;rw[t3];exact aH (by(repeat' done))
    ·rw[Zg w2];refine ak (aD (S1:=S) ?_ aC) ?_
     ·by_cases w3:v<own
      ·exact iy (t_k (S1:=S) (by(repeat' done)) (Zj w3)) (t_k (by(repeat' done)) (Zs λz=>w2 ⟨by omega,z⟩))
      ·exact nW (t_k (by(repeat' done)) (Zs w3))
     ·show _=Res.ok (Fl.rt (.tup [.str "work",.int _,.int _])) S;rw[t3,toNat_cast (show 0<=1+mx ns (at' + 2) 3 by omega)];exact aH (by(repeat' done))
theorem EU(M:Mix P mx)(ns:WE)(at':Int){streams many own:Nat}(hm:0<many):(eU mx ns at' streams many own).WF own many streams:=by
 have r1:=M.rng ns (at' + 1) (show(0:Int)<9973 by decide);have r3:=M.rng ns (at' + 1) (show(0:Int)<many by omega);have r4:=M.rng ns (at' + 2) (show(0:Int)<3 by decide);unfold eU
 by_cases w0:mx ns at' 7=0\/(mx ns at' 7=1/\streams=0)
 ·rw[Ze w0]; exact⟨r1.1,by omega⟩
 ·rw[Zg w0]
  by_cases w1:mx ns at' 7=1
  ·rw[Ze w1];have hs:streams≠0:=λz=>w0 (.inr ⟨w1,z⟩)
   have r2:=M.rng ns (at' + 1) (show(0:Int)<streams by omega);show _<streams;omega
  ·rw[Zg w1];split
   ·rename_i h; exact⟨by omega,by simpa using h.1⟩
   ·refine⟨by omega,?_⟩;rw[Zg (by omega)];omega
noncomputable def cM(i:Int):Int:=if i=0 then 2 else 5
noncomputable def dw(mx:List Int->Int->Int->Int)(ns:WE)(at':Int)(streams ncrews many own:Nat):Wk where
 crew:=(mx ns (at' + 7) ncrews).toNat
 long:=(1+mx ns (at' + 1) (cM (mx ns (at' + 2) 2))).toNat
 doing:=cF.getD (mx ns at' 5).toNat "plus"
 srcs:=(List.range (1+mx ns (at' + 2) 2).toNat).map λ(k:Nat)=>eU mx ns (at' + 3+3*(k:Int)) streams many own
 starts:=[mx ns (at' + 0) 9973,mx ns (at' + 5) 9973,mx ns (at' + 6) 9973]
theorem dY(k:Nat):au k=.int (k:Int):=rfl
theorem HE{i:Int}(h:0<=i/\i<2):atI [D.int 2,D.int 5] i=some (.int (cM i)):=by
 rcases(show i=0\/i=1 by omega) with rfl|rfl<;>rfl
theorem A0{i:Int}(h:0<=i/\i<5):atI [D.str "plus",D.str "less",D.str "times",D.str "least",D.str "greatest"] i=some (.str (cF.getD i.toNat "plus")):=by
 obtain⟨k,rfl⟩:=Int.eq_ofNat_of_zero_le h.1;rw[iP];have hk:k<5:=by omega
 exact(by decide:∀k:Fin 5,[D.str "plus",D.str "less",D.str "times",D.str "least",D.str "greatest"][k.1]?=some (.str (cF.getD ((k.1:Nat):Int).toNat "plus"))) ⟨k,hk⟩
theorem AA(h:HG P)(M:Mix P mx)(ns:WE){at':Int}{streams ncrews many own:Nat}(hat:0<=at')(hm:0<many)(hc:0<ncrews) :
  aj sub P (n+4) "_law_work" [.fro (ns.map .int),.int at',.tup [.int streams,.int ncrews,.int many],.int own] S=.ok (dw mx ns at' streams ncrews many own).toD S:=by
 have r2:=M.rng ns (at' + 2) (show(0:Int)<2 by decide);have rl:0<cM (mx ns (at' + 2) 2):=by unfold cM; split<;>decide
 have hn:(0:Int)<ncrews:=by omega
 have m (k m:Int) (hk:0<=k) (hm:0<m) (S:af):aj sub P (n+3) "_law_mixed" [.fro (ns.map .int),.int k,.int m] S=.ok (.int (mx ns k m)) S:=M.ok ns hk hm;have m2:=m (at' + 2) 2 (by omega) (by decide);have m0:=m at' 5 hat (by decide);have m7:=m (at' + 7) ncrews (by omega) hn;have m1:=m (at' + 1) (cM (mx ns (at' + 2) 2)) (by omega) rl;have hw:=A0 (M.rng ns at' (show(0:Int)<5 by decide));have h25:=HE r2
 have val:(dw mx ns at' streams ncrews many own).toD=.tup [.int (mx ns (at' + 7) ncrews),.int (1+mx ns (at' + 1) (cM (mx ns (at' + 2) 2))),.str (cF.getD (mx ns at' 5).toNat "plus"),
   .tup ((List.range (1+mx ns (at' + 2) 2).toNat).map λ(k:Nat)=>(eU mx ns (at' + 3+3*(k:Int)) streams many own).toD),.tup [.int (mx ns (at' + 0) 9973),.int (mx ns (at' + 5) 9973),.int (mx ns (at' + 6) 9973)]]:=by
  have e1:=toNat_cast (M.rng ns (at' + 7) hn).1;have e2:=toNat_cast (i:=1+mx ns (at' + 1) (cM (mx ns (at' + 2) 2))) (by have:=M.rng ns (at' + 1) rl; omega);unfold dw Wk.toD;rw[e1,e2,X3]; rfl
 have hcl:=(dw mx ns at' streams ncrews many own).cl;rw[val] at hcl ⊢;generalize hq:(1+mx ns (at' + 2) 2).toNat=q at hcl;have hq':(1+mx ns (at' + 2) 2)=(q:Int):=by omega
 obtain⟨x,loop⟩:=mD (sub:=sub) (cf:=aj sub P (n+3)) (i:=8) (j:=7) (l:=S.length)
   (it:=.iRng (.cs (.bin .add (.c (.int 1)) (.call "_law_mixed" (.cs (.v 0) (.cs (.bin .add (.v 1) (.c (.int 2))) (.cs (.c (.int 2)) .nl))))) .nl))
   (e:=.call "_law_source" (.cs (.v 0) (.cs (.bin .add (.bin .add (.v 1) (.c (.int 3))) (.bin .mul (.c (.int 3)) (.v 8))) (.cs (.v 4) (.cs (.v 6) (.cs (.v 3) .nl))))))
   (σ:=[some (.fro (ns.map .int)),some (.int at'),some (.tup [.int streams,.int ncrews,.int many]),some (.int own),some (.int streams),some (.int ncrews),some (.int many),some (.loc S.length),none,none,none,none])
   (S:=S++[.lst []]) (S1:=S++[.lst []]) (xs:=[]) (ks:=List.range q) (f:=au) (g:=λ(k:Nat)=>(eU mx ns (at' + 3+3*(k:Int)) streams many own).toD) (o:=none) (raw:=[])
   (gJ (by(repeat' (first|done|with_reducible exact m2 _))) hq' (by omega) dY) rfl (bQ _ _) (by decide) (Wv (by exact Qh 3)) (λ_=>rfl)
   (λk _ ys=>by
    have:=Jc (sub:=sub) (n:=n) (S:=List.set (S++[.lst []]) S.length (.lst ys)) h M ns (at':=at' + 3+3*(k:Int)) (streams:=streams) (many:=many) (own:=own) (by omega) hm;rw[dY]
    (repeat' done)) (by unfold aT; rw[ZS,Qp]; omega)
 rw[ir,XH] at loop
 have comp:∀(y:Option D) (d1 d2:D) (T:af),ev sub (aj sub P (n+3)) (.comp 2 (.call "_law_mixed" (.cs (.v 0) (.cs (.bin .add (.v 1) (.v 13)) (.cs (.c (.int 9973)) .nl)))) (.one 13) (.iSeq (.tup (.cs (.c (.int 0)) (.cs (.c (.int 5)) (.cs (.c (.int 6)) .nl))))) .nl)
   [some (.fro (ns.map .int)),some (.int at'),some (.tup [.int streams,.int ncrews,.int many]),some (.int own),some (.int streams),some (.int ncrews),some (.int many),some (.loc S.length),y,some d1,some d2,none] T =
   .ok (.loc T.length) (T++[.lst [.int (mx ns (at' + 0) 9973),.int (mx ns (at' + 5) 9973),.int (mx ns (at' + 6) 9973)]]):=λy d1 d2 T =>
  nu (ks:=[0,5,6]) (f:=D.int) (g:=λk=>.int (mx ns (at' + k) 9973)) (dR (x:=.tup [.int 0,.int 5,.int 6]) (by(repeat' done)) rfl) rfl (λk hk=>by
   have hk:0<=k:=by
    have:k=0\/k=5\/k=6:=by simpa using hk
    omega
   have:=m (at' + k) 9973 (by omega) (by decide) T
   (repeat' done)) (by decide)
 have go:∀(T:af),(S++.lst ((List.range q).map λ(k:Nat)=>(eU mx ns (at' + 3+3*(k:Int)) streams many own).toD)::T)[S.length]?=some (.lst ((List.range q).map λ(k:Nat)=>(eU mx ns (at' + 3+3*(k:Int)) streams many own).toD)):=λT=>dM S T _
 refine x_call h.work rfl (ak (wN (ds:=[.int streams,.int ncrews,.int many]) (r_v rfl) rfl) (ak (aI (br ah rfl)) (ak loop (ak (aI (by(repeat' (first|done|with_reducible exact m0 _))))
  (ak (aI (by(repeat' (first|done|with_reducible exact m2 _|with_reducible exact m1 _)))) (ak (aI (aL (aa (comp _ _ _ _) ah) kZ)) (aH (aR (aa (by(repeat' (first|done|with_reducible exact m7 _))) (aa (r_v rfl) (aa (r_v rfl) (aa (aL (aa (r_v rfl) ah) (fj (by rw[Zt,Zt,Zt]; exact go _))) (aa (r_v rfl) ah))))) rfl)))))))) (bf hcl (by rw[Zt,Zt,Zt]; exact bU _ _))
theorem Bx(M:Mix P mx)(ns:WE)(at':Int){streams ncrews many own:Nat}(hm:0<many)(hc:0<ncrews):(dw mx ns at' streams ncrews many own).WF own many streams ncrews:=by
 have r2:=M.rng ns (at' + 2) (show(0:Int)<2 by decide);have r5:=M.rng ns at' (show(0:Int)<5 by decide);have rl:0<cM (mx ns (at' + 2) 2)/\cM (mx ns (at' + 2) 2)<=5:=by unfold cM; split<;>decide
 have r1:=M.rng ns (at' + 1) rl.1;have r7:=M.rng ns (at' + 7) (show(0:Int)<ncrews by omega);refine⟨?_,⟨?_,?_⟩,?_,⟨?_,?_⟩,λs hs=>?_,rfl,λv hv=>?_⟩
 ·show(mx ns (at' + 7) ncrews).toNat<ncrews; omega
 ·show 1<=(1+mx ns (at' + 1) (cM (mx ns (at' + 2) 2))).toNat; omega
 ·show(1+mx ns (at' + 1) (cM (mx ns (at' + 2) 2))).toNat<=8; omega
 ·show cF.getD (mx ns at' 5).toNat "plus"∈cF;rw[Zu,Zb (show(mx ns at' 5).toNat<cF.length by show _<5; omega)];exact Xr _
 ·show 1<=((List.range (1+mx ns (at' + 2) 2).toNat).map _).length;rw[Zi,ZS]; omega
 ·show((List.range (1+mx ns (at' + 2) 2).toNat).map _).length<=3;rw[Zi,ZS]; omega
 ·obtain⟨k,_,rfl⟩:=ZP.mp hs;exact EU M ns _ hm
 ·have:∀k,0<=mx ns k 9973/\mx ns k 9973<=9972:=λk=>by have:=M.rng ns k (show(0:Int)<9973 by decide); omega
  have hv:v∈[mx ns (at' + 0) 9973,mx ns (at' + 5) 9973,mx ns (at' + 6) 9973]:=hv;simp at hv;rcases hv with rfl|rfl|rfl<;>exact this _
noncomputable def gO(mx:List Int->Int->Int->Int)(ns:WE)(at':Int)(k:Nat):Nat×Nat:=((1+mx ns (at' + 3+(k:Int)) 2).toNat,(1+mx ns (at' + 5+(k:Int)) 5/2).toNat)
noncomputable def cD(mx:List Int->Int->Int->Int)(ns:WE)(at':Int)(many:Nat):List Nat:=(List.range many).filter λk=>decide (0<mx ns (at' + 7+(k:Int)) 3)
noncomputable def cO(mx:List Int->Int->Int->Int)(ns:WE)(at' most:Int):Lp where
 streams:=(mx ns at' 3).toNat
 crews:=(List.range (1+mx ns (at' + 2) 2).toNat).map (gO mx ns at')
 works:=(List.range (1+mx ns (at' + 1) most).toNat).map λ(k:Nat)=>dw mx ns (at' + 7+9*(k:Int)) (mx ns at' 3).toNat (1+mx ns (at' + 2) 2).toNat (1+mx ns (at' + 1) most).toNat k
 outs:=if cD mx ns at' (1+mx ns (at' + 1) most).toNat=[] then[(1+mx ns (at' + 1) most).toNat-1] else cD mx ns at' (1+mx ns (at' + 1) most).toNat
theorem Ar(M:Mix P mx)(ns:WE){at' most:Int}{nc many:Nat}{os:List Nat}(hq:(1+mx ns (at' + 2) 2).toNat=nc)(hw:(1+mx ns (at' + 1) most).toNat=many)(ho:(if cD mx ns at' many=[] then[many-1] else cD mx ns at' many)=os):(cO mx ns at' most).toD =
  .tup [.int (mx ns at' 3),.tup ((List.range nc).map λ(k:Nat)=>bK (gO mx ns at' k)),.tup ((List.range many).map λ(k:Nat)=>(dw mx ns (at' + 7+9*(k:Int)) (mx ns at' 3).toNat nc many k).toD),.tup (os.map au)]:=by
 have e0:=toNat_cast (M.rng ns at' (show(0:Int)<3 by decide)).1;unfold cO Lp.toD;simp only[hq,hw,ho,e0,X3];rfl
theorem ym(h:HG P)(M:Mix P mx)(ns:WE){at' most:Int}(hat:0<=at')(hmo:0<most)(hmo2:most<=8) :
  aj sub P (n+5) "_law_loop" [.fro (ns.map .int),.int at',.int most] S=.ok (cO mx ns at' most).toD S:=by
 have r1:=M.rng ns (at' + 1) hmo;have r2:=M.rng ns (at' + 2) (show(0:Int)<2 by decide);have m (k m:Int) (hk:0<=k) (hm:0<m) (S:af):aj sub P (n+4) "_law_mixed" [.fro (ns.map .int),.int k,.int m] S=.ok (.int (mx ns k m)) S:=M.ok ns hk hm;have m0:=m at' 3 hat (by decide);have m1:=m (at' + 1) most (by omega) hmo;have m2:=m (at' + 2) 2 (by omega) (by decide);have e0:=toNat_cast (M.rng ns at' (show(0:Int)<3 by decide)).1;generalize hq:(1+mx ns (at' + 2) 2).toNat=nc;generalize hw:(1+mx ns (at' + 1) most).toNat=many;have hq':(1+mx ns (at' + 2) 2)=(nc:Int):=by omega
 have hw':(1+mx ns (at' + 1) most)=(many:Int):=by omega
 have hcl:=(cO mx ns at' most).cl;generalize ho:(if cD mx ns at' many=[] then[many-1] else cD mx ns at' many)=os;rw[Ar M ns hq hw ho] at hcl ⊢;generalize hs:(mx ns at' 3).toNat=streams at e0 hcl ⊢
 obtain⟨x,loop1⟩:=mD (sub:=sub) (cf:=aj sub P (n+4)) (i:=6) (j:=5) (l:=S.length) (it:=.iRng (.cs (.bin .add (.c (.int 1)) (.call "_law_mixed" (.cs (.v 0) (.cs (.bin .add (.v 1) (.c (.int 2))) (.cs (.c (.int 2)) .nl))))) .nl))
   (e:=.tup (.cs (.bin .add (.c (.int 1)) (.call "_law_mixed" (.cs (.v 0) (.cs (.bin .add (.bin .add (.v 1) (.c (.int 3))) (.v 6)) (.cs (.c (.int 2)) .nl))))) (.cs (.bin .add (.c (.int 1)) (.bin .fdiv (.call "_law_mixed" (.cs (.v 0) (.cs (.bin .add (.bin .add (.v 1) (.c (.int 5))) (.v 6)) (.cs (.c (.int 5)) .nl)))) (.c (.int 2)))) .nl)))
   (σ:=[some (.fro (ns.map .int)),some (.int at'),some (.int most),some (.int (mx ns at' 3)),some (.int (1+mx ns (at' + 1) most)),some (.loc S.length),none,none,none])
   (S:=S++[.lst []]) (S1:=S++[.lst []]) (xs:=[]) (ks:=List.range nc) (f:=au) (g:=λ(k:Nat)=>bK (gO mx ns at' k)) (o:=none) (raw:=[])
   (gJ (by(repeat' (first|done|with_reducible exact m2 _))) hq' (by omega) dY) rfl (bQ _ _) (by decide) (Wv (by exact Qh 2)) (λ_=>rfl)
   (λk _ ys=>by
    have q1:=m (at' + 3+(k:Int)) 2 (by omega) (by decide);have q2:=m (at' + 5+(k:Int)) 5 (by omega) (by decide);have g1:=M.rng ns (at' + 3+(k:Int)) (show(0:Int)<2 by decide);have g2:=M.rng ns (at' + 5+(k:Int)) (show(0:Int)<5 by decide);have t1:=toNat_cast (i:=1+mx ns (at' + 3+(k:Int)) 2) (by omega);have t2:=toNat_cast (i:=1+mx ns (at' + 5+(k:Int)) 5/2) (by omega);rw[dY];unfold bK gO;rw[t1,t2]
    (repeat' (first|done|with_reducible exact q1 _|with_reducible exact q2 _))) (by unfold aT; rw[ZS,Qp]; omega)
 rw[ir,XH] at loop1;generalize hcr:((List.range nc).map λ(k:Nat)=>bK (gO mx ns at' k))=cr at loop1 hcl ⊢;have hcrl:cr.length=nc:=by rw[<- hcr,Zi,ZS]
 obtain⟨y,loop2⟩:=mD (sub:=sub) (cf:=aj sub P (n+4)) (i:=6) (j:=7) (l:=(S++[Cell.lst cr]).length) (it:=.iRng (.cs (.v 4) .nl))
   (e:=.call "_law_work" (.cs (.v 0) (.cs (.bin .add (.bin .add (.v 1) (.c (.int 7))) (.bin .mul (.c (.int 9)) (.v 6))) (.cs (.tup (.cs (.v 3) (.cs (.bi .len (.cs (.v 5) .nl)) (.cs (.v 4) .nl)))) (.cs (.v 6) .nl)))))
   (σ:=[some (.fro (ns.map .int)),some (.int at'),some (.int most),some (.int (mx ns at' 3)),some (.int (1+mx ns (at' + 1) most)),some (.loc S.length),x,some (.loc (S++[Cell.lst cr]).length),none])
   (S:=(S++[.lst cr])++[.lst []]) (S1:=(S++[.lst cr])++[.lst []]) (xs:=[]) (ks:=List.range many) (f:=au)
   (g:=λ(k:Nat)=>(dw mx ns (at' + 7+9*(k:Int)) streams nc many k).toD) (o:=none) (raw:=[])
   (gJ (by(repeat' done)) hw' (by omega) dY) rfl (bQ _ _) (by decide) (Wv (by exact Qh 2)) (λ_=>rfl)
   (λk _ ys=>by
    rw[ir,dY];have hd:=AA (sub:=sub) (n:=n) (S:=(S++[.lst cr])++[.lst ys]) h M ns (at':=at' + 7+9*(k:Int)) (streams:=streams) (ncrews:=nc) (many:=many) (own:=k) (by omega) (by omega) (by omega);rw[e0,<- hw'] at hd
    have hl:biD sub .len [.loc S.length] ((S++[.lst cr])++[.lst ys])=.ok (.int (nc:Int)) ((S++[.lst cr])++[.lst ys]):=by
     rw[<- hcrl]; exact nY (by rw[Zt]; exact dM _ _ _)
    (repeat' done)) (by unfold aT; rw[ZS,Qp]; omega)
 rw[ir,XH] at loop2;generalize hwk:((List.range many).map λ(k:Nat)=>(dw mx ns (at' + 7+9*(k:Int)) streams nc many k).toD)=wk at loop2 hcl ⊢;generalize hT:(S++[Cell.lst cr])++[Cell.lst wk]=T at loop2;have gc:∀U:af,(T++U)[S.length]?=some (.lst cr):=λU=>by rw[<- hT,Zt,Zt]; exact dM _ _ _
 have gw:∀U:af,(T++U)[(S++[Cell.lst cr]).length]?=some (.lst wk):=λU=>by rw[<- hT,Zt]; exact dM _ _ _
 have tk:∀U:af,(T++U).take S.length=S:=λU=>by rw[<- hT,Zt,Zt]; exact bU _ _
 have comp:=Al (sub:=sub) (cf:=aj sub P (n+4)) (k:=2) (i:=10) (el:=.v 10) (it:=.iRng (.cs (.v 4) .nl)) (tt:=.cmp .gt (.call "_law_mixed" (.cs (.v 0) (.cs (.bin .add (.bin .add (.v 1) (.c (.int 7))) (.v 10)) (.cs (.c (.int 3)) .nl)))) (.c (.int 0)))
   (σ:=[some (.fro (ns.map .int)),some (.int at'),some (.int most),some (.int (mx ns at' 3)),some (.int (1+mx ns (at' + 1) most)),some (.loc S.length),y,some (.loc (S++[Cell.lst cr]).length),none]) (S:=T) (S1:=T) (s:=⟨(List.range many).map au,none,[]⟩) (g:=id) (p:=λd=>match d with|.int k=>decide (0<mx ns (at' + 7+k) 3)|_=>false) rfl
   (gJ (by(repeat' done)) hw' (by omega) dY) rfl
   (λd hd=>by
    obtain⟨k,_,rfl⟩:=ZP.mp hd;have:=m (at' + 7+(k:Int)) 3 (by omega) (by decide) T;rw[dY]
    (repeat' done))
   (λd hd _=>r_v rfl) (by unfold aT; rw[Zi,ZS]; omega)
 rw[List.map_id,List.filter_map,show List.filter ((λd=>match d with|.int k=>decide (0<mx ns (at' + 7+k) 3)|_=>false)∘au) (List.range many)=cD mx ns at' many from rfl] at comp;refine yN h.loop rfl (ak (aI (by(repeat' (first|done|with_reducible exact m0 _)))) (ak (aI (by(repeat' (first|done|with_reducible exact m1 _)))) (ak (aI (br ah rfl)) (ak loop1 (ak (aI (br ah rfl)) (ak loop2 (ak (aI comp) rfl))))))) ?_ hcl
 cases hu:cD mx ns at' many with
 | nil =>
  rw[hu,Ze rfl] at ho;subst ho;have t3:((many-1:Nat):Int)=1+mx ns (at' + 1) most-1:=by omega
  have hE:cmD .eq (.loc T.length) (.loc (T++[Cell.lst []]).length) ((T++[.lst []])++[.lst []])=.ok (.bl true) ((T++[.lst []])++[.lst []]):=tZ (xs:=[]) (by rw[Zt]; exact dM _ _ _) (bQ _ _);refine⟨_,ak (aM (aY (bE (r_v rfl) (br ah rfl) hE)) (aI (by(repeat' done)))) (aH (aR (aa (r_v rfl) (aa (aL (aa (r_v rfl) ah) (fj ?_)) (aa (aL (aa (r_v rfl) ah) (fj ?_)) (aa (aL (aa (r_v rfl) ah) (fj ?_)) ah)))) rfl)),?_⟩
  ·rw[Zt,Zt]; exact gc _
  ·rw[Zt,Zt]; exact gw _
  ·rw[ZT,dY,t3]; exact bQ _ _
  ·rw[Zt,Zt]; exact tk _
 | cons a r =>
  rw[hu,Zg (by intro z; cases z)] at ho;subst ho;have hE:cmD .eq (.loc T.length) (.loc (T++[Cell.lst ((a::r).map au)]).length) ((T++[.lst ((a::r).map au)])++[.lst []])=.ok (.bl false) ((T++[.lst ((a::r).map au)])++[.lst []]):=tZ (xs:=(a::r).map au) (by rw[Zt]; exact dM _ _ _) (bQ _ _);refine⟨_,ak (aD (aY (bE (r_v rfl) (br ah rfl) hE)) aC) (aH (aR (aa (r_v rfl) (aa (aL (aa (r_v rfl) ah) (fj ?_)) (aa (aL (aa (r_v rfl) ah) (fj ?_)) (aa (aL (aa (r_v rfl) ah) (fj ?_)) ah)))) rfl)),?_⟩
  ·rw[Zt]; exact gc _
  ·rw[Zt]; exact gw _
  ·rw[Zt]; exact dM _ _ _
  ·rw[Zt]; exact tk _
theorem uG(p:Nat->Bool)(many:Nat):∀(k c:Nat),k+c<=many->dX many k ((List.range' k c).filter p)
 | k,0,_=>trivial
 | k,c+1,h=>by
  rw[List.range'_succ,List.filter_cons];have:=uG p many (k+1) c (by omega);split
  ·exact⟨Zn _,by omega,this⟩
  ·have low:∀(l:List Nat) (a b:Nat),a<=b->dX many b l->dX many a l:=by
    intro l
    cases l with
    | nil=>intros; trivial
    | cons x r=>intro a b hab ⟨h1,h2,h3⟩; exact⟨by omega,h2,h3⟩
   exact low _ _ _ (QX _) this
theorem IV(M:Mix P mx)(ns:WE){at' most:Int}(hmo:0<most)(hmo2:most<=8):(cO mx ns at' most).WF:=by
 have r0:=M.rng ns at' (show(0:Int)<3 by decide);have r1:=M.rng ns (at' + 1) hmo;have r2:=M.rng ns (at' + 2) (show(0:Int)<2 by decide);have hw:(cO mx ns at' most).works.length=(1+mx ns (at' + 1) most).toNat:=by simp[cO]
 have hc:(cO mx ns at' most).crews.length=(1+mx ns (at' + 2) 2).toNat:=by simp[cO]
 refine⟨?_,?_,λc hcm=>?_,?_,λi w hi=>?_,?_,?_⟩
 ·show(mx ns at' 3).toNat<=6; omega
 ·rw[hc]; omega
 ·obtain⟨k,_,rfl⟩:=ZP.mp hcm;have q1:=M.rng ns (at' + 3+(k:Int)) (show(0:Int)<2 by decide);have q2:=M.rng ns (at' + 5+(k:Int)) (show(0:Int)<5 by decide);simp only[gO];omega
 ·rw[hw]; omega
 ·rw[hw,hc];have hi':i<(1+mx ns (at' + 1) most).toNat:=by rw[<- hw]; exact(Zf.mp hi).1
  have hi:((List.range (1+mx ns (at' + 1) most).toNat).map λ(k:Nat)=>dw mx ns (at' + 7+9*(k:Int)) (mx ns at' 3).toNat (1+mx ns (at' + 2) 2).toNat (1+mx ns (at' + 1) most).toNat k)[i]?=some w:=hi;rw[ZJ,List.getElem?_range hi'] at hi;cases hi;exact Bx M ns _ (by omega) (by omega)
 ·show 1<=(if cD mx ns at' (1+mx ns (at' + 1) most).toNat=[] then[(1+mx ns (at' + 1) most).toNat-1] else cD mx ns at' (1+mx ns (at' + 1) most).toNat).length;split
  ·simp
  ·rename_i h; exact List.length_pos_iff.mpr h
 ·rw[hw];show dX _ 0 (if cD mx ns at' (1+mx ns (at' + 1) most).toNat=[] then[(1+mx ns (at' + 1) most).toNat-1] else cD mx ns at' (1+mx ns (at' + 1) most).toNat);split
  ·exact⟨Xj _,by omega,trivial⟩
  ·unfold cD;rw[List.range_eq_range'];exact uG _ _ 0 _ (by omega)
end
end RL

namespace RL
open PySem EV GO
noncomputable def jW:Fn:=⟨1,5,(.seq (.set (.one 1) (.ix (.call "checked" (.cs (.v 0) .nl)) (.c (.int 2))))
 (.seq (.set (.one 2) (.lst .nl))
 (.seq (.forS (.many [3,4]) (.iEnum (.v 1))
  (.ex (.me .extend (.v 2) (.cs (.comp 2 (.tup (.cs (.ix (.v 6) (.c (.int 1))) (.cs (.v 3) (.cs (.ix (.v 6) (.c (.int 2))) .nl)))) (.one 6) (.iSeq (.ix (.v 4) (.c (.int 3)))) (.cmp .eq (.ix (.v 6) (.c (.int 0))) (.c (.str "work")))) .nl))))
 (.ret (.bi .sortedSet (.cs (.v 2) .nl))))))⟩
noncomputable def tupI(t:WE):D:=.tup (t.map .int)
noncomputable def gk(behind:Nat):Srs->Option (List Int)
 | .wrk w b=>some [(w:Int),(behind:Int),(b:Int)]
 | _=>none
noncomputable def aW:Nat->List Wk->List (List Int)
 | _,[]=>[]
 | k,w::r=>w.srcs.filterMap (gk k)++aW (k+1) r
theorem Gm{sub:Sub}{cf:Str->List D->M D}{σ:Sg}{S S1:af}{k i:Nat}{el it tt:E}{α:Type}{ks:List α}{f:α->D}{g:α->Option D}{o:Option Nat}{raw:WV}(hn:tt.bD=false)(hi:evI sub cf it σ S=.ok ⟨ks.map f,o,raw⟩ S1)(hs:aG ⟨ks.map f,o,raw⟩ S1=.ok () S1)
  (hp:∀a∈ks,evT sub cf tt ((σ++List.replicate k none).set i (some (f a))) S1=.ok (g a).isSome S1) (hg:∀a∈ks,∀d,g a=some d->ev sub cf el ((σ++List.replicate k none).set i (some (f a))) S1=.ok d S1) (hz:ks.length<=aT) :
  ev sub cf (.comp k el (.one i) it tt) σ S=.ok (.loc S1.length) (S1++[.lst (ks.filterMap g)]):=by
 rw[fX,hi];simp only[Res.aq]
 have:=n_ (s:=⟨ks.map f,o,raw⟩) (f:=f) (fn:=λd=>aO (.one i) d (σ++List.replicate k none)>>=λσ'=>(if tt.bD=true then pure true else evT sub cf tt σ')>>=λb=>if b=true then ev sub cf el σ'>>=λy=>pure (some y) else pure none) (g:=g) (S:=S1) hs (ks:=ks) (λd hd=>by
  simp only[aA,gz,Res.aq,hn,Zw,ZK];rw[hp d hd]
  cases q:g d with
  | none=>rfl
  | some y=>simp[aA,hg d hd y q])
 rw[eY this];simp only[Res.aq];rw[Ze (show fits (ks.filterMap g).length=true from Zj (Xm (List.length_filterMap_le _ _) hz))]
theorem kR:∀(ws:List Wk) (k i:Nat) (h:i<ws.length),aW k (ws.take (i+1))=aW k (ws.take i)++(ws[i]).srcs.filterMap (gk (k+i))
 | w::r,k,0,_=>by simp[aW]
 | w::r,k,i+1,h=>by
  have:=kR r (k+1) i (by simpa using h);simp only[List.take_succ_cons,aW,List.getElem_cons_succ];rw[this,Zt,show k+1+i=k+(i+1) by omega]
theorem pK:∀(ws:List Wk) (k:Nat),(∀w∈ws,w.srcs.length<=3)->(aW k ws).length<=3*ws.length
 | [],_,_=>Zn _
 | w::r,k,h=>by
  have h1:=pK r (k+1) λv hv=>h v (Zr _ hv)
  have h2:=h w Zp;have h3:(w.srcs.filterMap (gk k)).length<=w.srcs.length:=List.length_filterMap_le _ _;simp only[aW,ZG,Z0];omega
theorem jm:∀{ws:List Wk} {k:Nat} {t:WE},t∈aW k ws->∃i w b x,ws[i]?=some w/\Srs.wrk x b∈w.srcs/\t=[(x:Int),((k+i:Nat):Int),(b:Int)]
 | w::r,k,t,h=>by
  rcases ZQ.mp h with h|h
  ·obtain⟨s,hs,e⟩:=Qn.mp h
   cases s with
   | wrk x b=>cases e; exact⟨0,w,b,x,rfl,hs,rfl⟩
   | _=>cases e
  ·obtain⟨i,v,b,x,h1,h2,h3⟩:=jm h;exact⟨i+1,v,b,x,h1,h2,by rw[h3,show k+1+i=k+(i+1) by omega]⟩
theorem allI(t:WE):allInts (t.map .int)=some t:=by
 induction t with
 | nil=>rfl
 | cons a r ih=>show(allInts (r.map .int)).map (a :: ·)=_; rw[ih]; rfl
theorem qk:∀ts:List (List Int),tups (ts.map tupI)=some ts
 | []=>rfl
 | t::r=>by
  show(match allInts (t.map .int),tups (r.map tupI) with|some t,some q=>some (t::q)|_,_=>none)=_;rw[allI,qk r]
theorem nQ(t:WE):D.lows 0 (t.map .int)=true:=by
 induction t with
 | nil=>rfl
 | cons a r ih=>show(D.low 0 (.int a)&&D.lows 0 (r.map .int))=true; rw[ih]; rfl
theorem EM(ts:WJ):D.lows 0 (ts.map tupI)=true:=by
 induction ts with
 | nil=>rfl
 | cons t r ih=>show(D.lows 0 (t.map .int)&&D.lows 0 (r.map tupI))=true; rw[nQ,ih]; rfl
section
variable{sub:Sub}{P:Prg}{n:Nat}{S:af}
theorem CA{cf:Str->List D->M D}{x0 x1 x2:Option D}{i:Nat}{w:Wk}{T:af}(hw:w.srcs.length<=3) :
  ev sub cf (.comp 2 (.tup (.cs (.ix (.v 6) (.c (.int 1))) (.cs (.v 3) (.cs (.ix (.v 6) (.c (.int 2))) .nl)))) (.one 6) (.iSeq (.ix (.v 4) (.c (.int 3)))) (.cmp .eq (.ix (.v 6) (.c (.int 0))) (.c (.str "work"))))
   [x0,x1,x2,some (.int (i:Int)),some w.toD] T=.ok (.loc T.length) (T++[.lst ((w.srcs.filterMap (gk i)).map tupI)]):=by
 have h:=Gm (sub:=sub) (cf:=cf) (k:=2) (i:=6) (el:=.tup (.cs (.ix (.v 6) (.c (.int 1))) (.cs (.v 3) (.cs (.ix (.v 6) (.c (.int 2))) .nl)))) (it:=.iSeq (.ix (.v 4) (.c (.int 3)))) (tt:=.cmp .eq (.ix (.v 6) (.c (.int 0))) (.c (.str "work")))
  (σ:=[x0,x1,x2,some (.int (i:Int)),some w.toD]) (S:=T) (S1:=T) (ks:=w.srcs) (f:=Srs.toD) (g:=λs=>(gk i s).map tupI) (o:=none) (raw:=w.srcs.map Srs.toD) rfl (dR (ay (r_v rfl) r_c (aB rfl)) rfl) rfl
  (λs _=>by
   cases s with
   | val v=>exact aY (bE (ay (r_v rfl) r_c (aB rfl)) r_c rfl)
   | inp k=>exact aY (bE (ay (r_v rfl) r_c (aB rfl)) r_c rfl)
   | wrk x b=>exact aY (bE (ay (r_v rfl) r_c (aB rfl)) r_c rfl))
  (λs _ d hd=>by
   cases s with
   | val v=>cases hd
   | inp k=>cases hd
   | wrk x b =>
    cases hd;exact aR (aa (ay (r_v rfl) r_c (aB rfl)) (aa (r_v rfl) (aa (ay (r_v rfl) r_c (aB rfl)) ah))) rfl)
  (by unfold aT; omega)
 rw[h,List.map_filterMap]
theorem rz{T:af}{a b:Cell}{G:af}:(T++a::G).set T.length b=T++b::G:=by
 rw[List.set_append_right _ _ (Zn _),WA]; rfl
theorem rm{T:af}{a:Cell}{G:af}:(T++a::G)[T.length]?=some a:=by
 rw[ZI (Zn _),WA]; rfl
theorem Eb{T:af}{k:Nat}{ts:WJ}(hk:T[k]?=some (.lst (ts.map tupI)))(h1:ts.length<=18)(h2:(ts.all λt=>!t.isEmpty)=true):biD sub .sortedSet [.loc k] T=.ok (.loc T.length) (T++[.lst ((aQ ts).map tupI)]):=by
 show(cz (.loc k)>>=λds=>opt (tups ds)>>=λts=>guard (decide (ts.length<=18)&&ts.all λt=>!t.isEmpty) (alloc (.lst ((aQ ts).map λt=>.tup (t.map .int))))) T=_;have e:cz (.loc k) T=.ok (ts.map tupI) T:=gA hk;rw[aA,e];simp only[Res.aq];rw[aA,qk];simp only[iZ,Res.aq];rw[h2,Zj h1];rfl
theorem lg{T:af}{ds:WV}{m:Nat}(hm:S.length<=m)(ht:T.take S.length=S)(h:T[m]?=some (.lst ds))(hc:D.lows 0 ds=true):leave S (.loc m) T=.ok (.loc S.length) (S++[.lst ds]):=by
 unfold leave;rw[Ze ht,Zg (by show ¬decide (m<S.length)=true; simp; omega)];simp only[h];rw[Ze (show Cell.low S.length (.lst ds)=true from i7 (Xj _) hc)]
theorem pS(h:HB P)(hn:Has P "needs" jW){l:Lp}(hl:l.WF)(h6:l.works.length<=6):aj sub P (n+8) "needs" [l.toD] S=.ok (.loc S.length) (S++[.lst ((aQ (aW 0 l.works)).map tupI)]):=by
 have h3:∀w∈l.works,w.srcs.length<=3:=λw hw=>by
  obtain⟨i,hi⟩:=ZH hw;exact(hl.works i w hi).some.2
 have hnl:∀i,(aW 0 (l.works.take i)).length<=18:=λi=>by
  have:=pK (l.works.take i) 0 λw hw=>h3 w (We hw)
  rw[XZ] at this;omega
 have hnum:(num 0 (l.works.map Wk.toD)).length=l.works.length:=by rw[jQ,Zi]
 obtain⟨σ',T',e,x3,x4,G,rfl,rfl⟩:=jX (sub:=sub) (cf:=aj sub P (n+7)) (t:=.many [3,4]) (it:=.iEnum (.v 1)) (b:=.ex (.me .extend (.v 2) (.cs (.comp 2 (.tup (.cs (.ix (.v 6) (.c (.int 1))) (.cs (.v 3) (.cs (.ix (.v 6) (.c (.int 2))) .nl)))) (.one 6) (.iSeq (.ix (.v 4) (.c (.int 3)))) (.cmp .eq (.ix (.v 6) (.c (.int 0))) (.c (.str "work")))) .nl)))
  (σ:=[some l.toD,some (.tup (l.works.map Wk.toD)),some (.loc S.length),none,none]) (S:=S++[.lst []]) (S1:=S++[.lst []]) (s:=⟨num 0 (l.works.map Wk.toD),none,l.works.map Wk.toD⟩)
  (λi σ T=>∃x3 x4 G,σ=[some l.toD,some (.tup (l.works.map Wk.toD)),some (.loc S.length),x3,x4]/\T=S++.lst ((aW 0 (l.works.take i)).map tupI)::G)
  (by simp) ⟨none,none,[],rfl,rfl⟩ (λ_ _ _ _=>rfl) (λi hi σ T ⟨x3,x4,G,hσ,hT⟩=>by
   subst hσ; subst hT;have hi':i<l.works.length:=by rw[<- hnum]; exact hi
   have hit:(num 0 (l.works.map Wk.toD))[i]=.tup [.int (i:Int),(l.works[i]).toD]:=by
    rw[rg]; simp
   show ∃σ' T',bC sub (aj sub P (n+7)) _ _ (num 0 (l.works.map Wk.toD))[i] _ _=_/\_;rw[hit];refine⟨_,_,iO rfl (bO (jL (r_v rfl) (aa (CA (h3 _ (Xr hi'))) ah) (yh (l:=S.length) (ds:=(aW 0 (l.works.take i)).map tupI) (k:=(S++.lst ((aW 0 (l.works.take i)).map tupI)::G).length) ?_ (bQ _ _) ?_))),some (.int (i:Int)),some (l.works[i]).toD,G++[.lst (((l.works[i]).srcs.filterMap (gk i)).map tupI)],rfl,?_⟩
   ·exact(ZF (by simp)).trans rm
   ·have h1:=hnl (i+1);rw[kR _ _ _ hi',ZG,XL] at h1;rw[Zi,Zi];unfold aT; omega
   ·rw[Zt,Qg,rz,<- Wf,kR _ _ _ hi',XL])
 rw[hnum,Zq] at e
 have ne:((aW 0 l.works).all λt=>!t.isEmpty)=true:=Z7.mpr λt ht=>by
  obtain⟨i,w,b,x,_,_,rfl⟩:=jm ht;rfl
 have hl18:=hnl l.works.length;rw[Zq] at hl18;refine x_call (ds:=[l.toD]) hn rfl (ak (aI (ay (ao (aa (r_v rfl) ah) (nV h hl)) r_c (aB rfl))) (ak (aI (br ah rfl)) (ak e (aH (aL (aa (r_v rfl) ah) (Eb rm hl18 ne)))))) (lg (by simp) ?_ (bQ _ _) (EM _));rw[Zt,bU]
end
end RL

namespace RL
open PySem EV GO
noncomputable def qy:Fn:=⟨1,1,(.seq (.ite (.not (.call "is_whole" (.cs (.v 0) (.cs (.c (.int 1)) (.cs (.c (.int 200)) .nl)))))
  (.rais "NoGap")
  .skip)
 (.ret (.v 0)))⟩
noncomputable def wJ:Fn:=⟨2,2,(.ret (.and (.call "is_row" (.cs (.v 0) (.cs (.v 1) (.cs (.v 1) .nl)))) (.bi .all (.cs (.comp 2 (.call "is_whole" (.cs (.v 3) (.cs (.c (.int 0)) (.cs (.c (.int 999)) .nl)))) (.one 3) (.iSeq (.v 0)) .nl) .nl))))⟩
noncomputable def tW:Fn:=⟨2,2,(.seq (.ite (.not (.call "is_plan" (.cs (.v 1) (.cs (.bi .len (.cs (.ix (.v 0) (.c (.int 2))) .nl)) .nl))))
  (.rais "NoPlan")
  .skip)
 (.ret (.v 1)))⟩
noncomputable def h_:Fn:=⟨4,5,(.seq (.set (.one 4) (.bin .add (.ix (.v 2) (.ix (.v 3) (.c (.int 0)))) (.ix (.ix (.ix (.v 0) (.c (.int 2))) (.ix (.v 3) (.c (.int 0)))) (.c (.int 1)))))
 (.ret (.bin .sub (.bin .add (.ix (.v 2) (.ix (.v 3) (.c (.int 1)))) (.bin .mul (.ix (.v 3) (.c (.int 2))) (.v 1))) (.v 4))))⟩
noncomputable def gu:Fn:=⟨4,9,(.seq (.set (.one 4) (.bin .mul (.lst (.cs (.c (.int 0)) .nl)) (.v 1)))
 (.seq (.forS (.many [5,6]) (.iZip (.cs (.v 2) (.cs (.ix (.v 0) (.c (.int 2))) .nl)))
  (.ite (.cmp .eq (.ix (.v 6) (.c (.int 0))) (.v 3))
  (.forS (.one 7) (.iRng (.cs (.ix (.ix (.ix (.v 0) (.c (.int 1))) (.v 3)) (.c (.int 1))) .nl))
  (.seq (.set (.one 8) (.bin .mod (.bin .add (.v 5) (.v 7)) (.v 1)))
 (.setIx (.v 4) (.v 8) (.bin .add (.ix (.v 4) (.v 8)) (.c (.int 1))))))
  .skip))
 (.ret (.v 4))))⟩
noncomputable def bump(xs:WE)(r:Nat):List Int:=xs.set r (xs.getD r 0+1)
noncomputable def bS(g b m:Nat)(xs:WE):List Int:=(List.range m).foldl (λxs j=>bump xs ((b+j)%g)) xs
noncomputable def ck(g crew bz:Nat):List (Nat×Wk)->List Int->List Int
 | [],xs=>xs
 | (b,w)::r,xs=>ck g crew bz r (if w.crew=crew then bS g b bz xs else xs)
theorem yq(xs:WE)(r:Nat):(bump xs r).length=xs.length:=XS
theorem oR(g b m:Nat)(xs:WE):bS g b (m+1) xs=bump (bS g b m xs) ((b+m)%g):=by
 unfold bS;rw[List.range_succ,List.foldl_append]; rfl
theorem mq(g b:Nat)(xs:WE):∀m,(bS g b m xs).length=xs.length
 | 0=>rfl
 | m+1=>by rw[oR,yq,mq g b xs m]
theorem m5(g crew bz:Nat)(b:Nat)(w:Wk):∀(ps:List (Nat×Wk)) (xs:WE),ck g crew bz (ps++[(b,w)]) xs=if w.crew=crew then bS g b bz (ck g crew bz ps xs) else ck g crew bz ps xs
 | [],xs=>rfl
 | (b',w')::r,xs=>m5 g crew bz b w r _
theorem tQ(g crew bz:Nat):∀(ps:List (Nat×Wk)) (xs:WE),(ck g crew bz ps xs).length=xs.length
 | [],xs=>rfl
 | (b,w)::r,xs=>by
  show(ck g crew bz r (if w.crew=crew then bS g b bz xs else xs)).length=_;rw[tQ g crew bz r];split
  ·exact mq ..
  ·rfl
section
variable{sub:Sub}{cf:Str->List D->M D}{σ:Sg}{S S1 S2 S3 S4:af}{x y z d:D}
theorem Ge{o i e:E}(he:ev sub cf e σ S=.ok d S1)(ho:ev sub cf o σ S1=.ok x S2)(hi:ev sub cf i σ S2=.ok y S3)(h:gm x y d S3=.ok z S4):exec sub cf (.setIx o i e) σ S=.ok (.nx σ) S4:=by
 show(ev sub cf e σ>>=λd=>ev sub cf o σ>>=λa=>ev sub cf i σ>>=λk=>gm a k d>>=λ_=>(pure (Fl.nx σ):M Fl)) S=_;rw[aA,he];simp only[Res.aq];rw[aA,ho];simp only[Res.aq];rw[aA,hi];simp only[Res.aq];rw[aA,h]; rfl
theorem yi{T:af}{ys:WV}{r:Nat}(h:r<ys.length):gm (.loc T.length) (.int (r:Int)) d (T++[.lst ys])=.ok .non (T++[.lst (ys.set r d)]):=by
 show aZ T.length (λxs=>match ixN xs.length (r:Int) with|some j=>put T.length (.lst (xs.set j d))|none=>bad) (T++[.lst ys])=_;unfold aZ;rw[bQ]
 have e:ixN ys.length (r:Int)=some r:=by
  unfold ixN;rw[Ze (Xy r),Ze (Int.ofNat_lt.mpr h),ZL]
 simp only[e];show Res.ok D.non ((T++[Cell.lst ys]).set T.length (Cell.lst (ys.set r d)))=_;rw[rz]
end
section
variable{sub:Sub}{P:Prg}{n:Nat}{S:af}
theorem jK{xs:WV}{k:Nat}{d:D}(h:xs[k]?=some d):atI xs (k:Int)=some d:=by
 unfold atI ixN;have hk:=(Zf.mp h).1;rw[Ze (Xy k),Ze (Int.ofNat_lt.mpr hk),ZL];exact h
noncomputable def fu(l:Lp)(g:Nat)(pl:List Nat)(x i b:Nat):Int:=((pl.getD i 0:Nat):Int)+(b:Int)*(g:Int)-(((pl.getD x 0:Nat):Int)+(((l.works.getD x ⟨0,0,"",[],[]⟩).long:Nat):Int))
theorem sG{pl:List Nat}{i:Nat}(h:i<pl.length):atI (pl.map au) (i:Int)=some (.int ((pl.getD i 0:Nat):Int)):=jK (by rw[ZJ,Zu,Zb h]; rfl)
theorem Jk{l:Lp}{i:Nat}(h:i<l.works.length):atI (l.works.map Wk.toD) (i:Int)=some (l.works.getD i ⟨0,0,"",[],[]⟩).toD:=jK (by rw[ZJ,Zu,Zb h]; rfl)
theorem Fb(hw:Has P "waiting" h_){l:Lp}{g:Nat}{pl:List Nat}(hp:pl.length=l.works.length){x i b:Nat}(hx:x<l.works.length)(hi:i<l.works.length)(hb:b<=3) :
  aj sub P (n+1) "waiting" [l.toD,.int (g:Int),.tup (pl.map au),tupI [(x:Int),(i:Int),(b:Int)]] S=.ok (.int (fu l g pl x i b)) S :=
 x_call (ds:=[l.toD,.int (g:Int),.tup (pl.map au),tupI [(x:Int),(i:Int),(b:Int)]]) hw rfl (ak (aI (aJ (ay (r_v rfl) (ay (r_v rfl) r_c (aB rfl)) (aB (sG (by rw[hp]; exact hx)))) (ay (ay (ay (r_v rfl) r_c (aB rfl)) (ay (r_v rfl) r_c (aB rfl)) (aB (Jk hx))) r_c (aB rfl)) (eu _ _ _)))
  (aH (aJ (aJ (ay (r_v rfl) (ay (r_v rfl) r_c (aB rfl)) (aB (sG (by rw[hp]; exact hi)))) (aJ (ay (r_v rfl) r_c (aB rfl)) (r_v rfl) (iX ⟨by omega,by omega⟩)) (eu _ _ _)) (r_v rfl) (c9 _ _ _)))) (lB _ _)
noncomputable def kD:EV.S:=(.seq (.set (.one 8) (.bin .mod (.bin .add (.v 5) (.v 7)) (.v 1)))
 (.setIx (.v 4) (.v 8) (.bin .add (.ix (.v 4) (.v 8)) (.c (.int 1)))))
theorem nN{l:Lp}{k:Nat}{c:Nat×Nat}(h:l.crews[k]?=some c):atI (l.crews.map bK) (k:Int)=some (bK c):=jK (by rw[ZJ,h]; rfl)
theorem zO{cf:Str->List D->M D}{l:Lp}{g b crew:Nat}{c:Nat×Nat}{D2 D6:D}{A:af}{xs:WE}{x7 x8:Option D}(hc:l.crews[crew]?=some c)(hb:c.2<=4)(hg:0<g)(hx:xs.length=g) :
  ∃x7' x8',exec sub cf (.forS (.one 7) (.iRng (.cs (.ix (.ix (.ix (.v 0) (.c (.int 1))) (.v 3)) (.c (.int 1))) .nl)) kD) [some l.toD,some (.int (g:Int)),some D2,some (.int (crew:Int)),some (.loc A.length),some (.int (b:Int)),some D6,x7,x8] (A++[.lst (xs.map .int)]) =
   .ok (.nx [some l.toD,some (.int (g:Int)),some D2,some (.int (crew:Int)),some (.loc A.length),some (.int (b:Int)),some D6,x7',x8']) (A++[.lst ((bS g b c.2 xs).map .int)]):=by
 obtain⟨σ',T',e,x7',x8',rfl,rfl⟩:=jX (sub:=sub) (cf:=cf) (t:=.one 7) (it:=.iRng (.cs (.ix (.ix (.ix (.v 0) (.c (.int 1))) (.v 3)) (.c (.int 1))) .nl)) (b:=kD)
  (σ:=[some l.toD,some (.int (g:Int)),some D2,some (.int (crew:Int)),some (.loc A.length),some (.int (b:Int)),some D6,x7,x8]) (S:=A++[.lst (xs.map .int)]) (S1:=A++[.lst (xs.map .int)]) (s:=⟨(List.range c.2).map λ(i:Nat)=>.int (i:Int),none,[]⟩)
  (λj σ T=>∃x7 x8,σ=[some l.toD,some (.int (g:Int)),some D2,some (.int (crew:Int)),some (.loc A.length),some (.int (b:Int)),some D6,x7,x8]/\T=A++[.lst ((bS g b j xs).map .int)])
  (gJ (aa (ay (ay (ay (r_v rfl) r_c (aB rfl)) (r_v rfl) (aB (nN hc))) r_c (aB rfl)) ah) rfl (by omega) λ_=>rfl) ⟨x7,x8,rfl,rfl⟩ (λ_ _ _ _=>rfl) (λj hj σ T ⟨x7,x8,hσ,hT⟩=>by
   subst hσ; subst hT;have hlt:(b+j)%g<((bS g b j xs).map D.int).length:=by rw[Zi,mq,hx]; exact Xl _ hg
   have hlt':(b+j)%g<(bS g b j xs).length:=by rw[Zi] at hlt; exact hlt
   have hit:((List.range c.2).map λ(i:Nat)=>D.int (i:Int))[j]'hj=.int (j:Int):=by simp
   show ∃σ' T',bC sub cf (.one 7) kD (((List.range c.2).map λ(i:Nat)=>D.int (i:Int))[j]'hj) _ _=_/\_;rw[hit];have em:((b:Int)+(j:Int))%(g:Int)=(((b+j)%g:Nat):Int):=by rw[Q0,Int.natCast_add]
   have hm:opD .mod (.int ((b:Int)+(j:Int))) (.int (g:Int)) (A++[.lst ((bS g b j xs).map .int)])=.ok (.int (((b+j)%g:Nat):Int)) (A++[.lst ((bS g b j xs).map .int)]):=by rw[<- em]; exact fM (by omega)
   have ha:atI ((bS g b j xs).map D.int) (((b+j)%g:Nat):Int)=some (.int ((bS g b j xs).getD ((b+j)%g) 0)):=jK (by rw[ZJ,Zu,Zb hlt']; rfl);refine⟨_,_,eG (ak (aI (aJ (aJ (r_v rfl) (r_v rfl) (eu _ _ _)) (r_v rfl) hm)) (Ge (aJ (ay (r_v rfl) (r_v rfl) (mW ha)) r_c (eu _ _ _)) (r_v rfl) (r_v rfl) (yi hlt))),some (.int (j:Int)),some (.int (((b+j)%g:Nat):Int)),rfl,?_⟩;rw[oR];unfold bump;rw[List.map_set])
 refine⟨x7',x8',?_⟩;rw[e];simp
theorem xm{cf:Str->List D->M D}{σ:Sg}{S1:af}{es:E}{xs ys:WV}(hs:evs sub cf es σ S=.ok [.tup xs,.tup ys] S1):evI sub cf (.iZip es) σ S=.ok ⟨b9 xs ys,none,[]⟩ S1:=by
 rw[Fw,hs]; rfl
theorem zip_map{α β:Type}{f:α->D}{h:β->D}:∀(xs:List α) (ys:List β),b9 (xs.map f) (ys.map h)=(xs.zip ys).map λp=>.tup [f p.1,h p.2]
 | [],_=>rfl
 | _::_,[]=>rfl
 | x::r,y::q=>by
  show D.tup [f x,h y]::b9 (r.map f) (q.map h)=_;rw[zip_map r q]; rfl
theorem sF{A:af}{g:Nat}(hg:g<=1000):opD .mul (.loc A.length) (.int (g:Int)) (A++[.lst [.int 0]])=.ok (.loc (A++[Cell.lst [D.int 0]]).length) ((A++[.lst [.int 0]])++[.lst ((List.replicate g (0:Int)).map .int)]):=by
 show aZ A.length (λxs=>guard (decide (-(2^63)<=(g:Int))&&decide ((g:Int)<2^63)&&fits (xs.length*(g:Int).toNat)) (alloc (.lst (List.replicate (g:Int).toNat xs).flatten))) (A++[.lst [.int 0]])=_;unfold aZ;rw[bQ];have e1:decide (-(2^63)<=(g:Int))=true:=Zj (by omega);have e2:decide ((g:Int)<2^63)=true:=Zj (by omega);have e3:fits ([D.int 0].length*(g:Int).toNat)=true:=gE (by rw[ZL]; show 1*g<=1000; omega);simp only[e1,e2,e3,Ws]
 have e4:(List.replicate (g:Int).toNat [D.int 0]).flatten=(List.replicate g (0:Int)).map .int:=by
  rw[ZL,List.map_replicate];clear e3 e2 e1 hg
  induction g with
  | zero=>rfl
  | succ k ih=>rw[Z3,XU,ih,Z3]; rfl
 show alloc (.lst (List.replicate (g:Int).toNat [D.int 0]).flatten) (A++[.lst [.int 0]])=_;rw[e4]; rfl
theorem qU{a b:Nat}{T:af}:cmD .eq (.int (a:Int)) (.int (b:Int)) T=.ok (.bl (decide (a=b))) T:=by
 have e:eqD 12 T (.int (a:Int)) (.int (b:Int))=some (decide ((a:Int)=(b:Int))):=rfl
 have e2:decide ((a:Int)=(b:Int))=decide (a=b):=by
  by_cases h:a=b
  ·rw[Zj h,Zj (by omega)]
  ·rw[Zs h,Zs (by omega)]
 rw[<- e2]; rfl
theorem Ho(hB:Has P "busy_machines" gu){l:Lp}{g:Nat}(hg:0<g)(hg2:g<=1000){pl:List Nat}{crew:Nat}{c:Nat×Nat}(hc:l.crews[crew]?=some c)(hb:c.2<=4) :
  aj sub P (n+1) "busy_machines" [l.toD,.int (g:Int),.tup (pl.map au),.int (crew:Int)] S=.ok (.loc S.length) (S++[.lst ((ck g crew c.2 (pl.zip l.works) (List.replicate g 0)).map .int)]):=by
 generalize hA:S++[Cell.lst [D.int 0]]=A
 obtain⟨σ',T',e,x5,x6,x7,x8,rfl,rfl⟩:=jX (sub:=sub) (cf:=aj sub P n) (t:=.many [5,6]) (it:=.iZip (.cs (.v 2) (.cs (.ix (.v 0) (.c (.int 2))) .nl)))
  (b:=.ite (.cmp .eq (.ix (.v 6) (.c (.int 0))) (.v 3)) (.forS (.one 7) (.iRng (.cs (.ix (.ix (.ix (.v 0) (.c (.int 1))) (.v 3)) (.c (.int 1))) .nl)) kD) .skip)
  (σ:=[some l.toD,some (.int (g:Int)),some (.tup (pl.map au)),some (.int (crew:Int)),some (.loc A.length),none,none,none,none]) (S:=A++[.lst ((List.replicate g (0:Int)).map .int)]) (S1:=A++[.lst ((List.replicate g (0:Int)).map .int)])
  (s:=⟨(pl.zip l.works).map λp=>.tup [au p.1,p.2.toD],none,[]⟩)
  (λi σ T=>∃x5 x6 x7 x8,σ=[some l.toD,some (.int (g:Int)),some (.tup (pl.map au)),some (.int (crew:Int)),some (.loc A.length),x5,x6,x7,x8]/\T=A++[.lst ((ck g crew c.2 ((pl.zip l.works).take i) (List.replicate g 0)).map .int)])
  (by rw[<- zip_map]; exact xm (aa (r_v rfl) (aa (ay (r_v rfl) r_c (aB rfl)) ah))) ⟨none,none,none,none,rfl,rfl⟩ (λ_ _ _ _=>rfl) (λi hi σ T ⟨x5,x6,x7,x8,hσ,hT⟩=>by
   subst hσ; subst hT;have hi':i<(pl.zip l.works).length:=by simpa using hi
   show ∃σ' T',bC sub (aj sub P n) _ _ (((pl.zip l.works).map λp=>D.tup [au p.1,p.2.toD])[i]'hi) _ _=_/\_;rw[QA];have hs:=List.take_succ_eq_append_getElem hi';generalize (pl.zip l.works)[i]=p at hs;obtain⟨b,w⟩:=p
   by_cases hw:w.crew=crew
   ·obtain⟨x7',x8',e⟩:=zO (sub:=sub) (cf:=aj sub P n) (l:=l) (g:=g) (b:=b) (crew:=crew) (c:=c) (D2:=.tup (pl.map au)) (D6:=w.toD) (A:=A) (xs:=ck g crew c.2 ((pl.zip l.works).take i) (List.replicate g 0)) (x7:=x7) (x8:=x8) hc hb hg (by rw[tQ,Z9]);refine⟨_,_,iO rfl (aM (aY (bE (ay (r_v rfl) r_c (aB rfl)) (r_v rfl) (by rw[qU,Zj hw]))) e),_,_,_,_,rfl,?_⟩;rw[hs,m5,Ze hw]
   ·refine⟨_,_,iO rfl (aD (aY (bE (ay (r_v rfl) r_c (aB rfl)) (r_v rfl) (by rw[qU,Zs hw]))) aC),_,_,x7,x8,rfl,?_⟩;rw[hs,m5,Zg hw])
 rw[Zi,Zq] at e;have hlen:S.length<=A.length:=by rw[<- hA]; simp
 refine x_call (ds:=[l.toD,.int (g:Int),.tup (pl.map au),.int (crew:Int)]) hB rfl (ak (aI (aJ (br (aa r_c ah) rfl) (r_v rfl) (sF hg2))) (ak (by rw[hA]; exact e) (aH (r_v rfl)))) (lg hlen ?_ (bQ _ _) ?_)
 ·rw[<- hA,Zt,bU]
 ·exact nQ _
end
end RL

namespace RL
open PySem EV GO
noncomputable def iT:Fn:=⟨4,6,(.seq (.forS (.many [4,5]) (.iEnum (.call "busy_machines" (.cs (.v 0) (.cs (.v 1) (.cs (.v 2) (.cs (.v 3) .nl))))))
  (.ite (.cmp .gt (.v 5) (.ix (.ix (.ix (.v 0) (.c (.int 1))) (.v 3)) (.c (.int 0))))
  (.ret (.v 4))
  .skip))
 (.ret (.c .non)))⟩
noncomputable def cB(m:Int):Nat->List Int->Option Nat
 | _,[]=>none
 | k,x::r=>if x>m then some k else cB m (k+1) r
noncomputable def j7:EV.S:=.ite (.cmp .gt (.v 5) (.ix (.ix (.ix (.v 0) (.c (.int 1))) (.v 3)) (.c (.int 0)))) (.ret (.v 4)) .skip
theorem ud(t x:WE):∀r,x∈cg t r ↔ x=t\/x∈r
 | []=>by unfold cg; simp
 | u::r=>by
  unfold cg
  by_cases e:t=u
  ·rw[Ze e]; subst e; simp
  ·rw[Zg e]
   by_cases q:lexLe t u=true
   ·rw[Ze q]; simp
   ·rw[Zg q,Zm,ud t x r,Zm]; constructor
    ·rintro(h|h|h)
     ·exact .inr (.inl h)
     ·exact .inl h
     ·exact .inr (.inr h)
    ·rintro(h|h|h)
     ·exact .inr (.inl h)
     ·exact .inl h
     ·exact .inr (.inr h)
theorem oG(x:WE):∀ts,x∈aQ ts ↔ x∈ts
 | []=>Iff.rfl
 | t::r=>by
  show x∈cg t (aQ r) ↔ _;rw[ud,oG x r,Zm]
section
variable{sub:Sub}{P:Prg}{n:Nat}{S:af}
theorem mO{s:Src}{f:D->Sg->M Fl}{d y:D}{ds:WV}{σ:Sg}{S1:af}(hs:aG s S=.ok () S)(hb:f d σ S=.ok (.rt y) S1):forL s f (d::ds) σ S=.ok (.rt y) S1:=by
 rw[g9,hs,Res.aq,hb]; rfl
theorem lD{s:Src}{f:D->Sg->M Fl}{σ:Sg}(hs:aG s S=.ok () S):forL s f [] σ S=.ok (.nx σ) S:=by
 rw[iE,hs]; rfl
theorem sO{cf:Str->List D->M D}{s:Src}{T:af}{l:Lp}{crew:Nat}{c:Nat×Nat}{D1 D2:D}(hs:aG s T=.ok () T)(hc:l.crews[crew]?=some c):∀(xs:WE) (k:Nat) (x4 x5:Option D),
  (∃r,cB (c.1:Int) k xs=some r/\forL s (bC sub cf (.many [4,5]) j7) (num k (xs.map .int)) [some l.toD,some D1,some D2,some (.int (crew:Int)),x4,x5] T=.ok (.rt (.int (r:Int))) T) \/
  (cB (c.1:Int) k xs=none/\∃σ',forL s (bC sub cf (.many [4,5]) j7) (num k (xs.map .int)) [some l.toD,some D1,some D2,some (.int (crew:Int)),x4,x5] T=.ok (.nx σ') T)
 | [],k,x4,x5=>.inr ⟨rfl,_,lD hs⟩
 | x::r,k,x4,x5=>by
  have ht:evT sub cf (.cmp .gt (.v 5) (.ix (.ix (.ix (.v 0) (.c (.int 1))) (.v 3)) (.c (.int 0)))) [some l.toD,some D1,some D2,some (.int (crew:Int)),some (.int (k:Int)),some (.int x)] T=.ok (decide (x>(c.1:Int))) T :=
   aY (bE (r_v rfl) (ay (ay (ay (r_v rfl) r_c (aB rfl)) (r_v rfl) (aB (nN hc))) r_c (aB rfl)) (lK _ _ _))
  by_cases h:x>(c.1:Int)
  ·refine .inl ⟨k,by unfold cB; rw[Ze h],?_⟩;rw[Zj h] at ht;exact mO hs (iO rfl (aM ht (aH (r_v rfl))))
  ·rw[Zs h] at ht
   have e:cB (c.1:Int) k (x::r)=cB (c.1:Int) (k+1) r:=by
    show(if x>(c.1:Int) then some k else cB (c.1:Int) (k+1) r)=_;rw[Zg h]
   rw[e]
   have st:∀{RF},forL s (bC sub cf (.many [4,5]) j7) (num (k+1) (r.map .int)) [some l.toD,some D1,some D2,some (.int (crew:Int)),some (.int (k:Int)),some (.int x)] T=RF ->
     forL s (bC sub cf (.many [4,5]) j7) (num k ((x::r).map .int)) [some l.toD,some D1,some D2,some (.int (crew:Int)),x4,x5] T=RF:=λq=>gy hs (iO rfl (aD ht aC)) q
   rcases sO hs hc r (k+1) (some (.int (k:Int))) (some (.int x)) with⟨q,h1,h2⟩|⟨h1,σ',h2⟩
   ·exact .inl ⟨q,h1,st h2⟩
   ·exact .inr ⟨h1,σ',st h2⟩
noncomputable def Js:Option Nat->D
 | some r=>.int (r:Int)
 | none=>.non
theorem zP(hB:Has P "busy_machines" gu)(hC:Has P "crowded_rest" iT){l:Lp}{g:Nat}(hg:0<g)(hg2:g<=1000){pl:List Nat}{crew:Nat}{c:Nat×Nat}(hc:l.crews[crew]?=some c)(hb:c.2<=4) :
  aj sub P (n+2) "crowded_rest" [l.toD,.int (g:Int),.tup (pl.map au),.int (crew:Int)] S=.ok (Js (cB (c.1:Int) 0 (ck g crew c.2 (pl.zip l.works) (List.replicate g 0)))) S:=by
 generalize hxs:ck g crew c.2 (pl.zip l.works) (List.replicate g 0)=xs;have hbz:=Ho (sub:=sub) (n:=n) (S:=S) hB (l:=l) hg hg2 (pl:=pl) hc hb;rw[hxs] at hbz
 have hi:evI sub (aj sub P (n+1)) (.iEnum (.call "busy_machines" (.cs (.v 0) (.cs (.v 1) (.cs (.v 2) (.cs (.v 3) .nl)))))) [some l.toD,some (.int (g:Int)),some (.tup (pl.map au)),some (.int (crew:Int)),none,none] S=.ok ⟨num 0 (xs.map .int),some S.length,xs.map .int⟩ (S++[.lst (xs.map .int)]):=by
  rw[AH,ao (aa (r_v rfl) (aa (r_v rfl) (aa (r_v rfl) (aa (r_v rfl) ah)))) hbz,Res.aq,oS (bQ _ _)]; rfl
 have hs:aG ⟨num 0 (xs.map .int),some S.length,xs.map .int⟩ (S++[.lst (xs.map .int)])=.ok () (S++[.lst (xs.map .int)]):=by
  unfold aG;have e:listAt (S++[.lst (xs.map D.int)]) S.length=some (xs.map .int):=by unfold listAt; rw[bQ]
  simp only[e,decide_true]; rfl
 rcases sO (sub:=sub) (cf:=aj sub P (n+1)) (D1:=.int (g:Int)) (D2:=.tup (pl.map au)) hs hc xs 0 none none with⟨r,h1,h2⟩|⟨h1,σ',h2⟩
 ·rw[h1];exact x_call (ds:=[l.toD,.int (g:Int),.tup (pl.map au),.int (crew:Int)]) hC rfl (b8 (c_ hi h2)) (kO _ _ _)
 ·rw[h1];exact x_call (ds:=[l.toD,.int (g:Int),.tup (pl.map au),.int (crew:Int)]) hC rfl (ak (c_ hi h2) (aH r_c)) (bf rfl (bU _ _))
theorem iN{cf:Str->List D->M D}{σ:Sg}{a:E}{x:D}{S1:af}(h:ev sub cf a σ S=.ok x S1):evT sub cf (.notN a) σ S=.ok (!decide (x=.non)) S1:=by
 rw[qx,h]; rfl
noncomputable def lu:Fn:=⟨3,6,(.seq (.forS (.one 3) (.iSeq (.call "needs" (.cs (.v 0) .nl)))
  (.ite (.cmp .lt (.call "waiting" (.cs (.v 0) (.cs (.v 1) (.cs (.v 2) (.cs (.v 3) .nl))))) (.c (.int 0)))
  (.ret (.tup (.cs (.c (.str "need")) (.cs (.v 3) .nl))))
  .skip))
 (.seq (.forS (.one 4) (.iRng (.cs (.bi .len (.cs (.ix (.v 0) (.c (.int 1))) .nl)) .nl))
  (.seq (.set (.one 5) (.call "crowded_rest" (.cs (.v 0) (.cs (.v 1) (.cs (.v 2) (.cs (.v 4) .nl))))))
 (.ite (.notN (.v 5))
  (.ret (.tup (.cs (.c (.str "crew")) (.cs (.v 4) (.cs (.v 5) .nl)))))
  .skip)))
 (.ret (.c .non))))⟩
noncomputable def jj:EV.S:=.ite (.cmp .lt (.call "waiting" (.cs (.v 0) (.cs (.v 1) (.cs (.v 2) (.cs (.v 3) .nl))))) (.c (.int 0))) (.ret (.tup (.cs (.c (.str "need")) (.cs (.v 3) .nl)))) .skip
noncomputable def kE:EV.S:=.seq (.set (.one 5) (.call "crowded_rest" (.cs (.v 0) (.cs (.v 1) (.cs (.v 2) (.cs (.v 4) .nl)))))) (.ite (.notN (.v 5)) (.ret (.tup (.cs (.c (.str "crew")) (.cs (.v 4) (.cs (.v 5) .nl))))) .skip)
noncomputable def gK(l:Lp)(g:Nat)(pl:List Nat):List Int->Int
 | [x,i,b]=>fu l g pl x.toNat i.toNat b.toNat
 | _=>0
def Tri(n:Nat)(t:WE):Prop:=∃x i b:Nat,t=[(x:Int),(i:Int),(b:Int)]/\x<n/\i<n/\b<=3
theorem wU(hw:Has P "waiting" h_){s:Src}{T:af}{l:Lp}{g:Nat}{pl:List Nat}(hp:pl.length=l.works.length)(hs:aG s T=.ok () T):∀(ts:WJ) (x3:Option D),(∀t∈ts,Tri l.works.length t) ->
  (∃t,ts.find? (λt=>decide (gK l g pl t<0))=some t/\forL s (bC sub (aj sub P (n+1)) (.one 3) jj) (ts.map tupI) [some l.toD,some (.int (g:Int)),some (.tup (pl.map au)),x3,none,none] T=.ok (.rt (.tup [.str "need",tupI t])) T) \/
  (ts.find? (λt=>decide (gK l g pl t<0))=none/\∃x3',forL s (bC sub (aj sub P (n+1)) (.one 3) jj) (ts.map tupI) [some l.toD,some (.int (g:Int)),some (.tup (pl.map au)),x3,none,none] T=.ok (.nx [some l.toD,some (.int (g:Int)),some (.tup (pl.map au)),x3',none,none]) T)
 | [],x3,_=>.inr ⟨rfl,_,lD hs⟩
 | t::r,x3,h=>by
  obtain⟨x,i,b,rfl,h1,h2,h3⟩:=h t Zp;have ew:gK l g pl [(x:Int),(i:Int),(b:Int)]=fu l g pl x i b:=rfl;have hv:=Fb (sub:=sub) (n:=n) (S:=T) hw (g:=g) hp h1 h2 h3
  have ht:evT sub (aj sub P (n+1)) (.cmp .lt (.call "waiting" (.cs (.v 0) (.cs (.v 1) (.cs (.v 2) (.cs (.v 3) .nl))))) (.c (.int 0))) [some l.toD,some (.int (g:Int)),some (.tup (pl.map au)),some (tupI [(x:Int),(i:Int),(b:Int)]),none,none] T=.ok (decide (fu l g pl x i b<0)) T :=
   aY (bE (ao (aa (r_v rfl) (aa (r_v rfl) (aa (r_v rfl) (aa (r_v rfl) ah)))) hv) r_c (ku _ _ _))
  by_cases q:fu l g pl x i b<0
  ·rw[Zj q] at ht;exact .inl ⟨_,by rw[List.find?_cons,ew,Zj q],mO hs (eG (aM ht (aH (aR (aa r_c (aa (r_v rfl) ah)) rfl))))⟩
  ·rw[Zs q] at ht;rw[List.find?_cons,ew,Zs q]
   have st:∀{RF},forL s (bC sub (aj sub P (n+1)) (.one 3) jj) (r.map tupI) [some l.toD,some (.int (g:Int)),some (.tup (pl.map au)),some (tupI [(x:Int),(i:Int),(b:Int)]),none,none] T=RF ->
     forL s (bC sub (aj sub P (n+1)) (.one 3) jj) (([(x:Int),(i:Int),(b:Int)]::r).map tupI) [some l.toD,some (.int (g:Int)),some (.tup (pl.map au)),x3,none,none] T=RF:=λq=>gy hs (eG (aD ht aC)) q
   rcases wU hw hp hs r (some (tupI [(x:Int),(i:Int),(b:Int)])) (λu hu=>h u (Zr _ hu)) with⟨u,h1,h2⟩|⟨h1,x3',h2⟩
   ·exact .inl ⟨u,h1,st h2⟩
   ·exact .inr ⟨h1,x3',st h2⟩
noncomputable def cH(l:Lp)(g:Nat)(pl:List Nat)(k:Nat):Option Nat:=cB (((l.crews.getD k (0,0)).1:Nat):Int) 0 (ck g k (l.crews.getD k (0,0)).2 (pl.zip l.works) (List.replicate g 0))
noncomputable def cW(f:Nat->Option Nat):List Nat->Option (Nat×Nat)
 | []=>none
 | k::r=>match f k with
  | some x=>some (k,x)
  | none=>cW f r
theorem vU(hB:Has P "busy_machines" gu)(hC:Has P "crowded_rest" iT){s:Src}{T:af}{l:Lp}(hl:l.WF){g:Nat}(hg:0<g)(hg2:g<=1000){pl:List Nat}{D3:Option D}(hs:aG s T=.ok () T):∀(ks:List Nat) (x4 x5:Option D),(∀k∈ks,k<l.crews.length) ->
  (∃k r,cW (cH l g pl) ks=some (k,r)/\forL s (bC sub (aj sub P (n+2)) (.one 4) kE) (ks.map au) [some l.toD,some (.int (g:Int)),some (.tup (pl.map au)),D3,x4,x5] T=.ok (.rt (.tup [.str "crew",.int (k:Int),.int (r:Int)])) T) \/
  (cW (cH l g pl) ks=none/\∃σ',forL s (bC sub (aj sub P (n+2)) (.one 4) kE) (ks.map au) [some l.toD,some (.int (g:Int)),some (.tup (pl.map au)),D3,x4,x5] T=.ok (.nx σ') T)
 | [],x4,x5,_=>.inr ⟨rfl,_,lD hs⟩
 | k::r,x4,x5,h=>by
  have hk:=h k Zp;have hc:l.crews[k]?=some (l.crews.getD k (0,0)):=by rw[Zu,Zb hk]; rfl
  have hv:=zP (sub:=sub) (n:=n) (S:=T) hB hC hg hg2 (pl:=pl) hc (hl.crews _ (ZB hc)).2.2;have hset:=λ{x5:Option D}=>aI (sub:=sub) (cf:=aj sub P (n+2)) (σ:=[some l.toD,some (.int (g:Int)),some (.tup (pl.map au)),D3,some (.int (k:Int)),x5]) (i:=5) (ao (f:="crowded_rest") (aa (r_v (i:=0) rfl) (aa (r_v (i:=1) rfl) (aa (r_v (i:=2) rfl) (aa (r_v (i:=4) rfl) ah)))) hv)
  cases q:cH l g pl k with
  | some x =>
   refine .inl ⟨k,x,by show(match cH l g pl k with|some x=>some (k,x)|none=>cW (cH l g pl) r)=_; rw[q],?_⟩;rw[show cB _ _ _=some x from q] at hset;exact mO hs (eG (ak hset (aM (t_k (iN (x:=.int (x:Int)) (r_v rfl)) rfl) (aH (aR (aa r_c (aa (r_v rfl) (aa (r_v rfl) ah))) rfl)))))
  | none =>
   rw[show cB _ _ _=none from q] at hset
   have e:cW (cH l g pl) (k::r)=cW (cH l g pl) r:=by
    show(match cH l g pl k with|some x=>some (k,x)|none=>cW (cH l g pl) r)=_;rw[q]
   rw[e]
   have st:∀{RF},forL s (bC sub (aj sub P (n+2)) (.one 4) kE) (r.map au) [some l.toD,some (.int (g:Int)),some (.tup (pl.map au)),D3,some (.int (k:Int)),some .non] T=RF ->
     forL s (bC sub (aj sub P (n+2)) (.one 4) kE) ((k::r).map au) [some l.toD,some (.int (g:Int)),some (.tup (pl.map au)),D3,x4,x5] T=RF:=λq=>gy hs (eG (ak hset (aD (t_k (iN (x:=.non) (r_v rfl)) rfl) aC))) q
   rcases vU hB hC hl hg hg2 hs r (some (.int (k:Int))) (some .non) (λu hu=>h u (Zr _ hu)) with⟨k',r',h1,h2⟩|⟨h1,σ',h2⟩
   ·exact .inl ⟨k',r',h1,st h2⟩
   ·exact .inr ⟨h1,σ',st h2⟩
noncomputable def dQ(l:Lp)(g:Nat)(pl:List Nat):D:=match (aQ (aW 0 l.works)).find? (λt=>decide (gK l g pl t<0)) with
 | some t=>.tup [.str "need",tupI t]
 | none=>match cW (cH l g pl) (List.range l.crews.length) with
  | some (k,r)=>.tup [.str "crew",.int (k:Int),.int (r:Int)]
  | none=>.non
theorem B5{l:Lp}(hl:l.WF):∀t∈aQ (aW 0 l.works),Tri l.works.length t:=λt ht=>by
 obtain⟨i,w,b,x,h1,h2,rfl⟩:=jm ((oG t _).mp ht);have hw:=hl.works i w h1;have hi:=(Zf.mp h1).1;have:=hw.srcs _ h2;obtain⟨hb,hx⟩:=(show b<=3/\x<(if b=0 then i else l.works.length) from this)
 refine⟨x,i,b,by rw[XL],?_,hi,hb⟩;split at hx<;>omega
theorem G_(h:HB P)(hn:Has P "needs" jW)(hw:Has P "waiting" h_)(hB:Has P "busy_machines" gu)(hC:Has P "crowded_rest" iT)(hF:Has P "fault" lu)
  {l:Lp} (hl:l.WF) (h6:l.works.length<=6) {g:Nat} (hg:0<g) (hg2:g<=1000) {pl:List Nat} (hp:pl.length=l.works.length) :
  aj sub P (n+9) "fault" [l.toD,.int (g:Int),.tup (pl.map au)] S=.ok (dQ l g pl) S:=by
 have hnd:=pS (sub:=sub) (n:=n) (S:=S) h hn hl h6
 have hi:evI sub (aj sub P (n+8)) (.iSeq (.call "needs" (.cs (.v 0) .nl))) [some l.toD,some (.int (g:Int)),some (.tup (pl.map au)),none,none,none] S=.ok ⟨(aQ (aW 0 l.works)).map tupI,some S.length,(aQ (aW 0 l.works)).map tupI⟩ (S++[.lst ((aQ (aW 0 l.works)).map tupI)]) :=
  dR (ao (aa (r_v rfl) ah) hnd) (oS (bQ _ _))
 have hs:aG ⟨(aQ (aW 0 l.works)).map tupI,some S.length,(aQ (aW 0 l.works)).map tupI⟩ (S++[.lst ((aQ (aW 0 l.works)).map tupI)])=.ok () (S++[.lst ((aQ (aW 0 l.works)).map tupI)]):=by
  unfold aG;have e:listAt (S++[.lst ((aQ (aW 0 l.works)).map tupI)]) S.length=some ((aQ (aW 0 l.works)).map tupI):=by unfold listAt; rw[bQ]
  simp only[e,decide_true]; rfl
 unfold dQ;rcases wU (sub:=sub) (n:=n+7) hw (g:=g) hp hs (aQ (aW 0 l.works)) none (B5 hl) with⟨t,h1,h2⟩|⟨h1,x3,h2⟩
 ·rw[h1];exact x_call (ds:=[l.toD,.int (g:Int),.tup (pl.map au)]) hF rfl (b8 (c_ hi h2)) (bf (show(true&&(D.lows 0 (t.map .int)&&true))=true by rw[nQ]; rfl) (bU _ _))
 ·rw[h1]
  have hr:evI sub (aj sub P (n+8)) (.iRng (.cs (.bi .len (.cs (.ix (.v 0) (.c (.int 1))) .nl)) .nl)) [some l.toD,some (.int (g:Int)),some (.tup (pl.map au)),x3,none,none] (S++[.lst ((aQ (aW 0 l.works)).map tupI)])=.ok ⟨(List.range l.crews.length).map au,none,[]⟩ (S++[.lst ((aQ (aW 0 l.works)).map tupI)]) :=
   gJ (aa (aL (aa (ay (r_v rfl) r_c (aB rfl)) ah) cR) ah) (by rw[Zi]) (by have:=hl.ncrews; omega) λ_=>rfl
  rcases vU (sub:=sub) (n:=n+6) hB hC hl hg hg2 (pl:=pl) (D3:=x3) (T:=S++[.lst ((aQ (aW 0 l.works)).map tupI)]) (s:=⟨(List.range l.crews.length).map au,none,[]⟩) rfl (List.range l.crews.length) none none (λk hk=>ZZ.mp hk) with⟨k,r,h3,h4⟩|⟨h3,σ',h4⟩
  ·rw[h3];exact x_call (ds:=[l.toD,.int (g:Int),.tup (pl.map au)]) hF rfl (ak (c_ hi h2) (b8 (c_ hr h4))) (bf rfl (bU _ _))
  ·rw[h3];exact x_call (ds:=[l.toD,.int (g:Int),.tup (pl.map au)]) hF rfl (ak (c_ hi h2) (ak (c_ hr h4) (aH r_c))) (bf rfl (bU _ _))
end
end RL

namespace RL
open PySem EV GO
noncomputable def bG(l:Lp)(w:Wk):Nat:=max w.long (l.crews.getD w.crew (0,0)).2
noncomputable def bA(l:Lp):Nat->List Wk->List Nat
 | _,[]=>[]
 | t,w::r=>t::bA l (t+bG l w) r
noncomputable def b6(l:Lp):Nat->List Wk->Nat
 | t,[]=>t
 | t,w::r=>b6 l (t+bG l w) r
theorem iM(l:Lp):∀(ws:List Wk) (t:Nat),(bA l t ws).length=ws.length
 | [],_=>rfl
 | w::r,t=>by show(bA l _ r).length+1=_; rw[iM l r]; rfl
theorem nS(l:Lp):∀(ws:List Wk) (t:Nat),t<=b6 l t ws
 | [],_=>Zn _
 | w::r,t=>Xm (Xz _ _) (nS l r _)
theorem qA(l:Lp):∀(ws:List Wk) (t:Nat),(∀w∈ws,bG l w<=8)->b6 l t ws<=t+8*ws.length
 | [],_,_=>Zn _
 | w::r,t,h=>by
  have h1:=qA l r (t+bG l w) λv hv=>h v (Zr _ hv)
  have h2:=h w Zp;show b6 l (t+bG l w) r<=t+8*(r.length+1);omega
theorem qO(l:Lp):∀(ws:List Wk) (t i:Nat) (h:i<ws.length),bA l t (ws.take (i+1))=bA l t (ws.take i)++[b6 l t (ws.take i)]/\b6 l t (ws.take (i+1))=b6 l t (ws.take i)+bG l ws[i]
 | w::r,t,0,_=>⟨rfl,rfl⟩
 | w::r,t,i+1,h=>by
  obtain⟨h1,h2⟩:=qO l r (t+bG l w) i (by simpa using h);constructor
  ·show t::bA l (t+bG l w) (r.take (i+1))=t::(bA l (t+bG l w) (r.take i)++_);rw[h1]; rfl
  ·exact h2
theorem gW(l:Lp):∀(ws:List Wk) (t i:Nat) (w:Wk),ws[i]?=some w->∃b,(bA l t ws)[i]?=some b/\t<=b/\b+bG l w<=b6 l t ws/\∀j b',i<j->(bA l t ws)[j]?=some b'->b+bG l w<=b'
 | w::r,t,0,v,h=>by
  cases h;refine⟨t,rfl,Zn _,nS l r _,λj b' hj hb=>?_⟩;obtain⟨k,rfl⟩:∃k,j=k+1:=⟨j-1,by omega⟩
  have hb:(bA l (t+bG l w) r)[k]?=some b':=hb;have hk:k<r.length:=by rw[<- iM l r (t+bG l w)]; exact(Zf.mp hb).1
  obtain⟨c,h1,h2,_⟩:=gW l r (t+bG l w) k _ (Zb hk);rw[hb] at h1; cases h1;exact h2
 | w::r,t,i+1,v,h=>by
  obtain⟨b,h1,h2,h3,h4⟩:=gW l r (t+bG l w) i v h;refine⟨b,h1,by omega,h3,λj b' hj hb=>?_⟩;obtain⟨k,rfl⟩:∃k,j=k+1:=⟨j-1,by omega⟩
  exact h4 k b' (by omega) hb
def Low(t:Nat)(xs:WE):Prop:=∀r,xs.getD r 0<=1/\(t<=r->xs.getD r 0=0)
theorem zw{xs:WE}{i r:Nat}{v:Int}:(xs.set i v).getD r 0=if i=r/\r<xs.length then v else xs.getD r 0:=by
 rw[Zu,Zu,Wu]
 by_cases h:i=r
 ·subst h
  by_cases h2:i<xs.length
  ·simp[h2]
  ·simp[h2,XO (Nat.le_of_not_lt h2)]
 ·simp[h]
theorem sR{g t:Nat}{xs:WE}(h:Low t xs):∀m,t+m<=g->Low (t+m) (bS g t m xs)
 | 0,_=>h
 | m+1,hm=>by
  have ih:=sR (g:=g) h m (by omega);rw[oR,Nat.mod_eq_of_lt (by omega)];intro r;unfold bump;rw[zw]
  by_cases e:t+m=r/\r<(bS g t m xs).length
  ·rw[Ze e];have:=(ih (t+m)).2 (Zn _);exact⟨by omega,λhr=>by omega⟩
  ·rw[Zg e];refine⟨(ih r).1,λhr=>(ih r).2 (by omega)⟩
theorem Low.mono{t t':Nat}{xs:WE}(h:Low t xs)(e:t<=t'):Low t' xs:=λr=>⟨(h r).1,λq=>(h r).2 (by omega)⟩
theorem rO{l:Lp}{g crew:Nat}:∀(ws:List Wk) (t:Nat) (xs:WE),Low t xs->b6 l t ws<=g->Low g (ck g crew (l.crews.getD crew (0,0)).2 ((bA l t ws).zip ws) xs)
 | [],t,xs,h,e=>h.mono e
 | w::r,t,xs,h,e=>by
  have e':b6 l (t+bG l w) r<=g:=e;have h2:=nS l r (t+bG l w);show Low g (ck g crew (l.crews.getD crew (0,0)).2 ((bA l (t+bG l w) r).zip r) (if w.crew=crew then bS g t (l.crews.getD crew (0,0)).2 xs else xs));refine rO r (t+bG l w) _ ?_ e
  by_cases q:w.crew=crew
  ·rw[Ze q];have hle:(l.crews.getD crew (0,0)).2<=bG l w:=by rw[<- q]; exact Nat.le_max_right _ _
   exact(sR h _ (by omega)).mono (by omega)
  ·rw[Zg q]; exact h.mono (Xz _ _)
theorem wF{m:Int}:∀(xs:WE) (k:Nat),(∀x∈xs,x<=m)->cB m k xs=none
 | [],_,_=>rfl
 | x::r,k,h=>by
  show(if x>m then some k else cB m (k+1) r)=none;rw[Zg (by have:=h x Zp; omega)];exact wF r (k+1) λy hy=>h y (Zr _ hy)
theorem rF{f:Nat->Option Nat}:∀(ks:List Nat),(∀k∈ks,f k=none)->cW f ks=none
 | [],_=>rfl
 | k::r,h=>by
  show(match f k with|some x=>some (k,x)|none=>cW f r)=none;rw[h k Zp];exact rF r λj hj=>h j (Zr _ hj)
theorem E_{l:Lp}(hl:l.WF){g:Nat}(hg:b6 l 0 l.works<=g):dQ l g (bA l 0 l.works)=.non:=by
 have hn:(aQ (aW 0 l.works)).find? (λt=>decide (gK l g (bA l 0 l.works) t<0))=none:=by
  refine List.find?_eq_none.mpr λt ht=>?_
  obtain⟨i,w,b,x,h1,h2,rfl⟩:=jm ((oG t _).mp ht);rw[XL];have hi:=(Zf.mp h1).1;obtain⟨hb,hx⟩:=(show b<=3/\x<(if b=0 then i else l.works.length) from(hl.works i w h1).srcs _ h2)
  have hxn:x<l.works.length:=by split at hx<;>omega
  obtain⟨bx,p1,p2,p3,p4⟩:=gW l l.works 0 x _ (Zb hxn);obtain⟨bi,q1,_⟩:=gW l l.works 0 i w h1;have e1:(bA l 0 l.works).getD x 0=bx:=by rw[Zu,p1]; rfl
  have e2:(bA l 0 l.works).getD i 0=bi:=by rw[Zu,q1]; rfl
  have e3:l.works.getD x ⟨0,0,"",[],[]⟩=l.works[x]:=by rw[Zu,Zb hxn]; rfl
  have hs:(l.works[x]).long<=bG l l.works[x]:=Nat.le_max_left _ _
  have key:(0:Int)<=fu l g (bA l 0 l.works) x i b:=by
   unfold fu;rw[e1,e2,e3]
   by_cases b0:b=0
   ·subst b0;rw[Ze rfl] at hx;have:=p4 i bi hx q1;simp only[Int.natCast_zero,Int.zero_mul];omega
   ·have:(g:Int)<=(b:Int)*(g:Int):=by
     have h1:(1:Int)<=(b:Int):=by omega
     have h0:(0:Int)<=(g:Int):=by omega
     calc (g:Int)=1*(g:Int):=(Int.one_mul _).symm
      _<=(b:Int)*(g:Int):=Int.mul_le_mul_of_nonneg_right h1 h0
    omega
  have ew:gK l g (bA l 0 l.works) [(x:Int),(i:Int),(b:Int)]=fu l g (bA l 0 l.works) x i b:=rfl;rw[ew,Zs (by omega)];exact Zx
 have hc:cW (cH l g (bA l 0 l.works)) (List.range l.crews.length)=none:=by
  refine rF _ λk hk=>?_
  have hk:=ZZ.mp hk;have e:l.crews.getD k (0,0)=l.crews[k]:=by rw[Zu,Zb hk]; rfl
  have h1:=(hl.crews _ (Xr hk)).1.1;unfold cH
  have low:Low 0 (List.replicate g (0:Int)):=λr=>by
   have:(List.replicate g (0:Int)).getD r 0=0:=by
    rw[Zu,XD];split<;>rfl
   exact⟨by omega,λ_=>this⟩
  have B:=rO (l:=l) (g:=g) (crew:=k) l.works 0 _ low hg;refine wF _ 0 λx hx=>?_
  obtain⟨r,hr⟩:=ZH hx;have:=(B r).1;rw[Zu,hr] at this;have this:x<=1:=this;rw[e];omega
 unfold dQ;rw[hn,hc]
end RL

namespace RL
open PySem EV GO
noncomputable def vF:Fn:=⟨3,3,(.seq (.ex (.call "checked" (.cs (.v 0) .nl)))
 (.seq (.ex (.call "checked_gap" (.cs (.v 1) .nl)))
 (.ret (.call "fault" (.cs (.v 0) (.cs (.v 1) (.cs (.call "checked_plan" (.cs (.v 0) (.cs (.v 2) .nl))) .nl)))))))⟩
noncomputable def pP:Fn:=⟨1,5,(.seq (.set (.one 1) (.ix (.call "checked" (.cs (.v 0) .nl)) (.c (.int 1))))
 (.seq (.set (.one 2) (.lst .nl))
 (.seq (.set (.one 3) (.c (.int 0)))
 (.seq (.forS (.one 4) (.iSeq (.ix (.v 0) (.c (.int 2))))
  (.seq (.ex (.me .append (.v 2) (.cs (.v 3) .nl)))
 (.set (.one 3) (.bin .add (.v 3) (.bi .max (.cs (.ix (.v 4) (.c (.int 1))) (.cs (.ix (.ix (.v 1) (.ix (.v 4) (.c (.int 0)))) (.c (.int 1))) .nl)))))))
 (.ret (.tup (.cs (.v 3) (.cs (.bi .tuple (.cs (.v 2) .nl)) .nl))))))))⟩
set_option genInjectivity false in
structure HP(P:Prg):Prop where
 needs:Has P "needs" jW
 gap:Has P "checked_gap" qy
 isplan:Has P "is_plan" wJ
 plan:Has P "checked_plan" tW
 waiting:Has P "waiting" h_
 busy:Has P "busy_machines" gu
 crowded:Has P "crowded_rest" iT
 fault:Has P "fault" lu
 wrong:Has P "wrong" vF
section
variable{sub:Sub}{P:Prg}{n:Nat}{S:af}
theorem n8(pl:List Nat):D.lows 0 (pl.map au)=true:=by
 induction pl with
 | nil=>rfl
 | cons a r ih=>show(D.low 0 (au a)&&D.lows 0 (r.map au))=true; rw[ih]; rfl
theorem G8(h:HB P)(hp:HP P){g:Nat}(h1:1<=g)(h2:g<=200):aj sub P (n+2) "checked_gap" [.int (g:Int)] S=.ok (.int (g:Int)) S :=
 x_call (ds:=[.int (g:Int)]) hp.gap rfl (ak (aD (aX (k:=true) (bw (ao (aa (r_v rfl) (aa r_c (aa r_c ah))) (cN h.whole (Xx.mpr h1) (Xx.mpr h2))))) aC) (aH (r_v rfl))) (lB _ _)
theorem Gr(h:HB P)(hp:HP P){pl:List Nat}{m:Nat}(hl:pl.length=m)(hm:m<=1000)(ht:∀t∈pl,t<=999):aj sub P (n+2) "is_plan" [.tup (pl.map au),.int (m:Int)] S=.ok (.bl true) S:=by
 obtain⟨T,e⟩:=jh (sub:=sub) (cf:=aj sub P (n+1)) (σ:=[some (.tup (pl.map au)),some (.int (m:Int))]) (S:=S) (i:=3) (k:=2) (el:=.call "is_whole" (.cs (.v 3) (.cs (.c (.int 0)) (.cs (.c (.int 999)) .nl)))) (a:=.v 0) (l:=pl) (f:=au) (r_v rfl) (by omega)
  (λt hm=>ao (aa (r_v rfl) (aa r_c (aa r_c ah))) (cN h.whole (Xy t) (Xx.mpr (ht t hm))))
 exact x_call (ds:=[.tup (pl.map au),.int (m:Int)]) hp.isplan rfl (aH (er (ao (aa (r_v rfl) (aa (r_v rfl) (aa (r_v rfl) ah))) (gQ h.row m (by rw[Zi,hl]) (Int.le_refl _) (Int.le_refl _))) e)) (iR _ _ _)
theorem De(h:HB P)(hp:HP P){l:Lp}(hl8:l.works.length<=8){pl:List Nat}(hl:pl.length=l.works.length)(ht:∀t∈pl,t<=999):aj sub P (n+3) "checked_plan" [l.toD,.tup (pl.map au)] S=.ok (.tup (pl.map au)) S:=by
 have e:biD sub .len [.tup (l.works.map Wk.toD)] S=.ok (.int ((l.works.length:Nat):Int)) S:=by rw[cR,Zi]
 exact x_call (ds:=[l.toD,.tup (pl.map au)]) hp.plan rfl (ak (aD (aX (k:=true) (bw (ao (aa (r_v rfl) (aa (aL (aa (ay (r_v rfl) r_c (aB rfl)) ah) e) ah)) (Gr h hp hl (by omega) ht)))) aC) (aH (r_v rfl))) (bf (n8 pl) Zq)
theorem wo{a b:Nat}{T:af}:biD sub .max [.int (a:Int),.int (b:Int)] T=.ok (.int ((max a b:Nat):Int)) T:=by
 show Res.ok (D.int (if(b:Int)>(a:Int) then(b:Int) else(a:Int))) T=_
 by_cases h:(b:Int)>(a:Int)
 ·rw[Ze h,Nat.max_eq_right (by omega)]
 ·rw[Zg h,Nat.max_eq_left (by omega)]
theorem tw{l:Lp}(hl:l.WF){i:Nat}{w:Wk}(h:l.works[i]?=some w):l.crews[w.crew]?=some (l.crews.getD w.crew (0,0)):=by
 have:=(hl.works i w h).crew;rw[Zu,Zb this]; rfl
theorem Fo{l:Lp}(hl:l.WF):∀w∈l.works,bG l w<=8:=λw hw=>by
 obtain⟨i,hi⟩:=ZH hw;have h1:=(hl.works i w hi).long.2;have h2:=(hl.crews _ (ZB (tw hl hi))).2.2;unfold bG;omega
theorem Cb(h:HB P)(hq:Has P "plainly" pP){l:Lp}(hl:l.WF):aj sub P (n+8) "plainly" [l.toD] S=.ok (.tup [.int ((b6 l 0 l.works:Nat):Int),.tup ((bA l 0 l.works).map au)]) S:=by
 have hw8:=hl.nworks.2
 obtain⟨σ',T',e,x4,rfl,rfl⟩:=jX (sub:=sub) (cf:=aj sub P (n+7)) (t:=.one 4) (it:=.iSeq (.ix (.v 0) (.c (.int 2)))) (b:=.seq (.ex (.me .append (.v 2) (.cs (.v 3) .nl))) (.set (.one 3) (.bin .add (.v 3) (.bi .max (.cs (.ix (.v 4) (.c (.int 1))) (.cs (.ix (.ix (.v 1) (.ix (.v 4) (.c (.int 0)))) (.c (.int 1))) .nl))))))
  (σ:=[some l.toD,some (.tup (l.crews.map bK)),some (.loc S.length),some (.int 0),none]) (S:=S++[.lst []]) (S1:=S++[.lst []]) (s:=⟨l.works.map Wk.toD,none,l.works.map Wk.toD⟩)
  (λi σ T=>∃x4,σ=[some l.toD,some (.tup (l.crews.map bK)),some (.loc S.length),some (.int ((b6 l 0 (l.works.take i):Nat):Int)),x4]/\T=S++[.lst ((bA l 0 (l.works.take i)).map au)])
  (dR (ay (r_v rfl) r_c (aB rfl)) rfl) ⟨none,rfl,rfl⟩ (λ_ _ _ _=>rfl) (λi hi σ T ⟨x4,hσ,hT⟩=>by
   subst hσ; subst hT;have hi':i<l.works.length:=by simpa using hi
   have hit:(l.works.map Wk.toD)[i]'hi=(l.works[i]).toD:=QA _;show ∃σ' T',bC sub (aj sub P (n+7)) _ _ ((l.works.map Wk.toD)[i]'hi) _ _=_/\_;rw[hit];have hc:=tw hl (Zb hi');obtain⟨p1,p2⟩:=qO l l.works 0 i hi';have hz:((bA l 0 (l.works.take i)).map au).length<=1000000:=by rw[Zi,iM,XZ]; omega
   refine⟨_,_,eG (ak (bO (jL (r_v rfl) (aa (r_v rfl) ah) (wK (S:=S) (T:=[]) hz))) (aI (aJ (r_v rfl) (aL (aa (ay (r_v rfl) r_c (aB rfl)) (aa (ay (ay (r_v rfl) (ay (r_v rfl) r_c (aB rfl)) (aB (nN hc))) r_c (aB rfl)) ah)) wo) (eu _ _ _)))),some (l.works[i]).toD,?_,?_⟩
   ·rw[p2]; rfl
   ·rw[p1,Wf]; rfl)
 rw[Zi,Zq] at e;exact x_call (ds:=[l.toD]) hq rfl (ak (aI (ay (ao (aa (r_v rfl) ah) (nV h hl)) r_c (aB rfl))) (ak (aI (br ah rfl)) (ak (aI r_c) (ak e (aH (aR (aa (r_v rfl) (aa (aL (aa (r_v rfl) ah) kZ) ah)) rfl)))))) (bf (show(true&&(D.lows 0 ((bA l 0 l.works).map au)&&true))=true by rw[n8]; rfl) (bU _ _))
end
end RL

namespace RB
open PySem EV GO
open RL (eT i6 cX ow mS nC oQ lY kJ lN lM lq lA Has aP HB short cF)
mutual
noncomputable def fit(n:Nat):D->Bool
 | .tup ds=>fits' n ds
 | .fro ds=>fits' n ds
 | .loc l=>decide (l<n)
 | .exn _=>false
 | .non=>true
 | .bl _=>true
 | .int _=>true
 | .str _=>true
noncomputable def fits'(n:Nat):List D->Bool
 | []=>true
 | d::r=>fit n d&&fits' n r
end
theorem iC{n:Nat}:∀{ds:WV},fits' n ds=true ↔ ∀d∈ds,fit n d=true
 | []=>by simp[fits']
 | d::r=>by rw[fits',Zl,iC]; simp
noncomputable def aS(d:D)(lo hi:Int):Bool:=match d with|.int i=>decide (lo<=i)&&decide (i<=hi)|_=>false
noncomputable def aU(d:D)(lo hi:Int):Bool:=match d with|.tup ds=>decide (lo<=(ds.length:Int))&&decide ((ds.length:Int)<=hi)|_=>false
noncomputable def pt(d:D)(i:Nat):D:=match d with|.tup ds=>ds.getD i .non|_=>.non
variable{sub:Sub}{P:Prg}{n:Nat}{S:af}
theorem wI{l:Nat}{t:Ty}(hS:aP S)(h:l<S.length)(ht:∀c,t≠.cls c):bH sub S (.loc l) t=some (decide (t=.list)):=by
 obtain⟨ds,e⟩:=hS l S[l] (Zb h);have e:S[l]?=some (.lst ds):=by rw[Zb h,e]
 cases t<;>first|exact absurd rfl (ht _)|(simp[bH,e])
theorem jR(h:Has P "is_whole" eT){d:D}{lo hi:Int}(hS:aP S)(hd:fit S.length d=true):aj sub P (n+1) "is_whole" [d,.int lo,.int hi] S=.ok (.bl (aS d lo hi)) S:=by
 rw[fN h rfl]
 cases d with
 | loc l =>
  have hl:l<S.length:=Zk hd;simp[eT,frame,wI hS hl,aS]
 | exn c=>cases hd
 | int i =>
  by_cases q:lo<=i<;>simp[eT,frame,bH,aS,q]
 | _=>simp[eT,frame,bH,aS]
theorem Dw(h:Has P "is_whole" eT)(h2:Has P "is_value" i6){d:D}(hS:aP S)(hd:fit S.length d=true):aj sub P (n+2) "is_value" [d] S=.ok (.bl (aS d 0 9972)) S:=by
 rw[fN h2 rfl];simp[i6,frame,jR h hS hd]
theorem vR(h:Has P "is_row" cX){d:D}{lo hi:Int}(hS:aP S)(hd:fit S.length d=true):aj sub P (n+1) "is_row" [d,.int lo,.int hi] S=.ok (.bl (aU d lo hi)) S:=by
 rw[fN h rfl]
 cases d with
 | loc l =>
  have hl:l<S.length:=Zk hd;simp[cX,frame,wI hS hl,aU]
 | exn c=>cases hd
 | tup ds=>by_cases q:lo<=(ds.length:Int)<;>simp[cX,frame,bH,aU,q]
 | _=>simp[cX,frame,bH,aU]
theorem Cz{d:D}{lo hi:Int}(h:aU d lo hi=true):∃ds,d=.tup ds/\lo<=(ds.length:Int)/\(ds.length:Int)<=hi:=by
 cases d<;>first|(cases h; done)|skip;rename_i ds;simp only[aU,Zl,XE] at h;exact⟨ds,rfl,h.1,h.2⟩
noncomputable def Cd(d:D):Bool:=aU d 2 2&&(aS (pt d 0) 1 3&&aS (pt d 1) 1 4)
noncomputable def tuB(d:D)(f:D->Bool):Bool:=match d with|.tup ds=>ds.all f|_=>false
noncomputable def zW(d:D):Bool:=aU d 1 3&&tuB d Cd
noncomputable def ya(d:D):Bool:=aU d 3 3&&tuB d λe=>aS e 0 9972
noncomputable def isZ:D->Bool
 | .int i=>i==0
 | _=>false
noncomputable def wsB(d:D)(own many:Int):Bool:=aU d 3 3&&(aS (pt d 2) 0 3&&aS (pt d 1) 0 ((if isZ (pt d 2)=true then own else many)-1))
noncomputable def BA:D->Bool
 | .str _=>true
 | _=>false
noncomputable def isS(x:Str):D->Bool
 | .str y=>y==x
 | _=>false
noncomputable def Ah(d:D)(own many streams:Int):Bool:=aU d 2 3&&(BA (pt d 0)&&(if isS "work" (pt d 0)=true then wsB d own many else aU d 2 2&&(if isS "input" (pt d 0)=true then aS (pt d 1) 0 (streams-1) else isS "value" (pt d 0)&&aS (pt d 1) 0 9972)))
noncomputable def zE:D->Bool
 | .str x=>decide (x∈cF)
 | _=>false
noncomputable def CN(d:D)(own many streams ncrews:Int):Bool:=aU d 5 5&&((aS (pt d 0) 0 (ncrews-1)&&aS (pt d 1) 1 8)&&(zE (pt d 2)&&((aU (pt d 3) 1 3&&ya (pt d 4))&&tuB (pt d 3) λe=>Ah e own many streams)))
noncomputable def allFrom(k:Nat)(f:Nat->D->Bool):List D->Bool
 | []=>true
 | d::r=>f k d&&allFrom (k+1) f r
noncomputable def CH(d:D)(streams ncrews:Int):Bool:=aU d 1 8&&(match d with|.tup ds=>allFrom 0 (λown w=>CN w own ds.length streams ncrews) ds|_=>false)
noncomputable def ptI(d:D)(i:Nat):Int:=match pt d i with|.int j=>j|_=>0
noncomputable def vc(many:Int):Int->List D->Bool
 | _,[]=>true
 | least,d::r=>match d with|.int i=>(decide (least<=i)&&decide (i<=many-1))&&vc many (i+1) r|_=>false
noncomputable def zA(d:D)(many:Int):Bool:=aU d 1 many&&(match d with|.tup ds=>vc many 0 ds|_=>false)
noncomputable def jJ:D->Int
 | .tup ds=>ds.length
 | _=>0
noncomputable def JP(d:D):Bool:=aU d 4 4&&((aS (pt d 0) 0 6&&zW (pt d 1))&&(CH (pt d 2) (ptI d 0) (jJ (pt d 1))&&zA (pt d 3) (jJ (pt d 2))))
theorem four{ds:WV}(h1:4<=(ds.length:Int))(h2:(ds.length:Int)<=4):∃a b c e,ds=[a,b,c,e]:=by
 rcases ds with _|⟨a,_|⟨b,_|⟨c,_|⟨e,_|⟨g,r⟩⟩⟩⟩⟩
 case cons.cons.cons.cons.nil=>exact⟨a,b,c,e,rfl⟩
 all_goals (simp at h1 h2; try omega)
end RB

namespace EV
open PySem
set_option genInjectivity false in
inductive GE where|fn|val (d:D)|cls
set_option genInjectivity false in
structure TC where
 sc:Scope
 N:List Str
 inF:Str->Bool
 top:Bool
 gt:List (Str×GE)
noncomputable def idx:List Str->Str->Option Nat
 | [],_=>none
 | y::r,x=>if y=x then some 0 else(idx r x).map (· + 1)
noncomputable def fD(sc:Scope)(x:Str):Bool:=match sc.names.lookup x with
 | some .local=>true
 | some .cell=>true
 | some .free=>true
 | _=>false
noncomputable def d9(c:TC)(x:Str):Bool:=match c.sc.names.lookup x with
 | some .local=>true
 | some .cell=>c.inF x
 | _=>false
noncomputable def glB(c:TC)(x:Str):Bool:=decide (c.sc.names.lookup x=some .globalImplicit)
noncomputable def cj(x:Str):Bool:=!(x==("__debug__" : Str))&&!(x==("__classdict__" : Str))
noncomputable def op2:Operator->Option Op2
 | .Add=>some .add
 | .Sub=>some .sub
 | .Mult=>some .mul
 | .FloorDiv=>some .fdiv
 | .Mod=>some .mod
 | .Pow=>some .pow
 | _=>none
noncomputable def cmO:CmpOp->Option Cm
 | .Lt=>some .lt
 | .LtE=>some .le
 | .Gt=>some .gt
 | .GtE=>some .ge
 | .Eq=>some .eq
 | .NotEq=>some .ne
 | .In=>some .isin
 | .NotIn=>some .eV
 | _=>none
noncomputable def JL:PySem.Expr->Bool
 | .Name x _=>decide (x = "kept")
 | _=>false
noncomputable def JX:CmpOp->Option Cm
 | .In=>some .din
 | .NotIn=>some .dnin
 | _=>none
noncomputable def JR:PySem.Expr->Bool
 | .Name x _=>decide (x = "word")||(decide (x = "_law_text_here")||decide (x = "DIGITS"))
 | _=>false
noncomputable def qz(op:CmpOp)(b:WR):Option Cm:=cmO op
noncomputable def JJ(x:Str):Option Tm:=if x = "join" then some .join else if x = "split" then some .split else if x = "startswith" then some .starts else if x = "partition" then some .part else none
noncomputable def u6:Const->Option E
 | .none=>some (.c .non)
 | .bool b=>some (.c (.bl b))
 | .int i=>some (.c (.int i))
 | .str s=>some (.c (.str s))
 | _=>none
noncomputable def lX(c:TC)(x:Str):Option E :=
 if cj x then
  if fD c.sc x then(idx c.N x).map .v
  else if glB c x then match c.gt.lookup x with
   | some (.val d)=>some (.c d)
   | _=>none
  else none
 else none
noncomputable def cU(c:TC)(x:Str):Bool:=glB c x&&(c.gt.lookup x).isNone
noncomputable def mV(x:Str):Option Bi :=
 if x = "len" then some .len else if x = "all" then some .all
 else if x = "max" then some .max else if x = "list" then some .list else if x = "tuple" then some .tuple else none
noncomputable def mE(x:Str):Option Ty :=
 if x = "int" then some .int else if x = "bool" then some .bool else if x = "str" then some .str else if x = "list" then some .list else if x = "tuple" then some .tuple else if x = "dict" then some .dict else none
noncomputable def oK(x:Str):Option Me:=if x = "append" then some .append else if x = "extend" then some .extend else none
noncomputable def bM(f:PySem.Expr->Option E):List PySem.Expr->Option E
 | []=>some .nl
 | e::r=>match f e,bM f r with
  | some a,some b=>some (.cs a b)
  | _,_=>none
noncomputable def trO(f:PySem.Expr->Option E):Option PySem.Expr->Option E
 | none=>some .nl
 | some e=>match f e with
  | some .nl=>none
  | o=>o
noncomputable def f_(c:TC):List PySem.Expr->Option (List Nat)
 | []=>some []
 | .Name x _::r=>if d9 c x then match idx c.N x,f_ c r with
   | some i,some is=>some (i::is)
   | _,_=>none
  else none
 | _=>none
noncomputable def ig(c:TC):PySem.Expr->Option Tg
 | .Name x _=>if d9 c x then(idx c.N x).map .one else none
 | .Tuple es _ _=>(f_ c es).map .many
 | _=>none
noncomputable def isTup:PySem.Expr->Bool
 | .Tuple _ _ _=>true
 | _=>false
noncomputable def nX(c:TC)(x:Str):Bool:=cU c x&&decide (x = "range")
noncomputable def ou(c:TC)(x:Str):Bool:=cU c x&&decide (x = "enumerate")
noncomputable def oF(c:TC)(x:Str):Bool:=cU c x&&decide (x = "zip")
noncomputable def pair(es:WS):Bool:=decide (es.length=2)
noncomputable def few(es:WS):Bool:=decide (es.length=1)||decide (es.length=3)
noncomputable def nq:PySem.Expr->Bool
 | .Set _ _ _=>false
 | _=>true
noncomputable def trI(f:PySem.Expr->Option E)(c:TC)(tg:WR)(e:WR):Option E :=
 if nq e then match e with
  | .Call (.Name x _) args [] _ =>
   if nX c x then(if few args then(bM f args).map .iRng else none)
   else if ou c x then match isTup tg,args with
    | true,[a]=>(f a).map .iEnum
    | _,_=>none
   else if oF c x then(if isTup tg&&pair args then(bM f args).map .iZip else none)
   else(f e).map .iSeq
  | _=>(f e).map .iSeq
 else none
noncomputable def mangle(x:Str):Str:=⟨#[0]++x.cps⟩
noncomputable def ic(scope sc:Scope):Scope :=
 { scope with names:=scope.names.map λ(n,k)=>if(k==.free&&sc.kind==.function&&sc.names.lookup n==some .cell) then(n,.cell) else(n,k) }
noncomputable def isFree(scope:Scope)(x:Str):Bool:=scope.names.any λy=>decide (y.1=x)&&decide (y.2=.free)
noncomputable def own(scope:Scope):List Str:=(scope.names.filter λy=>decide (y.2=.local)||decide (y.2=.cell)).map (·.1)
noncomputable def gT(scope:Scope)(x:Str):Str:=if isFree scope x then x else mangle x
noncomputable def inComp(c:TC)(scope:Scope):TC:={ c with sc:=ic scope c.sc,N:=c.N.map (gT scope)++own scope,inF:=λx=>decide (scope.names.lookup x=some .cell),top:=false }
noncomputable def gg:List Str->Bool
 | []=>true
 | x::r=>!(r.any λy=>decide (y=x))&&gg r
noncomputable def oi(c:TC)(scope:Scope):Bool :=
 scope.names.all (λy=>!decide (y.2=.free)||(match c.sc.names.lookup y.1 with|some .cell=>true|some .free=>true|_=>false)) &&
 gg (scope.names.map (·.1))&&decide (scope.kind=.function) &&
 scope.names.all (λy=>!decide (y.2=.local)||decide (scope.names.lookup y.1=some .local)) &&
 gg (c.N.map (gT scope)++own scope) &&
 c.N.all (λx=>if isFree scope x then !decide ((ic scope c.sc).names.lookup x=some .local) else !fD (ic scope c.sc) (mangle x))
noncomputable def Tg.qs(n:Nat):Tg->Bool
 | .one i=>decide (n<=i)
 | .many is=>is.all λi=>decide (n<=i)
noncomputable def mZ:PySem.Expr->Bool
 | .Call _ [] [] _=>false
 | _=>true
noncomputable def two(es:WS):Bool:=decide (es.length=1)||decide (es.length=2)
noncomputable def ua(c:TC)(x:Str):Bool:=cU c x&&decide (x = "set")
noncomputable def JD(c:TC)(x:Str):Bool:=cU c x&&decide (x = "dict")
noncomputable def zv:List PySem.Expr->Bool
 | [_]=>true
 | _=>false
noncomputable def lQ(c:TC)(x:Str):List PySem.Expr->Option (Bi×List PySem.Expr)
 | [.Call (.Name r _) ra [] _]=>if decide (x = "sorted")&&ua c r&&zv ra then some (.sortedSet,ra) else none
 | _=>none
noncomputable def k8:CmpOp->Option Bool
 | .Is=>some true
 | .IsNot=>some false
 | _=>none
noncomputable def rL:PySem.Expr->Bool
 | .Constant k _ _=>(match k with
  | .none=>true
  | _=>false)
 | _=>false
noncomputable def JH:PySem.Expr->Bool
 | .Constant k _ _=>(match k with
  | .bool _=>true
  | _=>false)
 | _=>false
noncomputable def JO:PySem.Expr->Bool
 | .UnaryOp .USub (.Constant k _ _) _=>(match k with
  | .int i=>decide (i=1)
  | _=>false)
 | _=>false
noncomputable def jv:PySem.Expr->Bool
 | .Constant k _ _=>(match k with
  | .str _=>true
  | _=>false)
 | _=>false
noncomputable def Ec:List PySem.Expr->Bool
 | [e]=>jv e
 | _=>false
noncomputable def JG(f:PySem.Expr->Option E)(a':E):Option PySem.Expr->Option PySem.Expr->Option E
 | none,some h=>(f h).map (λh'=>.bi .tTo (.cs a' (.cs h' .nl)))
 | some l,none=>(f l).map (λl'=>.bi .tFrom (.cs a' (.cs l' .nl)))
 | _,_=>none
noncomputable def om:PySem.Expr->Bool
 | .Slice _ _ _ _=>false
 | .Tuple _ _ _=>false
 | _=>true
noncomputable def isFn(c:TC)(x:Str):Bool:=match c.gt.lookup x with
 | some .fn=>true
 | _=>false
noncomputable def fnNames(c:TC):List PySem.Expr->Option (List Str)
 | []=>some []
 | .Name x _::r=>if(cj x&&glB c x)&&isFn c x then(fnNames c r).map (x :: ·) else none
 | _=>none
noncomputable def trE:Nat->TC->PySem.Expr->Option E
 | 0,_,_=>none
 | n+1,c,e=>match e with
  | .Name x _=>lX c x
  | .Constant k _ _=>u6 k
  | .BinOp a op b _=>match op2 op,trE n c a,trE n c b with
   | some o,some a',some b'=>some (.bin o a' b')
   | _,_,_=>none
  | .UnaryOp op a _=>match op,trE n c a with
   | .Not,some a'=>some (.not a')
   | .USub,some a'=>some (.neg a')
   | _,_=>none
  | .BoolOp op vs p=>match vs with
   | []=>none
   | [a]=>trE n c a
   | a::b::r=>match op,trE n c a,trE n c (.BoolOp op (b::r) p) with
    | .And,some a',some b'=>some (.and a' b')
    | .Or,some a',some b'=>some (.or a' b')
    | _,_,_=>none
  | .IfExp t a b _=>match trE n c t,trE n c a,trE n c b with
   | some t',some a',some b'=>some (.ite t' a' b')
   | _,_,_=>none
  | .Compare a ops cs _=>match ops,cs with
   | [op],[b]=>match k8 op with
    | some k=>if rL b then(trE n c a).map (λx=>bif k then .isN x else .notN x) else none
    | none=>match qz op b,trE n c a,trE n c b,behindInMarks op b with
     | some o,some a',some b',false=>some (.cmp o a' b')
     | _,_,_,_=>none
   | [op,op'],[b,d]=>match cmO op,cmO op',trE n c a,trE n c b,trE n c d,lastMarks [op,op'] [b,d] with
    | some o,some o',some a',some b',some d',false=>some (.chn o o' a' b' d')
    | _,_,_,_,_,_=>none
   | _,_=>none
  | .Tuple es _ _=>(bM (trE n c) es).map .tup
  | .List es _=>(bM (trE n c) es).map .lst
  | .Dict ks vs _=>match ks,vs with
   | _,_=>none
  | .Subscript a i _=>match i with
   | .Slice lo hi none _=>match trE n c a,trO (trE n c) lo,trO (trE n c) hi with
    | some a',some l,some h=>some (.sl a' l h)
    | _,_,_=>none
   | .Slice _ _ (some _) _=>none
   | .Tuple es _ _=>none
   | i=>match trE n c a,trE n c i with
    | some a',some i'=>some (.ix a' i')
    | _,_=>none
  | .Call f args kws cpos=>match f,kws with
   | .Name x _,[] =>
    if cj x&&glB c x then match c.gt.lookup x with
     | some .fn=>(bM (trE n c) args).map (.call x)
     | some _=>none
     | none =>
      if x = "isinstance" then match args with
       | [a,.Name y _]=>if cj y&&cU c y then match mE y,trE n c a with
         | some t,some a'=>some (.bi (.inst t) (.cs a' .nl))
         | _,_=>none
        else none
       | _=>none
      else match lQ c x args with
       | some (b,ra)=>(bM (trE n c) ra).map (.bi b)
       | none=>match args with
        | []=>none
        | a::r=>match mV x,bM (trE n c) (a::r) with
         | some b,some es=>some (.bi b es)
         | _,_=>none
    else none
   | .Attribute o name apos,[]=>match args with
    | []=>none
    | a::r=>if mZ o&&(apos.endLine==cpos.line)&&decide (args.length<20) then match oK name,trE n c o,bM (trE n c) (a::r) with
      | some m,some o',some es=>some (.me m o' es)
      | _,_,_=>none
     else none
   | .Subscript (.List fs _) i _,[]=>if om i&&decide (fs.length<1000) then match fnNames c fs,trE n c i,args with
     | some xs,some i',a::r=>(bM (trE n c) (a::r)).map (.callL xs i')
     | _,_,_=>none
    else none
   | _,_=>none
  | .ListComp elt gens scope _=>match gens with
   | [⟨tg,iter,ifs,asy⟩]=>if asy=0&&oi c scope then
     match trI (trE n c) c tg iter,ig (inComp c scope) tg,trE n (inComp c scope) elt,(match ifs with|[]=>some .nl|[t]=>trO (trE n (inComp c scope)) (some t)|_=>none) with
     | some it,some t,some el,some tt=>if t.qs c.N.length then some (.comp (own scope).length el t it tt) else none
     | _,_,_,_=>none
    else none
   | _=>none
  | _=>none
noncomputable def gM:PySem.Expr->Bool
 | .ListComp _ _ _ _=>false
 | .SetComp _ _ _ _=>false
 | .DictComp _ _ _ _ _=>false
 | _=>true
noncomputable def vO:PySem.Expr->PySem.Expr->Bool
 | .Name _ _,_=>true
 | .Tuple _ _ _,v=>!isTup v&&gM v
 | _,_=>false
noncomputable def fB(f:Stmt->Option S):List Stmt->Option S
 | []=>some .skip
 | [s]=>match f s with
  | some a=>some a
  | none=>some .bot
 | s::r=>match f s with
  | some a=>(fB f r).map (.seq a)
  | none=>some .bot
noncomputable def nH(c:TC):PySem.Expr->Option S
 | .Call f args kws _=>match f,kws with
  | .Name x _,[]=>if Ec args&&(cj x&&glB c x) then match c.gt.lookup x with
    | some .cls=>some (.rais x)
    | _=>none
   else none
  | _,_=>none
 | _=>none
noncomputable def mU(f:PySem.Expr->Option E)(e:WR):PySem.Expr->Option S
 | .Subscript o (.Tuple es _ _) _=>none
 | .Subscript o i _=>if gM e&&om i then match f o,f i,f e with
   | some a,some b,some d=>some (.setIx a b d)
   | _,_,_=>none
  else none
 | _=>none
noncomputable def six:List Str:=["NoLoop","NoGap","NoPlan","NoBoxes","NoInputs","NoRounds"]
noncomputable def gF(k d:Str):Bool:=(decide (k∈six)&&(decide (d∈six)&&!decide (k=d)))||(decide (k = "NoText")&&decide (d = "NoLoop"))
noncomputable def trS(m:Nat):Nat->TC->Stmt->Option S
 | 0,_,_=>none
 | n+1,c,s=>match s with
  | .Return none _=>some .retN
  | .Return (some e) _=>(trE m c e).map .ret
  | .Expr e _=>if jv e then some .skip else if gM e then(trE m c e).map .ex else none
  | .Pass _=>some .skip
  | .Assign ts e _=>match ts with
   | [tg]=>if vO tg e then match ig c tg,trE m c e with
     | some t,some e'=>some (.set t e')
     | _,_=>none
    else mU (trE m c) e tg
   | _=>none
  | .If t a b _=>match trE m c t,fB (trS m n c) a,fB (trS m n c) b with
   | some t',some a',some b'=>some (.ite t' a' b')
   | _,_,_=>none
  | .For tg it body els _=>match els,ig c tg,trI (trE m c) c tg it,fB (trS m n c) body with
   | [],some t,some i,some b=>some (.forS t i b)
   | _,_,_,_=>none
  | .Raise (some e) none _=>nH c e
  | _=>none
noncomputable def depth:Nat:=60
noncomputable def argNames(a:Arguments):List Str:=a.args.map (·.arg)
noncomputable def jx(a:Arguments):Bool:=a.posonlyargs.isEmpty&&a.vararg.isNone&&a.kwonlyargs.isEmpty&&a.kw_defaults.isEmpty&&a.kwarg.isNone&&a.defaults.isEmpty
noncomputable def namesOf(a:Arguments)(sc:Scope):List Str:=argNames a++(sc.names.filter λy=>(decide (y.2=.local)||decide (y.2=.cell))&&!((argNames a).any λx=>decide (x=y.1))).map (·.1)
noncomputable def iK(gt:List (Str×GE))(a:Arguments)(sc:Scope):TC:=⟨sc,namesOf a sc,λ_=>true,true,gt⟩
noncomputable def gh(a:Arguments)(sc:Scope):Bool :=
 jx a&&decide (sc.kind=.function)&&!sc.isCoroutine&&!sc.isGenerator&&gg (namesOf a sc)&&(argNames a).all (λx=>match sc.names.lookup x with|some .local=>true|some .cell=>true|_=>false)&&sc.names.all λy=>!decide (y.2=.free)
noncomputable def trF(gt:List (Str×GE)):Stmt->Option Fn
 | .FunctionDef _ a body _ _ _ sc _ _ _=>if gh a sc then(fB (trS depth depth (iK gt a sc)) body).map λb=>⟨(argNames a).length,(namesOf a sc).length,b⟩ else none
 | _=>none
end EV

namespace K24
open PySem EV RL GO
noncomputable def xK:Fn:=⟨3,3,(.seq (.ite (.notN (.call "fault" (.cs (.v 0) (.cs (.v 1) (.cs (.call "checked_plan" (.cs (.v 0) (.cs (.v 2) .nl))) .nl)))))
  (.rais "NoPlan")
  .skip)
 (.ret (.v 2)))⟩
noncomputable def Gw:Fn:=⟨2,2,(.ret (.and (.call "is_row" (.cs (.v 0) (.cs (.v 1) (.cs (.v 1) .nl)))) (.bi .all (.cs (.comp 2 (.call "is_whole" (.cs (.v 3) (.cs (.c (.int 1)) (.cs (.c (.int 999)) .nl)))) (.one 3) (.iSeq (.v 0)) .nl) .nl))))⟩
noncomputable def BV:Fn:=⟨2,2,(.seq (.ite (.not (.call "are_boxes" (.cs (.v 1) (.cs (.bi .len (.cs (.ix (.v 0) (.c (.int 2))) .nl)) .nl))))
  (.rais "NoBoxes")
  .skip)
 (.ret (.v 1)))⟩
noncomputable def Hj:Fn:=⟨3,5,(.seq (.ex (.call "checked" (.cs (.v 0) .nl)))
 (.seq (.ex (.call "checked_gap" (.cs (.v 1) .nl)))
 (.seq (.ex (.call "checked_good_plan" (.cs (.v 0) (.cs (.v 1) (.cs (.v 2) .nl)))))
 (.seq (.set (.one 3) (.bin .mul (.lst (.cs (.c (.int 1)) .nl)) (.bi .len (.cs (.ix (.v 0) (.c (.int 2))) .nl))))
 (.seq (.forS (.one 4) (.iSeq (.call "needs" (.cs (.v 0) .nl)))
  .bot)
 (.ret (.bi .tuple (.cs (.v 3) .nl))))))))⟩
noncomputable def D8:Fn:=⟨4,5,(.seq (.ex (.call "checked" (.cs (.v 0) .nl)))
 (.seq (.ex (.call "checked_gap" (.cs (.v 1) .nl)))
 (.seq (.ex (.call "checked_good_plan" (.cs (.v 0) (.cs (.v 1) (.cs (.v 2) .nl)))))
 (.seq (.ex (.call "checked_boxes" (.cs (.v 0) (.cs (.v 3) .nl))))
 (.seq (.forS (.one 4) (.iSeq (.call "needs" (.cs (.v 0) .nl)))
  .bot)
 (.ret (.c .non)))))))⟩
noncomputable def GA:Fn:=⟨2,2,(.ret (.and (.call "is_row" (.cs (.v 0) (.cs (.v 1) (.cs (.v 1) .nl)))) (.bi .all (.cs (.comp 2 (.call "is_value" (.cs (.v 3) .nl)) (.one 3) (.iSeq (.v 0)) .nl) .nl))))⟩
noncomputable def HC:Fn:=⟨2,2,(.seq (.ite (.or (.not (.bi (.inst .list) (.cs (.v 0) .nl))) (.cmp .gt (.bi .len (.cs (.v 0) .nl)) (.c (.int 40))))
  (.ret (.c (.bl false)))
  .skip)
 (.ret (.bi .all (.cs (.comp 2 (.call "is_given" (.cs (.v 3) (.cs (.v 1) .nl))) (.one 3) (.iSeq (.v 0)) .nl) .nl))))⟩
noncomputable def C6:Fn:=⟨2,2,(.seq (.ite (.not (.call "are_inputs" (.cs (.v 1) (.cs (.ix (.v 0) (.c (.int 0))) .nl))))
  (.rais "NoInputs")
  .skip)
 (.ret (.v 1)))⟩
noncomputable def uA:Fn:=⟨1,3,(.seq (.set (.one 1) (.lst .nl))
 (.seq (.forS (.one 2) (.iRng (.cs (.c (.int 3)) (.cs (.c (.int 0)) (.cs (.neg (.c (.int 1))) .nl))))
  (.ex (.me .append (.v 1) (.cs (.comp 2 (.ix (.ix (.v 4) (.c (.int 4))) (.bin .sub (.v 2) (.c (.int 1)))) (.one 4) (.iSeq (.v 0)) .nl) .nl))))
 (.ret (.v 1))))⟩
noncomputable def A6:Fn:=⟨2,8,(.seq (.set (.one 2) (.ix (.call "checked" (.cs (.v 0) .nl)) (.c (.int 2))))
 (.seq (.set (.one 3) (.call "start_rows" (.cs (.v 2) .nl)))
 (.seq (.set (.one 4) (.lst .nl))
 (.seq (.forS (.one 5) (.iSeq (.call "checked_inputs" (.cs (.v 0) (.cs (.v 1) .nl))))
  (.seq (.set (.one 6) (.lst .nl))
 (.seq (.ex (.me .append (.v 3) (.cs (.v 6) .nl)))
 (.seq (.forS (.one 7) (.iSeq (.v 2))
  .bot)
 (.ex (.me .append (.v 4) (.cs (.bi .tuple (.cs (.comp 2 (.ix (.v 6) (.v 9)) (.one 9) (.iSeq (.ix (.v 0) (.c (.int 3)))) .nl) .nl)) .nl)))))))
 (.ret (.v 4))))))⟩
noncomputable def zM:Fn:=⟨1,1,(.seq (.ite (.not (.call "is_whole" (.cs (.v 0) (.cs (.c (.int 0)) (.cs (.c (.int 40)) .nl)))))
  (.rais "NoRounds")
  .skip)
 (.ret (.v 0)))⟩
noncomputable def DU:Fn:=⟨3,7,.bot⟩
noncomputable def C0:Fn:=⟨2,2,(.ret (.bin .add (.bin .fdiv (.bi .max (.cs (.v 1) .nl)) (.v 0)) (.c (.int 1))))⟩
noncomputable def xA:Fn:=⟨4,4,(.seq (.ex (.call "checked" (.cs (.v 0) .nl)))
 (.seq (.ex (.call "checked_gap" (.cs (.v 1) .nl)))
 (.seq (.ex (.call "checked_good_plan" (.cs (.v 0) (.cs (.v 1) (.cs (.v 2) .nl)))))
 (.ret (.call "laid_out" (.cs (.v 1) (.cs (.v 2) (.cs (.call "checked_rounds" (.cs (.v 3) .nl)) .nl))))))))⟩
noncomputable def IE:Fn:=⟨3,3,(.seq (.ex (.call "checked" (.cs (.v 0) .nl)))
 (.seq (.ex (.call "checked_gap" (.cs (.v 1) .nl)))
 (.ret (.call "high" (.cs (.v 1) (.cs (.call "checked_good_plan" (.cs (.v 0) (.cs (.v 1) (.cs (.v 2) .nl)))) .nl))))))⟩
noncomputable def HW:Fn:=⟨3,10,(.seq (.set (.one 3) (.call "height" (.cs (.v 0) (.cs (.v 1) (.cs (.v 2) .nl)))))
 (.seq (.set (.one 4) (.call "laid_out" (.cs (.v 1) (.cs (.v 2) (.cs (.v 3) .nl)))))
 (.seq (.set (.one 5) (.bin .sub (.v 3) (.c (.int 1))))
 (.seq (.set (.one 6) (.bin .mul (.v 5) (.v 1)))
 (.seq (.set (.one 7) (.bin .mul (.v 3) (.v 1)))
 .bot)))))⟩
noncomputable def kP:Fn:=⟨5,15,(.seq (.set (.one 5) (.ix (.call "checked" (.cs (.v 0) .nl)) (.c (.int 2))))
 (.seq (.ex (.call "checked_gap" (.cs (.v 1) .nl)))
 (.seq (.ex (.call "checked_good_plan" (.cs (.v 0) (.cs (.v 1) (.cs (.v 2) .nl)))))
 (.seq (.set (.one 6) (.comp 2 (.bin .mul (.lst (.cs (.c (.int 0)) .nl)) (.v 16)) (.one 16) (.iSeq (.call "checked_boxes" (.cs (.v 0) (.cs (.v 3) .nl)))) .nl))
 (.seq (.set (.one 7) (.comp 2 (.bin .mul (.lst (.cs (.c (.int 0)) .nl)) (.bi .len (.cs (.v 5) .nl))) (.one 16) (.iSeq (.call "checked_inputs" (.cs (.v 0) (.cs (.v 4) .nl)))) .nl))
 .bot)))))⟩
noncomputable def CY:Fn:=⟨2,7,(.seq (.set (.one 2) (.call "needs" (.cs (.v 0) .nl)))
 (.seq (.set (.one 3) (.comp 2 (.lst (.cs (.v 8) .nl)) (.one 8) (.iSeq (.v 2)) .nl))
 (.seq (.forS (.one 4) (.iRng (.cs (.bi .len (.cs (.ix (.v 0) (.c (.int 2))) .nl)) .nl))
  .bot)
 (.ret (.c .non)))))⟩
noncomputable def xE:Fn:=⟨2,2,(.seq (.ex (.call "checked" (.cs (.v 0) .nl)))
 (.ret (.call "barring_ring" (.cs (.v 0) (.cs (.call "checked_gap" (.cs (.v 1) .nl)) .nl)))))⟩
noncomputable def AE:Fn:=⟨2,4,(.seq (.forS (.many [2,3]) (.iEnum (.ix (.v 0) (.c (.int 1))))
  .bot)
 (.ret (.c .non)))⟩
noncomputable def yP:Fn:=⟨2,2,(.seq (.ex (.call "checked" (.cs (.v 0) .nl)))
 (.ret (.call "barring_crew" (.cs (.v 0) (.cs (.call "checked_gap" (.cs (.v 1) .nl)) .nl)))))⟩
noncomputable def BY:Fn:=⟨3,4,(.seq (.set (.one 3) (.call "needs" (.cs (.v 0) .nl)))
 (.seq (.ex (.call "checked_gap" (.cs (.v 1) .nl)))
 .bot))⟩
noncomputable def GP:Fn:=⟨1,3,(.seq (.ex (.call "checked" (.cs (.v 0) .nl)))
 (.seq (.set (.one 1) (.c (.int 1)))
 (.seq (.set (.one 2) (.call "barring_ring" (.cs (.v 0) (.cs (.v 1) .nl))))
 .bot)))⟩
noncomputable def Ae:Fn:=⟨1,1,(.seq (.ex (.call "checked" (.cs (.v 0) .nl)))
 .bot)⟩
noncomputable def Af:Fn:=⟨2,5,(.seq (.set (.one 2) (.call "plainly" (.cs (.v 0) .nl)))
 (.seq (.ite (.cmp .ge (.v 1) (.ix (.v 2) (.c (.int 0))))
  (.ret (.ix (.v 2) (.c (.int 1))))
  .skip)
 .bot))⟩
noncomputable def Ja:Fn:=⟨2,2,(.seq (.ex (.call "checked" (.cs (.v 0) .nl)))
 (.ret (.call "found_plan" (.cs (.v 0) (.cs (.call "checked_gap" (.cs (.v 1) .nl)) .nl)))))⟩
noncomputable def BO:Fn:=⟨1,2,(.seq (.set (.one 1) (.bi .max (.cs (.call "ring_gap" (.cs (.v 0) .nl)) (.cs (.call "crew_gap" (.cs (.v 0) .nl)) .nl))))
 .bot)⟩
noncomputable def Df:Fn:=⟨1,2,.bot⟩
noncomputable def DN:Fn:=⟨1,1,(.ret (.call "written" (.cs (.call "checked" (.cs (.v 0) .nl)) .nl)))⟩
noncomputable def IL:Fn:=⟨1,1,(.seq (.ite (.not (.call "is_whole" (.cs (.v 0) (.cs (.c (.int 2)) (.cs (.c (.int 3)) .nl)))))
  (.rais "NoRounds")
  .skip)
 (.ret (.v 0)))⟩
noncomputable def Dd:Fn:=⟨2,6,(.seq (.set (.one 2) (.bi .len (.cs (.ix (.call "checked" (.cs (.v 0) .nl)) (.c (.int 2))) .nl)))
 (.seq (.ex (.call "checked_times" (.cs (.v 1) .nl)))
 (.seq (.ite (.or (.cmp .gt (.bin .mul (.v 2) (.v 1)) (.c (.int 8))) (.cmp .gt (.bin .mul (.ix (.v 0) (.c (.int 0))) (.v 1)) (.c (.int 6))))
  .bot
  .skip)
 (.seq (.set (.one 3) (.lst .nl))
 (.seq (.set (.one 4) (.lst .nl))
 (.seq (.forS (.one 5) (.iRng (.cs (.v 1) .nl))
  .bot)
 (.ret (.tup (.cs (.bin .mul (.ix (.v 0) (.c (.int 0))) (.v 1)) (.cs (.ix (.v 0) (.c (.int 1))) (.cs (.bi .tuple (.cs (.v 3) .nl)) (.cs (.bi .tuple (.cs (.v 4) .nl)) .nl))))))))))))⟩
noncomputable def yL:Fn:=⟨2,2,(.seq (.ite (.cmp .lt (.v 0) (.c (.int 7)))
  (.ret (.callL ["checked","needs","plainly","ring_gap","crew_gap","shortest","shown"] (.v 0) (.cs (.v 1) .nl)))
  .skip)
 (.seq (.ite (.cmp .lt (.v 0) (.c (.int 12)))
  (.ret (.callL ["answers","ring","crowd","a_plan","unrolled"] (.bin .sub (.v 0) (.c (.int 7))) (.cs (.v 1) (.cs (.c .non) .nl))))
  .skip)
 (.seq (.ite (.cmp .lt (.v 0) (.c (.int 17)))
  (.ret (.callL ["wrong","is_bar","least_boxes","height","parts"] (.bin .sub (.v 0) (.c (.int 12))) (.cs (.v 1) (.cs (.c .non) (.cs (.c .non) .nl)))))
  .skip)
 (.seq (.ite (.cmp .lt (.v 0) (.c (.int 19)))
  (.ret (.callL ["too_few","laid"] (.bin .sub (.v 0) (.c (.int 17))) (.cs (.v 1) (.cs (.c .non) (.cs (.c .non) (.cs (.c .non) .nl))))))
  .skip)
 (.ret (.call "run" (.cs (.v 1) (.cs (.c .non) (.cs (.c .non) (.cs (.c .non) (.cs (.c .non) .nl)))))))))))⟩
noncomputable def Aq:Fn:=⟨3,3,(.seq (.ite (.cmp .lt (.v 0) (.c (.int 3)))
  (.ret (.callL ["ring","crowd","a_plan"] (.v 0) (.cs (.v 1) (.cs (.v 2) .nl))))
  .skip)
 (.seq (.ite (.cmp .lt (.v 0) (.c (.int 8)))
  (.ret (.callL ["wrong","is_bar","least_boxes","height","parts"] (.bin .sub (.v 0) (.c (.int 3))) (.cs (.v 1) (.cs (.v 2) (.cs (.c .non) .nl)))))
  .skip)
 (.seq (.ite (.cmp .lt (.v 0) (.c (.int 10)))
  (.ret (.callL ["too_few","laid"] (.bin .sub (.v 0) (.c (.int 8))) (.cs (.v 1) (.cs (.v 2) (.cs (.c .non) (.cs (.c .non) .nl))))))
  .skip)
 (.ret (.call "run" (.cs (.v 1) (.cs (.v 2) (.cs (.c .non) (.cs (.c .non) (.cs (.c .non) .nl))))))))))⟩
noncomputable def uh:Fn:=⟨4,4,(.seq (.ite (.cmp .lt (.v 0) (.c (.int 4)))
  (.ret (.callL ["least_boxes","height","parts","wrong"] (.v 0) (.cs (.v 1) (.cs (.v 2) (.cs (.v 3) .nl)))))
  .skip)
 (.seq (.ite (.cmp .lt (.v 0) (.c (.int 6)))
  (.ret (.callL ["too_few","laid"] (.bin .sub (.v 0) (.c (.int 4))) (.cs (.v 1) (.cs (.v 2) (.cs (.v 3) (.cs (.c .non) .nl))))))
  .skip)
 (.ret (.call "run" (.cs (.v 1) (.cs (.v 2) (.cs (.v 3) (.cs (.c .non) (.cs (.c .non) .nl)))))))))⟩
noncomputable def fW:Fn:=⟨2,3,(.seq (.set (.one 2) (.lst (.cs (.c .non) (.cs (.bi .list (.cs (.v 0) .nl)) (.cs (.bin .add (.v 0) (.tup (.cs (.c (.int 1)) .nl))) (.cs (.sl (.v 0) (.c (.int 1)) .nl) (.cs (.bin .add (.sl (.v 0) .nl (.neg (.c (.int 1)))) (.tup (.cs (.neg (.c (.int 1))) .nl))) (.cs (.bin .add (.sl (.v 0) .nl (.neg (.c (.int 1)))) (.tup (.cs (.c (.int 1000)) .nl))) (.cs (.bin .add (.sl (.v 0) .nl (.neg (.c (.int 1)))) (.tup (.cs (.c (.bl true)) .nl))) .nl)))))))))
 (.ret (.ix (.bin .add (.v 2) (.lst (.cs (.bin .add (.tup (.cs (.c .non) .nl)) (.sl (.v 0) (.c (.int 1)) .nl)) (.cs (.c (.str "plan")) .nl)))) (.bin .mod (.v 1) (.c (.int 9))))))⟩
noncomputable def cC:Fn:=⟨3,10,(.seq (.set (.one 3) (.bin .fdiv (.v 2) (.c (.int 100))))
 (.seq (.set (.many [4,5]) (.call "plainly" (.cs (.v 0) .nl)))
 (.seq (.set (.one 6) (.bi .len (.cs (.v 5) .nl)))
 (.seq (.ite (.cmp .eq (.v 1) (.c (.int 0)))
  (.ret (.call "_law_with_loop" (.cs (.bin .mod (.v 3) (.c (.int 20))) (.cs (.ix (.lst (.cs (.c .non) (.cs (.bi .list (.cs (.v 0) .nl)) (.cs (.tup .nl) (.cs (.sl (.v 0) .nl (.c (.int 3))) (.cs (.c (.int 5)) (.cs (.c (.str "loop")) .nl))))))) (.bin .mod (.v 2) (.c (.int 6)))) .nl))))
  .skip)
 (.seq (.ite (.cmp .eq (.v 1) (.c (.int 1)))
  (.ret (.call "_law_with_gap" (.cs (.bin .mod (.v 3) (.c (.int 11))) (.cs (.v 0) (.cs (.ix (.lst (.cs (.c (.int 0)) (.cs (.c (.int 201)) (.cs (.c (.bl true)) (.cs (.c .non) (.cs (.c (.str "3")) (.cs (.neg (.c (.int 1))) .nl))))))) (.bin .mod (.v 2) (.c (.int 6)))) .nl)))))
  .skip)
 (.seq (.ite (.cmp .eq (.v 1) (.c (.int 2)))
  (.seq (.set (.one 7) (.call "_law_bad_plan" (.cs (.v 5) (.cs (.v 2) .nl))))
 (.seq (.ite (.and (.cmp .eq (.bin .mod (.v 2) (.c (.int 11))) (.c (.int 10))) (.cmp .ne (.bin .mod (.v 3) (.c (.int 7))) (.c (.int 3))))
  (.seq (.set (.one 8) (.tup (.cs (.c (.int 1)) (.cs (.tup (.cs (.tup (.cs (.c (.int 1)) (.cs (.c (.int 4)) .nl))) .nl)) (.cs (.bin .mul (.tup (.cs (.tup (.cs (.c (.int 0)) (.cs (.c (.int 8)) (.cs (.c (.str "plus")) (.cs (.tup (.cs (.tup (.cs (.c (.str "value")) (.cs (.c (.int 1)) .nl))) .nl)) (.cs (.tup (.cs (.c (.int 0)) (.cs (.c (.int 0)) (.cs (.c (.int 0)) .nl)))) .nl)))))) .nl)) (.c (.int 2))) (.cs (.tup (.cs (.c (.int 0)) .nl)) .nl))))))
 (.ret (.call "_law_with_plan" (.cs (.bin .mod (.v 3) (.c (.int 7))) (.cs (.v 8) (.cs (.c (.int 4)) (.cs (.tup (.cs (.c (.int 0)) (.cs (.c (.int 1)) .nl))) .nl)))))))
  .skip)
 (.ret (.call "_law_with_plan" (.cs (.bin .mod (.v 3) (.c (.int 7))) (.cs (.v 0) (.cs (.v 4) (.cs (.v 7) .nl))))))))
  .skip)
 (.seq (.ite (.cmp .eq (.v 1) (.c (.int 3)))
  (.seq (.set (.one 7) (.ix (.lst (.cs (.c .non) (.cs (.bin .mul (.lst (.cs (.c (.int 1)) .nl)) (.v 6)) (.cs (.bin .mul (.tup (.cs (.c (.int 1)) .nl)) (.bin .add (.v 6) (.c (.int 1)))) (.cs (.bin .mul (.tup (.cs (.c (.int 0)) .nl)) (.v 6)) (.cs (.bin .mul (.tup (.cs (.c (.int 1000)) .nl)) (.v 6)) (.cs (.bin .mul (.tup (.cs (.c (.bl true)) .nl)) (.v 6)) .nl))))))) (.bin .mod (.v 2) (.c (.int 6)))))
 (.seq (.ite (.cmp .eq (.bin .mod (.v 3) (.c (.int 2))) (.c (.int 0)))
  (.ret (.call "too_few" (.cs (.v 0) (.cs (.v 4) (.cs (.v 5) (.cs (.v 7) .nl))))))
  .skip)
 (.ret (.call "run" (.cs (.v 0) (.cs (.v 4) (.cs (.v 5) (.cs (.v 7) (.cs (.c .non) .nl)))))))))
  .skip)
 (.seq (.ite (.cmp .eq (.v 1) (.c (.int 4)))
  (.seq (.set (.one 9) (.bin .mul (.tup (.cs (.c (.int 1)) .nl)) (.ix (.v 0) (.c (.int 0)))))
 (.seq (.set (.one 7) (.ix (.lst (.cs (.c .non) (.cs (.tup (.cs (.v 9) .nl)) (.cs (.lst (.cs (.bin .add (.v 9) (.tup (.cs (.c (.int 1)) .nl))) .nl)) (.cs (.lst (.cs (.c .non) .nl)) (.cs (.lst (.cs (.bi .list (.cs (.v 9) .nl)) .nl)) (.cs (.bin .mul (.lst (.cs (.v 9) .nl)) (.c (.int 41))) (.cs (.lst (.cs (.v 9) (.cs (.bin .mul (.tup (.cs (.c (.int 9973)) .nl)) (.bi .max (.cs (.c (.int 1)) (.cs (.ix (.v 0) (.c (.int 0))) .nl)))) .nl))) .nl)))))))) (.bin .mod (.v 2) (.c (.int 7)))))
 (.seq (.ite (.cmp .eq (.bin .mod (.v 3) (.c (.int 2))) (.c (.int 0)))
  (.ret (.call "answers" (.cs (.v 0) (.cs (.v 7) .nl))))
  .skip)
 (.ret (.call "run" (.cs (.v 0) (.cs (.v 4) (.cs (.v 5) (.cs (.bin .mul (.tup (.cs (.c (.int 9)) .nl)) (.v 6)) (.cs (.v 7) .nl))))))))))
  .skip)
 (.seq (.ite (.cmp .eq (.bin .mod (.v 3) (.c (.int 2))) (.c (.int 0)))
  (.ret (.call "unrolled" (.cs (.v 0) (.cs (.ix (.lst (.cs (.c (.int 1)) (.cs (.c (.int 4)) (.cs (.c (.bl true)) (.cs (.c .non) (.cs (.c (.str "2")) (.cs (.c (.int 0)) .nl))))))) (.bin .mod (.v 2) (.c (.int 6)))) .nl))))
  .skip)
 (.ret (.call "laid" (.cs (.v 0) (.cs (.v 4) (.cs (.v 5) (.cs (.ix (.lst (.cs (.neg (.c (.int 1))) (.cs (.c (.int 41)) (.cs (.c (.bl true)) (.cs (.c .non) (.cs (.c (.str "2")) (.cs (.c (.int 99)) .nl))))))) (.bin .mod (.v 2) (.c (.int 6)))) .nl)))))))))))))))⟩
noncomputable def mJ:Fn:=⟨1,5,(.seq (.set (.one 1) (.call "_law_loop" (.cs (.v 0) (.cs (.c (.int 2)) (.cs (.c (.int 4)) .nl)))))
 (.seq (.set (.one 2) (.call "_law_mixed" (.cs (.v 0) (.cs (.c (.int 0)) (.cs (.c (.int 6)) .nl)))))
 (.seq (.tryK "_law_asked" (.cs (.v 1) (.cs (.v 2) (.cs (.call "_law_mixed" (.cs (.v 0) (.cs (.c (.int 1)) (.cs (.bin .pow (.c (.int 10)) (.c (.int 6))) .nl)))) .nl))) ["NoLoop","NoGap","NoPlan","NoBoxes","NoInputs","NoRounds"] 2)
 (.ret (.c (.bl false))))))⟩
noncomputable def Ps:Prg:=[(("is_whole" : Str),eT),(("is_value" : Str),i6),(("is_row" : Str),cX),(("is_crew" : Str),ow),(("are_crews" : Str),mS),(("is_work_source" : Str),nC),(("is_source" : Str),oQ),(("are_starts" : Str),lY),(("is_work" : Str),kJ),(("are_works" : Str),lN),(("are_outs" : Str),lM),(("is_loop" : Str),lq),(("checked" : Str),lA),(("needs" : Str),jW),(("checked_gap" : Str),qy),(("is_plan" : Str),wJ),(("checked_plan" : Str),tW),(("checked_good_plan" : Str),xK),(("waiting" : Str),h_),(("busy_machines" : Str),gu),(("crowded_rest" : Str),iT),(("fault" : Str),lu),(("wrong" : Str),vF),(("plainly" : Str),pP),(("are_boxes" : Str),Gw),(("checked_boxes" : Str),BV),(("least_boxes" : Str),Hj),(("too_few" : Str),D8),(("is_given" : Str),GA),(("are_inputs" : Str),HC),(("checked_inputs" : Str),C6),(("start_rows" : Str),uA),(("answers" : Str),A6),(("checked_rounds" : Str),zM),(("laid_out" : Str),DU),(("high" : Str),C0),(("laid" : Str),xA),(("height" : Str),IE),(("parts" : Str),HW),(("run" : Str),kP),(("barring_ring" : Str),CY),(("ring" : Str),xE),(("barring_crew" : Str),AE),(("crowd" : Str),yP),(("is_bar" : Str),BY),(("ring_gap" : Str),GP),(("crew_gap" : Str),Ae),(("found_plan" : Str),Af),(("a_plan" : Str),Ja),(("shortest" : Str),BO),(("written" : Str),Df),(("shown" : Str),DN),(("checked_times" : Str),IL),(("unrolled" : Str),Dd),(("_law_cell_at" : Str),vH),(("_law_mixed" : Str),pG),(("_law_source" : Str),wX),(("_law_work" : Str),vQ),(("_law_loop" : Str),sN),(("_law_with_loop" : Str),yL),(("_law_with_gap" : Str),Aq),(("_law_with_plan" : Str),uh),(("_law_bad_plan" : Str),fW),(("_law_asked" : Str),cC)]
noncomputable def Pd:Prg:=(("law" : Str),mJ)::Ps
theorem hB:HB Pd:=⟨rfl,rfl,rfl,rfl,rfl,rfl,rfl,rfl,rfl,rfl,rfl,rfl,rfl⟩
theorem hG:HG Pd:=⟨rfl,rfl,rfl,rfl,rfl⟩
theorem hH:HP Pd:=⟨rfl,rfl,rfl,rfl,rfl,rfl,rfl,rfl,rfl⟩
section
variable{sub:Sub}{cf:Str->List D->M D}{σ:Sg}{S S1 S2:af}{a b e es r it el:E}{u v:EV.S}{c f:Str}{k:Nat}{x d:D}{t:Tg}
theorem fJ(h:ev sub cf a σ S=.exc c S1):evs sub cf (.cs a r) σ S=.exc c S1:=by rw[kq,h]; rfl
theorem fm(ha:ev sub cf a σ S=.ok x S1)(h:evs sub cf r σ S1=.exc c S2):evs sub cf (.cs a r) σ S=.exc c S2:=by rw[kq,ha,Res.aq,h]; rfl
theorem gB(h:evs sub cf es σ S=.exc c S1):ev sub cf (.call f es) σ S=.exc c S1:=by rw[wA,h]; rfl
theorem su{o:Bi}(h:evs sub cf es σ S=.exc c S1):ev sub cf (.bi o es) σ S=.exc c S1:=by rw[uT,h]; rfl
theorem sr(h:ev sub cf a σ S=.exc c S1):ev sub cf (.ix a b) σ S=.exc c S1:=by rw[pW,h]; rfl
theorem Ir(h:ev sub cf a σ S=.exc c S1):evT sub cf (.notN a) σ S=.exc c S1:=by rw[qx,h]; rfl
theorem oX(h:ev sub cf a σ S=.exc c S1):evI sub cf (.iSeq a) σ S=.exc c S1:=by rw[wD,h]; rfl
theorem ur(h:evI sub cf it σ S=.exc c S1):ev sub cf (.comp k el t it e) σ S=.exc c S1:=by rw[fX,h]; rfl
theorem IT(h:evI sub cf it σ S=.exc c S1):exec sub cf (.forS t it u) σ S=.exc c S1:=by rw[uW,aA,h]; rfl
theorem bq(h:ev sub cf e σ S=.exc c S1):exec sub cf (.ret e) σ S=.exc c S1:=by rw[vh,h]; rfl
theorem fG(h:ev sub cf e σ S=.exc c S1):exec sub cf (.ex e) σ S=.exc c S1:=by rw[kQ,h]; rfl
theorem eB(h:ev sub cf e σ S=.exc c S1):exec sub cf (.set t e) σ S=.exc c S1:=by rw[kX,h]; rfl
theorem Ju(h:evT sub cf a σ S=.exc c S1):exec sub cf (.ite a u v) σ S=.exc c S1:=by rw[nU,h]; rfl
theorem aK(h:exec sub cf u σ S=.exc c S1):exec sub cf (.seq u v) σ S=.exc c S1:=by rw[nj,h]; rfl
theorem dW{fs:WP}{j:Nat}{ds:WV}{R:Res D}(ha:ev sub cf a σ S=.ok (.int (j:Int)) S1)(hf:fs[j]?=some f)(hs:evs sub cf es σ S1=.ok ds S2)(h:cf f ds S2=R):ev sub cf (.callL fs a es) σ S=R:=by
 show(ev sub cf a σ>>=λk=>jO fs k>>=λf=>evs sub cf es σ>>=λds=>cf f ds) S=_;rw[aA,ha,Res.aq,aA]
 have e:jO fs (.int (j:Int)) S1=.ok f S1:=by
  show EV.guard (decide (0<=(j:Int))) (opt fs[((j:Int)).toNat]?) S1=_;rw[Zj (Xy j),ZL,hf]; rfl
 rw[e,Res.aq,aA,hs,Res.aq,h]
end
section
variable{sub:Sub}{n:Nat}{S:af}{d:D}
theorem fail{ds:WV}{f:Str}{F:Fn}{c:Str}{S1:af}(hP:Pd.lookup f=some F)(hl:ds.length=F.par)(hb:exec sub (aj sub Pd n) F.body (frame F ds) S=.exc c S1)(ht:S1.take S.length=S):aj sub Pd (n+1) f ds S=.exc c S:=by
 rw[fN hP hl,hb];show(if S1.take S.length=S then Res.exc c S else .exc c S1)=_;rw[Ze ht]
def NoL(sub:Sub)(S:af)(d:D):Prop:=∀n,aj sub Pd (n+3) "checked" [d] S=.exc "NoLoop" S
theorem ju(hS:aP S)(hd:RB.fit S.length d=true)(h:RB.aU d 4 4=false):NoL sub S d:=λn=>by
 have e:=RB.vR (sub:=sub) (P:=Pd) (n:=n) (d:=d) (lo:=4) (hi:=4) hB.row hS hd;rw[h] at e;have e2:aj sub Pd (n+2) "is_loop" [d] S=.ok (.bl false) S:=x_call (ds:=[d]) hB.loop rfl (b8 (aM (t_k (aX (bw (ao (aa (r_v rfl) (aa r_c (aa r_c ah))) e))) rfl) (aH r_c))) (bf rfl Zq);exact fail (ds:=[d]) hB.checked rfl (aK (aM (t_k (aX (bw (ao (aa (r_v rfl) ah) e2))) rfl) rfl)) Zq
section
variable(h:NoL sub S d)
include h
theorem dS{r:WV}{f:Str}{F:Fn}{u:EV.S}(hP:Pd.lookup f=some F)(hl:(d::r).length=F.par)(hb:F.body=.seq (.ex (.call "checked" (.cs (.v 0) .nl))) u):aj sub Pd (n+4) f (d::r) S=.exc "NoLoop" S :=
 fail hP hl (by rw[hb]; exact aK (fG (ao (aa (r_v rfl) ah) (h _)))) Zq
theorem kC{r:WV}{f:Str}{F:Fn}{u:EV.S}{t:Tg}{j:E}(hP:Pd.lookup f=some F)(hl:(d::r).length=F.par)(hb:F.body=.seq (.set t (.ix (.call "checked" (.cs (.v 0) .nl)) j)) u):aj sub Pd (n+4) f (d::r) S=.exc "NoLoop" S :=
 fail hP hl (by rw[hb]; exact aK (eB (sr (ao (aa (r_v rfl) ah) (h _))))) Zq
theorem uq:aj sub Pd (n+4) "needs" [d] S=.exc "NoLoop" S:=kC h rfl rfl rfl
theorem sf:aj sub Pd (n+4) "ring_gap" [d] S=.exc "NoLoop" S:=dS h rfl rfl rfl
theorem vv{x y:D}:aj sub Pd (n+4) "height" [d,x,y] S=.exc "NoLoop" S:=dS h rfl rfl rfl
theorem zo{f:Str}(hf:f∈(["checked","needs","plainly","ring_gap","crew_gap","shortest","shown"]:List Str)):aj sub Pd (n+5) f [d] S=.exc "NoLoop" S:=by
 simp only[Zm,ZM,Xf] at hf;rcases hf with rfl|rfl|rfl|rfl|rfl|rfl|rfl
 ·exact h (n+2)
 ·exact uq h
 ·exact kC h rfl rfl rfl
 ·exact sf h
 ·exact dS h rfl rfl rfl
 ·exact fail (ds:=[d]) rfl rfl (aK (eB (su (fJ (ao (aa (r_v rfl) ah) (sf h)))))) Zq
 ·exact fail (ds:=[d]) rfl rfl (bq (gB (fJ (ao (aa (r_v rfl) ah) (h _))))) Zq
theorem E1{f:Str}{x:D}(hf:f∈(["answers","ring","crowd","a_plan","unrolled"]:List Str)):aj sub Pd (n+5) f [d,x] S=.exc "NoLoop" S:=by
 simp only[Zm,ZM,Xf] at hf;rcases hf with rfl|rfl|rfl|rfl|rfl
 ·exact kC h rfl rfl rfl
 ·exact dS h rfl rfl rfl
 ·exact dS h rfl rfl rfl
 ·exact dS h rfl rfl rfl
 ·exact fail (ds:=[d,x]) rfl rfl (aK (eB (su (fJ (sr (ao (aa (r_v rfl) ah) (h _))))))) Zq
theorem Dh{f:Str}{x y:D}(hf:f∈(["wrong","is_bar","least_boxes","height","parts"]:List Str)):aj sub Pd (n+5) f [d,x,y] S=.exc "NoLoop" S:=by
 simp only[Zm,ZM,Xf] at hf;rcases hf with rfl|rfl|rfl|rfl|rfl
 ·exact dS h rfl rfl rfl
 ·exact fail (ds:=[d,x,y]) rfl rfl (aK (eB (ao (aa (r_v rfl) ah) (uq h)))) Zq
 ·exact dS h rfl rfl rfl
 ·exact vv h
 ·exact fail (ds:=[d,x,y]) rfl rfl (aK (eB (ao (aa (r_v rfl) (aa (r_v rfl) (aa (r_v rfl) ah))) (vv h)))) Zq
theorem ze{f:Str}{x y z:D}(hf:f∈(["too_few","laid"]:List Str)):aj sub Pd (n+5) f [d,x,y,z] S=.exc "NoLoop" S:=by
 simp only[Zm,ZM,Xf] at hf;rcases hf with rfl|rfl
 ·exact dS h rfl rfl rfl
 ·exact dS h rfl rfl rfl
theorem pick{fs:WP}{j:Nat}(hj:j<fs.length):∃f,fs[j]?=some f/\f∈fs:=⟨fs[j],Zb hj,Xr hj⟩
omit h in
theorem mG{cf:Str->List D->M D}{σ:Sg}{i:Nat}{a j:Int}(hv:bF σ i S=.ok (.int a) S):evT sub cf (.cmp .lt (.v i) (.c (.int j))) σ S=.ok (decide (a<j)) S:=aY (bE (r_v hv) r_c (ku _ _ _))
theorem EE{k:Nat}(hk:k<20):aj sub Pd (n+6) "_law_with_loop" [.int (k:Int),d] S=.exc "NoLoop" S:=by
 have lt:∀j:Int,evT sub (aj sub Pd (n+5)) (.cmp .lt (.v 0) (.c (.int j))) [some (.int (k:Int)),some d] S=.ok (decide ((k:Int)<j)) S:=λj=>mG rfl
 have sb:∀j:Nat,j<=k->ev sub (aj sub Pd (n+5)) (.bin .sub (.v 0) (.c (.int (j:Int)))) [some (.int (k:Int)),some d] S=.ok (.int ((k-j:Nat):Int)) S:=λj hj=>by
  rw[Int.natCast_sub hj]; exact aJ (r_v rfl) r_c (c9 _ _ _)
 refine fail (ds:=[.int (k:Int),d]) rfl rfl ?_ Zq
 by_cases h1:(k:Int)<7
 ·obtain⟨f,h2,h3⟩:=pick h (fs:=["checked","needs","plainly","ring_gap","crew_gap","shortest","shown"]) (j:=k) (by simp; omega);exact aK (aM (t_k (lt 7) (Zj h1)) (bq (dW (r_v rfl) h2 (aa (r_v rfl) ah) (zo h h3))))
 refine ak (aD (t_k (lt 7) (Zs h1)) aC) ?_
 by_cases h1:(k:Int)<12
 ·obtain⟨f,h2,h3⟩:=pick h (fs:=["answers","ring","crowd","a_plan","unrolled"]) (j:=k-7) (by simp; omega);exact aK (aM (t_k (lt 12) (Zj h1)) (bq (dW (sb 7 (by omega)) h2 (aa (r_v rfl) (aa r_c ah)) (E1 h h3))))
 refine ak (aD (t_k (lt 12) (Zs h1)) aC) ?_
 by_cases h1:(k:Int)<17
 ·obtain⟨f,h2,h3⟩:=pick h (fs:=["wrong","is_bar","least_boxes","height","parts"]) (j:=k-12) (by simp; omega);exact aK (aM (t_k (lt 17) (Zj h1)) (bq (dW (sb 12 (by omega)) h2 (aa (r_v rfl) (aa r_c (aa r_c ah))) (Dh h h3))))
 refine ak (aD (t_k (lt 17) (Zs h1)) aC) ?_
 by_cases h1:(k:Int)<19
 ·obtain⟨f,h2,h3⟩:=pick h (fs:=["too_few","laid"]) (j:=k-17) (by simp; omega);exact aK (aM (t_k (lt 19) (Zj h1)) (bq (dW (sb 17 (by omega)) h2 (aa (r_v rfl) (aa r_c (aa r_c (aa r_c ah)))) (ze h h3))))
 refine ak (aD (t_k (lt 19) (Zs h1)) aC) ?_;exact bq (ao (aa (r_v rfl) (aa r_c (aa r_c (aa r_c (aa r_c ah))))) (kC h rfl rfl rfl))
end
end
end K24

namespace K24
open PySem EV RL GO
section
variable{sub:Sub}{n:Nat}{S:af}{d:D}{l:Lp}
theorem Hr(hS:aP S)(ds:WV):aP (S++[.lst ds]):=λi c h=>by
 rcases WB i S.length with hi|hi
 ·rw[ZF hi] at h; exact hS i c h
 ·rw[ZI hi] at h
  cases k:i-S.length with
  | zero=>rw[k] at h; cases h; exact⟨_,rfl⟩
  | succ m=>rw[k] at h; cases h
def cQ(lo hi:Int)(d:D):Prop:=RB.aS d lo hi=false/\∀n,RB.fit n d=true
theorem nk{lo hi:Int}{f c:Str}{F:Fn}{u:EV.S}(hS:aP S)(h:cQ lo hi d)(hP:Pd.lookup f=some F)(hl:F.par=1)(hb:F.body=.seq (.ite (.not (.call "is_whole" (.cs (.v 0) (.cs (.c (.int lo)) (.cs (.c (.int hi)) .nl))))) (.rais c) .skip) u):aj sub Pd (n+2) f [d] S=.exc c S:=by
 have e:=RB.jR (sub:=sub) (P:=Pd) (n:=n) (lo:=lo) (hi:=hi) hB.whole hS (h.2 S.length);rw[h.1] at e;exact fail (ds:=[d]) hP hl.symm (by rw[hb]; exact aK (aM (t_k (aX (bw (ao (aa (r_v rfl) (aa r_c (aa r_c ah))) e))) rfl) rfl)) Zq
theorem j9(hS:aP S)(h:cQ 1 200 d):aj sub Pd (n+2) "checked_gap" [d] S=.exc "NoGap" S:=nk hS h rfl rfl rfl
variable(hl:l.WF)(h4:l.works.length<=4)
theorem cK(hl:l.WF):aj sub Pd (n+7) "checked" [l.toD] S=.ok l.toD S:=nV hB hl
theorem oA(hl:l.WF)(hS:aP S)(h:cQ 1 200 d){f g:Str}{F:Fn}(hP:Pd.lookup f=some F)(hp:F.par=2)(hb:F.body=.seq (.ex (.call "checked" (.cs (.v 0) .nl))) (.ret (.call g (.cs (.v 0) (.cs (.call "checked_gap" (.cs (.v 1) .nl)) .nl))))):aj sub Pd (n+8) f [l.toD,d] S=.exc "NoGap" S :=
 fail (ds:=[l.toD,d]) hP hp.symm (by rw[hb]; exact ak (bO (ao (aa (r_v rfl) ah) (cK hl))) (bq (gB (fm (r_v rfl) (fJ (ao (aa (r_v rfl) ah) (j9 hS h))))))) Zq
theorem gp(hl:l.WF)(hS:aP S)(h:cQ 1 200 d){r:WV}{f:Str}{F:Fn}{u:EV.S}(hP:Pd.lookup f=some F)(hp:(l.toD::d::r).length=F.par)(hb:F.body=.seq (.ex (.call "checked" (.cs (.v 0) .nl))) (.seq (.ex (.call "checked_gap" (.cs (.v 1) .nl))) u)):aj sub Pd (n+8) f (l.toD::d::r) S=.exc "NoGap" S :=
 fail hP hp (by rw[hb]; exact ak (bO (ao (aa (r_v rfl) ah) (cK hl))) (aK (fG (ao (aa (r_v rfl) ah) (j9 hS h))))) Zq
theorem xP(hl:l.WF)(h4:l.works.length<=4)(hS:aP S)(h:cQ 1 200 d){x:D}{f:Str}(hf:f∈(["wrong","is_bar","least_boxes","height","parts"]:List Str)):aj sub Pd (n+9) f [l.toD,d,x] S=.exc "NoGap" S:=by
 simp only[Zm,ZM,Xf] at hf;rcases hf with rfl|rfl|rfl|rfl|rfl
 ·exact gp hl hS h rfl rfl rfl
 ·exact fail (ds:=[l.toD,d,x]) rfl rfl (ak (aI (ao (aa (r_v rfl) ah) (pS (n:=n) hB hH.needs hl (by omega)))) (aK (fG (ao (aa (r_v rfl) ah) (j9 (Hr hS _) h))))) (bU _ _)
 ·exact gp hl hS h rfl rfl rfl
 ·exact gp hl hS h rfl rfl rfl
 ·exact fail (ds:=[l.toD,d,x]) rfl rfl (aK (eB (ao (aa (r_v rfl) (aa (r_v rfl) (aa (r_v rfl) ah))) (gp hl hS h rfl rfl rfl)))) Zq
theorem jk{fs:WP}{j:Nat}(hj:j<fs.length):∃f,fs[j]?=some f/\f∈fs:=⟨fs[j],Zb hj,Xr hj⟩
theorem GH(hl:l.WF)(h4:l.works.length<=4)(hS:aP S)(h:cQ 1 200 d){k:Nat}(hk:k<11):aj sub Pd (n+10) "_law_with_gap" [.int (k:Int),l.toD,d] S=.exc "NoGap" S:=by
 have lt:∀j:Int,evT sub (aj sub Pd (n+9)) (.cmp .lt (.v 0) (.c (.int j))) [some (.int (k:Int)),some l.toD,some d] S=.ok (decide ((k:Int)<j)) S:=λj=>mG rfl
 have sb:∀j:Nat,j<=k->ev sub (aj sub Pd (n+9)) (.bin .sub (.v 0) (.c (.int (j:Int)))) [some (.int (k:Int)),some l.toD,some d] S=.ok (.int ((k-j:Nat):Int)) S:=λj hj=>by
  rw[Int.natCast_sub hj]; exact aJ (r_v rfl) r_c (c9 _ _ _)
 refine fail (ds:=[.int (k:Int),l.toD,d]) rfl rfl ?_ Zq
 by_cases h1:(k:Int)<3
 ·obtain⟨f,h2,h3⟩:=jk (fs:=["ring","crowd","a_plan"]) (j:=k) (by simp; omega);refine aK (aM (t_k (lt 3) (Zj h1)) (bq (dW (r_v rfl) h2 (aa (r_v rfl) (aa (r_v rfl) ah)) ?_)));simp only[Zm,ZM,Xf] at h3;rcases h3 with rfl|rfl|rfl
  ·exact oA hl hS h rfl rfl rfl
  ·exact oA hl hS h rfl rfl rfl
  ·exact oA hl hS h rfl rfl rfl
 refine ak (aD (t_k (lt 3) (Zs h1)) aC) ?_
 by_cases h1:(k:Int)<8
 ·obtain⟨f,h2,h3⟩:=jk (fs:=["wrong","is_bar","least_boxes","height","parts"]) (j:=k-3) (by simp; omega);exact aK (aM (t_k (lt 8) (Zj h1)) (bq (dW (sb 3 (by omega)) h2 (aa (r_v rfl) (aa (r_v rfl) (aa r_c ah))) (xP hl h4 hS h h3))))
 refine ak (aD (t_k (lt 8) (Zs h1)) aC) ?_
 by_cases h1:(k:Int)<10
 ·obtain⟨f,h2,h3⟩:=jk (fs:=["too_few","laid"]) (j:=k-8) (by simp; omega);refine aK (aM (t_k (lt 10) (Zj h1)) (bq (dW (sb 8 (by omega)) h2 (aa (r_v rfl) (aa (r_v rfl) (aa r_c (aa r_c ah)))) ?_)));simp only[Zm,ZM,Xf] at h3;rcases h3 with rfl|rfl
  ·exact gp hl hS h rfl rfl rfl
  ·exact gp hl hS h rfl rfl rfl
 refine ak (aD (t_k (lt 10) (Zs h1)) aC) ?_;exact bq (ao (aa (r_v rfl) (aa (r_v rfl) (aa r_c (aa r_c (aa r_c ah))))) (fail (ds:=[l.toD,d,.non,.non,.non]) rfl rfl (ak (aI (ay (ao (aa (r_v rfl) ah) (cK hl)) r_c (aB rfl))) (aK (fG (ao (aa (r_v rfl) ah) (j9 hS h))))) Zq))
theorem oU{f:Str}{F:Fn}{el:E}{m:Nat}{g:D->Bool}(hS:aP S)(hd:RB.fit S.length d=true)(hm:m<=1000)(hP:Pd.lookup f=some F)(hF:F=⟨2,2,.ret (.and (.call "is_row" (.cs (.v 0) (.cs (.v 1) (.cs (.v 1) .nl)))) (.bi .all (.cs (.comp 2 el (.one 3) (.iSeq (.v 0)) .nl) .nl)))⟩)
  (hg:∀e,RB.fit S.length e=true->ev sub (aj sub Pd (n+2)) el [some d,some (.int (m:Int)),none,some e] S=.ok (.bl (g e)) S):aj sub Pd (n+3) f [d,.int (m:Int)] S=.ok (.bl (RB.aU d m m&&RB.tuB d g)) S:=by
 subst hF;have e:=RB.vR (sub:=sub) (P:=Pd) (n:=n+1) (lo:=(m:Int)) (hi:=(m:Int)) hB.row hS hd
 cases q:RB.aU d m m with
 | false =>
  rw[q] at e;exact x_call (ds:=[d,.int (m:Int)]) hP rfl (aH (G3 (ao (aa (r_v rfl) (aa (r_v rfl) (aa (r_v rfl) ah))) e))) (bf rfl Zq)
 | true =>
  rw[q] at e;obtain⟨ds,rfl,h1,h2⟩:=RB.Cz q
  have hc:ev sub (aj sub Pd (n+2)) (.comp 2 el (.one 3) (.iSeq (.v 0)) .nl) [some (.tup ds),some (.int (m:Int))] S=.ok (.loc S.length) (S++[.lst (ds.map λe=>.bl (g e))]) :=
   comp_map (s:=⟨ds,none,ds⟩) (g:=λe=>.bl (g e)) (dR (r_v rfl) rfl) rfl (λe he=>hg e (RB.iC.mp hd e he)) (by unfold aT; show ds.length<=_; omega)
  refine x_call (ds:=[.tup ds,.int (m:Int)]) hP rfl (aH (er (ao (aa (r_v rfl) (aa (r_v rfl) (aa (r_v rfl) ah))) e) (aL (aa hc ah) (jV ds g)))) (bf rfl (bU _ _))
def noB(lo hi:Int)(m:Nat)(d:D):Prop:=(RB.aU d m m&&RB.tuB d λe=>RB.aS e lo hi)=false
theorem vI{lo hi:Int}{f g c:Str}{F:Fn}{u:EV.S}(hl:l.WF)(hS:aP S)(hd:RB.fit S.length d=true)(h:noB lo hi l.works.length d)(hg:Pd.lookup g=some ⟨2,2,.ret (.and (.call "is_row" (.cs (.v 0) (.cs (.v 1) (.cs (.v 1) .nl)))) (.bi .all (.cs (.comp 2 (.call "is_whole" (.cs (.v 3) (.cs (.c (.int lo)) (.cs (.c (.int hi)) .nl)))) (.one 3) (.iSeq (.v 0)) .nl) .nl)))⟩)
  (hP:Pd.lookup f=some F) (hp:F.par=2) (hb:F.body=.seq (.ite (.not (.call g (.cs (.v 1) (.cs (.bi .len (.cs (.ix (.v 0) (.c (.int 2))) .nl)) .nl)))) (.rais c) .skip) u):aj sub Pd (n+4) f [l.toD,d] S=.exc c S:=by
 have h8:=hl.nworks.2;have e:=oU (sub:=sub) (n:=n) (S:=S) (d:=d) (m:=l.works.length) (g:=λe=>RB.aS e lo hi) hS hd (by omega) hg rfl λe he=>ao (aa (r_v rfl) (aa r_c (aa r_c ah))) (RB.jR (n:=n+1) hB.whole hS he)
 rw[h] at e;have el:biD sub .len [.tup (l.works.map Wk.toD)] S=.ok (.int ((l.works.length:Nat):Int)) S:=by rw[cR,Zi]
 exact fail (ds:=[l.toD,d]) hP hp.symm (by rw[hb]; exact aK (aM (t_k (aX (bw (ao (aa (r_v rfl) (aa (aL (aa (ay (r_v rfl) r_c (aB rfl)) ah) el) ah)) e))) rfl) rfl)) Zq
theorem pQ(hl:l.WF)(hS:aP S)(hd:RB.fit S.length d=true)(h:noB 0 999 l.works.length d):aj sub Pd (n+4) "checked_plan" [l.toD,d] S=.exc "NoPlan" S:=vI hl hS hd h rfl rfl rfl rfl
theorem DB(hl:l.WF)(hS:aP S)(hd:RB.fit S.length d=true)(h:noB 1 999 l.works.length d):aj sub Pd (n+4) "checked_boxes" [l.toD,d] S=.exc "NoBoxes" S:=vI hl hS hd h rfl rfl rfl rfl
def NoP(sub:Sub)(S:af)(l:Lp)(g:Nat)(d:D):Prop:=∀n,aj sub Pd (n+10) "checked_good_plan" [l.toD,.int (g:Int),d] S=.exc "NoPlan" S
theorem BS(hl:l.WF)(hS:aP S)(hd:RB.fit S.length d=true)(h:noB 0 999 l.works.length d){g:Nat}:NoP sub S l g d:=λn =>
 fail (ds:=[l.toD,.int (g:Int),d]) rfl rfl (aK (Ju (Ir (gB (fm (r_v rfl) (fm (r_v rfl) (fJ (ao (aa (r_v rfl) (aa (r_v rfl) ah)) (pQ hl hS hd h))))))))) Zq
theorem wQ(hl:l.WF)(h4:l.works.length<=4){g:Nat}(h1:1<=g)(h2:g<=200){pl:List Nat}(hpl:pl.length=l.works.length)(ht:∀t∈pl,t<=999):evT sub (aj sub Pd (n+9)) (.notN (.call "fault" (.cs (.v 0) (.cs (.v 1) (.cs (.call "checked_plan" (.cs (.v 0) (.cs (.v 2) .nl))) .nl))))) [some l.toD,some (.int (g:Int)),some (.tup (pl.map au))] S=.ok (!decide (dQ l g pl=.non)) S :=
 iN (ao (aa (r_v rfl) (aa (r_v rfl) (aa (ao (aa (r_v rfl) (aa (r_v rfl) ah)) (De hB hH (by omega) hpl ht)) ah))) (G_ hB hH.needs hH.waiting hH.busy hH.crowded hH.fault hl (by omega) h1 (by omega) hpl))
theorem xU(hl:l.WF)(h4:l.works.length<=4){g:Nat}(h1:1<=g)(h2:g<=200){pl:List Nat}(hpl:pl.length=l.works.length)(ht:∀t∈pl,t<=999)(hf:dQ l g pl=.non):aj sub Pd (n+10) "checked_good_plan" [l.toD,.int (g:Int),.tup (pl.map au)] S=.ok (.tup (pl.map au)) S :=
 x_call (ds:=[l.toD,.int (g:Int),.tup (pl.map au)]) rfl rfl (ak (aD (t_k (wQ hl h4 h1 h2 hpl ht) (by rw[hf]; rfl)) aC) (aH (r_v rfl))) (bf (n8 pl) Zq)
theorem ER(hl:l.WF)(h4:l.works.length<=4){g:Nat}(h1:1<=g)(h2:g<=200){pl:List Nat}(hpl:pl.length=l.works.length)(ht:∀t∈pl,t<=999)(hf:dQ l g pl≠.non):NoP sub S l g (.tup (pl.map au)):=λn =>
 fail (ds:=[l.toD,.int (g:Int),.tup (pl.map au)]) rfl rfl (aK (aM (t_k (wQ hl h4 h1 h2 hpl ht) (by rw[Zs hf]; rfl)) rfl)) Zq
section
variable{g:Nat}
theorem fU(h1:1<=g)(h2:g<=200):aj sub Pd (n+2) "checked_gap" [.int (g:Int)] S=.ok (.int (g:Int)) S:=G8 hB hH h1 h2
theorem lI(hl:l.WF)(h1:1<=g)(h2:g<=200)(h:NoP sub S l g d){r:WV}{f:Str}{F:Fn}{u:EV.S}(hP:Pd.lookup f=some F)(hp:(l.toD::.int (g:Int)::d::r).length=F.par)(hb:F.body=.seq (.ex (.call "checked" (.cs (.v 0) .nl))) (.seq (.ex (.call "checked_gap" (.cs (.v 1) .nl))) (.seq (.ex (.call "checked_good_plan" (.cs (.v 0) (.cs (.v 1) (.cs (.v 2) .nl))))) u))):aj sub Pd (n+11) f (l.toD::.int (g:Int)::d::r) S=.exc "NoPlan" S :=
 fail hP hp (by rw[hb]; exact ak (bO (ao (aa (r_v rfl) ah) (cK hl))) (ak (bO (ao (aa (r_v rfl) ah) (fU h1 h2))) (aK (fG (ao (aa (r_v rfl) (aa (r_v rfl) (aa (r_v rfl) ah))) (h n)))))) Zq
theorem vB(hl:l.WF)(h1:1<=g)(h2:g<=200)(h:NoP sub S l g d):aj sub Pd (n+11) "height" [l.toD,.int (g:Int),d] S=.exc "NoPlan" S :=
 fail (ds:=[l.toD,.int (g:Int),d]) rfl rfl (ak (bO (ao (aa (r_v rfl) ah) (cK hl))) (ak (bO (ao (aa (r_v rfl) ah) (fU h1 h2))) (bq (gB (fm (r_v rfl) (fJ (ao (aa (r_v rfl) (aa (r_v rfl) (aa (r_v rfl) ah))) (h n)))))))) Zq
theorem we(hl:l.WF)(h1:1<=g)(h2:g<=200)(h:NoP sub S l g d){k:Nat}(hk:k<7)(h3:k=3->∀n,aj sub Pd (n+4) "checked_plan" [l.toD,d] S=.exc "NoPlan" S):aj sub Pd (n+13) "_law_with_plan" [.int (k:Int),l.toD,.int (g:Int),d] S=.exc "NoPlan" S:=by
 have lt:∀j:Int,evT sub (aj sub Pd (n+12)) (.cmp .lt (.v 0) (.c (.int j))) [some (.int (k:Int)),some l.toD,some (.int (g:Int)),some d] S=.ok (decide ((k:Int)<j)) S:=λj=>mG rfl
 have sb:∀j:Nat,j<=k->ev sub (aj sub Pd (n+12)) (.bin .sub (.v 0) (.c (.int (j:Int)))) [some (.int (k:Int)),some l.toD,some (.int (g:Int)),some d] S=.ok (.int ((k-j:Nat):Int)) S:=λj hj=>by
  rw[Int.natCast_sub hj]; exact aJ (r_v rfl) r_c (c9 _ _ _)
 refine fail (ds:=[.int (k:Int),l.toD,.int (g:Int),d]) rfl rfl ?_ Zq
 by_cases q:(k:Int)<4
 ·have go:∀{f:Str},(["least_boxes","height","parts","wrong"]:List Str)[k]?=some f->aj sub Pd (n+12) f [l.toD,.int (g:Int),d] S=.exc "NoPlan" S->exec sub (aj sub Pd (n+12)) uh.body [some (.int (k:Int)),some l.toD,some (.int (g:Int)),some d] S=.exc "NoPlan" S:=λh2 h3 =>
   aK (aM (t_k (lt 4) (Zj q)) (bq (dW (r_v rfl) h2 (aa (r_v rfl) (aa (r_v rfl) (aa (r_v rfl) ah))) h3)))
  have hk4:k=0\/k=1\/k=2\/k=3:=by omega
  rcases hk4 with rfl|rfl|rfl|rfl
  ·exact go rfl (lI hl h1 h2 h rfl rfl rfl)
  ·exact go rfl (vB hl h1 h2 h)
  ·exact go rfl (fail (ds:=[l.toD,.int (g:Int),d]) rfl rfl (aK (eB (ao (aa (r_v rfl) (aa (r_v rfl) (aa (r_v rfl) ah))) (vB hl h1 h2 h)))) Zq)
  ·exact go rfl (fail (ds:=[l.toD,.int (g:Int),d]) rfl rfl (ak (bO (ao (aa (r_v rfl) ah) (cK hl))) (ak (bO (ao (aa (r_v rfl) ah) (fU h1 h2))) (bq (gB (fm (r_v rfl) (fm (r_v rfl) (fJ (ao (aa (r_v rfl) (aa (r_v rfl) ah)) (h3 rfl _))))))))) Zq)
 refine ak (aD (t_k (lt 4) (Zs q)) aC) ?_
 by_cases q:(k:Int)<6
 ·obtain⟨f,h2',h3'⟩:=jk (fs:=["too_few","laid"]) (j:=k-4) (by simp; omega);refine aK (aM (t_k (lt 6) (Zj q)) (bq (dW (sb 4 (by omega)) h2' (aa (r_v rfl) (aa (r_v rfl) (aa (r_v rfl) (aa r_c ah)))) ?_)));simp only[Zm,ZM,Xf] at h3';rcases h3' with rfl|rfl
  ·exact lI hl h1 h2 h rfl rfl rfl
  ·exact lI hl h1 h2 h rfl rfl rfl
 refine ak (aD (t_k (lt 6) (Zs q)) aC) ?_;exact bq (ao (aa (r_v rfl) (aa (r_v rfl) (aa (r_v rfl) (aa r_c (aa r_c ah))))) (fail (ds:=[l.toD,.int (g:Int),d,.non,.non]) rfl rfl (ak (aI (ay (ao (aa (r_v rfl) ah) (cK hl)) r_c (aB rfl))) (ak (bO (ao (aa (r_v rfl) ah) (fU h1 h2))) (aK (fG (ao (aa (r_v rfl) (aa (r_v rfl) (aa (r_v rfl) ah))) (h _)))))) Zq))
end
end
end K24

namespace K24
open PySem EV RL GO
section
variable{sub:Sub}{n:Nat}{S:af}{d:D}{l:Lp}{g:Nat}
set_option genInjectivity false in
structure GdP(l:Lp)(g:Nat)(pl:List Nat):Prop where
 wf:l.WF
 four:l.works.length<=4
 one:1<=g
 gap:g<=200
 len:pl.length=l.works.length
 low:∀t∈pl,t<=999
 good:dQ l g pl=.non
variable{pl:List Nat}(G:GdP l g pl)
include G
theorem GdP.run:aj sub Pd (n+10) "checked_good_plan" [l.toD,.int (g:Int),.tup (pl.map au)] S=.ok (.tup (pl.map au)) S:=xU G.wf G.four G.one G.gap G.len G.low G.good
theorem BQ(h:∀n,aj sub Pd (n+4) "checked_boxes" [l.toD,d] S=.exc "NoBoxes" S):aj sub Pd (n+11) "too_few" [l.toD,.int (g:Int),.tup (pl.map au),d] S=.exc "NoBoxes" S :=
 fail (ds:=[l.toD,.int (g:Int),.tup (pl.map au),d]) rfl rfl (ak (bO (ao (aa (r_v rfl) ah) (cK G.wf))) (ak (bO (ao (aa (r_v rfl) ah) (fU G.one G.gap))) (ak (bO (ao (aa (r_v rfl) (aa (r_v rfl) (aa (r_v rfl) ah))) (GdP.run G))) (aK (fG (ao (aa (r_v rfl) (aa (r_v rfl) ah)) (h _))))))) Zq
theorem pq{x y:D}{c:Str}{S1:af}{u:EV.S}(hu:kP.body=.seq (.set (.one 5) (.ix (.call "checked" (.cs (.v 0) .nl)) (.c (.int 2)))) (.seq (.ex (.call "checked_gap" (.cs (.v 1) .nl))) (.seq (.ex (.call "checked_good_plan" (.cs (.v 0) (.cs (.v 1) (.cs (.v 2) .nl))))) u)))
  (h:exec sub (aj sub Pd (n+10)) u [some l.toD,some (.int (g:Int)),some (.tup (pl.map au)),some x,some y,some (.tup (l.works.map Wk.toD)),none,none,none,none,none,none,none,none,none] S=.exc c S1) (ht:S1.take S.length=S):aj sub Pd (n+11) "run" [l.toD,.int (g:Int),.tup (pl.map au),x,y] S=.exc c S :=
 fail (ds:=[l.toD,.int (g:Int),.tup (pl.map au),x,y]) (show Has Pd "run" kP from rfl) rfl (by rw[hu]; exact ak (aI (ay (ao (aa (r_v rfl) ah) (cK G.wf)) r_c (aB rfl))) (ak (bO (ao (aa (r_v rfl) ah) (fU G.one G.gap))) (ak (bO (ao (aa (r_v rfl) (aa (r_v rfl) (aa (r_v rfl) ah))) (GdP.run G))) h))) ht
theorem GQ{y:D}(h:∀n,aj sub Pd (n+4) "checked_boxes" [l.toD,d] S=.exc "NoBoxes" S):aj sub Pd (n+11) "run" [l.toD,.int (g:Int),.tup (pl.map au),d,y] S=.exc "NoBoxes" S :=
 pq G rfl (aK (eB (ur (oX (ao (aa (r_v rfl) (aa (r_v rfl) ah)) (h _)))))) Zq
theorem Ep(hS:aP S)(h:cQ 0 40 d):aj sub Pd (n+11) "laid" [l.toD,.int (g:Int),.tup (pl.map au),d] S=.exc "NoRounds" S :=
 fail (ds:=[l.toD,.int (g:Int),.tup (pl.map au),d]) rfl rfl (ak (bO (ao (aa (r_v rfl) ah) (cK G.wf))) (ak (bO (ao (aa (r_v rfl) ah) (fU G.one G.gap))) (ak (bO (ao (aa (r_v rfl) (aa (r_v rfl) (aa (r_v rfl) ah))) (GdP.run G))) (bq (gB (fm (r_v rfl) (fm (r_v rfl) (fJ (ao (aa (r_v rfl) ah) (nk (f:="checked_rounds") hS h rfl rfl rfl)))))))))) Zq
omit G
theorem Iz(hl:l.WF)(hS:aP S)(h:cQ 2 3 d):aj sub Pd (n+8) "unrolled" [l.toD,d] S=.exc "NoRounds" S :=
 fail (ds:=[l.toD,d]) rfl rfl (ak (aI (aL (aa (ay (ao (aa (r_v rfl) ah) (cK hl)) r_c (aB rfl)) ah) cR)) (aK (fG (ao (aa (r_v rfl) ah) (nk (f:="checked_times") hS h rfl rfl rfl))))) Zq
theorem Ct(hS:aP S)(hd:RB.fit S.length d=true){m:Nat}(hm:m<=1000):aj sub Pd (n+4) "is_given" [d,.int (m:Int)] S=.ok (.bl (RB.aU d m m&&RB.tuB d λe=>RB.aS e 0 9972)) S :=
 oU (n:=n+1) hS hd hm rfl rfl λe he=>ao (aa (r_v rfl) ah) (RB.Dw (n:=n+1) hB.whole hB.value hS he)
def iH(m:Nat)(S:af)(d:D):Prop:=(d=.non\/∃ds,d=.tup ds)\/∃c ds,d=.loc c/\S[c]?=some (.lst ds)/\(40<ds.length\/(ds.length<=40/\(∀e∈ds,RB.fit S.length e=true)/\(ds.all λe=>RB.aU e m m&&RB.tuB e λe=>RB.aS e 0 9972)=false))
theorem qj(hl:l.WF)(hS:aP S)(h:iH l.streams S d):aj sub Pd (n+6) "checked_inputs" [l.toD,d] S=.exc "NoInputs" S:=by
 have hs:=hl.streams
 have ai:aj sub Pd (n+5) "are_inputs" [d,.int (l.streams:Int)] S=.ok (.bl false) S:=by
  rcases h with h|⟨c,ds,rfl,hc,h⟩
  ·have e:bH sub S d .list=some false:=by rcases h with rfl|⟨ds,rfl⟩<;>rfl
   exact x_call (ds:=[d,.int (l.streams:Int)]) rfl rfl (b8 (aM (qK (t_k (aX (fZ (aL (aa (r_v rfl) ah) (fQ e)))) rfl)) (aH r_c))) (bf rfl Zq)
  ·have e:bH sub S (.loc c) .list=some true:=by
    show(match S[c]?,Ty.list with|_,.cls _=>none|some (.lst _),.list=>some true|some (.lst _),_=>some false|some (.dct _),_=>none|some (.fdc _),_=>none|none,_=>none)=_;rw[hc]
   have t1:evT sub (aj sub Pd (n+4)) (.or (.not (.bi (.inst .list) (.cs (.v 0) .nl))) (.cmp .gt (.bi .len (.cs (.v 0) .nl)) (.c (.int 40)))) [some (.loc c),some (.int (l.streams:Int))] S=.ok (decide ((40:Int)<(ds.length:Int))) S :=
    cZ (t_k (aX (fZ (aL (aa (r_v rfl) ah) (fQ e)))) rfl) (aY (bE (aL (aa (r_v rfl) ah) (nY hc)) r_c (lK _ _ _)))
   rcases h with h|⟨h,hf,hall⟩
   ·exact x_call (ds:=[.loc c,.int (l.streams:Int)]) rfl rfl (b8 (aM (t_k t1 (Zj (by omega))) (aH r_c))) (bf rfl Zq)
   ·have hcm:ev sub (aj sub Pd (n+4)) (.comp 2 (.call "is_given" (.cs (.v 3) (.cs (.v 1) .nl))) (.one 3) (.iSeq (.v 0)) .nl) [some (.loc c),some (.int (l.streams:Int))] S=.ok (.loc S.length) (S++[.lst (ds.map λe=>.bl (RB.aU e l.streams l.streams&&RB.tuB e λe=>RB.aS e 0 9972))]) :=
     comp_map (s:=⟨ds,some c,ds⟩) (g:=λe=>.bl (RB.aU e l.streams l.streams&&RB.tuB e λe=>RB.aS e 0 9972)) (dR (r_v rfl) (oS hc)) (yx (.inr ⟨c,rfl,hc⟩)) (λe he=>ao (aa (r_v rfl) (aa (r_v rfl) ah)) (Ct hS (hf e he) (by omega))) (by unfold aT; show ds.length<=_; omega)
    have ha:=jV (sub:=sub) (S:=S) ds λe=>RB.aU e l.streams l.streams&&RB.tuB e λe=>RB.aS e 0 9972
    rw[hall] at ha;exact x_call (ds:=[.loc c,.int (l.streams:Int)]) rfl rfl (ak (aD (t_k t1 (Zs (by omega))) aC) (aH (aL (aa hcm ah) ha))) (bf rfl (bU _ _))
 exact fail (ds:=[l.toD,d]) rfl rfl (aK (aM (t_k (aX (bw (ao (aa (r_v rfl) (aa (ay (r_v rfl) r_c (aB rfl)) ah)) ai))) rfl) rfl)) Zq
noncomputable def d8(works:List Wk)(b:Nat):List Int:=works.map λw=>w.starts.getD b 0
theorem IB{works:List Wk}(hn:works.length<=1000)(hw:∀w∈works,w.starts.length=3):aj sub Pd (n+1) "start_rows" [.tup (works.map Wk.toD)] S =
  .ok (.loc S.length) (S++[.lst [.loc (S.length+1),.loc (S.length+2),.loc (S.length+3)],.lst ((d8 works 2).map .int),.lst ((d8 works 1).map .int),.lst ((d8 works 0).map .int)]):=by
 have turn:∀(b:Nat) (_:b<3) (xs:WV) (U:af) (_:xs.length<=10),exec sub (aj sub Pd n) (.ex (.me .append (.v 1) (.cs (.comp 2 (.ix (.ix (.v 4) (.c (.int 4))) (.bin .sub (.v 2) (.c (.int 1)))) (.one 4) (.iSeq (.v 0)) .nl) .nl))) [some (.tup (works.map Wk.toD)),some (.loc S.length),some (.int ((b:Int)+1))] (S++.lst xs::U) =
   .ok (.nx [some (.tup (works.map Wk.toD)),some (.loc S.length),some (.int ((b:Int)+1))]) (S++.lst (xs++[.loc (S.length+(U.length+1))])::(U++[.lst ((d8 works b).map .int)])):=λb hb xs U hx=>by
  have c:=nu (sub:=sub) (cf:=aj sub Pd n) (k:=2) (i:=4) (el:=.ix (.ix (.v 4) (.c (.int 4))) (.bin .sub (.v 2) (.c (.int 1)))) (it:=.iSeq (.v 0)) (σ:=[some (.tup (works.map Wk.toD)),some (.loc S.length),some (.int ((b:Int)+1))]) (S:=S++.lst xs::U) (S1:=S++.lst xs::U) (ks:=works) (f:=Wk.toD) (g:=λw=>.int (w.starts.getD b 0)) (o:=none) (raw:=works.map Wk.toD)
   (dR (r_v rfl) rfl) rfl (λw hm=>by
    have hb':b<w.starts.length:=(hw w hm).symm▸hb;refine ay (ay (r_v rfl) r_c (aB rfl)) (aJ (r_v rfl) r_c (c9 _ _ _)) (aB ?_);rw[Int.add_sub_cancel,iP,ZJ,Zu,Zb hb']; rfl) (by unfold aT; omega)
  rw[show(works.map λw=>D.int (w.starts.getD b 0))=(d8 works b).map .int by unfold d8; rw[X3]; rfl,Zt,Qg,ZG,Z0] at c;exact bO (jL (r_v rfl) (aa c ah) (wK (by omega)))
 have loop:=c_ (sub:=sub) (cf:=aj sub Pd n) (t:=.one 2) (σ:=[some (.tup (works.map Wk.toD)),some (.loc S.length),none]) (s:=⟨[.int 3,.int 2,.int 1],none,[]⟩) (wu (S:=S++[.lst []]) (is:=[3,2,1]) (aa (r_c (d:=.int 3)) (aa (r_c (d:=.int 0)) (aa (iQ (i:=1) r_c) ah))) rfl)
  (gy rfl (eG (turn 2 (by decide) [] [] (by decide))) (gy rfl (eG (turn 1 (by decide) _ _ (by exact X7 rfl))) (gy rfl (eG (turn 0 (by decide) _ _ (by exact X7 rfl))) (iE _ _ _ _))))
 refine x_call (ds:=[.tup (works.map Wk.toD)]) (show Has Pd "start_rows" uA from rfl) rfl (ak (aI (br ah rfl)) (ak loop (aH (r_v rfl)))) ?_;unfold leave;rw[Ze (bU _ _),Zg (by show ¬decide (S.length<S.length)=true; simp)];simp only[dM];rw[Zg]
 ·rfl
 show ¬(D.lows S.length [.loc (S.length+1),.loc (S.length+2),.loc (S.length+3)])=true;simp[D.lows,D.low]
theorem se{T:af}(hS:aP S)(hT:∀c∈T,∃ds,c=.lst ds):aP (S++T):=λi c h=>by
 rcases WB i S.length with hi|hi
 ·rw[ZF hi] at h; exact hS i c h
 ·rw[ZI hi] at h; exact hT c (ZB h)
theorem Hg(hl:l.WF)(hS:aP S)(h:∀X,iH l.streams (S++X) d):aj sub Pd (n+8) "answers" [l.toD,d] S=.exc "NoInputs" S:=by
 have h8:=hl.nworks.2
 have e:=IB (sub:=sub) (n:=n+6) (S:=S) (works:=l.works) (by omega) λw hw=>by
  obtain⟨i,hi⟩:=ZH hw;exact(hl.works i w hi).three
 generalize hT:[Cell.lst [.loc (S.length+1),.loc (S.length+2),.loc (S.length+3)],.lst ((d8 l.works 2).map .int),.lst ((d8 l.works 1).map .int),.lst ((d8 l.works 0).map .int)]=T at e
 have lT:∀c∈T,∃ds,c=.lst ds:=by
  rw[<- hT];intro c hc;simp only[Zm,ZM,Xf] at hc;rcases hc with rfl|rfl|rfl|rfl<;>exact⟨_,rfl⟩
 have e2:=qj (sub:=sub) (n:=n+1) (S:=S++(T++[.lst []])) hl (se hS λc hc=>(ZQ.mp hc).elim (lT c) λz=>⟨[],ZN.mp z⟩) (h _);rw[<- Zt] at e2;exact fail (ds:=[l.toD,d]) rfl rfl (ak (aI (ay (ao (aa (r_v rfl) ah) (cK hl)) r_c (aB rfl))) (ak (aI (ao (aa (r_v rfl) ah) e)) (ak (aI (br ah rfl)) (aK (IT (oX (ao (aa (r_v rfl) (aa (r_v rfl) ah)) e2))))))) (by rw[Zt]; exact bU _ _)
end
end K24

namespace K24
open PySem EV RL GO
def bI(G:af):Prop:=∀c∈G,∃xs,c=.lst xs
theorem bI.app{G G':af}(h:bI G)(h':bI G'):bI (G++G'):=λc hc=>(ZQ.mp hc).elim (h c) (h' c)
theorem bI.one(xs:WV):bI [.lst xs]:=λc hc=>⟨xs,ZN.mp hc⟩
section
variable{sub:Sub}{cf:Str->List D->M D}{σ:Sg}{S:af}{k i:Nat}{el it:E}{raw:WV}
theorem uQ{s:Src}{fn:D->M (Option D)}(hs:∀T,aG s T=.ok () T):∀(ds:WV) (T:af),(∀d∈ds,∀T,∃y G,fn d T=.ok (some y) (T++G)/\bI G)->∃ys G,bL s fn ds T=.ok ys (T++G)/\ys.length=ds.length/\bI G
 | [],T,_=>⟨[],[],by rw[oZ,hs T,Xn]; rfl,rfl,λc h=>by cases h⟩
 | d::r,T,H=>by
  obtain⟨y,G,e,hG⟩:=H d Zp T;obtain⟨ys,G',e',hl,hG'⟩:=uQ hs r (T++G) λx hx=>H x (Zr _ hx)
  exact⟨y::ys,G++G',by rw[ly,hs T,Res.aq,e,Res.aq,e',<- Zt]; rfl,by rw[Z0,Z0,hl],hG.app hG'⟩
theorem Em{ds:WV}(hi:evI sub cf it σ S=.ok ⟨ds,none,raw⟩ S)(hg:∀d∈ds,∀T,∃y G,ev sub cf el ((σ++List.replicate k none).set i (some d)) T=.ok y (T++G)/\bI G)(hz:ds.length<=aT):∃a G,ev sub cf (.comp k el (.one i) it .nl) σ S=.ok (.loc a) (S++G)/\bI G:=by
 obtain⟨ys,G,e,hl,hG⟩:=uQ (s:=⟨ds,none,raw⟩) (fn:=λd=>aO (.one i) d (σ++List.replicate k none)>>=λσ'=>(if E.bD .nl=true then pure true else evT sub cf .nl σ')>>=λb=>if b=true then ev sub cf el σ'>>=λy=>pure (some y) else pure none) (λ_=>rfl) ds S (λd hd T=>by
  obtain⟨y,G,e,hG⟩:=hg d hd T;refine⟨y,G,?_,hG⟩;rw[aA,gz,Res.aq,aA];show((ev sub cf el ((σ++List.replicate k none).set i (some d)))>>=λy=>pure (some y)) T=_;rw[aA,e,Res.aq]; rfl)
 refine⟨(S++G).length,G++[.lst ys],?_,hG.app (bI.one ys)⟩;rw[fX,hi];simp only[Res.aq];rw[eY e];simp only[Res.aq];rw[Ze (show fits _=true from Zj (by rw[hl]; exact hz)),Zt]
end
section
variable{sub:Sub}{n:Nat}{S:af}{d:D}{l:Lp}{g:Nat}{pl:List Nat}
theorem nine{m:Nat}:(RB.aU (.tup (List.replicate m (.int 9))) m m&&RB.tuB (.tup (List.replicate m (.int 9))) λe=>RB.aS e 1 999)=true:=by
 rw[Zl];constructor
 ·show(decide ((m:Int)<=((List.replicate m (D.int 9)).length:Int))&&decide (((List.replicate m (D.int 9)).length:Int)<=(m:Int)))=true;rw[Z9,Zj (Int.le_refl _)]; rfl
 ·show(List.replicate m (D.int 9)).all _=true;rw[Z7];intro e he;rw[(Qq.mp he).2]; rfl
theorem E2{m:Nat}{d:D}(h:d.low 0=true):D.lows 0 (List.replicate m d)=true:=by
 induction m with
 | zero=>rfl
 | succ k ih=>rw[Z3]; show(d.low 0&&_)=true; rw[h,ih]; rfl
theorem fS{m k:Nat}{d:D}(h:RB.fit k d=true):RB.fits' k (List.replicate m d)=true:=RB.iC.mpr λe he=>by rw[(Qq.mp he).2]; exact h
theorem C5(hl:l.WF)(hS:aP S):aj sub Pd (n+4) "checked_boxes" [l.toD,.tup (List.replicate l.works.length (.int 9))] S=.ok (.tup (List.replicate l.works.length (.int 9))) S:=by
 have h8:=hl.nworks.2;have e:=oU (sub:=sub) (n:=n) (S:=S) (f:="are_boxes") (d:=.tup (List.replicate l.works.length (.int 9))) (m:=l.works.length) (g:=λe=>RB.aS e 1 999) hS (fS rfl) (by omega) rfl rfl λe he=>ao (aa (r_v rfl) (aa r_c (aa r_c ah))) (RB.jR (n:=n+1) hB.whole hS he)
 rw[nine] at e;have el:biD sub .len [.tup (l.works.map Wk.toD)] S=.ok (.int ((l.works.length:Nat):Int)) S:=by rw[cR,Zi]
 exact x_call (ds:=[l.toD,.tup (List.replicate l.works.length (.int 9))]) rfl rfl (ak (aD (t_k (aX (bw (ao (aa (r_v rfl) (aa (aL (aa (ay (r_v rfl) r_c (aB rfl)) ah) el) ah)) e))) rfl) aC) (aH (r_v rfl))) (bf (E2 rfl) Zq)
theorem HA(G:GdP l g pl)(hS:aP S)(h:∀X,iH l.streams (S++X) d):aj sub Pd (n+11) "run" [l.toD,.int (g:Int),.tup (pl.map au),.tup (List.replicate l.works.length (.int 9)),d] S=.exc "NoInputs" S:=by
 have h8:=G.wf.nworks.2
 obtain⟨a,X,e,hX⟩:=Em (sub:=sub) (cf:=aj sub Pd (n+10)) (k:=2) (i:=16) (el:=.bin .mul (.lst (.cs (.c (.int 0)) .nl)) (.v 16)) (it:=.iSeq (.call "checked_boxes" (.cs (.v 0) (.cs (.v 3) .nl)))) (σ:=[some l.toD,some (.int (g:Int)),some (.tup (pl.map au)),some (.tup (List.replicate l.works.length (.int 9))),some d,some (.tup (l.works.map Wk.toD)),none,none,none,none,none,none,none,none,none]) (S:=S) (dR (ao (aa (r_v rfl) (aa (r_v rfl) ah)) (C5 G.wf hS)) rfl) (λb hb T=>by
  rw[(Qq.mp hb).2];refine⟨.loc (T++[Cell.lst [D.int 0]]).length,[.lst [.int 0]]++[.lst ((List.replicate 9 (0:Int)).map .int)],?_,(bI.one _).app (bI.one _)⟩;rw[<- Zt];exact aJ (br (aa r_c ah) rfl) (r_v rfl) (sF (g:=9) (by omega))) (by unfold aT; rw[Z9]; omega)
 exact pq G rfl (ak (aI e) (aK (eB (ur (oX (ao (aa (r_v rfl) (aa (r_v rfl) ah)) (qj G.wf (se hS hX) (h X)))))))) (bU _ _)
end
end K24

namespace K24
open PySem EV RL GO
section
variable{sub:Sub}{n:Nat}{S T:af}{d:D}{l:Lp}{g cell:Nat}{kind:Int}{pl:List Nat}{cf:Str->List D->M D}{x7 x8 x9:Option D}
abbrev sg(l:Lp)(kind:Int)(cell g:Nat)(pl:List Nat)(x7 x8 x9:Option D):Sg:=[some l.toD,some (.int kind),some (.int (cell:Int)),some (.int ((cell/100:Nat):Int)),some (.int (g:Int)),some (.tup (pl.map au)),some (.int (l.works.length:Int)),x7,x8,x9]
theorem md3{j:Nat}(hj:0<j):ev sub cf (.bin .mod (.v 3) (.c (.int (j:Int)))) (sg l kind cell g pl x7 x8 x9) T=.ok (.int ((cell/100%j:Nat):Int)) T:=by
 rw[Q0]; exact aJ (r_v rfl) r_c (fM (by omega))
theorem md2{j:Nat}(hj:0<j):ev sub cf (.bin .mod (.v 2) (.c (.int (j:Int)))) (sg l kind cell g pl x7 x8 x9) T=.ok (.int ((cell%j:Nat):Int)) T:=by
 rw[Q0]; exact aJ (r_v rfl) r_c (fM (by omega))
theorem gb{xs:WV}{j:Nat}(hj:j<xs.length):∃d,d∈xs/\ixD (.loc T.length) (.int (j:Int)) (T++[.lst xs])=.ok d (T++[.lst xs]) :=
 ⟨xs[j],Xr hj,mW (by rw[iP,Zb hj])⟩
noncomputable def jZ:Nat->EV.S->EV.S
 | n+1,.seq _ r=>jZ n r
 | _,s=>s
noncomputable def hdS:EV.S->EV.S
 | .seq a _=>a
 | s=>s
noncomputable def arm(n:Nat)(s:EV.S):EV.S:=match jZ n s with
 | .seq (.ite _ a _) _=>a
 | s=>s
theorem lO:aP []:=λi c h=>by cases h
theorem f9{T:af}(h:bI T):aP T:=λi c e=>h c (ZB e)
theorem rH{ds:WV}(h:ds.length≠4):NoL sub S (.tup ds):=λn=>by
 have e:aj sub Pd (n+1) "is_row" [.tup ds,.int 4,.int 4] S=.ok (.bl false) S:=by
  rw[fN hB.row rfl]
  by_cases q:(4:Int)<=(ds.length:Int)
  ·have q2:¬(ds.length:Int)<=4:=by omega
   simp[cX,frame,bH,q,q2]
  ·simp[cX,frame,bH,q]
 have e2:aj sub Pd (n+2) "is_loop" [.tup ds] S=.ok (.bl false) S:=x_call (ds:=[.tup ds]) hB.loop rfl (b8 (aM (t_k (aX (bw (ao (aa (r_v rfl) (aa r_c (aa r_c ah))) e))) rfl) (aH r_c))) (bf rfl Zq);exact fail (ds:=[.tup ds]) hB.checked rfl (aK (aM (t_k (aX (bw (ao (aa (r_v rfl) ah) e2))) rfl) rfl)) Zq
theorem oz{ds:WV}:biD sub .list [.tup ds] T=.ok (.loc T.length) (T++[.lst ds]):=by
 show(items (.tup ds)>>=λxs=>alloc (.lst xs)) T=_;rfl
theorem k0:∃S1,exec sub (aj sub Pd (n+14)) (arm 3 cC.body) (sg l kind cell g pl x7 x8 x9) []=.exc "NoLoop" S1:=by
 obtain⟨d,hd,e⟩:=gb (T:=[.lst [.int l.streams,.tup (l.crews.map bK),.tup (l.works.map Wk.toD),.tup (l.outs.map au)]]) (xs:=[.non,.loc 0,.tup [],.tup [.int l.streams,.tup (l.crews.map bK),.tup (l.works.map Wk.toD)],.int 5,.str "loop"]) (j:=cell%6) (Xl _ (by decide));have lS:aP ([.lst [.int l.streams,.tup (l.crews.map bK),.tup (l.works.map Wk.toD),.tup (l.outs.map au)]]++[.lst [.non,.loc 0,.tup [],.tup [.int l.streams,.tup (l.crews.map bK),.tup (l.works.map Wk.toD)],.int 5,.str "loop"]]):=f9 ((bI.one _).app (bI.one _))
 have hn:NoL sub ([.lst [.int l.streams,.tup (l.crews.map bK),.tup (l.works.map Wk.toD),.tup (l.outs.map au)]]++[.lst [.non,.loc 0,.tup [],.tup [.int l.streams,.tup (l.crews.map bK),.tup (l.works.map Wk.toD)],.int 5,.str "loop"]]) d:=by
  simp only[Zm,ZM,Xf] at hd;rcases hd with rfl|rfl|rfl|rfl|rfl|rfl
  ·exact ju lS rfl rfl
  ·exact ju lS rfl rfl
  ·exact rH (by decide)
  ·exact rH (by show ¬3=4; decide)
  ·exact ju lS rfl rfl
  ·exact ju lS rfl rfl
 refine⟨_,bq (ao (aa (md3 (j:=20) (by decide)) (aa (ay (br (aa r_c (aa (aL (aa (r_v rfl) ah) oz) (aa (aR ah rfl) (aa (mH (r_v rfl) (p:=none) rfl (q:=some 3) rfl rfl) (aa r_c (aa r_c ah)))))) rfl) (md2 (j:=6) (by decide)) e) ah)) (EE hn (Xl _ (by decide))))⟩
theorem mR{lo hi:Int}{d:D}(h:d.kd=.flat/\RB.aS d lo hi=false):cQ lo hi d:=⟨h.2,λn=>by cases d<;>first|rfl|exact absurd h.1 (by intro z; cases z)⟩
theorem k1(hl:l.WF)(h4:l.works.length<=4):∃S1,exec sub (aj sub Pd (n+14)) (arm 4 cC.body) (sg l kind cell g pl x7 x8 x9) []=.exc "NoGap" S1:=by
 obtain⟨d,hd,e⟩:=gb (T:=[]) (xs:=[.int 0,.int 201,.bl true,.non,.str "3",.int (-1)]) (j:=cell%6) (Xl _ (by decide))
 have ho:cQ 1 200 d:=by
  simp only[Zm,ZM,Xf] at hd;rcases hd with rfl|rfl|rfl|rfl|rfl|rfl<;>exact mR ⟨rfl,rfl⟩
 exact⟨_,bq (ao (aa (md3 (j:=11) (by decide)) (aa (r_v rfl) (aa (ay (br (aa r_c (aa r_c (aa r_c (aa r_c (aa r_c (aa (iQ r_c) ah)))))) rfl) (md2 (j:=6) (by decide)) e) ah))) (GH hl h4 (f9 (bI.one _)) ho (Xl _ (by decide))))⟩
theorem k5(G:GdP l g pl):∃S1,exec sub (aj sub Pd (n+14)) (jZ 8 cC.body) (sg l kind cell g pl x7 x8 x9) []=.exc "NoRounds" S1:=by
 have t:evT sub (aj sub Pd (n+14)) (.cmp .eq (.bin .mod (.v 3) (.c (.int 2))) (.c (.int 0))) (sg l kind cell g pl x7 x8 x9) []=.ok (((cell/100%2:Nat):Int)==0) []:=aY (bE (md3 (j:=2) (by decide)) r_c (eK _ _ _))
 cases q:(((cell/100%2:Nat):Int)==0) with
 | true =>
  obtain⟨d,hd,e⟩:=gb (T:=[]) (xs:=[.int 1,.int 4,.bl true,.non,.str "2",.int 0]) (j:=cell%6) (Xl _ (by decide))
  have ho:cQ 2 3 d:=by
   simp only[Zm,ZM,Xf] at hd;rcases hd with rfl|rfl|rfl|rfl|rfl|rfl<;>exact mR ⟨rfl,rfl⟩
  exact⟨_,aK (aM (t_k t q) (bq (ao (aa (r_v rfl) (aa (ay (br (aa r_c (aa r_c (aa r_c (aa r_c (aa r_c (aa r_c ah)))))) rfl) (md2 (j:=6) (by decide)) e) ah)) (Iz G.wf (f9 (bI.one _)) ho))))⟩
 | false =>
  obtain⟨d,hd,e⟩:=gb (T:=[]) (xs:=[.int (-1),.int 41,.bl true,.non,.str "2",.int 99]) (j:=cell%6) (Xl _ (by decide))
  have ho:cQ 0 40 d:=by
   simp only[Zm,ZM,Xf] at hd;rcases hd with rfl|rfl|rfl|rfl|rfl|rfl<;>exact mR ⟨rfl,rfl⟩
  exact⟨_,ak (aD (t_k t q) aC) (bq (ao (aa (r_v rfl) (aa (r_v rfl) (aa (r_v rfl) (aa (ay (br (aa (iQ r_c) (aa r_c (aa r_c (aa r_c (aa r_c (aa r_c ah)))))) rfl) (md2 (j:=6) (by decide)) e) ah)))) (Ep G (f9 (bI.one _)) ho)))⟩
end
end K24

namespace K24
open PySem EV RL GO
section
variable{sub:Sub}{n:Nat}{S T:af}{d:D}{l:Lp}{g cell:Nat}{kind:Int}{pl:List Nat}{cf:Str->List D->M D}{x7 x8 x9:Option D}
theorem l8(x:D):∀m,(List.replicate m [x]).flatten=List.replicate m x
 | 0=>rfl
 | m+1=>by rw[Z3,XU,l8 x m,Z3]; rfl
theorem eZ{x:D}{m:Nat}(h:m<=1000):opD .mul (.tup [x]) (.int (m:Int)) T=.ok (.tup (List.replicate m x)) T:=by
 have e1:decide (-(2^63)<=(m:Int))=true:=Zj (by omega);have e2:decide ((m:Int)<2^63)=true:=Zj (by omega);have e3:fits ([x].length*(m:Int).toNat)=true:=gE (by rw[ZL]; show 1*m<=1000; omega);have e:opD .mul (.tup [x]) (.int (m:Int))=guard (decide (-(2^63)<=(m:Int))&&decide ((m:Int)<2^63)&&fits ([x].length*(m:Int).toNat)) (pure (.tup (List.replicate (m:Int).toNat [x]).flatten)):=rfl;rw[e,e1,e2,e3,ZL,l8]; rfl
theorem iX{x:D}{m:Nat}(h:m<=1000):opD .mul (.loc T.length) (.int (m:Int)) (T++[.lst [x]])=.ok (.loc (T++[Cell.lst [x]]).length) ((T++[.lst [x]])++[.lst (List.replicate m x)]):=by
 have e1:decide (-(2^63)<=(m:Int))=true:=Zj (by omega);have e2:decide ((m:Int)<2^63)=true:=Zj (by omega);have e3:fits ([x].length*(m:Int).toNat)=true:=gE (by rw[ZL]; show 1*m<=1000; omega);have e:opD .mul (.loc T.length) (.int (m:Int))=aZ T.length (λxs=>guard (decide (-(2^63)<=(m:Int))&&decide ((m:Int)<2^63)&&fits (xs.length*(m:Int).toNat)) (alloc (.lst (List.replicate (m:Int).toNat xs).flatten))):=rfl;rw[e];unfold aZ;rw[bQ];simp only[e1,e2,e3,Ws];show alloc (.lst (List.replicate (m:Int).toNat [x]).flatten) (T++[.lst [x]])=_;rw[ZL,l8]; rfl
theorem jn{lo hi:Int}{m:Nat}{ds:WV}(h:ds.length≠m):noB lo hi m (.tup ds):=by
 show((decide ((m:Int)<=(ds.length:Int))&&decide ((ds.length:Int)<=(m:Int)))&&_)=false
 by_cases q:(m:Int)<=(ds.length:Int)
 ·rw[Zs (show ¬(ds.length:Int)<=(m:Int) by omega),Qy]; rfl
 ·rw[Zs q]; rfl
theorem gf{lo hi:Int}{m:Nat}{ds:WV}{x:D}(hx:x∈ds)(h:RB.aS x lo hi=false):noB lo hi m (.tup ds):=by
 show(_&&ds.all _)=false;rw[show(ds.all λe=>RB.aS e lo hi)=false from List.all_eq_false.mpr ⟨x,hx,by rw[h]; decide⟩,Qy]
theorem jY{m:Nat}{x:D}(h:1<=m):x∈List.replicate m x:=Qq.mpr ⟨by omega,rfl⟩
theorem k3(G:GdP l g pl):∃S1,exec sub (aj sub Pd (n+14)) (arm 6 cC.body) (sg l kind cell g pl x7 x8 x9) []=.exc "NoBoxes" S1:=by
 obtain⟨m,hm⟩:∃m,m=l.works.length:=⟨_,rfl⟩
 have h1:=G.wf.nworks.1;have h4:=G.four;obtain⟨d,hd,e⟩:=gb (T:=([.lst [.int 1]]:af)++[.lst (List.replicate l.works.length (.int 1))]) (xs:=[.non,.loc 1,.tup (List.replicate (l.works.length+1) (.int 1)),.tup (List.replicate l.works.length (.int 0)),.tup (List.replicate l.works.length (.int 1000)),.tup (List.replicate l.works.length (.bl true))]) (j:=cell%6) (Xl _ (by decide))
 have hb:RB.fit 3 d=true/\noB 1 999 l.works.length d:=by
  simp only[Zm,ZM,Xf] at hd;rcases hd with rfl|rfl|rfl|rfl|rfl|rfl
  ·exact⟨rfl,rfl⟩
  ·exact⟨rfl,rfl⟩
  ·exact⟨fS rfl,jn (by rw[Z9]; omega)⟩
  ·exact⟨fS rfl,gf (jY h1) rfl⟩
  ·exact⟨fS rfl,gf (jY h1) rfl⟩
  ·exact⟨fS rfl,gf (jY h1) rfl⟩
 have ea:∀T,ev sub (aj sub Pd (n+14)) (.bin .add (.v 6) (.c (.int 1))) (sg l kind cell g pl x7 x8 x9) T=.ok (.int ((l.works.length+1:Nat):Int)) T:=λT=>by
  rw[Int.natCast_add]; exact aJ (r_v rfl) r_c (eu _ _ _)
 have e7:exec sub (aj sub Pd (n+14)) (hdS (arm 6 cC.body)) (sg l kind cell g pl x7 x8 x9) []=.ok (.nx (sg l kind cell g pl (some d) x8 x9)) _:=aI (ay (br (aa r_c (aa (aJ (br (aa r_c ah) rfl) (r_v rfl) (iX (T:=[]) (by omega))) (aa (aJ (aR (aa r_c ah) rfl) (ea _) (eZ (m:=l.works.length+1) (by omega))) (aa (aJ (aR (aa r_c ah) rfl) (r_v rfl) (eZ (by omega))) (aa (aJ (aR (aa r_c ah) rfl) (r_v rfl) (eZ (by omega))) (aa (aJ (aR (aa r_c ah) rfl) (r_v rfl) (eZ (by omega))) ah)))))) rfl) (md2 (j:=6) (by decide)) e);have lS:=f9 (((bI.one [.int 1]).app (bI.one (List.replicate l.works.length (.int 1)))).app (bI.one [.non,.loc 1,.tup (List.replicate (l.works.length+1) (.int 1)),.tup (List.replicate l.works.length (.int 0)),.tup (List.replicate l.works.length (.int 1000)),.tup (List.replicate l.works.length (.bl true))]));have nb:=λn=>DB (sub:=sub) (n:=n) G.wf lS hb.1 hb.2
 have t:∀T,evT sub (aj sub Pd (n+14)) (.cmp .eq (.bin .mod (.v 3) (.c (.int 2))) (.c (.int 0))) (sg l kind cell g pl (some d) x8 x9) T=.ok (((cell/100%2:Nat):Int)==0) T:=λT=>aY (bE (md3 (j:=2) (by decide)) r_c (eK _ _ _))
 cases q:(((cell/100%2:Nat):Int)==0) with
 | true=>exact⟨_,ak e7 (aK (aM (t_k (t _) q) (bq (ao (aa (r_v rfl) (aa (r_v rfl) (aa (r_v rfl) (aa (r_v rfl) ah)))) (BQ G nb)))))⟩
 | false=>exact⟨_,ak e7 (ak (aD (t_k (t _) q) aC) (bq (ao (aa (r_v rfl) (aa (r_v rfl) (aa (r_v rfl) (aa (r_v rfl) (aa r_c ah))))) (GQ G nb))))⟩
end
end K24

namespace K24
open PySem EV RL GO
section
variable{sub:Sub}{n:Nat}{S T:af}{d:D}{l:Lp}{g cell:Nat}{kind:Int}{pl:List Nat}{cf:Str->List D->M D}{x7 x8 x9:Option D}
noncomputable def gvB(m:Nat)(e:D):Bool:=RB.aU e m m&&RB.tuB e λe=>RB.aS e 0 9972
noncomputable def oH(s:Nat):af:=[.lst [.tup (List.replicate s (.int 1)++[.int 1])],.lst [.non],.lst (List.replicate s (.int 1)),.lst [.loc 2],.lst [.tup (List.replicate s (.int 1))],.lst (List.replicate 41 (.tup (List.replicate s (.int 1)))),.lst [.tup (List.replicate s (.int 1)),.tup (List.replicate (max 1 s) (.int 9973))]]
noncomputable def jA(s:Nat):List D:=[.non,.tup [.tup (List.replicate s (.int 1))],.loc 0,.loc 1,.loc 3,.loc 5,.loc 6]
noncomputable def stI(s:Nat):af:=oH s++[.lst (jA s)]
theorem tP{s:Nat}{d:D}(hd:d∈jA s)(X:af):iH s (stI s++X) d:=by
 have hlen:8<=(stI s++X).length:=by rw[ZG]; show 8<=8+_; omega
 have one:∀(c:Nat) (e:D),(stI s++X)[c]?=some (.lst [e])->RB.fit (stI s++X).length e=true->(RB.aU e s s&&RB.tuB e λe=>RB.aS e 0 9972)=false->iH s (stI s++X) (.loc c):=λc e h1 h2 h3 =>
  .inr ⟨c,[e],rfl,h1,.inr ⟨X7 rfl,λx hx=>by rw[ZN.mp hx]; exact h2,by rw[Qm,h3]; rfl⟩⟩
 unfold jA at hd;simp only[Zm,ZM,Xf] at hd;rcases hd with rfl|rfl|rfl|rfl|rfl|rfl|rfl
 ·exact .inl (.inl rfl)
 ·exact .inl (.inr ⟨_,rfl⟩)
 ·refine one 0 _ rfl (RB.iC.mpr λe he=>?_) (jn (lo:=0) (hi:=9972) (by rw[ZG,Z9]; show ¬s+1=s; omega));rcases ZQ.mp he with he|he
  ·rw[(Qq.mp he).2]; rfl
  ·rw[ZN.mp he]; rfl
 ·exact one 1 _ rfl rfl rfl
 ·exact one 3 _ rfl (show decide (2<(stI s++X).length)=true from Zj (by omega)) rfl
 ·exact .inr ⟨5,_,rfl,rfl,.inl (by rw[Z9]; omega)⟩
 ·refine .inr ⟨6,_,rfl,rfl,.inr ⟨X7 rfl,λe he=>?_,?_⟩⟩
  ·simp only[Zm,ZM,Xf] at he;rcases he with rfl|rfl
   ·exact fS rfl
   ·exact fS rfl
  ·have h2:(RB.aU (.tup (List.replicate (max 1 s) (.int 9973))) s s&&RB.tuB (.tup (List.replicate (max 1 s) (.int 9973))) λe=>RB.aS e 0 9972)=false:=gf (lo:=0) (hi:=9972) (jY (by omega)) rfl;rw[Qm,Qm,h2];simp
theorem i8{xs:WV}{y:D}(h:xs.length<=999):opD .add (.tup xs) (.tup [y]) T=.ok (.tup (xs++[y])) T:=vj (gE (by show xs.length+1<=1000; omega))
theorem k4(G:GdP l g pl):∃S1,exec sub (aj sub Pd (n+14)) (arm 7 cC.body) (sg l kind cell g pl x7 x8 x9) []=.exc "NoInputs" S1:=by
 have hs:=G.wf.streams;have h4:=G.four;obtain⟨d,hd,e⟩:=gb (T:=oH l.streams) (xs:=jA l.streams) (j:=cell%7) (Xl _ (by decide));have e9:exec sub (aj sub Pd (n+14)) (hdS (arm 7 cC.body)) (sg l kind cell g pl x7 x8 x9) []=.ok (.nx (sg l kind cell g pl x7 x8 (some (.tup (List.replicate l.streams (.int 1)))))) []:=aI (aJ (aR (aa r_c ah) rfl) (ay (r_v rfl) r_c (aB rfl)) (eZ (by omega)));have v9:∀T,ev sub (aj sub Pd (n+14)) (.v 9) (sg l kind cell g pl x7 x8 (some (.tup (List.replicate l.streams (.int 1))))) T=.ok (.tup (List.replicate l.streams (.int 1))) T:=λT=>r_v rfl
 have mx:∀T,ev sub (aj sub Pd (n+14)) (.bi .max (.cs (.c (.int 1)) (.cs (.ix (.v 0) (.c (.int 0))) .nl))) (sg l kind cell g pl x7 x8 (some (.tup (List.replicate l.streams (.int 1))))) T=.ok (.int ((max 1 l.streams:Nat):Int)) T:=λT=>aL (aa r_c (aa (ay (r_v rfl) r_c (aB rfl)) ah)) (wo (a:=1))
 have e7:exec sub (aj sub Pd (n+14)) (hdS (jZ 1 (arm 7 cC.body))) (sg l kind cell g pl x7 x8 (some (.tup (List.replicate l.streams (.int 1))))) []=.ok (.nx (sg l kind cell g pl (some d) x8 (some (.tup (List.replicate l.streams (.int 1)))))) (stI l.streams) :=
  aI (ay (br (aa r_c (aa (aR (aa (v9 _) ah) rfl) (aa (br (aa (aJ (v9 _) (aR (aa r_c ah) rfl) (i8 (by rw[Z9]; omega))) ah) rfl) (aa (br (aa r_c ah) rfl) (aa (br (aa (aL (aa (v9 _) ah) oz) ah) rfl) (aa (aJ (br (aa (v9 _) ah) rfl) r_c (iX (m:=41) (by omega))) (aa (br (aa (v9 _) (aa (aJ (aR (aa r_c ah) rfl) (mx _) (eZ (by omega))) ah)) rfl) ah))))))) rfl) (md2 (j:=7) (by decide)) e)
 have lS:aP (stI l.streams):=f9 λc hc=>by
  unfold stI oH at hc;simp only[Qg,XH,Zm,ZM,Xf] at hc;rcases hc with rfl|rfl|rfl|rfl|rfl|rfl|rfl|rfl<;>exact⟨_,rfl⟩
 have t:∀T,evT sub (aj sub Pd (n+14)) (.cmp .eq (.bin .mod (.v 3) (.c (.int 2))) (.c (.int 0))) (sg l kind cell g pl (some d) x8 (some (.tup (List.replicate l.streams (.int 1))))) T=.ok (((cell/100%2:Nat):Int)==0) T:=λT=>aY (bE (md3 (j:=2) (by decide)) r_c (eK _ _ _))
 cases q:(((cell/100%2:Nat):Int)==0) with
 | true=>exact⟨_,ak e9 (ak e7 (aK (aM (t_k (t _) q) (bq (ao (aa (r_v rfl) (aa (r_v rfl) ah)) (Hg G.wf lS λX=>tP hd X))))))⟩
 | false=>exact⟨_,ak e9 (ak e7 (ak (aD (t_k (t _) q) aC) (bq (ao (aa (r_v rfl) (aa (r_v rfl) (aa (r_v rfl) (aa (aJ (aR (aa r_c ah) rfl) (r_v rfl) (eZ (by omega))) (aa (r_v rfl) ah))))) (HA G lS λX=>tP hd X)))))⟩
end
end K24

namespace K24
open PySem EV RL GO
section
variable{sub:Sub}{n:Nat}{S T:af}{d:D}{l:Lp}{g cell:Nat}{kind:Int}{pl:List Nat}{cf:Str->List D->M D}{x7 x8 x9:Option D}
theorem IU{xs:WV}(h:1<=xs.length):cut xs (some 1) none=xs.drop 1:=by
 unfold cut;show(xs.drop (min (1:Int).toNat xs.length)).take (xs.length-min (1:Int).toNat xs.length)=_;rw[show min (1:Int).toNat xs.length=1 by show min 1 xs.length=1; omega];exact List.take_of_length_le (by rw[QZ]; omega)
theorem AK{xs:WV}(h:1<=xs.length):cut xs none (some (-1))=xs.take (xs.length-1):=by
 unfold cut;show(xs.drop 0).take ((-1+(xs.length:Int)).toNat-0)=_;rw[List.drop_zero,show(-1+(xs.length:Int)).toNat-0=xs.length-1 by omega]
theorem Bd{xs ys:WV}(h:xs.length+ys.length<=1000):opD .add (.tup xs) (.tup ys) T=.ok (.tup (xs++ys)) T:=vj (gE h)
noncomputable def n6(xs:WV):List D:=[.non,.loc 0,.tup (xs++[.int 1]),.tup (xs.drop 1),.tup (xs.take (xs.length-1)++[.int (-1)]),.tup (xs.take (xs.length-1)++[.int 1000]),.tup (xs.take (xs.length-1)++[.bl true])]++[.tup ([.non]++xs.drop 1),.str "plan"]
theorem yF{xs:WV}(h1:1<=xs.length)(h2:xs.length<=8)(hx:∀x∈xs,∃k:Nat,x=au k):∃d T,aj sub Pd (n+1) "_law_bad_plan" [.tup xs,.int (cell:Int)] []=.ok d T/\aP T/\RB.fit T.length d=true/\noB 0 999 xs.length d:=by
 obtain⟨d,hd,e⟩:=gb (T:=([.lst xs,.lst [.non,.loc 0,.tup (xs++[.int 1]),.tup (xs.drop 1),.tup (xs.take (xs.length-1)++[.int (-1)]),.tup (xs.take (xs.length-1)++[.int 1000]),.tup (xs.take (xs.length-1)++[.bl true])],.lst [.tup ([.non]++xs.drop 1),.str "plan"]]:af)) (xs:=n6 xs) (j:=cell%9) (Xl _ (by decide));have hl1:(xs.take (xs.length-1)).length=xs.length-1:=by rw[XZ]; omega
 have hl2:(xs.drop 1).length=xs.length-1:=QZ;have vs:∀{σ:Sg} {T:af},σ[0]?=some (some (.tup xs))->ev sub (aj sub Pd n) (.v 0) σ T=.ok (.tup xs) T:=λh=>r_v (by unfold bF; rw[h]; rfl)
 have tl:∀{σ:Sg} {T:af},σ[0]?=some (some (.tup xs))->ev sub (aj sub Pd n) (.sl (.v 0) (.c (.int 1)) .nl) σ T=.ok (.tup (xs.drop 1)) T:=λ{σ T} h=>by
  rw[<- IU h1]; exact mH (vs h) (p:=some 1) rfl (q:=none) rfl rfl
 have it:∀{σ:Sg} {T:af},σ[0]?=some (some (.tup xs))->ev sub (aj sub Pd n) (.sl (.v 0) .nl (.neg (.c (.int 1)))) σ T=.ok (.tup (xs.take (xs.length-1))) T:=λ{σ T} h=>by
  rw[<- AK h1]; exact mH (vs h) (p:=none) rfl (q:=some (-1)) rfl rfl
 have ex:exec sub (aj sub Pd n) fW.body (frame fW [.tup xs,.int (cell:Int)]) []=.ok (.rt d) ([.lst xs,.lst [.non,.loc 0,.tup (xs++[.int 1]),.tup (xs.drop 1),.tup (xs.take (xs.length-1)++[.int (-1)]),.tup (xs.take (xs.length-1)++[.int 1000]),.tup (xs.take (xs.length-1)++[.bl true])],.lst [.tup ([.non]++xs.drop 1),.str "plan"]]++[.lst (n6 xs)]):=by
  have e9:∀(σ:Sg) T,σ[1]?=some (some (.int (cell:Int)))->ev sub (aj sub Pd n) (.bin .mod (.v 1) (.c (.int 9))) σ T=.ok (.int ((cell%9:Nat):Int)) T:=λσ T h=>by
   rw[Q0]; exact aJ (r_v (by unfold bF; rw[h]; rfl)) r_c (fM (by decide))
  refine ak (aI (br (aa r_c (aa (aL (aa (vs rfl) ah) oz) (aa (aJ (vs rfl) (aR (aa r_c ah) rfl) (i8 (by omega))) (aa (tl rfl) (aa (aJ (it rfl) (aR (aa (iQ r_c) ah) rfl) (i8 (by omega))) (aa (aJ (it rfl) (aR (aa r_c ah) rfl) (i8 (by omega))) (aa (aJ (it rfl) (aR (aa r_c ah) rfl) (i8 (by omega))) ah))))))) rfl)) (aH (ay (aJ (r_v rfl) (br (aa (aJ (aR (aa r_c ah) rfl) (tl rfl) (Bd (by show 1+_<=_; omega))) (aa r_c ah)) rfl) ?_) (e9 _ _ rfl) e));rfl
 have low:∀ys:List D,(∀y∈ys,y.kd=.flat)->D.lows 0 ys=true/\∀k,RB.fits' k ys=true:=λys hy=>by
  refine⟨?_,λk=>RB.iC.mpr λy hm=>?_⟩
  ·induction ys with
   | nil=>rfl
   | cons y r ih =>
    show(D.low 0 y&&D.lows 0 r)=true;rw[ih λz hz=>hy z (Zr _ hz)];have:=hy y Zp;cases y<;>first|rfl|cases this
  ·have:=hy y hm;cases y<;>first|rfl|cases this
 have fx:∀x∈xs,x.kd=.flat:=λx h=>by obtain⟨k,rfl⟩:=hx x h; rfl
 have fa:∀{ys zs:WV},(∀y∈ys,y.kd=.flat)->(∀y∈zs,y.kd=.flat)->∀y∈ys++zs,y.kd=.flat:=λh h' y hy=>(ZQ.mp hy).elim (h y) (h' y)
 have f1:∀{y:D},y.kd=.flat->∀z∈[y],z.kd=.flat:=λh z hz=>by rw[ZN.mp hz]; exact h
 have ft:∀x∈xs.take (xs.length-1),x.kd=.flat:=λx h=>fx x (We h)
 have fd:∀x∈xs.drop 1,x.kd=.flat:=λx h=>fx x (List.mem_of_mem_drop h)
 have out:∀{ys:WV},d=.tup ys->(∀y∈ys,y.kd=.flat)->noB 0 999 xs.length d->∃d T,aj sub Pd (n+1) "_law_bad_plan" [.tup xs,.int (cell:Int)] []=.ok d T/\aP T/\RB.fit T.length d=true/\noB 0 999 xs.length d:=λ{ys} e hy hn =>
  ⟨d,[],x_call (ds:=[.tup xs,.int (cell:Int)]) (show Has Pd "_law_bad_plan" fW from rfl) rfl ex (bf (by rw[e]; exact(low ys hy).1) rfl),lO,by rw[e]; exact(low ys hy).2 _,hn⟩
 have last:∀{y:D},RB.aS y 0 999=false->noB 0 999 xs.length (.tup (xs.take (xs.length-1)++[y])):=λh=>gf (ZV _ Zp) h
 unfold n6 at hd;simp only[Qg,XH,Zm,ZM,Xf] at hd;rcases hd with q|q|q|q|q|q|q|q|q
 ·exact⟨d,[],x_call (ds:=[.tup xs,.int (cell:Int)]) (show Has Pd "_law_bad_plan" fW from rfl) rfl ex (bf (by rw[q]; rfl) rfl),lO,by rw[q]; rfl,by rw[q]; rfl⟩
 ·refine⟨.loc 0,[.lst xs],x_call (ds:=[.tup xs,.int (cell:Int)]) (show Has Pd "_law_bad_plan" fW from rfl) rfl ex ?_,f9 (bI.one xs),rfl,rfl⟩;rw[q];exact lg (S:=[]) (m:=0) (Zn _) rfl rfl (low xs fx).1
 ·exact out q (fa fx (f1 rfl)) (by rw[q]; exact jn (by rw[ZG]; show ¬xs.length+1=_; omega))
 ·exact out q fd (by rw[q]; exact jn (by omega))
 ·exact out q (fa ft (f1 rfl)) (by rw[q]; exact last rfl)
 ·exact out q (fa ft (f1 rfl)) (by rw[q]; exact last rfl)
 ·exact out q (fa ft (f1 rfl)) (by rw[q]; exact last rfl)
 ·exact out (ys:=[.non]++xs.drop 1) q (fa (f1 rfl) fd) (by rw[q]; exact gf (x:=.non) Zp rfl)
 ·exact⟨d,[],x_call (ds:=[.tup xs,.int (cell:Int)]) (show Has Pd "_law_bad_plan" fW from rfl) rfl ex (bf (by rw[q]; rfl) rfl),lO,by rw[q]; rfl,by rw[q]; rfl⟩
end
end K24

namespace K24
open PySem EV RL GO
section
variable{sub:Sub}{n:Nat}{S T:af}{d:D}{l:Lp}{g cell:Nat}{kind:Int}{pl:List Nat}{cf:Str->List D->M D}{x7 x8 x9:Option D}
noncomputable def wc:Wk:=⟨0,8,"plus",[.val 1],[0,0,0]⟩
noncomputable def lc:Lp:=⟨1,[(1,4)],[wc,wc],[0]⟩
theorem A_{i:Nat}:wc.WF i 2 1 1:=⟨by decide,by decide,by decide,by decide,λs hs=>by rw[ZN.mp hs]; exact⟨by decide,by decide⟩,rfl,λv hv=>by
 have:v=0:=by simpa [wc] using hv
 rw[this]; decide⟩
theorem s_:lc.WF:=⟨by decide,by decide,λc hc=>by rw[ZN.mp hc]; decide,by decide,λi w h=>by
 have hw:w=wc:=by
  have:=ZB h;simpa [lc] using this
 rw[hw]; exact A_,by decide,⟨by decide,by decide,trivial⟩⟩
theorem yJ:dQ lc 4 [0,1]≠.non:=by
 have:dQ lc 4 [0,1]=.tup [.str "crew",.int 0,.int 0]:=by decide +kernel
 rw[this]; intro z; cases z
theorem k2(G:GdP l g pl):∃S1,exec sub (aj sub Pd (n+14)) (arm 5 cC.body) (sg l kind cell g pl x7 x8 x9) []=.exc "NoPlan" S1:=by
 have h1:=G.wf.nworks.1;have h4:=G.four;have hlen:(pl.map au).length=l.works.length:=by rw[Zi,G.len]
 obtain⟨d,T,e,lT,fT,nT⟩:=yF (sub:=sub) (n:=n+13) (cell:=cell) (xs:=pl.map au) (by omega) (by omega) λx hx=>by obtain⟨k,_,rfl⟩:=ZP.mp hx; exact⟨k,rfl⟩
 rw[hlen] at nT;have hk:cell/100%7<7:=Xl _ (by decide);have t1:evT sub (aj sub Pd (n+14)) (.cmp .eq (.bin .mod (.v 2) (.c (.int 11))) (.c (.int 10))) (sg l kind cell g pl (some d) x8 x9) T=.ok (((cell%11:Nat):Int)==10) T:=aY (bE (md2 (j:=11) (by decide)) r_c (eK _ _ _));have t2:evT sub (aj sub Pd (n+14)) (.cmp .ne (.bin .mod (.v 3) (.c (.int 7))) (.c (.int 3))) (sg l kind cell g pl (some d) x8 x9) T=.ok (!(((cell/100%7:Nat):Int)==3)) T:=aY (bE (md3 (j:=7) (by decide)) r_c (sP _ _ _));have e7:exec sub (aj sub Pd (n+14)) (hdS (arm 5 cC.body)) (sg l kind cell g pl x7 x8 x9) []=.ok (.nx (sg l kind cell g pl (some d) x8 x9)) T:=aI (ao (aa (r_v rfl) (aa (r_v rfl) ah)) e)
 have tt:evT sub (aj sub Pd (n+14)) (.and (.cmp .eq (.bin .mod (.v 2) (.c (.int 11))) (.c (.int 10))) (.cmp .ne (.bin .mod (.v 3) (.c (.int 7))) (.c (.int 3)))) (sg l kind cell g pl (some d) x8 x9) T=.ok ((((cell%11:Nat):Int)==10)&&!(((cell/100%7:Nat):Int)==3)) T:=by
  cases q:(((cell%11:Nat):Int)==10) with
  | false=>exact nW (t_k t1 q)
  | true=>exact iy (t_k t1 q) t2
 cases q:((((cell%11:Nat):Int)==10)&&!(((cell/100%7:Nat):Int)==3)) with
 | false=>exact⟨_,ak e7 (ak (aD (t_k tt q) aC) (bq (ao (aa (md3 (j:=7) (by decide)) (aa (r_v rfl) (aa (r_v rfl) (aa (r_v rfl) ah)))) (we G.wf G.one G.gap (BS G.wf lT fT nT) hk λ_ n=>pQ G.wf lT fT nT))))⟩
 | true =>
  have hne:¬cell/100%7=3:=λz=>by rw[z,Bool.and_comm] at q; cases q
  have ec:ev sub (aj sub Pd (n+14)) (.tup (.cs (.c (.int 1)) (.cs (.tup (.cs (.tup (.cs (.c (.int 1)) (.cs (.c (.int 4)) .nl))) .nl)) (.cs (.bin .mul (.tup (.cs (.tup (.cs (.c (.int 0)) (.cs (.c (.int 8)) (.cs (.c (.str "plus")) (.cs (.tup (.cs (.tup (.cs (.c (.str "value")) (.cs (.c (.int 1)) .nl))) .nl)) (.cs (.tup (.cs (.c (.int 0)) (.cs (.c (.int 0)) (.cs (.c (.int 0)) .nl)))) .nl)))))) .nl)) (.c (.int 2))) (.cs (.tup (.cs (.c (.int 0)) .nl)) .nl))))) (sg l kind cell g pl (some d) x8 x9) T=.ok lc.toD T :=
   aR (aa r_c (aa (aR (aa (aR (aa r_c (aa r_c ah)) rfl) ah) rfl) (aa (aJ (aR (aa (aR (aa r_c (aa r_c (aa r_c (aa (aR (aa (aR (aa r_c (aa r_c ah)) rfl) ah) rfl) (aa (aR (aa r_c (aa r_c (aa r_c ah))) rfl) ah))))) rfl) ah) rfl) r_c (eZ (m:=2) (by decide))) (aa (aR (aa r_c ah) rfl) ah)))) rfl
  exact⟨_,ak e7 (aK (aM (t_k tt q) (ak (aI ec) (bq (ao (aa (md3 (j:=7) (x8:=some lc.toD) (by decide)) (aa (r_v rfl) (aa r_c (aa (aR (aa r_c (aa r_c ah)) rfl) ah)))) (we (g:=4) (d:=.tup ([0,1].map au)) s_ (by decide) (by decide) (ER (pl:=[0,1]) s_ (by decide) (by decide) (by decide) rfl (by decide) yJ) hk λz=>absurd z hne))))))⟩
theorem Cf(hl:l.WF)(h4:l.works.length<=4):GdP l (b6 l 0 l.works) (bA l 0 l.works):=by
 have h1:=hl.nworks.1;have he:=qA l l.works 0 (Fo hl);obtain⟨b,_,_,h5,_⟩:=gW l l.works 0 0 _ (Zb h1);have h2:=(hl.works 0 _ (Zb h1)).long.1;have h3:(l.works[0]).long<=bG l l.works[0]:=Nat.le_max_left _ _;refine⟨hl,h4,by omega,by omega,iM l l.works 0,λt ht=>?_,E_ hl (Zn _)⟩;obtain⟨i,hi⟩:=ZH ht;have hk:i<l.works.length:=by rw[<- iM l l.works 0]; exact(Zf.mp hi).1
 obtain⟨b,h1,_,h6,_⟩:=gW l l.works 0 i _ (Zb hk);rw[hi] at h1; cases h1;omega
theorem asked(hl:l.WF)(h4:l.works.length<=4){k:Nat}{c:Str}(hc:six[k]?=some c):aj sub Pd (n+15) "_law_asked" [l.toD,.int (k:Int),.int (cell:Int)] []=.exc c []:=by
 have G:=Cf hl h4;have hk:k<6:=(Zf.mp hc).1;have ep:=Cb (sub:=sub) (P:=Pd) (n:=n+6) (S:=[]) hB rfl hl;generalize b6 l 0 l.works=g at G ep;generalize bA l 0 l.works=pl at G ep;have en:biD sub .len [.tup (pl.map au)] []=.ok (.int (l.works.length:Int)) []:=by rw[cR,Zi,G.len]
 have eq:∀j:Int,evT sub (aj sub Pd (n+14)) (.cmp .eq (.v 1) (.c (.int j))) (sg l k cell g pl none none none) []=.ok ((k:Int)==j) []:=λj=>aY (bE (r_v rfl) r_c (eK _ _ _))
 have pre:∀{u:EV.S},cC.body=.seq (.set (.one 3) (.bin .fdiv (.v 2) (.c (.int 100)))) (.seq (.set (.many [4,5]) (.call "plainly" (.cs (.v 0) .nl))) (.seq (.set (.one 6) (.bi .len (.cs (.v 5) .nl))) u))->(∃S1,exec sub (aj sub Pd (n+14)) u (sg l k cell g pl none none none) []=.exc c S1)->aj sub Pd (n+15) "_law_asked" [l.toD,.int (k:Int),.int (cell:Int)] []=.exc c []:=λhu ⟨S1,h⟩ =>
  fail (ds:=[l.toD,.int (k:Int),.int (cell:Int)]) (show Has Pd "_law_asked" cC from rfl) rfl (by rw[hu]; exact ak (aI (aJ (r_v rfl) r_c (qf ⟨by decide,by decide⟩))) (ak (wN (ao (aa (r_v rfl) ah) ep) rfl) (ak (aI (aL (aa (r_v rfl) ah) en)) h))) rfl
 refine pre rfl ?_;have hk6:k=0\/k=1\/k=2\/k=3\/k=4\/k=5:=by omega
 rcases hk6 with rfl|rfl|rfl|rfl|rfl|rfl<;>cases hc
 ·obtain⟨S1,e⟩:=k0 (sub:=sub) (n:=n) (l:=l) (kind:=0) (cell:=cell) (g:=g) (pl:=pl) (x7:=none) (x8:=none) (x9:=none);exact⟨S1,aK (aM (eq 0) e)⟩
 ·obtain⟨S1,e⟩:=k1 (sub:=sub) (n:=n) (l:=l) (kind:=1) (cell:=cell) (g:=g) (pl:=pl) (x7:=none) (x8:=none) (x9:=none) hl h4;exact⟨S1,ak (aD (eq 0) aC) (aK (aM (eq 1) e))⟩
 ·obtain⟨S1,e⟩:=k2 (sub:=sub) (n:=n) (kind:=2) (cell:=cell) (x7:=none) (x8:=none) (x9:=none) G;exact⟨S1,ak (aD (eq 0) aC) (ak (aD (eq 1) aC) (aK (aM (eq 2) e)))⟩
 ·obtain⟨S1,e⟩:=k3 (sub:=sub) (n:=n) (kind:=3) (cell:=cell) (x7:=none) (x8:=none) (x9:=none) G;exact⟨S1,ak (aD (eq 0) aC) (ak (aD (eq 1) aC) (ak (aD (eq 2) aC) (aK (aM (eq 3) e))))⟩
 ·obtain⟨S1,e⟩:=k4 (sub:=sub) (n:=n) (kind:=4) (cell:=cell) (x7:=none) (x8:=none) (x9:=none) G;exact⟨S1,ak (aD (eq 0) aC) (ak (aD (eq 1) aC) (ak (aD (eq 2) aC) (ak (aD (eq 3) aC) (aK (aM (eq 4) e)))))⟩
 ·obtain⟨S1,e⟩:=k5 (sub:=sub) (n:=n) (kind:=5) (cell:=cell) (x7:=none) (x8:=none) (x9:=none) G;exact⟨S1,ak (aD (eq 0) aC) (ak (aD (eq 1) aC) (ak (aD (eq 2) aC) (ak (aD (eq 3) aC) (ak (aD (eq 4) aC) e))))⟩
end
abbrev sb:Sub:=λ_ _=>false
theorem main(ns:WE)(h:ns.length<=63):∃S',aj (λ_ _=>false) Pd 30 "law" [.fro (ns.map .int)] []=.ok (.bl true) S':=by
 obtain⟨mx,M⟩:=zG hG;have hl:=IV M ns (at':=2) (most:=4) (by decide) (by decide);have ed:=ym (sub:=sb) (n:=24) (S:=[]) hG M ns (at':=2) (most:=4) (by decide) (by decide) (by decide)
 have h4:(cO mx ns 2 4).works.length<=4:=by
  have:=M.rng ns (2+1) (show(0:Int)<4 by decide);simp only[cO,Zi,ZS];omega
 generalize cO mx ns 2 4=l at hl ed h4;have hx:=M.rng ns 0 (show(0:Int)<6 by decide);have hy:=M.rng ns 1 (show(0:Int)<1000000 by decide);obtain⟨k,hk⟩:∃k:Nat,(k:Int)=mx ns 0 6:=⟨(mx ns 0 6).toNat,by omega⟩
 obtain⟨c,hc⟩:∃c:Nat,(c:Int)=mx ns 1 1000000:=⟨(mx ns 1 1000000).toNat,by omega⟩
 have hk6:k<six.length:=by show k<6; omega
 have ea:=asked (sub:=sb) (n:=14) (cell:=c) hl h4 (k:=k) (Zb hk6);rw[hk,hc] at ea
 have hi:fz six six[k]=some k:=by
  have:∀k:Fin 6,fz six (six.getD k "")=some k.val:=by decide +kernel
  rw[<- this ⟨k,hk6⟩];rw[Zu,Zb hk6]; rfl
 have et:exec sb (aj sb Pd 29) (.tryK "_law_asked" (.cs (.v 1) (.cs (.v 2) (.cs (.call "_law_mixed" (.cs (.v 0) (.cs (.c (.int 1)) (.cs (.bin .pow (.c (.int 10)) (.c (.int 6))) .nl)))) .nl))) ["NoLoop","NoGap","NoPlan","NoBoxes","NoInputs","NoRounds"] 2) [some (.fro (ns.map .int)),some l.toD,some (.int (mx ns 0 6)),none,none] []=.ok (.rt (.bl true)) []:=by
  have e:evs sb (aj sb Pd 29) (.cs (.v 1) (.cs (.v 2) (.cs (.call "_law_mixed" (.cs (.v 0) (.cs (.c (.int 1)) (.cs (.bin .pow (.c (.int 10)) (.c (.int 6))) .nl)))) .nl))) [some (.fro (ns.map .int)),some l.toD,some (.int (mx ns 0 6)),none,none] []=.ok [l.toD,.int (mx ns 0 6),.int (mx ns 1 1000000)] []:=aa (r_v rfl) (aa (r_v rfl) (aa (ao (aa (r_v rfl) (aa r_c (aa (aJ r_c r_c rfl) ah))) (M.ok ns (by decide) (by decide))) ah));show(quiet (evs sb (aj sb Pd 29) _ _)>>=λds=>gq six (some (some (.int (mx ns 0 6)))) [some (.fro (ns.map .int)),some l.toD,some (.int (mx ns 0 6)),none,none] (aj sb Pd 29 "_law_asked" ds)) []=_;rw[aA,eY e,Res.aq];unfold gq;rw[ea];dsimp only;rw[hi];dsimp only;rw[hk,Zj rfl]
 exact⟨[],x_call (ds:=[.fro (ns.map .int)]) (show Has Pd "law" mJ from rfl) rfl (ak (aI (ao (aa (r_v rfl) (aa r_c (aa r_c ah))) ed)) (ak (aI (ao (aa (r_v rfl) (aa r_c (aa r_c ah))) (M.ok ns (by decide) (by decide)))) (b8 et))) (bf rfl rfl)⟩
end K24

namespace L2
open PySem PySem.Spec PyProof.Rows
section
variable{prog:WK}{w:WN}{A:Around}{R:Result->Shared->Prop}{s:WI}
theorem DI{elt target iter:Expr}{ifs:WS}{scope:Scope}{pos:Pos}{it acc:Value}{env:Env}(I:Nat->Shared->Prop)
  (turn:∀n s,I n s->wpAny (model prog w) A (pyNext it) (λr s₁=>match r with
   | none=>R (.ok .next) s₁
   | some v=>wpAny (model prog w) A (letOwnedTupleGo target it v) (λ_ s₁'=>wpAny (model prog w) A (assign target env v) (λ_ s₂ =>
     wpAny (model prog w) A (forIn ifs true λc r=>if r=true then do let ok <- isTrue c env (eval c env); pure (ForInStep.yield ok) else pure (ForInStep.yield r)) (λok s₃ =>
      if ok=true then wpAny (model prog w) A (eval elt env) (λx s₄ =>
       wpAny (model prog w) A (call (.builtin "list.append") [acc,x]) (λ_ s₅=>∃m,m<n/\I m s₅) (λ_ _=>False) s₄) (λ_ _=>False) s₃
      else ∃m,m<n/\I m s₃) (λ_ _=>False) s₂) (λ_ _=>False) s₁') (λ_ _=>False) s₁) (λ_ _=>False) s)
  (n:Nat) (h:I n s) :
  codeAny (model prog w) A (.compLoop (.ListComp elt [⟨target,iter,ifs,0⟩] scope pos) 0 it acc env) R s:=by
 refine codeAny_loop rfl I (λn s hI=>?_) n h;show wpAny _ A ((compTurn (.ListComp elt [⟨target,iter,ifs,0⟩] scope pos) 0 it acc env).onRaise (λx=>do noteFrame x env; theTreesLotGoes x)) _ _ s;refine wpAny_noted ?_;rw[compTurn_list];refine Za (wpAny_standAt (Za (Xu (turn n s hI) (λr s₁ h₁=>?_) λ_ _ h'=>h'.elim)))
 cases r with
 | none=>exact Zd h₁
 | some v =>
  refine Za (Xu h₁ (λ_ s₁' h₁'=>?_) λ_ _ h'=>h'.elim);refine Za (Xu h₁' (λ_ s₂ h₂=>Za (Xu h₂ (λok s₃ h₃=>?_) λ_ _ h'=>h'.elim)) λ_ _ h'=>h'.elim)
  cases ok with
  | false=>exact Zd ⟨rfl,h₃⟩
  | true =>
   exact Za (Za (Xu h₃ (λx s₄ h₄=>Za (Xu h₄ (λ_ s₅ h₅=>Zd (Zd ⟨rfl,h₅⟩)) λ_ _ h'=>h'.elim)) λ_ _ h'=>h'.elim))
end
theorem lH{env:Env}:∀(names:List (Str×NameKind)) (cs:List (Str×Addr)),(∀y∈names,y.2=.free->∃c,env.cells.lookup y.1=some c) ->
  (∀x c,cs.lookup x=some c->env.cells.lookup x=some c) ->
  ∃cl,(forIn names cs λ(p:Str×NameKind) (r:List (Str×Addr))=>if(p.2==NameKind.free)=true then(do let c <- cellOf env p.1; pure (ForInStep.yield ((p.1,c)::r))) else pure (ForInStep.yield r):Sem (List (Str×Addr)))=pure cl /\
   (∀x c,cl.lookup x=some c->env.cells.lookup x=some c)/\(∀x c,cs.lookup x=some c->cl.lookup x=some c)/\∀y∈names,y.2=.free->cl.lookup y.1=env.cells.lookup y.1
 | [],cs,_,hc=>⟨cs,rfl,hc,λ_ _ h=>h,λy hy=>absurd hy (by simp)⟩
 | (x,k)::r,cs,h,hc=>by
  have hr:∀y∈r,y.2=.free->∃c,env.cells.lookup y.1=some c:=λy hy=>h y (Zr _ hy)
  by_cases hk:k=.free
  ·subst hk;obtain⟨c,e⟩:=h (x,.free) Zp rfl
   have hc':∀z d,((x,c)::cs).lookup z=some d->env.cells.lookup z=some d:=λz d q=>by
    by_cases hz:z=x
    ·subst hz;rw[X8] at q;cases q; exact e
    ·rw[Z1,show(z==x)=false from Xt.mpr hz] at q;exact hc z d q
   obtain⟨cl,e1,e2,e3,e4⟩:=lH r ((x,c)::cs) hr hc';refine⟨cl,?_,e2,λz d q=>?_,λy hy hf=>?_⟩
   ·rw[Wg];simp only[Qi,Xa];unfold cellOf;rw[e];simp only[pure_bind];exact e1
   ·by_cases hz:z=x
    ·subst hz;have:=hc z d q;rw[e] at this;exact e3 z d (by rw[X8]; exact this)
    ·exact e3 z d (by rw[Z1,show(z==x)=false from Xt.mpr hz]; exact q)
   ·rcases Zm.mp hy with z|z
    ·subst z;rw[e3 x c (X8),e]
    ·exact e4 y z hf
  ·have hb:(k==NameKind.free)=false:=Xt.mpr hk;obtain⟨cl,e1,e2,e3,e4⟩:=lH r cs hr hc;refine⟨cl,?_,e2,e3,λy hy hf=>?_⟩
   ·rw[Wg];simp only[hb,Zw,ZK,pure_bind];exact e1
   ·rcases Zm.mp hy with z|z
    ·subst z; exact absurd hf hk
    ·exact e4 y z hf
theorem vm{env:Env}{scope:Scope}(h:∀y∈scope.names,y.2=.free->∃c,env.cells.lookup y.1=some c) :
  ∃cl,closureFor scope env=pure cl/\(∀x c,cl.lookup x=some c->env.cells.lookup x=some c)/\∀y∈scope.names,y.2=.free->cl.lookup y.1=env.cells.lookup y.1:=by
 obtain⟨cl,e1,e2,_,e4⟩:=lH (env:=env) scope.names [] h (λx c q=>by cases q);refine⟨cl,?_,e2,e4⟩;unfold closureFor;show((forIn scope.names ([]:List (Str×Addr)) λ(p:Str×NameKind) (r:List (Str×Addr))=>if(p.2==NameKind.free)=true then(do let c <- cellOf env p.1; pure (ForInStep.yield ((p.1,c)::r))) else pure (ForInStep.yield r):Sem (List (Str×Addr)))>>=λs=>pure s)=pure cl;rw[e1];rfl
noncomputable def aN(X:Cx)(scope:Scope)(cl:List (Str×Addr))(N':WP)(fp:WL)(s3:WI)(H3:Hp):Cx :=
 { X with N:=N',s₀:=s3,H₀:=H3,env:=compEnvC scope cl s3.heap.objs.size X.env,outer:=X.stack,stack:=X.stack,ex:=fp,fn:=λx=>decide (scope.names.lookup x=some .cell),pn:=[],xe:=λ_ _=>False }
noncomputable def PF(X:Cx)(ifs:WS)(t:TT):Prop :=
 ∀(pins:WD) (s:WI) (σ:St) (H:Hp) (Q:Bool->Hp->Prop),Inv X pins σ H s->t σ H Q ->
  wpAny (model X.prog X.w) X.A (forIn ifs true λc r=>if r=true then do let ok <- isTrue c X.env (eval c X.env); pure (ForInStep.yield ok) else pure (ForInStep.yield r)) (TP X pins σ Q) X.xe s
theorem uM{X:Cx}:PF X [] (λ_ H Q=>Q true H):=λ_ _ _ H _ I h=>wpAny_tests_nil ⟨H,I,h⟩
theorem uN{X:Cx}{c:Expr}{t:TT}(hc:PT X c t):PF X [c] t:=λpins s σ H Q I h=>wpAny_tests_one (hc pins s σ H Q I h)
noncomputable def l_(k:Nat)(wi:TI)(g:TG)(tt:TT)(te:TE):TE:=λσ H Q=>wi σ H λJ H1=>∀l,H1 l=none->∃W:Nat->Nat->Hp->Prop,(∃m,W 0 m (upd H1 l (.lst [])))/\∀i m H,W i m H ->
 (J.stop i H/\Q (.ref l) H)\/(J.go i H/\∀x H',J.yld i H x H'->g x (σ++List.replicate k none) H' λσ2 H2=>(∀(j:Nat) v,(σ++List.replicate k none)[j]?=some (some v)->σ2[j]?=some (some v))/\tt σ2 H2 λb H3 =>
  if b=true then te σ2 H3 λy H4=>∃xs,H4 l=some (.lst xs)/\xs.length<sizeLine/\∃m',m'<m/\W (i+1) m' (upd H4 l (.lst (xs++[y]))) else ∃m',m'<m/\W (i+1) m' H3)
theorem jl:∀(names:List (Str×NameKind)) (n:Nat) (acc:List (Str×Addr)),cellsFrom n names acc=cellsFrom n names []++acc
 | [],_,_=>rfl
 | (x,k)::r,n,acc=>by
  unfold cellsFrom;split
  ·rw[jl r (n+1) ((x,n)::acc),jl r (n+1) [(x,n)],Zt]; rfl
  ·exact jl r n acc
theorem mz{x:Str}{c:Addr}:∀(names:List (Str×NameKind)) (n:Nat) (acc:List (Str×Addr)),(x,c)∈cellsFrom n names acc->(x,NameKind.cell)∈names\/(x,c)∈acc
 | [],_,_,h=>.inr h
 | (y,k)::r,n,acc,h=>by
  unfold cellsFrom at h;split at h
  ·rename_i hk;rcases mz r (n+1) _ h with z|z
   ·exact .inl (Zr _ z)
   ·rcases Zm.mp z with e|e
    ·cases e;rw[QB.mp hk];exact .inl Zp
    ·exact .inr e
  ·rcases mz r n acc h with z|z
   ·exact .inl (Zr _ z)
   ·exact .inr z
theorem ji{α:Type}:∀{l:List (Str×α)} {x:Str} {a:α},(l.map (·.1)).Nodup->(x,a)∈l->l.lookup x=some a
 | (y,b)::r,x,a,nd,h=>by
  obtain⟨n1,n2⟩:=Xh.mp nd;rcases Zm.mp h with e|e
  ·cases e; exact X8
  ·have hne:x≠y:=λz=>n1 (ZP.mpr ⟨(x,a),e,z⟩)
   rw[Z1,Xt.mpr hne];exact ji n2 e
theorem o5{scope:Scope}{n:Nat}{cl:List (Str×Addr)}(nd:(scope.names.map (·.1)).Nodup)(x:Str):(scope.names.lookup x=some .cell/\∃c,(cellsFrom n scope.names cl).lookup x=some c/\(x,c)∈cellsFrom n scope.names [])\/(scope.names.lookup x≠some .cell/\(cellsFrom n scope.names cl).lookup x=cl.lookup x):=by
 rw[jl]
 by_cases h:scope.names.lookup x=some .cell
 ·refine .inl ⟨h,?_⟩;obtain⟨c,e⟩:=oh (n:=n) h;exact⟨c,by rw[List.lookup_append,e]; rfl,mem_of_lookup e⟩
 ·refine .inr ⟨h,?_⟩
  cases e:(cellsFrom n scope.names []).lookup x with
  | none=>rw[List.lookup_append,e]; rfl
  | some c =>
   rcases mz _ _ _ (mem_of_lookup e) with z|z
   ·exact absurd (ji nd z) h
   ·cases z
theorem Az{M:Model}{A:Around}{E:WC}{s:WI}{scope:Scope}{cl:List (Str×Addr)}{g:Addr}{env:Env}{qual:Str}{Q:Env->Shared->Prop}
  (hQ:Q { scope:=scope,locals:=s.heap.objs.size,globals:=g,cells:=cellsFrom (s.heap.objs.size+1) scope.names cl,qual:=qual,func:=none,code:=env.code,frame:=env.frame,builtins:=env.builtins } { s with heap:=pushCells (s.heap.push { cls:=.type "dict",data:=.dict #[] }) scope.names }) :
  wpAny M A (newFunctionEnv scope g cl [] qual none .none (some env)) Q E s:=by
 simp only[newFunctionEnv,Option.isSome_some,Xa];refine Za (wpAny_alloc ?_);refine Za (wpAny_layCells _ (λname kind cells=>by cases hkc:kind==NameKind.cell<;>simp[hkc]) _ _ _ _ ?_);rw[show({ s with heap:=s.heap.push { cls:=.type "dict",data:=.dict #[] } }:Shared).heap.objs.size=s.heap.objs.size+1 from Z2 ..];refine Za ?_;rw[Wn];exact Zd (Zd hQ)
set_option genInjectivity false in
structure fq(X:Cx)(scope:Scope)(N':WP)(k:Nat):Prop where
 fr:∀y∈scope.names,y.2=.free->X.env.kindOf y.1=some .cell\/X.env.kindOf y.1=some .free
 nd:(scope.names.map (·.1)).Nodup
 kind:scope.kind=.function
 names:∀y∈scope.names,y.2=.local->scope.names.lookup y.1=some .local
 len:N'.length=X.N.length+k
 old:∀(i:Nat) (x:Str),i<X.N.length->N'[i]?=some x->Vis (relabel scope X.env) x->X.N[i]?=some x/\(x,NameKind.free)∈scope.names/\(relabel scope X.env).names.lookup x≠some .local
section
variable{X:Cx}{scope:Scope}{N':WP}{k:Nat}{cl:List (Str×Addr)}{pins:WD}{σ:St}{H:Hp}{s3 s4:WI}{fp:WL}
theorem DL(C:fq X scope N' k)(hc:X.calm=true)(I:Inv X pins σ H s3)(hf:∀b∈fp,cE X pins H b)(hfl:∀b∈fp,b<s3.heap.objs.size)(hcl1:∀x c,cl.lookup x=some c->X.env.cells.lookup x=some c)
  (hcl2:∀y∈scope.names,y.2=.free->cl.lookup y.1=X.env.cells.lookup y.1) {cl':List (Str×Addr)} (hcl':cl'=cellsFrom (s3.heap.objs.size+1) scope.names cl) (h':Heap) (hns:h'.Ns s3.heap.objs.size λ_=>none) (hk:∀b o,s3.heap.get? b=some o->h'.get? b=some o) (hown:CellsOk h' (s3.heap.objs.size+1) (cellsFrom (s3.heap.objs.size+1) scope.names [])) :
  Inv (aN X scope cl' N' fp s3 H) [] (σ++List.replicate k none) H { s3 with heap:=h' }:=by
 have fpold:∀b∈fp,∀o,X.base.get? b≠some o:=λb hb o e=>by
  rcases(hf b hb).2.2.2.1 with z|z
  ·exact I.ok.noex b o e z
  ·exact absurd (ZE (Zo (I.ok.bs b o e).1) z) (Z6 _)
 have own:∀x c,cl'.lookup x=some c->(scope.names.lookup x=some .cell/\(x,c)∈cellsFrom (s3.heap.objs.size+1) scope.names []/\s3.heap.objs.size<c/\h'.IsCell c none)\/(scope.names.lookup x≠some .cell/\cl.lookup x=some c):=λx c e=>by
  rw[hcl'] at e;rcases o5 (n:=s3.heap.objs.size+1) (cl:=cl) C.nd x with⟨h1,c',e1,e2⟩|⟨h1,e1⟩
  ·rw[e1] at e; cases e;have:=hown.empty x c e2;exact .inl ⟨h1,e2,this.2,this.1⟩
  ·rw[e1] at e; exact .inr ⟨h1,e⟩
 have fre:∀y∈scope.names,y.2=.free->cl'.lookup y.1=X.env.cells.lookup y.1:=λy hy hf=>by
  rw[hcl'];rcases o5 (n:=s3.heap.objs.size+1) (cl:=cl) C.nd y.1 with⟨h1,_⟩|⟨_,e1⟩
  ·have:=ji C.nd (show(y.1,y.2)∈scope.names from hy);rw[h1,hf] at this; cases this
  ·rw[e1]; exact hcl2 y hy hf
 have ncl:∀x c,cl.lookup x=some c->c<s3.heap.objs.size:=λx c e=>by
  obtain⟨v,o,ho,_⟩:=I.cell x c (hcl1 x c e);exact Zo ho
 have ok:(aN X scope cl' N' fp s3 H).Ok:=by
  refine⟨I.ok.mod,C.kind,I.ok.glob,I.ok.blt,Zn _,λx y c h1 h2=>?_,λx hx=>?_,λx c hfn e=>?_,I.ok.hd,I.ok.frames,.inl rfl,λb hb=>?_,I.bs,Xm I.ok.bsz I.sz,λb o e hb=>fpold b hb o e,λb hb hb2=>?_,I.stack,I.l7⟩
  ·rcases own x c h1 with⟨a1,a2,a3,a4⟩|⟨a1,a2⟩
   ·rcases own y c h2 with⟨b1,b2,b3,b4⟩|⟨b1,b2⟩
    ·exact name_of_addr hown.apart a2 b2
    ·exact absurd (ncl y c b2) (Nat.lt_asymm a3)
   ·rcases own y c h2 with⟨b1,b2,b3,b4⟩|⟨b1,b2⟩
    ·exact absurd (ncl x c a2) (Nat.lt_asymm b3)
    ·exact I.ok.inj x y c (hcl1 x c a2) (hcl1 y c b2)
  ·have hx':(relabel scope X.env).names.lookup x=some .cell\/(relabel scope X.env).names.lookup x=some .free:=hx
   have:(x,NameKind.free)∈scope.names\/(x,NameKind.cell)∈scope.names:=by
    have all:∀(ns:List (Str×NameKind)),((ns.map λ(n,k)=>if(k==.free&&X.env.scope.kind==.function&&X.env.kindOf n==some .cell) then(n,NameKind.cell) else(n,k)).lookup x=some .cell\/(ns.map λ(n,k)=>if(k==.free&&X.env.scope.kind==.function&&X.env.kindOf n==some .cell) then(n,NameKind.cell) else(n,k)).lookup x=some .free)->(x,NameKind.free)∈ns\/(x,NameKind.cell)∈ns:=by
     intro ns
     induction ns with
     | nil=>intro h; rcases h with h|h<;>simp at h
     | cons y r ih =>
      intro h;obtain⟨n,kd⟩:=y;have hr:=ih;simp only[ZT] at h
      by_cases hxn:x=n
      ·subst hxn
       by_cases hkf:kd=.free
       ·subst hkf; exact .inl Zp
       ·have hb:(kd==NameKind.free)=false:=Xt.mpr hkf;simp only[hb,Wm,Zw,ZK,X8] at h;rcases h with h|h
        ·rw[Zz h]; exact .inr Zp
        ·exact absurd (Zz h) hkf
      ·have hb:(x==n)=false:=Xt.mpr hxn;refine(hr ?_).imp (Zr _) (Zr _)
       by_cases hcnd:(kd==NameKind.free&&X.env.scope.kind==.function&&X.env.kindOf n==some .cell)=true
       ·simp only[Ze hcnd,Z1,hb] at h;exact h
       ·simp only[Zg hcnd,Z1,hb] at h;exact h
    exact all scope.names hx'
   rcases this with this|this
   ·obtain⟨c,e⟩:=I.ok.has x (C.fr _ this rfl);exact⟨c,(fre _ this rfl).trans e⟩
   ·rcases o5 (n:=s3.heap.objs.size+1) (cl:=cl) C.nd x with⟨h1,c',e1,e2⟩|⟨h1,_⟩
    ·exact⟨c',by show cl'.lookup x=_; rw[hcl']; exact e1⟩
    ·exact absurd (ji C.nd this) h1
  ·rcases own x c e with⟨a1,a2,a3,a4⟩|⟨a1,a2⟩
   ·exact Qf a3
   ·exact absurd (Zk hfn) a1
  ·obtain⟨f0,f1,f2,f3,f4,f5⟩:=hf b hb;refine⟨?_,λx c e=>?_⟩
   rotate_left
   ·rcases own x c e with⟨a1,a2,a3,a4⟩|⟨a1,a2⟩
    ·exact λz=>absurd (hfl b hb) (by rw[<- z]; exact Nat.lt_asymm a3)
    ·exact f4 x c (hcl1 x c a2)
   intro z;have hz:b=s3.heap.objs.size:=z;exact absurd (hfl b hb) (by rw[hz]; exact Z6 _)
  ·obtain⟨f0,f1,f2,f3,f4,f5⟩:=hf b hb;rcases Zm.mp (I.mC b hb2) with z|z
   ·exact f1 z
   ·exact f2 z
 refine⟨ok,rfl,I.bare,Un.kept hk,⟨λ_=>none,hns,λi x v e1 e2 e3=>?_⟩,λx c e=>?_,I.hok.fresh (Zn _),λx c e=>?_,λp hp=>absurd (show p∈([]:List (Addr×Obj)) from hp) (by simp),I.hok.kept hk,?_⟩
 ·have hi:i<σ.length:=by
   by_cases hi:i<σ.length
   ·exact hi
   ·rw[ZI (by omega),XD] at e2;split at e2<;>cases e2
  rw[ZF hi] at e2;obtain⟨o1,o2,o3⟩:=C.old i x (by rw[<- I.len]; exact hi) e1 e3;obtain⟨m,hn,hl⟩:=I.loc;have hkk:=C.fr _ o2 rfl;obtain⟨u,r,l⟩:=hl i x v o1 e2 (by rcases hkk with q|q; exact .inr (.inl q); exact .inr (.inr q));refine⟨u,r,?_⟩;rcases l with⟨q,_⟩|⟨q,c,e,z⟩
  ·rcases hkk with q'|q'<;>(rw[q] at q'; cases q')
  ·refine .inr ⟨?_,c,(fre _ o2 rfl).trans e,?_⟩
   ·rcases e3 with e3|e3|e3
    ·exact absurd e3 o3
    ·exact .inl e3
    ·exact .inr e3
   ·obtain⟨o,ho,hd⟩:=z;exact⟨o,hk _ _ ho,hd⟩
 ·rcases own x c e with⟨a1,a2,a3,a4⟩|⟨a1,a2⟩
  ·exact⟨none,a4⟩
  ·obtain⟨v,o,ho,hd⟩:=I.cell x c (hcl1 x c a2);exact⟨v,o,hk _ _ ho,hd⟩
 ·rcases own x c e with⟨a1,a2,a3,a4⟩|⟨a1,a2⟩
  ·exact I.hok.fresh (Qf a3)
  ·exact I.freeC x c (hcl1 x c a2)
 ·show(σ++List.replicate k none).length=N'.length;rw[ZG,Z9,I.len,C.len]
theorem uU{elt iter tg:Expr}{ifs:WS}{pos:Pos}{g:TG}{tt:TT}{te:TE}{it:Addr}{tn:Nat->Heap->Prop}{J:It}{s2:WI}{Q:VK}{E:WC}(C:fq X scope N' k)(hc:X.calm=true)
  (hg:∀cl fp s3 H3,PG (aN X scope cl N' fp s3 H3) tg g) (htt:∀cl fp s3 H3,PF (aN X scope cl N' fp s3 H3) ifs tt) (hte:∀cl fp s3 H3,PE (aN X scope cl N' fp s3 H3) elt te)
  (hcl1:∀x c,cl.lookup x=some c->X.env.cells.lookup x=some c) (hcl2:∀y∈scope.names,y.2=.free->cl.lookup y.1=X.env.cells.lookup y.1)
  (I2:Inv X pins σ H s2) (T:Turn X.prog X.w X.K tg J fp it tn) (st2:tn 0 s2.heap) (f2:∀b∈fp,cE X pins H b)
  (h2:∀l,H l=none->∃W:Nat->Nat->Hp->Prop,(∃m,W 0 m (upd H l (.lst [])))/\∀i m H,W i m H ->
   (J.stop i H/\Q (.ref l) H)\/(J.go i H/\∀x H',J.yld i H x H'->g x (σ++List.replicate k none) H' λσ2 H2=>(∀(j:Nat) v,(σ++List.replicate k none)[j]?=some (some v)->σ2[j]?=some (some v))/\tt σ2 H2 λb H3 =>
    if b=true then te σ2 H3 λy H4=>∃xs,H4 l=some (.lst xs)/\xs.length<sizeLine/\∃m',m'<m/\W (i+1) m' (upd H4 l (.lst (xs++[y]))) else ∃m',m'<m/\W (i+1) m' H3))
  {R:Value->Addr->Result->Shared->Prop} (hR:∀l c H' s' m,Inv X pins σ H' s'->Q (.ref l) H'->s'.heap.Ns c m->cE X pins H' c->R (.ref l) c (.ok .next) s') :
  wpAny (model X.prog X.w) X.A (newList []) (λacc s₃=>wpAny (model X.prog X.w) X.A (newFunctionEnv scope X.env.globals cl [] X.env.qual none .none (some X.env)) (λcenv s₄ =>
   codeAny (model X.prog X.w) X.A (.compStart (.ListComp elt [⟨tg,iter,ifs,0⟩] scope pos) 0 (.ref it) acc { cenv with scope:=relabel scope X.env }) (R acc cenv.locals) s₄) E s₃) E s2:=by
 refine Xe ?_;have hl0:H s2.heap.objs.size=none:=I2.hok.fresh (Zn _);obtain⟨W,⟨m0,w0⟩,turn⟩:=h2 s2.heap.objs.size hl0
 have I3:Inv X pins σ (upd H s2.heap.objs.size (.lst [])) { s2 with heap:=s2.heap.push { cls:=.type "list",data:=.seq ([]:List Value).toArray } } :=
  I2.laid (t':=s2.toks) (λb u e=>Zc _ e) (Zn _) ⟨by show 0<=_; omega,[],0,.nil,Zy _ rfl⟩
 have obj2:∀b∈fp,∃o,s2.heap.get? b=some o/\∀v,o.data≠.cell v:=T.obj _ _ st2;have lt2:∀b∈fp,b<s2.heap.objs.size:=λb hb=>let⟨o,e,_⟩:=obj2 b hb; Zo e
 have f3:∀b∈fp,cE X pins (upd H s2.heap.objs.size (.lst [])) b:=λb hb=>⟨by rw[aF (ZC (lt2 b hb))]; exact(f2 b hb).1,(f2 b hb).2⟩
 generalize hs3:({ s2 with heap:=s2.heap.push { cls:=.type "list",data:=.seq ([]:List Value).toArray } }:Shared)=s3 at I3 ⊢;have st3:tn 0 s3.heap:=T.keep _ _ _ st2 λb hb o e=>by rw[<- hs3]; exact Zc _ e
 generalize hH3:upd H s2.heap.objs.size (.lst [])=H3 at I3 w0 f3;generalize s2.heap.objs.size=l at turn ⊢ w0;clear hs3 hH3;have obj3:∀b∈fp,∃o,s3.heap.get? b=some o/\∀v,o.data≠.cell v:=T.obj _ _ st3;have lt3:∀b∈fp,b<s3.heap.objs.size:=λb hb=>let⟨o,e,_⟩:=obj3 b hb; Zo e
 refine Az ?_;have hown:=cellsFrom_ok scope.names (s3.heap.push { cls:=.type "dict",data:=.dict #[] }) (s3.heap.objs.size+1) [] ⟨λ_ _ hm=>(nomatch hm),List.Pairwise.nil⟩ (by rw[Z2]; exact Zn _);rw[Z2] at hown;have hns₁:(pushCells (s3.heap.push { cls:=.type "dict",data:=.dict #[] }) scope.names).Ns s3.heap.objs.size λ_=>none:=(Heap.Ns.new s3.heap (.type "dict")).keeps (pushCells_keeps _ _)
 have hk1:∀b o,s3.heap.get? b=some o->(pushCells (s3.heap.push { cls:=.type "dict",data:=.dict #[] }) scope.names).get? b=some o:=λb o e=>pushCells_keeps _ _ b o (Zc _ e)
 generalize hcl':cellsFrom (s3.heap.objs.size+1) scope.names cl=cl';generalize pushCells (s3.heap.push { cls:=.type "dict",data:=.dict #[] }) scope.names=h₁ at hown hns₁ hk1;have I4:Inv (aN X scope cl' N' fp s3 H3) [] (σ++List.replicate k none) H3 { s3 with heap:=h₁ }:=DL C hc I3 f3 lt3 hcl1 hcl2 hcl'.symm h₁ hns₁ hk1 hown;have st4:tn 0 h₁:=T.keep _ _ _ st3 λb _ o e=>hk1 b o e
 have stat:∀{H':Hp},(∀b∈fp,H' b=none)->∀b∈fp,cE (aN X scope cl' N' fp s3 H3) [] H' b:=λ{H'} hn b hb =>
  ⟨hn b hb,(I4.ok.exf b hb).1,I4.ok.exfs b hb,.inl hb,(I4.ok.exf b hb).2,λp hp=>absurd (show p∈([]:List (Addr×Obj)) from hp) (by simp)⟩
 have loop:∀s4:Shared,s4={ s3 with heap:=h₁ } ->
   codeAny (model X.prog X.w) X.A (.compLoop (.ListComp elt [⟨tg,iter,ifs,0⟩] scope pos) 0 (.ref it) (.ref l) (compEnvC scope cl' s3.heap.objs.size X.env)) (R (.ref l) s3.heap.objs.size) s4:=by
  rintro s4 rfl;refine DI (env:=(aN X scope cl' N' fp s3 H3).env) (λn s'=>∃i H',Inv (aN X scope cl' N' fp s3 H3) [] (σ++List.replicate k none) H' s'/\tn i s'.heap/\(∀b∈fp,H' b=none)/\W i n H') ?_ m0 ⟨0,H3,I4,st4,λb hb=>(f3 b hb).1,w0⟩;rintro n s5 ⟨i,H5,I5,st5,fr5,w5⟩;rcases turn i n H5 w5 with⟨stop,qn⟩|⟨go,step⟩
  ·refine thn (T.done (aN X scope cl' N' fp s3 H3) rfl rfl rfl hc i [] s5 _ H5 _ I5 (stat fr5) st5 stop) λr s6 ⟨hr,I6⟩=>?_
   subst hr;obtain⟨m,hnm,_⟩:=I6.loc;have I7:Inv X pins σ H5 s6:=I3.pU (ch:=fp) I6.os I6.base I6.hok I6.bare λb hb=>⟨(f3 b hb).2.2.2.1,(f3 b hb).2.1,(f3 b hb).2.2.2.2.1,(f3 b hb).2.2.2.2.2⟩
   exact hR l _ H5 s6 m I7 qn hnm (I3.f6 (Zn _) I6.free)
  ·refine thn (T.item (aN X scope cl' N' fp s3 H3) rfl rfl rfl hc i [] s5 _ H5 _ I5 (stat fr5) st5 go) λr s6 ⟨u,hr,h6⟩=>?_
   subst hr;refine thn h6 λ_ s7 ⟨x,H7,I7,r7,y7,st7,fr7⟩=>?_
   have I7':=I7.pinned (stat fr7) (T.obj _ _ st7);refine thn (hg cl' fp s3 H3 _ s7 _ H7 x u _ I7' r7 (step x H7 y7)) λ_ s8 ⟨σ8,H8,I8,w8,q8⟩=>?_
   refine thn (htt cl' fp s3 H3 _ s8 σ8 H8 _ I8 q8) λb s9 ⟨H9,I9,q9⟩=>?_
   have again:∀{H':Hp} {s':WI},Inv (aN X scope cl' N' fp s3 H3) ([]++iu fp s7.heap) σ8 H' s'->(∃m',m'<n/\W (i+1) m' H') ->
     ∃m,m<n/\∃i H',Inv (aN X scope cl' N' fp s3 H3) [] (σ++List.replicate k none) H' s'/\tn i s'.heap/\(∀b∈fp,H' b=none)/\W i m H':=λ{H' s'} I' ⟨m',hm,w'⟩=>by
    refine⟨m',hm,i+1,H',(I'.kB).weak (by rw[I'.len]; exact I4.len) w8,T.keep _ _ _ st7 λb hb o e=>(I'.pin (b,o) (ZV _ (ZV _ (kG hb e)))).1,λb hb=>?_,w'⟩;obtain⟨o,e,d⟩:=T.obj _ _ st7 b hb;exact(I'.pin (b,o) (ZV _ (ZV _ (kG hb e)))).2.1
   cases b with
   | false=>exact again I9 (by simpa using q9)
   | true =>
    rw[Ze rfl];rw[Ze rfl] at q9;refine thn (hte cl' fp s3 H3 _ s9 σ8 H9 _ I9 q9) λy s10 ⟨yv,H10,I10,r10,xs,hl10,hz,q10⟩=>?_
    refine thn (qS (X:=aN X scope cl' N' fp s3 H3) _ s10 σ8 H10 (.ref l) [yv] (.ref l) [y] (λ_ H'=>∃m',m'<n/\W (i+1) m' H') I10 rfl (.cons r10 .nil) ⟨l,xs,yv,rfl,rfl,hl10,hz,q10⟩) λ_ s11 ⟨_,H11,I11,_,q11⟩=>again I11 q11
 exact codeAny_compStart_list (loop _ rfl) (T.self _ 0 _ _ _ st4 (loop _ rfl))
theorem xG{elt iter tg:Expr}{ifs:WS}{pos:Pos}{wi:TI}{g:TG}{tt:TT}{te:TE}(C:fq X scope N' k)(hc:X.calm=true)(hi:PI X tg iter wi)
  (hg:∀cl fp s3 H3,PG (aN X scope cl N' fp s3 H3) tg g) (htt:∀cl fp s3 H3,PF (aN X scope cl N' fp s3 H3) ifs tt) (hte:∀cl fp s3 H3,PE (aN X scope cl N' fp s3 H3) elt te)
  (hs:∀x,foldedSetIterable iter X.env x=pure x:=by intro _; rfl):PE X (.ListComp elt [⟨tg,iter,ifs,0⟩] scope pos) (l_ k wi g tt te):=by
 intro pins s σ H Q I h;rw[eval_ListComp];obtain⟨cl,e1,e2,e3⟩:=vm (env:=X.env) (scope:=scope) λy hy hf=>I.ok.has y.1 (C.fr y hy hf)
 refine wpAny_comprehension_free (use:=none) rfl hs e1 C.kind C.names (thn (hi pins s σ H _ I h) λv s1 h1=>thn h1 λitv s2 h2=>?_);obtain⟨it,fp,tn,J,H2,e,I2,T,st2,f2,h2⟩:=h2;subst e;refine uU (R:=λacc c=>compPost (model X.prog X.w) X.A X.xe none (EP X pins σ Q) acc c) C hc hg htt hte e2 e3 I2 T st2 f2 h2 λl c H' s' m I' q hn fc=>?_
 obtain⟨f0,f1,f2,f3,f4,f5⟩:=fc;exact⟨m,hn,λh' hsb=>⟨.ref l,H',I'.turned (t':=s'.toks) (λb o hb e=>(hsb.2 b hb).trans e) f0 f1 f3 f4 f5,rfl,q⟩⟩
theorem Dp{elt iter tg:Expr}{ifs:WS}{pos:Pos}{wi:TI}{g:TG}{tt:TT}{te:TE}{j:Nat}{y:Str}{py spos:Pos}(C:fq X scope N' k)(hc:X.calm=true)(hi:PI X tg iter wi)
  (hg:∀cl fp s3 H3,PG (aN X scope cl N' fp s3 H3) tg g) (htt:∀cl fp s3 H3,PF (aN X scope cl N' fp s3 H3) ifs tt) (hte:∀cl fp s3 H3,PE (aN X scope cl N' fp s3 H3) elt te)
  (hN:X.N.Nodup) (hj:X.N[j]?=some y) (hy:X.env.scope.names.lookup y=some .local)
  (hsw:swapsWith (.ListComp elt [⟨tg,iter,ifs,0⟩] scope pos) (some (.Name y py)) spos.line X.env=pure true)
  (hs:∀x,foldedSetIterable iter X.env x=pure x:=by intro _; rfl):PS X (.Assign [.Name y py] (.ListComp elt [⟨tg,iter,ifs,0⟩] scope pos) spos) (kr (l_ k wi g tt te) (gD j)):=by
 intro pins s σ H D I h;rw[exec_Assign_Name_used _ _ _ _ hsw];refine Za (wpAny_standAt (Za ?_));show wpAny _ X.A (do let _ <- comprehension (.ListComp elt [⟨tg,iter,ifs,0⟩] scope pos) scope X.env _ (newList []) false (eval iter X.env) (some (assign (.Name y py) X.env))) _ _ s;obtain⟨cl,e1,e2,e3⟩:=vm (env:=X.env) (scope:=scope) λy hy hf=>I.ok.has y.1 (C.fr y hy hf)
 refine Za (Xu (wpAny_comprehension_free (use:=some (assign (.Name y py) X.env)) (Q:=λ_ s'=>SP X pins D .next s') rfl hs e1 C.kind C.names
  (thn (hi pins s σ H _ I h) λv s1 h1=>thn h1 λitv s2 h2=>?_)) (λ_ s' hq=>Zd (Zd hq)) λ_ _ e=>e)
 obtain⟨it,fp,tn,J,H2,e,I2,T,st2,f2,h2⟩:=h2;subst e;refine uU (Q:=λx H1=>gD j x σ H1 D.nx) (R:=λacc c=>compPost (model X.prog X.w) X.A X.xe (some (assign (.Name y py) X.env)) (λ_ s'=>SP X pins D .next s') acc c) C hc hg htt hte e2 e3 I2 T st2 f2 h2 λl c H' s' m I' q hn fc=>?_
 obtain⟨f0,f1,f2,f3,f4,f5⟩:=fc;show wpAny _ X.A (assign (.Name y py) X.env (.ref l)) _ _ _;refine wpAny_assign_Name (mQ I' hN hj (.inl hy) (v:=.ref l) rfl (λs'' I'' ch=>?_) (.inr hy));obtain⟨a,hsb,ha⟩:=ch
 have hac:c≠a:=by
  rcases ha with z|z
  ·rw[z]; exact f1
  ·exact λw=>f4 y a z w.symm
 refine⟨m,hn.sameBut hsb hac,λh' hsb2=>⟨_,H',I''.turned (t':=s''.toks) (λb o hb e=>(hsb2.2 b hb).trans e) f0 f1 f3 f4 f5,q⟩⟩
end
end L2

namespace EV
open PySem PySem.Spec PyProof.Rows L2
theorem Paired.get{α β:Type}{F:α->β->Prop}:∀{xs:List α} {ys:List β} {i:Nat} {x:α},Paired F xs ys->xs[i]?=some x->∃y,ys[i]?=some y/\F x y
 | _,_,_,_,.nil,e=>by simp at e
 | _,_,0,_,.cons r _,e=>by simp at e; subst e; exact⟨_,rfl,r⟩
 | _,_,i+1,x,.cons _ t,e=>by
  obtain⟨u,h1,h2⟩:=Paired.get (i:=i) (x:=x) t (by simpa using e);exact⟨u,by simpa using h1,h2⟩
theorem Paired.get'{α β:Type}{F:α->β->Prop}{xs:List α}{ys:List β}{i:Nat}{y:β}(p:Paired F xs ys)(e:ys[i]?=some y):∃x,xs[i]?=some x/\F x y:=by
 have hl:=p.length;have hi:i<xs.length:=by rw[hl]; exact(Zf.mp e).1
 obtain⟨y',e',f⟩:=Paired.get p (Zb hi);rw[e] at e'; cases e';exact⟨_,Zb hi,f⟩
theorem Paired.step{α β:Type}{F:α->β->Prop}{ds:List α}{vs:List β}{n:Nat}(h:Paired F ds vs)(hl:ds.length=n+1):∃d r v q,ds=d::r/\vs=v::q/\F d v/\Paired F r q/\r.length=n:=by
 cases h with
 | nil=>cases hl
 | cons f t=>exact⟨_,_,_,_,rfl,rfl,f,t,Nat.succ.inj hl⟩
theorem Paired.last{α β:Type}{F:α->β->Prop}{ds:List α}{vs:List β}(h:Paired F ds vs)(hl:ds.length=0):ds=[]/\vs=[]:=by
 cases h with
 | nil=>exact⟨rfl,rfl⟩
 | cons f t=>cases hl
theorem Paired.app{α β:Type}{F:α->β->Prop}:∀{a c:List α} {b d:List β},Paired F a b->Paired F c d->Paired F (a++c) (b++d)
 | _,_,_,_,.nil,s=>s
 | _,_,_,_,.cons r t,s=>.cons r (Paired.app t s)
theorem Paired.tak{α β:Type}{F:α->β->Prop}:∀{a:List α} {b:List β} (n:Nat),Paired F a b->Paired F (a.take n) (b.take n)
 | _,_,0,_=>.nil
 | _,_,_+1,.nil=>.nil
 | _,_,n+1,.cons r t=>.cons r (Paired.tak n t)
theorem Paired.drp{α β:Type}{F:α->β->Prop}:∀{a:List α} {b:List β} (n:Nat),Paired F a b->Paired F (a.drop n) (b.drop n)
 | _,_,0,r=>r
 | _,_,_+1,.nil=>.nil
 | _,_,n+1,.cons _ t=>Paired.drp n t
theorem Paired.imp{α β:Type}{F G:α->β->Prop}(f:∀a b,F a b->G a b):∀{l₁:List α} {l₂:List β},Paired F l₁ l₂->Paired G l₁ l₂
 | _,_,.nil=>.nil
 | _,_,.cons r t=>.cons (f _ _ r) (Paired.imp f t)
theorem Paired.rep{α β:Type}{F:α->β->Prop}{a:List α}{b:List β}(h:Paired F a b):∀k:Nat,Paired F (List.replicate k a).flatten (List.replicate k b).flatten
 | 0=>.nil
 | k+1=>by
  simp only[Z3,XU];exact Paired.app h (Paired.rep h k)
theorem Paired.of_get{α β:Type}{F:α->β->Prop}:∀{xs:List α} {ys:List β},xs.length=ys.length->(∀(i:Nat) x y,xs[i]?=some x->ys[i]?=some y->F x y)->Paired F xs ys
 | [],[],_,_=>.nil
 | [],_::_,h,_=>by simp at h
 | _::_,[],h,_=>by simp at h
 | x::xs,y::ys,h,f=>.cons (f 0 x y rfl rfl) (Paired.of_get (by simpa using h) λi a b e1 e2=>f (i+1) a b (by simpa using e1) (by simpa using e2))
set_option genInjectivity false in
structure Gx where
 K:PySem.W.Frag
def Fro(K:WG)(H:Hp)(a:Addr)(xs:WT):Prop:=(∃o,H a=some (.frz o (.lst xs)))\/∀H:Hp,SqL K H a xs
theorem Fro.sq{K:WG}{H:Hp}{a:Addr}{xs:WT}(h:Fro K H a xs):SqL K H a xs:=by
 rcases h with⟨o,h⟩|h
 ·exact .inl (.inr ⟨o,h⟩)
 ·exact h H
set_option genInjectivity false in
set_option genInjectivity false in
inductive Rep(Γ:Gx)(ι:WL)(H:Hp):D->V->Prop
 | non:Rep Γ ι H .non .non
 | bl (b:Bool):Rep Γ ι H (.bl b) (.bl b)
 | int (i:Int):Rep Γ ι H (.int i) (.int i)
 | str (x:Str):Rep Γ ι H (.str x) (.str x)
 | tup {ds:WV} {a:Addr} {xs:WT}:SqT Γ.K H a xs->ds.length=xs.length->(∀(i:Nat) d v,ds[i]?=some d->xs[i]?=some v->Rep Γ ι H d v)->(∀k,allInts ds=some k->H a=some (.tup xs))->Rep Γ ι H (.tup ds) (.ref a)
 | fro {ds:WV} {a:Addr} {xs:WT}:Fro Γ.K H a xs->ds.length=xs.length->(∀(i:Nat) d v,ds[i]?=some d->xs[i]?=some v->Rep Γ ι H d v)->Rep Γ ι H (.fro ds) (.ref a)
 | loc {l:Nat} {a:Addr}:ι[l]?=some a->Rep Γ ι H (.loc l) (.ref a)
abbrev az(Γ:Gx)(ι:WL)(H:Hp):List D->List V->Prop:=Paired (Rep Γ ι H)
theorem Rep.qp{Γ:Gx}{ι:WL}{H:Hp}{ds:WV}{a:Addr}{xs:WT}(h:SqT Γ.K H a xs)(p:az Γ ι H ds xs)(hk:∀k,allInts ds=some k->H a=some (.tup xs)):Rep Γ ι H (.tup ds) (.ref a) :=
 .tup h p.length (λi d v e1 e2=>by
  obtain⟨y,e,f⟩:=Paired.get p e1;rw[e2] at e; cases e; exact f) hk
theorem Rep.jM{Γ:Gx}{ι:WL}{H:Hp}{ds:WV}{a:Addr}{xs:WT}(h:H a=some (.tup xs))(p:az Γ ι H ds xs):Rep Γ ι H (.tup ds) (.ref a):=.qp (.of h) p λ_ _=>h
theorem Rep.fF{Γ:Gx}{ι:WL}{H:Hp}{ds:WV}{v:V}(h:Rep Γ ι H (.fro ds) v):∃a xs,v=.ref a/\Fro Γ.K H a xs/\az Γ ι H ds xs:=by
 cases h with
 | fro h1 h2 h3=>exact⟨_,_,rfl,h1,Paired.of_get h2 h3⟩
theorem Rep.bJ{Γ:Gx}{ι:WL}{H:Hp}{ds:WV}{v:V}(h:Rep Γ ι H (.tup ds) v):∃a xs,v=.ref a/\SqT Γ.K H a xs/\az Γ ι H ds xs:=by
 cases h with
 | tup h1 h2 h3 _=>exact⟨_,_,rfl,h1,Paired.of_get h2 h3⟩
set_option genInjectivity false in
structure Ext(ι ι':WL)(H H':Hp):Prop where
 pre:ι<+:ι'
 tup:∀a xs,H a=some (.tup xs)->H' a=some (.tup xs)
 frz:∀a o u,H a=some (.frz o u)->H' a=some (.frz o u)
 oth:∀a o,H a=some o->a∉ι->H' a=some o
 fresh:∀a∈ι',a∉ι->H a=none
section
variable{ι ι1 ι2:WL}{H H1 H2:Hp}
theorem Ext.refl:Ext ι ι H H:=⟨Qj _,λ_ _ h=>h,λ_ _ _ h=>h,λ_ _ h _=>h,λ_ h n=>absurd h n⟩
theorem Ext.trans(a:Ext ι ι1 H H1)(b:Ext ι1 ι2 H1 H2):Ext ι ι2 H H2 where
 pre:=a.pre.trans b.pre
 tup:=λx xs h=>b.tup x xs (a.tup x xs h)
 frz:=λx o u h=>b.frz x o u (a.frz x o u h)
 oth:=λx o h n=>b.oth x o (a.oth x o h n) λm=>by
  have:=a.fresh x m n;rw[h] at this; cases this
 fresh:=λx m n=>by
  by_cases h1:x∈ι1
  ·exact a.fresh x h1 n
  ·have:=b.fresh x m h1
   cases q:H x with
   | none=>rfl
   | some o=>rw[a.oth x o q n] at this; cases this
theorem Ext.laid{p:Addr}{o:HO}(hp:H p=none):Ext ι ι H (upd H p o) :=
 ⟨Qj _,λa xs h=>by rw[aF (bu h hp)]; exact h,λa o u h=>by rw[aF (bu h hp)]; exact h,λa o h _=>by rw[aF (bu h hp)]; exact h,λ_ h n=>absurd h n⟩
theorem Ext.more{p:Addr}{o:HO}(hp:H p=none):Ext ι (ι++[p]) H (upd H p o) :=
 ⟨Qr _ _,λa xs h=>by rw[aF (bu h hp)]; exact h,λa o u h=>by rw[aF (bu h hp)]; exact h,λa o h _=>by rw[aF (bu h hp)]; exact h,λa h n=>by
  rcases ZQ.mp h with z|z
  ·exact absurd z n
  ·have:a=p:=by simpa using z
   rw[this]; exact hp⟩
theorem gU{α:Type}{xs ys:List α}(h:xs<+:ys){i:Nat}{x:α}(e:xs[i]?=some x):ys[i]?=some x:=by
 obtain⟨t,rfl⟩:=h;rw[ZF (Zf.mp e).1];exact e
end
section
variable{Γ:Gx}{ι ι1:WL}{H H1:Hp}
theorem Ext.sqT(e:Ext ι ι1 H H1){a:Addr}{xs:WT}(h:SqT Γ.K H a xs):SqT Γ.K H1 a xs:=by
 rcases h with(h|⟨o,h⟩)|h
 ·exact .inl (.inl (e.tup _ _ h))
 ·exact .inl (.inr ⟨o,e.frz _ _ _ h⟩)
 ·exact .inr h
theorem Ext.fro(e:Ext ι ι1 H H1){a:Addr}{xs:WT}(h:Fro Γ.K H a xs):Fro Γ.K H1 a xs:=by
 rcases h with⟨o,h⟩|h
 ·exact .inl ⟨o,e.frz _ _ _ h⟩
 ·exact .inr h
theorem Rep.ext(e:Ext ι ι1 H H1){d:D}{v:V}(h:Rep Γ ι H d v):Rep Γ ι1 H1 d v:=by
 induction h with
 | non=>exact .non
 | bl b=>exact .bl b
 | int i=>exact .int i
 | str x=>exact .str x
 | tup h1 h2 h3 h4 ih=>exact .tup (e.sqT h1) h2 ih λk q=>e.tup _ _ (h4 k q)
 | fro h1 h2 h3 ih=>exact .fro (e.fro h1) h2 ih
 | loc h=>exact .loc (gU e.pre h)
theorem az.ext(e:Ext ι ι1 H H1){ds:WV}{vs:WT}(h:az Γ ι H ds vs):az Γ ι1 H1 ds vs:=Paired.imp (λ_ _ r=>Rep.ext e r) h
end
abbrev eF(Γ:Gx)(ι:WL)(H:Hp):List (List Int×D)->List (List Key×V)->Prop:=Paired λp q=>q.1=p.1.map Sum.inl/\Rep Γ ι H p.2 q.2
noncomputable def jS(Γ:Gx)(ι:WL)(H:Hp)(a:Addr):Cell->Prop
 | .lst ds=>∃xs,H a=some (.lst xs)/\az Γ ι H ds xs
 | .dct kvs=>∃xs,H a=some (.dT xs)/\eF Γ ι H kvs xs
 | .fdc kvs=>∃xs,(∃o,H a=some (.frz o (.dT xs)))/\eF Γ ι H kvs xs
set_option genInjectivity false in
structure av(Γ:Gx)(ι:WL)(H:Hp)(S:af):Prop where
 len:ι.length=S.length
 nd:ι.Nodup
 cell:∀(l:Nat) c,S[l]?=some c->∃a,ι[l]?=some a/\jS Γ ι H a c
set_option genInjectivity false in
structure a_(Γ:Gx)(ι:WL)(H:Hp)(σ:L2.St)(σd:Sg):Prop where
 len:σ.length=σd.length
 var:∀(i:Nat) d,σd[i]?=some (some d)->∃v,σ[i]?=some (some v)/\Rep Γ ι H d v
theorem a_.ext{Γ:Gx}{ι ι1:WL}{H H1:Hp}{σ:L2.St}{σd:Sg}(e:Ext ι ι1 H H1)(h:a_ Γ ι H σ σd):a_ Γ ι1 H1 σ σd :=
 ⟨h.len,λi d q=>let⟨v,a,b⟩:=h.var i d q; ⟨v,a,b.ext e⟩⟩
abbrev XW:=Str->af->List Addr->Hp->Prop
def Out{α:Type}(Γ:Gx)(xw:XW)(ι:WL)(H:Hp)(r:Res α)(k:α->af->List Addr->Hp->Prop):Prop:=match r with
 | .ok a S'=>∀ι' H',Ext ι ι' H H'->av Γ ι' H' S'->k a S' ι' H'
 | .exc c S'=>∀ι' H',Ext ι ι' H H'->av Γ ι' H' S'->xw c S' ι' H'
 | .bad=>False
section
variable{Γ:Gx}{xw:XW}{ι ι1:WL}{H H1:Hp}{α β:Type}
theorem Out.step{r:Res α}{k:α->af->List Addr->Hp->Prop}(h:Out Γ xw ι H r k)(e:Ext ι ι1 H H1):Out Γ xw ι1 H1 r k:=by
 cases r with
 | ok a S'=>exact λι' H' e' s'=>h ι' H' (e.trans e') s'
 | exc c S'=>exact λι' H' e' s'=>h ι' H' (e.trans e') s'
 | bad=>exact h
theorem Out.mono{r:Res α}{k k':α->af->List Addr->Hp->Prop}(h:Out Γ xw ι H r k)(f:∀a S' ι' H',Ext ι ι' H H'->av Γ ι' H' S'->k a S' ι' H'->k' a S' ι' H'):Out Γ xw ι H r k':=by
 cases r with
 | ok a S'=>exact λι' H' e' s'=>f _ _ _ _ e' s' (h ι' H' e' s')
 | exc c S'=>exact h
 | bad=>exact h
theorem Out.bind{m:M α}{f:α->M β}{S:af}{k:β->af->List Addr->Hp->Prop}(h:Out Γ xw ι H ((m>>=f) S) k) :
  Out Γ xw ι H (m S) (λa S' ι' H'=>av Γ ι' H' S'/\Ext ι ι' H H'/\Out Γ xw ι' H' (f a S') k):=by
 rw[cI] at h
 cases q:m S with
 | ok a S'=>rw[q] at h; exact λι' H' e' s'=>⟨s',e',Out.step h e'⟩
 | exc c S'=>rw[q] at h; exact h
 | bad=>rw[q] at h; exact h
theorem Out.here{a:α}{S:af}{k:α->af->List Addr->Hp->Prop}(h:Out Γ xw ι H (.ok a S) k)(s:av Γ ι H S):k a S ι H:=h ι H .refl s
theorem Out.quiet{m:M α}{S:af}{k:α->af->List Addr->Hp->Prop}(h:Out Γ xw ι H (quiet m S) k)(xw':XW):Out Γ xw' ι H (m S) k:=by
 unfold EV.quiet at h
 cases q:m S with
 | ok a S'=>rw[q] at h; exact h
 | exc c S'=>rw[q] at h; exact h.elim
 | bad=>rw[q] at h; exact h.elim
end
noncomputable def tM(Γ:Gx)(xw:XW)(m:Sg->M D):TE:=λσ H Q=>∃σd ι S,a_ Γ ι H σ σd/\av Γ ι H S/\Out Γ xw ι H (m σd S) λd _ ι' H'=>∀v,Rep Γ ι' H' d v->Q v H'
noncomputable def tMT(Γ:Gx)(xw:XW)(m:Sg->M Bool):TT:=λσ H Q=>∃σd ι S,a_ Γ ι H σ σd/\av Γ ι H S/\Out Γ xw ι H (m σd S) λb _ _ H'=>Q b H'
noncomputable def tMA(Γ:Gx)(xw:XW)(m:Sg->M (List D)):TA:=λσ H Q=>∃σd ι S,a_ Γ ι H σ σd/\av Γ ι H S/\Out Γ xw ι H (m σd S) λds _ ι' H'=>∀vs,az Γ ι' H' ds vs->Q vs H'
theorem PE.imp{X:Cx}{e:Expr}{t t':TE}(h:PE X e t)(f:∀σ H Q,t' σ H Q->t σ H Q):PE X e t':=λpins s σ H Q I q=>h pins s σ H Q I (f σ H Q q)
theorem PT.imp{X:Cx}{e:Expr}{t t':TT}(h:PT X e t)(f:∀σ H Q,t' σ H Q->t σ H Q):PT X e t':=λpins s σ H Q I q=>h pins s σ H Q I (f σ H Q q)
theorem PW.imp{X:Cx}{e:Expr}{t t':TT}(h:PW X e t)(f:∀σ H Q,t' σ H Q->t σ H Q):PW X e t':=λw pins s σ H Q I q=>h w pins s σ H Q I (f σ H Q q)
theorem PA.imp{X:Cx}{e:WS}{t t':TA}(h:PA X e t)(f:∀σ H Q,t' σ H Q->t σ H Q):PA X e t':=λp pins s σ H Q I q=>h p pins s σ H Q I (f σ H Q q)
theorem PS.imp{X:Cx}{e:Stmt}{t t':TS}(h:PS X e t)(f:∀D σ H,t' D σ H->t D σ H):PS X e t':=λpins s σ H D I q=>h pins s σ H D I (f D σ H q)
theorem PSs.imp{X:Cx}{e:List Stmt}{t t':TS}(h:PSs X e t)(f:∀D σ H,t' D σ H->t D σ H):PSs X e t':=λpins s σ H D I q=>h pins s σ H D I (f D σ H q)
section
variable{Γ:Gx}{xw:XW}{σ:L2.St}{H:Hp}
def rB(Γ:Gx)(xw:XW)(f:D->M D)(x:V)(H:Hp)(Q:VK):Prop:=∃ι S dx,av Γ ι H S/\Rep Γ ι H dx x/\Out Γ xw ι H (f dx S) λd _ ι' H'=>∀v,Rep Γ ι' H' d v->Q v H'
noncomputable def bg(Γ:Gx)(xw:XW)(f:D->D->M D)(x y:V)(H:Hp)(Q:VK):Prop :=
 ∃ι S dx dy,av Γ ι H S/\Rep Γ ι H dx x/\Rep Γ ι H dy y/\Out Γ xw ι H (f dx dy S) λd _ ι' H'=>∀v,Rep Γ ι' H' d v->Q v H'
def dN(Γ:Gx)(xw:XW)(f:List D->M D)(xs:WT)(H:Hp)(Q:VK):Prop:=∃ι S ds,av Γ ι H S/\az Γ ι H ds xs/\Out Γ xw ι H (f ds S) λd _ ι' H'=>∀v,Rep Γ ι' H' d v->Q v H'
theorem C7{ma:Sg->M D}{f:D->M D}{Q:VK}(h:tM Γ xw (λσ=>ma σ>>=f) σ H Q):tM Γ xw ma σ H λx H1=>rB Γ xw f x H1 Q:=by
 obtain⟨σd,ι,S,he,hs,ho⟩:=h;exact⟨σd,ι,S,he,hs,ho.bind.mono λd S' ι' H' _ _ ⟨s',e',o'⟩ v r=>⟨ι',S',d,s',r,o'⟩⟩
theorem n9{ma mb:Sg->M D}{f:D->D->M D}{Q:VK}(h:tM Γ xw (λσ=>ma σ>>=λx=>mb σ>>=λy=>f x y) σ H Q) :
  tM Γ xw ma σ H λx H1=>tM Γ xw mb σ H1 λy H2=>bg Γ xw f x y H2 Q:=by
 obtain⟨σd,ι,S,he,hs,ho⟩:=h;exact⟨σd,ι,S,he,hs,ho.bind.mono λd S' ι' H' _ _ ⟨s',e',o'⟩ v r=>⟨σd,ι',S',he.ext e',s',o'.bind.mono λd2 S2 ι2 H2 _ _ ⟨s2,e2,o2⟩ v2 r2=>⟨ι2,S2,d,d2,s2,r.ext e2,r2,o2⟩⟩⟩
theorem tN{ma:Sg->M (List D)}{f:List D->M D}{Q:VK}(h:tM Γ xw (λσ=>ma σ>>=f) σ H Q):tMA Γ xw ma σ H λxs H1=>dN Γ xw f xs H1 Q:=by
 obtain⟨σd,ι,S,he,hs,ho⟩:=h;exact⟨σd,ι,S,he,hs,ho.bind.mono λd S' ι' H' _ _ ⟨s',e',o'⟩ v r=>⟨ι',S',d,s',r,o'⟩⟩
end
end EV

namespace EV
open PySem PySem.Spec PyProof.Rows L2
open PySem.SeqAt (EqAt RcAt)
section
variable{X:Cx}{Γ:Gx}{xw:XW}{pins:WD}{σ:L2.St}{H:Hp}{s:WI}{ι:WL}{S:af}
theorem av.list(hS:av Γ ι H S){d:D}{v:V}{ds:WV}(r:Rep Γ ι H d v)(h:asL S d=some ds):∃a xs,v=.ref a/\SqL Γ.K H a xs/\az Γ ι H ds xs:=by
 cases d with
 | loc l =>
  cases r with
  | loc q =>
   have h':listAt S l=some ds:=h;unfold listAt at h';split at h'
   ·rename_i es e;cases h';obtain⟨a,ha,xs,hx,r⟩:=hS.cell l _ e;rw[q] at ha; cases ha;exact⟨_,xs,rfl,.of hx,r⟩
   ·cases h'
 | fro es =>
  cases h;obtain⟨a,xs,rfl,hf,rs⟩:=r.fF;exact⟨a,xs,rfl,hf.sq,rs⟩
 | _=>cases h
theorem av.lst(hS:av Γ ι H S){l:Nat}{ds:WV}(h:S[l]?=some (.lst ds)):∃a xs,ι[l]?=some a/\H a=some (.lst xs)/\az Γ ι H ds xs:=by
 obtain⟨a,ha,xs,hx,r⟩:=hS.cell l _ h;exact⟨a,xs,ha,hx,r⟩
theorem uY{l:Nat}:items (.loc l) S=match listAt S l with|some ds=>.ok ds S|none=>.bad:=rfl
theorem jr{α:Type}:∀{xs:List α} {i j:Nat} {x:α},xs.Nodup->xs[i]?=some x->xs[j]?=some x->i=j
 | [],_,_,_,_,h,_=>by simp at h
 | y::r,0,0,_,_,_,_=>rfl
 | y::r,0,j+1,x,nd,h1,h2=>by
  simp at h1 h2;subst h1;exact absurd (ZB h2) (Xh.mp nd).1
 | y::r,i+1,0,x,nd,h1,h2=>by
  simp at h1 h2;subst h2;exact absurd (ZB h1) (Xh.mp nd).1
 | y::r,i+1,j+1,x,nd,h1,h2=>by
  exact Qb (· + 1) (jr (i:=i) (j:=j) (Xh.mp nd).2 (by simpa using h1) (by simpa using h2))
theorem gx{f:D->D->Option Bool}:∀{xs ys:WV} {k:Bool},b7 f xs ys=some k->∃e:Nat->Bool,(∀(j:Nat) x y,xs[j]?=some x->ys[j]?=some y->f x y=some (e j))/\k=(List.range (min xs.length ys.length)).all e
 | [],ys,k,h=>⟨λ_=>true,λj x y e1 e2=>by simp at e1,by simp only[b7] at h; cases h; simp⟩
 | _::_,[],k,h=>⟨λ_=>true,λj x y e1 e2=>by simp at e2,by simp only[b7] at h; cases h; simp⟩
 | x::xs,y::ys,k,h=>by
  simp only[b7] at h;split at h
  ·rename_i a b e1 e2;cases h;obtain⟨e,he,hk⟩:=gx e2;refine⟨λj=>match j with|0=>a|j+1=>e j,λj u v q1 q2=>?_,?_⟩
   ·cases j with
    | zero=>simp at q1 q2; subst q1; subst q2; exact e1
    | succ j=>exact he j u v (by simpa using q1) (by simpa using q2)
   ·rw[show min (x::xs).length (y::ys).length=min xs.length ys.length+1 by simp only[Z0]; omega,List.range_succ_eq_map,Qm,List.all_map];rw[hk];rfl
  ·cases h
theorem Rep.jN{d1 d2:D}{x:V}(q1:Rep Γ ι H d1 x)(q2:Rep Γ ι H d2 x)(e:d1.kd=.flat):d2.kd=.flat:=by
 have h1:Ak x=true:=by cases q1<;>first|rfl|cases e
 cases q2<;>first|rfl|cases h1
theorem Rep.Et{d1 d2:D}{x:V}(q1:Rep Γ ι H d1 x)(q2:Rep Γ ι H d2 x)(e:d1.kd=.flat):d1=d2:=by
 cases q1<;>first|(cases e; done)|(cases q2; rfl)
theorem AD{d:D}{k:Bool}(h:kI d d=some k):k=true:=by
 cases d<;>first|(cases h; done)|exact(Zz h).symm|exact(Zz h).symm.trans (Qi _)
theorem Fd(hK:Γ.K=X.K)(I:Inv X pins σ H s)(hS:av Γ ι H S):∀(m:Nat) (d1 d2:D) (k:Bool) (x:V),eqD m S d1 d2=some k->Rep Γ ι H d1 x->Rep Γ ι H d2 x->k=true:=by
 obtain⟨K⟩:=Γ;have hK':K=X.K:=hK;subst hK'
 have all:∀(m:Nat),(∀(d1 d2:D) (k:Bool) (x:V),eqD m S d1 d2=some k->Rep ⟨X.K⟩ ι H d1 x->Rep ⟨X.K⟩ ι H d2 x->k=true) ->
   ∀(ds es:WV) (xs:WT) (r:Bool),az ⟨X.K⟩ ι H ds xs->az ⟨X.K⟩ ι H es xs->b7 (eqD m S) ds es=some r->r=true:=by
  intro m ihm ds es xs r p1 p2 hr;obtain⟨e,he,hk2⟩:=gx hr;have l1:=p1.length;have l2:=p2.length;rw[hk2,Z7];intro j hj;rw[ZZ] at hj;have hj1:j<ds.length:=by omega
  have hj2:j<es.length:=by omega
  obtain⟨y1,a1,a2⟩:=Paired.get p1 (Zb hj1);obtain⟨y2,a3,a4⟩:=Paired.get p2 (Zb hj2);rw[a1] at a3; cases a3;exact ihm _ _ _ y1 (he j _ _ (Zb hj1) (Zb hj2)) a2 a4
 intro m
 induction m with
 | zero=>intro d1 d2 k x h; simp[eqD] at h
 | succ m ihm =>
  intro d1 d2 k x h q1 q2;have hall:=all m ihm
  have tl:∀{es:WV} {a:Addr} {d:D},(∃xs,SqT X.K H a xs)->∀{z},asL S d=some z->Rep ⟨X.K⟩ ι H d (.ref a)->False:=λ{es a d} ht {z} hz hr=>by
   obtain⟨xs,ht⟩:=ht;obtain⟨b,ys,e,sb,_⟩:=hS.list hr hz;cases e;obtain⟨its,_,pl,_⟩:=I.list sb;obtain⟨its2,_,pt,_⟩:=I.tuple ht;exact absurd rfl (SeqAt.ne_of_list_tuple pl.isList pt)
  cases e1:d1.kd<;>cases e2:d2.kd<;>simp only[eqD,e1,e2] at h
  ·have e:=Rep.Et q1 q2 e1;rw[<- e] at h;exact AD h
  ·rw[Rep.jN q1 q2 e1] at e2; cases e2
  ·rw[Rep.jN q1 q2 e1] at e2; cases e2
  ·cases h
  ·rw[Rep.jN q2 q1 e2] at e1; cases e1
  ·cases d1<;>first|(cases e1; done)|skip;cases d2<;>first|(cases e2; done)|skip;obtain⟨a,xs,rfl,t1,p1⟩:=q1.bJ;obtain⟨b,ys,eb,t2,p2⟩:=q2.bJ;cases eb;have e:xs=ys:=I.jw t1 t2;subst e;simp only[ZA] at h;obtain⟨r,hr,hk⟩:=h;have hl:(D.its (D.tup _)).length=(D.its (D.tup _)).length:=(p1.length).trans p2.length.symm;rw[<- hk,hall _ _ xs r p1 p2 hr,hl]; simp
  ·simp only[ZA] at h;obtain⟨z,hz,_⟩:=h;cases d1<;>first|(cases e1; done)|skip;obtain⟨a,xs,rfl,t1,p1⟩:=q1.bJ;exact(tl (es:=[]) ⟨xs,t1⟩ hz q2).elim
  ·cases h
  ·rw[Rep.jN q2 q1 e2] at e1; cases e1
  ·simp only[ZA] at h;obtain⟨z,hz,_⟩:=h;cases d2<;>first|(cases e2; done)|skip;obtain⟨a,xs,rfl,t1,p1⟩:=q2.bJ;exact(tl (es:=[]) ⟨xs,t1⟩ hz q1).elim
  ·split at h
   ·rename_i ds es hd he;obtain⟨a,xs,rfl,s1,p1⟩:=hS.list q1 hd;obtain⟨b,ys,eb,s2,p2⟩:=hS.list q2 he;cases eb;have e:xs=ys:=I.jU s1 s2;subst e;rw[Ze (p1.length.trans p2.length.symm)] at h;exact hall _ _ xs k p1 p2 h
   ·cases h
  ·cases h
  ·cases h
  ·cases h
  ·cases h
  ·cases h
theorem Bo{A:Around}{d1 d2:D}{k:Bool}{x1 x2:V}{u1 u2:Value}(h:kI d1 d2=some k)(r1:Rep Γ ι H d1 x1)(r2:Rep Γ ι H d2 x2)(v1:RelV x1 u1)(v2:RelV x2 u2)(e1:d1.kd=.flat)(e2:d2.kd=.flat):RcAt A s u1 u2 k/\EqAt A s u1 u2 k:=by
 cases r1<;>first|(cases e1; done)|skip
 all_goals (cases r2<;>first|(cases e2; done)|skip)
 ·cases v1; cases v2; cases Zz h; exact⟨RcAt.none_none,EqAt.same _⟩
 ·cases v1; cases v2; cases Zz h; exact⟨.none_bool _,.none_bool _⟩
 ·cases v1; obtain⟨t,rfl⟩:=v2; cases Zz h; exact⟨.none_int _ t,.none_int _ t⟩
 ·cases v1; obtain⟨t,rfl⟩:=v2; cases Zz h; exact⟨.none_str _ t,.none_str _ t⟩
 ·cases v1; cases v2; cases Zz h; exact⟨.bool_none _,.bool_none _⟩
 ·cases v1; cases v2; cases Zz h; exact⟨.bool_bool _ _,.bool_bool _ _⟩
 ·cases v1; obtain⟨t,rfl⟩:=v2; cases Zz h; exact⟨.bool_int _ _ t,.bool_int _ _ t⟩
 ·cases v1; obtain⟨t,rfl⟩:=v2; cases Zz h; exact⟨.bool_str _ _ t,.bool_str _ _ t⟩
 ·obtain⟨ta,rfl⟩:=v1; cases v2; cases Zz h; exact⟨.int_none _ ta,.int_none _ ta⟩
 ·obtain⟨ta,rfl⟩:=v1; cases v2; cases Zz h; exact⟨.int_bool _ ta _,.int_bool _ ta _⟩
 ·obtain⟨ta,rfl⟩:=v1; obtain⟨t,rfl⟩:=v2; cases Zz h; exact⟨.int_int _ ta _ t,.int_int _ ta _ t⟩
 ·obtain⟨ta,rfl⟩:=v1; obtain⟨t,rfl⟩:=v2; cases Zz h; exact⟨.int_str _ ta _ t,.int_str _ ta _ t⟩
 ·obtain⟨ta,rfl⟩:=v1; cases v2; cases Zz h; exact⟨.str_none _ ta,.str_none _ ta⟩
 ·obtain⟨ta,rfl⟩:=v1; cases v2; cases Zz h; exact⟨.str_bool _ ta _,.str_bool _ ta _⟩
 ·obtain⟨ta,rfl⟩:=v1; obtain⟨t,rfl⟩:=v2; cases Zz h; exact⟨.str_int _ ta _ t,.str_int _ ta _ t⟩
 ·obtain⟨ta,rfl⟩:=v1; obtain⟨t,rfl⟩:=v2; cases Zz h; exact⟨.str_str _ ta _ t,.str_str _ ta _ t⟩
theorem mP(hK:Γ.K=X.K)(I:Inv X pins σ H s)(hS:av Γ ι H S):∀(n:Nat) (A:Around) (d1 d2:D) (k:Bool) (x1 x2:V) (u1 u2:Value),eqD n S d1 d2=some k->Rep Γ ι H d1 x1->Rep Γ ι H d2 x2->RelV x1 u1->RelV x2 u2->A.units+n<cLine ->
  RcAt A s u1 u2 k/\EqAt A s u1 u2 k:=by
 have same:=Fd hK I hS;obtain⟨K⟩:=Γ;have hK':K=X.K:=hK;subst hK';intro n
 induction n with
 | zero=>intro A d1 d2 k x1 x2 u1 u2 h; simp[eqD] at h
 | succ n ih =>
  intro A d1 d2 k x1 x2 u1 u2 h r1 r2 v1 v2 hu;have hu0:A.units<cLine:=by omega
  have hu1:A.in1.units+n<cLine:=by show A.units+1+n<cLine; omega
  have h0:=h
  have each:∀{ds es:WV} {xs ys:WT} {its1 its2:WH} {e:Nat->Bool},az ⟨X.K⟩ ι H ds xs->az ⟨X.K⟩ ι H es ys->Vals xs its1->Vals ys its2 ->
    (∀(j:Nat) x y,ds[j]?=some x->es[j]?=some y->eqD n S x y=some (e j))->∀(j:Nat) (h1:j<its1.toArray.size) (h2:j<its2.toArray.size),EqAt A.in1 s its1.toArray[j] its2.toArray[j] (e j):=by
   intro ds es xs ys its1 its2 e rp1 rp2 rv1 rv2 he j h1 h2;rw[Zh] at h1 h2;have l1:=rp1.length;have l2:=rp2.length;have l3:=rv1.length;have l4:=rv2.length;have j1:j<ds.length:=by omega
   have j2:j<es.length:=by omega
   obtain⟨y1,a1,a2⟩:=Paired.get rp1 (Zb j1);obtain⟨y2,a3,a4⟩:=Paired.get rp2 (Zb j2);obtain⟨w1,z1,z2⟩:=rv1.get a1;obtain⟨w2,z3,z4⟩:=rv2.get a3;have:=(ih A.in1 ds[j] es[j] (e j) y1 y2 w1 w2 (he j _ _ (Zb j1) (Zb j2)) a2 a4 z2 z4 hu1).2
   have q1:its1.toArray[j]'(by rw[Zh]; exact h1)=w1:=by
    have:its1[j]?=some its1[j]:=Zb h1;rw[z1] at this; cases this; rfl
   have q2:its2.toArray[j]'(by rw[Zh]; exact h2)=w2:=by
    have:its2[j]?=some its2[j]:=Zb h2;rw[z3] at this; cases this; rfl
   rw[q1,q2]; exact this
  have lst:∀{d:D} {x:V} {u:Value} {zs:WV},Rep ⟨X.K⟩ ι H d x->RelV x u->asL S d=some zs->∃a xs its,x=.ref a/\u=.ref a/\az ⟨X.K⟩ ι H zs xs/\Vals xs its/\s.heap.IsList a its.toArray:=λ{d x u zs} r rv hz=>by
   obtain⟨b,ys,e,sb,rp⟩:=hS.list r hz;subst e;cases rv;obtain⟨its,rv,p,_⟩:=I.list sb;exact⟨b,ys,its,rfl,rfl,rp,rv,p.isList⟩
  have tpl:∀{ds:WV} {x:V} {u:Value},Rep ⟨X.K⟩ ι H (.tup ds) x->RelV x u->∃a xs its,x=.ref a/\u=.ref a/\az ⟨X.K⟩ ι H ds xs/\Vals xs its/\s.heap.IsTuple a its.toArray:=λ{ds x u} r rv=>by
   obtain⟨a,xs,e,t,p⟩:=r.bJ;subst e;cases rv;obtain⟨its,rv,p2,_⟩:=I.tuple t;exact⟨a,xs,its,rfl,rfl,p,rv,p2⟩
  cases e1:d1.kd<;>cases e2:d2.kd<;>simp only[eqD,e1,e2] at h
  ·exact Bo h r1 r2 v1 v2 e1 e2
  ·cases h;cases d2<;>first|(cases e2; done)|skip;obtain⟨a,xs,its,rfl,rfl,_,_,p⟩:=tpl r2 v2;cases r1<;>first|(cases e1; done)|skip
   ·cases v1; exact⟨.none_tuple p hu0,.none_tuple p hu0⟩
   ·cases v1; exact⟨.bool_tuple _ p hu0,.bool_tuple _ p hu0⟩
   ·obtain⟨ta,rfl⟩:=v1; exact⟨.int_tuple _ ta p hu0,.int_tuple _ ta p hu0⟩
   ·obtain⟨ta,rfl⟩:=v1; exact⟨.str_tuple _ ta p hu0,.str_tuple _ ta p hu0⟩
  ·simp only[ZA] at h;obtain⟨z,hz,rfl⟩:=h;obtain⟨a,xs,its,rfl,rfl,_,_,p⟩:=lst r2 v2 hz;cases r1<;>first|(cases e1; done)|skip
   ·cases v1; exact⟨.none_list p hu0,.none_list p hu0⟩
   ·cases v1; exact⟨.bool_list _ p hu0,.bool_list _ p hu0⟩
   ·obtain⟨ta,rfl⟩:=v1; exact⟨.int_list _ ta p hu0,.int_list _ ta p hu0⟩
   ·obtain⟨ta,rfl⟩:=v1; exact⟨.str_list _ ta p hu0,.str_list _ ta p hu0⟩
  ·cases h
  ·cases h;cases d1<;>first|(cases e1; done)|skip;obtain⟨a,xs,its,rfl,rfl,_,_,p⟩:=tpl r1 v1;cases r2<;>first|(cases e2; done)|skip
   ·cases v2; exact⟨.tuple_none p hu0,.tuple_none p hu0⟩
   ·cases v2; exact⟨.tuple_bool _ p hu0,.tuple_bool _ p hu0⟩
   ·obtain⟨ta,rfl⟩:=v2; exact⟨.tuple_int _ ta p hu0,.tuple_int _ ta p hu0⟩
   ·obtain⟨ta,rfl⟩:=v2; exact⟨.tuple_str _ ta p hu0,.tuple_str _ ta p hu0⟩
  ·cases d1<;>first|(cases e1; done)|skip;cases d2<;>first|(cases e2; done)|skip;obtain⟨a,xs,its1,rfl,rfl,rp1,rv1,p1⟩:=tpl r1 v1;obtain⟨b,ys,its2,rfl,rfl,rp2,rv2,p2⟩:=tpl r2 v2;simp only[ZA] at h;obtain⟨r,hr,hk⟩:=h;obtain⟨e,he,hk2⟩:=gx hr
   have rc:RcAt A s (.ref a) (.ref b) k:=by
    have:=RcAt.tuples (A:=A) (e:=e) p1 p2 hu0 (each rp1 rp2 rv1 rv2 he);rw[Zh,Zh,<- rv1.length,<- rv2.length,<- rp1.length,<- rp2.length] at this;rw[<- hk,hk2]; exact this
   refine⟨rc,?_⟩
   by_cases hab:a=b
   ·subst hab;rw[same _ _ _ k _ h0 r1 r2]; exact EqAt.same _
   ·exact .of_refs hab rc
  ·simp only[ZA] at h;obtain⟨z,hz,rfl⟩:=h;cases d1<;>first|(cases e1; done)|skip;obtain⟨a,xs,its1,rfl,rfl,rp1,rv1,p1⟩:=tpl r1 v1;obtain⟨b,ys,its2,rfl,rfl,rp2,rv2,p2⟩:=lst r2 v2 hz;exact⟨.tuple_list p1 p2 hu0,.tuple_list p1 p2 hu0⟩
  ·cases h
  ·simp only[ZA] at h;obtain⟨z,hz,rfl⟩:=h;obtain⟨a,xs,its,rfl,rfl,_,_,p⟩:=lst r1 v1 hz;cases r2<;>first|(cases e2; done)|skip
   ·cases v2; exact⟨.list_none p hu0,.list_none p hu0⟩
   ·cases v2; exact⟨.list_bool _ p hu0,.list_bool _ p hu0⟩
   ·obtain⟨ta,rfl⟩:=v2; exact⟨.list_int _ ta p hu0,.list_int _ ta p hu0⟩
   ·obtain⟨ta,rfl⟩:=v2; exact⟨.list_str _ ta p hu0,.list_str _ ta p hu0⟩
  ·simp only[ZA] at h;obtain⟨z,hz,rfl⟩:=h;cases d2<;>first|(cases e2; done)|skip;obtain⟨a,xs,its1,rfl,rfl,rp1,rv1,p1⟩:=tpl r2 v2;obtain⟨b,ys,its2,rfl,rfl,rp2,rv2,p2⟩:=lst r1 v1 hz;exact⟨.list_tuple p2 p1 hu0,.list_tuple p2 p1 hu0⟩
  ·split at h
   ·rename_i ds es hd he;obtain⟨a,xs,its1,rfl,rfl,rp1,rv1,p1⟩:=lst r1 v1 hd;obtain⟨b,ys,its2,rfl,rfl,rp2,rv2,p2⟩:=lst r2 v2 he;have e1:its1.toArray.size=ds.length:=by rw[Zh,<- rv1.length,<- rp1.length]
    have e2:its2.toArray.size=es.length:=by rw[Zh,<- rv2.length,<- rp2.length]
    have rc:RcAt A s (.ref a) (.ref b) k:=by
     by_cases hlen:ds.length=es.length
     ·rw[Ze hlen] at h;obtain⟨e,he',hk2⟩:=gx h;have:=RcAt.lists (A:=A) (e:=e) p1 p2 (by omega) hu0 (each rp1 rp2 rv1 rv2 he');rw[e1] at this; rw[hk2,<- hlen,Nat.min_self]; exact this
     ·rw[Zg hlen] at h;cases h;exact RcAt.lists_lengths p1 p2 (by rw[e1,e2]; simpa using hlen) hu0
    refine⟨rc,?_⟩
    by_cases hab:a=b
    ·subst hab;rw[same _ _ _ k _ h0 r1 r2]; exact EqAt.same _
    ·exact .of_refs hab rc
   ·cases h
  ·cases h
  ·cases h
  ·cases h
  ·cases h
  ·cases h
end
end EV

namespace HT
open PySem PyProof.Rows
open Builtin
theorem IX:fillsNumberSlot (.type "tuple") "mul" = pure false :=
 PySem.fillsNumberSlot_seq (id:="tuple.__mul__") (r:=some (.builtin "tuple.__rmul__")) F.slot_tuple_mul.lookup (by decide +kernel) F.slot_tuple_rmul.lookup (by decide +kernel)
theorem Ji:seqRepeat? (.type "tuple")=pure (some (.builtin "tuple.__mul__")):=by
 unfold seqRepeat?;rw[PySem.seqSlot_of (T:="tuple") (name:="__mul__") (id:="tuple.__mul__") F.slot_tuple_mul.lookup (by decide +kernel),PySem.seqSlot_of (T:="tuple") (name:="__rmul__") (id:="tuple.__rmul__") F.slot_tuple_rmul.lookup (by decide +kernel)];rfl
theorem A8(a:Int)(t:Tok)(l:Addr)(items:WQ)(n:Nat)(dd:Option Addr)(sl:Array (Option Value)) :
  Meets (Builtin.«int.__rmul__» ⟨[.int a t,.ref l],[]⟩) (λ_ R s=>s.heap.get? l=some { cls:=.type "tuple",dict:=dd,data:=.seq items n,slots:=sl }/\R (.ok (.ret Value.notImplemented)) s) :=
 .of_wp λprog w A R s h=>by obtain⟨hp,g,d,tk,os⟩:=s; obtain⟨hl,h⟩:=h; wp_walk; exact⟨_,rfl,h⟩
theorem AW(x:Int)(u:Tok)(l:Addr)(items:WQ)(n:Nat)(dd:Option Addr)(sl:Array (Option Value))(h1:(decide (x < -(2^63))||decide (x ≥ 2^63))=false)(h2:(items.isEmpty||x==1)=true) :
  Meets (Builtin.«tuple.__mul__» ⟨[.ref l,.int x u],[]⟩) (λ_ R s=>s.heap.get? l=some { cls:=.type "tuple",dict:=dd,data:=.seq items n,slots:=sl }/\R (.ok (.ret (.ref l))) { s with heap:=s.heap,toks:=s.toks }) :=
 .of_wp λprog w A R s h=>by
  obtain⟨hp,g,d,tk,os⟩:=s; obtain⟨hl,h⟩:=h;have f1:=AutoSeq1.idx_int
  wp_walk using wpAny_loadPart' hl
  refine QJ (by simp only[h1]; decide) ?_
  wp_walk using wpAny_loadPart' hl
  exact⟨_,rfl,h⟩
theorem Fv(x:Int)(u:Tok)(l:Addr)(items:WQ)(n:Nat)(dd:Option Addr)(sl:Array (Option Value))(h1:(decide (x < -(2^63))||decide (x ≥ 2^63))=false)(h2:(items.isEmpty||x==1)=false)
  (h3:(decide (x<=0)||items.isEmpty)=false) (h4:¬(items.size*x>(2^63-1)/8)) (h5:Builtin.Tuple.tupleTooMany (items.size*x)=false) (h6:(List.foldl (λx1 x2=>x1++x2) #[] (List.replicate x.toNat items)).size<=sizeLine) :
  Meets (Builtin.«tuple.__mul__» ⟨[.ref l,.int x u],[]⟩) (λ_ R s=>s.heap.get? l=some { cls:=.type "tuple",dict:=dd,data:=.seq items n,slots:=sl }/\R (.ok (.ret (.ref s.heap.objs.size))) { s with heap:=s.heap.push { cls:=Value.type "tuple",data:=Data.seq (List.foldl (λx1 x2=>x1++x2) #[] (List.replicate x.toNat items)) },toks:=s.toks }) :=
 .of_wp λprog w A R s h=>by
  obtain⟨hp,g,d,tk,os⟩:=s; obtain⟨hl,h⟩:=h;have f1:=AutoSeq1.idx_int
  wp_walk using wpAny_loadPart' hl
  refine QJ (by simp only[h1]; decide) ?_
  wp_walk using wpAny_loadPart' hl
  refine QJ (Zs h4) ?_;refine QJ (by simp only[h5]; decide) ?_
  wp_walk using wpAny_loadPart' hl
  exact⟨_,rfl,h⟩
theorem Jz(x:Int)(u:Tok)(l:Addr)(items:WQ)(n:Nat)(dd:Option Addr)(sl:Array (Option Value))(h1:(decide (x < -(2^63))||decide (x ≥ 2^63))=false)(h2:(items.isEmpty||x==1)=false)
  (h3:(decide (x<=0)||items.isEmpty)=true) :
  Meets (Builtin.«tuple.__mul__» ⟨[.ref l,.int x u],[]⟩) (λ_ R s=>s.heap.get? l=some { cls:=.type "tuple",dict:=dd,data:=.seq items n,slots:=sl }/\R (.ok (.ret (.ref s.heap.objs.size))) { s with heap:=s.heap.push { cls:=Value.type "tuple",data:=Data.seq #[] },toks:=s.toks }) :=
 .of_wp λprog w A R s h=>by
  obtain⟨hp,g,d,tk,os⟩:=s; obtain⟨hl,h⟩:=h;have f1:=AutoSeq1.idx_int
  wp_walk using wpAny_loadPart' hl
  refine QJ (by simp only[h1]; decide) ?_
  wp_walk using wpAny_loadPart' hl
  exact⟨_,rfl,h⟩
end HT
namespace L2
open PySem PySem.Spec PyProof.Rows
section
variable{X:Cx}
theorem Ej:OpR X (binaryOp .Mult) (λx y H Q=>∃a k xs,x=.ref a/\y=.int k/\SqT X.K H a xs/\-(2^63)<=k/\k<2^63/\xs.length*k.toNat<=sizeLine /\
  ((xs=[]\/k=1)->Q (.ref a) H)/\∀p,H p=none->Q (.ref p) (upd H p (.tup (List.replicate k.toNat xs).flatten))):=by
 intro pins s σ H x y v u Q I rx ry h;obtain⟨a,k,xs,rfl,rfl,ha,h1,h2,hz,q1,q2⟩:=h;cases rx;obtain⟨t,rfl⟩:=ry;obtain⟨its,r,p1,_⟩:=I.tuple ha;obtain⟨⟨cls,dd,data,sl⟩,ho,hc,n,hd⟩:=id p1;simp only at hc hd;subst hc hd;have hlen:xs.length=its.length:=r.length
 have b1:(decide (k < -(2^63))||decide (k ≥ 2^63))=false:=by
  rw[QC]; exact⟨Zs (by omega),Zs (by omega)⟩
 refine wpAny_binaryOp_repeat_ref (T:="tuple") (U:="int") (by decide) ⟨_,ho,rfl⟩ (λs'=>typeIs_int s' k t) HT.IX F.fills_int_mul Wa HT.Ji F.slot_int_index.lookup
  (Qd Wa (typeIs_int s k t) F.entry_int_rmul (F.args_int_rmul_2 _ _) (HT.A8 k t a its.toArray n dd sl) ⟨ho,rfl,⟨_,ho,rfl⟩,?_⟩)
 by_cases hs:xs=[]\/k=1
 ·refine Qd F.slot_tuple_mul ⟨_,ho,rfl⟩ F.entry_tuple_mul (F.args_tuple_mul_2 _ _) (HT.AW k t a its.toArray n dd sl b1 ?_) ⟨ho,⟨.ref a,H,I,rfl,q1 hs⟩⟩;rw[Qs];rcases hs with e|e
  ·left;subst e;have:its=[]:=Xq.mp hlen.symm;subst this; rfl
  ·right; exact QB.mpr e
 ·have hne:its≠[]:=λe=>hs (.inl (Xq.mp (by rw[hlen,e]; rfl)))
  have hemp:its.toArray.isEmpty=false:=by
   cases its with
   | nil=>exact absurd rfl hne
   | cons z zs=>simp
  have b2:(its.toArray.isEmpty||k==1)=false:=by
   rw[QC]; exact⟨hemp,Xt.mpr λe=>hs (.inr e)⟩
  by_cases hk:k<=0
  ·have e0:k.toNat=0:=by omega
   refine Qd F.slot_tuple_mul ⟨_,ho,rfl⟩ F.entry_tuple_mul (F.args_tuple_mul_2 _ _) (HT.Jz k t a its.toArray n dd sl b1 b2 (by simp[hk])) ⟨ho,?_⟩;rw[e0] at q2;refine⟨.ref s.heap.objs.size,_,I.laid (t':=s.toks) (o:=.tup []) (λb ob q=>Zc _ q) (Zn _) ?_,rfl,q2 _ (I.hok.fresh (Zn _))⟩;exact⟨Xj _,[],.nil,IsTup.new _ _⟩
  ·have hkk:(k.toNat:Int)=k:=by omega
   have hnew:List.foldl (λx1 x2=>x1++x2) #[] (List.replicate k.toNat its.toArray)=(List.replicate k.toNat its).flatten.toArray:=by
    have:=foldl_rep its k.toNat [];rw[XH] at this;exact this
   have hm:((its.toArray.size:Nat):Int)*k=((its.length*k.toNat:Nat):Int):=by rw[Int.natCast_mul,hkk,Zh]
   rw[hlen] at hz;have hsl:(sizeLine:Nat)<=(2^63-1)/8:=by decide
   refine Qd F.slot_tuple_mul ⟨_,ho,rfl⟩ F.entry_tuple_mul (F.args_tuple_mul_2 _ _) (HT.Fv k t a its.toArray n dd sl b1 b2 ?_ ?_ ?_ ?_) ⟨ho,?_⟩
   ·rw[QC]; exact⟨Zs hk,hemp⟩
   ·rw[hm]; omega
   ·rw[hm]; unfold Builtin.Tuple.tupleTooMany; exact Zs (by omega)
   ·rw[hnew,Zh,len_rep,Wz]; exact hz
   ·rw[hnew];refine⟨.ref s.heap.objs.size,_,I.laid (t':=s.toks) (o:=.tup (List.replicate k.toNat xs).flatten) (λb ob q=>Zc _ q) (Zn _) ?_,rfl,q2 _ (I.hok.fresh (Zn _))⟩;exact⟨by rw[len_rep,Wz,hlen]; exact hz,_,r.rep _,IsTup.new _ _⟩
end
end L2

namespace HT
open PySem PyProof.Rows
section
variable{prog:WK}{w:WN}{A:Around}{E:WC}{s:WI}
theorem Bv{t sl:Addr}{items:WQ}{vl vu:Value}{lo hi:Option Int}{Q:WC}(ht:IsTup s.heap t items)(hs:s.heap.IsSliceOf sl vl vu .none)(pl:IsPart vl lo)(pu:IsPart vu hi)
  (hw:sIx items.size 0 lo=0/\sIx items.size items.size hi=items.size) (h:Q (.ref t) s):wpAny (model prog w) A (getItem (.ref t) (.ref sl)) Q E s:=by
 obtain⟨os,hos,hcs,hds⟩:=id hs;have hTs:s.TypeIs (.ref sl) "slice":=⟨os,hos,hcs⟩
 unfold getItem
 try with_reducible refine Xg ?_
 first|refine Za (Zd ?_)|skip
 refine Za (wpAny_sequenceKey ht.typeIs (by decide) ?_)
 refine Za (ZY (name:=Str.ofString "__getitem__") ht.typeIs XQ
  (Z4 XQ ht.typeIs entry_tuple_getitem ?_ (args_tuple_getitem _ _)))
 show wpAny _ _ (Builtin.Tuple.tupleItemsOf (.ref t)>>=_) _ _ s;refine Za (tupleItemsOf_ ht ?_);refine Za (Q8 hTs ?_);rw[Ze (by decide)];refine Za (qi hs pl pu ?_)
 have hyes:(((sIx items.size 0 lo:Nat):Int)==0&&(1:Int)==1&&(sIx items.size items.size hi-sIx items.size 0 lo)==items.size)=true:=by
  rw[hw.1,hw.2]; simp
 show wpAny _ _ (if(((sIx items.size 0 lo:Nat):Int)==0&&(1:Int)==1&&(sIx items.size items.size hi-sIx items.size 0 lo)==items.size)=true then _ else _) _ _ s;rw[Ze hyes]
 have hx:∀{P:Bool->Shared->Prop},P true s->wpAny (model prog w) A.in1 (Builtin.Tuple.tupleIsExact (.ref t)) P E s:=λ{P} hp=>by
  unfold Builtin.Tuple.tupleIsExact;refine Za (Q8 ht.typeIs (Zd ?_));simpa using hp
 refine Za (hx ?_);rw[Ze rfl];exact Za (X2 (Zd ⟨_,rfl,Zd h⟩))
end
end HT
namespace EV
open PySem PySem.Spec PyProof.Rows L2
open PySem.SeqAt (EqAt RcAt)
section
variable{X:Cx}{Γ:Gx}{xw:XW}{pins:WD}{σ:L2.St}{H:Hp}{s:WI}{ι:WL}{S:af}
theorem av.new(hS:av Γ ι H S){p:Addr}(hp:H p=none):p∉ι:=λm=>by
 obtain⟨l,e⟩:=ZH m;have hl:l<S.length:=by rw[<- hS.len]; exact(Zf.mp e).1
 obtain⟨a,ha,c⟩:=hS.cell l S[l] (Zb hl);rw[e] at ha; cases ha
 cases q:S[l] with
 | lst ds=>rw[q] at c; obtain⟨xs,hx,_⟩:=c; rw[hp] at hx; cases hx
 | dct kvs=>rw[q] at c; obtain⟨xs,hx,_⟩:=c; rw[hp] at hx; cases hx
 | fdc kvs=>rw[q] at c; obtain⟨xs,⟨o,hx⟩,_⟩:=c; rw[hp] at hx; cases hx
theorem jS.ext{ι1:WL}{H1:Hp}(e:Ext ι ι1 H H1){a:Addr}{c:Cell}(h:jS Γ ι H a c)(hl:∀o,H a=some o->H1 a=some o):jS Γ ι1 H1 a c:=by
 cases c with
 | lst ds=>obtain⟨xs,hx,r⟩:=h; exact⟨xs,hl _ hx,az.ext e r⟩
 | dct kvs=>obtain⟨xs,hx,r⟩:=h; exact⟨xs,hl _ hx,Paired.imp (λ_ _ q=>⟨q.1,q.2.ext e⟩) r⟩
 | fdc kvs=>obtain⟨xs,⟨o,hx⟩,r⟩:=h; exact⟨xs,⟨o,hl _ hx⟩,Paired.imp (λ_ _ q=>⟨q.1,q.2.ext e⟩) r⟩
theorem av.more(hS:av Γ ι H S){p:Addr}(hp:H p=none){ds:WV}{xs:WT}(r:az Γ ι H ds xs):av Γ (ι++[p]) (upd H p (.lst xs)) (S++[.lst ds]):=by
 have e:Ext ι (ι++[p]) H (upd H p (.lst xs)):=Ext.more hp;refine⟨by simp[hS.len],Ww.mpr ⟨hS.nd,by simp,?_⟩,λl c h=>?_⟩
 ·intro a ha b hb;have:b=p:=by simpa using hb
  subst this;exact λz=>hS.new hp (z▸ha)
 ·by_cases hl:l<S.length
  ·rw[ZF hl] at h;obtain⟨a,ha,c1⟩:=hS.cell l c h;exact⟨a,gU e.pre ha,c1.ext e λys hy=>by rw[aF (bu hy hp)]; exact hy⟩
  ·rw[ZI (by omega)] at h
   have hl2:l-S.length=0:=by
    have:=(Zf.mp h).1;simp at this; omega
   rw[hl2] at h;have h':(Cell.lst ds)=c:=by simpa using h
   subst h';have e1:l=ι.length:=by rw[hS.len]; omega
   subst e1;exact⟨p,by simp,xs,cT,az.ext e r⟩
theorem av.laid(hS:av Γ ι H S){p:Addr}(hp:H p=none)(o:HO):av Γ ι (upd H p o) S :=
 ⟨hS.len,hS.nd,λl c h=>let⟨a,ha,c1⟩:=hS.cell l c h; ⟨a,ha,c1.ext (Ext.laid hp) λys hy=>by rw[aF (bu hy hp)]; exact hy⟩⟩
theorem Out.alloc{Q:VK}{ds:WV}{xs:WT}{p:Addr}(ho:Out Γ xw ι H (alloc (.lst ds) S) λd _ ι' H'=>∀v,Rep Γ ι' H' d v->Q v H')(hS:av Γ ι H S)(hp:H p=none)(r:az Γ ι H ds xs):Q (.ref p) (upd H p (.lst xs)) :=
 ho (ι++[p]) _ (Ext.more hp) (hS.more hp r) _ (.loc (by rw[<- hS.len]; simp))
theorem Out.tup{Q:VK}{ds:WV}{xs:WT}{p:Addr}(ho:Out Γ xw ι H (.ok (.tup ds) S) λd _ ι' H'=>∀v,Rep Γ ι' H' d v->Q v H')(hS:av Γ ι H S)(hp:H p=none)(r:az Γ ι H ds xs):Q (.ref p) (upd H p (.tup xs)) :=
 ho ι _ (Ext.laid hp) (hS.laid hp _) _ (.jM cT (az.ext (Ext.laid hp) r))
theorem Out.val{Q:VK}{d:D}{v:V}(ho:Out Γ xw ι H (.ok d S) λd _ ι' H'=>∀v,Rep Γ ι' H' d v->Q v H')(hS:av Γ ι H S)(r:Rep Γ ι H d v):Q v H:=ho.here hS v r
theorem DR:OpR X (binaryOp .Add) (λx y H Q=>∃a b ys,x=.ref a/\y=.ref b/\SqT X.K H a []/\SqT X.K H b ys/\Q (.ref b) H):=by
 intro pins s σ H x y v u Q I rx ry h;obtain⟨a,b,ys,rfl,rfl,ha,hb,q⟩:=h;cases rx;cases ry;obtain⟨its,r1,p1,_⟩:=I.tuple ha;obtain⟨its2,r2,p2,_⟩:=I.tuple hb;cases r1;obtain⟨⟨cls,dd,data,sl⟩,ho,hc,n,hd⟩:=id p1;obtain⟨⟨cls2,dd2,data2,sl2⟩,ho2,hc2,n2,hd2⟩:=id p2;simp only at hc hd hc2 hd2;subst hc hd hc2 hd2
 exact concat_meets ⟨_,ho,rfl⟩ ⟨_,ho2,rfl⟩ noFill_tuple_add seq_tuple_add QW QT (QN _ _)
  (tuple_addW0 a b _ its2.toArray n n2 dd dd2 sl sl2 rfl) ⟨ho,ho2,⟨.ref b,H,I,rfl,q⟩⟩
theorem Out.guard{α:Type}{b:Bool}{m:M α}{k:α->af->List Addr->Hp->Prop}(h:Out Γ xw ι H (EV.guard b m S) k):b=true/\Out Γ xw ι H (m S) k:=by
 cases b with
 | true=>exact⟨rfl,h⟩
 | false=>exact h.elim
theorem dZ{n:Nat}(h:fits n=true):n<=sizeLine:=Zk h
theorem E8{n:Nat}(h:iF n=true):n<sizeLine:=Zk h
theorem Out.opt{α β:Type}{o:Option α}{f:α->M β}{k:β->af->List Addr->Hp->Prop}(h:Out Γ xw ι H ((EV.opt o>>=f) S) k):∃a,o=some a/\Out Γ xw ι H (f a S) k:=by
 cases o with
 | none=>exact h.elim
 | some a=>exact⟨a,rfl,h⟩
theorem Out.aZ{l:Nat}{f:List D->M D}{k:D->af->List Addr->Hp->Prop}(h:Out Γ xw ι H (EV.aZ l f S) k):∃ds,S[l]?=some (.lst ds)/\Out Γ xw ι H (f ds S) k:=by
 have e:EV.aZ l f S=match S[l]? with|some (.lst ds)=>f ds S|_=>.bad:=rfl
 rw[e] at h
 cases q:S[l]? with
 | none=>rw[q] at h; exact h.elim
 | some c =>
  rw[q] at h
  cases c with
  | lst ds=>exact⟨ds,rfl,h⟩
  | dct kvs=>exact h.elim
  | fdc kvs=>exact h.elim
theorem G9(hK:Γ.K=X.K):OpR X (binaryOp .Add) (bg Γ xw (opD .add)):=by
 intro pins s σ H x y v u Q I rx ry h;obtain⟨ι,S,dx,dy,hS,r1,r2,ho⟩:=h
 cases dx with
 | int i =>
  cases dy with
  | int j=>cases r1; cases r2; exact yw pins s σ H _ _ v u Q I rx ry ⟨i,j,rfl,rfl,Out.val ho hS (.int _)⟩
  | _=>exact ho.elim
 | str a =>
  cases dy with
  | str b =>
   cases r1; cases r2;obtain⟨hz,ho⟩:=Out.guard ho;exact BW pins s σ H _ _ v u Q I rx ry ⟨a,b,rfl,rfl,dZ hz,Out.val ho hS (.str _)⟩
  | _=>exact ho.elim
 | tup ds =>
  cases dy with
  | tup es =>
   obtain⟨a,xs,rfl,t1,p1⟩:=r1.bJ;obtain⟨b,ys,rfl,t2,p2⟩:=r2.bJ;have l1:=p1.length;have l2:=p2.length;rw[hK] at t1 t2;obtain⟨hz,ho⟩:=Out.guard ho;have hz:=dZ hz
   cases xs with
   | nil =>
    have e:ds=[]:=Xq.mp l1;subst e;exact DR pins s σ H _ _ v u Q I rx ry ⟨a,b,ys,rfl,rfl,t1,t2,Out.val ho hS r2⟩
   | cons z zs =>
    refine Ie pins s σ H _ _ v u Q I rx ry ⟨a,b,z::zs,ys,rfl,rfl,t1,t2,by simp,by rw[<- l1,<- l2]; exact hz,λe=>?_,λ_ p hp=>?_⟩
    ·subst e;have e:es=[]:=Xq.mp l2;subst e;rw[Xn] at ho;exact Out.val ho hS r1
    ·exact Out.tup ho hS hp (Paired.app p1 p2)
  | _=>exact ho.elim
 | loc l =>
  cases dy with
  | loc m =>
   obtain⟨ds,e1,ho⟩:=Out.aZ ho;obtain⟨es,e2,ho⟩:=Out.aZ ho;obtain⟨hz,ho⟩:=Out.guard ho;obtain⟨a,xs,ha,hx,p1⟩:=hS.lst e1;obtain⟨b,ys,hb,hy,p2⟩:=hS.lst e2
   cases r1 with
   | loc q1 =>
    cases r2 with
    | loc q2 =>
     rw[ha] at q1; cases q1;rw[hb] at q2; cases q2;exact Bh pins s σ H _ _ v u Q I rx ry ⟨a,b,xs,ys,rfl,rfl,hx,hy,by rw[<- p1.length,<- p2.length]; exact dZ hz,λp hp=>Out.alloc ho hS hp (Paired.app p1 p2)⟩
  | _=>exact ho.elim
 | _=>exact ho.elim
theorem yQ:OpR X (binaryOp .Sub) (bg Γ xw (opD .sub)):=by
 intro pins s σ H x y v u Q I rx ry h;obtain⟨ι,S,dx,dy,hS,r1,r2,ho⟩:=h
 cases dx with
 | int i =>
  cases dy with
  | int j=>cases r1; cases r2; exact CP pins s σ H _ _ v u Q I rx ry ⟨i,j,rfl,rfl,Out.val ho hS (.int _)⟩
  | _=>exact ho.elim
 | _=>exact ho.elim
theorem xT(hK:Γ.K=X.K):OpR X (binaryOp .Mult) (bg Γ xw (opD .mul)):=by
 intro pins s σ H x y v u Q I rx ry h;obtain⟨ι,S,dx,dy,hS,r1,r2,ho⟩:=h
 cases dx with
 | int i =>
  cases dy with
  | int j =>
   cases r1; cases r2;obtain⟨hz,ho⟩:=Out.guard ho;refine Hs pins s σ H _ _ v u Q I rx ry ⟨i,j,rfl,rfl,?_,Out.val ho hS (.int _)⟩;rcases Bool.or_eq_true_iff.mp hz with hz|hz
   ·exact .inl (Zk hz)
   ·exact .inr (Zk hz)
  | _=>exact ho.elim
 | tup ds =>
  cases dy with
  | int j =>
   obtain⟨a,xs,rfl,t1,p1⟩:=r1.bJ;have l1:=p1.length;rw[hK] at t1;cases r2;obtain⟨hz,ho⟩:=Out.guard ho;rw[Zl,Zl] at hz;refine Ej pins s σ H _ _ v u Q I rx ry ⟨a,j,xs,rfl,rfl,t1,Zk hz.1.1,Zk hz.1.2,by rw[<- l1]; exact dZ hz.2,λe=>?_,λp hp=>?_⟩
   ·have e2:(List.replicate j.toNat ds).flatten=ds:=by
     rcases e with e|e
     ·subst e;have e:ds=[]:=Xq.mp l1;subst e;simp
     ·subst e; simp
    rw[e2] at ho;exact Out.val ho hS r1
   ·exact Out.tup ho hS hp (Paired.rep p1 _)
  | _=>exact ho.elim
 | loc l =>
  cases dy with
  | int j =>
   obtain⟨ds,hl,ho⟩:=Out.aZ ho;obtain⟨a,xs,ha,hx,p1⟩:=hS.lst hl;cases r2
   cases r1 with
   | loc q =>
    rw[ha] at q; cases q;obtain⟨hz,ho⟩:=Out.guard ho;rw[Zl,Zl] at hz;exact Ht pins s σ H _ _ v u Q I rx ry ⟨a,j,xs,rfl,rfl,hx,Zk hz.1.1,Zk hz.1.2,by rw[<- p1.length]; exact dZ hz.2,λp hp=>Out.alloc ho hS hp (Paired.rep p1 _)⟩
  | _=>exact ho.elim
 | _=>exact ho.elim
theorem Ab:OpR X (binaryOp .FloorDiv) (bg Γ xw (opD .fdiv)):=by
 intro pins s σ H x y v u Q I rx ry h;obtain⟨ι,S,dx,dy,hS,r1,r2,ho⟩:=h
 cases dx with
 | int i =>
  cases dy with
  | int j =>
   cases r1; cases r2;obtain⟨hz,ho⟩:=Out.guard ho;rw[Zl] at hz;exact Jw pins s σ H _ _ v u Q I rx ry ⟨i,j,rfl,rfl,⟨Zk hz.1,Zk hz.2⟩,Out.val ho hS (.int _)⟩
  | _=>exact ho.elim
 | _=>exact ho.elim
theorem BB:OpR X (binaryOp .Mod) (bg Γ xw (opD .mod)):=by
 intro pins s σ H x y v u Q I rx ry h;obtain⟨ι,S,dx,dy,hS,r1,r2,ho⟩:=h
 cases dx with
 | int i =>
  cases dy with
  | int j =>
   cases r1; cases r2;obtain⟨hz,ho⟩:=Out.guard ho;exact Fe pins s σ H _ _ v u Q I rx ry ⟨i,j,rfl,rfl,Zk hz,Out.val ho hS (.int _)⟩
  | _=>exact ho.elim
 | _=>exact ho.elim
theorem Ai:OpR X (binaryOp .Pow) (bg Γ xw (opD .pow)):=by
 intro pins s σ H x y v u Q I rx ry h;obtain⟨ι,S,dx,dy,hS,r1,r2,ho⟩:=h
 cases dx with
 | int i =>
  cases dy with
  | int j =>
   cases r1; cases r2;obtain⟨hz,ho⟩:=Out.guard ho;rw[Zl,Zl] at hz;have h2:j<=1000:=Zk hz.1.2;exact G2 pins s σ H _ _ v u Q I rx ry ⟨i,j,rfl,rfl,⟨Zk hz.1.1,by omega,Zk hz.2⟩,Out.val ho hS (.int _)⟩
  | _=>exact ho.elim
 | _=>exact ho.elim
theorem j_{op:CmpOp}{p:Int->Int->Bool}(h0:OpR X (compareOp op) (rI0 λi j=>.bl (p i j))):OpR X (compareOp op) (bg Γ xw (gG p)):=by
 intro pins s σ H x y v u Q I rx ry h;obtain⟨ι,S,dx,dy,hS,r1,r2,ho⟩:=h
 cases dx with
 | int i =>
  cases dy with
  | int j=>cases r1; cases r2; exact h0 pins s σ H _ _ v u Q I rx ry ⟨i,j,rfl,rfl,Out.val ho hS (.bl _)⟩
  | _=>exact ho.elim
 | _=>exact ho.elim
theorem BG:OpR X (compareOp .Lt) (bg Γ xw (cmD .lt)):=j_ D4
theorem xy:OpR X (compareOp .LtE) (bg Γ xw (cmD .le)):=j_ Fq
theorem Gj:OpR X (compareOp .Gt) (bg Γ xw (cmD .gt)):=j_ xZ
theorem Jm:OpR X (compareOp .GtE) (bg Γ xw (cmD .ge)):=j_ FH
theorem vV{dx dy:D}{f:Bool->M D}{k:D->af->List Addr->Hp->Prop}(ho:Out Γ xw ι H ((eqM dx dy>>=f) S) k):∃b,eqD deep S dx dy=some b/\Out Γ xw ι H (f b S) k:=by
 rw[cI] at ho;unfold eqM at ho
 cases q:eqD deep S dx dy with
 | none=>rw[q] at ho; exact ho.elim
 | some b=>rw[q] at ho; exact⟨b,rfl,ho⟩
theorem s_eq(hK:Γ.K=X.K)(hu:X.A.units+64<cLine):OpR X (compareOp .Eq) (bg Γ xw (cmD .eq)):=by
 intro pins s σ H x y v u Q I rx ry h;obtain⟨ι,S,dx,dy,hS,r1,r2,ho⟩:=h;obtain⟨k,q,ho⟩:=vV ho;have:=(mP hK I hS deep X.A dx dy k x y v u q r1 r2 rx ry (by unfold deep; omega)).1;exact this X.prog X.w X.xe _ ⟨.bl k,H,I,rfl,Out.val ho hS (.bl _)⟩
end
end EV

namespace NEQ
open PySem PySem.SeqAt
open AutoSeq1 (wpAny_loadPart')
open MeetsSeq MeetsSeq2 MeetsSeq3 SeqRoads2
theorem BU(p q:Addr)(us ws:WQ)(n1 n2:Nat)(d1 d2:Option Addr)(z1 z2:Array (Option Value))(hlen:us.size=ws.size)(same:Nat->Bool)(left:Nat) :
  ∀at_:Nat,us.size-at_=left->Meets (Builtin.«list.__eq__.loop» ⟨[.ref p,.ref q,rawInt at_,rawInt 3],[]⟩)
   (λA R st=>st.heap.get? p=some { cls:=.type "list",dict:=d1,data:=.seq us n1,slots:=z1 }/\st.heap.get? q=some { cls:=.type "list",dict:=d2,data:=.seq ws n2,slots:=z2 } /\
    (∀j (h1:j<us.size) (h2:j<ws.size),EqAt A.in1 st us[j] ws[j] (same j))/\R (.ok (.ret (.bool (!((List.range us.size).drop at_).all same)))) st):=by
 induction left with
 | zero =>
  intro at_ hk prog w A R st hyp;obtain⟨hp,g,dr,tk,os⟩:=st;obtain⟨hl,hb,he,fin⟩:=hyp
  wp_walk using wpAny_loadPart' hl,wpAny_loadPart' hb
  have no1:us[((at_:Nat):Int).toNat]?=none:=by simp; omega
  have no2:ws[((at_:Nat):Int).toNat]?=none:=by simp; omega
  have nil:(List.range us.size).drop at_=[]:=by simp; omega
  rw[nil] at fin;rw[no1,no2]
  wp_walk using wpAny_loadPart' hl,wpAny_loadPart' hb
  show R (.ok (.ret (.bool (us.size != ws.size)))) _;rw[hlen];simpa using fin
 | succ left ih =>
  intro at_ hk prog w A R st hyp;obtain⟨hp,g,dr,tk,os⟩:=st;obtain⟨hl,hb,he,fin⟩:=hyp
  wp_walk using wpAny_loadPart' hl,wpAny_loadPart' hb
  have lt1:at_<us.size:=by omega
  have lt2:at_<ws.size:=by omega
  have yes1:us[((at_:Nat):Int).toNat]?=some us[at_]:=by simp[lt1]
  have yes2:ws[((at_:Nat):Int).toNat]?=some ws[at_]:=by simp[lt2]
  have cons:(List.range us.size).drop at_=at_::(List.range us.size).drop (at_+1):=by simp[Xk,lt1]
  have up:((at_:Int)+1)=((at_+1:Nat):Int):=by push_cast; rfl
  rw[cons,Qm] at fin;rw[yes1,yes2];refine Za (he at_ lt1 lt2 prog w _ _ ?_)
  cases ev:same at_ with
  | true =>
   rw[ev] at fin
   wp_walk
   rw[up]
   exact⟨QG plain_eq_loop _,XI entry_eq_loop (by
    rw[XB plain_eq_loop _];exact ih (at_+1) (by omega) prog w A R _ ⟨hl,hb,he,by simpa using fin⟩)⟩
  | false =>
   rw[ev] at fin
   wp_walk using wpAny_loadPart' hl,wpAny_loadPart' hb
   rw[yes1,yes2]
   wp_walk
   simpa using fin
theorem CJ(p q:Addr)(us ws:WQ)(n1 n2:Nat)(d1 d2:Option Addr)(z1 z2:Array (Option Value))(hlen:us.size=ws.size)(same:Nat->Bool) :
  Meets (Builtin.«list.__ne__» ⟨[.ref p,.ref q],[]⟩)
   (λA R st=>st.heap.get? p=some { cls:=.type "list",dict:=d1,data:=.seq us n1,slots:=z1 }/\st.heap.get? q=some { cls:=.type "list",dict:=d2,data:=.seq ws n2,slots:=z2 } /\
    (∀j (h1:j<us.size) (h2:j<ws.size),EqAt A.in1 st us[j] ws[j] (same j))/\R (.ok (.ret (.bool (!(List.range us.size).all same)))) st):=by
 intro prog w A R st hyp;obtain⟨hp,g,dr,tk,os⟩:=st;obtain⟨hl,hb,he,fin⟩:=hyp;have f3:=AutoSeq1.sub_list_list;have hne:¬(us.size != ws.size)=true:=by simp[hlen]
 wp_walk using wpAny_loadPart' hl,wpAny_loadPart' hb
 exact⟨QG plain_eq_loop _,XI entry_eq_loop (by
  rw[XB plain_eq_loop _];exact BU p q us ws n1 n2 d1 d2 z1 z2 hlen same _ 0 rfl prog w A R _ ⟨hl,hb,he,by simpa using fin⟩)⟩
theorem xh(p q:Addr)(us ws:WQ)(n1 n2:Nat)(d1 d2:Option Addr)(z1 z2:Array (Option Value))(hlen:(us.size != ws.size)=true) :
  Meets (Builtin.«list.__ne__» ⟨[.ref p,.ref q],[]⟩)
   (λ_ R st=>st.heap.get? p=some { cls:=.type "list",dict:=d1,data:=.seq us n1,slots:=z1 }/\st.heap.get? q=some { cls:=.type "list",dict:=d2,data:=.seq ws n2,slots:=z2 } /\
    R (.ok (.ret (.bool true))) st) :=
 .of_wp λprog w A R st hyp=>by
  obtain⟨hp,g,dr,tk,os⟩:=st;obtain⟨hl,hb,fin⟩:=hyp;have f3:=AutoSeq1.sub_list_list
  wp_walk using wpAny_loadPart' hl,wpAny_loadPart' hb
  exact⟨_,rfl,fin⟩
theorem Cj(p q:Addr)(us ws:WQ)(n1 n2:Nat)(d1 d2:Option Addr)(z1 z2:Array (Option Value))(same:Nat->Bool) :
  Meets (Builtin.«tuple.__ne__» ⟨[.ref p,.ref q],[]⟩)
   (λA R st=>st.heap.get? p=some { cls:=.type "tuple",dict:=d1,data:=.seq us n1,slots:=z1 }/\st.heap.get? q=some { cls:=.type "tuple",dict:=d2,data:=.seq ws n2,slots:=z2 } /\
    (∀j (h1:j<us.size) (h2:j<ws.size),EqAt A.in1 st us[j] ws[j] (same j)) /\
    R (.ok (.ret (.bool (!((List.range (min us.size ws.size)).all same&&us.size==ws.size))))) st) :=
 .of_wp λprog w A R st hyp=>by
  obtain⟨hp,g,dr,tk,os⟩:=st;obtain⟨hl,hb,he,fin⟩:=hyp;have f2:=AutoSeq1.sub_tuple_tuple;have zl:(us.toList.zip ws.toList).length=min us.size ws.size:=by simp
  wp_walk using wpAny_loadPart' hl,wpAny_loadPart' hb,QD _ (λmore b s'=>b.1=none/\s'=⟨hp,g,dr,tk,os⟩/\∃i,more=(us.toList.zip ws.toList).drop i /\
   R (.ok (.ret (.bool (!(((List.range (min us.size ws.size)).drop i).all same&&us.size==ws.size))))) ⟨hp,g,dr,tk,os⟩) _
  case turn =>
   rintro⟨y,x⟩ more b s' ⟨hb',rfl,i,hz,hR⟩
   have lt:i<(us.toList.zip ws.toList).length:=by
    rcases WB i (us.toList.zip ws.toList).length with h'|h'
    ·exact h'
    ·rw[List.drop_of_length_le h'] at hz; cases hz
   have hm:i<min us.size ws.size:=zl▸lt;have h1:i<us.size:=ZE hm (Nat.min_le_left _ _);have h2:i<ws.size:=ZE hm (Nat.min_le_right _ _);rw[Xk lt] at hz;injection hz with pair hmore;have hy:y=us[i]:=by have:=Qb Prod.fst pair; simpa using this
   have hx:x=ws[i]:=by have:=Qb Prod.snd pair; simpa using this
   subst hy hx;have cons:(List.range (min us.size ws.size)).drop i=i::(List.range (min us.size ws.size)).drop (i+1):=by simp[Xk,hm]
   rw[cons,Qm] at hR;refine Za (he i h1 h2 prog w _ _ ?_)
   cases ev:same i with
   | true =>
    rw[ev] at hR
    wp_walk
    exact⟨rfl,rfl,i+1,hmore,by simpa using hR⟩
   | false =>
    rw[ev] at hR
    wp_walk
    exact⟨_,rfl,by simpa using hR⟩
  case fin =>
   rintro⟨b1,b2⟩ s' ⟨hb',rfl,i,hz,hR⟩;simp only at hb';subst hb'
   have ge:min us.size ws.size<=i:=by
    rcases WB i (us.toList.zip ws.toList).length with h'|h'
    ·rw[Xk h'] at hz; cases hz
    ·exact zl▸h'
   rw[List.drop_of_length_le (by simpa using ge)] at hR
   wp_walk
   exact⟨_,rfl,by simpa [Builtin.Tuple.tupleCompareSizes,bne] using hR⟩
  case h =>
   exact⟨rfl,rfl,0,rfl,by simpa using fin⟩
section
variable{prog:WK}{w:WN}{A:Around}{E:WC}{s:WI}
theorem w4{l b:Addr}{us ws:WQ}{same:Nat->Bool}{Q:WC}(hl:s.heap.IsList l us)(hb:s.heap.IsList b ws)(hlen:us.size=ws.size)(hu:A.units<cLine)
  (he:∀j (h1:j<us.size) (h2:j<ws.size),EqAt A.in1 s us[j] ws[j] (same j)) (h:Q (.bool (!(List.range us.size).all same)) s):wpAny (model prog w) A (compareOp .NotEq (.ref l) (.ref b)) Q E s:=by
 obtain⟨⟨c1,d1,t1,z1⟩,o1,k1,n1,e1⟩:=id hl;obtain⟨⟨c2,d2,t2,z2⟩,o2,k2,n2,e2⟩:=id hb;simp only at k1 e1 k2 e2;subst k1 e1 k2 e2;exact QY (op:=.NotEq) ⟨_,o1,rfl⟩ ⟨_,o2,rfl⟩ F.slot_list_ne F.entry_list_ne (F.args_list_ne_2 _ _) (CJ l b us ws n1 n2 d1 d2 z1 z2 hlen same) ⟨o1,o2,he,⟨(λx=>nomatch x),h⟩⟩ hu
theorem IS{l b:Addr}{us ws:WQ}{Q:WC}(hl:s.heap.IsList l us)(hb:s.heap.IsList b ws)(hlen:(us.size != ws.size)=true)(hu:A.units<cLine)
  (h:Q (.bool true) s):wpAny (model prog w) A (compareOp .NotEq (.ref l) (.ref b)) Q E s:=by
 obtain⟨⟨c1,d1,t1,z1⟩,o1,k1,n1,e1⟩:=id hl;obtain⟨⟨c2,d2,t2,z2⟩,o2,k2,n2,e2⟩:=id hb;simp only at k1 e1 k2 e2;subst k1 e1 k2 e2;exact QY (op:=.NotEq) ⟨_,o1,rfl⟩ ⟨_,o2,rfl⟩ F.slot_list_ne F.entry_list_ne (F.args_list_ne_2 _ _) (xh l b us ws n1 n2 d1 d2 z1 z2 hlen) ⟨o1,o2,⟨(λx=>nomatch x),h⟩⟩ hu
theorem D7{l b:Addr}{us ws:WQ}{same:Nat->Bool}{Q:WC}(hl:s.heap.IsTuple l us)(hb:s.heap.IsTuple b ws)(hu:A.units<cLine)
  (he:∀j (h1:j<us.size) (h2:j<ws.size),EqAt A.in1 s us[j] ws[j] (same j)) (h:Q (.bool (!((List.range (min us.size ws.size)).all same&&us.size==ws.size))) s):wpAny (model prog w) A (compareOp .NotEq (.ref l) (.ref b)) Q E s:=by
 obtain⟨⟨c1,d1,t1,z1⟩,o1,k1,n1,e1⟩:=id hl;obtain⟨⟨c2,d2,t2,z2⟩,o2,k2,n2,e2⟩:=id hb;simp only at k1 e1 k2 e2;subst k1 e1 k2 e2;exact QY (op:=.NotEq) ⟨_,o1,rfl⟩ ⟨_,o2,rfl⟩ F.slot_tuple_ne F.entry_tuple_ne (F.args_tuple_ne_2 _ _) (Cj l b us ws n1 n2 d1 d2 z1 z2 same) ⟨o1,o2,he,⟨(λx=>nomatch x),h⟩⟩ hu
end
end NEQ

namespace EV
open PySem PySem.Spec PyProof.Rows L2
open PySem.SeqAt (EqAt RcAt)
section
variable{X:Cx}{Γ:Gx}{xw:XW}{pins:WD}{σ:L2.St}{H:Hp}{s:WI}{ι:WL}{S:af}
theorem uz(hK:Γ.K=X.K)(I:Inv X pins σ H s)(hS:av Γ ι H S){n:Nat}{A:Around}(hu:A.units+n<cLine){ds es:WV}{xs ys:WT}{its1 its2:WH}{e:Nat->Bool}(rp1:az Γ ι H ds xs)(rp2:az Γ ι H es ys)
  (rv1:Vals xs its1) (rv2:Vals ys its2) (he:∀(j:Nat) x y,ds[j]?=some x->es[j]?=some y->eqD n S x y=some (e j)) (j:Nat) (h1:j<its1.toArray.size) (h2:j<its2.toArray.size):EqAt A s its1.toArray[j] its2.toArray[j] (e j):=by
 rw[Zh] at h1 h2;have l1:=rp1.length;have l2:=rp2.length;have l3:=rv1.length;have l4:=rv2.length;have j1:j<ds.length:=by omega
 have j2:j<es.length:=by omega
 obtain⟨y1,a1,a2⟩:=Paired.get rp1 (Zb j1);obtain⟨y2,a3,a4⟩:=Paired.get rp2 (Zb j2);obtain⟨w1,z1,z2⟩:=rv1.get a1;obtain⟨w2,z3,z4⟩:=rv2.get a3;have:=(mP hK I hS n A ds[j] es[j] (e j) y1 y2 w1 w2 (he j _ _ (Zb j1) (Zb j2)) a2 a4 z2 z4 hu).2
 have q1:its1.toArray[j]'(by rw[Zh]; exact h1)=w1:=by
  have:its1[j]?=some its1[j]:=Zb h1;rw[z1] at this; cases this; rfl
 have q2:its2.toArray[j]'(by rw[Zh]; exact h2)=w2:=by
  have:its2[j]?=some its2[j]:=Zb h2;rw[z3] at this; cases this; rfl
 rw[q1,q2]; exact this
theorem zy(n:Nat)(S:af)(xs ys:WV):eqD (n+1) S (.tup xs) (.tup ys)=(b7 (eqD n S) xs ys).map λr=>r&&(xs.length==ys.length):=rfl
theorem Cs(n:Nat)(S:af)(a b:D)(h1:a.kd=.list)(h2:b.kd=.list):eqD (n+1) S a b=match asL S a,asL S b with
  | some xs,some ys=>if xs.length=ys.length then b7 (eqD n S) xs ys else some false
  | _,_=>none:=by simp only[eqD,h1,h2]<;>rfl
theorem IJ{a b:D}(h:gZ a b=true):(a.kd=.flat/\b.kd=.flat)\/(a.kd=.tup/\b.kd=.tup)\/(a.kd=.list/\b.kd=.list)\/(∃xs y,a=.tup xs/\b=.str y)\/∃xs i,a=.tup xs/\b=.int i:=by
 cases a<;>cases b<;>first|exact .inl ⟨rfl,rfl⟩|exact .inr (.inl ⟨rfl,rfl⟩)|exact .inr (.inr (.inl ⟨rfl,rfl⟩))|exact .inr (.inr (.inr (.inl ⟨_,_,rfl,rfl⟩)))|exact .inr (.inr (.inr (.inr ⟨_,_,rfl,rfl⟩)))|cases h
theorem EJ{S:af}{a b:D}(e1:a.kd=.flat)(e2:b.kd=.flat):eqD deep S a b=kI a b:=by
 show eqD (11+1) S a b=_;simp only[eqD,e1,e2]
theorem Ad{S:af}{a b:D}{x y:V}{k:Bool}(hn:gZ a b=true)(q:eqD deep S a b=some k)(r1:Rep Γ ι H a x)(r2:Rep Γ ι H b y)(e1:a.kd=.flat)(e2:b.kd=.flat):oj x y=true/\(decide (x=y))=k:=by
 rw[EJ e1 e2] at q;clear S;cases r1<;>first|(cases e1; done)|skip
 all_goals (cases r2<;>first|(cases e2; done)|(cases hn; done)|skip)
 all_goals (refine⟨rfl,?_⟩; cases Zz q; first|rfl|(rw[show(decide _:Bool)=_ from iL]; done)|(rw[show(decide _:Bool)=_ from iL])|rw[m8]|rw[nE]|simp)
theorem Ic(hK:Γ.K=X.K)(hu:X.A.units+64<cLine):OpR X (compareOp .NotEq) (bg Γ xw (cmD .ne)):=by
 intro pins s σ H x y v u Q I rx ry h;obtain⟨ι,S,dx,dy,hS,r1,r2,ho⟩:=h;obtain⟨hn,ho⟩:=Out.guard ho;obtain⟨k,q,ho⟩:=vV ho;have fin:Q (.bl (!k)) H:=Out.val ho hS (.bl _);have hu0:X.A.units<cLine:=by omega
 have hd:deep=11+1:=rfl;rcases IJ hn with⟨e1,e2⟩|⟨e1,e2⟩|⟨e1,e2⟩|⟨xs0,y0,rfl,rfl⟩|⟨xs0,i0,rfl,rfl⟩
 ·obtain⟨z1,z2⟩:=Ad hn q r1 r2 e1 e2;exact Jl pins s σ H _ _ v u Q I rx ry ⟨z1,by rw[z2]; exact fin⟩
 ·-- tuples
  cases dx<;>first|(cases e1; done)|skip;cases dy<;>first|(cases e2; done)|skip;obtain⟨a,xs,rfl,t1,p1⟩:=r1.bJ;obtain⟨b,ys,rfl,t2,p2⟩:=r2.bJ;cases rx;cases ry;rw[hK] at t1 t2;obtain⟨its1,rv1,pt1,_⟩:=I.tuple t1;obtain⟨its2,rv2,pt2,_⟩:=I.tuple t2;rw[hd,zy,ZA] at q;obtain⟨r,hr,hk⟩:=q;obtain⟨e,he,hk2⟩:=gx hr;refine NEQ.D7 (same:=e) pt1 pt2 hu0 (uz hK I hS (by show X.A.units+1+11<_; omega) p1 p2 rv1 rv2 he) ?_;rw[Zh,Zh,<- rv1.length,<- rv2.length,<- p1.length,<- p2.length,<- hk2,hk];exact⟨.bl (!k),H,I,rfl,fin⟩
 ·-- lists
  rw[hd,Cs _ _ _ _ e1 e2] at q;split at q
  ·rename_i ds es h1 h2;obtain⟨a,xs,rfl,s1,p1⟩:=hS.list r1 h1;obtain⟨b,ys,rfl,s2,p2⟩:=hS.list r2 h2;cases rx;cases ry;rw[hK] at s1 s2;obtain⟨its1,rv1,pl1,_⟩:=I.list s1;obtain⟨its2,rv2,pl2,_⟩:=I.list s2;have z1:its1.toArray.size=ds.length:=by rw[Zh,<- rv1.length,<- p1.length]
   have z2:its2.toArray.size=es.length:=by rw[Zh,<- rv2.length,<- p2.length]
   by_cases hlen:ds.length=es.length
   ·rw[Ze hlen] at q;obtain⟨e,he,hk2⟩:=gx q;refine NEQ.w4 (same:=e) pl1.isList pl2.isList (by omega) hu0 (uz hK I hS (by show X.A.units+1+11<_; omega) p1 p2 rv1 rv2 he) ?_;rw[z1,show(List.range ds.length).all e=k by rw[hk2,<- hlen,Nat.min_self]];exact⟨.bl (!k),H,I,rfl,fin⟩
   ·rw[Zg hlen] at q;cases q;exact NEQ.IS pl1.isList pl2.isList (by rw[z1,z2]; simpa using hlen) hu0 ⟨.bl true,H,I,rfl,fin⟩
  ·cases q
 ·-- a tuple and a text
  cases(show some false=some k from q);obtain⟨a,xs,rfl,t1,p1⟩:=r1.bJ;cases r2;cases rx;obtain⟨tk,rfl⟩:=(show ∃tk,u=Value.str y0 tk from ry)
  rw[hK] at t1;obtain⟨its1,rv1,pt1,_⟩:=I.tuple t1;exact PySem.SeqAt.RcNeAt.tuple_str y0 tk pt1 hu0 _ _ _ _ ⟨.bl true,H,I,rfl,fin⟩
 ·-- a tuple and an int
  cases(show some false=some k from q);obtain⟨a,xs,rfl,t1,p1⟩:=r1.bJ;cases r2;cases rx;obtain⟨tk,rfl⟩:=(show ∃tk,u=Value.int i0 tk from ry)
  rw[hK] at t1;obtain⟨its1,rv1,pt1,_⟩:=I.tuple t1;exact PySem.SeqAt.RcNeAt.tuple_int i0 tk pt1 hu0 _ _ _ _ ⟨.bl true,H,I,rfl,fin⟩
theorem Rep.inj(hK:Γ.K=X.K)(I:Inv X pins σ H s)(hS:av Γ ι H S){d:D}{v:V}(r:Rep Γ ι H d v):∀{d':D},Rep Γ ι H d' v->d=d':=by
 obtain⟨K⟩:=Γ;have hK':K=X.K:=hK;subst hK'
 have tl:∀{a:Addr} {xs ys:WT},SqT X.K H a xs->SqL X.K H a ys->False:=λ{a xs ys} ht hl=>by
  obtain⟨its,_,pl,_⟩:=I.list hl;obtain⟨its2,_,pt,_⟩:=I.tuple ht;exact absurd rfl (SeqAt.ne_of_list_tuple pl.isList pt)
 have td:∀{a:Addr} {xs:WT} {kvs:WU},SqT X.K H a xs->H a=some (.dT kvs)->False:=λ{a xs kvs} ht hd=>by
  obtain⟨its2,_,⟨o,e1,_,n,e2⟩,_⟩:=I.tuple ht;obtain⟨_,_,_,_,o',es,ep,h1,_,h2,_⟩:=(show bY X.prog X.w H s.heap a (.dT kvs) from I.hok a _ hd)
  rw[e1] at h1; cases h1;rw[e2] at h2; cases h2
 have tf:∀{a:Addr} {xs:WT} {o:Obj} {kvs:WU},SqT X.K H a xs->H a=some (.frz o (.dT kvs))->False:=λ{a xs o kvs} ht hd=>by
  obtain⟨its2,_,⟨o1,e1,_,n,e2⟩,_⟩:=I.tuple ht;obtain⟨g1,_,_,_,_,o',es,ep,h1,_,h2,_⟩:=(show s.heap.get? a=some o/\bY X.prog X.w H s.heap a (.dT kvs) from I.hok a _ hd)
  rw[e1] at h1; cases h1;rw[e2] at h2; cases h2
 have tll:∀{l:Nat} {a:Addr} {xs:WT},SqT X.K H a xs->((∃ys,H a=some (.lst ys))\/(∃ys,H a=some (.dT ys))\/∃o ys,H a=some (.frz o (.dT ys)))->False:=λ{l a xs} ht h=>by
  rcases h with⟨ys,hy⟩|⟨ys,hy⟩|⟨o,ys,hy⟩
  ·exact tl ht (.of hy)
  ·exact td ht hy
  ·exact tf ht hy
 have ll:∀{l:Nat} {a:Addr},ι[l]?=some a->(∃xs,H a=some (.lst xs))\/(∃xs,H a=some (.dT xs))\/∃o xs,H a=some (.frz o (.dT xs)):=λ{l a} q=>by
  have hl:l<S.length:=by rw[<- hS.len]; exact(Zf.mp q).1
  obtain⟨b,hb,c⟩:=hS.cell l S[l] (Zb hl);rw[q] at hb; cases hb
  cases e:S[l] with
  | lst ds=>rw[e] at c; obtain⟨xs,hx,_⟩:=c; exact .inl ⟨xs,hx⟩
  | dct kvs=>rw[e] at c; obtain⟨xs,hx,_⟩:=c; exact .inr (.inl ⟨xs,hx⟩)
  | fdc kvs=>rw[e] at c; obtain⟨xs,⟨o,hx⟩,_⟩:=c; exact .inr (.inr ⟨o,xs,hx⟩)
 have fl:∀{l:Nat} {a:Addr} {xs:WT},Fro X.K H a xs->ι[l]?=some a->False:=λ{l a xs} hf q=>by
  obtain⟨ob,hy,hno⟩:∃ob,H a=some ob/\∀o us,ob≠.frz o (.lst us):=by
   rcases ll q with⟨ys,hy⟩|⟨ys,hy⟩|⟨o',ys,hy⟩
   ·exact⟨_,hy,λ_ _ z=>by cases z⟩
   ·exact⟨_,hy,λ_ _ z=>by cases z⟩
   ·exact⟨_,hy,λ_ _ z=>by cases z⟩
  rcases hf with⟨o,hf⟩|hf
  ·rw[hy] at hf; exact hno _ _ (Zz hf)
  ·rcases hf (λ_=>none) with(z|⟨_,z⟩)|z
   ·cases z
   ·cases z
   ·obtain⟨o,_,_,hk,_⟩:=z;have hb:X.base.get? a=some o:=I.ok.mod.kin a o hk;have:=(I.bs a o hb).2;rw[hy] at this; cases this
 induction r with
 | non=>intro d' r'; cases r'; rfl
 | bl b=>intro d' r'; cases r'; rfl
 | int i=>intro d' r'; cases r'; rfl
 | str x=>intro d' r'; cases r'; rfl
 | @tup ds a xs t1 l1 p1 k1 ih =>
  intro d' r'
  cases r' with
  | @tup es _ ys t2 l2 p2 _ =>
   have e:xs=ys:=I.jw t1 t2;subst e;congr 1;refine QU λj=>?_
   by_cases hj:j<ds.length
   ·have h1:=Zb hj;have h2:es[j]?=some es[j]:=Zb (by omega);have h3:xs[j]?=some xs[j]:=Zb (by omega);rw[h1,h2,ih j _ _ h1 h3 (p2 j _ _ h2 h3)]
   ·rw[XO (by omega),XO (by omega)]
  | fro f2 _ _=>exact(tl t1 f2.sq).elim
  | loc q=>exact(tll (l:=0) t1 (ll q)).elim
 | @fro ds a xs f1 l1 p1 ih =>
  intro d' r'
  cases r' with
  | tup t2 _ _ _=>exact(tl t2 f1.sq).elim
  | @fro es _ ys f2 l2 p2 =>
   have e:xs=ys:=I.jU f1.sq f2.sq;subst e;congr 1;refine QU λj=>?_
   by_cases hj:j<ds.length
   ·have h1:=Zb hj;have h2:es[j]?=some es[j]:=Zb (by omega);have h3:xs[j]?=some xs[j]:=Zb (by omega);rw[h1,h2,ih j _ _ h1 h3 (p2 j _ _ h2 h3)]
   ·rw[XO (by omega),XO (by omega)]
  | loc q=>exact(fl f1 q).elim
 | @loc l a q =>
  intro d' r'
  cases r' with
  | tup t2 _ _ _=>exact(tll (l:=0) t2 (ll q)).elim
  | fro f2 _ _=>exact(fl f2 q).elim
  | loc q'=>rw[jr hS.nd q q']
theorem u9{x:D}:∀{ys:WV} {k:Bool},inL S x ys=some k->(∀y∈ys,eqD deep S y x=some ((eqD deep S y x).getD false))/\k=ys.any λy=>(eqD deep S y x).getD false
 | [],k,h=>⟨λy hy=>absurd hy (by simp),by cases h; rfl⟩
 | y::ys,k,h=>by
  simp only[inL] at h;split at h
  ·rename_i a b e1 e2;cases h;obtain⟨he,hk⟩:=u9 e2;refine⟨λz hz=>?_,?_⟩
   ·rcases Zm.mp hz with rfl|hz
    ·simp[e1]
    ·exact he z hz
   ·rw[List.any_cons,<- hk]; simp[e1]
  ·cases h
theorem jf(hK:Γ.K=X.K)(I:Inv X pins σ H s)(hS:av Γ ι H S){A:Around}(hu:A.units+deep<cLine){dx:D}{x:V}{v:Value}(r1:Rep Γ ι H dx x)(rx:RelV x v){ds:WV}{xs:WT}{its:WH}{k:Bool}(h:inL S dx ds=some k)
  (p:az Γ ι H ds xs) (rv:Vals xs its):∃e:Value->Bool,(∀y,y∈its.toArray->EqAt A s y v (e y))/\its.toArray.any e=k:=by
 classical
 obtain⟨h1,h2⟩:=u9 h
 have key:∀(d:D) (w:V) (u:Value),d∈ds->Rep Γ ι H d w->RelV w u->∀(d':D) (w':V),Rep Γ ι H d' w'->RelV w' u->d'=d:=λd w u _ r q d' w' r' q'=>by
  have e:w'=w:=q'.inj q;subst e;exact(Rep.inj hK I hS r' r)
 refine⟨λu=>decide (∃d w,d∈ds/\Rep Γ ι H d w/\RelV w u/\(eqD deep S d dx).getD false=true),λu hu'=>?_,?_⟩
 ·have hm:u∈its:=by simpa using hu'
  obtain⟨j,hj⟩:=ZH hm;obtain⟨w,hw,q⟩:=Paired.get' rv hj;obtain⟨d,hd,r⟩:=Paired.get' p hw;have hd':=ZB hd;have e:=(mP hK I hS deep A d dx _ w x u v (h1 d hd') r r1 q rx hu).2
  have:decide (∃d w,d∈ds/\Rep Γ ι H d w/\RelV w u/\(eqD deep S d dx).getD false=true)=(eqD deep S d dx).getD false:=by
   cases z:(eqD deep S d dx).getD false with
   | true=>exact Zj ⟨d,w,hd',r,q,z⟩
   | false =>
    refine Zs ?_;rintro⟨d',w',_,r',q',z'⟩;rw[key d w u hd' r q d' w' r' q',z] at z';cases z'
  show EqAt A s u v (decide (∃d w,d∈ds/\Rep Γ ι H d w/\RelV w u/\(eqD deep S d dx).getD false=true));rw[this]; exact e
 ·rw[h2];rw[X6];simp only[Array.any_eq_true',List.any_eq_true,XE];constructor
  ·rintro⟨u,hu',d,w,hd,r,q,z⟩;exact⟨d,hd,z⟩
  ·rintro⟨d,hd,z⟩;obtain⟨j,hj⟩:=ZH hd;obtain⟨w,hw,r⟩:=Paired.get p hj;obtain⟨u,hu',q⟩:=rv.get hw;exact⟨u,by simpa using ZB hu',d,w,hd,r,q,z⟩
theorem ja(d:D)(S:af):(∃ds,items d S=.ok ds S)\/items d S=.bad:=by
 cases d with
 | tup ds=>exact .inl ⟨ds,rfl⟩
 | fro ds=>exact .inl ⟨ds,rfl⟩
 | loc l =>
  rw[uY]
  cases listAt S l with
  | none=>exact .inr rfl
  | some ds=>exact .inl ⟨ds,rfl⟩
 | _=>exact .inr rfl
theorem Out.items{α:Type}{d:D}{f:List D->M α}{k:α->af->List Addr->Hp->Prop}(ho:Out Γ xw ι H ((EV.items d>>=f) S) k):∃ds,EV.items d S=.ok ds S/\Out Γ xw ι H (f ds S) k:=by
 rcases ja d S with⟨ds,e⟩|e
 ·rw[aq e] at ho; exact⟨ds,e,ho⟩
 ·rw[bh e] at ho; exact ho.elim
theorem Out.DF{α:Type}{o:Option α}{k:α->af->List Addr->Hp->Prop}(ho:Out Γ xw ι H (EV.opt o S) k):∃a,o=some a/\Out Γ xw ι H (.ok a S) k:=by
 cases o with
 | none=>exact ho.elim
 | some a=>exact⟨a,rfl,ho⟩
theorem vA{neg:Bool}{a b:D}{k:D->af->List Addr->Hp->Prop}(ho:Out Γ xw ι H (inM neg a b S) k):∃ds c,items b S=.ok ds S/\inL S a ds=some c/\Out Γ xw ι H (.ok (.bl (c != neg)) S) k:=by
 obtain⟨ds,e,ho⟩:=Out.items ho;unfold inA at ho
 cases q:inL S a ds with
 | none=>rw[q] at ho; exact ho.elim
 | some c=>rw[q] at ho; exact⟨ds,c,e,q,ho⟩
theorem cG(hS:av Γ ι H S){d:D}{v:V}{ds:WV}{S':af}(r:Rep Γ ι H d v)(h:items d S=.ok ds S'):S'=S/\∃a xs,v=.ref a/\(SqL Γ.K H a xs\/SqT Γ.K H a xs)/\az Γ ι H ds xs/\(∀l,d=.loc l->SqL Γ.K H a xs):=by
 cases d with
 | tup es=>cases h; obtain⟨a,xs,e,t,p⟩:=r.bJ; exact⟨rfl,a,xs,e,.inr t,p,λl e=>by cases e⟩
 | fro es=>cases h; obtain⟨a,xs,e,f,p⟩:=r.fF; exact⟨rfl,a,xs,e,.inl f.sq,p,λl e=>by cases e⟩
 | loc l =>
  have h':(match listAt S l with|some ds=>Res.ok ds S|none=>.bad)=.ok ds S':=h
  cases q:listAt S l with
  | none=>rw[q] at h'; cases h'
  | some es =>
   rw[q] at h';cases h';obtain⟨a,xs,e,t,p⟩:=hS.list r (show asL S (.loc l)=some ds from q);exact⟨rfl,a,xs,e,.inl t,p,λ_ _=>t⟩
 | _=>cases h
theorem GX(hK:Γ.K=X.K)(hu:X.A.units+64<cLine):OpR X (compareOp .In) (bg Γ xw (inM false)):=by
 intro pins s σ H x y v u Q I rx ry h;obtain⟨ι,S,dx,dy,hS,r1,r2,ho⟩:=h;obtain⟨ds,c,h1,h2,ho⟩:=vA ho;have fin:Q (.bl c) H:=by have:=Out.val ho hS (.bl _); simpa using this
 obtain⟨_,a,xs,rfl,sq,p,_⟩:=cG hS r2 h1;cases ry;rw[hK] at sq;rcases sq with sq|sq
 ·obtain⟨its,rv,pl,_⟩:=I.list sq;obtain⟨e,he,hk⟩:=jf hK I hS (A:=X.A.in1) (by show X.A.units+1+12<cLine; omega) r1 rx h2 p rv;exact SeqAt.in_listAt e pl.isList he (by rw[hk]; exact⟨.bl c,H,I,rfl,fin⟩)
 ·obtain⟨its,rv,pl,_⟩:=I.tuple sq;obtain⟨e,he,hk⟩:=jf hK I hS (A:=X.A.in1) (by show X.A.units+1+12<cLine; omega) r1 rx h2 p rv;exact SeqAt.in_tupleAt e pl he (by rw[hk]; exact⟨.bl c,H,I,rfl,fin⟩)
theorem Es(hK:Γ.K=X.K)(hu:X.A.units+64<cLine):OpR X (compareOp .NotIn) (bg Γ xw (inM true)):=by
 intro pins s σ H x y v u Q I rx ry h;obtain⟨ι,S,dx,dy,hS,r1,r2,ho⟩:=h;obtain⟨ds,c,h1,h2,ho⟩:=vA ho;have fin:Q (.bl (!c)) H:=by have:=Out.val ho hS (.bl _); simpa using this
 obtain⟨_,a,xs,rfl,sq,p,_⟩:=cG hS r2 h1;cases ry;rw[hK] at sq;rcases sq with sq|sq
 ·obtain⟨its,rv,pl,_⟩:=I.list sq;obtain⟨e,he,hk⟩:=jf hK I hS (A:=X.A.in1) (by show X.A.units+1+12<cLine; omega) r1 rx h2 p rv;exact SeqAt.notIn_listAt e pl.isList he (by rw[hk]; exact⟨.bl (!c),H,I,rfl,fin⟩)
 ·obtain⟨its,rv,pl,_⟩:=I.tuple sq;obtain⟨e,he,hk⟩:=jf hK I hS (A:=X.A.in1) (by show X.A.units+1+12<cLine; omega) r1 rx h2 p rv;exact SeqAt.notIn_tupleAt e pl he (by rw[hk]; exact⟨.bl (!c),H,I,rfl,fin⟩)
theorem Dr(hK:Γ.K=X.K):vE X (λx H Q=>∃ι S d,av Γ ι H S/\Rep Γ ι H d x/\Out Γ xw ι H (truth d S) λb _ _ H'=>Q b H'):=by
 intro pins s σ H x v Q I rx h;obtain⟨ι,S,d,hS,r,ho⟩:=h;refine Cn pins s σ H x v Q I rx ?_
 cases d with
 | bl b=>cases r; exact⟨b,rfl,ho.here hS⟩
 | non=>cases r; exact⟨false,rfl,ho.here hS⟩
 | int i=>cases r; exact⟨_,rfl,ho.here hS⟩
 | tup ds =>
  obtain⟨a,xs,rfl,t,p⟩:=r.bJ;rw[hK] at t;refine⟨!ds.isEmpty,.inr (.inl ⟨xs,t,?_⟩),ho.here hS⟩;cases p<;>rfl
 | fro ds =>
  obtain⟨a,xs,rfl,t,p⟩:=r.fF;have t:=t.sq;rw[hK] at t;refine⟨!ds.isEmpty,.inl ⟨xs,t,?_⟩,ho.here hS⟩;cases p<;>rfl
 | loc l =>
  obtain⟨ds,q,ho'⟩:=Out.items ho;obtain⟨_,a,xs,rfl,_,p,t⟩:=cG hS r q
  ·have t:=t l rfl;rw[hK] at t;refine⟨!ds.isEmpty,.inl ⟨xs,t,?_⟩,ho'.here hS⟩;cases p<;>rfl
 | _=>exact ho.elim
theorem GB{ds:WV}{xs:WT}{i:Int}{d:D}(p:az Γ ι H ds xs)(h:EV.atI ds i=some d):∃v,L2.atI xs i=some v/\Rep Γ ι H d v:=by
 unfold EV.atI at h
 cases e:EV.ixN ds.length i with
 | none=>rw[e] at h; cases h
 | some j =>
  rw[e] at h;obtain⟨v,hv,r⟩:=Paired.get p h;refine⟨v,?_,r⟩;have e':L2.ixN xs.length i=some j:=by rw[<- p.length]; exact e
  unfold L2.atI;rw[e'];exact hv
theorem E4(hK:Γ.K=X.K):IxR X (bg Γ xw ixD):=by
 intro value slice pins s σ H x y v u Q I rx ry h hsub;obtain⟨ι,S,dx,dy,hS,r1,r2,ho⟩:=h
 cases dy with
 | int j =>
  cases r2;obtain⟨ds,q,ho'⟩:=Out.items ho;obtain⟨d,q2,ho'⟩:=Out.DF ho';obtain⟨_,a,xs,rfl,sq,p,_⟩:=cG hS r1 q
  ·rw[hK] at sq
   ·obtain⟨w,hw,rw'⟩:=GB p q2;have fin:=Out.val ho' hS rw';rcases sq with sq|sq
    ·exact wM value slice pins s σ H _ _ v u Q I rx ry ⟨a,xs,j,w,rfl,rfl,sq,hw,fin⟩ hsub
    ·exact HR value slice pins s σ H _ _ v u Q I rx ry ⟨a,xs,j,w,rfl,rfl,sq,hw,fin⟩ hsub
 | _=>exact ho.elim
theorem DG:SlR X (λx lo hi H Q=>∃a xs,x=.ref a/\SqT X.K H a xs/\(HT.sIx xs.length 0 lo=0/\HT.sIx xs.length xs.length hi=xs.length)/\Q (.ref a) H):=by
 intro pins s σ H x v vl vu lo hi sl Q I rx hs pl pu h;obtain⟨a,xs,rfl,hx,hw,q⟩:=h;cases rx;obtain⟨its,r,ht,hz⟩:=I.tuple hx;have hlen:its.toArray.size=xs.length:=by rw[Zh]; exact r.length.symm
 exact⟨"tuple",_,PyProof.Rows.slot_tuple_getitem.lookup,ht.typeIs,HT.Bv ht hs pl pu (by rw[hlen]; exact hw) ⟨.ref a,H,I,rfl,q⟩⟩
theorem nJ{ds:WV}{xs:WT}(p:az Γ ι H ds xs)(lo hi:Option Int):az Γ ι H (cut ds lo hi) (dH xs lo hi):=by
 have e:∀n d o,EV.sIx n d o=HT.sIx n d o:=λn d o=>by cases o<;>rfl
 unfold cut dH;rw[e,e,p.length];exact Paired.tak _ (Paired.drp _ p)
theorem GL(hK:Γ.K=X.K):SlR X (λx lo hi H Q=>∃ι S d,av Γ ι H S/\Rep Γ ι H d x/\Out Γ xw ι H (slD d lo hi S) λd _ ι' H'=>∀v,Rep Γ ι' H' d v->Q v H'):=by
 intro pins s σ H x v vl vu lo hi sl Q I rx hs pl pu h;obtain⟨ι,S,d,hS,r,ho⟩:=h
 cases d with
 | tup ds =>
  obtain⟨a,xs,rfl,t,p⟩:=r.bJ;rw[hK] at t;have pc:=nJ p lo hi
  by_cases hw:HT.sIx xs.length 0 lo=0/\HT.sIx xs.length xs.length hi=xs.length
  ·have e:dH xs lo hi=xs:=by unfold dH; rw[hw.1,hw.2]; simp
   have e2:cut ds lo hi=ds:=by
    have es:∀n d o,EV.sIx n d o=HT.sIx n d o:=λn d o=>by cases o<;>rfl
    unfold cut;rw[es,es,p.length,hw.1,hw.2,<- p.length]; simp
   refine DG pins s σ H _ v vl vu lo hi sl Q I rx hs pl pu ⟨a,xs,rfl,t,hw,Out.val ho hS (by rw[e2]; exact r)⟩
  ·exact DM pins s σ H _ v vl vu lo hi sl Q I rx hs pl pu ⟨a,xs,rfl,t,hw,λq hq=>Out.tup ho hS hq pc⟩
 | fro ds =>
  obtain⟨a,xs,rfl,t,p⟩:=r.fF;have t:=t.sq;rw[hK] at t;exact tO pins s σ H _ v vl vu lo hi sl Q I rx hs pl pu ⟨a,xs,rfl,t,λq hq=>Out.alloc ho hS hq (nJ p lo hi)⟩
 | loc l =>
  obtain⟨ds,q,ho'⟩:=Out.items ho;obtain⟨_,a,xs,rfl,_,p,t⟩:=cG hS r q
  ·have t:=t l rfl;rw[hK] at t;exact tO pins s σ H _ v vl vu lo hi sl Q I rx hs pl pu ⟨a,xs,rfl,t,λq hq=>Out.alloc ho' hS hq (nJ p lo hi)⟩
 | _=>exact ho.elim
end
end EV

namespace EV
open PySem PySem.Spec PyProof.Rows L2
theorem ints_map:∀{ds:WV} {is:WE},allInts ds=some is->ds=is.map D.int
 | [],is,h=>by cases h; rfl
 | d::r,is,h=>by
  cases d with
  | int i =>
   simp only[allInts,ZA] at h;obtain⟨js,e,rfl⟩:=h;rw[ints_map e]; rfl
  | _=>cases h
theorem rM:∀{ds:WV} {is:List Bool},dh ds=some is->ds=is.map D.bl
 | [],is,h=>by cases h; rfl
 | d::r,is,h=>by
  cases d with
  | bl i =>
   simp only[dh,ZA] at h;obtain⟨js,e,rfl⟩:=h;rw[rM e]; rfl
  | _=>cases h
theorem k6{Γ:Gx}{ι:WL}{H:Hp}:∀{is:WE} {xs:WT},az Γ ι H (is.map D.int) xs->xs=is.map V.int
 | [],_,.nil=>rfl
 | i::r,_,.cons (b:=y) h t=>by
  cases h;rw[k6 t]; rfl
theorem wG{Γ:Gx}{ι:WL}{H:Hp}:∀{is:List Bool} {xs:WT},az Γ ι H (is.map D.bl) xs->xs=is.map V.bl
 | [],_,.nil=>rfl
 | i::r,_,.cons (b:=y) h t=>by
  cases h;rw[wG t]; rfl
theorem mK{Γ:Gx}{ι:WL}{H:Hp}:∀(is:WE),az Γ ι H (is.map D.int) (is.map V.int)
 | []=>.nil
 | i::r=>.cons (.int i) (mK r)
theorem vY:∀t:List Int,allInts (t.map D.int)=some t
 | []=>rfl
 | a::r=>by show(allInts (r.map D.int)).map (a :: ·)=_; rw[vY r]; rfl
theorem Rep.trk{Γ:Gx}{ι:WL}{H:Hp}{t:WE}{v:V}(r:Rep Γ ι H (.tup (t.map D.int)) v):∃c,v=.ref c/\H c=some (.tup (t.map V.int)):=by
 cases r with
 | tup h1 h2 h3 h4=>exact⟨_,rfl,by rw[<- k6 (Paired.of_get h2 h3)]; exact h4 t (vY t)⟩
theorem range_all(bs:List Bool):(List.range bs.length).all (λi=>bs.getD i false)=bs.all id:=by
 rw[X6,Z7,Z7];constructor
 ·intro h b hb;obtain⟨i,e⟩:=ZH hb;have:=h i (by rw[ZZ]; exact(Zf.mp e).1);rw[Zu,e] at this;exact this
 ·intro h i hi;rw[ZZ] at hi;rw[Zu,Zb hi];exact h _ (Xr hi)
theorem qM:∀(r:WE) (i:Int),i<=r.foldl max i/\∀a∈r,a<=r.foldl max i
 | [],i=>⟨Int.le_refl _,λa h=>absurd h (by simp)⟩
 | b::r,i=>by
  obtain⟨h1,h2⟩:=qM r (max i b);simp only[Q9];refine⟨by omega,λa ha=>?_⟩;rcases Zm.mp ha with rfl|ha
  ·omega
  ·exact h2 a ha
theorem vd:∀(r:WE) (i:Int),r.foldl max i=i\/r.foldl max i∈r
 | [],i=>.inl rfl
 | b::r,i=>by
  simp only[Q9];rcases vd r (max i b) with h|h
  ·rw[h]
   by_cases hb:b<=i
   ·exact .inl (by omega)
   ·exact .inr (by rw[show max i b=b by omega]; exact Zp)
  ·exact .inr (Zr _ h)
section
variable{X:Cx}{Γ:Gx}{xw:XW}{pins:WD}{σ:L2.St}{H:Hp}{s:WI}{ι:WL}{S:af}{sub:Sub}
theorem kh{b:Bi}{xs:WT}{Q:VK}(hb:b.isR=false)(hb2:∀a c S,bi2 b a c S=.bad)(h:dN Γ xw (biD sub b) xs H Q) :
  ∃ι S a x,xs=[x]/\av Γ ι H S/\Rep Γ ι H a x/\Out Γ xw ι H (bi1 sub b a S) λd _ ι' H'=>∀v,Rep Γ ι' H' d v->Q v H':=by
 obtain⟨ι,S,ds,hS,r,ho⟩:=h;unfold biD at ho;rw[hb] at ho
 match ds,r with
 | [],.nil=>exact ho.elim
 | [a],.cons (b:=x) ra .nil=>exact⟨ι,S,a,x,rfl,hS,ra,ho⟩
 | [a,c],_ =>
  have ho':Out Γ xw ι H (bi2 b a c S) _:=ho;rw[hb2] at ho';exact ho'.elim
 | _::_::_::_,_=>exact ho.elim
theorem sd(hK:Γ.K=X.K)(I:Inv X pins σ H s){a:Addr}{xs:WT}(sq:SqL Γ.K H a xs\/SqT Γ.K H a xs):∃its:List Value,Vals xs its/\∀(A:Around) (E:WC) (Q:WC),A.handled=none ->
  (∀(I0:Addr) (fp:WL) (St:Nat->Heap->Prop) (s2:WI),Walks X.prog X.w A I0 fp [I0] its.toArray.size (λi v=>its.toArray[i]?=some v) St->St 0 s2.heap->(∀b∈fp,b<s2.heap.objs.size) ->
   (∀h' tk,(∀b o,b ∉ [I0]->s2.heap.get? b=some o->h'.get? b=some o)->Inv X pins σ H { s2 with heap:=h',toks:=tk })->Q (.ref I0) s2)->wpAny (model X.prog X.w) A (pyIter (.ref a)) Q E s:=by
 rw[hK] at sq;rcases sq with sq|sq
 ·obtain⟨its,rv,pl,_⟩:=I.list sq;refine⟨its,rv,λA E Q hh hQ=>QV pl.isList ?_⟩;obtain⟨o,ho,_⟩:=id pl.isList;have hlt:=Zo ho;refine hQ s.heap.objs.size _ _ _ (Walks.list hh _ a (ZC hlt) its.toArray) ⟨⟨_,Zy _ rfl,rfl,rfl⟩,pl.isList.at λo e=>Zc _ e⟩ (λb hb=>?_) λh' tk hk=>?_
  ·rw[Z2];rcases Zm.mp hb with rfl|hb
   ·exact X0 _
   ·have:b=a:=by simpa using hb
    subst this; exact XV hlt
  ·exact I.kept λb u e=>hk b u (by simpa using ZC (Zo e)) (Zc _ e)
 ·obtain⟨its,rv,pl,_⟩:=I.tuple sq;refine⟨its,rv,λA E Q hh hQ=>X4 (show s.heap.IsTuple a its.toArray from pl) ?_⟩;obtain⟨o,ho,hc,hd⟩:=id pl;have hlt:=Zo ho;refine hQ s.heap.objs.size _ _ _ (Walks.tuple hh _ a (ZC hlt) its.toArray) ⟨⟨_,Zy _ rfl,rfl,rfl⟩,⟨o,Zc _ ho,hc,hd⟩⟩ (λb hb=>?_) λh' tk hk=>?_
  ·rw[Z2];rcases Zm.mp hb with rfl|hb
   ·exact X0 _
   ·have:b=a:=by simpa using hb
    subst this; exact XV hlt
  ·exact I.kept λb u e=>hk b u (by simpa using ZC (Zo e)) (Zc _ e)
theorem wV{is:WE}{its:WH}(rv:Vals (is.map V.int) its){i:Nat}{v:Value}(h:its.toArray[i]?=some v):∃t,v=.int (is.getD i 0) t:=by
 have h':its[i]?=some v:=by simpa using h
 obtain⟨x,hx,r⟩:=Paired.get' rv h';rw[ZJ,ZA] at hx;obtain⟨j,hj,rfl⟩:=hx;obtain⟨t,rfl⟩:=r;exact⟨t,by rw[Zu,hj]; rfl⟩
theorem zK{is:List Bool}{its:WH}(rv:Vals (is.map V.bl) its){i:Nat}{v:Value}(h:its.toArray[i]?=some v):v=.bool (is.getD i false):=by
 have h':its[i]?=some v:=by simpa using h
 obtain⟨x,hx,r⟩:=Paired.get' rv h';rw[ZJ,ZA] at hx;obtain⟨j,hj,rfl⟩:=hx;cases r;rw[Zu,hj]; rfl
theorem Jt(hK:Γ.K=X.K):cA X (.builtin "len") (dN Γ xw (biD sub .len)):=by
 intro pins s σ H xs us Q I rs h;obtain⟨ι,S,a,x,rfl,hS,r,ho⟩:=kh rfl (λ_ _ _=>rfl) h;obtain⟨ds,q,ho⟩:=Out.items ho;obtain⟨_,p,ys,rfl,sq,rp,_⟩:=cG hS r q;rw[hK] at sq;refine CI pins s σ H _ us Q I rs ⟨p,ys,rfl,sq,?_⟩;rw[<- rp.length];exact Out.val ho hS (.int _)
theorem GZ(hK:Γ.K=X.K)(hc:X.calm=true):cA X (.builtin "all") (dN Γ xw (biD sub .all)):=by
 intro pins s σ H xs us Q I rs h;obtain⟨ι,S,a,x,rfl,hS,r,ho⟩:=kh rfl (λ_ _ _=>rfl) h;obtain⟨ds,q,ho⟩:=Out.items ho;obtain⟨bs,q2,ho⟩:=Out.opt ho;obtain⟨_,p,ys,rfl,sq,rp,_⟩:=cG hS r q;rw[rM q2] at rp;have e:=wG rp;subst e;obtain⟨u,rfl,ru⟩:=rs.one;cases ru;obtain⟨its,rv,wk⟩:=sd hK I sq;refine call_all_walk (wk X.A.in1 _ _ (I.ok.hd hc) λI0 fp St s2 W st fl inv=>⟨I0,fp,[I0],_,_,St,λi=>bs.getD i false,rfl,W,st,λi v s' Q' E' hv hq=>?_,λh' tk hk=>?_⟩)
 ·rw[zK rv hv]; exact Xd hq
 ·have hl:its.toArray.size=bs.length:=by rw[Zh,<- rv.length,Zi]
  rw[hl,range_all];exact⟨.bl _,H,inv h' tk hk,rfl,Out.val ho hS (.bl _)⟩
end
end EV

namespace EV
open PySem PySem.Spec PyProof.Rows L2
section
variable{X:Cx}{Γ:Gx}{xw:XW}{pins:WD}{σ:L2.St}{H:Hp}{s:WI}{ι:WL}{S:af}{sub:Sub}
theorem Ip{b:Bi}{xs:WT}{Q:VK}(hb:b.isR=false)(h:dN Γ xw (biD sub b) xs H Q) :
  (∃ι S a x,xs=[x]/\av Γ ι H S/\Rep Γ ι H a x/\Out Γ xw ι H (bi1 sub b a S) λd _ ι' H'=>∀v,Rep Γ ι' H' d v->Q v H') \/
  (∃ι S a c x y,xs=[x,y]/\av Γ ι H S/\Rep Γ ι H a x/\Rep Γ ι H c y/\Out Γ xw ι H (bi2 b a c S) λd _ ι' H'=>∀v,Rep Γ ι' H' d v->Q v H'):=by
 obtain⟨ι,S,ds,hS,r,ho⟩:=h;unfold biD at ho;rw[hb] at ho
 have hl:ds.length=1\/ds.length=2\/ds=[]\/∃a c e q,ds=a::c::e::q:=by
  rcases ds with _|⟨a,_|⟨c,_|⟨e,q⟩⟩⟩
  ·exact .inr (.inr (.inl rfl))
  ·exact .inl rfl
  ·exact .inr (.inl rfl)
  ·exact .inr (.inr (.inr ⟨_,_,_,_,rfl⟩))
 rcases hl with hl|hl|rfl|⟨_,_,_,_,rfl⟩
 ·obtain⟨a,_,x,_,rfl,rfl,ra,r,hl⟩:=Paired.step r hl;obtain⟨rfl,rfl⟩:=Paired.last r hl;exact .inl ⟨ι,S,a,x,rfl,hS,ra,ho⟩
 ·obtain⟨a,_,x,_,rfl,rfl,ra,r,hl⟩:=Paired.step r hl;obtain⟨c,_,y,_,rfl,rfl,rc,r,hl⟩:=Paired.step r hl;obtain⟨rfl,rfl⟩:=Paired.last r hl;exact .inr ⟨ι,S,a,c,x,y,rfl,hS,ra,rc,ho⟩
 ·exact ho.elim
 ·exact ho.elim
theorem Ff{is:WE}{i:Int}{r:WE}(h:is=i::r){M:Int}(hm:M∈is)(hle:∀a∈is,a<=M):M=r.foldl max i:=by
 subst h;obtain⟨h1,h2⟩:=qM r i
 have e1:M<=r.foldl max i:=by
  rcases Zm.mp hm with rfl|hm
  ·exact h1
  ·exact h2 M hm
 have e2:r.foldl max i<=M:=by
  rcases vd r i with h|h
  ·rw[h]; exact hle i Zp
  ·exact hle _ (Zr _ h)
 omega
theorem getD_in{is:WE}{j:Nat}(h:j<is.length):is.getD j 0∈is:=by
 rw[Zu,Zb h];exact Xr h
theorem Ew(hK:Γ.K=X.K)(hc:X.calm=true):cA X (.builtin "max") (dN Γ xw (biD sub .max)):=by
 intro pins s σ H xs us Q I rs h;rcases Ip rfl h with⟨ι,S,a,x,rfl,hS,r,ho⟩|⟨ι,S,a,c,x,y,rfl,hS,r1,r2,ho⟩
 ·obtain⟨ds,q,ho⟩:=Out.items ho;obtain⟨is,q2,ho⟩:=Out.opt ho;obtain⟨_,p,ys,rfl,sq,rp,_⟩:=cG hS r q;rw[ints_map q2] at rp;have e:=k6 rp;subst e;obtain⟨u,rfl,ru⟩:=rs.one;cases ru
  cases hi:is with
  | nil=>rw[hi] at ho; exact ho.elim
  | cons i0 r0 =>
   rw[hi] at ho;have fin:Q (.int (r0.foldl max i0)) H:=Out.val ho hS (.int _);obtain⟨its,rv,wk⟩:=sd hK I sq;have hl:its.toArray.size=is.length:=by rw[Zh,<- rv.length,Zi]
   refine call_max_walk (wk X.A.in1 _ _ (I.ok.hd hc) λI0 fp St s2 W st fl inv=>⟨I0,fp,[I0],_,_,St,λi j=>decide (is.getD i 0>is.getD j 0),rfl,W,st,fl,by rw[hl,hi]; simp,CmpOf.ints_gt (λi=>is.getD i 0) λi v hv=>wV rv hv,λv h' tk hv hk=>?_⟩);obtain⟨t,rfl⟩:=wV rv hv;obtain⟨h1,h2⟩:=argBest_gt (λi=>is.getD i 0) (its.toArray.size-1);have hpos:0<is.length:=by rw[hi]; simp
   have e:is.getD (argBest (λi j=>decide (is.getD i 0>is.getD j 0)) (its.toArray.size-1)) 0=r0.foldl max i0:=Ff hi (getD_in (by omega)) λb hb=>by
    obtain⟨j,ej⟩:=ZH hb;have hj:=(Zf.mp ej).1;have:=h2 j (by omega);rw[show is.getD j 0=b by rw[Zu,ej]; rfl] at this;exact this
   rw[e];exact⟨.int _,H,inv h' tk hk,⟨_,rfl⟩,fin⟩
 ·cases a with
  | int i =>
   cases c with
   | int j=>cases r1; cases r2; exact Gu hc pins s σ H _ us Q I rs ⟨i,j,rfl,Out.val ho hS (.int _)⟩
   | _=>exact ho.elim
  | _=>exact ho.elim
theorem Ik(hS:av Γ ι H S){d:D}{v:V}{ds:WV}{S':af}(r:Rep Γ ι H d v)(h:cz d S=.ok ds S'):S'=S/\∃a xs,v=.ref a/\SqL Γ.K H a xs/\az Γ ι H ds xs:=by
 cases d with
 | fro es=>cases h; obtain⟨a,xs,e,f,p⟩:=r.fF; exact⟨rfl,a,xs,e,f.sq,p⟩
 | loc l=>obtain⟨e,a,xs,e2,_,p,t⟩:=cG hS r (show items (.loc l) S=.ok ds S' from h); exact⟨e,a,xs,e2,t l rfl,p⟩
 | _=>cases h
theorem CB(d:D)(S:af):(∃ds,cz d S=.ok ds S)\/cz d S=.bad:=by
 cases d with
 | fro ds=>exact .inl ⟨ds,rfl⟩
 | loc l=>exact ja (.loc l) S
 | _=>exact .inr rfl
theorem Out.cz{α:Type}{d:D}{f:List D->M α}{k:α->af->List Addr->Hp->Prop}(ho:Out Γ xw ι H ((EV.cz d>>=f) S) k):∃ds,EV.cz d S=.ok ds S/\Out Γ xw ι H (f ds S) k:=by
 rcases CB d S with⟨ds,e⟩|e
 ·rw[aq e] at ho; exact⟨ds,e,ho⟩
 ·rw[bh e] at ho; exact ho.elim
theorem EY(hK:Γ.K=X.K):cA X (.type "list") (dN Γ xw (biD sub .list)):=by
 intro pins s σ H xs us Q I rs h;obtain⟨ι,S,a,x,rfl,hS,r,ho⟩:=kh rfl (λ_ _ _=>rfl) h;obtain⟨ds,q,ho⟩:=Out.items ho;obtain⟨_,p,ys,rfl,sq,rp,_⟩:=cG hS r q;rw[hK] at sq;exact FT pins s σ H _ us Q I rs ⟨p,ys,rfl,sq,λl hl=>Out.alloc ho hS hl rp⟩
theorem DY(hK:Γ.K=X.K):cA X (.type "tuple") (dN Γ xw (biD sub .tuple)):=by
 intro pins s σ H xs us Q I rs h;obtain⟨ι,S,a,x,rfl,hS,r,ho⟩:=kh rfl (λ_ _ _=>rfl) h;obtain⟨ds,q,ho2⟩:=Out.items ho;have r0:=r;obtain⟨_,p,ys,rfl,sq,rp,hloc⟩:=cG hS r q;rw[hK] at sq
 cases a with
 | tup es =>
  cases q;obtain⟨b,xs,e,t,_⟩:=r0.bJ;cases e;rw[hK] at t;exact lz pins s σ H _ us Q I rs ⟨p,xs,rfl,.inr ⟨t,Out.val ho2 hS r0⟩⟩
 | fro es =>
  cases q;obtain⟨b,xs,e,t,rp2⟩:=r0.fF;cases e;have t:=t.sq;rw[hK] at t;exact lz pins s σ H _ us Q I rs ⟨p,xs,rfl,.inl ⟨t,λl hl=>Out.tup ho2 hS hl rp2⟩⟩
 | loc l =>
  have t:=hloc l rfl;rw[hK] at t;exact lz pins s σ H _ us Q I rs ⟨p,ys,rfl,.inl ⟨t,λl hl=>Out.tup ho2 hS hl rp⟩⟩
 | _=>cases q
noncomputable def Ty.name:Ty->Option String
 | .int=>some "int" | .bool=>some "bool" | .str=>some "str" | .list=>some "list" | .tuple=>some "tuple" | .dict=>some "dict" | .cls _=>none
theorem Hf(hK:Γ.K=X.K)(I:Inv X pins σ H s)(hS:av Γ ι H S){t:Ty}{T:String}(ht:t.name=some T){d:D}{x:V}{v:Value}(r:Rep Γ ι H d x)(rx:RelV x v){k:Bool}(h:bH sub S d t=some k){A:Around}{E:WC}{Q:WC}
  (hq:∀tk,Q (.bool k) { s with toks:=tk }):wpAny (model X.prog X.w) A (call (.builtin "isinstance") [v,.type T]) Q E s:=by
 have seqL:∀{a:Addr} {xs:WT},SqL X.K H a xs->∀{b:Bool},PySem.W.kitOne X.K (.type "list") (.type T)=some b->(∀tk,Q (.bool b) { s with toks:=tk })->wpAny (model X.prog X.w) A (call (.builtin "isinstance") [.ref a,.type T]) Q E s:=λ{a xs} sq {b} e hq=>by
  obtain⟨its,_,pl,_⟩:=I.list sq;obtain⟨o,h1,h2,_⟩:=pl.isList;exact X9 PySem.W.kitx_list I.kIn ⟨o,h1,h2⟩ e (λz=>nomatch z) hq
 have e0:∀{t:Ty} {T:String} {k:Bool},t.name=some T->bH sub S .non t=some k->PySem.W.kitOne X.K (.type "NoneType") (.type T)=some k:=λ{t T k} h1 h2=>by cases t<;>cases h1<;>cases h2<;>rfl
 have e1:∀{t:Ty} {T:String} {k b:Bool},t.name=some T->bH sub S (.bl b) t=some k->PySem.W.kitOne X.K (.type "bool") (.type T)=some k:=λ{t T k b} h1 h2=>by cases t<;>cases h1<;>cases h2<;>rfl
 have e2:∀{t:Ty} {T:String} {k:Bool} {b:Int},t.name=some T->bH sub S (.int b) t=some k->PySem.W.kitOne X.K (.type "int") (.type T)=some k:=λ{t T k b} h1 h2=>by cases t<;>cases h1<;>cases h2<;>rfl
 have e3:∀{t:Ty} {T:String} {k:Bool} {b:Str},t.name=some T->bH sub S (.str b) t=some k->PySem.W.kitOne X.K (.type "str") (.type T)=some k:=λ{t T k b} h1 h2=>by cases t<;>cases h1<;>cases h2<;>rfl
 have e4:∀{t:Ty} {T:String} {k:Bool} {b:WV},t.name=some T->bH sub S (.tup b) t=some k->PySem.W.kitOne X.K (.type "tuple") (.type T)=some k:=λ{t T k b} h1 h2=>by cases t<;>cases h1<;>cases h2<;>rfl
 have e5:∀{t:Ty} {T:String} {k:Bool} {b:WV},t.name=some T->bH sub S (.fro b) t=some k->PySem.W.kitOne X.K (.type "list") (.type T)=some k:=λ{t T k b} h1 h2=>by cases t<;>cases h1<;>cases h2<;>rfl
 cases d with
 | non=>cases r; cases rx; exact X9 PySem.W.kitx_none I.kIn True.intro (e0 ht h) (λz=>nomatch z) hq
 | bl b=>cases r; cases rx; exact X9 PySem.W.kitx_bool I.kIn True.intro (e1 ht h) (λz=>nomatch z) hq
 | int b=>cases r; obtain⟨tk,rfl⟩:=rx; exact X9 PySem.W.kitx_int I.kIn True.intro (e2 ht h) (λz=>nomatch z) hq
 | str b=>cases r; obtain⟨tk,rfl⟩:=rx; exact X9 PySem.W.kitx_str I.kIn True.intro (e3 ht h) (λz=>nomatch z) hq
 | tup ds =>
  obtain⟨a,xs,rfl,sq,_⟩:=r.bJ;cases rx;rw[hK] at sq;obtain⟨its,_,pl,_⟩:=I.tuple sq;obtain⟨o,h1,h2,_⟩:=pl;exact X9 PySem.W.kitx_tuple I.kIn ⟨o,h1,h2⟩ (e4 ht h) (λz=>nomatch z) hq
 | fro ds =>
  obtain⟨a,xs,rfl,sq,_⟩:=r.fF;cases rx;have sq:=sq.sq;rw[hK] at sq;exact seqL sq (e5 ht h) hq
 | loc l =>
  cases r with
  | loc ql =>
   cases rx
   have e6:∀{t:Ty} {T:String} {k:Bool},t.name=some T->bH sub S (.loc l) t=some k->(∃ds,S[l]?=some (.lst ds))/\PySem.W.kitOne X.K (.type "list") (.type T)=some k:=λ{t T k} h1 h2=>by
    simp only[bH] at h2
    cases q:S[l]? with
    | none=>rw[q] at h2; cases t<;>cases h1<;>cases h2
    | some c =>
     rw[q] at h2
     cases c with
     | lst ds=>exact⟨⟨ds,rfl⟩,by cases t<;>cases h1<;>cases h2<;>rfl⟩
     | _=>cases t<;>cases h1<;>cases h2
   obtain⟨⟨ds,q⟩,e⟩:=e6 ht h;obtain⟨a,xs,ha,hx,_⟩:=hS.lst q;rw[ql] at ha; cases ha;exact seqL (.of hx) e hq
 | exn c=>cases r
end
end EV

namespace ENM
open PySem PyProof.Rows
open AutoSeq1 (wpAny_loadPart')
section
variable{prog:WK}{w:WN}{A:Around}{E:WC}{s:WI}
theorem Bb{it t:Addr}{k:Nat}{us:WQ}{u:Value}{Q:WC}(hit:s.heap.IsTupleIter it t k)(ht:s.heap.IsTuple t us)(hu:us[k]?=some u)
  (fin:∀h',h'.IsTupleIter it t (k+1)->Heap.SameBut it s.heap h'->Q u { s with heap:=h' }):wpAny (model prog w) A (Builtin.SmallTypes.nextOf (.ref it)) Q E s:=by
 obtain⟨ob,hob,hcl,hda⟩:=id hit;obtain⟨ot,hot,_,nt,hdt⟩:=ht;unfold Builtin.SmallTypes.nextOf;refine Za (ZY (name:=Str.ofString "__next__") hit.typeIs Qc (Z4 Qc hit.typeIs F.entry_tuple_iterator_next ?_ (F.args_tuple_iterator_next_1 _)));show wpAny _ _ (field (.ref it) 0>>=_) _ _ s;refine Za (ZW hob hda (x:=.ref t) rfl ?_);show wpAny _ _ (if(Value.ref t==Value.none)=true then _ else _) _ _ s;rw[Zg (show ¬((Value.ref t==Value.none)=true) from Zx)];show wpAny _ _ (field (.ref it) 1>>=_) _ _ s;refine Za (ZW hob hda (x:=.int k 0) rfl ?_);show wpAny _ _ (seqItems? (.ref t)>>=_) _ _ s;refine Za (XC hot hdt ?_);simp only[ZL,hu];refine Za (QS hob hda (by simp) (Zd ⟨u,rfl,Zd (fin _ ?_ (XJ ..))⟩));refine⟨_,Xv _ hob (Obj.isFreed_of_fields (Obj.data_mapFields hda _)),(Obj.cls_mapFields ..).trans hcl,?_⟩;rw[Obj.data_mapFields hda];simp[rawInt]
theorem Eu{it t:Addr}{k:Nat}{us:WQ}{Q:WC}(calm:A.handled=none)(hit:s.heap.IsTupleIter it t k)(ht:s.heap.IsTuple t us)(hu:us[k]?=none)
  (fin:∀h' e,Heap.ExtBut it s.heap h'->(∃o,h'.get? e=some o/\o.cls=.type "StopIteration")->E (.ref e) { s with heap:=h' }):wpAny (model prog w) A (Builtin.SmallTypes.nextOf (.ref it)) Q E s:=by
 obtain⟨ob,hob,hcl,hda⟩:=id hit;obtain⟨ot,hot,_,nt,hdt⟩:=ht;unfold Builtin.SmallTypes.nextOf;refine Za (ZY (name:=Str.ofString "__next__") hit.typeIs Qc (Z4 Qc hit.typeIs F.entry_tuple_iterator_next ?_ (F.args_tuple_iterator_next_1 _)));show wpAny _ _ (field (.ref it) 0>>=_) _ _ s;refine Za (ZW hob hda (x:=.ref t) rfl ?_);show wpAny _ _ (if(Value.ref t==Value.none)=true then _ else _) _ _ s;rw[Zg (show ¬((Value.ref t==Value.none)=true) from Zx)];show wpAny _ _ (field (.ref it) 1>>=_) _ _ s;refine Za (ZW hob hda (x:=.int k 0) rfl ?_);show wpAny _ _ (seqItems? (.ref t)>>=_) _ _ s;refine Za (XC hot hdt ?_);simp only[ZL,hu];refine Za (X2 (Za (QS hob hda (by simp) ?_)));show wpAny _ _ (newExc (.type "StopIteration") []>>=_) _ _ _;refine Za ?_;simp only[newExc,newTuple];refine Za (Xe ?_ (by size_fits));refine Za (m:=firstArgMember _ _) (Qt (a:=Value.none) (by first|rfl|(simp only[firstArgMember]; rfl)) ?_);refine Xe ?_ (by size_fits);simp only[raiseNew];refine Za (wpAny_handled ?_);first|rw[show A.in1.handled=none from calm]|rw[calm]
 refine Za (Zd (wpAny_throw ?_));exact fin _ _ (((XJ ..).extBut.push _).push _) ⟨_,Zy _ rfl,rfl⟩
def Inn(tup:Bool)(h:Heap)(it a:Addr)(k:Nat):Prop:=match tup with
 | true=>h.IsTupleIter it a k
 | false=>h.IsListIter it a k
def Seq(tup:Bool)(h:Heap)(a:Addr)(us:WQ):Prop:=match tup with
 | true=>h.IsTuple a us
 | false=>h.IsList a us
theorem Inn.keep{tup:Bool}{h h':Heap}{it a:Addr}{k:Nat}(x:Inn tup h it a k)(e:∀o,h.get? it=some o->h'.get? it=some o):Inn tup h' it a k:=by
 cases tup with
 | true=>obtain⟨o,ho,r⟩:=(show h.IsTupleIter it a k from x); exact⟨o,e _ ho,r⟩
 | false=>obtain⟨o,ho,r⟩:=(show h.IsListIter it a k from x); exact⟨o,e _ ho,r⟩
theorem Inn.there{tup:Bool}{h:Heap}{it a:Addr}{k:Nat}(x:Inn tup h it a k):∃o,h.get? it=some o/\∀v,o.data≠.cell v:=by
 cases tup with
 | true=>obtain⟨o,ho,_,hd⟩:=(show h.IsTupleIter it a k from x); exact⟨o,ho,λv z=>by rw[hd] at z; cases z⟩
 | false=>obtain⟨o,ho,_,hd⟩:=(show h.IsListIter it a k from x); exact⟨o,ho,λv z=>by rw[hd] at z; cases z⟩
theorem kH{tup:Bool}{it a:Addr}{k:Nat}{us:WQ}{u:Value}{Q:WC}(hit:Inn tup s.heap it a k)(hs:Seq tup s.heap a us)(hu:us[k]?=some u)
  (fin:∀h',Inn tup h' it a (k+1)->Heap.SameBut it s.heap h'->Q u { s with heap:=h' }):wpAny (model prog w) A (Builtin.SmallTypes.nextOf (.ref it)) Q E s:=by
 cases tup with
 | true=>exact Bb hit hs hu fin
 | false=>exact wpAny_nextOf_list_item hit hs hu fin
theorem o6{tup:Bool}{it a:Addr}{k:Nat}{us:WQ}{Q:WC}(calm:A.handled=none)(hit:Inn tup s.heap it a k)(hs:Seq tup s.heap a us)(hu:us[k]?=none)
  (fin:∀h' e,Heap.ExtBut it s.heap h'->(∃o,h'.get? e=some o/\o.cls=.type "StopIteration")->E (.ref e) { s with heap:=h' }):wpAny (model prog w) A (Builtin.SmallTypes.nextOf (.ref it)) Q E s:=by
 cases tup with
 | true=>exact Eu calm hit hs hu fin
 | false=>exact wpAny_nextOf_list_end calm hit hs hu fin
theorem xY{tup:Bool}{en it a:Addr}{k:Nat}{us:WQ}{u old:Value}{Q:Option Value->Shared->Prop}(he:IsEnum s.heap en it k old)(hit:Inn tup s.heap it a k)(hs:Seq tup s.heap a us)(hu:us[k]?=some u)(hne:en≠it)
  (fin:∀h',IsEnumOut h' en it ((k:Int)+1) u s.heap.objs.size->Inn tup h' it a (k+1)->h'.get? s.heap.objs.size=some { cls:=.type "tuple",data:=.seq #[.int k s.toks,u] }->h'.objs.size=s.heap.objs.size+1 ->
   (∀b o,b≠en->b≠it->s.heap.get? b=some o->h'.get? b=some o)->Q (some (.ref s.heap.objs.size)) { s with heap:=h',toks:=s.toks+1 }):wpAny (model prog w) A (pyNext (.ref en)) Q E s:=by
 have hT:s.TypeIs (.ref en) "enumerate":=⟨_,he,rfl⟩
 unfold pyNext;refine Za (XX (ZY (name:=Str.ofString "__next__") hT Qz (Z4 Qz hT F.entry_enumerate_next ?_ (F.args_enumerate_next_1 _))));obtain⟨hp,g,dr,tk,os⟩:=s;show wpAny _ _ (field (.ref en) 2>>=_) _ _ _;refine Za (ZW he rfl (x:=.ref it) rfl ?_);refine Za (kH hit hs hu λh1 hit1 sb1=>?_);replace sb1:Heap.SameBut it hp h1:=sb1;have he1:IsEnum h1 en it k old:=(sb1.2 en hne).trans he;show wpAny _ _ (field (.ref en) 3>>=_) _ _ ⟨h1,g,dr,tk,os⟩;refine Za (ZW he1 rfl (x:=rawInt k) rfl ?_);show wpAny _ _ (field (.ref en) 4>>=_) _ _ ⟨h1,g,dr,tk,os⟩;refine Za (ZW he1 rfl (x:=.none) rfl ?_);show wpAny _ _ (mkInt k>>=_) _ _ ⟨h1,g,dr,tk,os⟩;refine Za (wpAny_mkInt ?_);show wpAny _ _ (setField (.ref en) 3 (rawInt ((k:Int)+1))>>=_) _ _ ⟨h1,g,dr,tk+1,os⟩;refine Za (Z5 he1 (by simp) λh2 he2 sb2=>?_);replace sb2:Heap.SameBut en h1 h2:=sb2;replace he2:IsEnum h2 en it ((k:Int)+1) old:=he2;show wpAny _ _ (setField (.ref en) 4 .none>>=_) _ _ ⟨h2,g,dr,tk+1,os⟩;refine Za (Z5 he2 (by simp) λh3 he3 sb3=>?_);replace sb3:Heap.SameBut en h2 h3:=sb3;replace he3:IsEnum h3 en it ((k:Int)+1) old:=he3;show wpAny _ _ (newTuple [.int k tk,u]>>=_) _ _ ⟨h3,g,dr,tk+1,os⟩;refine Za (wpAny_newTuple ?_);have he4:IsEnum (h3.push { cls:=.type "tuple",data:=.seq #[.int k tk,u] }) en it ((k:Int)+1) old:=Zc _ he3;generalize eh4:h3.push { cls:=.type "tuple",data:=.seq #[.int k tk,u] }=h4 at he4;have sz3:h3.objs.size=hp.objs.size:=by rw[sb3.1,sb2.1,sb1.1]
 have enlt:en<hp.objs.size:=Zo he;have tp4:h4.get? hp.objs.size=some { cls:=.type "tuple",data:=.seq #[.int k tk,u] }:=by rw[<- eh4,<- sz3]; exact Zy _ rfl
 have sz4:h4.objs.size=hp.objs.size+1:=by rw[<- eh4,Z2,sz3]
 have kp4:∀b o,b≠en->b≠it->hp.get? b=some o->h4.get? b=some o:=λb o hbe hbi hb=>by
  rw[<- eh4]; exact Zc _ (sb3.extBut b o hbe (sb2.extBut b o hbe (sb1.extBut b o hbi hb)))
 have hit4:Inn tup h4 it a (k+1):=hit1.keep λo e=>by
  rw[<- eh4]; exact Zc _ (sb3.extBut _ o (Ne.symm hne) (sb2.extBut _ o (Ne.symm hne) e))
 show wpAny _ _ (Builtin.SmallTypes.ownedTupleIsFree (.ref en)>>=_) _ _ ⟨h4,g,dr,tk+1,os⟩;rw[sz3];clear eh4 he3 sb3 he2 sb2 he1 sb1 hit1 sz3 h3 h2 h1;refine Za ?_;unfold Builtin.SmallTypes.ownedTupleIsFree;refine Za (ZW he4 rfl (x:=.none) rfl (Zd ?_));simp only[Xa];refine Za (X2 ?_);refine Za (ZW he4 rfl (x:=old) rfl ?_);refine Za (Z5 he4 (by simp) λh5 he5 sb5=>?_);replace sb5:Heap.SameBut en h4 h5:=sb5;replace he5:IsEnum h5 en it ((k:Int)+1) u:=he5;show wpAny _ _ (Builtin.SmallTypes.ownedTupleHandOut (.ref en) (.ref hp.objs.size)>>=_) _ _ ⟨h5,g,dr,tk+1,os⟩;refine Za ?_;unfold Builtin.SmallTypes.ownedTupleHandOut;refine Za (Z5 he5 (by simp) λh6 he6 sb6=>?_);replace sb6:Heap.SameBut en h5 h6:=sb6;replace he6:IsEnumOut h6 en it ((k:Int)+1) u hp.objs.size:=he6;refine Z5 he6 (by simp) λh7 he7 sb7=>?_
 replace sb7:Heap.SameBut en h6 h7:=sb7;replace he7:IsEnumOut h7 en it ((k:Int)+1) u hp.objs.size:=he7;have up:∀b o,b≠en->h4.get? b=some o->h7.get? b=some o:=λb o hbe hb=>sb7.extBut b o hbe (sb6.extBut b o hbe (sb5.extBut b o hbe hb))
 refine Za (wpAny_letGo (Zd ⟨_,rfl,Zd (fin h7 he7 (hit4.keep λo e=>up _ o (Ne.symm hne) e) (up _ _ (Xw enlt) tp4) ?_ λb o hbe hbi hb=>up b o hbe (kp4 b o hbe hbi hb))⟩));rw[sb7.1,sb6.1,sb5.1,sz4]
theorem AY{tup:Bool}{en it a:Addr}{k:Nat}{us:WQ}{old:Value}{Q:Option Value->Shared->Prop}(calm:A.handled=none)(he:IsEnum s.heap en it k old)(hit:Inn tup s.heap it a k)(hs:Seq tup s.heap a us)(hu:us[k]?=none)
  (fin:∀h',Heap.ExtBut it s.heap h'->Q none { s with heap:=h' }):wpAny (model prog w) A (pyNext (.ref en)) Q E s:=by
 have hT:s.TypeIs (.ref en) "enumerate":=⟨_,he,rfl⟩
 unfold pyNext;refine Za (XX (ZY (name:=Str.ofString "__next__") hT Qz (Z4 Qz hT F.entry_enumerate_next ?_ (F.args_enumerate_next_1 _))));show wpAny _ _ (field (.ref en) 2>>=_) _ _ _;refine Za (ZW he rfl (x:=.ref it) rfl ?_);refine Za (o6 calm hit hs hu λh' x ext hx=>?_);obtain⟨o,ho,hc⟩:=hx;refine Za (Q1 (T:="StopIteration") (b:=true) ⟨o,ho,hc⟩ isSubtype_stop ?_);exact Zd (fin _ ext)
theorem A4(t:Addr)(us:WQ)(n:Nat)(dd:Option Addr)(sl:Array (Option Value)) :
  Meets (Builtin.«enumerate.__new__» ⟨[.type "enumerate",.ref t],[]⟩) (λ_ R s=>s.heap.get? t=some { cls:=.type "tuple",dict:=dd,data:=.seq us n,slots:=sl } /\
   R (.ok (.ret (.ref (s.heap.push { cls:=.type "tuple_iterator",data:=.fields #[.ref t,.int 0 0] }).objs.size)))
    { s with heap:=(s.heap.push { cls:=.type "tuple_iterator",data:=.fields #[.ref t,.int 0 0] }).push { cls:=.type "enumerate",data:=.fields #[.none,.bool false,.ref s.heap.objs.size,rawInt 0,.none,.none] } }) :=
 .of_wp λprog w A R s h=>by
  obtain⟨hp,g,d,tk,os⟩:=s;obtain⟨ht,h⟩:=h;have hsub:=sub_enumerate;have hT:Heap.IsTuple (Shared.heap ⟨hp,g,d,tk,os⟩) t us:=⟨_,ht,rfl,n,rfl⟩
  wp_walk using wpAny_loadPart' ht
  refine wpAny_stack_any λst=>Zd ?_
  split
  ·rename_i c _ _ _ _ _;cases(c==Value.type "enumerate")
   ·wp_walk using wpAny_loadPart' ht,X4 hT
    exact⟨_,rfl,h⟩
   ·wp_walk using wpAny_loadPart' ht,X4 hT
    exact⟨_,rfl,h⟩
  ·wp_walk using wpAny_loadPart' ht,X4 hT
   exact⟨_,rfl,h⟩
theorem AM{t:Addr}{us:WQ}{Q:WC}(hT:s.heap.IsTuple t us)
  (h:∀h',IsEnum h' (s.heap.objs.size+1) s.heap.objs.size 0 .none->h'.IsTupleIter s.heap.objs.size t 0->h'.objs.size=s.heap.objs.size+2->(∀b o,s.heap.get? b=some o->h'.get? b=some o)->Q (.ref (s.heap.objs.size+1)) { s with heap:=h' }) :
  wpAny (model prog w) A (call (.type "enumerate") [.ref t]) Q E s:=by
 obtain⟨⟨c,dd,dt,sl⟩,ht,hc,n,hd⟩:=hT;replace hc:c=.type "tuple":=hc;replace hd:dt=.seq us n:=hd;subst hc hd;refine callType_new F.called_enumerate (by decide) (F.typeCall_enumerate_1 _) (F.newCall_enumerate_1 _) (λobj=>F.args_object_init_2 obj _) F.entry_enumerate_new (A4 t us n dd sl) ⟨ht,?_⟩;have sz:(s.heap.push { cls:=.type "tuple_iterator",data:=.fields #[.ref t,.int 0 0] }).objs.size=s.heap.objs.size+1:=Z2 ..;show _/\_;rw[sz]
 have he:IsEnum ((s.heap.push { cls:=.type "tuple_iterator",data:=.fields #[.ref t,.int 0 0] }).push { cls:=.type "enumerate",data:=.fields #[.none,.bool false,.ref s.heap.objs.size,rawInt 0,.none,.none] }) (s.heap.objs.size+1) s.heap.objs.size 0 .none:=by
  have:=Zy (s.heap.push { cls:=.type "tuple_iterator",data:=.fields #[.ref t,.int 0 0] }) (o:={ cls:=.type "enumerate",data:=.fields #[.none,.bool false,.ref s.heap.objs.size,rawInt 0,.none,.none] }) rfl;rw[sz] at this; exact this
 exact⟨⟨_,he,rfl⟩,h _ he ⟨_,Zc _ (Zy _ rfl),rfl,rfl⟩ (by rw[Z2,sz]) λb o x=>Zc _ (Zc _ x)⟩
theorem Du{tup:Bool}{a:Addr}{us:WQ}{Q:WC}(hs:Seq tup s.heap a us)
  (h:∀h',IsEnum h' (s.heap.objs.size+1) s.heap.objs.size 0 .none->Inn tup h' s.heap.objs.size a 0->h'.objs.size=s.heap.objs.size+2->(∀b o,s.heap.get? b=some o->h'.get? b=some o)->Q (.ref (s.heap.objs.size+1)) { s with heap:=h' }) :
  wpAny (model prog w) A (call (.type "enumerate") [.ref a]) Q E s:=by
 cases tup with
 | true=>exact AM hs h
 | false=>exact call_enumerate_list hs h
end
end ENM
namespace L2
open PySem PySem.Spec PyProof.Rows ENM
def SqB(K:WG)(H:Hp)(tup:Bool)(a:Addr)(xs:WT):Prop:=match tup with
 | true=>SqT K H a xs
 | false=>SqL K H a xs
noncomputable def Ite(K:WG)(tup:Bool)(a:Addr):It :=
 ⟨λi H=>∃xs x,SqB K H tup a xs/\xs[i]?=some x,λi H x H'=>∃y p,(∀xs,SqB K H tup a xs->xs[i]?=some y)/\H p=none/\H'=upd H p (.tup [.int i,y])/\x=.ref p,λi H=>∃xs,SqB K H tup a xs/\xs.length<=i⟩
theorem Inv.ek{X:Cx}{pins:WD}{σ:L2.St}{H:Hp}{s:WI}(I:Inv X pins σ H s){tup:Bool}{a:Addr}{xs:WT}(h:SqB X.K H tup a xs):∃its:List Value,Vals xs its/\Seq tup s.heap a its.toArray:=by
 cases tup with
 | true=>obtain⟨its,rv,p,_⟩:=I.tuple h; exact⟨its,rv,p⟩
 | false=>obtain⟨its,rv,p,_⟩:=I.list h; exact⟨its,rv,p.isList⟩
theorem Inv.mF{X:Cx}{pins:WD}{σ:L2.St}{H:Hp}{s:WI}(I:Inv X pins σ H s){tup:Bool}{a:Addr}{xs ys:WT}(h:SqB X.K H tup a xs)(h':SqB X.K H tup a ys):xs=ys:=by
 cases tup with
 | true=>exact I.jw h h'
 | false=>exact I.jU h h'
theorem G5{P:WK}{w:WN}{K:WG}{elts:WS}{k1:Nat}{tp:Pos}(tup:Bool)(a en it:Addr)(hne:en≠it) :
  Turn P w K (.Tuple elts k1 tp) (Ite K tup a) [en,it] en (λi h=>(∃old,IsEnum h en it i old)/\Inn tup h it a i) where
 mem:=by simp
 obj:=λi h st b hb=>by
  obtain⟨⟨old,he⟩,hi⟩:=st;rcases Zm.mp hb with rfl|hb
  ·exact⟨_,he,λv z=>by
    have z':Data.fields _=Data.cell v:=z;cases z'⟩
  ·have e:b=it:=by simpa using hb
   subst e; exact hi.there
 keep:=λi h h' st k=>by
  obtain⟨⟨old,he⟩,hi⟩:=st;exact⟨⟨old,k en (by simp) _ he⟩,hi.keep λo e=>k it (by simp) o e⟩
 item:=by
  intro X hP hw hK hc i pins s σ H E I hf st hg;subst hP hw hK;obtain⟨⟨old,he⟩,hi⟩:=st;obtain⟨xs,x,hq,hx⟩:=hg;obtain⟨its,rv,hs⟩:=I.ek hq;obtain⟨u,hu,ru⟩:=rv.get hx;obtain⟨f0,f1,f2,f3,f4,f5⟩:=hf en (by simp);obtain⟨g0,g1,g2,g3,g4,g5⟩:=hf it (by simp);refine xY he hi hs (u:=u) (by simpa using hu) hne λh' ho hi' ht hz hk=>?_
  refine⟨_,rfl,wpAny_letOwnedTupleGo_enum ho λh2 he2 sb2=>?_⟩;replace sb2:Heap.SameBut en h' h2:=sb2;have elt:en<s.heap.objs.size:=Zo he;have hp:H s.heap.objs.size=none:=I.hok.fresh (Zn _);have ilt:it<s.heap.objs.size:=by obtain⟨o,e,_⟩:=hi.there; exact Zo e
  have kept:∀b o,b≠en->b≠it->s.heap.get? b=some o->h2.get? b=some o:=λb o h1 h3 e=>sb2.extBut b o h1 (hk b o h1 h3 e)
  have tp2:h2.get? s.heap.objs.size=some { cls:=.type "tuple",data:=.seq #[.int i s.toks,u] }:=sb2.extBut _ _ (Xw elt) ht
  have I2:Inv X pins σ (upd H s.heap.objs.size (.tup [.int i,x])) { s with heap:=h2,toks:=s.toks+1 }:=by
   refine I.step (g':=s.gens) (d':=s.drawn) (ch:=[en,it]) (λb hb=>?_) (λb o _ _ hc e _=>kept b o (λz=>hc (by simp[z])) (λz=>hc (by simp[z])) e)
    (λb o _ _ hc e _=>⟨o.slots,kept b o (λz=>hc (by simp[z])) (λz=>hc (by simp[z])) e⟩) (λb o _ e n=>by rw[aF (ZC (Zo e))]; exact n)
    (λb o hc e=>⟨o,kept b o (λz=>hc (by simp[z])) (λz=>hc (by simp[z])) e⟩) (λb ys q=>by rw[aF (bu q hp)]; exact q) (λb o u q=>by rw[aF (bu q hp)]; exact q)
    (λb ps q=>⟨#[],by rw[aF (bu q hp),q]; simp⟩) (λm hm=>?_) ?_ I.bare
   ·rcases Zm.mp hb with rfl|hb
    ·exact⟨f3,f1,f4,f5⟩
    ·have e:b=it:=by simpa using hb
     subst e; exact⟨g3,g1,g4,g5⟩
   ·obtain⟨o,es,ep,ho',r⟩:=hm;exact⟨o,es,ep,kept _ o (Ne.symm f1) (Ne.symm g1) ho',r⟩
   ·intro b o q
    by_cases hb:b=s.heap.objs.size
    ·subst hb;rw[cT] at q;cases q;exact⟨by show 2<=sizeLine; decide,[.int i s.toks,u],.cons ⟨_,rfl⟩ (.cons ru .nil),_,tp2,rfl,_,rfl⟩
    ·rw[aF hb] at q;have hb1:b≠en:=λz=>by rw[z,f0] at q; cases q
     have hb2:b≠it:=λz=>by rw[z,g0] at q; cases q
     refine(I.hok b o q).stay (λc v hc e=>?_) (λc q=>by rw[aF (bu q hp)]; exact q) λc ys q=>by rw[aF (bu q hp)]; exact q
     rcases hc with rfl|hc
     ·exact kept _ v hb1 hb2 e
     ·exact kept c v (λz=>by rw[z,f0] at hc; cases hc) (λz=>by rw[z,g0] at hc; cases hc) e
  refine⟨.ref s.heap.objs.size,upd H s.heap.objs.size (.tup [.int i,x]),I2,rfl,⟨x,_,λys hy=>by rw[I.mF hy hq]; exact hx,hp,rfl,rfl⟩,⟨⟨u,by simpa using he2⟩,hi'.keep λo e=>sb2.extBut _ o (Ne.symm hne) e⟩,λb hb=>?_⟩;rcases Zm.mp hb with rfl|hb
  ·rw[aF (ZC elt)]; exact f0
  ·have e:b=it:=by simpa using hb
   subst e; rw[aF (ZC ilt)]; exact g0
 done:=by
  intro X hP hw hK hc i pins s σ H E I hf st hg;subst hP hw hK;obtain⟨⟨old,he⟩,hi⟩:=st;obtain⟨xs,hq,hx⟩:=hg;obtain⟨its,rv,hs⟩:=I.ek hq;obtain⟨g0,g1,g2,g3,g4,g5⟩:=hf it (by simp);have hl:=rv.length;exact AY (I.ok.hd hc) he hi hs (by simp; omega) λh' eb=>⟨rfl,I.turned (t':=s.toks) (λb o hb e=>eb b o hb e) g0 g1 g3 g4 g5⟩
 self:=λ_ _ _ _ _ st h=>by
  obtain⟨⟨old,he⟩,_⟩:=st;exact wpAny_pyIter_enum he h
section
variable{X:Cx}
noncomputable def BZ(K:WG)(ta:TA):TI:=λσ H R=>ta σ H λvs H1=>∃tup a,vs=[.ref a]/\(∃xs,SqB K H1 tup a xs)/\R (Ite K tup a) H1
theorem EA{e:Expr}{ta:TA}{p pos:Pos}{elts:WS}{k1:Nat}{tp:Pos}(hg:Gl X "enumerate")(hm:X.mg "enumerate" = none)(hv:bootBuiltins "enumerate" = some (.type "enumerate"))(ha:PA X [e] ta)(hs:starEach [e] X.env=[(false,eval e X.env)]) :
  PI X (.Tuple elts k1 tp) (.Call (.Name "enumerate" p) [e] [] pos) (BZ X.K ta):=by
 intro pins s σ H R I h;refine Call_ (eN I hg hm hv (Xo (thn (ha pos pins s σ H _ I h) λus s1 ⟨vs,H1,I1,r1,q1⟩=>?_) hs rfl));obtain⟨tup,a,e,⟨xs,hq⟩,q⟩:=q1;subst e
 cases r1 with
 | cons r rr =>
  cases rr;cases r;obtain⟨its,rv,hsq⟩:=I1.ek hq;refine Du hsq λh' he hi hz hk=>?_
  refine wpAny_pyIter_enum he ?_;have fr:∀b,s1.heap.objs.size<=b->cE X pins H1 b:=λb hb=>I1.f6 hb (I1.hok.fresh hb)
  refine⟨s1.heap.objs.size+1,[s1.heap.objs.size+1,s1.heap.objs.size],_,_,H1,rfl,I1.kept (t':=s1.toks) hk,G5 tup a _ _ (Xw (X0 _)),⟨⟨.none,he⟩,hi⟩,λb hb=>?_,q⟩;rcases Zm.mp hb with rfl|hb
  ·exact fr _ (QX _)
  ·have e:b=s1.heap.objs.size:=by simpa using hb
   subst e; exact fr _ (Zn _)
noncomputable def o8(lo:Int)(n:Nat):It:=⟨λi _=>i<n,λi H x H'=>H'=H/\x=.int (lo-i),λi _=>n<=i⟩
theorem D9{P:WK}{w:WN}{K:WG}{tg:Expr}(it:Addr)(lo:Int)(n:Nat):Turn P w K tg (o8 lo n) [it] it (λi h=>IsRangeIter h it (lo+(i:Nat)*(-1)) ((n:Int)-(i:Nat)) (-1)) where
 mem:=by simp
 obj:=λi h st b hb=>by
  have e:b=it:=by simpa using hb
  subst e
  exact⟨_,st,λv z=>by
   have z':Data.fields _=Data.cell v:=z;cases z'⟩
 keep:=λi h h' st k=>k it (by simp) _ st
 item:=by
  intro X hP hw hK hc i pins s σ H E I hf st hg;subst hP hw hK;obtain⟨f0,f1,f2,f3,f4,f5⟩:=hf it (by simp);have W:=Walks.range (prog:=X.prog) (w:=X.w) (I.ok.hd hc) it lo (-1) n;refine W.item i s _ _ hg st λv h' tk hv st' kk=>?_
  obtain⟨t,rfl⟩:=hv;have I1:Inv X pins σ H { s with heap:=h',toks:=tk }:=I.turned (λb o hb e=>kk b o (by simpa using hb) e) f0 f1 f3 f4 f5;refine⟨_,rfl,jd (s:={ s with heap:=h',toks:=tk }) (n:="range_iterator") st' rfl rfl (by decide) ⟨.int (lo-i),H,I1,⟨t,?_⟩,⟨rfl,rfl⟩,st',λb hb=>(hf b hb).1⟩⟩;congr 1;omega
 done:=by
  intro X hP hw hK hc i pins s σ H E I hf st hg;subst hP hw hK;obtain⟨f0,f1,f2,f3,f4,f5⟩:=hf it (by simp);exact wpAny_pyNext_range_end (I.ok.hd hc) st (by have:n<=i:=hg; omega) λh' eb=>⟨rfl,I.turned (t':=s.toks) (λb o hb e=>eb b o hb e) f0 f1 f3 f4 f5⟩
 self:=λ_ _ _ _ _ st h=>wpAny_pyIter_rangeiter st h
theorem rangeSize_down(a b:Int):Builtin.Range.rangeSize a b (-1)=if b<a then a-b else 0:=by
 unfold Builtin.Range.rangeSize;rw[Zg (by decide)]
 by_cases h:b<a
 ·rw[Ze h,Ze (show a>b from h)];rw[show(-(-1):Int)=1 from rfl,Q7]; omega
 ·rw[Zg h,Zg (show ¬a>b from h)]
theorem small_down{a b:Int}(ha:-(2^62)<=a)(ha':a<2^62)(hb:-(2^62)<=b)(hb':b<2^62):Builtin.Range.small a b (-1)=true:=by
 unfold Builtin.Range.small;rw[rangeSize_down];simp only[Builtin.Range.rangeFitsLong,Zl,Qs,XE,QB]
 by_cases h:b<a
 ·simp only[Ze h];rw[Zg (show ¬(-1:Int)>0 by decide),Zl,XE,XE];omega
 ·simp only[Zg h];rw[Zg (show ¬(-1:Int)>0 by decide),Zl,XE,XE];omega
noncomputable def Gg(ta:TA):TI:=λσ H R=>ta σ H λvs H1=>∃i j:Int,vs=[.int i,.int j,.int (-1)]/\(-(2^62)<=i/\i<2^62/\-(2^62)<=j/\j<2^62)/\R (o8 i (i-j).toNat) H1
theorem Hh{tg a b c:Expr}{ta:TA}{p pos:Pos}(hg:Gl X "range")(hm:X.mg "range" = none)(ha:PA X [a,b,c] ta)(hs:starEach [a,b,c] X.env=[(false,eval a X.env),(false,eval b X.env),(false,eval c X.env)])(hs2:starEach [b,c] X.env=[(false,eval b X.env),(false,eval c X.env)]) :
  PI X tg (.Call (.Name "range" p) [a,b,c] [] pos) (Gg ta):=by
 intro pins s σ H R I h;refine Call_ (eN I hg hm boot_range (Xo (thn (ha pos pins s σ H _ I h) λus s1 ⟨vs,H1,I1,r1,q1⟩=>?_) (by rw[hs,hs2]) (by rw[hs2]; rfl)));obtain⟨i,j,e,⟨q1,q2,q3,q4⟩,q⟩:=q1;subst e
 cases r1 with
 | cons r rr =>
  cases rr with
  | cons r' rr =>
   cases rr with
   | cons r'' rr =>
    cases rr;obtain⟨t,rfl⟩:=r;obtain⟨t',rfl⟩:=r';obtain⟨t'',rfl⟩:=r'';refine call_range_3 (by decide) ?_ (.inl (PyProof.noPylong_small (by decide)));refine wpAny_pyIter_range (IsRange.new ..) (small_down q1 q2 q3 q4) ?_;have I2:Inv X pins σ H1 { s1 with heap:=s1.heap.push { cls:=.type "range",data:=.fields #[.int i t,.int j t',.int (-1) t''] } }:=I1.kept (t':=s1.toks) λb o e=>Zc _ e
    refine⟨(s1.heap.push { cls:=.type "range",data:=.fields #[.int i t,.int j t',.int (-1) t''] }).objs.size,[(s1.heap.push { cls:=.type "range",data:=.fields #[.int i t,.int j t',.int (-1) t''] }).objs.size],_,_,H1,rfl,
     I2.kept (t':=s1.toks) λb o e=>Zc _ e,D9 _ i (i-j).toNat,?_,λb hb=>?_,q⟩
    ·have e1:i+((0:Nat):Int)*(-1)=i:=by simp
     have e2:(((i-j).toNat:Nat):Int)-((0:Nat):Int)=Builtin.Range.rangeSize i j (-1):=by rw[rangeSize_down]; split<;>omega
     show IsRangeIter _ _ (i+((0:Nat):Int)*(-1)) ((((i-j).toNat:Nat):Int)-((0:Nat):Int)) (-1);rw[e1,e2];exact Zy _ rfl
    ·have e:b=(s1.heap.push { cls:=.type "range",data:=.fields #[.int i t,.int j t',.int (-1) t''] }).objs.size:=by simpa using hb
     subst e;exact I2.f6 (Zn _) (I2.hok.fresh (Zn _))
end
end L2

namespace EV
open PySem PySem.Spec PyProof.Rows L2
section
variable{X:Cx}{Γ:Gx}{xw:XW}{a b c:Expr}{ma mb mc:Sg->M D}{pos:Pos}
theorem BF{i:Nat}{x:Str}(hN:X.N[i]?=some x)(hv:Vis X.env.scope x)(hd:(x==("__debug__" : Str))=false)(hcd:(x==("__classdict__" : Str))=false):PE X (.Name x pos) (tM Γ xw λσ=>bF σ i) :=
 PE.imp (iB hN hv hd hcd) λσ H Q h=>by
  obtain⟨σd,ι,S,he,hs,ho⟩:=h;have ho:Out Γ xw ι H (bF σd i S) λd _ ι' H'=>∀v,Rep Γ ι' H' d v->Q v H':=ho
  cases q:σd[i]? with
  | none=>rw[show bF σd i S=.bad by unfold bF; rw[q]; rfl] at ho; exact ho.elim
  | some o =>
   cases o with
   | none=>rw[show bF σd i S=.bad by unfold bF; rw[q]; rfl] at ho; exact ho.elim
   | some d =>
    rw[show bF σd i S=.ok d S by unfold bF; rw[q]; rfl] at ho;obtain⟨v,hv,r⟩:=he.var i d q;exact⟨v,hv,ho.here hs v r⟩
theorem gY{e:Expr}{d:D}{v:V}(h:PE X e (tC v))(r:∀ι H,Rep Γ ι H d v):PE X e (tM Γ xw λ_=>pure d) :=
 PE.imp h λσ H Q h=>by
  obtain⟨σd,ι,S,he,hs,ho⟩:=h;exact ho.here hs v (r _ _)
theorem Bm{op:Operator}{f:D->D->M D}(ho:OpR X (binaryOp op) (bg Γ xw f))(ha:PE X a (tM Γ xw ma))(hb:PE X b (tM Γ xw mb)):PE X (.BinOp a op b pos) (tM Γ xw λσ=>ma σ>>=λx=>mb σ>>=λy=>f x y) :=
 PE.imp (Iq ho ha hb) λ_ _ _ h=>n9 h
theorem G6{op:CmpOp}{f:D->D->M D}(ho:OpR X (compareOp op) (bg Γ xw f))(ha:PE X a (tM Γ xw ma))(hb:PE X b (tM Γ xw mb))(hm:behindInMarks op b=false):PE X (.Compare a [op] [b] pos) (tM Γ xw λσ=>ma σ>>=λx=>mb σ>>=λy=>f x y) :=
 PE.imp (nP ho ha hb hm) λ_ _ _ h=>n9 h
theorem Iu{rest:WS}(ha:PE X a (tM Γ xw ma))(hb:PE X (.BoolOp .And (b::rest) pos) (tM Γ xw mb)):PE X (.BoolOp .And (a::b::rest) pos) (tM Γ xw λσ=>ma σ>>=λx=>match x with|.bl true=>mb σ|.bl false=>pure (.bl false)|_=>bad) :=
 PE.imp (oq ha hb) λσ H Q h=>by
  obtain⟨σd,ι,S,he,hs,ho⟩:=h;refine⟨σd,ι,S,he,hs,ho.bind.mono λd S' ι' H' _ _ ⟨s',e',o'⟩ v r=>?_⟩
  cases d with
  | bl k =>
   cases r;refine⟨k,rfl,?_⟩
   cases k with
   | true=>rw[Ze rfl]; exact⟨σd,ι',S',he.ext e',s',o'⟩
   | false=>rw[Zg Zx]; exact o'.here s' _ (.bl _)
  | _=>exact o'.elim
theorem zX{rest:WS}(ha:PE X a (tM Γ xw ma))(hb:PE X (.BoolOp .Or (b::rest) pos) (tM Γ xw mb)):PE X (.BoolOp .Or (a::b::rest) pos) (tM Γ xw λσ=>ma σ>>=λx=>match x with|.bl true=>pure (.bl true)|.bl false=>mb σ|_=>bad) :=
 PE.imp (Hi ha hb) λσ H Q h=>by
  obtain⟨σd,ι,S,he,hs,ho⟩:=h;refine⟨σd,ι,S,he,hs,ho.bind.mono λd S' ι' H' _ _ ⟨s',e',o'⟩ v r=>?_⟩
  cases d with
  | bl k =>
   cases r;refine⟨k,rfl,?_⟩
   cases k with
   | false=>rw[Zg Zx]; exact⟨σd,ι',S',he.ext e',s',o'⟩
   | true=>rw[Ze rfl]; exact o'.here s' _ (.bl _)
  | _=>exact o'.elim
theorem E3(ha:PE X a (tM Γ xw ma)):PE X (.UnaryOp .Not a pos) (tM Γ xw λσ=>ma σ>>=λx=>match x with|.bl b=>pure (.bl (!b))|_=>bad) :=
 PE.imp (Dm ha) λσ H Q h=>by
  obtain⟨σd,ι,S,he,hs,ho⟩:=h;refine⟨σd,ι,S,he,hs,ho.bind.mono λd S' ι' H' _ _ ⟨s',e',o'⟩ v r=>?_⟩
  cases d with
  | bl k=>cases r; exact⟨k,rfl,o'.here s' _ (.bl _)⟩
  | _=>exact o'.elim
theorem Ex(ha:PE X a (tM Γ xw ma)):PE X (.UnaryOp .USub a pos) (tM Γ xw λσ=>ma σ>>=λx=>match x with|.int i=>pure (.int (-i))|_=>bad) :=
 PE.imp (G1 EO ha) λσ H Q h=>by
  obtain⟨σd,ι,S,he,hs,ho⟩:=h;refine⟨σd,ι,S,he,hs,ho.bind.mono λd S' ι' H' _ _ ⟨s',e',o'⟩ v r=>?_⟩
  cases d with
  | int k=>cases r; exact⟨k,rfl,o'.here s' _ (.int _)⟩
  | _=>exact o'.elim
theorem jP{ι:WL}{H:Hp}{d:D}{v:V}(r:Rep Γ ι H d v):decide (v=.non)=decide (d=.non):=by
 cases r<;>simp
theorem zb{j pos'}(ha:PE X a (tM Γ xw ma)):PE X (.Compare a [.Is] [.Constant .none j pos'] pos) (tM Γ xw λσ=>ma σ>>=λx=>pure (.bl (decide (x=.non)))) :=
 PE.imp (pR (pH ha)) λσ H Q h=>by
  obtain⟨σd,ι,S,he,hs,ho⟩:=h;refine⟨σd,ι,S,he,hs,ho.bind.mono λd S' ι' H' _ _ ⟨s',e',o'⟩ v r=>?_⟩;show Q (.bl (decide (v=.non))) H';rw[jP r]; exact o'.here s' _ (.bl _)
theorem IK{j pos'}(ha:PE X a (tM Γ xw ma)):PE X (.Compare a [.IsNot] [.Constant .none j pos'] pos) (tM Γ xw λσ=>ma σ>>=λx=>pure (.bl (!decide (x=.non)))) :=
 PE.imp (pR (qY ha)) λσ H Q h=>by
  obtain⟨σd,ι,S,he,hs,ho⟩:=h;refine⟨σd,ι,S,he,hs,ho.bind.mono λd S' ι' H' _ _ ⟨s',e',o'⟩ v r=>?_⟩;show Q (.bl (!decide (v=.non))) H';rw[jP r]; exact o'.here s' _ (.bl _)
theorem Gb{op op':CmpOp}{f f':D->D->M D}(ho:OpR X (compareOp op) (bg Γ xw f))(ho':OpR X (compareOp op') (bg Γ xw f'))(ha:PE X a (tM Γ xw ma))(hb:PE X b (tM Γ xw mb))(hc:PE X c (tM Γ xw mc))(hm:lastMarks [op,op'] [b,c]=false) :
  PE X (.Compare a [op,op'] [b,c] pos) (tM Γ xw λσ=>ma σ>>=λx=>mb σ>>=λy=>f x y>>=λr=>match r with|.bl true=>mc σ>>=λz=>f' y z|.bl false=>pure (.bl false)|_=>bad) :=
 PE.imp (xV ho ho' ha hb hc hm) λσ H Q h=>by
  obtain⟨σd,ι,S,he,hs,ho⟩:=h;refine⟨σd,ι,S,he,hs,ho.bind.mono λd S' ι' H' _ _ ⟨s',e',o'⟩ v r=>⟨σd,ι',S',he.ext e',s',o'.bind.mono λd2 S2 ι2 H2 _ _ ⟨s2,e2,o2⟩ v2 r2=>⟨ι2,S2,d,d2,s2,r.ext e2,r2,o2.bind.mono λd3 S3 ι3 H3 _ _ ⟨s3,e3,o3⟩ v3 r3=>?_⟩⟩⟩
  cases d3 with
  | bl k =>
   cases r3;refine⟨k,rfl,?_⟩
   cases k with
   | true =>
    rw[Ze rfl];exact⟨σd,ι3,S3,(he.ext (e'.trans e2)).ext e3,s3,o3.bind.mono λd4 S4 ι4 H4 _ _ ⟨s4,e4,o4⟩ v4 r4=>⟨ι4,S4,d2,d4,s4,(r2.ext e3).ext e4,r4,o4⟩⟩
   | false=>rw[Zg Zx]; exact o3.here s3 _ (.bl _)
  | _=>exact o3.elim
theorem AS{e:Expr}{m:Sg->M D}(hK:Γ.K=X.K)(h:PE X e (tM Γ xw m))(he:∀whole,isTrue e X.env whole=(do let v <- whole; standAt e.pos; holding [v] (truthy v))):PT X e (tMT Γ xw λσ=>m σ>>=truth):=by
 intro pins s σ H Q I hw;obtain⟨σd,ι,S,hE,hs,ho⟩:=hw;refine isTrue_plain (thn (h pins s σ H (λx H'=>∃ι S d,av Γ ι H' S/\Rep Γ ι H' d x/\Out Γ xw ι H' (truth d S) λb _ _ H'=>Q b H') I ⟨σd,ι,S,hE,hs,ho.bind.mono λd S' ι' H' _ _ ⟨s',e',o'⟩ v r=>⟨ι',S',d,s',r,o'⟩⟩) λv s1 ⟨x,H1,I1,r1,q1⟩=>?_) (he _);exact Dr hK pins s1 σ H1 x v Q I1 r1 q1
theorem AN{op:CmpOp}{f:D->D->M D}(hbl:∀x y S d S',f x y S=.ok d S'->∃k,d=.bl k)(ho:OpR X (compareOp op) (bg Γ xw f))(ha:PE X a (tM Γ xw ma))(hb:PE X b (tM Γ xw mb))(hm:behindInMarks op b=false) :
  PT X (.Compare a [op] [b] pos) (tMT Γ xw λσ=>ma σ>>=λx=>mb σ>>=λy=>f x y>>=λr=>truth r) :=
 PT.imp (CC ho ha hb hm) λσ H Q h=>by
  obtain⟨σd,ι,S,he,hs,ho⟩:=h;refine⟨σd,ι,S,he,hs,ho.bind.mono λd S' ι' H' _ _ ⟨s',e',o'⟩ v r=>⟨σd,ι',S',he.ext e',s',o'.bind.mono λd2 S2 ι2 H2 _ _ ⟨s2,e2,o2⟩ v2 r2=>⟨ι2,S2,d,d2,s2,r.ext e2,r2,?_⟩⟩⟩
  cases q:f d d2 S2 with
  | bad=>rw[bh q] at o2; exact o2.elim
  | exc c S3=>rw[cY q] at o2; exact o2
  | ok d3 S3 =>
   rw[aq q] at o2;obtain⟨k,rfl⟩:=hbl _ _ _ _ _ q;intro ι3 H3 e3 s3 v3 r3;cases r3;exact⟨k,rfl,(o2.step e3).here s3⟩
theorem G0{op op':CmpOp}{f f':D->D->M D}(hbl:∀x y S d S',f x y S=.ok d S'->∃k,d=.bl k)(hbl':∀x y S d S',f' x y S=.ok d S'->∃k,d=.bl k)(ho:OpR X (compareOp op) (bg Γ xw f))(ho':OpR X (compareOp op') (bg Γ xw f'))(ha:PE X a (tM Γ xw ma))(hb:PE X b (tM Γ xw mb))(hc:PE X c (tM Γ xw mc))(hm:lastMarks [op,op'] [b,c]=false) :
  PT X (.Compare a [op,op'] [b,c] pos) (tMT Γ xw λσ=>ma σ>>=λx=>mb σ>>=λy=>f x y>>=λr=>truth r>>=λk=>if k=true then mc σ>>=λz=>f' y z>>=λq=>truth q else pure false) :=
 PT.imp (w9 ho ho' ha hb hc hm) λσ H Q h=>by
  obtain⟨σd,ι,S,he,hs,ho⟩:=h;refine⟨σd,ι,S,he,hs,ho.bind.mono λd S' ι' H' _ _ ⟨s',e',o'⟩ v r=>⟨σd,ι',S',he.ext e',s',o'.bind.mono λd2 S2 ι2 H2 _ _ ⟨s2,e2,o2⟩ v2 r2=>⟨ι2,S2,d,d2,s2,r.ext e2,r2,?_⟩⟩⟩
  cases q:f d d2 S2 with
  | bad=>rw[bh q] at o2; exact o2.elim
  | exc c S3=>rw[cY q] at o2; exact o2
  | ok d3 S3 =>
   rw[aq q] at o2;obtain⟨k,rfl⟩:=hbl _ _ _ _ _ q;intro ι3 H3 e3 s3 v3 r3;cases r3;refine⟨k,rfl,?_⟩;have o3:=o2.step e3
   cases k with
   | false=>rw[Zg Zx]; exact⟨false,rfl,o3.here s3⟩
   | true =>
    rw[Ze rfl];have o3:Out Γ xw ι3 H3 ((mc σd>>=λz=>f' d2 z>>=λq=>truth q) S3) _:=o3;refine⟨σd,ι3,S3,(he.ext (e'.trans e2)).ext e3,s3,o3.bind.mono λd4 S4 ι4 H4 _ _ ⟨s4,e4,o4⟩ v4 r4=>⟨ι4,S4,d2,d4,s4,(r2.ext e3).ext e4,r4,?_⟩⟩
    cases q4:f' d2 d4 S4 with
    | bad=>rw[bh q4] at o4; exact o4.elim
    | exc c S5=>rw[cY q4] at o4; exact o4
    | ok d5 S5 =>
     rw[aq q4] at o4;obtain⟨k5,rfl⟩:=hbl' _ _ _ _ _ q4;intro ι5 H5 e5 s5 v5 r5;cases r5;exact⟨k5,rfl,(o4.step e5).here s5⟩
theorem Fj{j pos'}(ha:PE X a (tM Γ xw ma)):PT X (.Compare a [.Is] [.Constant .none j pos'] pos) (tMT Γ xw λσ=>ma σ>>=λx=>pure (decide (x=.non))) :=
 PT.imp (qV (pH ha)) λσ H Q h=>by
  obtain⟨σd,ι,S,he,hs,ho⟩:=h;refine⟨σd,ι,S,he,hs,ho.bind.mono λd S' ι' H' _ _ ⟨s',e',o'⟩ v r=>⟨_,rfl,?_⟩⟩;rw[jP r]; exact o'.here s'
theorem iN{j pos'}(ha:PE X a (tM Γ xw ma)):PT X (.Compare a [.IsNot] [.Constant .none j pos'] pos) (tMT Γ xw λσ=>ma σ>>=λx=>pure (!decide (x=.non))) :=
 PT.imp (qV (qY ha)) λσ H Q h=>by
  obtain⟨σd,ι,S,he,hs,ho⟩:=h;refine⟨σd,ι,S,he,hs,ho.bind.mono λd S' ι' H' _ _ ⟨s',e',o'⟩ v r=>⟨_,rfl,?_⟩⟩;rw[jP r]; exact o'.here s'
variable{na nb:Sg->M Bool}
theorem ug{rest:WS}(ha:PT X a (tMT Γ xw na))(hb:PW X (.BoolOp .And (b::rest) pos) (tMT Γ xw nb)):PW X (.BoolOp .And (a::b::rest) pos) (tMT Γ xw λσ=>na σ>>=λk=>if k=true then nb σ else pure false) :=
 PW.imp (EC ha hb) λσ H Q h=>by
  obtain⟨σd,ι,S,he,hs,ho⟩:=h;refine⟨σd,ι,S,he,hs,ho.bind.mono λk S' ι' H' _ _ ⟨s',e',o'⟩=>?_⟩
  cases k with
  | true=>rw[Ze rfl]; exact⟨σd,ι',S',he.ext e',s',o'⟩
  | false=>rw[Zg Zx]; exact o'.here s'
theorem u_{rest:WS}(ha:PT X a (tMT Γ xw na))(hb:PW X (.BoolOp .Or (b::rest) pos) (tMT Γ xw nb)):PW X (.BoolOp .Or (a::b::rest) pos) (tMT Γ xw λσ=>na σ>>=λk=>if k=true then pure true else nb σ) :=
 PW.imp (zR ha hb) λσ H Q h=>by
  obtain⟨σd,ι,S,he,hs,ho⟩:=h;refine⟨σd,ι,S,he,hs,ho.bind.mono λk S' ι' H' _ _ ⟨s',e',o'⟩=>?_⟩
  cases k with
  | false=>rw[Zg Zx]; exact⟨σd,ι',S',he.ext e',s',o'⟩
  | true=>rw[Ze rfl]; exact o'.here s'
theorem zd(ha:PT X a (tMT Γ xw na)):PT X (.UnaryOp .Not a pos) (tMT Γ xw λσ=>na σ>>=λk=>pure (!k)) :=
 PT.imp (B8 ha) λσ H Q h=>by
  obtain⟨σd,ι,S,he,hs,ho⟩:=h;exact⟨σd,ι,S,he,hs,ho.bind.mono λk S' ι' H' _ _ ⟨s',e',o'⟩=>o'.here s'⟩
theorem x_(hc:PT X c (tMT Γ xw na))(ha:PE X a (tM Γ xw ma))(hb:PE X b (tM Γ xw mb)):PE X (.IfExp c a b pos) (tM Γ xw λσ=>na σ>>=λk=>if k=true then ma σ else mb σ) :=
 PE.imp (CL hc ha hb) λσ H Q h=>by
  obtain⟨σd,ι,S,he,hs,ho⟩:=h;refine⟨σd,ι,S,he,hs,ho.bind.mono λk S' ι' H' _ _ ⟨s',e',o'⟩=>?_⟩
  cases k with
  | true=>rw[Ze rfl]; exact⟨σd,ι',S',he.ext e',s',o'⟩
  | false=>rw[Zg Zx]; exact⟨σd,ι',S',he.ext e',s',o'⟩
theorem Ii:PA X [] (tMA Γ xw λ_=>pure []) :=
 PA.imp d_ λσ H Q h=>by
  obtain⟨σd,ι,S,he,hs,ho⟩:=h;exact ho.here hs [] .nil
theorem Hv{es:WS}{m:Sg->M (List D)}(ha:PE X a (tM Γ xw ma))(hr:PA X es (tMA Γ xw m))(hs:starEach (a::es) X.env=(false,eval a X.env)::starEach es X.env):PA X (a::es) (tMA Γ xw λσ=>ma σ>>=λx=>m σ>>=λxs=>pure (x::xs)) :=
 PA.imp (dJ ha hr hs) λσ H Q h=>by
  obtain⟨σd,ι,S,he,hs,ho⟩:=h;exact⟨σd,ι,S,he,hs,ho.bind.mono λd S' ι' H' _ _ ⟨s',e',o'⟩ v r=>⟨σd,ι',S',he.ext e',s',o'.bind.mono λds S2 ι2 H2 _ _ ⟨s2,e2,o2⟩ vs rs=>o2.here s2 _ (.cons (r.ext e2) rs)⟩⟩
theorem yZ{es:WS}{k:Nat}{m:Sg->M (List D)}(h:PA X es (tMA Γ xw m)):PE X (.Tuple es k pos) (tM Γ xw λσ=>m σ>>=λds=>guard (fits ds.length) (pure (.tup ds))) :=
 PE.imp (Ek h) λσ H Q h=>by
  obtain⟨σd,ι,S,he,hs,ho⟩:=h;refine⟨σd,ι,S,he,hs,ho.bind.mono λds S' ι' H' _ _ ⟨s',e',o'⟩ vs rs=>?_⟩;obtain⟨hz,o'⟩:=Out.guard o';exact⟨by rw[<- rs.length]; exact dZ hz,λp hp=>Out.tup o' s' hp rs⟩
theorem BN{es:WS}{m:Sg->M (List D)}(h:PA X es (tMA Γ xw m)):PE X (.List es pos) (tM Γ xw λσ=>m σ>>=λds=>guard (fits ds.length) (alloc (.lst ds))) :=
 PE.imp (jI h) λσ H Q h=>by
  obtain⟨σd,ι,S,he,hs,ho⟩:=h;refine⟨σd,ι,S,he,hs,ho.bind.mono λds S' ι' H' _ _ ⟨s',e',o'⟩ vs rs=>?_⟩;obtain⟨hz,o'⟩:=Out.guard o';exact⟨by rw[<- rs.length]; exact dZ hz,λp hp=>Out.alloc o' s' hp rs⟩
theorem Ft(hK:Γ.K=X.K)(ha:PE X a (tM Γ xw ma))(hb:PE X b (tM Γ xw mb))(hs:iS b):PE X (.Subscript a b pos) (tM Γ xw λσ=>ma σ>>=λx=>mb σ>>=λy=>ixD x y) :=
 PE.imp (sU (E4 hK) ha hb hs) λ_ _ _ h=>n9 h
noncomputable def tMO(Γ:Gx)(xw:XW)(m:Sg->M (Option Int)):TO:=λσ H Q=>∃σd ι S,a_ Γ ι H σ σd/\av Γ ι H S/\Out Γ xw ι H (m σd S) λo _ _ H'=>Q o H'
theorem PO.imp{e:Option Expr}{t t':TO}(h:PO X e t)(f:∀σ H Q,t' σ H Q->t σ H Q):PO X e t':=λpins s σ H Q I q=>h pins s σ H Q I (f σ H Q q)
theorem zZ:PO X none (tMO Γ xw λ_=>pure none):=PO.imp Di λσ H Q h=>by
 obtain⟨σd,ι,S,he,hs,ho⟩:=h;exact ho.here hs
theorem Gi(ha:PE X a (tM Γ xw ma)):PO X (some a) (tMO Γ xw λσ=>ma σ>>=fO):=PO.imp (Gd ha) λσ H Q h=>by
 obtain⟨σd,ι,S,he,hs,ho⟩:=h;refine⟨σd,ι,S,he,hs,ho.bind.mono λd S' ι' H' _ _ ⟨s',e',o'⟩ v r=>?_⟩
 cases d with
 | int i=>cases r; exact⟨i,rfl,o'.here s'⟩
 | _=>exact o'.elim
theorem GY{lo hi:Option Expr}{ml mh:Sg->M (Option Int)}{p2:Pos}(hK:Γ.K=X.K)(ha:PE X a (tM Γ xw ma))(hl:PO X lo (tMO Γ xw ml))(hh:PO X hi (tMO Γ xw mh)) :
  PE X (.Subscript a (.Slice lo hi none p2) pos) (tM Γ xw λσ=>ma σ>>=λx=>ml σ>>=λl=>mh σ>>=λh=>slD x l h) :=
 PE.imp (Bj (GL hK) ha hl hh) λσ H Q h=>by
  obtain⟨σd,ι,S,he,hs,ho⟩:=h;exact⟨σd,ι,S,he,hs,ho.bind.mono λd S' ι' H' _ _ ⟨s',e',o'⟩ v r=>⟨σd,ι',S',he.ext e',s',o'.bind.mono λl S2 ι2 H2 _ _ ⟨s2,e2,o2⟩=>⟨σd,ι2,S2,(he.ext e').ext e2,s2,o2.bind.mono λu S3 ι3 H3 _ _ ⟨s3,e3,o3⟩=>⟨ι3,S3,d,s3,(r.ext e2).ext e3,o3⟩⟩⟩⟩
theorem n5{id:String}{x:Str}{p:Pos}{es:WS}{m:Sg->M (List D)}{f:List D->M D}(hc:cA X (.builtin id) (dN Γ xw f))(hg:Gl X x)(hm:X.mg x=none)(hv:bootBuiltins x=some (.builtin id))(ha:PA X (a::es) (tMA Γ xw m))(hn:x≠"__name__")(hdb:(x==("__debug__" : Str))=false)
  (he:starEach (a::es) X.env=(false,eval a X.env)::starEach es X.env) (hpl:(backTo pos (starEach es X.env)).any (·.1)=false):PE X (.Call (.Name x p) (a::es) [] pos) (tM Γ xw λσ=>m σ>>=f) :=
 PE.imp (qu hc hg hm hv ha hn hdb he hpl) λ_ _ _ h=>tN h
theorem pJ{T:String}{x:Str}{p:Pos}{es:WS}{m:Sg->M (List D)}{f:List D->M D}(hc:cA X (.type T) (dN Γ xw f))(hg:Gl X x)(hm:X.mg x=none)(hv:bootBuiltins x=some (.type T))(ha:PA X (a::es) (tMA Γ xw m))(hn:x≠"__name__")(hdb:(x==("__debug__" : Str))=false)
  (he:starEach (a::es) X.env=(false,eval a X.env)::starEach es X.env) (hpl:(backTo pos (starEach es X.env)).any (·.1)=false):PE X (.Call (.Name x p) (a::es) [] pos) (tM Γ xw λσ=>m σ>>=f) :=
 PE.imp (HS hc hg hm hv ha hn hdb he hpl) λ_ _ _ h=>tN h
theorem zL{sub:Sub}{t:Ty}{T:String}{x y:Str}{p p':Pos}(hK:Γ.K=X.K)(ht:t.name=some T)(hg:Gl X x)(hm:X.mg x=none)(hv:bootBuiltins x=some (.builtin "isinstance"))(hg':Gl X y)(hm':X.mg y=none)(hv':bootBuiltins y=some (.type T))(ha:PE X a (tM Γ xw ma))
  (hn:x≠"__name__") (hdb:(x==("__debug__" : Str))=false) (hn':y≠"__name__") (hdb':(y==("__debug__" : Str))=false) (hst:starEach [a,.Name y p'] X.env=(false,eval a X.env)::starEach [.Name y p'] X.env) :
  PE X (.Call (.Name x p) [a,.Name y p'] [] pos) (tM Γ xw λσ=>ma σ>>=λd=>iz sub t d):=by
 have hy:PE X (.Name y p') (tC (.ty T)):=Eh hg' hm' hv' rfl hn' hdb'
 have hc:cA X (.builtin "isinstance") (λxs H Q=>∃x,xs=[x,.ty T]/\rB Γ xw (iz sub t) x H Q):=by
  intro pins s σ H xs us Q I rs h;obtain⟨x,rfl,ι,S,d,hS,r,ho⟩:=h;obtain⟨u1,u2,rfl,r1,r2⟩:=rs.two;cases r2;unfold iz at ho
  cases q:bH sub S d t with
  | none=>rw[q] at ho; exact ho.elim
  | some k =>
   rw[q] at ho;exact Hf hK I hS ht r r1 q λtk=>⟨.bl k,H,I.tok _,rfl,Out.val ho hS (.bl _)⟩
 refine PE.imp (qu hc hg hm hv (dJ ha (dJ hy d_ rfl) hst) hn hdb hst rfl) λσ H Q h=>?_
 obtain⟨σd,ι,S,he,hs,ho⟩:=h;exact⟨σd,ι,S,he,hs,ho.bind.mono λd S' ι' H' _ _ ⟨s',e',o'⟩ v r=>⟨v,rfl,ι',S',d,s',r,o'⟩⟩
end
end EV

namespace EV
open PySem PySem.Spec PyProof.Rows L2
section
variable{X:Cx}{Γ:Gx}{xw:XW}{ι ι':WL}{H H':Hp}{S:af}{σ:L2.St}
theorem Rep.move(hp:ι<+:ι')(ht:∀a xs,H a=some (.tup xs)->H' a=some (.tup xs))(hf:∀a o u,H a=some (.frz o u)->H' a=some (.frz o u)){d:D}{v:V}(h:Rep Γ ι H d v):Rep Γ ι' H' d v:=by
 induction h with
 | non=>exact .non
 | bl b=>exact .bl b
 | int i=>exact .int i
 | str x=>exact .str x
 | tup h1 h2 h3 h4 ih =>
  refine .tup ?_ h2 ih λk q=>ht _ _ (h4 k q)
  rcases h1 with(h|⟨o,h⟩)|h
  ·exact .inl (.inl (ht _ _ h))
  ·exact .inl (.inr ⟨o,hf _ _ _ h⟩)
  ·exact .inr h
 | fro h1 h2 h3 ih =>
  refine .fro ?_ h2 ih;rcases h1 with⟨o,h⟩|h
  ·exact .inl ⟨o,hf _ _ _ h⟩
  ·exact .inr h
 | loc h=>exact .loc (gU hp h)
theorem qP{a:Addr}{xs ys:WT}(h:H a=some (.lst xs)):∀b zs,H b=some (.tup zs)->upd H a (.lst ys) b=some (.tup zs):=λb zs e=>by
 rw[aF (r_ e h (by intro z; cases z))]; exact e
theorem rP{a:Addr}{xs ys:WT}(h:H a=some (.lst xs)):∀b o u,H b=some (.frz o u)->upd H a (.lst ys) b=some (.frz o u):=λb o u e=>by
 rw[aF (r_ e h (by intro z; cases z))]; exact e
theorem Rep.write{a:Addr}{xs ys:WT}(h:H a=some (.lst xs)){d:D}{v:V}(r:Rep Γ ι H d v):Rep Γ ι (upd H a (.lst ys)) d v:=r.move (Qj _) (qP h) (rP h)
theorem az.write{a:Addr}{xs ys:WT}(h:H a=some (.lst xs)){ds:WV}{vs:WT}(r:az Γ ι H ds vs):az Γ ι (upd H a (.lst ys)) ds vs:=Paired.imp (λ_ _ r=>Rep.write h r) r
theorem a_.write{a:Addr}{xs ys:WT}(h:H a=some (.lst xs)){σd:Sg}(e:a_ Γ ι H σ σd):a_ Γ ι (upd H a (.lst ys)) σ σd:=⟨e.len,λi d q=>let⟨v,e1,r⟩:=e.var i d q; ⟨v,e1,r.write h⟩⟩
theorem Ext.write{a:Addr}{xs ys:WT}(h:H a=some (.lst xs))(hm:a∈ι):Ext ι ι H (upd H a (.lst ys)) :=
 ⟨Qj _,qP h,rP h,λb o e n=>by rw[aF (λz=>n (by rw[z]; exact hm))]; exact e,λ_ h n=>absurd h n⟩
theorem av.write(hS:av Γ ι H S){l:Nat}{a:Addr}{xs ys:WT}{es ds:WV}(hl:S[l]?=some (.lst es))(ha:ι[l]?=some a)(h:H a=some (.lst xs))(r:az Γ ι H ds ys):av Γ ι (upd H a (.lst ys)) (S.set l (.lst ds)):=by
 refine⟨by rw[XS]; exact hS.len,hS.nd,λm c hm=>?_⟩
 by_cases e:m=l
 ·subst e;rw[Xi (Zf.mp hl).1] at hm;cases hm;exact⟨a,ha,ys,cT,az.write h r⟩
 ·rw[ZR (Ne.symm e)] at hm;obtain⟨b,hb,c1⟩:=hS.cell m c hm;have hne:b≠a:=λz=>e (jr hS.nd hb (z▸ha))
  refine⟨b,hb,?_⟩
  cases c with
  | lst zs=>obtain⟨ws,hw,rw'⟩:=c1; exact⟨ws,by rw[aF hne]; exact hw,az.write h rw'⟩
  | dct kvs=>obtain⟨ws,hw,rw'⟩:=c1; exact⟨ws,by rw[aF hne]; exact hw,Paired.imp (λ_ _ q=>⟨q.1,Rep.write h q.2⟩) rw'⟩
  | fdc kvs=>obtain⟨ws,⟨o,hw⟩,rw'⟩:=c1; exact⟨ws,⟨o,by rw[aF hne]; exact hw⟩,Paired.imp (λ_ _ q=>⟨q.1,Rep.write h q.2⟩) rw'⟩
theorem av.other(hS:av Γ ι H S){a:Addr}{xs ys:WT}(h:H a=some (.lst xs))(hn:a∉ι):av Γ ι (upd H a (.lst ys)) S :=
 ⟨hS.len,hS.nd,λm c hm=>by
  obtain⟨b,hb,c1⟩:=hS.cell m c hm;have hne:b≠a:=λz=>hn (z▸ZB hb)
  refine⟨b,hb,?_⟩
  cases c with
  | lst zs=>obtain⟨ws,hw,rw'⟩:=c1; exact⟨ws,by rw[aF hne]; exact hw,az.write h rw'⟩
  | dct kvs=>obtain⟨ws,hw,rw'⟩:=c1; exact⟨ws,by rw[aF hne]; exact hw,Paired.imp (λ_ _ q=>⟨q.1,Rep.write h q.2⟩) rw'⟩
  | fdc kvs=>obtain⟨ws,⟨o,hw⟩,rw'⟩:=c1; exact⟨ws,⟨o,by rw[aF hne]; exact hw⟩,Paired.imp (λ_ _ q=>⟨q.1,Rep.write h q.2⟩) rw'⟩⟩
theorem a_.set{σd:Sg}(e:a_ Γ ι H σ σd)(i:Nat){d:D}{v:V}(r:Rep Γ ι H d v):a_ Γ ι H (σ.set i (some v)) (σd.set i (some d)):=by
 refine⟨by rw[XS,XS]; exact e.len,λj d' h=>?_⟩
 by_cases hij:j=i
 ·subst hij
  have hj:j<σd.length:=by
   have:=(Zf.mp h).1;rw[XS] at this; exact this
  rw[Xi hj] at h;cases h;exact⟨v,by rw[Xi (by rw[e.len]; exact hj)],r⟩
 ·rw[ZR (Ne.symm hij)] at h;obtain⟨w,hw,rw'⟩:=e.var j d' h;exact⟨w,by rw[ZR (Ne.symm hij)]; exact hw,rw'⟩
theorem a_.more{σd:Sg}(e:a_ Γ ι H σ σd)(k:Nat):a_ Γ ι H (σ++List.replicate k none) (σd++List.replicate k none):=by
 refine⟨by simp[e.len],λj d h=>?_⟩
 by_cases hj:j<σd.length
 ·rw[ZF hj] at h;obtain⟨w,hw,r⟩:=e.var j d h;exact⟨w,by rw[ZF (by rw[e.len]; exact hj)]; exact hw,r⟩
 ·rw[ZI (by omega),XD] at h;split at h<;>cases h
theorem z_:MtR X "list.append" (λx xs H Q=>∃ι S dx ds,av Γ ι H S/\Rep Γ ι H dx x/\az Γ ι H ds xs/\Out Γ xw ι H (meD .append dx ds S) λd _ ι' H'=>∀v,Rep Γ ι' H' d v->Q v H'):=by
 intro pins s σ H x xs v us Q I rx rs h;obtain⟨ι,S,dx,ds,hS,r1,r2,ho⟩:=h
 match ds,r2 with
 | [],_=>exact ho.elim
 | _::_::_,_=>exact ho.elim
 | [d],.cons (b:=y) rd .nil =>
  cases dx with
  | loc l =>
   obtain⟨es,e,ho⟩:=Out.aZ ho;obtain⟨hz,ho⟩:=Out.guard ho;obtain⟨a,ws,ha,hx,p⟩:=hS.lst e
   cases r1 with
   | loc q =>
    rw[ha] at q; cases q;refine qS pins s σ H _ _ v us Q I rx rs ⟨a,ws,y,rfl,rfl,hx,by rw[<- p.length]; exact E8 hz,?_⟩;exact ho ι _ (Ext.write hx (ZB ha)) (hS.write e ha hx (Paired.app p (.cons rd .nil))) _ .non
  | _=>exact ho.elim
theorem Dq:MtR X "list.extend" (λx xs H Q=>∃ι S dx ds,av Γ ι H S/\Rep Γ ι H dx x/\az Γ ι H ds xs/\Out Γ xw ι H (meD .extend dx ds S) λd _ ι' H'=>∀v,Rep Γ ι' H' d v->Q v H'):=by
 intro pins s σ H x xs v us Q I rx rs h;obtain⟨ι,S,dx,ds,hS,r1,r2,ho⟩:=h
 match ds,r2 with
 | [],_=>exact ho.elim
 | _::_::_,_=>exact ho.elim
 | [d],.cons (b:=y) rd .nil =>
  cases dx with
  | loc l =>
   cases d with
   | loc m =>
    obtain⟨es,e,ho⟩:=Out.aZ ho;obtain⟨fs,e2,ho⟩:=Out.aZ ho;obtain⟨hz,ho⟩:=Out.guard ho;obtain⟨a,ws,ha,hx,p⟩:=hS.lst e;obtain⟨b,zs,hb,hy,p2⟩:=hS.lst e2
    cases r1 with
    | loc q =>
     cases rd with
     | loc q2 =>
      rw[ha] at q; cases q;rw[hb] at q2; cases q2;refine rj pins s σ H _ _ v us Q I rx rs ⟨a,b,ws,zs,rfl,rfl,hx,hy,by rw[<- p.length,<- p2.length]; exact dZ hz,?_⟩;exact ho ι _ (Ext.write hx (ZB ha)) (hS.write e ha hx (Paired.app p p2)) _ .non
   | _=>exact ho.elim
  | _=>exact ho.elim
theorem ye{o a:Expr}{es:WS}{me:Me}{name:Str}{apos cpos:Pos}{id:String}{mo:Sg->M D}{m:Sg->M (List D)}(hK:Γ.K=X.K)(pa:PlainAttrs "list")(slot:Slot "list" name id)(hty:typeOf (.builtin id)=pure (.type "method_descriptor"))
  (hm:MtR X id (λx xs H Q=>∃ι S dx ds,av Γ ι H S/\Rep Γ ι H dx x/\az Γ ι H ds xs/\Out Γ xw ι H (meD me dx ds S) λd _ ι' H'=>∀v,Rep Γ ι' H' d v->Q v H')) (ho:PE X o (tM Γ xw mo)) (ha:PA X (a::es) (tMA Γ xw m))
  (hbase:attributeBase o name X.env (eval o X.env)=eval o X.env)
  (hfew:((backTo cpos (starEach (a::es) X.env)).all (λx=>!x.1)&&(backToKw cpos (keywordEach [] X.env)).all (λx=>x.1.isSome)&&decide ((a::es).length+([]:List Keyword).length+(if([]:List Keyword).isEmpty then 0 else 1)<30))=true)
  (hline:(apos.endLine==cpos.line)=true) (hs:starEach (a::es) X.env=(false,eval a X.env)::starEach es X.env) (hplain:(backTo cpos (starEach es X.env)).any (·.1)=false) :
  PE X (.Call (.Attribute o name apos) (a::es) [] cpos) (tM Γ xw λσ=>mo σ>>=λx=>jb x (m σ>>=λds=>meD me x ds)) :=
 PE.imp (jg pa slot hty hm ho ha hbase hfew hline hs hplain) λσ H Q h=>by
  obtain⟨σd,ι,S,he,hs,ho⟩:=h;refine⟨σd,ι,S,he,hs,ho.bind.mono λd S' ι' H' _ _ ⟨s',e',o'⟩ v r=>?_⟩;obtain⟨hl,o'⟩:=Out.guard (b:=d.dF S') o'
  cases d with
  | loc l =>
   have r0:=r
   cases r with
   | loc q =>
    have hlt:l<S'.length:=by rw[<- s'.len]; exact(Zf.mp q).1
    obtain⟨b,hb,c⟩:=s'.cell l S'[l] (Zb hlt);rw[q] at hb; cases hb
    cases e:S'[l] with
    | lst ds =>
     rw[e] at c;obtain⟨xs,hx,_⟩:=c;refine⟨.inl ⟨rfl,xs,.of hx⟩,σd,ι',S',he.ext e',s',o'.bind.mono λds S2 ι2 H2 _ _ ⟨s2,e2,o2⟩ vs rs=>⟨ι2,S2,.loc l,ds,s2,r0.ext e2,rs,o2⟩⟩
    | dct kvs =>
     have:S'[l]?=some (.dct kvs):=by rw[Zb hlt,e]
     have hl:(match S'[l]? with|some (.lst _)=>true|_=>false)=true:=hl;rw[this] at hl; cases hl
    | fdc kvs =>
     have:S'[l]?=some (.fdc kvs):=by rw[Zb hlt,e]
     have hl:(match S'[l]? with|some (.lst _)=>true|_=>false)=true:=hl;rw[this] at hl; cases hl
  | _=>exact absurd hl Zx
end
end EV

namespace EV
open PySem PySem.Spec PyProof.Rows L2
def nZ(Γ:Gx)(src:Src)(J:It)(ι0:WL)(H0:Hp):Prop:=∀ι H S,Ext ι0 ι H0 H->av Γ ι H S->aG src S=.ok () S ->
 (∀(i:Nat) d,src.its[i]?=some d->J.go i H/\∀x H',J.yld i H x H'->Ext ι ι H H'/\av Γ ι H' S/\Rep Γ ι H' d x)/\J.stop src.its.length H
noncomputable def tMI(Γ:Gx)(xw:XW)(m:Sg->M Src):TI:=λσ H R=>∃σd ι S,a_ Γ ι H σ σd/\av Γ ι H S/\Out Γ xw ι H (m σd S) λsrc _ ι' H'=>∀J,nZ Γ src J ι' H'->R J H'
theorem jF(src:Src)(S:af):aG src S=.ok () S\/aG src S=.bad:=by
 unfold aG
 cases src.l with
 | none=>exact .inl rfl
 | some l =>
  dsimp only
  cases listAt S l with
  | none=>exact .inr rfl
  | some ds =>
   by_cases h:ds=src.raw
   ·exact .inl (by simp only[h,decide_true]; rfl)
   ·exact .inr (by simp only[h,decide_false]; rfl)
section
variable{X:Cx}{Γ:Gx}{xw:XW}{tg a:Expr}{ma:Sg->M D}{pos:Pos}
theorem PI.imp{iter:Expr}{t t':TI}(h:PI X tg iter t)(f:∀σ H R,t' σ H R->t σ H R):PI X tg iter t':=λpins s σ H R I q=>h pins s σ H R I (f σ H R q)
noncomputable def iSq(K:WG)(tl:TE):TI:=λσ H R=>tl σ H λx H1=>∃a,x=.ref a/\(((∃xs,SqL K H1 a xs)/\R (Itl K a) H1)\/((∃xs,SqT K H1 a xs)/\R (Itt K a) H1))
theorem yH{l:Expr}{tl:TE}(hl:PE X l tl):PI X tg l (iSq X.K tl):=by
 intro pins s σ H R I h;refine thn (hl pins s σ H _ I h) λv s1 ⟨x,H1,I1,r1,q1⟩=>?_
 obtain⟨a,e,q1⟩:=q1;subst e;cases r1;rcases q1 with⟨⟨xs,hq⟩,q⟩|⟨⟨xs,hq⟩,q⟩
 ·have hc:PE X l (λσ H Q=>True->True->tl σ H Q):=λpins s σ H Q I h=>hl pins s σ H Q I (h trivial trivial)
  obtain⟨its,rv,p,hz⟩:=I1.list hq;refine QV p.isList ?_;refine⟨s1.heap.objs.size,[s1.heap.objs.size],_,_,H1,rfl,I1.kept (t':=s1.toks) λb o e=>Zc _ e,zB a _,⟨_,Zy _ rfl,rfl,rfl⟩,λb hb=>?_,q⟩;have e:b=s1.heap.objs.size:=by simpa using hb
  subst e;exact I1.f6 (Zn _) (I1.hok.fresh (Zn _))
 ·obtain⟨its,rv,p,hz⟩:=I1.tuple hq;refine X4 (show s1.heap.IsTuple a its.toArray from p) ?_;refine⟨s1.heap.objs.size,[s1.heap.objs.size],_,_,H1,rfl,I1.kept (t':=s1.toks) λb o e=>Zc _ e,FI a _,⟨_,Zy _ rfl,rfl,rfl⟩,λb hb=>?_,q⟩;have e:b=s1.heap.objs.size:=by simpa using hb
  subst e;exact I1.f6 (Zn _) (I1.hok.fresh (Zn _))
theorem t_{ι:WL}{H:Hp}{S:af}{d:D}{v:V}{src:Src}{S':af}(hS:av Γ ι H S)(r:Rep Γ ι H d v)(h:srcOf d S=.ok src S'):S'=S/\src.its=src.raw/\aG src S=.ok () S/\∃a tup,v=.ref a/\(∃xs,SqB Γ.K H tup a xs) /\
  ∀ι1 H1 S1,Ext ι ι1 H H1->av Γ ι1 H1 S1->aG src S1=.ok () S1->∃xs,SqB Γ.K H1 tup a xs/\az Γ ι1 H1 src.raw xs:=by
 cases d with
 | tup ds =>
  cases h;obtain⟨a,xs,e,t,p⟩:=r.bJ;exact⟨rfl,rfl,rfl,a,true,e,⟨xs,t⟩,λι1 H1 S1 e1 _ _=>⟨xs,e1.sqT t,az.ext e1 p⟩⟩
 | fro ds =>
  cases h;obtain⟨a,xs,e,t,p⟩:=r.fF;exact⟨rfl,rfl,rfl,a,false,e,⟨xs,t.sq⟩,λι1 H1 S1 e1 _ _=>⟨xs,(e1.fro t).sq,az.ext e1 p⟩⟩
 | loc l =>
  have h:(items (.loc l)>>=λds=>pure (⟨ds,some l,ds⟩:Src)) S=.ok src S':=h;rcases ja (.loc l) S with⟨ds,e⟩|e
  ·rw[aq e] at h;cases h;obtain⟨_,a,xs,e2,_,p,t⟩:=cG hS r e;subst e2
   have hl:listAt S l=some ds:=by
    rw[uY] at e
    cases q:listAt S l with
    | none=>rw[q] at e; cases e
    | some es=>rw[q] at e; cases e; rfl
   refine⟨rfl,rfl,?_,a,false,rfl,⟨xs,t l rfl⟩,λι1 H1 S1 e1 s1 st=>?_⟩
   ·unfold aG; simp only[hl,decide_true]; rfl
   ·have hl1:listAt S1 l=some ds:=by
     unfold aG at st;dsimp only at st
     cases q:listAt S1 l with
     | none=>rw[q] at st; cases st
     | some es =>
      rw[q] at st
      by_cases h:es=ds
      ·rw[h]
      ·simp only[h,decide_false] at st; cases st
    obtain⟨b,ys,e3,sb,p1⟩:=s1.list (r.ext e1) (show asL S1 (.loc l)=some ds from hl1);cases e3;exact⟨ys,sb,p1⟩
  ·rw[bh e] at h; cases h
 | _=>cases h
theorem u5(d:D)(S:af):(∃src,srcOf d S=.ok src S)\/srcOf d S=.bad:=by
 cases d with
 | tup ds=>exact .inl ⟨_,rfl⟩
 | fro ds=>exact .inl ⟨_,rfl⟩
 | loc l =>
  show(∃src,(items (.loc l)>>=λds=>pure (⟨ds,some l,ds⟩:Src)) S=.ok src S)\/(items (.loc l)>>=λds=>pure (⟨ds,some l,ds⟩:Src)) S=.bad;rcases ja (.loc l) S with⟨ds,e⟩|e
  ·rw[aq e]; exact .inl ⟨_,rfl⟩
  ·rw[bh e]; exact .inr rfl
 | _=>exact .inr rfl
theorem Ei(hK:Γ.K=X.K)(ha:PE X a (tM Γ xw ma)):PI X tg a (tMI Γ xw λσ=>ma σ>>=srcOf) :=
 PI.imp (yH ha) λσ H R h=>by
  obtain⟨σd,ι,S,he,hs,ho⟩:=h;refine⟨σd,ι,S,he,hs,ho.bind.mono λd S' ι' H' _ _ ⟨s',e',o'⟩ v r=>?_⟩;rcases u5 d S' with⟨src,q⟩|q
  ·rw[q] at o';obtain⟨_,e1,st,a,tup,rfl,⟨xs,sq⟩,hall⟩:=t_ s' r q;refine⟨a,rfl,?_⟩;have fin:=o'.here s'
   cases tup with
   | true =>
    refine .inr ⟨⟨xs,by rw[<- hK]; exact sq⟩,fin _ λι1 H1 S1 e2 s1 st1=>?_⟩;obtain⟨ys,sq1,p1⟩:=hall ι1 H1 S1 e2 s1 st1;have sq1:SqT X.K H1 a ys:=by rw[<- hK]; exact sq1
    rw[e1];refine⟨λi d hd=>?_,ys,sq1,by rw[p1.length]; exact Zn _⟩;obtain⟨y,hy,r1⟩:=Paired.get p1 hd
    exact⟨⟨ys,y,sq1,hy⟩,λx H' ⟨e3,hx⟩=>by
     subst e3;have:=hx ys sq1;rw[hy] at this; cases this;exact⟨.refl,s1,r1⟩⟩
   | false =>
    refine .inl ⟨⟨xs,by rw[<- hK]; exact sq⟩,fin _ λι1 H1 S1 e2 s1 st1=>?_⟩;obtain⟨ys,sq1,p1⟩:=hall ι1 H1 S1 e2 s1 st1;have sq1:SqL X.K H1 a ys:=by rw[<- hK]; exact sq1
    rw[e1];refine⟨λi d hd=>?_,ys,sq1,by rw[p1.length]; exact Zn _⟩;obtain⟨y,hy,r1⟩:=Paired.get p1 hd
    exact⟨⟨ys,y,sq1,hy⟩,λx H' ⟨e3,hx⟩=>by
     subst e3;have:=hx ys sq1;rw[hy] at this; cases this;exact⟨.refl,s1,r1⟩⟩
  ·rw[q] at o'; exact o'.elim
theorem uD:∀{ds:WV} {k i:Nat} {d:D},(num k ds)[i]?=some d->∃e,ds[i]?=some e/\d=.tup [.int ((k+i:Nat):Int),e]
 | [],k,i,d,h=>by simp[num] at h
 | x::r,k,0,d,h=>by simp[num] at h; exact⟨x,rfl,by rw[<- h]; simp⟩
 | x::r,k,i+1,d,h=>by
  have h:(num (k+1) r)[i]?=some d:=by simpa [num] using h
  obtain⟨e,h1,h2⟩:=uD h;exact⟨e,by simpa using h1,by rw[h2]; congr 3; omega⟩
theorem wL:∀(ds:WV) (k:Nat),(num k ds).length=ds.length
 | [],_=>rfl
 | _::r,k=>by simp[num,wL r]
theorem yG{p:Pos}{elts:WS}{k1:Nat}{tp:Pos}(hK:Γ.K=X.K)(hg:Gl X "enumerate")(hm:X.mg "enumerate" = none)(hv:bootBuiltins "enumerate" = some (.type "enumerate"))(ha:PE X a (tM Γ xw ma))(hs:starEach [a] X.env=[(false,eval a X.env)]) :
  PI X (.Tuple elts k1 tp) (.Call (.Name "enumerate" p) [a] [] pos) (tMI Γ xw λσ=>ma σ>>=λd=>srcOf d>>=λs=>pure { s with its:=num 0 s.its }) :=
 PI.imp (EA hg hm hv (dJ ha d_ (by rw[hs]; rfl)) hs) λσ H R h=>by
  obtain⟨σd,ι,S,he,hs,ho⟩:=h;refine⟨σd,ι,S,he,hs,ho.bind.mono λd S' ι' H' _ _ ⟨s',e',o'⟩ v r=>?_⟩;rcases u5 d S' with⟨src,q⟩|q
  ·rw[aq q] at o';obtain⟨_,e1,st,a,tup,rfl,⟨xs,sq⟩,hall⟩:=t_ s' r q;have fin:=o'.here s';refine⟨tup,a,rfl,⟨xs,by rw[<- hK]; exact sq⟩,fin _ λι1 H1 S1 e2 s1 st1=>?_⟩;obtain⟨ys,sq1,p1⟩:=hall ι1 H1 S1 e2 s1 st1;have sq1:SqB X.K H1 tup a ys:=by rw[<- hK]; exact sq1
   refine⟨λi d hd=>?_,ys,sq1,by show ys.length<=(num 0 src.its).length; rw[wL,e1,p1.length]; exact Zn _⟩;obtain⟨e,he',rfl⟩:=uD hd;rw[e1] at he';obtain⟨y,hy,r1⟩:=Paired.get p1 he';refine⟨⟨ys,y,sq1,hy⟩,?_⟩;rintro x H' ⟨z,p,hz,hp,rfl,rfl⟩;have hz:=hz ys sq1;rw[hy] at hz; cases hz;refine⟨Ext.laid hp,s1.laid hp _,.jM cT (.cons ?_ (.cons (r1.ext (Ext.laid hp)) .nil))⟩;rw[XL]; exact .int _
  ·rw[bh q] at o'; exact o'.elim
theorem Aa(lo hi:Int):rng lo hi 1=(List.range (hi-lo).toNat).map λ(k:Nat)=>lo+k:=by
 unfold rng;rw[Ze (by decide)];have:(hi-lo+1-1)/1=hi-lo:=by rw[Q7]; omega
 rw[this];simp
theorem yz(lo hi:Int):rng lo hi (-1)=(List.range (lo-hi).toNat).map λ(k:Nat)=>lo-k:=by
 unfold rng;rw[Zg (by decide),Ze (by decide)];have:(lo-hi - -1-1) / -(-1)=lo-hi:=by rw[show(-(-1):Int)=1 from rfl,Q7]; omega
 rw[this];refine List.map_congr_left λk _=>?_
 omega
theorem pV{n i k:Nat}(h:(List.range n)[i]?=some k):k=i/\i<n:=by
 obtain⟨h1,h2⟩:=Zf.mp h;rw[List.getElem_range] at h2;rw[ZS] at h1;exact⟨h2.symm,h1⟩
theorem A5{ι:WL}{H:Hp}(lo hi:Int):nZ Γ ⟨(rng lo hi 1).map .int,none,[]⟩ (Itr lo (hi-lo).toNat) ι H:=λι1 H1 S1 e s1 st=>by
 rw[Aa,X3];refine⟨λi d hd=>?_,by show(hi-lo).toNat<=_; simp⟩;have hd:((List.range (hi-lo).toNat).map (D.int∘λ(k:Nat)=>lo+k))[i]?=some d:=hd;rw[ZJ,ZA] at hd;obtain⟨k,hk,rfl⟩:=hd;obtain⟨rfl,hlt⟩:=pV hk;exact⟨hlt,λx H' ⟨e1,e2⟩=>by subst e1; subst e2; exact⟨.refl,s1,.int _⟩⟩
theorem xg{ι:WL}{H:Hp}(lo hi:Int):nZ Γ ⟨(rng lo hi (-1)).map .int,none,[]⟩ (o8 lo (lo-hi).toNat) ι H:=λι1 H1 S1 e s1 st=>by
 rw[yz,X3];refine⟨λi d hd=>?_,by show(lo-hi).toNat<=_; simp⟩;have hd:((List.range (lo-hi).toNat).map (D.int∘λ(k:Nat)=>lo-k))[i]?=some d:=hd;rw[ZJ,ZA] at hd;obtain⟨k,hk,rfl⟩:=hd;obtain⟨rfl,hlt⟩:=pV hk;exact⟨hlt,λx H' ⟨e1,e2⟩=>by subst e1; subst e2; exact⟨.refl,s1,.int _⟩⟩
theorem kL{i:Int}(h:near i=true):-(2^62)<=i/\i<2^62:=Zk h
variable{b c:Expr}{m:Sg->M (List D)}{p:Pos}
theorem Out.monoE{α:Type}{r:Res α}{ι:WL}{H:Hp}{k k':α->af->List Addr->Hp->Prop}(h:Out Γ xw ι H r k)(f:∀a S' ι' H',r=.ok a S'->Ext ι ι' H H'->av Γ ι' H' S'->k a S' ι' H'->k' a S' ι' H'):Out Γ xw ι H r k':=by
 cases r with
 | ok a S'=>exact λι' H' e' s'=>f _ _ _ _ rfl e' s' (h ι' H' e' s')
 | exc c S'=>exact h
 | bad=>exact h
theorem zH(hg:Gl X "range")(hm:X.mg "range" = none)(ha:PA X [a] (tMA Γ xw m))(hs:starEach [a] X.env=[(false,eval a X.env)])(hlen:∀σ S ds S',m σ S=.ok ds S'->ds.length=1) :
  PI X tg (.Call (.Name "range" p) [a] [] pos) (tMI Γ xw λσ=>m σ>>=λds=>opt (cV ds)>>=λis=>pure ⟨is.map .int,none,[]⟩) :=
 PI.imp (DP hg hm ha hs) λσ H R h=>by
  obtain⟨σd,ι,S,he,hs,ho⟩:=h;refine⟨σd,ι,S,he,hs,Out.monoE ho.bind λds S' ι' H' eq _ _ ⟨s',e',o'⟩ vs rs=>?_⟩;have hl:=hlen _ _ _ _ eq;obtain⟨is,q,o'⟩:=Out.opt o';have fin:=o'.here s';obtain⟨d,_,_,_,rfl,rfl,r,rs,hl⟩:=Paired.step rs hl;obtain⟨rfl,rfl⟩:=Paired.last rs hl
  (
   cases r with
   | int j =>
    simp only[cV] at q;split at q
    ·rename_i hn;cases q;have hn:=kL hn;refine⟨j,rfl,hn.1,hn.2,fin _ ?_⟩;have:=A5 (Γ:=Γ) (ι:=ι') (H:=H') 0 j;rw[Int.sub_zero] at this;exact this
    ·cases q
   | _=>cases q)
theorem yM{d e f:D}{is:WE}(h:cV [d,e,f]=some is):∃i j,d=.int i/\e=.int j/\f=.int (-1)/\(-(2^62)<=i/\i<2^62)/\(-(2^62)<=j/\j<2^62)/\is=rng i j (-1):=by
 cases d with
 | int i=>cases e with
  | int j=>cases f with
   | int k =>
    have h:(if(near i&&near j&&decide (k=-1))=true then some (rng i j k) else none)=some is:=h;split at h
    ·rename_i hn;cases h;rw[Zl,Zl] at hn;have h3:k=-1:=Zk hn.2;subst h3;exact⟨i,j,rfl,rfl,rfl,kL hn.1.1,kL hn.1.2,rfl⟩
    ·cases h
   | _=>cases h
  | _=>cases h
 | _=>cases h
theorem xu(hg:Gl X "range")(hm:X.mg "range" = none)(ha:PA X [a,b,c] (tMA Γ xw m))(hs:starEach [a,b,c] X.env=[(false,eval a X.env),(false,eval b X.env),(false,eval c X.env)])(hs2:starEach [b,c] X.env=[(false,eval b X.env),(false,eval c X.env)])(hlen:∀σ S ds S',m σ S=.ok ds S'->ds.length=3) :
  PI X tg (.Call (.Name "range" p) [a,b,c] [] pos) (tMI Γ xw λσ=>m σ>>=λds=>opt (cV ds)>>=λis=>pure ⟨is.map .int,none,[]⟩) :=
 PI.imp (Hh hg hm ha hs hs2) λσ H R h=>by
  obtain⟨σd,ι,S,he,hs,ho⟩:=h;refine⟨σd,ι,S,he,hs,Out.monoE ho.bind λds S' ι' H' eq _ _ ⟨s',e',o'⟩ vs rs=>?_⟩;have hl:=hlen _ _ _ _ eq;obtain⟨is,q,o'⟩:=Out.opt o';have fin:=o'.here s';obtain⟨d,_,_,_,rfl,rfl,r,rs,hl⟩:=Paired.step rs hl;obtain⟨e,_,_,_,rfl,rfl,r2,rs,hl⟩:=Paired.step rs hl;obtain⟨f,_,_,_,rfl,rfl,r3,rs,hl⟩:=Paired.step rs hl;obtain⟨rfl,rfl⟩:=Paired.last rs hl;obtain⟨i,j,rfl,rfl,rfl,h1,h2,rfl⟩:=yM q;cases r; cases r2; cases r3;exact⟨i,j,rfl,⟨h1.1,h1.2,h2.1,h2.2⟩,fin _ (xg i j)⟩
noncomputable def tMG(Γ:Gx)(t:Tg):TG:=λv σ H Q=>∃σd ι S d σd',a_ Γ ι H σ σd/\av Γ ι H S/\Rep Γ ι H d v/\aO t d σd S=.ok σd' S/\∀σ',a_ Γ ι H σ' σd'->(∀j,t.has j=false->σ'[j]?=σ[j]?)->Q σ' H
theorem PG.imp{target:Expr}{t t':TG}(h:PG X target t)(f:∀v σ H Q,t' v σ H Q->t v σ H Q):PG X target t':=λpins s σ H v u Q I r q=>h pins s σ H v u Q I r (f v σ H Q q)
theorem yp{i:Nat}{x:Str}(hN:X.N.Nodup)(hi:X.N[i]?=some x)(hx:Loc X.env.scope x)(hf:X.fn x=true\/X.env.scope.names.lookup x=some .local):PG X (.Name x pos) (tMG Γ (.one i)) :=
 PG.imp (vJ hN hi hx hf) λv σ H Q h=>by
  obtain⟨σd,ι,S,d,σd',he,hs,r,hb,q⟩:=h;cases hb;exact q _ (he.set i r) λj hj=>by rw[ZR (by intro z; subst z; simp[Tg.has] at hj)]
noncomputable def o9:List Nat->TGs
 | []=>qN
 | i::r=>qJ (gD i) (o9 r)
noncomputable def jH(X:Cx):List Expr->List Nat->Prop:=Paired λe i=>∃x p,e=.Name x p/\X.N[i]?=some x/\Loc X.env.scope x/\(X.fn x=true\/X.env.scope.names.lookup x=some .local)
theorem uS(hN:X.N.Nodup):∀{es:WS} {is:List Nat},jH X es is->PGs X es (o9 is)
 | _,_,.nil=>EF
 | _,_,.cons ⟨x,p,e,h1,h2,h3⟩ r=>by
  subst e;exact zm (vJ hN h1 h2 h3) (uS hN r) rfl
theorem lR:∀{es:WS} {is:List Nat},jH X es is->(assignEach es X.env).length=is.length/\(assignEach es X.env).findIdx? (·.1)=none
 | _,_,.nil=>⟨rfl,rfl⟩
 | _,_,.cons ⟨x,p,e,h1,h2,h3⟩ r=>by
  subst e;obtain⟨a,b⟩:=lR r;refine⟨Qb (· + 1) a,?_⟩;show List.findIdx? (·.1) ((false,_)::assignEach _ X.env)=none;rw[List.findIdx?_cons];simp only[Zw,ZK];rw[b]; rfl
theorem pN{ι:WL}{H:Hp}{Q:L2.St->Hp->Prop}:∀{is:List Nat} {ds:WV} {xs:WT} {σ:L2.St} {σd:Sg},ds.length=is.length->az Γ ι H ds xs->a_ Γ ι H σ σd->(∀σ',a_ Γ ι H σ' (b_ is ds σd)->(∀j,is.contains j=false->σ'[j]?=σ[j]?)->Q σ' H)->o9 is xs σ H Q
 | [],[],_,σ,σd,_,.nil,he,q=>⟨rfl,q _ he λ_ _=>rfl⟩
 | i::is,d::ds,_,σ,σd,hl,.cons (b:=v) r rr,he,q=>⟨v,_,rfl,pN (by simpa using hl) rr (he.set i r) λσ' h' hl'=>q σ' h' λj hj=>by
   rw[List.contains_cons,QC] at hj;rw[hl' j hj.2,ZR (by intro z; subst z; simp at hj)]⟩
 | [],_::_,_,_,_,hl,_,_,_=>by simp at hl
 | _::_,[],_,_,_,hl,_,_,_=>by simp at hl
theorem BP{es:WS}{is:List Nat}{k:Nat}(hK:Γ.K=X.K)(hc:X.calm=true)(hN:X.N.Nodup)(hn:jH X es is):PG X (.Tuple es k pos) (tMG Γ (.many is)) :=
 PG.imp (xM hc (uS hN hn) (lR hn).1 (lR hn).2) λv σ H Q h=>by
  obtain⟨σd,ι,S,d,σd',he,hs,r,hb,q⟩:=h
  cases d with
  | tup ds =>
   obtain⟨a,xs,rfl,t,p⟩:=r.bJ;have hb:guard (decide (ds.length=is.length)) (pure (b_ is ds σd):M Sg) S=.ok σd' S:=hb
   by_cases hl:ds.length=is.length
   ·rw[show decide (ds.length=is.length)=true from Zj hl] at hb;cases hb;exact⟨a,xs,rfl,by rw[<- hK]; exact t,by rw[<- p.length]; exact hl,pN hl p he q⟩
   ·rw[show decide (ds.length=is.length)=false from Zs hl] at hb;cases hb
  | _=>cases hb
theorem l5(t:Tg)(d:D)(σ:Sg)(S:af):(∃σ',aO t d σ S=.ok σ' S/\σ'.length=σ.length)\/aO t d σ S=.bad:=by
 have hlen:∀(is:List Nat) (ds:WV) (σ:Sg),(b_ is ds σ).length=σ.length:=by
  intro is
  induction is with
  | nil=>intro ds σ; cases ds<;>rfl
  | cons i r ih=>intro ds σ; cases ds with
   | nil=>rfl
   | cons d ds=>show(b_ r ds (σ.set i (some d))).length=_; rw[ih,XS]
 cases t with
 | one i=>exact .inl ⟨_,rfl,by rw[XS]⟩
 | many is =>
  cases d with
  | tup ds =>
   show(∃σ',guard (decide (ds.length=is.length)) (pure (b_ is ds σ):M Sg) S=.ok σ' S/\_)\/guard (decide (ds.length=is.length)) (pure (b_ is ds σ):M Sg) S=.bad
   by_cases hl:ds.length=is.length
   ·rw[show decide (ds.length=is.length)=true from Zj hl];exact .inl ⟨_,rfl,hlen _ _ _⟩
   ·rw[show decide (ds.length=is.length)=false from Zs hl];exact .inr rfl
  | _=>exact .inr rfl
theorem Out.aO{α:Type}{t:Tg}{d:D}{σd:Sg}{ι:WL}{H:Hp}{S:af}{f:Sg->M α}{k:α->af->List Addr->Hp->Prop}(ho:Out Γ xw ι H ((EV.aO t d σd>>=f) S) k):∃σd',EV.aO t d σd S=.ok σd' S/\σd'.length=σd.length/\Out Γ xw ι H (f σd' S) k:=by
 rcases l5 t d σd S with⟨σ',e,l⟩|e
 ·rw[aq e] at ho; exact⟨σ',e,l,ho⟩
 ·rw[bh e] at ho; exact ho.elim
end
end EV

namespace ENM
open PySem PyProof.Rows
open AutoSeq1 (wpAny_loadPart')
theorem Seq.keep{tup:Bool}{h h':Heap}{a:Addr}{us:WQ}(x:Seq tup h a us)(e:∀o,h.get? a=some o->h'.get? a=some o):Seq tup h' a us:=by
 cases tup with
 | true=>obtain⟨o,ho,r⟩:=(show h.IsTuple a us from x); exact⟨o,e _ ho,r⟩
 | false=>obtain⟨o,ho,r⟩:=(show h.IsList a us from x); exact⟨o,e _ ho,r⟩
section
variable{prog:WK}{w:WN}{A:Around}{E:WC}{s:WI}
variable{ta tb:Bool}{c pI pO i j a b:Addr}{m n:Nat}{us vs:WQ}{u v old1 old2:Value}
theorem C9{Q:WC}(ap:ZipApart c pI pO i j a b)(hc:IsZip s.heap c pI pO .none)(hI:IsPair s.heap pI (.ref i) (.ref j))(hO:IsPair s.heap pO old1 old2)
  (h1:Inn ta s.heap i a m) (h2:Inn tb s.heap j b n) (s1:Seq ta s.heap a us) (s2:Seq tb s.heap b vs) (hu:us[m]?=some u) (hv:vs[n]?=some v)
  (fin:∀h',IsZip h' c pI pO (rawInt s.heap.objs.size)->IsPair h' pO u v->Inn ta h' i a (m+1)->Inn tb h' j b (n+1)->IsPair h' s.heap.objs.size u v->h'.objs.size=s.heap.objs.size+1 ->
   (∀d o,d≠c->d≠pO->d≠i->d≠j->s.heap.get? d=some o->h'.get? d=some o)->Q (.ref s.heap.objs.size) { s with heap:=h' }) :
  wpAny (model prog w) A (Builtin.«zip.__next__» ⟨[.ref c],[]⟩) (λe z=>∃r,e=.done (.ret r)/\Q r z) E s:=by
 show wpAny _ _ (field (.ref c) 2>>=_) _ _ s;refine Za (ZW hc rfl (x:=.bool false) rfl ?_);show wpAny _ _ (field (.ref c) 3>>=_) _ _ s;refine Za (ZW hc rfl (x:=.ref pI) rfl ?_);refine Za (XC hI rfl ?_);show wpAny _ _ (Builtin.SmallTypes.ownedTupleIsFree (.ref c)>>=_) _ _ s;refine Za ?_;unfold Builtin.SmallTypes.ownedTupleIsFree;refine Za (ZW hc rfl (x:=.none) rfl (Zd ?_));simp only[Xa];refine Za (X2 (Za (ZW hc rfl (x:=.ref pO) rfl ?_)));refine Za (Z5 hc (by simp) λf1 c1 e1=>?_);replace c1:IsZip f1 c pI pO .ellipsis:=c1;refine Za ?_;simp only[List.zipIdx_cons,List.zipIdx_nil,Wg,Wn];refine Za (Za (wpAny_onRaise (show wpAny _ _ (Builtin.SmallTypes.nextOf (.ref i)>>=_) _ _ _ from ?_)));refine Za (kH (s:={ s with heap:=f1 }) (h1.keep λo z=>e1.extBut _ o ap.i1z z) (s1.keep λo z=>e1.extBut _ o ap.l1z z) hu λf2 k2 e2=>Zd ?_);replace e2:Heap.SameBut i f1 f2:=e2;have O2:IsPair f2 pO old1 old2:=e2.extBut _ _ ap.TOi1 (e1.extBut _ _ ap.TOz hO);refine Za (XC O2 rfl (Za (Wh O2 λf3 O3 e3=>?_)));replace O3:IsPair f3 pO u old2:=O3;replace e3:Heap.SameBut pO f2 f3:=e3;refine Za (wpAny_letGo (Zd (Za (Za (wpAny_onRaise (show wpAny _ _ (Builtin.SmallTypes.nextOf (.ref j)>>=_) _ _ _ from ?_))))));refine Za (kH (s:={ s with heap:=f3 }) (h2.keep λo z=>e3.extBut _ o ap.TOi2.symm (e2.extBut _ o ap.i12.symm (e1.extBut _ o ap.i2z z))) (s2.keep λo z=>e3.extBut _ o ap.l2TO (e2.extBut _ o ap.l2i1 (e1.extBut _ o ap.l2z z))) hv λf4 k4 e4=>Zd ?_);replace e4:Heap.SameBut j f3 f4:=e4;have O4:IsPair f4 pO u old2:=e4.extBut _ _ ap.TOi2 O3;refine Za (XC O4 rfl (Za (Wh O4 λf5 O5 e5=>?_)));replace O5:IsPair f5 pO u v:=O5;replace e5:Heap.SameBut pO f4 f5:=e5;refine Za (wpAny_letGo (Zd (Zd (Za (XC O5 rfl (Za (wpAny_newTuple ?_)))))));have sz:f5.objs.size=s.heap.objs.size:=by rw[e5.1,e4.1,e3.1,e2.1]; exact e1.1
 have c5:IsZip f5 c pI pO .ellipsis:=e5.extBut _ _ ap.TOz.symm (e4.extBut _ _ ap.i2z.symm (e3.extBut _ _ ap.TOz.symm (e2.extBut _ _ ap.i1z.symm c1)));have k5:∀d o,d≠c->d≠pO->d≠i->d≠j->s.heap.get? d=some o->f5.get? d=some o:=λd o d1 d2 d3 d4 z=>e5.extBut _ _ d2 (e4.extBut _ _ d4 (e3.extBut _ _ d2 (e2.extBut _ _ d3 (e1.extBut _ _ d1 z))))
 have I5:Inn ta f5 i a (m+1):=k2.keep λo z=>e5.extBut _ o ap.TOi1.symm (e4.extBut _ o ap.i12 (e3.extBut _ o ap.TOi1.symm z))
 have J5:Inn tb f5 j b (n+1):=k4.keep λo z=>e5.extBut _ o ap.TOi2.symm z
 have clt:c<f5.objs.size:=Zo c5;show wpAny _ _ (Builtin.SmallTypes.ownedTupleHandOut (.ref c) (.ref f5.objs.size)>>=_) _ _ _;refine Za ?_;unfold Builtin.SmallTypes.ownedTupleHandOut;have c6:IsZip (f5.push { cls:=.type "tuple",data:=.seq #[u,v] }) c pI pO .ellipsis:=Zc _ c5;refine Za (Z5 c6 (by simp) λf7 c7 e7=>?_);replace c7:IsZip f7 c pI pO (rawInt f5.objs.size):=c7;refine Z5 c7 (by simp) λf8 c8 e8=>?_
 replace c8:IsZip f8 c pI pO (rawInt f5.objs.size):=c8;replace e7:Heap.SameBut c (f5.push { cls:=.type "tuple",data:=.seq #[u,v] }) f7:=e7;replace e8:Heap.SameBut c f7 f8:=e8;have up:∀d o,d≠c->f5.get? d=some o->f8.get? d=some o:=λd o dc z=>e8.extBut _ _ dc (e7.extBut _ _ dc (Zc _ z))
 have T8:IsPair f8 f5.objs.size u v:=e8.extBut _ _ (Xw clt) (e7.extBut _ _ (Xw clt) (Zy _ rfl));have s8:f8.objs.size=f5.objs.size+1:=by rw[e8.1,e7.1,Z2]
 rw[sz] at c8 T8 s8;refine Zd ⟨_,rfl,(show Q (.ref f5.objs.size) _ from ?_)⟩;rw[sz];exact fin f8 c8 (up _ _ ap.TOz O5) (I5.keep λo z=>up _ o ap.i1z z) (J5.keep λo z=>up _ o ap.i2z z) T8 s8 λd o d1 d2 d3 d4 z=>up d o d1 (k5 d o d1 d2 d3 d4 z)
theorem HN{Q:Fin->Shared->Prop}(calm:A.handled=none)(ap:ZipApart c pI pO i j a b)(hc:IsZip s.heap c pI pO .none)(hI:IsPair s.heap pI (.ref i) (.ref j))(hO:IsPair s.heap pO old1 old2)
  (h1:Inn ta s.heap i a m) (h2:Inn tb s.heap j b n) (s1:Seq ta s.heap a us) (s2:Seq tb s.heap b vs) (he:us[m]?=none\/vs[n]?=none)
  (fin:∀h' e,(∀d o,d≠c->d≠pO->d≠i->d≠j->s.heap.get? d=some o->h'.get? d=some o)->(∃o,h'.get? e=some o/\o.cls=.type "StopIteration")->E (.ref e) { s with heap:=h' }) :
  wpAny (model prog w) A (Builtin.«zip.__next__» ⟨[.ref c],[]⟩) Q E s:=by
 show wpAny _ _ (field (.ref c) 2>>=_) _ _ s;refine Za (ZW hc rfl (x:=.bool false) rfl ?_);show wpAny _ _ (field (.ref c) 3>>=_) _ _ s;refine Za (ZW hc rfl (x:=.ref pI) rfl ?_);refine Za (XC hI rfl ?_);show wpAny _ _ (Builtin.SmallTypes.ownedTupleIsFree (.ref c)>>=_) _ _ s;refine Za ?_;unfold Builtin.SmallTypes.ownedTupleIsFree;refine Za (ZW hc rfl (x:=.none) rfl (Zd ?_));simp only[Xa];refine Za (X2 (Za (ZW hc rfl (x:=.ref pO) rfl ?_)));refine Za (Z5 hc (by simp) λf1 c1 e1=>?_);replace c1:IsZip f1 c pI pO .ellipsis:=c1;refine Za ?_;simp only[List.zipIdx_cons,List.zipIdx_nil,Wg,Wn];refine Za (Za (wpAny_onRaise (show wpAny _ _ (Builtin.SmallTypes.nextOf (.ref i)>>=_) _ _ _ from ?_)));have g1:Inn ta f1 i a m:=h1.keep λo z=>e1.extBut _ o ap.i1z z
 have q1:Seq ta f1 a us:=s1.keep λo z=>e1.extBut _ o ap.l1z z
 cases hu:us[m]? with
 | none =>
  refine Za (o6 (s:={ s with heap:=f1 }) calm g1 q1 hu λf2 e e2 ⟨oe,w1,w2⟩=>?_);replace e2:Heap.ExtBut i f1 f2:=e2;have c2:IsZip f2 c pI pO .ellipsis:=e2 _ _ ap.i1z.symm c1;have ne:e≠c:=λz=>by rw[z] at w1; rw[c2] at w1; cases w1; simp at w2
  refine Z5 c2 (by simp) λf3 _ e3=>fin f3 e (λd o d1 _ d3 _ z=>e3.extBut _ _ d1 (e2 _ _ d3 (e1.extBut _ _ d1 z))) ⟨oe,e3.extBut _ _ ne w1,w2⟩
 | some u =>
  have hv:vs[n]?=none:=he.resolve_left λz=>by rw[hu] at z; cases z
  refine Za (kH (s:={ s with heap:=f1 }) g1 q1 hu λf2 k2 e2=>Zd ?_);replace e2:Heap.SameBut i f1 f2:=e2;have O2:IsPair f2 pO old1 old2:=e2.extBut _ _ ap.TOi1 (e1.extBut _ _ ap.TOz hO);refine Za (XC O2 rfl (Za (Wh O2 λf3 O3 e3=>?_)));replace e3:Heap.SameBut pO f2 f3:=e3;refine Za (wpAny_letGo (Zd (Za (Za (wpAny_onRaise (show wpAny _ _ (Builtin.SmallTypes.nextOf (.ref j)>>=_) _ _ _ from ?_))))));refine Za (o6 (s:={ s with heap:=f3 }) calm (h2.keep λo z=>e3.extBut _ o ap.TOi2.symm (e2.extBut _ o ap.i12.symm (e1.extBut _ o ap.i2z z))) (s2.keep λo z=>e3.extBut _ o ap.l2TO (e2.extBut _ o ap.l2i1 (e1.extBut _ o ap.l2z z))) hv λf4 e e4 ⟨oe,w1,w2⟩=>?_);replace e4:Heap.ExtBut j f3 f4:=e4;have c4:IsZip f4 c pI pO .ellipsis:=e4 _ _ ap.i2z.symm (e3.extBut _ _ ap.TOz.symm (e2.extBut _ _ ap.i1z.symm c1));have ne:e≠c:=λz=>by rw[z] at w1; rw[c4] at w1; cases w1; simp at w2
  refine Z5 c4 (by simp) λf5 _ e5=>fin f5 e (λd o d1 d2 d3 d4 z=>e5.extBut _ _ d1 (e4 _ _ d4 (e3.extBut _ _ d2 (e2.extBut _ _ d3 (e1.extBut _ _ d1 z))))) ⟨oe,e5.extBut _ _ ne w1,w2⟩
theorem Bk{Q:Option Value->Shared->Prop}(ap:ZipApart c pI pO i j a b)(hc:IsZip s.heap c pI pO .none)(hI:IsPair s.heap pI (.ref i) (.ref j))(hO:IsPair s.heap pO old1 old2)
  (h1:Inn ta s.heap i a m) (h2:Inn tb s.heap j b n) (s1:Seq ta s.heap a us) (s2:Seq tb s.heap b vs) (hu:us[m]?=some u) (hv:vs[n]?=some v)
  (fin:∀h',IsZip h' c pI pO (rawInt s.heap.objs.size)->IsPair h' pO u v->Inn ta h' i a (m+1)->Inn tb h' j b (n+1)->IsPair h' s.heap.objs.size u v->h'.objs.size=s.heap.objs.size+1 ->
   (∀d o,d≠c->d≠pO->d≠i->d≠j->s.heap.get? d=some o->h'.get? d=some o)->Q (some (.ref s.heap.objs.size)) { s with heap:=h' }) :
  wpAny (model prog w) A (pyNext (.ref c)) Q E s:=by
 have ty:s.TypeIs (.ref c) "zip":=⟨_,hc,rfl⟩
 unfold pyNext
 exact Za (XX (ZY (name:=Str.ofString "__next__") ty Wi (Z4 Wi ty F.entry_zip_next
  (C9 ap hc hI hO h1 h2 s1 s2 hu hv λh' x1 x2 x3 x4 x5 x6 x7=>Zd (fin h' x1 x2 x3 x4 x5 x6 x7)) (F.args_zip_next_1 _))))
theorem IW{Q:Option Value->Shared->Prop}(calm:A.handled=none)(ap:ZipApart c pI pO i j a b)(hc:IsZip s.heap c pI pO .none)(hI:IsPair s.heap pI (.ref i) (.ref j))(hO:IsPair s.heap pO old1 old2)
  (h1:Inn ta s.heap i a m) (h2:Inn tb s.heap j b n) (s1:Seq ta s.heap a us) (s2:Seq tb s.heap b vs) (he:us[m]?=none\/vs[n]?=none)
  (fin:∀h',(∀d o,d≠c->d≠pO->d≠i->d≠j->s.heap.get? d=some o->h'.get? d=some o)->Q none { s with heap:=h' }):wpAny (model prog w) A (pyNext (.ref c)) Q E s:=by
 have ty:s.TypeIs (.ref c) "zip":=⟨_,hc,rfl⟩
 unfold pyNext
 refine Za (XX (ZY (name:=Str.ofString "__next__") ty Wi (Z4 Wi ty F.entry_zip_next
  (HN calm ap hc hI hO h1 h2 s1 s2 he λh' e hk ⟨o,w1,w2⟩=>?_) (F.args_zip_next_1 _))))
 refine Za (Q1 (T:="StopIteration") (b:=true) ⟨o,w1,w2⟩ isSubtype_stop (Zd (fin _ hk)))
noncomputable def itN:Bool->String
 | true=>"tuple_iterator"
 | false=>"list_iterator"
abbrev itO(t:Bool)(x:Addr):Obj:={ cls:=.type (itN t),data:=.fields #[.ref x,.int 0 0] }
theorem qg{t:Bool}{x:Addr}{ws:WQ}{Q:WC}(h:Seq t s.heap x ws)(q:Q (.ref s.heap.objs.size) { s with heap:=s.heap.push (itO t x) }):wpAny (model prog w) A (pyIter (.ref x)) Q E s:=by
 cases t with
 | true=>exact X4 h q
 | false=>exact QV h q
theorem rY(t:Bool)(h:Heap)(x:Addr):Inn t (h.push (itO t x)) h.objs.size x 0:=by
 cases t with
 | true=>exact⟨_,Zy _ rfl,rfl,rfl⟩
 | false=>exact⟨_,Zy _ rfl,rfl,rfl⟩
abbrev zp2(ta tb:Bool)(h:Heap)(a b:Addr):Heap:=(h.push (itO ta a)).push (itO tb b)
abbrev zp3(ta tb:Bool)(h:Heap)(a b:Addr):Heap:=(zp2 ta tb h a b).push { cls:=.type "tuple",data:=.seq #[.ref h.objs.size,.ref (h.push (itO ta a)).objs.size] }
abbrev zp4(ta tb:Bool)(h:Heap)(a b:Addr):Heap:=(zp3 ta tb h a b).push { cls:=.type "tuple",data:=.seq #[.none,.none] }
abbrev zp5(ta tb:Bool)(h:Heap)(a b:Addr):Heap:=(zp4 ta tb h a b).push { cls:=.type "zip",data:=.fields #[.none,.bool false,.bool false,.ref (zp2 ta tb h a b).objs.size,.ref (zp3 ta tb h a b).objs.size] }
theorem Gn(ta tb:Bool)(a b:Addr)(us vs:WQ) :
  Meets (Builtin.«zip.__new__» ⟨[.type "zip",.ref a,.ref b],[]⟩) (λ_ R s=>Seq ta s.heap a us/\Seq tb s.heap b vs/\R (.ok (.ret (.ref (zp4 ta tb s.heap a b).objs.size))) { s with heap:=zp5 ta tb s.heap a b }) :=
 .of_wp λprog w A R s h=>by
  obtain⟨hp,g,d,tk,os⟩:=s;obtain⟨s1,s2,h⟩:=h;have ks:=sub_zip;have i1:∀{Q:WC} {A E},Q (.ref hp.objs.size) ⟨hp.push (itO ta a),g,d,tk,os⟩->wpAny (model prog w) A (pyIter (.ref a)) Q E ⟨hp,g,d,tk,os⟩:=λq=>qg (s:=⟨hp,g,d,tk,os⟩) s1 q
  have i2:∀{Q:WC} {A E},Q (.ref (hp.push (itO ta a)).objs.size) ⟨zp2 ta tb hp a b,g,d,tk,os⟩->wpAny (model prog w) A (pyIter (.ref b)) Q E ⟨hp.push (itO ta a),g,d,tk,os⟩:=λq=>qg (s:=⟨hp.push (itO ta a),g,d,tk,os⟩) (s2.keep λo e=>Zc _ e) q
  wp_walk using i1,i2
  exact⟨_,rfl,h⟩
theorem Iv{Q:WC}(s1:Seq ta s.heap a us)(s2:Seq tb s.heap b vs)
  (q:∀h',IsZip h' (s.heap.objs.size+4) (s.heap.objs.size+2) (s.heap.objs.size+3) .none->IsPair h' (s.heap.objs.size+2) (.ref s.heap.objs.size) (.ref (s.heap.objs.size+1))->IsPair h' (s.heap.objs.size+3) .none .none ->
   Inn ta h' s.heap.objs.size a 0->Inn tb h' (s.heap.objs.size+1) b 0->(∀d o,s.heap.get? d=some o->h'.get? d=some o)->Q (.ref (s.heap.objs.size+4)) { s with heap:=h' }) :
  wpAny (model prog w) A (call (.type "zip") [.ref a,.ref b]) Q E s:=by
 refine callType_new F.called_zip (by decide) (F.typeCall_zip_2 _ _) (F.newCall_zip_2 _ _) (λx=>F.args_object_init_3 x _ _) F.entry_zip_new (Gn ta tb a b us vs) ⟨s1,s2,?_⟩;have n1:(s.heap.push (itO ta a)).objs.size=s.heap.objs.size+1:=Z2 ..;have n2:(zp2 ta tb s.heap a b).objs.size=s.heap.objs.size+2:=by rw[Z2,n1]
 have n3:(zp3 ta tb s.heap a b).objs.size=s.heap.objs.size+3:=by rw[Z2,n2]
 have n4:(zp4 ta tb s.heap a b).objs.size=s.heap.objs.size+4:=by rw[Z2,n3]
 have x5:(zp5 ta tb s.heap a b).get? (zp4 ta tb s.heap a b).objs.size=some _:=Zy _ rfl;have x4:(zp5 ta tb s.heap a b).get? (zp3 ta tb s.heap a b).objs.size=some _:=Zc _ (Zy _ rfl);have x3:(zp5 ta tb s.heap a b).get? (zp2 ta tb s.heap a b).objs.size=some _:=Zc _ (Zc _ (Zy _ rfl));have x2:Inn tb (zp5 ta tb s.heap a b) (s.heap.push (itO ta a)).objs.size b 0:=(rY tb (s.heap.push (itO ta a)) b).keep λo e=>Zc _ (Zc _ (Zc _ e))
 have x1:Inn ta (zp5 ta tb s.heap a b) s.heap.objs.size a 0:=(rY ta s.heap a).keep λo e=>Zc _ (Zc _ (Zc _ (Zc _ e)))
 show _/\_;rw[n2,n3,n4] at x5;rw[n1,n2] at x3;rw[n3] at x4;rw[n1] at x2;rw[n4];exact⟨⟨_,x5,rfl⟩,q _ x5 x3 x4 x1 x2 λd o e=>Zc _ (Zc _ (Zc _ (Zc _ (Zc _ e))))⟩
end
end ENM
namespace L2
open PySem PySem.Spec PyProof.Rows ENM
noncomputable def Itz(K:WG)(ta tb:Bool)(a b:Addr):It :=
 ⟨λi H=>∃xs ys x y,SqB K H ta a xs/\SqB K H tb b ys/\xs[i]?=some x/\ys[i]?=some y,
  λi H x H'=>∃u v p,(∀xs,SqB K H ta a xs->xs[i]?=some u)/\(∀ys,SqB K H tb b ys->ys[i]?=some v)/\H p=none/\H'=upd H p (.tup [u,v])/\x=.ref p,
  λi H=>∃xs ys,SqB K H ta a xs/\SqB K H tb b ys/\(xs.length<=i\/ys.length<=i)⟩
theorem zN{P:WK}{w:WN}{K:WG}{elts:WS}{k1:Nat}{tp:Pos}(ta tb:Bool){a b c pI pO it jt:Addr}(ap:ZipApart c pI pO it jt a b) :
  Turn P w K (.Tuple elts k1 tp) (Itz K ta tb a b) [c,pI,pO,it,jt] c (λi h=>IsZip h c pI pO .none/\IsPair h pI (.ref it) (.ref jt)/\(∃x y,IsPair h pO x y)/\Inn ta h it a i/\Inn tb h jt b i) where
 mem:=by simp
 obj:=λi h ⟨z1,z2,⟨x,y,z3⟩,z4,z5⟩ d hd=>by
  simp only[Zm,QE,Xf] at hd;rcases hd with rfl|rfl|rfl|rfl|rfl
  ·exact⟨_,z1,λv z=>by
    have z':Data.fields _=Data.cell v:=z;cases z'⟩
  ·exact⟨_,z2,λv z=>by
    have z':Data.seq _ _=Data.cell v:=z;cases z'⟩
  ·exact⟨_,z3,λv z=>by
    have z':Data.seq _ _=Data.cell v:=z;cases z'⟩
  ·exact z4.there
  ·exact z5.there
 keep:=λi h h' ⟨z1,z2,⟨x,y,z3⟩,z4,z5⟩ k =>
  ⟨k c (by simp) _ z1,k pI (by simp) _ z2,⟨x,y,k pO (by simp) _ z3⟩,z4.keep λo e=>k it (by simp) o e,z5.keep λo e=>k jt (by simp) o e⟩
 item:=by
  intro X hP hw hK hc i pins s σ H E I hf st hg;subst hP hw hK;obtain⟨z1,z2,⟨x0,y0,z3⟩,z4,z5⟩:=st;obtain⟨xs,ys,x,y,sq1,sq2,hx,hy⟩:=hg;obtain⟨its,rv,hs⟩:=I.ek sq1;obtain⟨jts,rw',hs2⟩:=I.ek sq2;obtain⟨u,hu,ru⟩:=rv.get hx;obtain⟨v,hv,rv'⟩:=rw'.get hy;refine Bk ap z1 z2 z3 z4 z5 hs hs2 (u:=u) (v:=v) (by simpa using hu) (by simpa using hv) λh' a1 a2 a3 a4 a5 a6 hk=>?_
  refine⟨_,rfl,wpAny_letOwnedTupleGo_zip a1 λh2 he2 sb2=>?_⟩;replace sb2:Heap.SameBut c h' h2:=sb2;have clt:c<s.heap.objs.size:=Zo z1;have hp:H s.heap.objs.size=none:=I.hok.fresh (Zn _)
  have kept:∀d o,d ∉ [c,pO,it,jt]->s.heap.get? d=some o->h2.get? d=some o:=λd o hd e =>
   sb2.extBut d o (λz=>hd (by simp[z])) (hk d o (λz=>hd (by simp[z])) (λz=>hd (by simp[z])) (λz=>hd (by simp[z])) (λz=>hd (by simp[z])) e)
  have sub:∀d∈[c,pO,it,jt],d∈[c,pI,pO,it,jt]:=λd hd=>by
   simp only[Zm,QE,Xf] at hd ⊢;rcases hd with h|h|h|h
   ·exact .inl h
   ·exact .inr (.inr (.inl h))
   ·exact .inr (.inr (.inr (.inl h)))
   ·exact .inr (.inr (.inr (.inr h)))
  have tp2:h2.get? s.heap.objs.size=some { cls:=.type "tuple",data:=.seq #[u,v] }:=sb2.extBut _ _ (Xw clt) a5
  have hn:∀d o,H d=some o->d ∉ [c,pO,it,jt]:=λd o q hd=>by
   have:=(hf d (sub d hd)).1;rw[q] at this; cases this
  have I2:Inv X pins σ (upd H s.heap.objs.size (.tup [x,y])) { s with heap:=h2 }:=by
   refine I.step (t':=s.toks) (g':=s.gens) (d':=s.drawn) (ch:=[c,pO,it,jt]) (λd hd=>?_) (λd o _ _ hc e _=>kept d o hc e)
    (λd o _ _ hc e _=>⟨o.slots,kept d o hc e⟩) (λd o _ e n=>by rw[aF (ZC (Zo e))]; exact n)
    (λd o hc e=>⟨o,kept d o hc e⟩) (λd ys q=>by rw[aF (bu q hp)]; exact q) (λd o u q=>by rw[aF (bu q hp)]; exact q)
    (λd ps q=>⟨#[],by rw[aF (bu q hp),q]; simp⟩) (λm hm=>?_) ?_ I.bare
   ·obtain⟨f0,f1,f2,f3,f4,f5⟩:=hf d (sub d hd);exact⟨f3,f1,f4,f5⟩
   ·obtain⟨o,es,ep,ho',r⟩:=hm;exact⟨o,es,ep,kept _ o (λhd=>(hf _ (sub _ hd)).2.1 rfl) ho',r⟩
   ·intro d o q
    by_cases hd:d=s.heap.objs.size
    ·subst hd;rw[cT] at q;cases q;exact⟨by show 2<=sizeLine; decide,[u,v],.cons ru (.cons rv' .nil),_,tp2,rfl,_,rfl⟩
    ·rw[aF hd] at q;refine(I.hok d o q).stay (λe w hc e1=>?_) (λe q=>by rw[aF (bu q hp)]; exact q) λe ys q=>by rw[aF (bu q hp)]; exact q
     rcases hc with rfl|hc
     ·exact kept _ w (hn _ _ q) e1
     ·exact kept e w (hn _ _ hc) e1
  refine⟨.ref s.heap.objs.size,upd H s.heap.objs.size (.tup [x,y]),I2,rfl,⟨x,y,_,λws hw=>by rw[I.mF hw sq1]; exact hx,λws hw=>by rw[I.mF hw sq2]; exact hy,hp,rfl,rfl⟩,
   ⟨he2,sb2.extBut _ _ ap.TIz (hk _ _ ap.TIz ap.TITO ap.TIi1 ap.TIi2 z2),⟨u,v,sb2.extBut _ _ ap.TOz a2⟩,a3.keep λo e=>sb2.extBut _ o ap.i1z e,a4.keep λo e=>sb2.extBut _ o ap.i2z e⟩,λd hd=>?_⟩
  have f0:=(hf d hd).1
  by_cases e:d=s.heap.objs.size
  ·exfalso;subst e;simp only[Zm,QE,Xf] at hd;rcases hd with h|h|h|h|h
   ·exact absurd (Zo z1) (by rw[<- h]; exact Z6 _)
   ·exact absurd (Zo z2) (by rw[<- h]; exact Z6 _)
   ·exact absurd (Zo z3) (by rw[<- h]; exact Z6 _)
   ·obtain⟨o,e,_⟩:=z4.there; exact absurd (Zo e) (by rw[<- h]; exact Z6 _)
   ·obtain⟨o,e,_⟩:=z5.there; exact absurd (Zo e) (by rw[<- h]; exact Z6 _)
  ·rw[aF e]; exact f0
 done:=by
  intro X hP hw hK hc i pins s σ H E I hf st hg;subst hP hw hK;obtain⟨z1,z2,⟨x0,y0,z3⟩,z4,z5⟩:=st;obtain⟨xs,ys,sq1,sq2,hx⟩:=hg;obtain⟨its,rv,hs⟩:=I.ek sq1;obtain⟨jts,rw',hs2⟩:=I.ek sq2;have l1:=rv.length;have l2:=rw'.length;refine IW (I.ok.hd hc) ap z1 z2 z3 z4 z5 hs hs2 ?_ λh' hk=>?_
  ·rcases hx with h|h
   ·exact .inl (by simp; omega)
   ·exact .inr (by simp; omega)
  ·have sub:∀d∈[c,pO,it,jt],d∈[c,pI,pO,it,jt]:=λd hd=>by
    simp only[Zm,QE,Xf] at hd ⊢;rcases hd with h|h|h|h
    ·exact .inl h
    ·exact .inr (.inr (.inl h))
    ·exact .inr (.inr (.inr (.inl h)))
    ·exact .inr (.inr (.inr (.inr h)))
   have kept:∀d o,d ∉ [c,pO,it,jt]->s.heap.get? d=some o->h'.get? d=some o:=λd o hd e =>
    hk d o (λz=>hd (by simp[z])) (λz=>hd (by simp[z])) (λz=>hd (by simp[z])) (λz=>hd (by simp[z])) e
   have hn:∀d o,H d=some o->d ∉ [c,pO,it,jt]:=λd o q hd=>by
    have:=(hf d (sub d hd)).1;rw[q] at this; cases this
   refine⟨rfl,I.step (t':=s.toks) (g':=s.gens) (d':=s.drawn) (ch:=[c,pO,it,jt]) (λd hd=>?_) (λd o _ _ hc e _=>kept d o hc e) (λd o _ _ hc e _=>⟨o.slots,kept d o hc e⟩) (λ_ _ _ _ n=>n)
    (λd o hc e=>⟨o,kept d o hc e⟩) (λ_ _ e=>e) (λ_ _ _ e=>e) (λd ps e=>⟨#[],by rw[e]; simp⟩) (λm hm=>?_) (λd o q=>?_) I.bare⟩
   ·obtain⟨f0,f1,f2,f3,f4,f5⟩:=hf d (sub d hd);exact⟨f3,f1,f4,f5⟩
   ·obtain⟨o,es,ep,ho',r⟩:=hm;exact⟨o,es,ep,kept _ o (λhd=>(hf _ (sub _ hd)).2.1 rfl) ho',r⟩
   ·refine(I.hok d o q).stay (λe w hc e1=>?_) (λ_ q=>q) λ_ _ q=>q
    rcases hc with rfl|hc
    ·exact kept _ w (hn _ _ q) e1
    ·exact kept e w (hn _ _ hc) e1
 self:=λ_ _ _ _ _ st h=>wpAny_pyIter_zip st.1 h
section
variable{X:Cx}
noncomputable def iZp(K:WG)(ta:TA):TI:=λσ H R=>ta σ H λvs H1=>∃t1 t2 a b,vs=[.ref a,.ref b]/\(∃xs,SqB K H1 t1 a xs)/\(∃ys,SqB K H1 t2 b ys)/\R (Itz K t1 t2 a b) H1
theorem Seq.lt{tup:Bool}{h:Heap}{a:Addr}{us:WQ}(x:Seq tup h a us):a<h.objs.size:=by
 cases tup with
 | true=>obtain⟨o,ho,_⟩:=(show h.IsTuple a us from x); exact Zo ho
 | false=>obtain⟨o,ho,_⟩:=(show h.IsList a us from x); exact Zo ho
theorem Fp{e f:Expr}{ta:TA}{p pos:Pos}{elts:WS}{k1:Nat}{tp:Pos}(hg:Gl X "zip")(hm:X.mg "zip" = none)(hv:bootBuiltins "zip" = some (.type "zip"))(ha:PA X [e,f] ta)(hs:starEach [e,f] X.env=(false,eval e X.env)::starEach [f] X.env)(hpl:(backTo pos (starEach [f] X.env)).any (·.1)=false) :
  PI X (.Tuple elts k1 tp) (.Call (.Name "zip" p) [e,f] [] pos) (iZp X.K ta):=by
 intro pins s σ H R I h;refine Call_ (eN I hg hm hv (Xo (thn (ha pos pins s σ H _ I h) λus s1 ⟨vs,H1,I1,r1,q1⟩=>?_) hs hpl));obtain⟨t1,t2,a,b,e,⟨xs,hq⟩,⟨ys,hq2⟩,q⟩:=q1;subst e;obtain⟨u1,u2,rfl,r1,r2⟩:=r1.two;cases r1;cases r2;obtain⟨its,rv,sq1⟩:=I1.ek hq;obtain⟨jts,rw',sq2⟩:=I1.ek hq2;have la:=Seq.lt sq1;have lb:=Seq.lt sq2;refine Iv sq1 sq2 λh' x1 x2 x3 x4 x5 hk=>?_
 refine wpAny_pyIter_zip x1 ?_;have fr:∀d,s1.heap.objs.size<=d->cE X pins H1 d:=λd hd=>I1.f6 hd (I1.hok.fresh hd)
 have gt:∀n k:Nat,k<n->n≠k:=λn k h=>Xw h
 have ap:ZipApart (s1.heap.objs.size+4) (s1.heap.objs.size+2) (s1.heap.objs.size+3) s1.heap.objs.size (s1.heap.objs.size+1) a b:=by
  constructor<;>first
   | (refine(gt _ _ ?_).symm; omega)
   | (refine gt _ _ ?_; omega)
   | exact ZC (ZE la (Xz _ _))
   | exact ZC (ZE lb (Xz _ _))
 refine⟨s1.heap.objs.size+4,_,_,_,H1,rfl,I1.kept (t':=s1.toks) hk,zN t1 t2 ap,⟨x1,x2,⟨_,_,x3⟩,x4,x5⟩,λd hd=>fr d ?_,q⟩;simp only[Zm,QE,Xf] at hd;rcases hd with rfl|rfl|rfl|rfl|rfl
 ·exact Xz _ _
 ·exact Xz _ _
 ·exact Xz _ _
 ·exact Zn _
 ·exact QX _
end
end L2

namespace EV
open PySem PySem.Spec PyProof.Rows L2
theorem sD:∀{xs ys:WV} {i:Nat} {d:D},(b9 xs ys)[i]?=some d->∃x y,xs[i]?=some x/\ys[i]?=some y/\d=.tup [x,y]
 | [],_,i,d,h=>by simp[b9] at h
 | _::_,[],i,d,h=>by simp[b9] at h
 | x::r,y::q,0,d,h=>by simp[b9] at h; exact⟨x,y,rfl,rfl,h.symm⟩
 | x::r,y::q,i+1,d,h=>by
  have h:(b9 r q)[i]?=some d:=by simpa [b9] using h
  obtain⟨a,b,h1,h2,h3⟩:=sD h;exact⟨a,b,by simpa using h1,by simpa using h2,h3⟩
theorem wB:∀(xs ys:WV),xs.length<=(b9 xs ys).length\/ys.length<=(b9 xs ys).length
 | [],_=>.inl (Xj _)
 | _::_,[]=>.inr (Xj _)
 | x::r,y::q=>(wB r q).imp (λh=>Q2 h) λh=>Q2 h
theorem Au(ds:WV)(S:af):(∃xs ys,ds=[.tup xs,.tup ys])\/gC ds S=.bad:=by
 unfold gC;split
 ·exact .inl ⟨_,_,rfl⟩
 ·exact .inr rfl
theorem CQ{Γ:Gx}{ι:WL}{H:Hp}{x y:D}{vs:WT}(r:az Γ ι H [x,y] vs):∃v1 v2,vs=[v1,v2]/\Rep Γ ι H x v1/\Rep Γ ι H y v2:=by
 cases r with
 | cons r1 r =>
  cases r with
  | cons r2 r=>cases r; exact⟨_,_,rfl,r1,r2⟩
section
variable{X:Cx}{Γ:Gx}{xw:XW}{a b:Expr}{m:Sg->M (List D)}{pos:Pos}
theorem Ez{p:Pos}{elts:WS}{k1:Nat}{tp:Pos}(hK:Γ.K=X.K)(hg:Gl X "zip")(hm:X.mg "zip" = none)(ha:PA X [a,b] (tMA Γ xw m))(hs:starEach [a,b] X.env=(false,eval a X.env)::starEach [b] X.env)(hpl:(backTo pos (starEach [b] X.env)).any (·.1)=false) :
  PI X (.Tuple elts k1 tp) (.Call (.Name "zip" p) [a,b] [] pos) (tMI Γ xw λσ=>m σ>>=λds=>gC ds) :=
 PI.imp (Fp hg hm boot_zip ha hs hpl) λσ H R h=>by
  obtain⟨σd,ι,S,he,hs,ho⟩:=h;refine⟨σd,ι,S,he,hs,ho.bind.mono λds S' ι' H' _ _ ⟨s',e',o'⟩ vs r=>?_⟩;rcases Au ds S' with⟨xs,ys,rfl⟩|q
  ·obtain⟨v1,v2,rfl,r1,r2⟩:=CQ r;obtain⟨a,us,rfl,sq1,p1⟩:=r1.bJ;obtain⟨b,ws,rfl,sq2,p2⟩:=r2.bJ;have fin:=o'.here s';refine⟨true,true,a,b,rfl,⟨us,by rw[<- hK]; exact sq1⟩,⟨ws,by rw[<- hK]; exact sq2⟩,fin _ λι1 H1 S1 e2 s1 st1=>?_⟩;obtain⟨a',us',e3,sq3,p3⟩:=(r1.ext e2).bJ;cases e3;obtain⟨b',ws',e4,sq4,p4⟩:=(r2.ext e2).bJ;cases e4;have q3:SqB X.K H1 true a us':=by rw[<- hK]; exact sq3
   have q4:SqB X.K H1 true b ws':=by rw[<- hK]; exact sq4
   refine⟨λi d hd=>?_,us',ws',q3,q4,?_⟩
   ·obtain⟨x,y,hx,hy,rfl⟩:=sD hd;obtain⟨x',hx',rx⟩:=Paired.get p3 hx;obtain⟨y',hy',ry⟩:=Paired.get p4 hy;refine⟨⟨us',ws',x',y',q3,q4,hx',hy'⟩,?_⟩;rintro z H' ⟨u,v,p,h1,h2,hp,rfl,rfl⟩;have h1:=h1 us' q3;have h2:=h2 ws' q4;rw[hx'] at h1; cases h1;rw[hy'] at h2; cases h2;exact⟨Ext.laid hp,s1.laid hp _,.jM cT (.cons (rx.ext (Ext.laid hp)) (.cons (ry.ext (Ext.laid hp)) .nil))⟩
   ·show us'.length<=(b9 xs ys).length\/ws'.length<=(b9 xs ys).length;rw[<- p3.length,<- p4.length];exact wB xs ys
  ·rw[q] at o'; exact o'.elim
end
end EV

namespace EV
open PySem PySem.Spec PyProof.Rows L2
noncomputable def XF:XW:=λ_ _ _ _=>False
section
variable{Γ:Gx}{xw:XW}{ι ι':WL}{H H':Hp}{S:af}{σ:L2.St}
theorem av.take(hS:av Γ ι H S){l:Addr}{xs:WT}{ds:WV}(hn:l∉ι)(h:H l=some (.lst xs))(r:az Γ ι H ds xs):av Γ (ι++[l]) H (S++[.lst ds]):=by
 have mv:∀{d:D} {v:V},Rep Γ ι H d v->Rep Γ (ι++[l]) H d v:=λr=>r.move (Qr _ _) (λ_ _ e=>e) λ_ _ _ e=>e
 refine⟨by simp[hS.len],Ww.mpr ⟨hS.nd,by simp,?_⟩,λm c hm=>?_⟩
 ·intro a ha b hb;have:b=l:=by simpa using hb
  subst this;exact λz=>hn (z▸ha)
 ·by_cases hl:m<S.length
  ·rw[ZF hl] at hm;obtain⟨a,ha,c1⟩:=hS.cell m c hm;refine⟨a,gU (Qr _ _) ha,?_⟩
   cases c with
   | lst zs=>obtain⟨ws,hw,rw'⟩:=c1; exact⟨ws,hw,Paired.imp (λ_ _ r=>mv r) rw'⟩
   | dct kvs=>obtain⟨ws,hw,rw'⟩:=c1; exact⟨ws,hw,Paired.imp (λ_ _ q=>⟨q.1,mv q.2⟩) rw'⟩
   | fdc kvs=>obtain⟨ws,hw,rw'⟩:=c1; exact⟨ws,hw,Paired.imp (λ_ _ q=>⟨q.1,mv q.2⟩) rw'⟩
  ·rw[ZI (by omega)] at hm
   have hl2:m-S.length=0:=by
    have:=(Zf.mp hm).1;simp at this; omega
   rw[hl2] at hm;have h':(Cell.lst ds)=c:=by simpa using hm
   subst h';have e1:m=ι.length:=by rw[hS.len]; omega
   subst e1;exact⟨l,by simp,xs,h,Paired.imp (λ_ _ r=>mv r) r⟩
theorem Ext.past(e:Ext ι ι' H H'){l:Addr}{ys:WT}(hl:H l=none):Ext ι ι' H (upd H' l (.lst ys)) :=
 ⟨e.pre,λa xs h=>by rw[aF (bu h hl)]; exact e.tup a xs h,λa o u h=>by rw[aF (bu h hl)]; exact e.frz a o u h,λa o h n=>by rw[aF (bu h hl)]; exact e.oth a o h n,e.fresh⟩
theorem Ext.eV(e:Ext ι ι' H H'){l:Addr}{o:HO}(h:H l=some o)(hn:l∉ι):H' l=some o/\l∉ι':=⟨e.oth l o h hn,λm=>by have:=e.fresh l m hn; rw[h] at this; cases this⟩
theorem D0{src:Src}{f:D->M (Option D)}{post:WV}{S2:af}(h:bL src f [] S=.ok post S2):aG src S=.ok () S/\post=[]/\S2=S:=by
 have h:(aG src>>=λ_=>pure []) S=.ok post S2:=h;rcases jF src S with e|e
 ·rw[aq e] at h; cases h; exact⟨e,rfl,rfl⟩
 ·rw[bh e] at h; cases h
theorem Io{src:Src}{f:D->M (Option D)}{d:D}{rest post:WV}{S2:af}(h:bL src f (d::rest) S=.ok post S2) :
  aG src S=.ok () S/\∃y S3 post',f d S=.ok y S3/\bL src f rest S3=.ok post' S2/\post=(match y with|some y=>y::post'|none=>post'):=by
 have h:(aG src>>=λ_=>f d>>=λy=>bL src f rest>>=λys=>pure (match y with|some y=>y::ys|none=>ys)) S=.ok post S2:=h;rcases jF src S with e|e
 ·rw[aq e] at h
  cases q:f d S with
  | bad=>rw[bh q] at h; cases h
  | exc c S3=>rw[cY q] at h; cases h
  | ok y S3 =>
   rw[aq q] at h
   cases q2:bL src f rest S3 with
   | bad=>rw[bh q2] at h; cases h
   | exc c S4=>rw[cY q2] at h; cases h
   | ok ys S4=>rw[aq q2] at h; cases h; exact⟨e,y,S3,ys,rfl,q2,rfl⟩
 ·rw[bh e] at h; cases h
end
section
variable{X:Cx}{Γ:Gx}{xw:XW}{scope:Scope}{N':WP}{k:Nat}{elt iter tg:Expr}{ifs:WS}{pos:Pos}{mi:Sg->M Src}{t:Tg}{nt:Sg->M Bool}{me:Sg->M D}
noncomputable def je(k:Nat)(mi:Sg->M Src)(t:Tg)(nt:Sg->M Bool)(me:Sg->M D):Sg->M D:=λσ=>mi σ>>=λs =>
 quiet (bL s (λd=>aO t d (σ++List.replicate k none)>>=λσ'=>nt σ'>>=λb=>if b=true then me σ'>>=λy=>pure (some y) else pure none) s.its)>>=λys=>guard (fits ys.length) (alloc (.lst ys))
theorem sW(hslot:∀j,j<X.N.length->t.has j=false){σ:L2.St}(hσ:σ.length=X.N.length){H:Hp}{Q:VK}(h:tM Γ xw (je k mi t nt me) σ H Q):l_ k (tMI Γ xw mi) (tMG Γ t) (tMT Γ XF nt) (tM Γ XF me) σ H Q:=by
 obtain⟨σd,ι,S,hE,hS,ho⟩:=h;refine⟨σd,ι,S,hE,hS,ho.bind.mono λsrc S1 ι1 H1 _ _ ⟨s1,e1,o1⟩ J hJ l hl=>?_⟩;generalize hf:(λd=>aO t d (σd++List.replicate k none)>>=λσ'=>nt σ'>>=λb=>if b=true then me σ'>>=λy=>pure (some y) else pure none)=f at o1
 cases q:bL src f src.its S1 with
 | bad=>rw[bh (show quiet (bL src f src.its) S1=.bad by unfold quiet; rw[q])] at o1; exact o1.elim
 | exc c S2=>rw[bh (show quiet (bL src f src.its) S1=.bad by unfold quiet; rw[q])] at o1; exact o1.elim
 | ok ys S2 =>
  rw[aq (show quiet (bL src f src.its) S1=.ok ys S2 by unfold quiet; rw[q])] at o1;obtain⟨hz,o1⟩:=Out.guard o1;have hz:=dZ hz
  refine⟨λi m H=>∃ι' S' pre post xs,i<=src.its.length/\m=src.its.length-i/\Ext ι1 ι' H1 H/\av Γ ι' H S'/\l∉ι'/\H l=some (.lst xs)/\az Γ ι' H pre xs/\bL src f (src.its.drop i) S'=.ok post S2/\ys=pre++post/\a_ Γ ι' H σ σd,
   ⟨src.its.length,ι1,S1,[],ys,[],Xj _,rfl,Ext.laid hl,s1.laid hl _,s1.new hl,cT,.nil,q,rfl,(hE.ext e1).ext (Ext.laid hl)⟩,?_⟩
  rintro i m H ⟨ι',S',pre,post,xs,hi,rfl,eH,sH,ln,hH,rp,hc,hys,eE⟩
  by_cases hlt:i<src.its.length
  ·rw[Xk hlt] at hc;obtain⟨st,y,S3,post',hfd,hc',hpost⟩:=Io hc;obtain⟨jgo,jyld⟩:=(hJ ι' H S' eH sH st).1 i src.its[i] (Zb hlt);refine .inr ⟨jgo,λx H' yl=>?_⟩;obtain⟨eX,sX,rX⟩:=jyld x H' yl;obtain⟨hH',_⟩:=eX.eV hH ln;rw[<- hf] at hfd;have hfd:(aO t src.its[i] (σd++List.replicate k none)>>=λσ'=>nt σ'>>=λb=>if b=true then me σ'>>=λy=>pure (some y) else pure none) S'=.ok y S3:=hfd
   obtain⟨σd',hb⟩:∃σd',aO t src.its[i] (σd++List.replicate k none) S'=.ok σd' S':=by
    rcases l5 t src.its[i] (σd++List.replicate k none) S' with⟨σd',hb,_⟩|hb
    ·exact⟨σd',hb⟩
    ·rw[bh hb] at hfd; cases hfd
   rw[aq hb] at hfd;refine⟨σd++List.replicate k none,ι',S',src.its[i],σd',(eE.ext eX).more k,sX,rX,hb,λσ' hE' hK=>⟨λj v hj=>?_,?_⟩⟩
   ·rw[hK j (hslot j ?_)]; exact hj
    by_cases hjl:j<σ.length
    ·omega
    ·rw[ZI (by omega),XD] at hj;split at hj<;>cases hj
   ·cases qn:nt σd' S' with
    | bad=>rw[bh qn] at hfd; cases hfd
    | exc c S4=>rw[cY qn] at hfd; cases hfd
    | ok b S4 =>
     rw[aq qn] at hfd;refine⟨σd',ι',S',hE',sX,?_⟩;rw[qn];intro ι3 H3 e3 s3;obtain⟨hH3,ln3⟩:=e3.eV hH' ln;have eA:Ext ι1 ι3 H1 H3:=(eH.trans eX).trans e3
     cases b with
     | false =>
      rw[Zg Zx] at hfd ⊢;cases hfd;exact⟨src.its.length-(i+1),by omega,ι3,_,pre,post',xs,hlt,rfl,eA,s3,ln3,hH3,az.ext e3 (az.ext eX rp),hc',by rw[hys,hpost],(eE.ext eX).ext e3⟩
     | true =>
      rw[Ze rfl] at hfd ⊢;refine⟨σd',ι3,S4,hE'.ext e3,s3,?_⟩
      cases qe:me σd' S4 with
      | bad=>rw[bh qe] at hfd; cases hfd
      | exc c S5=>rw[cY qe] at hfd; cases hfd
      | ok yd S5 =>
       rw[aq qe] at hfd;cases hfd;intro ι4 H4 e4 s4 v rv;obtain⟨hH4,ln4⟩:=e4.eV hH3 ln3;have rp4:az Γ ι4 H4 pre xs:=az.ext e4 (az.ext e3 (az.ext eX rp));refine⟨xs,hH4,?_,src.its.length-(i+1),by omega,ι4,_,pre++[yd],post',xs++[v],hlt,rfl,(eA.trans e4).past hl,s4.other hH4 ln4,ln4,cT,az.write hH4 (Paired.app rp4 (.cons rv .nil)),hc',by rw[hys,hpost]; simp,(((eE.ext eX).ext e3).ext e4).write hH4⟩;have:=rp4.length;rw[hys,hpost,ZG,Z0] at hz;omega
  ·have ei:i=src.its.length:=by omega
   subst ei;rw[List.drop_length] at hc;obtain⟨st,rfl,rfl⟩:=D0 hc;refine .inl ⟨(hJ ι' H S2 eH sH st).2,?_⟩;rw[Xn] at hys;subst hys;refine o1 (ι'++[l]) H ⟨eH.pre.trans (Qr _ _),eH.tup,eH.frz,eH.oth,λa ha hn=>?_⟩ (sH.take ln hH rp) _ (.loc (by rw[<- sH.len]; simp));rcases ZQ.mp ha with z|z
   ·exact eH.fresh a z hn
   ·have:a=l:=by simpa using z
    rw[this]; exact hl
theorem zz(C:fq X scope N' k)(hc:X.calm=true)(hslot:∀j,j<X.N.length->t.has j=false)(hi:PI X tg iter (tMI Γ xw mi))(hg:∀cl fp s3 H3,PG (aN X scope cl N' fp s3 H3) tg (tMG Γ t))(htt:∀cl fp s3 H3,PF (aN X scope cl N' fp s3 H3) ifs (tMT Γ XF nt))(hte:∀cl fp s3 H3,PE (aN X scope cl N' fp s3 H3) elt (tM Γ XF me))
  (hs:∀x,foldedSetIterable iter X.env x=pure x):PE X (.ListComp elt [⟨tg,iter,ifs,0⟩] scope pos) (tM Γ xw (je k mi t nt me)):=by
 intro pins s σ H Q I h;exact xG C hc hi hg htt hte hs pins s σ H Q I (sW hslot I.len h)
noncomputable def FlK(Γ:Gx)(D:Ends):Fl->af->List Addr->Hp->Prop
 | .nx σ',_,ι',H'=>∀σv,a_ Γ ι' H' σv σ'->D.nx σv H'
 | .rt d,_,ι',H'=>∀v,Rep Γ ι' H' d v->D.rt v H'
 | .bk σ',_,ι',H'=>∀σv,a_ Γ ι' H' σv σ'->D.bk σv H'
 | .ct σ',_,ι',H'=>∀σv,a_ Γ ι' H' σv σ'->D.ct σv H'
noncomputable def tMS(Γ:Gx)(xw:XW)(m:Sg->M Fl):TS:=λD σ H=>∃σd ι S,a_ Γ ι H σ σd/\av Γ ι H S/\Out Γ xw ι H (m σd S) (FlK Γ D)
variable{e:Expr}{ma:Sg->M D}{na:Sg->M Bool}{ms ms2:Sg->M Fl}{st:Stmt}{sts sts2:List Stmt}
theorem CW(he:PE X e (tM Γ xw ma)):PS X (.Return (some e) pos) (tMS Γ xw λσ=>ma σ>>=λd=>pure (.rt d)) :=
 PS.imp (pX he) λD σ H h=>by
  obtain⟨σd,ι,S,hE,hs,ho⟩:=h;exact⟨σd,ι,S,hE,hs,ho.bind.mono λd S' ι' H' _ _ ⟨s',e',o'⟩ v r=>o'.here s' v r⟩
theorem DX:PS X (.Return none pos) (tMS Γ xw λ_=>pure (.rt .non)) :=
 PS.imp F_ λD σ H h=>by
  obtain⟨σd,ι,S,hE,hs,ho⟩:=h;exact ho.here hs _ .non
theorem Hz(he:PE X e (tM Γ xw ma))(hs:swapsWith e none pos.line X.env=pure false):PS X (.Expr e pos) (tMS Γ xw λσ=>ma σ>>=λ_=>pure (.nx σ)) :=
 PS.imp (qo he hs) λD σ H h=>by
  obtain⟨σd,ι,S,hE,hs,ho⟩:=h;exact⟨σd,ι,S,hE,hs,ho.bind.mono λd S' ι' H' _ _ ⟨s',e',o'⟩ v r=>o'.here s' _ (hE.ext e')⟩
theorem yS:PS X (.Pass pos) (tMS Γ xw λσ=>pure (.nx σ)) :=
 PS.imp Ca λD σ H h=>by
  obtain⟨σd,ι,S,hE,hs,ho⟩:=h;exact ho.here hs _ hE
theorem IG{x j p2}:PS X (.Expr (.Constant (.str x) j p2) pos) (tMS Γ xw λσ=>pure (.nx σ)) :=
 PS.imp FF λD σ H h=>by
  obtain⟨σd,ι,S,hE,hs,ho⟩:=h;exact ho.here hs _ hE
theorem H_{D:Ends}{σ:L2.St}{H:Hp}(h:tMS Γ xw (λσ=>ma σ>>=λd=>aO t d σ>>=λσ'=>pure (.nx σ')) D σ H):kr (tM Γ xw ma) (tMG Γ t) D σ H:=by
 obtain⟨σd,ι,S,hE,hs,ho⟩:=h;refine⟨σd,ι,S,hE,hs,ho.bind.mono λd S' ι' H' _ _ ⟨s',e',o'⟩ v r=>?_⟩;obtain⟨σd',hb,_,o'⟩:=Out.aO o';exact⟨σd,ι',S',d,σd',hE.ext e',s',r,hb,λσ' hE' _=>o'.here s' _ hE'⟩
theorem k7(he:PE X e (tM Γ xw ma))(hg:PG X tg (tMG Γ t))(hs:swapsWithSole [tg] e pos.line X.env=pure false)(hw:swappedStores [tg] e X.env=pure none)(h1:(assignEach [tg] X.env).map (·.2)=[assign tg X.env]) :
  PS X (.Assign [tg] e pos) (tMS Γ xw λσ=>ma σ>>=λd=>aO t d σ>>=λσ'=>pure (.nx σ')):=PS.imp (qH he hg hs hw h1) λD σ H h=>H_ h
theorem F6{j:Nat}{y:Str}{py spos:Pos}(C:fq X scope N' k)(hc:X.calm=true)(hslot:∀j,j<X.N.length->t.has j=false)(hi:PI X tg iter (tMI Γ xw mi))(hg:∀cl fp s3 H3,PG (aN X scope cl N' fp s3 H3) tg (tMG Γ t))(htt:∀cl fp s3 H3,PF (aN X scope cl N' fp s3 H3) ifs (tMT Γ XF nt))(hte:∀cl fp s3 H3,PE (aN X scope cl N' fp s3 H3) elt (tM Γ XF me))
  (hN:X.N.Nodup) (hj:X.N[j]?=some y) (hy:X.env.scope.names.lookup y=some .local) (hsw:swapsWith (.ListComp elt [⟨tg,iter,ifs,0⟩] scope pos) (some (.Name y py)) spos.line X.env=pure true) (hs:∀x,foldedSetIterable iter X.env x=pure x) :
  PS X (.Assign [.Name y py] (.ListComp elt [⟨tg,iter,ifs,0⟩] scope pos) spos) (tMS Γ xw λσ=>je k mi t nt me σ>>=λd=>aO (.one j) d σ>>=λσ'=>pure (.nx σ')):=by
 intro pins s σ H D I h;refine Dp C hc hi hg htt hte hN hj hy hsw hs pins s σ H D I ?_
 have h1:tM Γ xw (je k mi t nt me) σ H (λx H1=>gD j x σ H1 D.nx):=by
  obtain⟨σd,ι,S,hE,hS,ho⟩:=h;refine⟨σd,ι,S,hE,hS,ho.bind.mono λd S' ι' H' _ _ ⟨s',e',o'⟩ v r=>?_⟩;exact o'.here s' _ ((hE.ext e').set j r)
 exact sW hslot I.len h1
theorem FL{c:Expr}(hc:PT X c (tMT Γ xw na))(ha:PSs X sts (tMS Γ xw ms))(hb:PSs X sts2 (tMS Γ xw ms2)):PS X (.If c sts sts2 pos) (tMS Γ xw λσ=>na σ>>=λk=>if k=true then ms σ else ms2 σ) :=
 PS.imp (zD hc ha hb) λD σ H h=>by
  obtain⟨σd,ι,S,hE,hs,ho⟩:=h;refine⟨σd,ι,S,hE,hs,ho.bind.mono λk S' ι' H' _ _ ⟨s',e',o'⟩=>?_⟩
  cases k with
  | true=>rw[Ze rfl]; exact⟨σd,ι',S',hE.ext e',s',o'⟩
  | false=>rw[Zg Zx]; exact⟨σd,ι',S',hE.ext e',s',o'⟩
theorem Dz:PSs X [] (tMS Γ xw λσ=>pure (.nx σ)) :=
 PSs.imp Av λD σ H h=>by
  obtain⟨σd,ι,S,hE,hs,ho⟩:=h;exact ho.here hs _ hE
theorem qt(h1:PS X st (tMS Γ xw ms)):PSs X [st] (tMS Γ xw ms):=rf h1
theorem j4(h1:PS X st (tMS Γ xw ms))(h2:PSs X sts (tMS Γ xw ms2)):PSs X (st::sts) (tMS Γ xw λσ=>ms σ>>=λf=>match f with|.nx σ'=>ms2 σ'|f=>pure f) :=
 PSs.imp (oJ h1 h2) λD σ H h=>by
  obtain⟨σd,ι,S,hE,hs,ho⟩:=h;refine⟨σd,ι,S,hE,hs,ho.bind.mono λf S' ι' H' _ _ ⟨s',e',o'⟩=>?_⟩
  cases f with
  | nx σ'=>exact λσv hv=>⟨σ',ι',S',hv,s',o'⟩
  | rt d=>exact λv r=>o'.here s' v r
  | bk σ'=>exact λσv hv=>o'.here s' σv hv
  | ct σ'=>exact λσv hv=>o'.here s' σv hv
end
end EV

namespace EV
open PySem PySem.Spec PyProof.Rows L2
section
variable{X:Cx}{Γ:Gx}{xw:XW}{iter tg c:Expr}{pos:Pos}{mi:Sg->M Src}{t:Tg}{mb:Sg->M Fl}{na:Sg->M Bool}{body:List Stmt}
theorem EX{wi:TI}{g:TG}{tb:TS}(hc:X.calm=true)(hi:PI X tg iter wi)(hg:PG X.nox tg g)(hb:PSs X.nox body tb)
  (hs:∀x,foldedSetIterable iter X.env x=pure x):PS X (.For tg iter body [] pos) (rV wi g tb):=by
 intro pins s σ H D I h;have nv:∀{α:Type} {t:Sem α} {Q Q':α->Shared->Prop} {E':WC} {s:WI},wpAny (model X.prog X.w) X.A t Q (λ_ _=>False) s->(∀a s,Q a s->Q' a s)->wpAny (model X.prog X.w) X.A t Q' E' s:=λh hQ=>Xu h hQ λ_ _ z=>z.elim
 refine wpAny_For (thn (hi pins s σ H _ I h) λv s1 h1=>thn h1 λitv s2 h2=>?_) hs;obtain⟨it,fp,tn,J,H2,e,I2,T,st2,f2,W,⟨m0,w0⟩,turn⟩:=h2;subst e;have stat:∀{H':Hp},(∀b∈fp,H' b=none)->∀b∈fp,cE X pins H' b:=λhn b hb=>⟨hn b hb,(f2 b hb).2⟩
 refine codeAny_forLoop_any (λn s'=>∃i σ' H',Inv X pins σ' H' s'/\tn i s'.heap/\(∀b∈fp,H' b=none)/\W i n σ' H') ?_ m0 ⟨0,σ,H2,I2,st2,λb hb=>(f2 b hb).1,w0⟩;rintro n s3 ⟨i,σ3,H3,I3,st3,fr3,w3⟩;rcases turn i n σ3 H3 w3 with⟨stop,qn⟩|⟨go,N,hN,step⟩
 ·refine nv (T.done X rfl rfl rfl hc i pins s3 σ3 H3 _ I3 (stat fr3) st3 stop) λr s4 ⟨hr,I4⟩=>?_
  subst hr;exact QI ⟨σ3,H3,I4,qn⟩
 ·refine nv (T.item X rfl rfl rfl hc i pins s3 σ3 H3 _ I3 (stat fr3) st3 go) λr s4 ⟨u,hr,h4⟩=>?_
  subst hr;refine nv h4 λ_ s5 ⟨x,H5,I5,r5,y5,st5,fr5⟩=>?_
  have I5':=I5.pinned (stat fr5) (T.obj _ _ st5);refine nv (hg _ s5 σ3 H5 x u _ (I5'.dO _) r5 (step x H5 y5)) λ_ s6 ⟨σ6,H6,I6,q6⟩=>?_
  refine nv (hb _ s6 σ6 H6 _ I6 q6) λf s7 q7=>?_
  have again:∀{σ7:L2.St} {H7:Hp},Inv X (pins++iu fp s5.heap) σ7 H7 s7->N σ7 H7->∃m,m<n/\∃i σ' H',Inv X pins σ' H' s7/\tn i s7.heap/\(∀b∈fp,H' b=none)/\W i m σ' H':=λ{σ7 H7} I7 n7=>by
   obtain⟨m',hm,w7⟩:=hN σ7 H7 n7;refine⟨m',hm,i+1,σ7,H7,I7.kB,T.keep _ _ _ st5 λb hb o e=>(I7.pin (b,o) (ZV _ (ZV _ (kG hb e)))).1,λb hb=>?_,w7⟩;obtain⟨o,e,d⟩:=T.obj _ _ st5 b hb;exact(I7.pin (b,o) (ZV _ (ZV _ (kG hb e)))).2.1
  cases f with
  | next=>obtain⟨σ7,H7,I7,n7⟩:=q7; exact again I7.fk n7
  | cont=>obtain⟨σ7,H7,I7,n7⟩:=q7; exact again I7.fk n7
  | brk=>obtain⟨σ7,H7,I7,q7⟩:=q7; exact⟨σ7,H7,I7.fk.kB,q7⟩
  | ret v=>obtain⟨x7,σ7,H7,I7,r7,q7⟩:=q7; exact⟨x7,σ7,H7,I7.fk.kB,r7,q7⟩
theorem DK{D:Ends}{σ:L2.St}{H:Hp}(h:tMS Γ xw (λσ=>mi σ>>=λs=>quiet (forL s (λd σ=>aO t d σ>>=λσ'=>mb σ') s.its σ)) D σ H):rV (tMI Γ xw mi) (tMG Γ t) (tMS Γ XF mb) D σ H:=by
 obtain⟨σd,ι,S,hE,hS,ho⟩:=h;refine⟨σd,ι,S,hE,hS,ho.bind.mono λsrc S1 ι1 H1 _ _ ⟨s1,e1,o1⟩ J hJ=>?_⟩;have o1:=Out.quiet o1 XF;generalize hf:(λd σ=>aO t d σ>>=λσ'=>mb σ')=f at o1;generalize hR:forL src f src.its σd S1=R0 at o1
 refine⟨λi m σ H=>∃ι' S' σd',i<=src.its.length/\m=src.its.length-i/\Ext ι1 ι' H1 H/\av Γ ι' H S'/\a_ Γ ι' H σ σd'/\forL src f (src.its.drop i) σd' S'=R0,
  ⟨src.its.length,ι1,S1,σd,Xj _,rfl,.refl,s1,hE.ext e1,hR⟩,?_⟩
 rintro i m σ H ⟨ι',S',σd',hi,rfl,eH,sH,eE,hc⟩
 by_cases hlt:i<src.its.length
 ·rw[Xk hlt] at hc;have hc:(aG src>>=λ_=>f src.its[i] σd'>>=λfl=>match fl with|.nx σ'=>forL src f (src.its.drop (i+1)) σ'|.ct σ'=>forL src f (src.its.drop (i+1)) σ'|.bk σ'=>pure (.nx σ')|.rt d=>pure (.rt d)) S'=R0:=hc;rcases jF src S' with st|st
  ·rw[aq st] at hc;obtain⟨jgo,jyld⟩:=(hJ ι' H S' eH sH st).1 i src.its[i] (Zb hlt);refine .inr ⟨jgo,λσ' H'=>∃m',m'<src.its.length-i/\∃ι' S' σd',i+1<=src.its.length/\m'=src.its.length-(i+1)/\Ext ι1 ι' H1 H'/\av Γ ι' H' S'/\a_ Γ ι' H' σ' σd'/\forL src f (src.its.drop (i+1)) σd' S'=R0,λσ' H' h=>h,λx H' yl=>?_⟩;obtain⟨eX,sX,rX⟩:=jyld x H' yl;have hfd:f src.its[i] σd' S'=(aO t src.its[i] σd'>>=λσ'=>mb σ') S':=by rw[<- hf]
   rcases l5 t src.its[i] σd' S' with⟨σd2,hb,_⟩|hb
   ·rw[aq hb] at hfd;refine⟨σd',ι',S',src.its[i],σd2,eE.ext eX,sX,rX,hb,λσ2 hE2 _=>⟨σd2,ι',S',hE2,sX,?_⟩⟩;have eA:=eH.trans eX
    cases qb:mb σd2 S' with
    | bad=>rw[qb] at hfd; rw[bh hfd] at hc; rw[<- hc] at o1; exact o1.elim
    | exc c S3=>rw[qb] at hfd; rw[cY hfd] at hc; rw[<- hc] at o1; exact λι3 H3 e3 s3=>o1 ι3 H3 (eA.trans e3) s3
    | ok fl S3 =>
     rw[qb] at hfd;rw[aq hfd] at hc;intro ι3 H3 e3 s3
     cases fl with
     | nx σ'=>exact λσv hv=>⟨src.its.length-(i+1),by omega,ι3,S3,σ',hlt,rfl,eA.trans e3,s3,hv,hc⟩
     | ct σ'=>exact λσv hv=>⟨src.its.length-(i+1),by omega,ι3,S3,σ',hlt,rfl,eA.trans e3,s3,hv,hc⟩
     | bk σ'=>rw[<- hc] at o1; exact λσv hv=>o1 ι3 H3 (eA.trans e3) s3 σv hv
     | rt d=>rw[<- hc] at o1; exact λv r=>o1 ι3 H3 (eA.trans e3) s3 v r
   ·rw[bh hb] at hfd; rw[bh hfd] at hc; rw[<- hc] at o1; exact o1.elim
  ·rw[bh st] at hc; rw[<- hc] at o1; exact o1.elim
 ·have ei:i=src.its.length:=by omega
  subst ei;rw[List.drop_length] at hc;have hc:(aG src>>=λ_=>pure (.nx σd')) S'=R0:=hc;rcases jF src S' with st|st
  ·rw[aq st] at hc;rw[<- hc] at o1;exact .inl ⟨(hJ ι' H S' eH sH st).2,o1 ι' H eH sH σ eE⟩
  ·rw[bh st] at hc; rw[<- hc] at o1; exact o1.elim
theorem ED(hcalm:X.calm=true)(hi:PI X tg iter (tMI Γ xw mi))(hg:PG X.nox tg (tMG Γ t))(hb:PSs X.nox body (tMS Γ XF mb))(hs:∀x,foldedSetIterable iter X.env x=pure x) :
  PS X (.For tg iter body [] pos) (tMS Γ xw λσ=>mi σ>>=λs=>quiet (forL s (λd σ=>aO t d σ>>=λσ'=>mb σ') s.its σ)) :=
 PS.imp (EX hcalm hi hg hb hs) λD σ H h=>DK h
end
section
variable{Γ:Gx}{ι ι':WL}{H H':Hp}{S S':af}
theorem fR:∀{ds:WV} {n:Nat},D.lows n ds=true ↔ ∀(i:Nat) d,ds[i]?=some d->d.low n=true
 | [],n=>⟨λ_ i d h=>by simp at h,λ_=>rfl⟩
 | d::r,n=>by
  simp only[D.lows,Zl];constructor
  ·rintro⟨h1,h2⟩ i e h
   cases i with
   | zero=>simp at h; subst h; exact h1
   | succ i=>exact fR.mp h2 i e (by simpa using h)
  ·intro h;exact⟨h 0 d rfl,fR.mpr λi e q=>h (i+1) e (by simpa using q)⟩
theorem Rep.low{d:D}{v:V}(r:Rep Γ ι H d v):d.low ι.length=true:=by
 induction r with
 | tup h1 h2 h3 h4 ih =>
  show D.lows _ _=true;refine fR.mpr λi d e=>?_
  have hi:i<_:=(Zf.mp e).1;exact ih i d _ e (Zb (by omega))
 | fro h1 h2 h3 ih =>
  show D.lows _ _=true;refine fR.mpr λi d e=>?_
  have hi:i<_:=(Zf.mp e).1;exact ih i d _ e (Zb (by omega))
 | loc h=>exact Zj (Zf.mp h).1
 | _=>rfl
theorem Rep.cut(hp:ι<+:ι'){d:D}{v:V}(r:Rep Γ ι' H d v)(hl:d.low ι.length=true):Rep Γ ι H d v:=by
 induction r with
 | non=>exact .non
 | bl b=>exact .bl b
 | int i=>exact .int i
 | str x=>exact .str x
 | tup h1 h2 h3 h4 ih=>exact .tup h1 h2 (λi d v e1 e2=>ih i d v e1 e2 (fR.mp hl i d e1)) h4
 | fro h1 h2 h3 ih=>exact .fro h1 h2 λi d v e1 e2=>ih i d v e1 e2 (fR.mp hl i d e1)
 | @loc l a h =>
  have hlt:l<ι.length:=Zk hl;obtain⟨t,rfl⟩:=hp;rw[ZF hlt] at h;exact .loc h
theorem az.low{ds:WV}{vs:WT}(r:az Γ ι H ds vs):D.lows ι.length ds=true:=fR.mpr λi d e=>let⟨_,_,r'⟩:=Paired.get r e; r'.low
theorem az.cut(hp:ι<+:ι'):∀{ds:WV} {vs:WT},az Γ ι' H ds vs->D.lows ι.length ds=true->az Γ ι H ds vs
 | _,_,.nil,_=>.nil
 | _,_,.cons r t,h=>by
  rw[D.lows,Zl] at h;exact .cons (r.cut hp h.1) (az.cut hp t h.2)
theorem eF.cut(hp:ι<+:ι'):∀{kvs:WW} {xs ys:WU} {H0:Hp},eF Γ ι' H kvs xs->eF Γ ι H0 kvs ys->eF Γ ι H kvs xs
 | _,_,_,_,.nil,_=>.nil
 | _,_,_,_,.cons r t,.cons r0 t0=>.cons ⟨r.1,r.2.cut hp r0.2.low⟩ (eF.cut hp t t0)
theorem Ext.back(e:Ext ι ι' H H'):Ext ι ι H H':=⟨Qj _,e.tup,e.frz,e.oth,λ_ h n=>absurd h n⟩
theorem av.back(e:Ext ι ι' H H')(h0:av Γ ι H S)(h1:av Γ ι' H' S')(ht:S'.take S.length=S):av Γ ι H' S:=by
 refine⟨h0.len,h0.nd,λl c hc=>?_⟩;have hl:l<S.length:=(Zf.mp hc).1;have hc':S'[l]?=some c:=by rw[<- ht,QM hl] at hc; exact hc
 obtain⟨a,ha,c1⟩:=h1.cell l c hc';obtain⟨b,hb,c0⟩:=h0.cell l c hc;have:=gU e.pre hb;rw[ha] at this; cases this;refine⟨a,hb,?_⟩
 cases c with
 | lst ds=>obtain⟨xs,hx,r⟩:=c1; obtain⟨ys,_,r0⟩:=c0; exact⟨xs,hx,az.cut e.pre r r0.low⟩
 | dct kvs=>obtain⟨xs,hx,r⟩:=c1; obtain⟨ys,_,r0⟩:=c0; exact⟨xs,hx,eF.cut e.pre r r0⟩
 | fdc kvs=>obtain⟨xs,hx,r⟩:=c1; obtain⟨ys,_,r0⟩:=c0; exact⟨xs,hx,eF.cut e.pre r r0⟩
theorem uH{xw:XW}{d:D}{v:V}{Q:VK}(h0:av Γ ι H S)(e:Ext ι ι' H H')(h1:av Γ ι' H' S')(r:Rep Γ ι' H' d v)(ho:Out Γ xw ι H (leave S d S') λd _ ι' H'=>∀v,Rep Γ ι' H' d v->Q v H'):Q v H':=by
 unfold leave at ho
 by_cases ht:S'.take S.length=S
 ·rw[Ze ht] at ho
  by_cases hl:d.low S.length=true
  ·rw[Ze hl] at ho;exact ho ι H' e.back (av.back e h0 h1 ht) v (r.cut e.pre (by rw[h0.len]; exact hl))
  ·rw[Zg hl] at ho;have dflt:Out Γ xw ι H (.ok d S') (λd _ ι' H'=>∀v,Rep Γ ι' H' d v->Q v H')->Q v H':=λho=>ho ι' H' e h1 v r
   cases d with
   | loc l =>
    dsimp only at ho
    cases q:S'[l]? with
    | none=>rw[q] at ho; exact dflt ho
    | some c =>
     rw[q] at ho;dsimp only at ho
     by_cases hc:c.low S.length=true
     ·rw[Ze hc] at ho
      cases r with
      | @loc _ a hla =>
       have hge:¬l<S.length:=λz=>hl (Zj z)
       have hna:a∉ι:=λz=>by
        obtain⟨j,hj⟩:=ZH z;have hj1:=(Zf.mp hj).1;have:=jr h1.nd hla (gU e.pre hj);rw[h0.len] at hj1;omega
       have hHa:H a=none:=e.fresh a (ZB hla) hna;have pre2:ι<+:ι++[a]:=Qr _ _;refine ho (ι++[a]) H' ⟨pre2,e.tup,e.frz,e.oth,λb hb hn=>?_⟩ ?_ _ (.loc (by rw[<- h0.len]; simp))
       ·rcases ZQ.mp hb with z|z
        ·exact absurd z hn
        ·have:b=a:=by simpa using z
         rw[this]; exact hHa
       ·have hb:=av.back e h0 h1 ht;obtain⟨b,hb2,c1⟩:=h1.cell l c q;rw[hla] at hb2; cases hb2
        cases c with
        | lst ds =>
         obtain⟨xs,hx,rr⟩:=c1;exact hb.take hna hx (az.cut e.pre rr (by rw[h0.len]; exact hc))
        | dct kvs=>cases hc
        | fdc kvs=>cases hc
     ·rw[Zg hc] at ho; exact dflt ho
   | _=>exact dflt ho
 ·rw[Zg ht] at ho;exact ho ι' H' e h1 v r
end
end EV

namespace EV
open PySem PySem.Spec PyProof.Rows L2
section
variable{X:Cx}{Γ:Gx}{xw:XW}{pins:WD}{σ:L2.St}{H:Hp}{s:WI}{ι:WL}{S:af}
theorem vW{neg:Bool}{x y d:D}{S S':af}(h:lG neg x y S=.ok d S'):∃k,d=.bl k:=by
 cases x with
 | tup ds =>
  cases y with
  | loc l =>
   have h:(opt (allInts ds)>>=λk=>gv l λkvs=>pure (.bl ((ia kvs k).isSome != neg))) S=.ok d S':=h
   cases q:allInts ds with
   | none=>rw[q] at h; cases h
   | some k =>
    rw[q] at h;have h:gv l (λkvs=>pure (.bl ((ia kvs k).isSome != neg))) S=.ok d S':=h;unfold gv at h
    cases q2:S[l]? with
    | none=>rw[q2] at h; cases h
    | some c =>
     rw[q2] at h
     cases c with
     | lst ds=>cases h
     | dct kvs=>cases h; exact⟨_,rfl⟩
     | fdc kvs=>cases h; exact⟨_,rfl⟩
  | _=>cases h
 | _=>cases h
end
end EV

namespace L2
open PySem PySem.Spec PyProof.Rows
set_option genInjectivity false in
structure Xc(B:Heap)(stack:List Env)(e:Addr)(h:Heap):Prop where
 stays:B.StaysIn h
 new:B.get? e=none
 frames:h.FunFrames B stack
def Cov(B:Heap)(stack:List Env)(s:WI)(H':Hp)(h:Heap):Prop:=∀b o,h.get? b=some o->(H' b≠none\/∃o',s.heap.get? b=some o')->b∉frs stack->B.get? b=some o
noncomputable def CXg(st:Heap->Heap->Addr->Addr->Prop)(P:WK)(w:WN):CXT:=λstack H s E v s' =>
 ∃e C B H',v=.ref e/\s'.os=s.os/\AllBare s'.gens/\Un (frs stack) [] H H' s.heap s'.heap/\HOk P w H' s'.heap/\Xc B stack e s'.heap/\st B s'.heap e C/\Cov B stack s H' s'.heap/\E (.ref C) none H'
def stF(_:Heap)(h:Heap)(e C:Addr):Prop:=∃t,h.get? e=some { cls:=.ref C,data:=.fields #[.ref t,.none,.none,.none,.bool false,.none] }
def stT(B:Heap)(h:Heap)(e C:Addr):Prop:=∃a0,h.TracedW B e (.ref C) a0
abbrev CXe(P:WK)(w:WN):CXT:=CXg stT P w
abbrev CXr(P:WK)(w:WN):CXT:=CXg stF P w
theorem rK{P:WK}{w:WN}{H:Hp}{h:Heap}{b:Addr}{ob:HO}(ok:HOk P w H h)(q:H b=some ob):∃o,h.get? b=some o:=by
 have x:=ok b ob q;clear q ok
 induction ob with
 | lst xs=>obtain⟨_,_,_,_,e⟩:=x; exact⟨_,e⟩
 | tup xs=>obtain⟨_,_,_,_,e,_⟩:=x; exact⟨_,e⟩
 | dK kvs=>obtain⟨_,_,_,_,_,_,_,e,_⟩:=x; exact⟨_,e⟩
 | dT kvs=>obtain⟨_,_,_,_,_,_,_,e,_⟩:=x; exact⟨_,e⟩
 | set S n=>obtain⟨_,_,_,_,e,_⟩:=x; exact⟨_,e⟩
 | ins C dx fs=>obtain⟨_,_,_,e,_⟩:=x; exact⟨_,e⟩
 | own y=>exact x
 | xd fs=>obtain⟨_,⟨_,_,_,e,_⟩,_⟩:=x; exact⟨_,e⟩
 | rng lo hi=>obtain⟨_,_,_,e⟩:=x; exact⟨_,e⟩
 | frz o u ih=>exact⟨o,x.1⟩
 | tbl ps=>exact⟨_,x⟩
 | met f y=>exact⟨_,x⟩
 | ext φ=>exact x.2.1
section
variable{P:WK}{w:WN}{B h h':Heap}{stack:List Env}{e C:Addr}{s:WI}{H H':Hp}
theorem tL(hf:∀b∈frs stack,∃o,s.heap.get? b=some o/\H b=none)(u:Un (frs stack) [] H H' s.heap h)(ok:HOk P w H' h)(fr:h.FunFrames B stack)(cv:Cov B stack s H' h)(sb:B.StaysIn h')(up:h.UpToSlots h') :
  Un (frs stack) [] H H' s.heap h'/\HOk P w H' h'/\Cov B stack s H' h':=by
 have nf:∀{b:Addr},H' b≠none->b∉frs stack:=λ{b} hb m=>by
  obtain⟨o,e1,e2⟩:=hf b m;exact hb (u.free b o e1 e2 (by simp))
 have old:∀{b:Addr} {o:Obj},h.get? b=some o->(H' b≠none\/∃o',s.heap.get? b=some o')->b∉frs stack->h'.get? b=some o:=λ{b o} e1 e2 e3=>sb b o (cv b o e1 e2 e3)
 have fram:∀{b:Addr} {o:Obj},b∈frs stack->h.get? b=some o->∃sl,h'.get? b=some { o with slots:=sl }:=λ{b o} m e1=>by
  obtain⟨_,o',e2,hd⟩:=fr.mem m;rw[e1] at e2; cases e2;exact up b o e1 hd
 refine⟨⟨λb o e n hb _=>?_,λb o e n hb _=>?_,u.free,λb o e _=>?_,u.tups,u.frzs,u.tbls⟩,λa o ea=>?_,λb o e1 e2 e3=>?_⟩
 ·exact old (u.keep b o e n hb (by simp)) (.inr ⟨o,e⟩) hb
 ·obtain⟨sl,e1⟩:=u.slot b o e n hb (by simp);obtain⟨sl2,e2⟩:=fram hb e1;exact⟨sl2,e2⟩
 ·obtain⟨o1,e1⟩:=u.there b o e (by simp)
  by_cases hb:b∈frs stack
  ·obtain⟨sl,e2⟩:=fram hb e1;exact⟨_,e2⟩
  ·exact⟨o1,old e1 (.inr ⟨o,e⟩) hb⟩
 ·refine(ok a o ea).stay (λb v hb q=>?_) (λ_ q=>q) λ_ _ q=>q
  have hne:H' b≠none:=by
   rcases hb with rfl|hb
   ·rw[ea]; exact λz=>by cases z
   ·rw[hb]; exact λz=>by cases z
  exact old q (.inl hne) (nf hne)
 ·-- what is there now was there
  have:∃o1,h.get? b=some o1:=by
   rcases e2 with z|⟨o2,z⟩
   ·cases q:H' b with
    | none=>exact absurd q z
    | some ob=>exact rK ok q
   ·exact u.there b o2 z (by simp)
  obtain⟨o1,e4⟩:=this;have e5:=cv b o1 e4 e2 e3;have e6:=sb b o1 e5;rw[e1] at e6; cases e6;exact e5
end
section
variable{CX:CXT}{P:WK}{w:WN}{K:WG}{mg:WM}{base:Heap}{N:WP}{qual:Str}{scope:Scope}{f:Addr}{cd:Value}{A:Around}{outer:List Env}{s:WI}{H:Hp}{E E':XK}
theorem nM{X:Cx}{pins:WD}{σ:St}{H:Hp}{s:WI}(I:Inv X pins σ H s):∀b∈frs X.stack,∃o,s.heap.get? b=some o/\H b=none:=λb hb=>by
 obtain⟨_,o,e,_⟩:=I.stack.mem hb;exact⟨o,e,I.l7 b hb⟩
theorem uR{st:Heap->Heap->Addr->Addr->Prop}(hst:∀B h e C,st B h e C->stF B h e C\/stT B h e C)(hE:∀C H,E' (.ref C) none H->E (.ref C) none H){pins:WD}{σ:St}{H1:Hp}{s1:WI}{v:Value}{s':WI}(hA:A.frames=some outer)
  (I:Inv (cJ (CXe P w) P w K mg base N qual scope f cd A outer s H E) pins σ H1 s1) (hx:CXg st P w (cJ (CXe P w) P w K mg base N qual scope f cd A outer s H E).stack H1 s1 E' v s'):(cJ (CXe P w) P w K mg base N qual scope f cd A outer s H E).xe v s':=by
 obtain⟨e,C,B,H',rfl,h1,h2,u,ok,xc,hs,cv,hE'⟩:=hx;have hstk:(cJ (CXe P w) P w K mg base N qual scope f cd A outer s H E).stack=envOfC qual scope s.heap.objs.size f cd::outer:=rfl;have hfr:(A.deeper (envOfC qual scope s.heap.objs.size f cd)).frames=some (envOfC qual scope s.heap.objs.size f cd::outer):=Around.frames_deeper hA;have hf:(envOfC qual scope s.heap.objs.size f cd).frame=some s.heap.objs.size:=rfl
 have fin:∀(h'':Heap) (a0:Value),Heap.LeftW B (envOfC qual scope s.heap.objs.size f cd::outer) e (.ref C) a0 s'.heap h''->CXe P w outer H s E (.ref e) { s' with heap:=h'' }:=λh'' a0 hL=>by
  obtain⟨k1,k2,k3,k4⟩:=hL;obtain⟨u2,ok2,cv2⟩:=tL (nM I) u ok xc.frames cv k1 k4;have nL:∀{b:Addr} {o:Obj},s.heap.get? b=some o->b≠s.heap.objs.size:=λ{b o} q=>ZC (Zo q)
  have mem:∀{b:Addr},b∈frs (envOfC qual scope s.heap.objs.size f cd::outer) ↔ b=s.heap.objs.size\/b∈frs outer:=λ{b}=>by
   unfold frs;rw[Z8,hf];exact Zm
  have ub:Un (frs outer) [] H H1 s.heap s1.heap:=I.base;refine⟨e,C,B,H',rfl,h1.trans I.os,h2,⟨λb o q n hb _=>?_,λb o q n hb _=>?_,λb o q n _=>?_,λb o q _=>?_,λb xs q=>?_,λb o u q=>?_,λb ps q=>?_⟩,ok2,⟨k1,xc.new,k2.2.2⟩,⟨a0,k3⟩,λb o q1 q2 q3=>?_,hE _ _ hE'⟩
  ·exact u2.keep b o (ub.keep b o q n hb (by simp)) (ub.free b o q n (by simp)) (λz=>(mem.mp z).elim (nL q) hb) (by simp)
  ·obtain⟨sl,q1⟩:=ub.slot b o q n hb (by simp);obtain⟨sl2,q2⟩:=u2.slot b _ q1 (ub.free b o q n (by simp)) (mem.mpr (.inr hb)) (by simp);exact⟨sl2,q2⟩
  ·obtain⟨o1,q1⟩:=ub.there b o q (by simp);exact u2.free b o1 q1 (ub.free b o q n (by simp)) (by simp)
  ·obtain⟨o1,q1⟩:=ub.there b o q (by simp);exact u2.there b o1 q1 (by simp)
  ·exact u2.tups b xs (ub.tups b xs q)
  ·exact u2.frzs b o u (ub.frzs b o u q)
  ·obtain⟨m1,q1⟩:=ub.tbls b ps q;obtain⟨m2,q2⟩:=u2.tbls b _ q1;exact⟨m1++m2,by rw[<- Array.append_assoc]; exact q2⟩
  ·have hfree:H' s.heap.objs.size=none:=by
    obtain⟨oL,eL,hL⟩:=nM I s.heap.objs.size (mem.mpr (.inl rfl));exact u2.free _ oL eL hL (by simp)
   refine cv2 b o q1 ?_ λz=>?_
   ·rcases q2 with z|⟨o',z⟩
    ·exact .inl z
    ·exact .inr (ub.there b o' z (by simp))
   ·rcases mem.mp z with z|z
    ·rcases q2 with y|⟨o',y⟩
     ·rw[z] at y; exact y hfree
     ·exact nL y z
    ·exact q3 z
 show wpAny (model P w) (A.deeper (envOfC qual scope s.heap.objs.size f cd)) (leaving (envOfC qual scope s.heap.objs.size f cd) (.ref e)) (λ_ s''=>CXe P w outer H s E (.ref e) s'') (λe' s''=>CXe P w outer H s E e' s'') s';rcases hst _ _ _ _ hs with⟨t,he⟩|⟨a0,ht⟩
 ·exact wpAny_leaving_firstW hfr xc.frames hf he xc.stays xc.new rfl (a0:=.ref t) rfl rfl λh'' hL=>fin h'' _ hL
 ·exact wpAny_leaving_nextW hfr xc.frames hf ht xc.stays xc.new λh'' hL=>fin h'' _ hL
end
end L2

namespace L2
open PySem PySem.Spec PyProof.Rows
theorem tT{K:WG}{h:Heap}{C:Addr}{bmB:WH}{newId:String}(X:K.In h)(q:PySem.W.excIn K C bmB newId=true) :
  ∃bm N nm q bs hdct sn sub ab col dd k0 k1 k2 k3 k5 mN,h.get? C=some (excClassObj nm q C N bs bm hdct sn sub ab col dd k0 k1 k2 k3 k5 newId)/\h.Ns N mN/\mN "__init__" = none/\OwnTail h bmB bm:=by
 unfold PySem.W.excIn at q;split at q
 case h_2=>cases q
 rename_i dd cd sl ho;split at q
 case h_2=>cases q
 rename_i C' bm k0 k1 k2 k3 n k5 hm hs;simp only[Zl,QB,Bool.not_eq_true'] at q;obtain⟨⟨⟨⟨⟨z1,z2⟩,z3⟩,z4⟩,z5⟩,z6⟩:=q;subst z1; subst z2;obtain⟨nm,bs,mro,ns,qn,hd,sn,sub,ab,col,del⟩:=cd;dsimp only at hm z3 z5 z6;subst hm; subst z3;obtain⟨l⟩:=sl;have z7:l=[k0,k1,k2,k3,some (.builtin n),k5]:=hs;subst z7;exact⟨bm,ns,nm,qn,bs,hd,sn,sub,ab,col,dd,k0,k1,k2,k3,k5,_,X _ _ ho,.of_isNs (PySem.W.isNs_of_in X z5),PySem.W.nsMap_none_of_in X z5 z6,PySem.W.tail_of_in X z4⟩
section
variable{X:Cx}
theorem Dg{x:Str}{C:Addr}{B newId initId:String}{bmB:WH}{np cpos pos:Pos}{a:Expr}{v:V}{E:XK}(FB:ExcBaseFacts B newId initId bmB)(ex:PySem.W.excIn X.K C bmB newId=true)(hm:X.mg x=some (.ref C))(hg:Gl X x)(hc:X.calm=true)(hdb:(x==("__debug__" : Str))=false)
  (ha:PE X a (tC v)) (he:starEach [a] X.env=(false,eval a X.env)::starEach [] X.env) (hx:Passes (CXr X.prog X.w) X E):PS X (.Raise (some (.Call (.Name x np) [a] [] cpos)) none pos) (λ_ _ H=>E (.ref C) none H):=by
 intro pins s σ H D I h;obtain⟨tl,N,nm,q,bs,hdct,sn,sub,ab,col,dd,k0,k1,k2,k3,k5,mN,hC,hN,hni,T⟩:=tT I.ok.mod.kin ex
 refine wpAny_Raise_call_subT (C:=C) (nm:=nm) (q:=q) (N:=N) (bs:=bs) (bm:=tl) (hdct:=hdct) (sn:=sn) (sub:=sub) (ab:=ab) (col:=col) (dd:=dd) (k0:=k0) (k1:=k1) (k2:=k2) (k3:=k3) (k5:=k5)
  FB (mN:=mN) (T.hasType FB.hasBase) (I.ok.hd hc) (by rw[he]; rfl) hni (iV I hg hm ⟨rfl,?_⟩ hdb)
 have ha':=dJ ha d_ he cpos pins s σ H (λvs H'=>vs.length<=1/\E (.ref C) none H') I ⟨by simp,h⟩;rw[he] at ha' ⊢;refine Calls.evalArgs_plain (Xu ha' (λvs s2 ⟨ws,H2,I2,r,hl,hE⟩=>⟨rfl,?_,I2.bk _ _ hC,hN.keeps I2.bk,T.keeps I2.bk,λh' e hmd=>?_⟩) λ_ _ z=>z)
 ·show vs.length<=sizeLine;rw[<- r.length,XA]; omega
 ·have old:∀{b:Addr},(H2 b≠none\/∃o',s2.heap.get? b=some o')->b<s2.heap.objs.size:=λ{b} hb=>by
   rcases hb with z|⟨o',z⟩
   ·cases q:H2 b with
    | none=>exact absurd q z
    | some ob=>exact I2.hok.lt q
   ·exact Zo z
  refine hx pins σ H2 s2 _ _ I2 ⟨e,C,PySem.W.hideAll s2.heap (frs X.stack),H2,rfl,rfl,I2.bare,Un.kept hmd.keeps,I2.hok.kept hmd.keeps,⟨λb o z=>hmd.keeps b o (Wo _ z),?_,?_⟩,?_,λb o z1 z2 z3=>?_,hE⟩
  ·cases z:(PySem.W.hideAll s2.heap (frs X.stack)).get? e with
   | none=>rfl
   | some o=>have:=Wo _ z; rw[hmd.new] at this; cases this
  ·refine(PySem.W.funFrames_hide I2.stack λenv hv b hb=>Qn.mpr ⟨env,hv,hb⟩).of_keeps λb o z _=>⟨o,hmd.keeps b o z,rfl⟩
  ·obtain⟨t,z,_⟩:=hmd.there;exact⟨t,z⟩
  ·have:∃o1,s2.heap.get? b=some o1:=by
    rcases z2 with z|⟨o',z⟩
    ·cases q:H2 b with
     | none=>exact absurd q z
     | some ob=>exact rK I2.hok q
    ·exact⟨o',z⟩
   obtain⟨o1,z4⟩:=this;have z5:=hmd.keeps b o1 z4;rw[z1] at z5; cases z5;exact PySem.W.hideAll_get _ z4 z3
theorem wR{A:Around}{E:WC}{pins:WD}{s:WI}{σ:St}{H:Hp}{x:Str}{u:Value}{pos:Pos}{Q:WC}(I:Inv X pins σ H s)(hg:Gl X x)(hm:X.mg x=some u)(hd:(x==("__debug__" : Str))=false)(h:Q u s):wpAny (model X.prog X.w) A (eval (.Name x pos) X.env) Q E s:=by
 refine Qa I.ok.kind hg (Calls.loadGlobal_global ?_ hm h) hd;rw[I.ok.glob]; exact I.mod.glob.keeps I.bk
theorem FY{CX:CXT}{k:Nat}{f:Addr}{fd:FuncData}{ps:WP}{sp:Sp}{E:XK}{pins:WD}{σ:St}{H:Hp}{s:WI}{Q:VK}{us:WH}{vs:WT}{Z:WC}(F:cS X.prog X.w X.K X.mg X.base CX k f fd ps sp)(hr:bR k X.A)(hb:Binds X.K fd ps [])
  (I:Inv X pins σ H s) (r:Vals vs us) (h:sp vs H Q E) (hz:∀e s',CX X.stack H s E e s'->Z e s'):wpAny (model X.prog X.w) X.A (call (.ref f) us) (EP X pins σ Q) Z s:=by
 have hl:(us++[]).length=ps.length:=by rw[Xn,<- r.length]; exact F.len _ _ _ _ h
 have hb2:=hb s us I.kIn hl;rw[Xn] at hb2;refine wpAny_call (QL (F.run X.A X.stack s H ⟨us,[]⟩ us vs Q E hr I.qc hb2 r h) λr s' hq=>?_)
 cases r with
 | error e=>exact hz e s' hq
 | ok fl =>
  cases fl with
  | ret u=>exact I.after hq
  | next=>exact hq.elim
  | brk=>exact hq.elim
  | cont=>exact hq.elim
end
end L2

namespace L2
open PySem PySem.Spec PySem.Calls PyProof.Rows
open PySem.W (Looks)
def bV(a C:Addr)(h:Heap):Prop:=∃o,h.get? a=some o/\o.cls=.ref C/\∃vs,o.data=.fields vs
theorem bV.ty{a C:Addr}{h:Heap}(p:bV a C h)(M:Model):Looks M h (typeOf (.ref a)) (.ref C):=by
 obtain⟨o,h1,h2,_⟩:=p;exact h2▸(Looks.ld h1).andThen .now
theorem C3{K:WG}{a C:Addr}{c:Value}(e:PySem.W.kitOne K (.ref C) c=some true):Answers (λs=>K.In s.heap/\bV a C s.heap) (.ref a) c true:=by
 intro dep tk prog w A R s hs;obtain⟨h0,g,d,tt,os⟩:=s;obtain⟨⟨X,p⟩,hq⟩:=hs;have LT:=bV.ty p (model prog w);unfold PySem.W.kitOne at e;unfold Builtin.«isinstance.nested»;refine Za (LT.at ?_)
 by_cases q:(Value.ref C==c)=true
 ·rw[Ze q]
  first
   | ((repeat lk); exact hq tt)
   | exact Za (X2 (hq tt))
   | exact Za (X2 (Zd (hq tt)))
 ·rw[Zg q] at e;rw[Zg q];obtain⟨hty,his,hsub⟩:=PySem.W.kit_cls (M:=model prog w) X e;have LI:Looks (model prog w) h0 (isInstance (.ref a) c) true:=LT.andThen hsub;refine Za (hty.at ?_);rw[Ze (by decide)]
  k_delta "plainIsInstance"
  refine Za (Za (his.at ?_));simp only[XY,Zw,ZK];refine Za (LI.at ?_)
  first
   | exact Zd (Zd (hq tt))
   | (simp only[Xa]; first|exact Zd (Zd (hq tt))|exact Zd (hq tt)|exact Za (Zd (Zd (hq tt))))
theorem DS{K:WG}{a C:Addr}{c:Value}{prog:WK}{w:WN}{A:Around}{E:WC}{s:WI}{Q:WC}(X:K.In s.heap)(p:bV a C s.heap)(e:PySem.W.kitOne K (.ref C) c=some true)(h:∀tk,Q (.bool true) { s with toks:=tk }) :
  wpAny (model prog w) A (call (.builtin "isinstance") [.ref a,c]) Q E s :=
 call_isinstance (S:=λ_ R s=>(K.In s.heap/\bV a C s.heap)/\∀tk,R (.ok (.ret (.bool true))) { s with toks:=tk })
  (λprog w A R s hs=>isinstance_outer (C3 e 0 _ prog w A R s hs) (λz=>nomatch z)) ⟨⟨X,p⟩,h⟩
section
variable{X:Cx}{i:Nat}{C:Addr}
def PV(X:Cx)(i:Nat)(C:Addr)(e:Expr)(v:V):Prop:=∀(A:Around) (E:WC) (pins:WD) (σ:St) (H:Hp) (s:WI) (a:Addr) (Q:WC),
 Inv X pins σ H s->σ[i]?=some (some (.ref a))->bV a C s.heap->(∀tk u,RelV v u->Q u { s with toks:=tk })->wpAny (model X.prog X.w) A (eval e X.env) Q E s
theorem CT{A:Around}{E:WC}{pins:WD}{s:WI}{σ:St}{H:Hp}{x:Str}{u:Value}{pos:Pos}{Q:WC}(I:Inv X pins σ H s)(hg:Gl X x)(hm:X.mg x=none)(hv:bootBuiltins x=some u)(h:Q u s)
  (hn:x≠"__name__") (hd:(x==("__debug__" : Str))=false):wpAny (model X.prog X.w) A (eval (.Name x pos) X.env) Q E s:=by
 obtain⟨mb,h1,h2⟩:=I.mod.blt;exact Qa I.ok.kind hg (Calls.loadGlobal_builtin (by rw[I.ok.glob]; exact I.mod.glob.keeps I.bk) hm (by rw[I.ok.blt]; exact h1.keeps I.bk) ((h2 x hn).trans hv) h) hd
def dj(X:Cx)(d:Str)(c:Value):Prop:=Gl X d/\(d==("__debug__" : Str))=false/\(X.mg d=some c\/(X.mg d=none/\bootBuiltins d=some c/\d≠"__name__"))
theorem dj.ld{A:Around}{E:WC}{pins:WD}{s:WI}{σ:St}{H:Hp}{d:Str}{c:Value}{pos:Pos}{Q:WC}(n:dj X d c)(I:Inv X pins σ H s)(h:Q c s):wpAny (model X.prog X.w) A (eval (.Name d pos) X.env) Q E s:=by
 obtain⟨hg,hd,hm|⟨hm,hv,hn⟩⟩:=n
 ·exact wR I hg hm hd h
 ·exact CT I hg hm hv h hn hd
theorem rT{n d:Str}{c:Value}{p1 p2 p3 pos:Pos}(hi:X.N[i]?=some n)(hk:X.env.kindOf n=some .local)(hd:(n==("__debug__" : Str))=false)(hv:Vis X.env.scope n)
  (hb:dj X "isinstance" (.builtin "isinstance")) (hc:dj X d c) (e:PySem.W.kitOne X.K (.ref C) c=some true):PV X i C (.Call (.Name "isinstance" p1) [.Name n p2,.Name d p3] [] pos) (.bl true):=by
 intro A E pins σ H s a Q I hσ hx h;refine Xp (hb.ld I ?_);refine XR (XM ?_) rfl rfl;obtain⟨m,hn,hl⟩:=I.loc;obtain⟨u,r,l⟩:=hl i n _ hi hσ hv;cases(show u=Value.ref a from r)
 have hm:m n=some (.ref a):=by
  rcases l with⟨_,z⟩|⟨z|z,_⟩
  ·exact z
  ·rw[hk] at z; cases z
  ·rw[hk] at z; cases z
 refine wpAny_Name (Q6 I.ok.kind hk hn hm ?_) hd;refine XM (hc.ld I (Qw ?_));exact DS I.kIn hx e λtk=>h tk _ rfl
theorem Inv.gone{pins:WD}{σ:St}{H:Hp}{s:WI}{m:WM}{n:Str}{v:Option Value}{h':Heap}{t':Nat}(I:Inv X pins σ H s)(hN:X.N.Nodup)(hi:X.N[i]?=some n)(hn:s.heap.Ns X.env.locals m)
  (hl:∀(j:Nat) (x:Str) (v:V),X.N[j]?=some x->σ[j]?=some (some v)->Vis X.env.scope x->∃u,RelV v u/\Look X.env s.heap m x u) (hn':h'.Ns X.env.locals (λx=>if x=n then v else m x)) (hs:Heap.SameBut X.env.locals s.heap h') :
  Inv X pins (σ.set i none) H { s with heap:=h',toks:=t' }:=by
 have cne:=I.cne;obtain⟨oL,_,_,hoL,_⟩:=id hn;refine⟨I.ok,I.os,I.bare,⟨λb o e n hb hx=>?_,λb o e n hb hx=>?_,I.base.free,λb o e hx=>?_,I.base.tups,I.base.frzs,I.base.tbls⟩,⟨_,hn',λj y v' e1 e2 e3=>?_⟩,λy c e=>?_,I.free,I.freeC,λp hp=>?_,λb ob e=>?_,by simpa using I.len⟩
 ·exact(hs.2 b (ZC (ZE (Zo e) I.ok.above))).trans (I.base.keep b o e n hb hx)
 ·obtain⟨sl,e1⟩:=I.base.slot b o e n hb hx;exact⟨sl,(hs.2 b (ZC (ZE (Zo e) I.ok.above))).trans e1⟩
 ·obtain⟨o',e1⟩:=I.base.there b o e hx;exact⟨o',(hs.2 b (ZC (ZE (Zo e) I.ok.above))).trans e1⟩
 ·by_cases hj:j=i
  ·subst hj;rw[Wu] at e2;simp at e2
  ·rw[ZR (Ne.symm hj)] at e2;obtain⟨u',r',q⟩:=hl j y v' e1 e2 e3;refine⟨u',r',?_⟩;rcases q with⟨k,e⟩|⟨k,c,e,z⟩
   ·refine .inl ⟨k,?_⟩;have:y≠n:=λe=>hj (kW hN e1 (e▸hi))
    simp[this,e]
   ·exact .inr ⟨k,c,e,z.sameBut hs (cne y c e)⟩
 ·obtain⟨w',z⟩:=I.cell y c e;exact⟨w',z.sameBut hs (cne y c e)⟩
 ·obtain⟨e,n,ne,nf,d⟩:=I.pin p hp;exact⟨(hs.2 p.1 ne).trans e,n,ne,nf,d⟩
 ·refine(I.hok b ob e).stay (λc w' hc q=>(hs.2 c ?_).trans q) (λ_ q=>q) λ_ _ q=>q
  rintro rfl;rcases hc with rfl|hc
  ·rw[I.free] at e; cases e
  ·rw[I.free] at hc; cases hc
section
variable{k:Nat}{f:Addr}{fd:FuncData}{ps:WP}{sp:Sp}{x c n:Str}{newId:String}{bmB:WH}{p cpos rpos np hpos rp2 pos:Pos}{e kx:Expr}{es:WS}{t:TA}{kv:V}{b1:Stmt}{bs1:List Stmt}
end
end
end L2

namespace L2
open PySem PySem.Spec PySem.Calls PyProof.Rows
open PySem.W (Looks)
open PySem.Builtin PySem.Builtin.ObjectAttr PySem.Builtin.Getset_descriptor
set_option genInjectivity false in
structure d7(K:WG)(C:Addr):Prop where
 ga:PySem.W.findIn K (.ref C) "__getattribute__" = some (some (.builtin "BaseException.__getattribute__"))
 gt:PySem.W.findIn K (.ref C) "__getattr__" = some none
 cl:PySem.W.findIn K (.ref C) "__class__" = some (some (.builtin "object.__class__"))
 gn:PySem.W.specialIn K (.builtin "object.__class__") "__get__" = some (some (.builtin "getset_descriptor.__get__"))
 tk:PySem.W.takesIn K (.builtin "object.__class__")=some true
 mo:PySem.W.mroIn K C (.type "object")=some true
 mb:PySem.W.mroIn K C (.type "BaseException")=some true
 is:(PySem.W.clsIn K C).isSome=true
section
variable{K:WG}{prog:WK}{w:WN}{A:Around}{E:WC}{s:WI}{a C:Addr}
theorem BE(X:K.In s.heap)(p:bV a C s.heap)(T:d7 K C)(M:Model):Looks M s.heap (find (.ref a) (.ref C) "__class__") (.bind (.builtin "getset_descriptor.__get__") (.builtin "object.__class__")):=by
 have L1:=Wj (M:=M) X T.cl;have L2:Looks M s.heap (getOf (some (.builtin "object.__class__"))) (some (.builtin "getset_descriptor.__get__")):=PySem.W.looks_specialIn X T.gn;have L3:=PySem.W.looks_takesIn (M:=M) X T.tk;refine L1.andThen (L2.andThen ?_);exact(show Looks M s.heap (dataDescriptor? (some (.builtin "object.__class__")) (some (.builtin "getset_descriptor.__get__"))) (some (.builtin "getset_descriptor.__get__",.builtin "object.__class__")) from L3.andThen .now).andThen (Looks.tag .now)
theorem yR{R:Result->Shared->Prop}{tp:Value}(X:K.In s.heap)(p:bV a C s.heap)(T:d7 K C)(h:R (.ok (.ret (.ref C))) s):codeAny (model prog w) A (.call (.builtin "getset_descriptor.__get__") ⟨[.builtin "object.__class__",.ref a,tp],[]⟩) R s:=by
 obtain⟨hh,g,dr,t,os⟩:=s;have L0:=bV.ty p (model prog w);have L1:=PySem.W.looks_mroIn (M:=model prog w) X T.mo;refine Wl PySem.W.KF.slot_gs.plain PySem.W.KF.entry_gs (PySem.W.KF.slot_gs.check _ _ _ _ _ _ _ _ PySem.W.KF.type_class (PySem.W.KF.args_gs _ _ _) ?_);unfold Builtin.«getset_descriptor.__get__» descrGet;rw[PySem.W.dga_obj];refine Za (Zd ?_);unfold descrGetter descrCheckInstance descrNameAndClass isInstance;simp only[PySem.W.KF.owner_class]
 repeat lk
 refine⟨Code.quiet_builtin _ (by decide +kernel),XI PySem.W.KF.entry_class ?_⟩;unfold Builtin.«object.__class__» shownTypeOf
 repeat lk
 exact h
theorem Cc{tk:Tok}{Q:Fin->Shared->Prop}(X:K.In s.heap)(p:bV a C s.heap)(T:d7 K C)(h:Q (.done (.ret (.ref C))) s) :
  wpAny (model prog w) A (Builtin.«object.__getattribute__» ⟨[.ref a,.str "__class__" tk],[]⟩) Q E s:=by
 obtain⟨hh,g,dr,t,os⟩:=s;have L0:=bV.ty p (model prog w);have L1:=BE (s:=⟨hh,g,dr,t,os⟩) X p T (model prog w);unfold Builtin.«object.__getattribute__»
 repeat lk
 refine wpAny_run (c:=.call (.builtin "getset_descriptor.__get__") ⟨[.builtin "object.__class__",.ref a,.ref C],[]⟩) (h:=none) (yR X p T ?_);exact Zd (Zd h)
theorem Fx{M:Model}{nameV:Value}{Q:Unit->Shared->Prop}(X:K.In s.heap)(p:bV a C s.heap)(T:d7 K C)(hq:Q () s):wpAny M A (checkBuiltinCall "BaseException.__getattribute__" ⟨[.ref a,nameV],[]⟩) Q E s:=by
 obtain⟨hh,g,d,t,os⟩:=s;have hk:builtinKind "BaseException.__getattribute__" = some .slot:=by decide +kernel
 have hsplit:splitId "BaseException.__getattribute__" = some ("BaseException","__getattribute__"):=by decide +kernel
 have L0:=bV.ty p M;have L1:=PySem.W.looks_mroIn (M:=M) X T.mb;have LI:Looks M hh (isInstance (.ref a) (.type "BaseException")) true:=L0.andThen L1;have ha:=F.args_bexc_ga (.ref a) nameV;simp only[checkBuiltinCall,hk,hsplit];refine Za (LI.at ?_)
 repeat (any_goals (first|assumption|wp_step))
theorem Ig{Q:Option Value->Shared->Prop}(X:K.In s.heap)(p:bV a C s.heap)(T:d7 K C)(h:Q (some (.ref C)) { s with toks:=s.toks+1 }):wpAny (model prog w) A (getAttr? (.ref a) "__class__") Q E s:=by
 obtain⟨hh,g,d,t,os⟩:=s;have L0:=bV.ty p (model prog w);have L1:=Wj (M:=model prog w) X T.ga;have L2:=Wj (M:=model prog w) X T.gt;have f3:=F.attrBase_ValueError.ga.bind (.ref a);unfold getAttr? getAttrBy? getAttrBy;refine Za (wpAny_mkText (Za (XX (Xg (Za (L0.at (Za (L1.at ?_))))))));dsimp only;rw[show(Value.builtin "BaseException.__getattribute__"==Value.builtin "object.__getattribute__")=false from by decide +kernel];simp only[Qy,Zw,ZK];unfold getAttrByItsOwn
 have HB:Looks (model prog w) hh (hookBefore (.ref C)) none:=by
  unfold hookBefore;first|exact L2|exact L2.andThen .now
 refine Za (HB.at (Za (XX (Xg ?_))));unfold callGetattribute boundAndCalled;simp only[Wm,Zw,ZK];rw[f3];refine Za (Zd (wpAny_call (Wl F.attrBase_ValueError.ga.plain F.entry_bexc_ga (Fx (s:=⟨hh,g,d,t+1,os⟩) X p T (Cc (s:=⟨hh,g,d,t+1,os⟩) X p T ?_)))));exact Zd (Zd h)
theorem G4(T:d7 K C):PySem.W.KitX K (.ref a) (.ref C) (bV a C) where
 ty:=λM _ _ p=>p.ty M
 it:=λ_ _ X _=>by
  have z:=T.is;unfold PySem.W.clsIn at z;split at z
  ·rename_i c' d' cd' sl' ho;intro A' Q' E' s' k q;unfold isType loadHead;exact Za (wpAny_loadPart (k _ _ (X _ _ ho)) (Zd q))
  ·cases z
 ne:=λh tp dd its n sl X htp=>by
  refine Bool.eq_false_iff.mpr λq=>?_
  have e:C=tp:=Value.ref.inj (QB.mp q);subst e;have z:=T.is;unfold PySem.W.clsIn at z;split at z
  ·rename_i c' d' cd' sl' ho;have z:=(X _ _ ho).symm.trans htp;cases z
  ·cases z
 ca:=λX p k=>Ig X p T k
end
section
variable{X:Cx}{i:Nat}{C:Addr}
theorem Cr{n d:Str}{c:Value}{p1 p2 p3 pos:Pos}(hi:X.N[i]?=some n)(hk:X.env.kindOf n=some .local)(hd:(n==("__debug__" : Str))=false)(hv:Vis X.env.scope n)
  (hb:dj X "isinstance" (.builtin "isinstance")) (hc:dj X d c) (T:d7 X.K C) (e:PySem.W.kitOne X.K (.ref C) c=some false):PV X i C (.Call (.Name "isinstance" p1) [.Name n p2,.Name d p3] [] pos) (.bl false):=by
 intro A E pins σ H s a Q I hσ hx h;refine Xp (hb.ld I ?_);refine XR (XM ?_) rfl rfl;obtain⟨m,hn,hl⟩:=I.loc;obtain⟨u,r,l⟩:=hl i n _ hi hσ hv;cases(show u=Value.ref a from r)
 have hm:m n=some (.ref a):=by
  rcases l with⟨_,z⟩|⟨z|z,_⟩
  ·exact z
  ·rw[hk] at z; cases z
  ·rw[hk] at z; cases z
 refine wpAny_Name (Q6 I.ok.kind hk hn hm ?_) hd;refine XM (hc.ld I (Qw ?_));exact X9 (G4 T) I.kIn hx e (λz=>nomatch z) λtk=>h tk _ rfl
end
end L2

namespace EV
open PySem PySem.Spec PyProof.Rows L2
theorem dP:∀{l:WP} {x:Str} {i:Nat},idx l x=some i->l[i]?=some x
 | [],_,_,h=>by cases h
 | y::r,x,i,h=>by
  unfold idx at h
  by_cases e:y=x
  ·rw[Ze e] at h; cases h; subst e; rfl
  ·rw[Zg e] at h
   cases q:idx r x with
   | none=>rw[q] at h; cases h
   | some j=>rw[q] at h; cases h; show r[j]?=some x; exact dP q
theorem jB:∀{l:WP},gg l=true->l.Nodup
 | [],_=>List.nodup_nil
 | x::r,h=>by
  rw[gg,Zl] at h;refine Xh.mpr ⟨λm=>?_,jB h.2⟩;have:(r.any λy=>decide (y=x))=true:=List.any_eq_true.mpr ⟨x,m,Zj rfl⟩;rw[this] at h; exact absurd h.1 (by simp)
theorem r6{sc:Scope}{x:Str}(h:fD sc x=true):Vis sc x:=by
 unfold fD at h;unfold Vis
 cases q:sc.names.lookup x with
 | none=>rw[q] at h; cases h
 | some k=>rw[q] at h; cases k<;>first|exact .inl rfl|exact .inr (.inl rfl)|exact .inr (.inr rfl)|cases h
theorem GG{sc:Scope}{x:Str}(h:Vis sc x):fD sc x=true:=by
 unfold fD;rcases h with h|h|h<;>rw[h]
theorem cL{x:Str}(h:cj x=true):(x==("__debug__" : Str))=false/\(x==("__classdict__" : Str))=false:=by
 unfold cj at h;rw[Zl] at h;exact⟨by simpa using h.1,by simpa using h.2⟩
set_option genInjectivity false in
structure Cok(c:TC)(X:Cx):Prop where
 sc:X.env.scope=c.sc
 N:X.N=c.N
 nd:X.N.Nodup
 kind:c.sc.kind=.function
 fn:∀x,c.inF x=true->X.fn x=true
 stk:c.top=true->X.stack=X.env::X.outer/\X.env.frame=some X.env.locals
theorem Cok.gl{c:TC}{X:Cx}(C:Cok c X){x:Str}(h:glB c x=true):Gl X x:=by
 show X.env.scope.names.lookup x=_;rw[C.sc]; exact Zk h
theorem Cok.loc{c:TC}{X:Cx}(C:Cok c X){x:Str}(h:d9 c x=true):L2.Loc X.env.scope x/\(X.fn x=true\/X.env.scope.names.lookup x=some .local):=by
 unfold d9 at h;unfold L2.Loc;rw[C.sc]
 cases q:c.sc.names.lookup x with
 | none=>rw[q] at h; cases h
 | some k =>
  rw[q] at h
  cases k with
  | «local»=>exact⟨.inl rfl,.inr rfl⟩
  | cell=>exact⟨.inr rfl,.inl (C.fn x h)⟩
  | _=>cases h
theorem Bs{scope:Scope}{env:Env}:relabel scope env=ic scope env.scope:=rfl
noncomputable def ez:List Str:=["len","all","any","sum","min","max","sorted","abs","list","tuple","int","bool","str","dict","range","enumerate","isinstance","set","zip","ValueError"]
section
variable(Γ:Gx)(W:XW->Prop)(CX:CXT)(EW:XW->XK)
noncomputable def spF(g:List D->M D)(n:Nat):Sp:=λvs H Q E=>vs.length=n/\∃xw,W xw/\E=EW xw/\∃ι S ds,av Γ ι H S/\az Γ ι H ds vs/\Out Γ xw ι H (g ds S) λd _ ι' H'=>∀v,Rep Γ ι' H' d v->Q v H'
noncomputable def EWx(K:WG):XW->XK:=λxw cls _ H'=>∃c C,cls=.ref C/\PySem.W.nsIn K mainGlobals c=some (some (.ref C))/\∃S ι,xw c S ι H'
theorem ewF{K:WG}{cls:Value}{o:Option Addr}{H:Hp}(h:EWx K XF cls o H):False:=by
 obtain⟨_,_,_,_,_,_,z⟩:=h;exact z
def ClsAt(K:WG)(x:Str):Prop:=∃C newId initId B bmB,PySem.W.nsIn K mainGlobals x=some (some (.ref C))/\PySem.W.excIn K C bmB newId=true/\ExcBaseFacts B newId initId bmB/\PySem.W.kitOne K (.ref C) (.type "ValueError")=some true /\
 (∃L,PySem.W.nsIn K mainGlobals "LapError" = some (some (.ref L))/\PySem.W.kitOne K (.ref C) (.ref L)=some true) /\
 (∀d P,gF x d=true->PySem.W.nsIn K mainGlobals d=some (some (.ref P))->d7 K C/\PySem.W.kitOne K (.ref C) (.ref P)=some false)
set_option genInjectivity false in
structure Fam(gt:List (Str×GE))(cf:Str->List D->M D)(X:Cx)(xw:XW):Prop where
 hK:Γ.K=X.K
 calm:X.calm=true
 un:X.A.units+64<cLine
 blt:∀x∈ez,gt.lookup x=none->X.mg x=none
 val:∀x d,gt.lookup x=some (.val d)->∃u v,X.mg x=some u/\RelV v u/\∀ι H,Rep Γ ι H d v
 fn:∀x,gt.lookup x=some .fn->∃k f fd ps,cS X.prog X.w X.K X.mg X.base CX k f fd ps (spF Γ W EW (cf x) ps.length)/\bR k X.A/\X.mg x=some (.ref f)/\PySem.W.keepIn X.K (.ref f)=true/\Binds X.K fd ps []/\∀ds S,ds.length≠ps.length->cf x ds S=.bad
 pass:Passes CX X (EW xw)
 rp:Passes (CXr X.prog X.w) X (EW xw)
 cls:∀x,gt.lookup x=some .cls->ClsAt X.K x/\∀C,PySem.W.nsIn X.K mainGlobals x=some (some (.ref C))->X.mg x=some (.ref C)
 cx:CX=CXe X.prog X.w
 ew:EW=EWx X.K
 wt:∀xw,W xw
end
section
variable{Γ:Gx}{W:XW->Prop}{CX:CXT}{EW:XW->XK}{gt:List (Str×GE)}{cf:Str->List D->M D}{X:Cx}{xw:XW}
theorem Fam.noR(F:Fam Γ W CX EW gt cf X xw){st:Heap->Heap->Addr->Addr->Prop}{outer:List Env}{H:Hp}{s:WI}{e:Value}{s':WI}(h:CXg st X.prog X.w outer H s (EW XF) e s'):False:=by
 obtain⟨_,_,_,_,_,_,_,_,_,_,_,_,z⟩:=h;rw[F.ew] at z;exact ewF z
theorem Fam.noF(F:Fam Γ W CX EW gt cf X xw){outer:List Env}{H:Hp}{s:WI}{e:Value}{s':WI}(h:CX outer H s (EW XF) e s'):False:=by
 rw[F.cx] at h;exact F.noR h
theorem Fam.ok(F:Fam Γ W CX EW gt cf X xw):W xw:=F.wt xw
theorem Fam.nox(F:Fam Γ W CX EW gt cf X xw):Fam Γ W CX EW gt cf X.nox XF :=
 ⟨F.hK,F.calm,F.un,F.blt,F.val,F.fn,λ_ _ _ _ _ _ _ h=>(F.noF h).elim,λ_ _ _ _ _ _ _ h=>(F.noR h).elim,F.cls,F.cx,F.ew,F.wt⟩
theorem Fam.comp(F:Fam Γ W CX EW gt cf X xw)(scope:Scope)(cl:List (Str×Addr))(N':WP)(fp:WL)(s3:WI)(H3:Hp):Fam Γ W CX EW gt cf (aN X scope cl N' fp s3 H3) XF :=
 ⟨F.hK,F.calm,F.un,F.blt,F.val,F.fn,λ_ _ _ _ _ _ _ h=>(F.noF h).elim,λ_ _ _ _ _ _ _ h=>(F.noR h).elim,F.cls,F.cx,F.ew,F.wt⟩
theorem Cok.nox{c:TC}(C:Cok c X):Cok c X.nox:=⟨C.sc,C.N,C.nd,C.kind,C.fn,C.stk⟩
end
theorem DZ{scope:Scope}{x:Str}(h:isFree scope x=true):(x,NameKind.free)∈scope.names:=by
 obtain⟨⟨n,k⟩,m,e⟩:=List.any_eq_true.mp h;rw[Zl] at e;obtain⟨e1,e2⟩:=e;have e1:n=x:=Zk e1;have e2:k=.free:=Zk e2;subst e1; subst e2; exact m
theorem rZ{c:TC}{X:Cx}{scope:Scope}(C:Cok c X)(h:oi c scope=true):fq X scope (inComp c scope).N (own scope).length /\
  ∀cl fp s3 H3,Cok (inComp c scope) (aN X scope cl (inComp c scope).N fp s3 H3):=by
 unfold oi at h;simp only[Zl] at h;obtain⟨⟨⟨⟨⟨h1,h2⟩,h3⟩,h4⟩,h5⟩,h6⟩:=h;rw[Z7] at h1 h4 h6;have hrel:relabel scope X.env=ic scope c.sc:=by rw[Bs,C.sc]
 refine⟨⟨λy hy hf=>?_,jB h2,Zk h3,λy hy hl=>?_,?_,λi x hi hx hv=>?_⟩,λcl fp s3 H3=>⟨hrel,rfl,jB h5,?_,λ_ h=>h,λz=>by cases z⟩⟩
 ·have:=h1 y hy;rw[Qs] at this;rcases this with z|z
  ·rw[hf] at z; simp at z
  ·show X.env.scope.names.lookup y.1=_\/X.env.scope.names.lookup y.1=_;rw[C.sc]
   cases q:c.sc.names.lookup y.1 with
   | none=>rw[q] at z; cases z
   | some k=>rw[q] at z; cases k<;>first|exact .inl rfl|exact .inr rfl|cases z
 ·have:=h4 y hy;rw[Qs] at this;rcases this with z|z
  ·rw[hl] at z; simp at z
  ·exact Zk z
 ·show(c.N.map (gT scope)++own scope).length=_;rw[ZG,Zi,C.N]
 ·have hx:(c.N.map (gT scope)++own scope)[i]?=some x:=hx;have hi':i<c.N.length:=by rw[<- C.N]; exact hi
  rw[ZF (by rw[Zi]; exact hi'),ZJ,Zb hi'] at hx;have hx:gT scope c.N[i]=x:=Zz hx;have hm:=h6 c.N[i] (Xr hi');rw[hrel] at hv ⊢;unfold gT at hx
  by_cases hf:isFree scope c.N[i]=true
  ·rw[Ze hf] at hx hm;subst hx;refine⟨by rw[C.N]; exact Zb hi',DZ hf,λz=>?_⟩;rw[z] at hm; simp at hm
  ·rw[Zg hf] at hx hm;subst hx;rw[GG hv] at hm; simp at hm
 ·exact Zk h3
end EV

namespace TB
open PySem PySem.SetTable
noncomputable def adv(mask:Nat)(p:Probe):Probe :=
 if p.more>0 then{ p with j:=p.j+1,more:=p.more-1 } else
 { p with j:=(leap mask p.i p.perturb).1,more:=runEnd mask (leap mask p.i p.perturb).1-(leap mask p.i p.perturb).1,i:=(leap mask p.i p.perturb).1,perturb:=(leap mask p.i p.perturb).2 }
theorem pB(t:SetTable)(p:Probe):t.advance p=adv t.mask p:=rfl
noncomputable def bs(mask:Nat)(b:Nat×Nat):Probe:={ j:=b.1,more:=runEnd mask b.1-b.1,i:=b.1,perturb:=b.2,dummy:=none }
noncomputable def st(mask:Nat)(h:Int):Nat->Probe
 | 0=>bs mask (bits h%(mask+1),bits h)
 | k+1=>adv mask (st mask h k)
noncomputable def pos(mask:Nat)(h:Int)(k:Nat):Nat:=(st mask h k).j
noncomputable def dB(mask:Nat):Nat->Probe->Probe
 | 0,p=>p
 | n+1,p=>dB mask n (adv mask p)
theorem o7(mask:Nat):∀(a b:Nat) (p:Probe),dB mask (a+b) p=dB mask b (dB mask a p)
 | 0,b,p=>by rw[XL]; rfl
 | a+1,b,p=>by rw[Nat.add_right_comm]; exact o7 mask a b (adv mask p)
theorem j3(mask:Nat)(h:Int):∀(n k:Nat),dB mask n (st mask h k)=st mask h (k+n)
 | 0,k=>rfl
 | n+1,k=>by
  show dB mask n (st mask h (k+1))=_;rw[j3 mask h n (k+1),show k+1+n=k+(n+1) by omega]
theorem rA(mask:Nat)(h:Int):∀k,(st mask h k).dummy=none
 | 0=>rfl
 | k+1=>by
  show(adv mask (st mask h k)).dummy=none;unfold adv;split<;>exact rA mask h k
set_option genInjectivity false in
structure Ok(mask:Nat)(p:Probe):Prop where
 i:p.i<=mask
 q:p.perturb<2^64
 m:p.more<=9
 j:p.j+p.more=runEnd mask p.i
 d:p.dummy=none
theorem pM(mask i:Nat):runEnd mask i-i<=9:=by unfold runEnd; split<;>omega
theorem nB(mask i:Nat):i<=runEnd mask i:=by unfold runEnd; split<;>omega
theorem rS{mask i:Nat}(h:i<=mask):runEnd mask i<=mask:=by unfold runEnd; split<;>omega
theorem uO{mask:Nat}{b:Nat×Nat}(h1:b.1<=mask)(h2:b.2<2^64):Ok mask (bs mask b) :=
 ⟨h1,h2,pM mask b.1,Nat.add_sub_cancel' (nB mask b.1),rfl⟩
theorem uf{mask i q:Nat}(h:q<2^64):(leap mask i q).1<=mask/\(leap mask i q).2<2^64:=by
 refine⟨QK.mp (Xl _ (Qh mask)),?_⟩;show q/32<_;omega
theorem y9{mask:Nat}{p:Probe}(h:Ok mask p):Ok mask (adv mask p):=by
 unfold adv;split
 ·rename_i hm;exact⟨h.i,h.q,by show p.more-1<=9; have:=h.m; omega,by show p.j+1+(p.more-1)=runEnd mask p.i; have:=h.j; omega,h.d⟩
 ·have:=uf (mask:=mask) (i:=p.i) h.q;exact⟨this.1,this.2,pM _ _,Nat.add_sub_cancel' (nB _ _),h.d⟩
theorem tX(h:Int):bits h<2^64:=by
 unfold bits;have h1:=Wd h (show(2^64:Int)≠0 by decide);have h2:=QO h (show(0:Int)<2^64 by decide);omega
theorem lF(mask:Nat)(h:Int):∀k,Ok mask (st mask h k)
 | 0=>uO (QK.mp (Xl _ (Qh mask))) (tX h)
 | k+1=>y9 (lF mask h k)
theorem Gf(mask:Nat)(h:Int)(k:Nat):pos mask h k<=mask:=by
 have o:=lF mask h k;have:=rS o.i;have:=o.j;unfold pos; omega
theorem mT(mask:Nat):∀(a:Nat) (p:Probe),a<=p.more->dB mask a p={ p with j:=p.j+a,more:=p.more-a }
 | 0,p,_=>rfl
 | a+1,p,h=>by
  have e:adv mask p={ p with j:=p.j+1,more:=p.more-1 }:=by unfold adv; rw[Ze (by omega)]
  show dB mask a (adv mask p)=_;rw[e,mT mask a _ (by show a<=p.more-1; omega)];show({ p with j:=p.j+1+a,more:=p.more-1-a }:Probe)=_;congr 1<;>omega
theorem ng{mask:Nat}{p:Probe}(h:p.dummy=none):dB mask (p.more+1) p=bs mask (leap mask p.i p.perturb):=by
 rw[o7,mT mask p.more p (Zn _)];show adv mask { p with j:=p.j+p.more,more:=p.more-p.more }=_;unfold adv;rw[Zg (by show ¬p.more-p.more>0; omega)];unfold bs;rw[<- h]
noncomputable def b5(mask:Nat):Nat->Nat×Nat->Nat×Nat
 | 0,b=>b
 | n+1,b=>b5 mask n (leap mask b.1 b.2)
theorem blocks{mask:Nat}:∀(n:Nat) (p:Probe),Ok mask p->∃c,c<=10*(n+1)/\dB mask c p=bs mask (b5 mask (n+1) (p.i,p.perturb))
 | 0,p,h=>⟨p.more+1,by have:=h.m; omega,ng h.d⟩
 | n+1,p,h=>by
  have hb:=uf (mask:=mask) (i:=p.i) h.q;obtain⟨c,hc,e⟩:=blocks n (bs mask (leap mask p.i p.perturb)) (uO hb.1 hb.2);refine⟨p.more+1+c,by have:=h.m; omega,?_⟩;rw[o7,ng h.d,e];rfl
theorem pT(mask:Nat):∀(n:Nat) (b:Nat×Nat),(b5 mask n b).2=b.2/32^n
 | 0,b=>(Nat.div_one _).symm
 | n+1,b=>by
  show(b5 mask n (leap mask b.1 b.2)).2=_;rw[pT mask n];show b.2/32/32^n=_;rw[Nat.div_div_eq_div_mul,Nat.pow_succ,Wz]
theorem qG(mask:Nat):∀(a b:Nat) (x:Nat×Nat),b5 mask (a+b) x=b5 mask b (b5 mask a x)
 | 0,b,x=>by rw[XL]; rfl
 | a+1,b,x=>by rw[Nat.add_right_comm]; exact qG mask a b _
theorem vX{mask:Nat}:∀(n:Nat) (b:Nat×Nat),b.1<=mask->(b5 mask n b).1<=mask
 | 0,b,h=>h
 | n+1,b,_=>vX n _ (QK.mp (Xl _ (Qh mask)))
noncomputable def g_(mask:Nat):Nat->Nat->List Nat
 | 0,_=>[]
 | n+1,i=>i::g_ mask n ((i*5+1)%(mask+1))
theorem mY{mask:Nat}:∀(n i j:Nat),j∈g_ mask n i->∃m,m<n/\(b5 mask m (i,0)).1=j
 | 0,i,j,h=>by simp[g_] at h
 | n+1,i,j,h=>by
  rcases Zm.mp h with rfl|h
  ·exact⟨0,by omega,rfl⟩
  ·obtain⟨m,hm,e⟩:=mY n _ j h;refine⟨m+1,by omega,?_⟩;have e2:leap mask i 0=((i*5+1)%(mask+1),0):=by unfold leap; rw[Nat.zero_div,Nat.add_zero]
   rw[<- e,<- e2];rfl
theorem DQ:∀i<8,∀j<8,j∈g_ 7 8 i:=by decide +kernel
theorem Hw:∀i<32,∀j<32,j∈g_ 31 32 i:=by decide +kernel
def Msk(mask:Nat):Prop:=mask=7\/mask=31
theorem round{mask:Nat}(hm:Msk mask){i j:Nat}(hi:i<=mask)(hj:j<=mask):∃m,m<=mask/\(b5 mask m (i,0)).1=j:=by
 rcases hm with rfl|rfl
 ·obtain⟨m,h,e⟩:=mY _ _ _ (DQ i (by omega) j (by omega)); exact⟨m,by omega,e⟩
 ·obtain⟨m,h,e⟩:=mY _ _ _ (Hw i (by omega) j (by omega)); exact⟨m,by omega,e⟩
theorem reach{mask:Nat}(hm:Msk mask){i q j:Nat}(hi:i<=mask)(hq:q<2^64)(hj:j<=mask):∃n,12<=n/\n<=12+mask/\(b5 mask (n+1) (i,q)).1=j:=by
 have h0:(b5 mask 13 (i,q)).2=0:=by
  rw[pT];exact Nat.div_eq_of_lt (QP hq (by decide))
 obtain⟨m,h1,e⟩:=round hm (vX 13 (i,q) hi) hj;refine⟨12+m,by omega,by omega,?_⟩;rw[show 12+m+1=13+m by omega,qG];rw[show b5 mask 13 (i,q)=((b5 mask 13 (i,q)).1,0) from Prod.ext rfl h0];exact e
theorem cover{mask:Nat}(hm:Msk mask)(h:Int)(k:Nat){j:Nat}(hj:j<=mask):∃d,d<10*turns mask/\pos mask h (k+d)=j:=by
 have o:=lF mask h k;obtain⟨n,h1,h2,e⟩:=reach hm o.i o.q hj;obtain⟨c,hc,e2⟩:=blocks n (st mask h k) o;refine⟨c,by unfold turns; omega,?_⟩;rw[j3] at e2;unfold pos;rw[e2];exact e
end TB

namespace TB
open PySem PySem.SetTable
def Srt(xs:Array Nat):Prop:=∀(i i' v v':Nat),xs[i]?=some v->xs[i']?=some v'->i<i'->v<v'
theorem m6{xs:Array Nat}(hs:Srt xs)(j:Nat):∀(fuel lo hi:Nat),lo<=hi->hi<=xs.size->hi-lo<=fuel->(∀(i v:Nat),xs[i]?=some v->i<lo->v<j)->(∀(i v:Nat),xs[i]?=some v->hi<=i->j<=v) ->
  below.go xs j fuel lo hi<=xs.size/\(∀(i v:Nat),xs[i]?=some v->i<below.go xs j fuel lo hi->v<j)/\∀(i v:Nat),xs[i]?=some v->below.go xs j fuel lo hi<=i->j<=v
 | 0,lo,hi,h1,h2,h3,h4,h5=>by
  have e:lo=hi:=by omega
  subst e;exact⟨h2,h4,h5⟩
 | fuel+1,lo,hi,h1,h2,h3,h4,h5=>by
  by_cases hl:lo<hi
  ·have ego:below.go xs j (fuel+1) lo hi=if xs.getD ((lo+hi)/2) j<j then below.go xs j fuel ((lo+hi)/2+1) hi else below.go xs j fuel lo ((lo+hi)/2):=by
    conv=>lhs; unfold below.go
    rw[Ze hl]
   have hm:(lo+hi)/2<xs.size:=by omega
   have hg:xs[(lo+hi)/2]?=some xs[(lo+hi)/2]:=Zv hm;have hd:xs.getD ((lo+hi)/2) j=xs[(lo+hi)/2]:=by rw[Xb,hg]; rfl
   rw[ego,hd]
   by_cases hv:xs[(lo+hi)/2]<j
   ·rw[Ze hv];refine m6 hs j fuel ((lo+hi)/2+1) hi (by omega) h2 (by omega) (λi v e hi'=>?_) h5
    by_cases z:i=(lo+hi)/2
    ·subst z; rw[hg] at e; cases e; exact hv
    ·exact QP (hs i _ v _ e hg (by omega)) hv
   ·rw[Zg hv];refine m6 hs j fuel lo ((lo+hi)/2) (by omega) (by omega) (by omega) h4 λi v e hi'=>?_
    by_cases z:i=(lo+hi)/2
    ·subst z; rw[hg] at e; cases e; omega
    ·have:=hs _ i _ v hg e (by omega); omega
  ·have ego:below.go xs j (fuel+1) lo hi=lo:=by
    conv=>lhs; unfold below.go
    rw[Zg hl]
   have e:lo=hi:=by omega
   subst e;rw[ego];exact⟨h2,h4,h5⟩
theorem oE{xs:Array Nat}(hs:Srt xs)(j:Nat):below xs j<=xs.size/\(∀(i v:Nat),xs[i]?=some v->i<below xs j->v<j)/\∀(i v:Nat),xs[i]?=some v->below xs j<=i->j<=v :=
 m6 hs j xs.size 0 xs.size (Xj _) (Zn _) (by omega) (λi v _ h=>by omega) λi v e h=>by
  have:=(ZO.mp e).1; omega
def NotIn(xs:Array Nat)(j:Nat):Prop:=∀i:Nat,xs[i]?≠some j
theorem below_at{xs:Array Nat}(hs:Srt xs){i j:Nat}(e:xs[i]?=some j):below xs j=i:=by
 obtain⟨h1,h2,h3⟩:=oE hs j;have hi:=(ZO.mp e).1;rcases Wx (below xs j) i with z|z|z
 ·have hg:xs[below xs j]?=some xs[below xs j]:=Zv (by omega);have:=h3 _ _ hg (Zn _);have:=hs _ i _ j hg e z;omega
 ·exact z
 ·have:=h2 i j e z; omega
theorem jE{t:SetTable}(hs:Srt t.place){i j:Nat}(e:t.place[i]?=some j):t.slot j=.live i:=by
 unfold slot;rw[below_at hs e];simp only[e,Qi,Xa]
theorem Fg{t:SetTable}(hd:t.dummies=#[]){j:Nat}(h:NotIn t.place j):t.slot j=.empty:=by
 unfold slot
 have h1:(t.place[below t.place j]?==some j)=false:=by
  cases q:t.place[below t.place j]?==some j with
  | false=>rfl
  | true=>exact absurd (by simpa using q) (h _)
 simp only[h1,Zw,ZK];rw[hd];rfl
theorem k_{t:SetTable}{f:Nat->Int}{h:Int}:∀(d k fuel:Nat),d<fuel->(∀k',k<=k'->k'<k+d->∃i,t.slot (pos t.mask h k')=.live i/\f i≠h) ->
  probe.go t f h fuel (st t.mask h k)=probe.go t f h (fuel-d) (st t.mask h (k+d))
 | 0,k,fuel,_,_=>rfl
 | d+1,k,0,hf,_=>by omega
 | d+1,k,fuel+1,hf,hw=>by
  obtain⟨i,e,hne⟩:=hw k (Zn _) (by omega);have e:t.slot (st t.mask h k).j=.live i:=e
  conv=>lhs; unfold probe.go
  simp only[e];rw[Zg (by simpa using hne),pB];show probe.go t f h fuel (st t.mask h (k+1))=_;rw[k_ d (k+1) fuel (by omega) λk' h1 h2=>hw k' (by omega) (by omega),show fuel+1-(d+1)=fuel-d by omega,show k+1+d=k+(d+1) by omega]
theorem An{t:SetTable}{f:Nat->Int}{h:Int}{d k:Nat}(hd:d<10*turns t.mask)(hw:∀k',k<=k'->k'<k+d->∃i,t.slot (pos t.mask h k')=.live i/\f i≠h)(he:t.slot (pos t.mask h (k+d))=.empty) :
  t.probe f h (st t.mask h k)=some (.empty (pos t.mask h (k+d)) none):=by
 unfold probe;rw[k_ d k _ hd hw];obtain⟨m,hm⟩:∃m,10*turns t.mask-d=m+1:=⟨10*turns t.mask-d-1,by omega⟩
 rw[hm];unfold probe.go;have he:t.slot (st t.mask h (k+d)).j=.empty:=he;simp only[he,rA];rfl
theorem zJ{t:SetTable}{f:Nat->Int}{h:Int}{d k i:Nat}(hd:d<10*turns t.mask)(hw:∀k',k<=k'->k'<k+d->∃i,t.slot (pos t.mask h k')=.live i/\f i≠h)(he:t.slot (pos t.mask h (k+d))=.live i)(hi:f i=h) :
  t.probe f h (st t.mask h k)=some (.candidate (pos t.mask h (k+d)) i (st t.mask h (k+d+1))):=by
 unfold probe;rw[k_ d k _ hd hw];obtain⟨m,hm⟩:∃m,10*turns t.mask-d=m+1:=⟨10*turns t.mask-d-1,by omega⟩
 rw[hm];unfold probe.go;have he:t.slot (st t.mask h (k+d)).j=.live i:=he;simp only[he];rw[Ze (by simpa using hi),pB];rfl
set_option genInjectivity false in
structure Good{α:Type}(t:SetTable)(es:Array (Int×α)):Prop where
 dum:t.dummies=#[]
 len:t.place.size=es.size
 srt:Srt t.place
 top:∀(i s:Nat),t.place[i]?=some s->s<=t.mask
 msk:Msk t.mask
 way:∀(i s:Nat) e,t.place[i]?=some s->es[i]?=some e->∃k,pos t.mask e.1 k=s/\∀k',k'<k->∃i':Nat,t.place[i']?=some (pos t.mask e.1 k')
variable{α:Type}{t:SetTable}{es:Array (Int×α)}
theorem Dc{xs:Array Nat}(hs:Srt xs){mask:Nat}(ht:∀(i s:Nat),xs[i]?=some s->s<=mask)(hl:xs.size<=mask):∃j,j<=mask/\NotIn xs j:=by
 have hnd:xs.toList.Nodup:=by
  refine Qe.mpr λi i' h1 h2 hlt e=>?_
  rw[ZD] at h1 h2;have:=hs i i' _ _ (Zv h1) (Zv h2) hlt;rw[XT,XT] at e;omega
 by_cases h:∃j,j<=mask/\NotIn xs j
 ·exact h
 ·exfalso
  have hsub:List.range (mask+1) ⊆ xs.toList:=λj hj=>by
   have hj:j<=mask:=by have:=ZZ.mp hj; omega
   by_cases q:NotIn xs j
   ·exact absurd ⟨j,hj,q⟩ h
   ·unfold NotIn at q;simp only[ne_eq,Classical.not_forall,Classical.not_not] at q;obtain⟨i,e⟩:=q;rw[<- ZX] at e;exact ZB e
  have:=(List.nodup_range (n:=mask+1)).length_le_of_subset hsub;rw[ZS,ZD] at this;omega
end TB

namespace TB
open PySem PySem.SetTable
variable{α:Type}{t:SetTable}{es:Array (Int×α)}
theorem least{P:Nat->Prop}:∀(n:Nat),P n->∃m,m<=n/\P m/\∀k,k<m->¬P k:=by
 intro n
 induction n using Nat.strongRecOn with
 | ind n ih =>
  intro h
  by_cases q:∃k,k<n/\P k
  ·obtain⟨k,hk,hp⟩:=q;obtain⟨m,h1,h2,h3⟩:=ih k hk hp;exact⟨m,by omega,h2,h3⟩
  ·exact⟨n,Zn _,h,λk hk hp=>q ⟨k,hk,hp⟩⟩
set_option genInjectivity false in
structure End(t:SetTable)(h:Int)(K:Nat):Prop where
 lt:K<10*turns t.mask
 free:NotIn t.place (pos t.mask h K)
 full:∀k,k<K->∃i:Nat,t.place[i]?=some (pos t.mask h k)
theorem Er(g:Good t es)(hl:es.size<=t.mask)(h:Int):∃K,End t h K:=by
 obtain⟨j,hj,hn⟩:=Dc g.srt g.top (g.len▸hl);obtain⟨d,hd,e⟩:=cover g.msk h 0 hj;rw[XL] at e;obtain⟨K,h1,h2,h3⟩:=least (P:=λk=>NotIn t.place (pos t.mask h k)) d (by show NotIn t.place _; rw[e]; exact hn);refine⟨K,by omega,h2,λk hk=>?_⟩;have:=h3 k hk;unfold NotIn at this;simp only[ne_eq,Classical.not_forall,Classical.not_not] at this;exact this
theorem Be(g:Good t es){h:Int}{K:Nat}(E:End t h K){i:Nat}{e:Int×α}(he:es[i]?=some e)(hh:e.1=h):∃k,k<K/\t.place[i]?=some (pos t.mask h k):=by
 have hi:=(ZO.mp he).1;have hi':i<t.place.size:=g.len▸hi;have hp:t.place[i]?=some t.place[i]:=Zv hi';obtain⟨k,e1,e2⟩:=g.way i _ e hp he;rw[hh] at e1 e2;refine⟨k,?_,by rw[hp,<- e1]⟩;rcases Wx k K with z|z|z
 ·exact z
 ·subst z; exact absurd (e1▸hp) (E.free i)
 ·obtain⟨i',q⟩:=e2 K z; exact absurd q (E.free i')
theorem HQ(g:Good t es){h:Int}{K:Nat}(E:End t h K){f:Nat->Int}{k:Nat}(hk:k<=K) :
  t.probe f h (st t.mask h k)=some (.empty (pos t.mask h K) none)/\(∀(m i:Nat),k<=m->m<K->t.place[i]?=some (pos t.mask h m)->f i≠h) \/
  ∃m i,k<=m/\m<K/\t.place[i]?=some (pos t.mask h m)/\f i=h/\t.slot (pos t.mask h m)=.live i/\t.probe f h (st t.mask h k)=some (.candidate (pos t.mask h m) i (st t.mask h (m+1)))/\∀(m' i':Nat),k<=m'->m'<m->t.place[i']?=some (pos t.mask h m')->f i'≠h:=by
 by_cases q:∃m,k<=m/\m<K/\∃i:Nat,t.place[i]?=some (pos t.mask h m)/\f i=h
 ·obtain⟨m0,q⟩:=q;obtain⟨m,_,⟨h1,h2,i,h3,h4⟩,h5⟩:=least (P:=λm=>k<=m/\m<K/\∃i:Nat,t.place[i]?=some (pos t.mask h m)/\f i=h) m0 q;have hne:∀(m' i':Nat),k<=m'->m'<m->t.place[i']?=some (pos t.mask h m')->f i'≠h:=λm' i' a b c d=>h5 m' b ⟨a,by omega,i',c,d⟩
  refine .inr ⟨m,i,h1,h2,h3,h4,jE g.srt h3,?_,hne⟩
  have:=zJ (t:=t) (f:=f) (h:=h) (d:=m-k) (k:=k) (i:=i) (by have:=E.lt; omega) (λk' a b=>by
   obtain⟨i',e⟩:=E.full k' (by omega);exact⟨i',jE g.srt e,hne k' i' a (by omega) e⟩) (by rw[show k+(m-k)=m by omega]; exact jE g.srt h3) h4
  rw[show k+(m-k)=m by omega] at this;exact this
 ·have hne:∀(m i:Nat),k<=m->m<K->t.place[i]?=some (pos t.mask h m)->f i≠h:=λm i a b c d=>q ⟨m,a,b,i,c,d⟩
  refine .inl ⟨?_,hne⟩
  have:=An (t:=t) (f:=f) (h:=h) (d:=K-k) (k:=k) (by have:=E.lt; omega) (λk' a b=>by
   obtain⟨i',e⟩:=E.full k' (by omega);exact⟨i',jE g.srt e,hne k' i' a (by omega) e⟩) (by rw[show k+(K-k)=K by omega]; exact Fg g.dum E.free)
  rw[show k+(K-k)=K by omega] at this;exact this
theorem gP{β:Type}(xs:Array β){p:Nat}(hp:p<=xs.size)(x:β)(i:Nat):(insertAt xs p x)[i]?=if i<p then xs[i]? else if i=p then some x else xs[i-1]?:=by
 rw[<- ZX,SetTable.toList_insertAt];have hl:(xs.toList.take p).length=p:=by rw[XZ,ZD]; omega
 by_cases h1:i<p
 ·rw[Ze h1];rw[ZF (by omega),QM h1,ZX]
 ·rw[Zg h1];rw[ZI (by omega),hl]
  by_cases h2:i=p
  ·subst h2; rw[Ze rfl,WA]; rfl
  ·rw[Zg h2];obtain⟨m,rfl⟩:∃m,i=p+1+m:=⟨i-p-1,by omega⟩
   rw[show p+1+m-p=m+1 by omega,show p+1+m-1=p+m by omega];show(xs.toList.drop p)[m]?=_;rw[List.getElem?_drop,ZX]
theorem ni{β:Type}(xs:Array β)(p:Nat)(x:β):(insertAt xs p x).size=xs.size+1:=by
 have:=(SetTable.insertAt_perm xs p x).length_eq;rw[ZD,ZD,Array.size_push] at this;exact this
theorem AI(j:Nat):has #[] j=false:=rfl
theorem EK(g:Good t es){h:Int}{K:Nat}(E:End t h K)(x:α):Good (t.put (pos t.mask h K)).1 (insertAt es (t.put (pos t.mask h K)).2 (h,x)):=by
 obtain⟨s1,s2,s3⟩:=oE g.srt (pos t.mask h K);generalize hj:pos t.mask h K=j at s1 s2 s3;have hfree:NotIn t.place j:=hj▸E.free;generalize hp:below t.place j=p at s1 s2 s3;have e1:(t.put j).1.place=insertAt t.place p j:=by unfold put; rw[hp]
 have e2:(t.put j).2=p:=by unfold put; rw[hp]
 have e3:(t.put j).1.mask=t.mask:=rfl
 have e4:(t.put j).1.dummies=#[]:=by
  show(if has t.dummies j then eraseAt t.dummies (below t.dummies j) else t.dummies)=#[];rw[g.dum,AI]; rfl
 have s1':p<=es.size:=g.len▸s1
 have up:∀(i s:Nat),t.place[i]?=some s->∃i':Nat,(insertAt t.place p j)[i']?=some s:=λi s e=>by
  by_cases z:i<p
  ·exact⟨i,by rw[gP _ s1,Ze z]; exact e⟩
  ·exact⟨i+1,by rw[gP _ s1,Zg (by omega),Zg (by omega)]; exact e⟩
 refine⟨e4,by rw[e1,e2,ni,ni,g.len],?_,?_,by rw[e3]; exact g.msk,?_⟩
 ·rw[e1];intro i i' v v' a b hlt;rw[gP _ s1] at a b
  by_cases z:i<p
  ·rw[Ze z] at a
   by_cases z':i'<p
   ·rw[Ze z'] at b; exact g.srt i i' v v' a b hlt
   ·rw[Zg z'] at b
    by_cases w:i'=p
    ·rw[Ze w] at b; cases b; exact s2 i v a z
    ·rw[Zg w] at b; exact g.srt i _ v v' a b (by omega)
  ·rw[Zg z] at a;rw[Zg (by omega),Zg (by omega)] at b
   by_cases w:i=p
   ·rw[Ze w] at a;cases a;have h1:=s3 _ v' b (by omega);have h2:v'≠j:=λq=>hfree _ (q▸b)
    omega
   ·rw[Zg w] at a;exact g.srt _ _ v v' a b (by omega)
 ·rw[e1,e3];intro i s a;rw[gP _ s1] at a
  by_cases z:i<p
  ·rw[Ze z] at a; exact g.top i s a
  ·rw[Zg z] at a
   by_cases w:i=p
   ·rw[Ze w] at a; cases a; rw[<- hj]; exact Gf _ _ _
   ·rw[Zg w] at a; exact g.top _ s a
 ·rw[e1,e2,e3];intro i s e a b;rw[gP _ s1] at a;rw[gP _ s1'] at b
  have old:∀(m s:Nat) e,t.place[m]?=some s->es[m]?=some e->∃k,pos t.mask e.1 k=s/\∀k',k'<k->∃i':Nat,(insertAt t.place p j)[i']?=some (pos t.mask e.1 k'):=λm s e a b=>by
   obtain⟨k,q1,q2⟩:=g.way m s e a b;exact⟨k,q1,λk' hk'=>let⟨i',q⟩:=q2 k' hk'; up i' _ q⟩
  by_cases z:i<p
  ·rw[Ze z] at a b; exact old i s e a b
  ·rw[Zg z] at a b
   by_cases w:i=p
   ·rw[Ze w] at a b;cases a; cases b;exact⟨K,hj,λk' hk'=>let⟨i',q⟩:=E.full k' hk'; up i' _ q⟩
   ·rw[Zg w] at a b; exact old _ s e a b
end TB

namespace TB
open PySem PySem.SetTable
def Occ(owner:Array (Option Nat))(j:Nat):Prop:=∃i:Nat,owner[j]?=some (some i)
theorem oY{mask:Nat}{h:Int}{c:Nat}{b:Nat×Nat}(e:st mask h c=bs mask b){a:Nat}(ha:b.1+a<=runEnd mask b.1):pos mask h (c+a)=b.1+a:=by
 unfold pos;rw[<- j3,e,mT mask a (bs mask b) (by show a<=runEnd mask b.1-b.1; omega)];rfl
theorem Jh{mask:Nat}{h:Int}{c:Nat}{b:Nat×Nat}(e:st mask h c=bs mask b):st mask h (c+(runEnd mask b.1-b.1+1))=bs mask (leap mask b.1 b.2):=by
 rw[<- j3,e];exact ng (p:=bs mask b) rfl
theorem tR{owner:Array (Option Nat)}{j:Nat}(hj:j<owner.size)(h:(owner.getD j (some 0)).isNone=false):Occ owner j:=by
 have hg:owner[j]?=some owner[j]:=Zv hj;rw[Xb,hg] at h;show ∃i:Nat,owner[j]?=some (some i);rw[hg]
 cases q:owner[j] with
 | none=>rw[q] at h; cases h
 | some i=>exact⟨i,rfl⟩
theorem FN{owner:Array (Option Nat)}{j:Nat}(hj:j<owner.size)(h:(owner.getD j (some 0)).isNone=true):owner[j]?=some none:=by
 have hg:owner[j]?=some owner[j]:=Zv hj;rw[Xb,hg] at h;rw[hg]
 cases q:owner[j] with
 | none=>rfl
 | some i=>rw[q] at h; cases h
theorem uI{mask:Nat}{owner:Array (Option Nat)}(hs:owner.size=mask+1){h:Int}{j0:Nat}(hf:owner[j0]?=some none):∀(fuel n:Nat) (b:Nat×Nat) (c:Nat),b.1<=mask->st mask h c=bs mask b->(∀k,k<c->Occ owner (pos mask h k))->(b5 mask n b).1=j0->n<fuel ->
  ∃K,layClean.free mask owner fuel b.1 b.2=some (pos mask h K)/\owner[pos mask h K]?=some none/\∀k,k<K->Occ owner (pos mask h k)
 | 0,n,b,c,_,_,_,_,hn=>by omega
 | fuel+1,n,b,c,hb,e,ho,hl,hn=>by
  have hr:=rS hb;have hge:=nB mask b.1
  cases q:(List.range (runEnd mask b.1+1-b.1)).find? (λk=>(owner.getD (b.1+k) (some 0)).isNone) with
  | some a =>
   obtain⟨h1,h2,h3⟩:=List.find?_range_eq_some.mp q;have h2:=ZZ.mp h2;have hp:=oY e (a:=a) (by omega);refine⟨c+a,?_,?_,λk hk=>?_⟩
   ·unfold layClean.free;rw[q,hp]
   ·rw[hp]; exact FN (by omega) h1
   ·by_cases z:k<c
    ·exact ho k z
    ·obtain⟨m,rfl⟩:∃m,k=c+m:=⟨k-c,by omega⟩
     rw[oY e (a:=m) (by omega)];exact tR (by omega) (by simpa using h3 m (by omega))
  | none =>
   have h3:=List.find?_range_eq_none.mp q;have occ:∀a,b.1+a<=runEnd mask b.1->Occ owner (b.1+a):=λa ha=>tR (by omega) (by simpa using h3 a (by omega))
   cases n with
   | zero =>
    exfalso;obtain⟨i,w⟩:=occ 0 (by omega);have hl:b.1=j0:=hl;rw[Nat.add_zero,hl,hf] at w;cases w
   | succ n =>
    have hle:(leap mask b.1 b.2).1<=mask:=QK.mp (Xl _ (Qh mask))
    obtain⟨K,r1,r2,r3⟩:=uI hs hf fuel n (leap mask b.1 b.2) (c+(runEnd mask b.1-b.1+1)) hle (Jh e) (λk hk=>by
     by_cases z:k<c
     ·exact ho k z
     ·obtain⟨m,rfl⟩:∃m,k=c+m:=⟨k-c,by omega⟩
      rw[oY e (a:=m) (by omega)];exact occ m (by omega)) hl (by omega)
    refine⟨K,?_,r2,r3⟩;unfold layClean.free;rw[q];exact r1
theorem xq{mask:Nat}(hm:Msk mask){owner:Array (Option Nat)}(hs:owner.size=mask+1){j0:Nat}(hf:owner[j0]?=some none)(h:Int) :
  ∃K,layClean.free mask owner (turns mask) (bits h%(mask+1)) (bits h)=some (pos mask h K)/\owner[pos mask h K]?=some none/\∀k,k<K->Occ owner (pos mask h k):=by
 have hj:j0<=mask:=by have:=(ZO.mp hf).1; omega
 have hi:bits h%(mask+1)<=mask:=QK.mp (Xl _ (Qh mask));obtain⟨n,h1,h2,e⟩:=reach hm hi (tX h) hj;exact uI hs hf (turns mask) (n+1) (bits h%(mask+1),bits h) 0 hi rfl (λk hk=>by omega) e (by unfold turns; omega)
set_option genInjectivity false in
structure Own(mask:Nat)(hs:WE)(owner:Array (Option Nat)):Prop where
 size:owner.size=mask+1
 lt:∀(j i:Nat),owner[j]?=some (some i)->i<hs.length
 ex:∀i:Nat,i<hs.length->∃j:Nat,owner[j]?=some (some i)
 inj:∀(j j' i:Nat),owner[j]?=some (some i)->owner[j']?=some (some i)->j=j'
 way:∀(j i:Nat) h,owner[j]?=some (some i)->hs[i]?=some h->∃K,pos mask h K=j/\∀k,k<K->Occ owner (pos mask h k)
theorem yb(mask:Nat):Own mask [] (Array.replicate (mask+1) none):=by
 have no:∀(j i:Nat),(Array.replicate (mask+1) (none:Option Nat))[j]?≠some (some i):=λj i e=>by
  rw[Array.getElem?_replicate] at e;split at e<;>cases e
 exact⟨Array.size_replicate,λj i e=>absurd e (no j i),λi h=>absurd h (Nat.not_lt_zero i),λj _ i e=>absurd e (no j i),λj i _ e=>absurd e (no j i)⟩
theorem zp{mask:Nat}{hs:WE}{owner:Array (Option Nat)}(o:Own mask hs owner)(hl:hs.length<=mask):∃j:Nat,owner[j]?=some none:=by
 by_cases q:∃j:Nat,owner[j]?=some none
 ·exact q
 ·exfalso
  have all:∀j,j<mask+1->∃i:Nat,owner[j]?=some (some i):=λj hj=>by
   have hj':j<owner.size:=by rw[o.size]; exact hj
   have hg:owner[j]?=some owner[j]:=Zv hj'
   cases w:owner[j] with
   | none=>exact absurd ⟨j,by rw[hg,w]⟩ q
   | some i=>exact⟨i,by rw[hg,w]⟩
  let g:Nat->Nat:=λj=>((owner[j]?).getD none).getD 0
  have hg:∀j i:Nat,owner[j]?=some (some i)->g j=i:=λj i e=>by show((owner[j]?).getD none).getD 0=i; rw[e]; rfl
  have hnd:((List.range (mask+1)).map g).Nodup:=by
   refine Wy.mpr (List.Pairwise.imp_of_mem (λ{a b} ha hb hab=>?_) (List.nodup_range (n:=mask+1)));obtain⟨i,e⟩:=all a (ZZ.mp ha);obtain⟨i',e'⟩:=all b (ZZ.mp hb);rw[hg a i e,hg b i' e'];intro z;subst z;exact hab (o.inj a b i e e')
  have hsub:(List.range (mask+1)).map g ⊆ List.range hs.length:=λx hx=>by
   obtain⟨j,hj,rfl⟩:=ZP.mp hx;obtain⟨i,e⟩:=all j (ZZ.mp hj);rw[hg j i e];exact ZZ.mpr (o.lt j i e)
  have:=hnd.length_le_of_subset hsub;rw[Zi,ZS,ZS] at this;omega
theorem Gp{mask:Nat}(hm:Msk mask){hs:WE}{owner:Array (Option Nat)}(o:Own mask hs owner)(hl:hs.length<=mask)(h:Int) :
  ∃j,layClean.free mask owner (turns mask) (bits h%(mask+1)) (bits h)=some j/\Own mask (hs++[h]) (owner.setIfInBounds j (some hs.length)):=by
 obtain⟨j0,hf⟩:=zp o hl;obtain⟨K,e1,e2,e3⟩:=xq hm o.size hf h;generalize hj:pos mask h K=j at e1 e2;have hjl:j<owner.size:=(ZO.mp e2).1
 have get:∀x:Nat,(owner.setIfInBounds j (some hs.length))[x]?=if x=j then some (some hs.length) else owner[x]?:=λx=>by
  rw[Array.getElem?_setIfInBounds]
  by_cases z:j=x
  ·subst z; rw[Ze rfl,Ze hjl,Ze rfl]
  ·rw[Zg z,Zg (λq=>z q.symm)]
 have keep:∀x:Nat,Occ owner x->Occ (owner.setIfInBounds j (some hs.length)) x:=λx ⟨i,w⟩=>⟨i,by
  rw[get,Zg (λq=>by subst q; rw[e2] at w; cases w)]; exact w⟩
 refine⟨j,e1,?_,?_,?_,?_,?_⟩
 ·rw[Array.size_setIfInBounds]; exact o.size
 ·intro x i w;rw[get] at w;rw[ZG,XN];split at w
  ·cases w; omega
  ·have:=o.lt x i w; omega
 ·intro i hi;rw[ZG,XN] at hi
  by_cases z:i=hs.length
  ·subst z; exact⟨j,by rw[get,Ze rfl]⟩
  ·obtain⟨x,w⟩:=o.ex i (by omega);exact⟨x,by rw[get,Zg (λq=>by subst q; rw[e2] at w; cases w)]; exact w⟩
 ·intro x x' i w w';rw[get] at w w'
  by_cases z:x=j
  ·by_cases z':x'=j
   ·rw[z,z']
   ·rw[Ze z] at w; rw[Zg z'] at w';cases w;have:=o.lt x' _ w'; omega
  ·rw[Zg z] at w
   by_cases z':x'=j
   ·rw[Ze z'] at w';cases w';have:=o.lt x _ w; omega
   ·rw[Zg z'] at w'; exact o.inj x x' i w w'
 ·intro x i h' w hh;rw[get] at w
  by_cases z:x=j
  ·rw[Ze z] at w;cases w;rw[ZI (Zn _),WA] at hh;cases hh;exact⟨K,by rw[hj,z],λk hk=>keep _ (e3 k hk)⟩
  ·rw[Zg z] at w;rw[ZF (o.lt x i w)] at hh;obtain⟨K',r1,r2⟩:=o.way x i h' w hh;exact⟨K',r1,λk hk=>keep _ (r2 k hk)⟩
theorem sV{mask:Nat}(hm:Msk mask):∀(rest done:WE) (owner:Array (Option Nat)),Own mask done owner->done.length+rest.length<=mask+1 ->
  ∃o',(rest.foldl (λ(acc:Option (Array (Option Nat)×Nat)) h=>do let(owner,k) <- acc; let j <- layClean.free mask owner (turns mask) (bits h%(mask+1)) (bits h); pure (owner.setIfInBounds j (some k),k+1)) (some (owner,done.length)))=some (o',(done++rest).length)/\Own mask (done++rest) o'
 | [],done,owner,o,_=>⟨owner,by rw[Xn]; rfl,by rw[Xn]; exact o⟩
 | h::rest,done,owner,o,hl=>by
  rw[Z0] at hl;obtain⟨j,e,o2⟩:=Gp hm o (by omega) h;obtain⟨o',e',o3⟩:=sV hm rest (done++[h]) _ o2 (by rw[ZG,XN]; omega);rw[Zt] at e' o3;refine⟨o',?_,o3⟩;rw[Q9];rw[ZG,XN] at e'
  have:(do let(owner,k) <- some (owner,done.length); let j <- layClean.free mask owner (turns mask) (bits h%(mask+1)) (bits h); pure (owner.setIfInBounds j (some k),k+1))=some (owner.setIfInBounds j (some done.length),done.length+1):=by
   show(layClean.free mask owner (turns mask) (bits h%(mask+1)) (bits h)).bind (λj=>some (owner.setIfInBounds j (some done.length),done.length+1))=_;rw[e]; rfl
  rw[this];exact e'
theorem En{mask:Nat}(hm:Msk mask)(hs:Array Int)(hl:hs.size<=mask+1):∃o',layClean mask hs=some o'/\Own mask hs.toList o':=by
 obtain⟨o',e,o⟩:=sV hm hs.toList [] _ (yb mask) (by rw[Qp,ZD]; omega);rw[XH] at e o;refine⟨o',?_,o⟩;unfold layClean;rw[<- Array.foldl_toList];rw[Qp] at e;rw[e];rfl
end TB

namespace TB
open PySem PySem.SetTable
variable{α:Type}{es:Array (Int×α)}
theorem uw:∀{l:List Nat},(∀i∈l,i<es.size)->(l.filterMap (es[·]?)).length=l.length/\∀m:Nat,(l.filterMap (es[·]?))[m]?=l[m]?.bind (es[·]?)
 | [],_=>⟨rfl,λm=>by simp⟩
 | i::l,h=>by
  have hi:=h i Zp;obtain⟨h1,h2⟩:=uw (l:=l) λx hx=>h x (Zr _ hx)
  have e:es[i]?=some es[i]:=Zv hi;rw[Z8,e];refine⟨by rw[Z0,Z0,h1],λm=>?_⟩
  cases m with
  | zero=>rw[List.getElem?_cons_zero,List.getElem?_cons_zero]; exact e.symm
  | succ m=>rw[List.getElem?_cons_succ,List.getElem?_cons_succ]; exact h2 m
noncomputable def bN(mask:Nat)(owner:Array (Option Nat)):List (Nat×Nat):=(List.range (mask+1)).filterMap λj=>(owner.getD j none).map (j,·)
theorem Aw{mask:Nat}{owner:Array (Option Nat)}(hs:owner.size=mask+1)(j i:Nat):(j,i)∈bN mask owner ↔ owner[j]?=some (some i):=by
 unfold bN;rw[Qn];constructor
 ·rintro⟨x,hx,e⟩;have hx:x<owner.size:=by rw[hs]; exact ZZ.mp hx
  have hg:owner[x]?=some owner[x]:=Zv hx;rw[Xb,hg] at e
  cases q:owner[x] with
  | none=>rw[q] at e; cases e
  | some y =>
   rw[q] at e;have e:(x,y)=(j,i):=by simpa using e
   cases e;rw[hg,q]
 ·intro e;have hj:j<owner.size:=(ZO.mp e).1;refine⟨j,ZZ.mpr (by omega),?_⟩;rw[Xb,e]; rfl
theorem Dn(mask:Nat)(owner:Array (Option Nat)):(bN mask owner).Pairwise λa b=>a.1<b.1:=by
 refine List.Pairwise.filterMap _ (λa a' hlt b hb b' hb'=>?_) List.pairwise_lt_range
 cases q:owner.getD a none with
 | none=>rw[q] at hb; cases hb
 | some y =>
  cases q':owner.getD a' none with
  | none=>rw[q'] at hb'; cases hb'
  | some y' =>
   rw[q] at hb; rw[q'] at hb';have hb:(a,y)=b:=by simpa using hb
   have hb':(a',y')=b':=by simpa using hb'
   subst hb; subst hb';exact hlt
theorem Ay{l l':List Nat}(h:l.Nodup)(h':l'.Nodup)(hm:∀a,a∈l ↔ a∈l'):l.Perm l':=by
 rw[List.perm_iff_count];intro a;rw[h.count,h'.count]
 by_cases q:a∈l
 ·rw[Ze q,Ze ((hm a).mp q)]
 ·rw[Zg q,Zg (λz=>q ((hm a).mpr z))]
theorem IC{mask:Nat}(hm:Msk mask)(es:Array (Int×α))(hl:es.size<=mask+1)(finger moves:Nat)(led plain:Bool) :
  ∃t' order,laid mask finger moves led plain (es.map (·.1))=some (t',order)/\Good t' (order.filterMap (es[·]?))/\(order.filterMap (es[·]?)).size=es.size/\(order.filterMap (es[·]?)).toList.Perm es.toList /\
   t'={ mask:=mask,place:=t'.place,dummies:=#[],finger:=finger,led:=led,moves:=moves,plain:=plain }:=by
 obtain⟨owner,e,o⟩:=En hm (es.map (·.1)) (by rw[Array.size_map]; exact hl);have hlen:(es.map (·.1)).toList.length=es.size:=by rw[ZD,Array.size_map]
 have hm':=Aw o.size;have hlt:=Dn mask owner
 have hi:∀i∈(bN mask owner).map (·.2),i<es.size:=λi hi=>by
  obtain⟨⟨j,i'⟩,h1,rfl⟩:=ZP.mp hi;have:=o.lt j i' ((hm' j i').mp h1);rw[hlen] at this;exact this
 obtain⟨f1,f2⟩:=uw (es:=es) hi
 have hnd:((bN mask owner).map (·.2)).Nodup:=by
  refine Wy.mpr (List.Pairwise.imp_of_mem (λ{a b} ha hb hab=>?_) hlt);obtain⟨j,i⟩:=a;obtain⟨j',i'⟩:=b;intro z;have z:i=i':=z;subst z;have:=o.inj j j' i ((hm' j i).mp ha) ((hm' j' i).mp hb);subst this;exact absurd hab (Z6 _)
 have hperm:((bN mask owner).map (·.2)).Perm (List.range es.size):=Ay hnd List.nodup_range λa=>by
  constructor
  ·intro h; exact ZZ.mpr (hi a h)
  ·intro h;obtain⟨j,w⟩:=o.ex a (by rw[hlen]; exact ZZ.mp h);exact ZP.mpr ⟨(j,a),(hm' j a).mpr w,rfl⟩
 have hfm:(((bN mask owner).map (·.2)).toArray.filterMap (es[·]?)).toList=((bN mask owner).map (·.2)).filterMap (es[·]?):=by rw[Array.toList_filterMap]
 have hget:∀m:Nat,(((bN mask owner).map (·.2)).toArray.filterMap (es[·]?))[m]?=((bN mask owner).map (·.2))[m]?.bind (es[·]?):=λm=>by rw[<- ZX,hfm,f2]
 have hsize:(((bN mask owner).map (·.2)).toArray.filterMap (es[·]?)).size=es.size:=by
  rw[<- ZD,hfm,f1,hperm.length_eq,ZS]
 refine⟨_,_,by unfold laid; rw[e]; rfl,?_,hsize,?_,rfl⟩
 ·have pget:∀m:Nat,((bN mask owner).map (·.1)).toArray[m]?=(bN mask owner)[m]?.map (·.1):=λm=>by rw[List.getElem?_toArray,ZJ]
  refine⟨rfl,?_,?_,?_,hm,?_⟩
  ·show((bN mask owner).map (·.1)).toArray.size=_;rw[hsize,Zh,Zi];have:=hperm.length_eq;rw[Zi,ZS] at this;exact this
  ·intro i i' v v' a b hlt';have a:((bN mask owner).map (·.1)).toArray[i]?=some v:=a;have b:((bN mask owner).map (·.1)).toArray[i']?=some v':=b;rw[pget] at a b;obtain⟨x,hx,rfl⟩:=ZA.mp a;obtain⟨y,hy,rfl⟩:=ZA.mp b;obtain⟨h1,e1⟩:=Zf.mp hx;obtain⟨h2,e2⟩:=Zf.mp hy;have:=Qe.mp hlt i i' h1 h2 hlt';rw[e1,e2] at this;exact this
  ·intro i s a;have a:((bN mask owner).map (·.1)).toArray[i]?=some s:=a;rw[pget] at a;obtain⟨⟨j,k⟩,hx,rfl⟩:=ZA.mp a;have:=(ZO.mp ((hm' j k).mp (ZB hx))).1;have:=o.size;show j<=mask;omega
  ·intro i s e' a b;have a:((bN mask owner).map (·.1)).toArray[i]?=some s:=a;have b:(((bN mask owner).map (·.2)).toArray.filterMap (es[·]?))[i]?=some e':=b;rw[pget] at a;obtain⟨⟨j,k⟩,hx,rfl⟩:=ZA.mp a;rw[hget,ZJ,hx] at b;have b:es[k]?=some e':=b;have hown:=(hm' j k).mp (ZB hx);have hh:(es.map (·.1)).toList[k]?=some e'.1:=by rw[ZX,Array.getElem?_map,b]; rfl
   obtain⟨K,r1,r2⟩:=o.way j k e'.1 hown hh;refine⟨K,r1,λk' hk'=>?_⟩;obtain⟨i2,w⟩:=r2 k' hk';obtain⟨m,hm2⟩:=ZH ((hm' _ i2).mpr w);exact⟨m,by show((bN mask owner).map (·.1)).toArray[m]?=_; rw[pget,hm2]; rfl⟩
 ·rw[hfm];have:=hperm.filterMap (es[·]?);rw[filterMap_getElem?_range] at this;exact this
end TB

namespace TB
open PySem PySem.SetTable
section
variable{prog:WK}{w:WN}{A:Around}{E:WC}{s:WI}
abbrev TK(prog:WK)(w:WN)(h:Heap)(ks:WE)(b:Addr):Prop:=IsTupleKey (intKind prog w) h ks b
noncomputable def hsh(prog:WK)(w:WN)(ks:WE):Int:=tupleKeyHash (intKind prog w) ks
set_option genInjectivity false in
structure El(prog:WK)(w:WN)(h:Heap)(e:Int×Value)(ks:WE):Prop where
 hash:e.1=hsh prog w ks
 ref:∃b,e.2=.ref b/\TK prog w h ks b
theorem vP{ks:WE}{vs:WH}(h:ItemsAre (intKind prog w) ks vs):∀v∈vs,∃i t,v=Value.int i t:=by
 induction h with
 | nil=>intro v hv; cases hv
 | cons h1 _ ih =>
  intro v hv;rcases Zm.mp hv with rfl|hv
  ·obtain⟨t,e⟩:=Qv h1; exact⟨_,t,e⟩
  ·exact ih v hv
theorem uo(n:Nat){ks:WE}{b:Addr}{Q:Bool->Shared->Prop}(hk:TK prog w s.heap ks b)(h:Q false s):wpAny (model prog w) A (ofAClassStatement (n+1) (.ref b)) Q E s:=by
 obtain⟨o,items,m,ho,hc,hd,hi⟩:=hk;unfold ofAClassStatement;refine Za (wpAny_typeOf_ref ho ?_);rw[hc];refine Za (Zd ?_);simp only[XY,Zw,ZK];refine Za (XC ho hd ?_);refine Za ?_;show wpAny _ _ (forIn items _ _) _ _ s;rw[<- Array.forIn_toList];refine QD _ (λrest r z=>r.1=none/\z=s/\∀v∈rest,∃i t,v=Value.int i t) _ ?_ ?_ _ _ ⟨rfl,rfl,vP hi⟩
 ·rintro v rest r z ⟨hr,rfl,hall⟩;obtain⟨i,t,rfl⟩:=hall v Zp;have e:ofAClassStatement n (Value.int i t)=pure false:=by cases n<;>rfl
  rw[e];refine Za (Zd ?_);exact Zd ⟨rfl,rfl,λu hu=>hall u (Zr _ hu)⟩
 ·rintro⟨r1,r2⟩ z ⟨hr,rfl,_⟩;have hr:r1=none:=hr;subst hr;exact Zd h
theorem wZ{ks:WE}{b:Addr}{ys:WH}{Q:Bool->Shared->Prop}(hk:TK prog w s.heap ks b)(hy:∀y∈ys,∃js c,y=Value.ref c/\TK prog w s.heap js c)(h:Q false s):wpAny (model prog w) A (searchCouldBeSeen (.ref b) ys) Q E s:=by
 unfold searchCouldBeSeen;refine Za (QD _ (λrest r z=>r.1=none/\z=s/\∀y∈rest,∃js c,y=Value.ref c/\TK prog w s.heap js c) _ ?_ ?_ _ _ ⟨rfl,rfl,hy⟩)
 ·rintro y rest r z ⟨hr,rfl,hall⟩;obtain⟨js,c,rfl,hc⟩:=hall y Zp;have hrest:∀y∈rest,∃js c,y=Value.ref c/\TK prog w z.heap js c:=λu hu=>hall u (Zr _ hu)
  dsimp only;split
  ·exact Zd ⟨rfl,rfl,hrest⟩
  ·refine Za (wpAny_eqIsQuiet_tuple hk ?_);simp only[XY,Zw,ZK];refine Za (wpAny_eqIsQuiet_tuple hc ?_);simp only[XY,Zw,ZK];refine Za (uo 7 hk ?_);simp only[Zw,ZK];refine Za (uo 7 hc ?_);simp only[Zw,ZK];exact Zd ⟨rfl,rfl,hrest⟩
 ·rintro⟨r1,r2⟩ z ⟨hr,rfl,_⟩;have hr:r1=none:=hr;subst hr;exact Zd h
def jz(prog:WK)(w:WN)(h:Heap)(es:WO)(L:WJ):Prop:=L.length=es.size/\∀(i:Nat) e ks,es[i]?=some e->L[i]?=some ks->El prog w h e ks
theorem jz.get{h:Heap}{es:WO}{L:WJ}(k:jz prog w h es L){i:Nat}{e:Int×Value}(he:es[i]?=some e):∃ks,L[i]?=some ks/\El prog w h e ks:=by
 have hi:=(ZO.mp he).1;have hi':i<L.length:=by rw[k.1]; exact hi
 have hl:L[i]?=some L[i]:=Zb hi';exact⟨_,hl,k.2 i e _ he hl⟩
theorem fV{t:SetTable}{es:WO}(g:Good t es)(hl:es.size<=t.mask):t.fits es.size=true:=by
 unfold SetTable.fits SetTable.fill;rw[g.dum,g.len];simp only[Qi,Bool.true_and,XE];exact hl
theorem GS{mask:Nat}(h:Msk mask):(mask%2==0)=false:=by rcases h with rfl|rfl<;>rfl
theorem wC{t:SetTable}{f f':Nat->Int}{h:Int}{p:SetTable.Probe}{r:Option SetTable.Met}(e:t.probe f h p=r)(hf:∀i,f' i=f i):t.probe f' h p=r:=by rw[show f'=f from funext hf]; exact e
theorem C_{a c:Addr}{o:Obj}{es:WO}{ep:Nat}{t:SetTable}{L:WJ}{ks:WE}{Q:SetFound->Shared->Prop}(hu:A.units<cLine)
  (ho:s.heap.get? a=some o) (hd:o.data=.set es ep t) (g:Good t es) (hl:es.size<=t.mask) (K:jz prog w s.heap es L) (hk:TK prog w s.heap ks c) {M:Nat} (EN:End t (hsh prog w ks) M)
  (h1:ks∈L->Q (.there none) s) (h2:ks∉L->Q (.free (pos t.mask (hsh prog w ks) M) false) s) :
  ∀(n fuel k:Nat) (stand:Option SetTable.Probe),M-k=n->n<fuel->k<=M->stand.getD (t.probeStart (hsh prog w ks))=st t.mask (hsh prog w ks) k ->
   (∀(m i:Nat),m<k->t.place[i]?=some (pos t.mask (hsh prog w ks) m)->L[i]?≠some ks) ->
   wpAny (model prog w) A (setSearchFrom a (.ref c) (hsh prog w ks) true fuel stand) Q E s:=by
 intro n
 induction n using Nat.strongRecOn with
 | ind n ih =>
  intro fuel k stand hn hf hkM hst hprev;obtain⟨fuel,rfl⟩:∃f,fuel=f+1:=⟨fuel-1,by omega⟩
  have hfit:=fV g hl;unfold setSearchFrom;refine Za (XG ho hd hfit ?_);dsimp only;have hgw:t.gaveWay=false:=GS g.msk;rw[hgw];simp only[Zw,ZK];rw[hst];have hsto:∀(i:Nat) e,es[i]?=some e->(es[i]?.map (·.1)).getD 0=e.1:=λi e he=>by rw[he]; rfl
  rcases HQ g EN (f:=λi=>(es[i]?.map (·.1)).getD 0) hkM with⟨hp,hne⟩|⟨m,i,hkm,hmM,hpi,hfi,hslot,hp,hne⟩
  ·rw[wC hp]
   rotate_left
   ·exact λi=>rfl
   refine Zd (h2 λhmem=>?_);obtain⟨i,hi⟩:=ZH hmem;have hi':i<es.size:=by rw[<- K.1]; exact(Zf.mp hi).1
   have he:es[i]?=some es[i]:=Zv hi';have hel:=K.2 i _ ks he hi;obtain⟨m,hm,hpl⟩:=Be g EN he hel.hash
   by_cases z:m<k
   ·exact hprev m i z hpl hi
   ·exact hne m i (by omega) hm hpl ((hsto i _ he).trans hel.hash)
  ·rw[wC hp]
   rotate_left
   ·exact λi=>rfl
   dsimp only;have hi':i<es.size:=by rw[<- g.len]; exact(ZO.mp hpi).1
   have he:es[i]?=some es[i]:=Zv hi';obtain⟨js,hjs,hel⟩:=K.get he;obtain⟨b,hb,hkb⟩:=hel.ref
   have hstored:∀y∈(es.filter (·.1==hsh prog w ks)).toList.map (·.2),∃js c,y=Value.ref c/\TK prog w s.heap js c:=λy hy=>by
    obtain⟨e,h3,rfl⟩:=ZP.mp hy
    have h3:e∈es:=by
     rw[Array.toList_filter] at h3;exact Array.mem_def.mpr (Q4.mp h3).1
    obtain⟨i',hi'⟩:=Array.getElem?_of_mem h3;obtain⟨js',_,hel'⟩:=K.get hi';obtain⟨b',q1,q2⟩:=hel'.ref;exact⟨js',b',q1,q2⟩
   have rest:wpAny (model prog w) A (do
     let some (_,y):=es[i]?|unsupported "internal:set-entry"
     let equal <- holding [y] (eqBool y (.ref c))
     let(es',_,t') <- setState a
     if true&&equal then return .there none
     let some same:=t'.sameMemory t.moves t.mask|unsupported "set.changed-during-lookup:is-the-new-block-at-the-old-address"
     let aG <- match (if same then t'.slot (pos t.mask (hsh prog w ks) m) else .empty) with
      | .live i'=>match es'[i']? with
       | some (_,y')=>do pure (if <- isSame y' y then some i' else none)
       | none=>pure none
      | _=>pure none
     match aG with
     | none=>rule "set.search.anew"; setSearchFrom a (.ref c) (hsh prog w ks) true fuel none
     | some i'=>if equal then return .there (some i') else setSearchFrom a (.ref c) (hsh prog w ks) true fuel (some (st t.mask (hsh prog w ks) (m+1)))) Q E s:=by
    rw[he];rcases hE:es[i] with⟨eh,ev⟩
    rw[hE] at hb;have hb:ev=.ref b:=hb;subst hb;dsimp only;refine Za (Xg (wpAny_eqBool_tuple hu hkb hk ?_));refine Za (XG ho hd hfit ?_);dsimp only
    by_cases hq:js=ks
    ·subst hq;rw[Zj rfl];simp only[Ws,Xa];exact Zd (h1 (ZB hjs))
    ·rw[Zs hq];simp only[Qy,Zw,ZK];have hsm:t.sameMemory t.moves t.mask=some true:=by unfold SetTable.sameMemory; simp only[Qi,Xa]
     rw[hsm];simp only[Xa];rw[hslot];dsimp only;rw[he,hE];dsimp only;refine Za (wpAny_isSame_ref_self (Za (Zd ?_)));simp only[Xa];refine ih (M-(m+1)) (by omega) fuel (m+1) _ rfl (by omega) (by omega) rfl λm' i' hm' hpl=>?_
     by_cases z:m'<k
     ·exact hprev m' i' z hpl
     ·by_cases z2:m'=m
      ·subst z2
       have:i'=i:=by
        have r1:=below_at g.srt hpl;have r2:=below_at g.srt hpi;omega
       subst this;rw[hjs];intro q;cases q;exact hq rfl
      ·intro q;have hi2:i'<es.size:=by rw[<- g.len]; exact(ZO.mp hpl).1
       have he2:es[i']?=some es[i']:=Zv hi2;exact hne m' i' (by omega) (by omega) hpl ((hsto i' _ he2).trans (K.2 i' _ ks he2 q).hash)
   cases hled:t.led with
   | true =>
    simp only[XY,Zw,ZK];exact rest
   | false =>
    simp only[Bool.not_false,Xa];refine Za (wZ hk hstored ?_);simp only[Zw,ZK];exact rest
end
end TB

namespace TB
open PySem PySem.SetTable
section
variable{prog:WK}{w:WN}{A:Around}{E:WC}{s:WI}
set_option genInjectivity false in
inductive Els(prog:WK)(w:WN)(h:Heap):List (Int×Value)->List (List Int)->Prop
 | nil:Els prog w h [] []
 | cons {e:Int×Value} {ks:WE} {l:List (Int×Value)} {L:WJ}:El prog w h e ks->Els prog w h l L->Els prog w h (e::l) (ks::L)
variable{h:Heap}
theorem Els.length:∀{l:List (Int×Value)} {L:WJ},Els prog w h l L->L.length=l.length
 | _,_,.nil=>rfl
 | _,_,.cons _ r=>by rw[Z0,Z0,r.length]
theorem Els.get:∀{l:List (Int×Value)} {L:WJ},Els prog w h l L->∀(i:Nat) e ks,l[i]?=some e->L[i]?=some ks->El prog w h e ks
 | _,_,.nil,i,e,ks,a,_=>by simp at a
 | _,_,.cons q r,0,e,ks,a,b=>by cases a; cases b; exact q
 | _,_,.cons q r,i+1,e,ks,a,b=>r.get i e ks a b
theorem Els.keys{es:WO}{L:WJ}(x:Els prog w h es.toList L):jz prog w h es L :=
 ⟨by rw[x.length,ZD],λi e ks a b=>x.get i e ks (by rw[ZX]; exact a) b⟩
theorem Els.perm{l l':List (Int×Value)}(p:l.Perm l'):∀{L:WJ},Els prog w h l' L->∃L',Els prog w h l L'/\L'.Perm L:=by
 induction p with
 | nil=>intro L x; cases x; exact⟨[],.nil,.nil⟩
 | cons e _ ih=>intro L x; cases x with|cons q r=>obtain⟨L',a,b⟩:=ih r; exact⟨_,.cons q a,b.cons _⟩
 | swap e e' l=>intro L x; cases x with|cons q r=>cases r with|cons q' r'=>exact⟨_,.cons q' (.cons q r'),.swap ..⟩
 | trans _ _ ih1 ih2 =>
  intro L x;obtain⟨L1,a1,b1⟩:=ih2 x;obtain⟨L2,a2,b2⟩:=ih1 a1;exact⟨L2,a2,b2.trans b1⟩
theorem Els.snoc:∀{l:List (Int×Value)} {L:WJ} {e:Int×Value} {ks:WE},Els prog w h l L->El prog w h e ks->Els prog w h (l++[e]) (L++[ks])
 | _,_,_,_,.nil,q=>.cons q .nil
 | _,_,_,_,.cons a r,q=>.cons a (r.snoc q)
theorem Els.mono{h':Heap}(f:∀ks b,TK prog w h ks b->TK prog w h' ks b):∀{l:List (Int×Value)} {L:WJ},Els prog w h l L->Els prog w h' l L
 | _,_,.nil=>.nil
 | _,_,.cons ⟨a,b,c,d⟩ r=>.cons ⟨a,b,c,f _ _ d⟩ (r.mono f)
theorem tU{a b:Addr}{h':Heap}{ks:WE}{o:Obj}{es:WO}{ep:Nat}{t:SetTable}(ho:h.get? a=some o)(hd:o.data=.set es ep t)(q:Heap.SameBut a h h')(x:TK prog w h ks b):TK prog w h' ks b:=by
 obtain⟨ob,items,n,x1,x2,x3,x4⟩:=x;refine⟨ob,items,n,(q.2 b λz=>?_).trans x1,x2,x3,x4⟩;subst z;rw[ho] at x1;cases x1;rw[hd] at x3;cases x3
noncomputable def byT(w:WN):Bool:=w.params.followText "set-order"
def bW(prog:WK)(w:WN)(lim:Addr->Prop)(h:Heap)(a:Addr)(L:WJ):Prop:=∃o es ep t,h.get? a=some o/\o.ExactSet/\o.data=.set es ep t/\Good t es/\(t.plain=true/\t.led=!byT w)/\es.size*5<t.mask*3/\Els prog w h es.toList L/\L.Nodup /\
 ∀e∈es.toList,∀b,e.2=.ref b->lim b
theorem JA{ks:WE}{c:Addr}{Q:Bool->Shared->Prop}(hk:TK prog w s.heap ks c)(q:Q true s):wpAny (model prog w) A (hashByValue 8 (.ref c)) Q E s:=by
 have hT:=hk.typeIs;obtain⟨o,items,m,ho,hc,hd,hi⟩:=hk;unfold hashByValue;refine Za (wpAny_specialOf hT F.slot_tuple_hash.lookup ?_);show wpAny _ _ (seqItems? (.ref c)>>=_) _ _ s;refine Za (XC ho hd ?_);refine Za ?_;show wpAny _ _ (forIn items _ _) _ _ s;rw[<- Array.forIn_toList];refine QD _ (λrest r z=>r.1=none/\z=s/\∀v∈rest,∃i t,v=Value.int i t) _ ?_ ?_ _ _ ⟨rfl,rfl,vP hi⟩
 ·rintro v rest r z ⟨hr,rfl,hall⟩;obtain⟨i,t,rfl⟩:=hall v Zp;have e:∀n,hashByValue n (Value.int i t)=pure true:=λn=>by cases n<;>rfl
  rw[e];refine Za (Zd ?_);exact Zd ⟨rfl,rfl,λu hu=>hall u (Zr _ hu)⟩
 ·rintro⟨r1,r2⟩ z ⟨hr,rfl,_⟩;have hr:r1=none:=hr;subst hr;exact Zd q
theorem Cq{mask:Nat}(hm:Msk mask):10*turns mask<100000:=by rcases hm with rfl|rfl<;>decide
theorem wz{a:Addr}{o:Obj}{es:WO}{ep:Nat}{t:SetTable}(ho:h.get? a=some o)(hd:o.data=.set es ep t)(es':WO)(t':SetTable) :
  (h.update a (Obj.putSet es' t')).get? a=some { o with data:=.set es' (ep+1) t' }:=by
 have q:=Xv (Obj.putSet es' t') ho (by rw[putSet_of es' t' hd]; rfl);rw[putSet_of es' t' hd] at q;exact q
theorem Bq{a c:Addr}{L:WJ}{ks:WE}{Q:Bool->Shared->Prop}(hu:A.units<cLine){lim:Addr->Prop}(hs:bW prog w lim s.heap a L)(hn:L.length<=17)(hk:TK prog w s.heap ks c)(hc:lim c)
  (q:∀r h' L',Heap.SameBut a s.heap h'->bW prog w lim h' a L'->(∀x,x∈L' ↔ x∈L\/x=ks)->L'.length<=L.length+1->Q r { s with heap:=h' }) :
  wpAny (model prog w) A (setAddHashed a (.ref c) (hsh prog w ks)) Q E s:=by
 obtain⟨o,es,ep,t,ho,hex,hd,g,hpl,hsz,hels,hnd,hlim⟩:=hs;have hlen:L.length=es.size:=by rw[hels.length,ZD]
 have hl:es.size<=t.mask:=by rcases g.msk with z|z<;>omega
 have hfit:=fV g hl;obtain⟨M,EN⟩:=Er g hl (hsh prog w ks);have hts:=Cq g.msk;have hML:=EN.lt;unfold setAddHashed setAddHashedIn;refine Xg (Za (XG ho hd hfit ?_));dsimp only;have hbs:byScan (.ref c) es=false:=rfl;rw[hbs];simp only[Zw,ZK];unfold setSearch;refine Za (C_ hu ho hd g hl hels.keys hk EN (λhm=>?_) (λhm=>?_) M 100000 0 none (Nat.sub_zero M) (by omega) (Xj _) rfl (λm i hm=>absurd hm (Nat.not_lt_zero m)))
 ·have e:s={ s with heap:=s.heap }:=by cases s; rfl
  rw[e];exact Zd (q _ s.heap L (Heap.SameBut.refl a s.heap) ⟨o,es,ep,t,ho,hex,hd,g,hpl,hsz,hels,hnd,hlim⟩ (λx=>⟨.inl,λz=>z.elim id λz=>z▸hm⟩) (QX _))
 dsimp only;refine Za (XG ho hd hfit ?_);dsimp only;have g1:=EK g EN (Value.ref c);generalize hp:t.put (pos t.mask (hsh prog w ks) M)=TP at g1;have hmask:TP.1.mask=t.mask:=by rw[<- hp]; rfl
 have hplain:TP.1.plain=true:=by rw[<- hp]; exact hpl.1
 have hled:TP.1.led=!byT w:=by rw[<- hp]; exact hpl.2
 obtain⟨t1,p⟩:=TP;have hmask:t1.mask=t.mask:=hmask;have hplain:t1.plain=true:=hplain;have hled:t1.led=!byT w:=hled;have g1:Good t1 (insertAt es p (hsh prog w ks,.ref c)):=g1;dsimp only;rw[hplain];simp only[Xa];refine Za (JA hk ?_);simp only[Xa];have hperm:=SetTable.insertAt_perm es p (hsh prog w ks,Value.ref c);rw[Array.toList_push] at hperm;have hz1:(insertAt es p (hsh prog w ks,Value.ref c)).size=es.size+1:=ni _ _ _;obtain⟨L1,x1,y1⟩:=Els.perm hperm (hels.snoc (e:=(hsh prog w ks,Value.ref c)) ⟨rfl,c,rfl,hk⟩);have hL1:L1.length=L.length+1:=by rw[y1.length_eq,ZG,XN]
 have hnd1:L1.Nodup:=y1.nodup_iff.mpr (Ww.mpr ⟨hnd,by simp,λx hx y hy=>by rw[ZN.mp hy]; intro z; exact hm (z▸hx)⟩);have hm1:∀x,x∈L1 ↔ x∈L\/x=ks:=λx=>by rw[y1.mem_iff,ZQ,ZN]
 have hlim1:∀e∈(insertAt es p (hsh prog w ks,Value.ref c)).toList,∀b,e.2=.ref b->lim b:=λe he b hb=>by
  rcases ZQ.mp (hperm.mem_iff.mp he) with z|z
  ·exact hlim e z b hb
  ·rw[ZN.mp z] at hb; cases hb; exact hc
 generalize insertAt es p (hsh prog w ks,Value.ref c)=es1 at g1 hz1 x1 hlim1;have hline:∀n:Nat,n<=100->n<=sizeLine:=λn h=>by rw[XA]; omega
 have ho1:=wz (h:=s.heap) ho hd es1 t1;have sb1:=XJ s.heap a (Obj.putSet es1 t1);refine Za (wpAny_storeSet_of ho hd ?_ (hline _ (by omega)));have hl1:es1.size<=t1.mask:=by rw[hmask]; rcases g.msk with z|z<;>omega
 have hfill:t1.fill=es1.size:=by unfold SetTable.fill; rw[g1.dum,g1.len]; rfl
 have x1':=x1.mono λks b z=>tU ho hd sb1 z
 by_cases hfull:t1.tooFull=true
 ·rw[hfull];simp only[Bool.not_false,Ws,Xa];have hfull:t1.fill*5 ≥ t1.mask*3:=Zk hfull;rw[hfill,hmask,hz1] at hfull;have h4:es.size=4:=by rcases g.msk with z|z<;>omega
  unfold setRelay;refine Za ?_;refine Za (XG ho1 rfl (fV g1 hl1) ?_);dsimp only;have hw:SetTable.grown (es.size+1)=20:=by rw[h4]; rfl
  rw[hw];have h32:SetTable.sizeAbove 20=32:=by decide
  have hno:¬(SetTable.sizeAbove 20>sizeLine):=by rw[h32,XA]; omega
  rw[Zg hno];obtain⟨t2,order,e2,g2,z2,p2,f2⟩:=IC (mask:=31) (.inr rfl) es1 (by omega) t1.finger (t1.movedTo 31) t1.led t1.plain;have hrel:t1.relaid (es1.map (·.1)) 20=some (t2,order):=by unfold SetTable.relaid; rw[h32]; exact e2
  have hplain2:t2.plain=true:=by rw[f2]; exact hplain
  have hled2:t2.led=!byT w:=by rw[f2]; exact hled
  have hmask2:t2.mask=31:=by rw[f2]
  rw[show(es1.map λx=>x.1)=es1.map (·.1) from rfl,hrel];obtain⟨L2,x2,y2⟩:=Els.perm p2 x1';generalize hes2:order.filterMap (es1[·]?)=es2 at g2 z2 p2 x2;have ho2:=wz ho1 rfl es2 t2;have sb2:=XJ (s.heap.update a (Obj.putSet es1 t1)) a (Obj.putSet es2 t2);refine Za (Qt (a:=(es2,t2)) ?_ ?_)
  ·show(ite _ _ _:Sem (Array (Int×Value)×SetTable))=_;refine(Zg ?_).trans ?_
   ·rw[hes2,z2]; simp
   ·rw[hes2]
  ·refine wpAny_storeSet_of ho1 rfl ?_ (hline _ (by show es2.size<=100; omega));refine Zd (q _ _ L2 (sb1.trans sb2) ⟨_,es2,_,t2,ho2,hex,rfl,g2,⟨hplain2,hled2⟩,by omega,x2.mono λks b z=>tU ho1 rfl sb2 z,y2.nodup_iff.mpr hnd1,λe he=>hlim1 e (p2.mem_iff.mp he)⟩ (λx=>by rw[y2.mem_iff,hm1]) (by rw[y2.length_eq]; omega))
 ·have hfull':t1.tooFull=false:=by simpa using hfull
  rw[hfull'];simp only[Qy,Zw,ZK];have hnf:¬(t1.fill*5 ≥ t1.mask*3):=λz=>hfull (Zj z)
  rw[hfill] at hnf;exact Zd (q _ _ L1 sb1 ⟨_,es1,ep+1,t1,ho1,hex,rfl,g1,⟨hplain,hled⟩,by omega,x1',hnd1,hlim1⟩ hm1 (by omega))
theorem bW.keep{lim:Addr->Prop}{a:Addr}{h':Heap}{L:WJ}(x:bW prog w lim h a L)(k:∀b o,lim b\/b=a->h.get? b=some o->h'.get? b=some o):bW prog w lim h' a L:=by
 obtain⟨o,es,ep,t,ho,hex,hd,g,hpl,hsz,hels,hnd,hlim⟩:=x;refine⟨o,es,ep,t,k a o (.inr rfl) ho,hex,hd,g,hpl,hsz,?_,hnd,hlim⟩
 have all:∀(l:List (Int×Value)) (L:WJ),(∀e∈l,∀b,e.2=.ref b->lim b)->Els prog w h l L->Els prog w h' l L:=by
  intro l L hl q
  induction q with
  | nil=>exact .nil
  | @cons e ks l L q r ih =>
   obtain⟨q1,b,q2,ob,items,n,x1,x2⟩:=q;exact .cons ⟨q1,b,q2,ob,items,n,k b ob (.inl (hl e Zp b q2)) x1,x2⟩ (ih λe' he'=>hl e' (Zr _ he'))
 exact all _ _ hlim hels
theorem G7(finger moves:Nat)(led:Bool):Good (.fresh finger moves led) (#[]:Array (Int×Value)) :=
 ⟨rfl,rfl,λi _ v _ e=>by simp[SetTable.fresh] at e,λi v e=>by simp[SetTable.fresh] at e,.inl rfl,λi v _ e=>by simp[SetTable.fresh] at e⟩
theorem bW.new{lim:Addr->Prop}{a:Addr}(ho:h.get? a=some { cls:=.type "set",dict:=none,data:=.set #[] 0 (.fresh 0 0 (!byT w)) }):bW prog w lim h a [] :=
 ⟨_,#[],0,_,ho,⟨rfl,rfl,rfl⟩,rfl,G7 0 0 _,⟨rfl,rfl⟩,(show 0*5<7*3 by decide),.nil,List.nodup_nil,λe he=>by simp at he⟩
end
end TB

namespace TB
open PySem PyProof.Rows
noncomputable def aE:List Int->List Int->Bool
 | [],[]=>false
 | [],_::_=>true
 | _::_,[]=>false
 | a::r,b::q=>if a=b then aE r q else decide (a<b)
section
variable{prog:WK}{w:WN}{A:Around}{E:WC}{s:WI}
theorem BL{k:Bool}{a b:Int}{t u:Tok}{Q:Bool->Shared->Prop}(q:Q (decide (a<b)) s):wpAny (model prog w) A (oneLt' k (.int a t) (.int b u)) Q E s:=by
 cases k with
 | true=>exact oneLt_int q
 | false =>
  rw[oneLt'_eq];simp only[Zw,ZK];exact Za (wpAny_lt_int (Xd q))
theorem Hy(k:Bool)(x y:Value):keyLt' (tuples' k) x y=(do
  let xs <- Builtin.List.listItems x; let ys <- Builtin.List.listItems y
  for ((p,q),i) in (xs.toList.zip ys.toList).zipIdx do
   if !(<- eqBool p q) then return <- oneLt' (k&&i==0) p q
  return xs.size<ys.size):=rfl
theorem Ce{k:Bool}{ks js:WE}{x y:Addr}{Q:Bool->Shared->Prop}(hx:TK prog w s.heap ks x)(hy:TK prog w s.heap js y)(q:Q (aE ks js) s):wpAny (model prog w) A (keyLt' (tuples' k) (.ref x) (.ref y)) Q E s:=by
 obtain⟨ox,xs,nx,hox,_,hdx,hix⟩:=hx;obtain⟨oy,ys,ny,hoy,_,hdy,hiy⟩:=hy;rw[Hy];refine Za (listItems_at hox hdx (Za (listItems_at hoy hdy (Za ?_))))
 refine QD _ (λrest r z=>r.1=none/\z=s/\∃ks' js' xs' ys' n,rest=(xs'.zip ys').zipIdx n/\ItemsAre (intKind prog w) ks' xs'/\ItemsAre (intKind prog w) js' ys'/\aE ks' js'=aE ks js/\decide (xs'.length<ys'.length)=decide (xs.size<ys.size)) _ ?_ ?_ _ _
  ⟨rfl,rfl,ks,js,xs.toList,ys.toList,0,rfl,hix,hiy,rfl,by rw[ZD,ZD]⟩
 ·rintro⟨⟨u,v⟩,i⟩ rest r z ⟨hr,rfl,ks',js',xs',ys',n,hz,h1,h2,hl,hs⟩
  cases h1 with
  | nil=>simp at hz
  | @cons a u' ks2 xs2 ha h1 =>
   cases h2 with
   | nil=>simp at hz
   | @cons b v' js2 ys2 hb h2 =>
    simp only[List.zip_cons_cons,List.zipIdx_cons,List.cons.injEq,Prod.mk.injEq] at hz;obtain⟨⟨⟨rfl,rfl⟩,rfl⟩,rfl⟩:=hz;refine Za ((intKind prog w).eqBool ha hb ?_);obtain⟨t,rfl⟩:=Qv ha;obtain⟨t',rfl⟩:=Qv hb
    by_cases e:a=b
    ·subst e;rw[Zj rfl];simp only[XY,Zw,ZK];refine Zd ⟨rfl,rfl,ks2,js2,xs2,ys2,i+1,rfl,h1,h2,?_,?_⟩
     ·rw[<- hl,aE,Ze rfl]
     ·rw[<- hs]; simp
    ·rw[Zs e];simp only[Bool.not_false,Xa];have e2:aE ks js=decide (a<b):=by rw[<- hl,aE,Zg e]
     rw[e2] at q;exact Za (BL (Zd (Zd q)))
 ·rintro⟨r1,r2⟩ z ⟨hr,rfl,ks',js',xs',ys',n,hz,h1,h2,hl,hs⟩;have hr:r1=none:=hr;subst hr
  have e:aE ks js=decide (xs.size<ys.size):=by
   rw[<- hl,<- hs]
   cases h1 with
   | nil=>cases h2 with
    | nil=>rfl
    | cons _ _=>rfl
   | cons _ _=>cases h2 with
    | nil=>rfl
    | cons _ _=>simp at hz
  rw[e] at q;exact Zd q
theorem Jd{ks:WE}{c:Addr}{Q:Option Value->Shared->Prop}(hk:TK prog w s.heap ks c)(hne:ks≠[])(q:∀i t,Q (some (.int i t)) s):wpAny (model prog w) A (firstOfTuple' (.ref c)) Q E s:=by
 obtain⟨o,items,n,ho,hc,hd,hi⟩:=hk;show wpAny _ _ (typeOf (.ref c)>>=_) _ _ s;refine Za (wpAny_typeOf_ref ho ?_);rw[hc];rw[Zg (by simp)];refine Za (listItems_at ho hd (Zd ?_))
 cases hv:items.toList with
 | nil=>rw[hv] at hi; cases hi; exact absurd rfl hne
 | cons v r =>
  rw[hv] at hi
  cases hi with
  | @cons k _ _ _ h1 _ =>
   obtain⟨t,rfl⟩:=Qv h1;have e:items[0]?=some (Value.int k t):=by rw[<- ZX,hv]; rfl
   rw[e];exact q _ _
theorem uV:∀{vs:WH} {Q:List (Option Value)->Shared->Prop},(∀v∈vs,∃ks c,v=.ref c/\TK prog w s.heap ks c/\ks≠[])->(∀l:List (Int×Tok),l.length=vs.length->Q (l.map λp=>some (.int p.1 p.2)) s) ->
  wpAny (model prog w) A (vs.mapM firstOfTuple') Q E s
 | [],Q,_,q=>by
  rw[List.mapM_nil];exact Zd (q [] rfl)
 | v::vs,Q,hv,q=>by
  obtain⟨ks,c,rfl,hk,hne⟩:=hv v Zp;rw[List.mapM_cons];refine Za (Jd hk hne λi t=>Za (uV (vs:=vs) (λu hu=>hv u (Zr _ hu)) λl hl=>Zd ?_));exact q ((i,t)::l) (by rw[Z0,Z0,hl])
theorem sJ:∀l:List (Int×Tok),(l.map λp=>Value.int p.1 p.2).mapM typeOf=(pure (l.map λ_=>Value.type "int"):Sem (List Value))
 | []=>by simp
 | p::l=>by
  rw[ZT,List.mapM_cons,sJ l];show(pure (Value.type "int")>>=λb=>pure _>>=λbs=>pure (b::bs))=_;simp
theorem FQ{vs:WH}{Q:SortKind->Shared->Prop}(hne:vs≠[])(hv:∀v∈vs,∃ks c,v=.ref c/\TK prog w s.heap ks c/\ks≠[])(q:Q (tuples' true) s):wpAny (model prog w) A (keyKind' vs.toArray) Q E s:=by
 rw[keyKind'_eq,List.mapM_toArray];refine Za ?_;rw[map_eq_pure_bind];refine Za (uV hv λl hl=>Zd ?_);rw[Ze (by simp)];refine Za (X2 ?_);have e:((l.map λp=>some (Value.int p.1 p.2)).toArray.filterMap id)=(l.map λp=>Value.int p.1 p.2).toArray:=by simp
 rw[e,oneTypeOnly'_eq,List.mapM_toArray,sJ];simp only[map_pure,pure_bind];obtain⟨p,r,rfl⟩:∃p r,l=p::r:=List.exists_cons_of_ne_nil λz=>hne (Xq.mp (by rw[<- hl,z]; rfl))
 have h0:(List.map (λ_=>Value.type "int") (p::r)).toArray[0]?=some (Value.type "int"):=rfl
 have ha:((List.map (λ_=>Value.type "int") (p::r)).toArray.all λx=>x==Value.type "int")=true:=by
  rw[List.all_toArray,List.all_map,Z7]; intro _ _; rfl
 rw[h0];simp only[ha,Xa,pure_bind];exact Zd q
end
end TB

namespace TB
open PySem PyProof.Rows
theorem lex_irrefl:∀a,aE a a=false
 | []=>rfl
 | a::r=>by rw[aE,Ze rfl,lex_irrefl r]
theorem lex_trans:∀a b c,aE a b=true->aE b c=true->aE a c=true
 | [],[],c,h,_=>by cases h
 | [],_::_,[],_,h=>by cases h
 | [],_::_,_::_,_,_=>rfl
 | _::_,[],_,h,_=>by cases h
 | _::_,_::_,[],_,h=>by cases h
 | a::r,b::q,c::p,h1,h2=>by
  rw[aE] at h1 h2 ⊢
  by_cases e1:a=b
  ·subst e1;rw[Ze rfl] at h1
   by_cases e2:a=c
   ·subst e2; rw[Ze rfl] at h2 ⊢; exact lex_trans r q p h1 h2
   ·rw[Zg e2] at h2 ⊢; exact h2
  ·rw[Zg e1] at h1;have h1:=Zk h1
   by_cases e2:b=c
   ·subst e2; rw[Zg e1]; exact Zj h1
   ·rw[Zg e2] at h2;have h2:=Zk h2;rw[Zg (by omega)]; exact Zj (by omega)
theorem jc:∀a b,aE a b=false->aE b a=false->a=b
 | [],[],_,_=>rfl
 | [],_::_,h,_=>by cases h
 | _::_,[],_,h=>by cases h
 | a::r,b::q,h1,h2=>by
  rw[aE] at h1 h2
  by_cases e:a=b
  ·subst e; rw[Ze rfl] at h1 h2; rw[jc r q h1 h2]
  ·rw[Zg e] at h1; rw[Zg (Ne.symm e)] at h2;have h1:=Wq h1;have h2:=Wq h2;omega
theorem yX(a b c:WE)(h:aE a c=true):aE a b=true\/aE b c=true:=by
 cases h1:aE a b with
 | true=>exact .inl rfl
 | false =>
  cases h2:aE b a with
  | true=>exact .inr (lex_trans b a c h2 h)
  | false=>rw[<- jc a b h1 h2]; exact .inr h
noncomputable def kT(key:Value->List Int):PyProof.Rows.KeyKind:={ α:=List Int,blt:=aE,irrefl:=lex_irrefl,trans:=lex_trans,negTrans:=yX,total:=jc,keyOf:=λv=>some (key v),dflt:=[] }
noncomputable def at'(key:Value->List Int)(xs:Array Keyed)(i:Nat):List Int:=KK (kT key) xs i
theorem i_{key:Value->List Int}{xs:Array Keyed}{i:Nat}{p:Keyed}(h:xs[i]?=some p):at' key xs i=key p.1:=by unfold at' KK; rw[h]; rfl
set_option genInjectivity false in
structure Bas(key:Value->List Int)(a0:Array Keyed)(z:SortSt):Prop where
 perm:(arrOf z).Perm a0
 kind:kindOf z=tuples' true
 fail:failedOf z=none
 pend:pendingOf z=#[]
def Diff(key:Value->List Int)(xs:Array Keyed):Prop:=(xs.toList.map λp=>key p.1).Nodup
theorem Diff.perm{key:Value->List Int}{xs ys:Array Keyed}(p:xs.Perm ys)(d:Diff key ys):Diff key xs:=(((QH.mp p).map _).nodup_iff).mpr d
theorem Diff.ne{key:Value->List Int}{xs:Array Keyed}(d:Diff key xs){i j:Nat}(hi:i<xs.size)(hj:j<xs.size)(hij:i≠j):at' key xs i≠at' key xs j:=by
 intro e;have ei:xs[i]?=some xs[i]:=Zv hi;have ej:xs[j]?=some xs[j]:=Zv hj;rw[i_ ei,i_ ej] at e;have hl:(xs.toList.map λp=>key p.1).length=xs.size:=by rw[Zi,ZD]
 have gi:(xs.toList.map λp=>key p.1)[i]'(by omega)=key xs[i].1:=by rw[QA,XT]
 have gj:(xs.toList.map λp=>key p.1)[j]'(by omega)=key xs[j].1:=by rw[QA,XT]
 have:=Qe.mp d;rcases Nat.lt_or_gt_of_ne hij with z|z
 ·exact this i j (by omega) (by omega) z (by rw[gi,gj]; exact e)
 ·exact this j i (by omega) (by omega) z (by rw[gi,gj]; exact e.symm)
theorem Diff.or{key:Value->List Int}{xs:Array Keyed}(d:Diff key xs){i j:Nat}(hi:i<xs.size)(hj:j<xs.size)(hij:i≠j)(h:aE (at' key xs i) (at' key xs j)=false):aE (at' key xs j) (at' key xs i)=true:=by
 cases q:aE (at' key xs j) (at' key xs i) with
 | true=>rfl
 | false=>exact absurd (jc _ _ h q) (d.ne hi hj hij)
def Up(key:Value->List Int)(xs:Array Keyed)(n:Nat):Prop:=∀i j,i<j->j<n->aE (at' key xs i) (at' key xs j)=true
def Down(key:Value->List Int)(xs:Array Keyed)(n:Nat):Prop:=∀i j,i<j->j<n->aE (at' key xs j) (at' key xs i)=true
theorem Up.more{key:Value->List Int}{xs:Array Keyed}{n:Nat}(u:Up key xs n)(hn:1<=n)(h:aE (at' key xs (n-1)) (at' key xs n)=true):Up key xs (n+1):=λi j hij hj=>by
 by_cases z:j<n
 ·exact u i j hij z
 ·obtain rfl:j=n:=by omega
  by_cases y:i=j-1
  ·subst y; exact h
  ·exact lex_trans _ _ _ (u i (j-1) (by omega) (by omega)) h
theorem Down.more{key:Value->List Int}{xs:Array Keyed}{n:Nat}(u:Down key xs n)(hn:1<=n)(h:aE (at' key xs n) (at' key xs (n-1))=true):Down key xs (n+1):=λi j hij hj=>by
 by_cases z:j<n
 ·exact u i j hij z
 ·obtain rfl:j=n:=by omega
  by_cases y:i=j-1
  ·subst y; exact h
  ·exact lex_trans _ _ _ h (u i (j-1) (by omega) (by omega))
section
variable{prog:WK}{w:WN}{A:Around}{E:WC}{s:WI}{a0:Array Keyed}{key:Value->List Int}
def Cmp(prog:WK)(w:WN)(A:Around)(s:WI)(key:Value->List Int)(a0:Array Keyed):Prop:=∀(E:WC) (x y:Keyed) (Q:Bool->Shared->Prop),x∈a0.toList->y∈a0.toList->Q (aE (key x.1) (key y.1)) s->wpAny (model prog w) A (keyLt' (tuples' true) x.1 y.1) Q E s
theorem iY{z:SortSt}{i j:Nat}{Q:Option Bool->SortSt->Prop}(C:Cmp prog w A s key a0)(B:Bas key a0 z)(hi:i<a0.size)(hj:j<a0.size)(q:Q (some (aE (at' key (arrOf z) i) (at' key (arrOf z) j))) z) :
  wpS (model prog w) A E s (ltAt' i j) Q z:=by
 have sz:=B.perm.size_eq;have hi':i<(arrOf z).size:=by omega
 have hj':j<(arrOf z).size:=by omega
 have ei:(arrOf z)[i]?=some (arrOf z)[i]:=Zv hi';have ej:(arrOf z)[j]?=some (arrOf z)[j]:=Zv hj';have mem:∀(k:Nat) (hk:k<(arrOf z).size),(arrOf z)[k]∈a0.toList:=λk hk=>(QH.mp B.perm).mem_iff.mp (by simp)
 rw[i_ ei,i_ ej] at q;rw[ltAt'_eq];refine ZU (wpS_get (ZU ?_)); rw[elem'_eq,ei];refine Xs (ZU ?_); rw[elem'_eq,ej];refine Xs ?_; rw[lt'_eq];refine ZU (wpS_get (ZU ?_)); rw[B.kind];exact wpS_lift (XX (C _ _ _ _ (mem i hi') (mem j hj') ⟨rfl,Xs q⟩))
theorem t8{z:SortSt}{a n:Nat}{Q:AscSt->SortSt->Prop}(C:Cmp prog w A s key a0)(B:Bas key a0 z)(D:Diff key a0)(hn:n<=a0.size)(ha:1<=a)(han:a<=n)(u:Up key (arrOf z) a)
  (q:∀m,a<=m->m<=n->Up key (arrOf z) m->(m=n\/aE (at' key (arrOf z) m) (at' key (arrOf z) (m-1))=true)->Q (none,m) z):wpS (model prog w) A E s (ascLoop a n) Q z:=by
 have sz:=B.perm.size_eq;have D':=D.perm B.perm;unfold ascLoop;refine QQ (λx c y=>y=z/\c=(none,x)/\Up key (arrOf z) x) (λx c y h1 h2=>?_) (λc y=>?_) ⟨rfl,rfl,u⟩
 ·rintro⟨rfl,rfl,ux⟩;refine ZU (iY C B (by omega) (by omega) ?_)
  cases hb:aE (at' key (arrOf y) x) (at' key (arrOf y) (x-1)) with
  | true=>exact Xs (q x h1 (by omega) ux (.inr hb))
  | false=>exact Xs ⟨rfl,rfl,ux.more (by omega) (D'.or (by omega) (by omega) (by omega) hb)⟩
 ·rintro⟨rfl,rfl,ux⟩;rw[show max a n=n by omega] at ux ⊢;exact q n han (Zn n) ux (.inl rfl)
theorem zU{z:SortSt}{a n:Nat}{Q:DescSt->SortSt->Prop}(C:Cmp prog w A s key a0)(B:Bas key a0 z)(D:Diff key a0)(hn:n<=a0.size)(ha:1<=a)(han:a<=n)(u:Down key (arrOf z) a)
  (q:∀m,a<=m->m<=n->Down key (arrOf z) m->Q (none,m,0) z):wpS (model prog w) A E s (descLoop a n) Q z:=by
 have sz:=B.perm.size_eq;have D':=D.perm B.perm;unfold descLoop;refine QQ (λx c y=>y=z/\c=(none,x,0)/\Down key (arrOf z) x) (λx c y h1 h2=>?_) (λc y=>?_) ⟨rfl,rfl,u⟩
 ·rintro⟨rfl,rfl,ux⟩;dsimp only;refine ZU (iY C B (by omega) (by omega) ?_)
  cases hb:aE (at' key (arrOf y) x) (at' key (arrOf y) (x-1)) with
  | true=>exact Xs ⟨rfl,rfl,ux.more (by omega) hb⟩
  | false =>
   refine ZU (iY C B (by omega) (by omega) ?_);rw[D'.or (by omega) (by omega) (by omega) hb];exact Xs (q x h1 (by omega) ux)
 ·rintro⟨rfl,rfl,ux⟩;rw[show max a n=n by omega] at ux ⊢;exact q n han (Zn n) ux
theorem Bas.put{z:SortSt}(B:Bas key a0 z){xs:Array Keyed}(p:xs.Perm (arrOf z)):Bas key a0 (setArr z xs):=⟨p.trans B.perm,B.kind,B.fail,B.pend⟩
theorem y_{z:SortSt}{m n:Nat}{Q:Option Nat->SortSt->Prop}(C:Cmp prog w A s key a0)(B:Bas key a0 z)(D:Diff key a0)(hn:n<=a0.size)(hm:1<=m)(hmn:m<=n)(u:Down key (arrOf z) m)
  (q:∀k y,Bas key a0 y->1<=k->k<=n->Up key (arrOf y) k->Q (some k) y):wpS (model prog w) A E s (tail3 m n) Q z:=by
 have sz:=B.perm.size_eq;unfold tail3;refine ZU (wpS_reverse ?_);have B':Bas key a0 (setArr z (mirror (arrOf z) 0 m ((m-0)/2))):=B.put (mirror_perm _ _ _ _);have hz:m<=(arrOf z).size:=by omega
 refine ZU (t8 C B' D hn hm hmn (λi j hij hj=>?_) λk h1 h2 h3 _=>Xs (q k _ B' (by omega) h2 h3));show aE (KK (kT key) (mirror (arrOf z) 0 m ((m-0)/2)) i) (KK (kT key) (mirror (arrOf z) 0 m ((m-0)/2)) j)=true;rw[KK_mirror hz,KK_mirror hz,Ze ⟨Xj _,by omega⟩,Ze ⟨Xj _,hj⟩];exact u _ _ (by omega) (by omega)
theorem HZ{z:SortSt}{n:Nat}{Q:Option Nat->SortSt->Prop}(C:Cmp prog w A s key a0)(B:Bas key a0 z)(D:Diff key a0)(hn:n<=a0.size)(h1:1<=n)
  (q:∀k y,Bas key a0 y->1<=k->k<=n->Up key (arrOf y) k->Q (some k) y):wpS (model prog w) A E s (countRun' 0 n) Q z:=by
 rw[countRun0_eq];refine ZU (t8 C B D hn (Zn 1) h1 (λi j a b=>by omega) λm hm1 hm2 um hor=>?_);dsimp only
 by_cases e:m=n
 ·rw[Ze (by simpa using e)]; exact Xs (q m z B hm1 hm2 um)
 rw[Zg (by simpa using e)];have hlt:=hor.resolve_left e
 by_cases g:m>1
 ·rw[Ze g];refine ZU (iY C B (by omega) (by omega) ?_);rw[um 0 (m-1) (by omega) (by omega)];exact Xs (q m z B hm1 hm2 um)
 ·rw[Zg g];obtain rfl:m=1:=by omega
  unfold descPart;refine ZU (wpS_lift (X2 ⟨rfl,ZU ?_⟩));refine zU C B D hn (by decide) (by omega) (λi j a b=>?_) λk k1 k2 k3=>?_
  ·obtain rfl:i=0:=by omega
   obtain rfl:j=1:=by omega
   exact hlt
  ·show wpS _ _ _ _ (tail3 k n) Q z;exact y_ C B D hn (by omega) k2 k3 q
end
end TB

namespace TB
open PySem PyProof.Rows
section
variable{prog:WK}{w:WN}{A:Around}{E:WC}{s:WI}{a0:Array Keyed}{key:Value->List Int}
theorem Gh{z:SortSt}{k l:Nat}(hk:k<(arrOf z).size)(hl:l<=k)(u:Up key (arrOf z) k)(lo:∀i,i<l->aE (at' key (arrOf z) i) (at' key (arrOf z) k)=true)(hi:∀i,l<=i->i<k->aE (at' key (arrOf z) k) (at' key (arrOf z) i)=true) :
  Up key (bubble (arrOf z) k (k-l)) (k+1):=λi j hij hj=>by
 show aE (KK (kT key) (bubble (arrOf z) k (k-l)) i) (KK (kT key) (bubble (arrOf z) k (k-l)) j)=true;rw[KK_bubble hk (by omega),KK_bubble hk (by omega),show k-(k-l)=l by omega];have u:∀i j,i<j->j<k->aE (KK (kT key) (arrOf z) i) (KK (kT key) (arrOf z) j)=true:=u;have lo:∀i,i<l->aE (KK (kT key) (arrOf z) i) (KK (kT key) (arrOf z) k)=true:=lo;have hi:∀i,l<=i->i<k->aE (KK (kT key) (arrOf z) k) (KK (kT key) (arrOf z) i)=true:=hi
 repeat' split
 all_goals first
  | (exfalso; omega)
  | exact lo _ (by omega)
  | exact hi _ (by omega) (by omega)
  | exact u _ _ (by omega) (by omega)
theorem xS{z:SortSt}{n ok:Nat}{Q:Bool->SortSt->Prop}(C:Cmp prog w A s key a0)(B:Bas key a0 z)(D:Diff key a0)(hn:n<=a0.size)(hok:ok<=n)(u:Up key (arrOf z) ok)
  (q:∀y,Bas key a0 y->Up key (arrOf y) n->Q true y):wpS (model prog w) A E s (binarySort' 0 n ok) Q z:=by
 rw[binarySort'_eq]; simp only[XL];refine ZU (wpS_mono (QQ (λx c y=>c=(none,())/\Bas key a0 y/\Up key (arrOf y) (min x n)) (Q:=λc y=>c=(none,())/\Bas key a0 y/\Up key (arrOf y) n) (λk c y h1 h2=>?_) (λc y=>?_) ⟨rfl,B,λi j a b=>?_⟩) λc y=>?_)
 ·rintro⟨rfl,By,uy⟩;rw[show min k n=k by omega] at uy;have sz:=By.perm.size_eq;have Dy:=D.perm By.perm
  refine ZU (wpS_mono (QQ (λx c y'=>y'=y/\∃l r,c=(none,l,r)/\l<=r/\r<=k/\r-l<=k-x/\(∀i,i<l->aE (at' key (arrOf y) i) (at' key (arrOf y) k)=true)/\∀i,r<=i->i<k->aE (at' key (arrOf y) k) (at' key (arrOf y) i)=true)
   (Q:=λc y'=>y'=y/\∃l r,c=(none,l,r)/\l<=k/\(∀i,i<l->aE (at' key (arrOf y) i) (at' key (arrOf y) k)=true)/\∀i,l<=i->i<k->aE (at' key (arrOf y) k) (at' key (arrOf y) i)=true) (λx c y' g1 g2=>?_) (λc y'=>?_) ⟨rfl,0,k,rfl,by omega,by omega,by omega,λi a=>by omega,λi a b=>by omega⟩) λc y'=>?_)
  ·rintro⟨rfl,l,r,rfl,e1,e2,e3,e4,e5⟩;dsimp only
   by_cases g:l ≥ r
   ·rw[Ze g];obtain rfl:l=r:=by omega
    exact Xs ⟨rfl,l,l,rfl,e2,e4,e5⟩
   rw[Zg g];refine ZU (iY C By (by omega) (by omega) ?_)
   cases hb:aE (at' key (arrOf y') k) (at' key (arrOf y') ((l+r)/2)) with
   | true =>
    refine Xs ⟨rfl,l,(l+r)/2,rfl,by omega,by omega,by omega,e4,λi a b=>?_⟩
    by_cases e:i=(l+r)/2
    ·subst e; exact hb
    ·exact lex_trans _ _ _ hb (uy _ _ (by omega) b)
   | false =>
    have hb':=Dy.or (by omega) (by omega) (by omega) hb;refine Xs ⟨rfl,(l+r)/2+1,r,rfl,by omega,by omega,by omega,λi a=>?_,e5⟩
    by_cases e:i=(l+r)/2
    ·subst e; exact hb'
    ·exact lex_trans _ _ _ (uy i _ (by omega) (by omega)) hb'
  ·rintro⟨rfl,l,r,rfl,e1,e2,e3,e4,e5⟩;obtain rfl:l=r:=by omega
   exact⟨rfl,l,l,rfl,e2,e4,e5⟩
  ·rintro⟨rfl,l,r,rfl,e2,e4,e5⟩;refine ZU (show wpS _ _ _ _ (moveDown' k l) _ y' from ?_);rw[moveDown'_eq];refine wpS_modify (Xs ⟨rfl,By.put (bubble_perm _ _ _),?_⟩);rw[show min (k+1) n=k+1 by omega];exact Gh (by omega) e2 uy e4 e5
 ·rintro⟨rfl,By,uy⟩;rw[show min (max (max ok 1) n) n=n by omega] at uy;exact⟨rfl,By,uy⟩
 ·exact u i j a (by omega)
 ·rintro⟨rfl,By,uy⟩;exact Xs (q y By uy)
def Fin'(key:Value->List Int)(a0:Array Keyed)(z:SortSt):Prop:=(arrOf z).Perm a0/\failedOf z=none/\pendingOf z=#[(0,a0.size,0)]/\Up key (arrOf z) a0.size
theorem Bas.fin{z:SortSt}(B:Bas key a0 z)(u:Up key (arrOf z) a0.size):Fin' key a0 (setPending z ((pendingOf z).push (0,a0.size,0))):=⟨B.perm,B.fail,by show(pendingOf z).push _=_; rw[B.pend]; rfl,u⟩
theorem Hl{z:SortSt}{Q:Unit->SortSt->Prop}(C:Cmp prog w A s key a0)(B:Bas key a0 z)(D:Diff key a0)(h2:2<=a0.size)(h6:a0.size<64)(q:∀y,(arrOf y).Perm a0->failedOf y=none->Up key (arrOf y) a0.size->Q () y) :
  wpS (model prog w) A E s sortRuns' Q z:=by
 rw[sortRuns'_eq];refine ZU (wpS_get ?_);dsimp only
 have hm:minRun' a0.size a0.size 0=a0.size:=by
  obtain⟨f,e⟩:∃f,a0.size=f+1:=⟨a0.size-1,by omega⟩
  conv=>lhs; arg 1; rw[e]
  rw[minRun'_succ,Ze h6]; rfl
 simp only[B.perm.size_eq,hm];refine ZU (wpS_mono (QQ (λx c y=>(x=0/\c=(none,0)/\Bas key a0 y)\/(1<=x/\c=(none,a0.size)/\Fin' key a0 y)) (Q:=λc y=>c=(none,a0.size)/\Fin' key a0 y) (λx c y _ h1=>?_) (λc y=>?_) (.inl ⟨rfl,rfl,B⟩)) λc y=>?_)
 ·have last:∀y:SortSt,Bas key a0 y->Up key (arrOf y) a0.size->(pendingOf y).back?=none:=λy By _=>by rw[By.pend]; rfl
  rintro(⟨rfl,rfl,By⟩|⟨_,rfl,Fy⟩)
  ·dsimp only;rw[Zg (by omega)]; simp only[Nat.sub_zero,Nat.min_self,XL];refine ZU (HZ C By D (Zn _) (by omega) λm y2 B2 m1 m2 u2=>?_);dsimp only
   by_cases e:m<a0.size
   ·rw[Ze e];refine ZU (wpS_lift (X2 ⟨rfl,ZU (xS C B2 D (Zn _) m2 u2 λy3 B3 u3=>?_)⟩));simp only[XY,Zw,ZK];refine ZU (wpS_get ?_); rw[last y3 B3 u3];exact ZU (wpS_modify (Xs (.inr ⟨by omega,rfl,B3.fin u3⟩)))
   ·rw[Zg e];obtain rfl:m=a0.size:=by omega
    refine ZU (wpS_get ?_); rw[last y2 B2 u2];exact ZU (wpS_modify (Xs (.inr ⟨by omega,rfl,B2.fin u2⟩)))
  ·dsimp only;rw[Ze (Zn _)]; exact Xs ⟨rfl,Fy⟩
 ·rintro(⟨h,_,_⟩|⟨_,h,Fy⟩)
  ·omega
  ·exact⟨h,Fy⟩
 ·rintro⟨rfl,Fy⟩;dsimp only;refine ZU (wpS_mono (QQ (λ_ c y'=>y'=y/\c=(none,())) (Q:=λc y'=>y'=y/\c=(none,())) (λx c y' _ _=>?_) (λ_ _ h=>h) ⟨rfl,rfl⟩) λc y'=>?_)
  ·rintro⟨rfl,rfl⟩;refine ZU (wpS_get ?_); rw[Ze (by rw[Fy.2.2.1]; exact Zn 1)];exact Xs ⟨rfl,rfl⟩
  ·rintro⟨rfl,rfl⟩;exact Xs (q _ Fy.1 Fy.2.1 Fy.2.2.2)
end
end TB

namespace TB
open PySem PySem.SetTable
theorem gr:Slot "set_iterator" "__next__" "set_iterator.__next__" :=
 .of (owner:="set_iterator") (n:="__next__") (by rw[typeLookup_type,builtinLookup_eq_fast]; kernel_rfl) (by decide +kernel) (by decide +kernel) (by decide +kernel) (.inl (by decide +kernel)) (by rw[isSubtype_type]; kernel_rfl)
theorem qL:Slot "set_iterator" "__iter__" "set_iterator.__iter__" :=
 .of (owner:="set_iterator") (n:="__iter__") (by rw[typeLookup_type,builtinLookup_eq_fast]; kernel_rfl) (by decide +kernel) (by decide +kernel) (by decide +kernel) (.inl (by decide +kernel)) (by rw[isSubtype_type]; kernel_rfl)
theorem qa:entryFor table "set_iterator.__next__" = some Builtin.«set_iterator.__next__»:=entryFor_of_fast (by kernel_rfl)
theorem zF:entryFor table "set_iterator.__iter__" = some Builtin.«dict_keyiterator.__iter__»:=entryFor_alias (id':="dict_keyiterator.__iter__") (by kernel_rfl) rfl (by decide +kernel) (by kernel_rfl)
theorem o_(a:Value):argsOk "set_iterator.__next__" ⟨[a],[]⟩:=by unfold argsOk; kernel_rfl
theorem ES(a:Value):argsOk "set_iterator.__iter__" ⟨[a],[]⟩:=by unfold argsOk; kernel_rfl
theorem BJ:entryFor table "set.__iter__" = some Builtin.«frozenset.__iter__»:=entryFor_alias (id':="frozenset.__iter__") (by kernel_rfl) rfl (by decide +kernel) (by kernel_rfl)
end TB

namespace TB
open PySem PySem.SetTable
theorem BD{α:Type}{l:List α}{i:Nat}(h:i<l.length):(l[i]::l.eraseIdx i).Perm l:=by
 rw[List.eraseIdx_eq_take_drop_succ];refine List.perm_middle.symm.trans ?_;rw[<- Xk h,List.take_append_drop]
theorem vn{α:Type}(next:Nat->Nat):∀(n k:Nat) (left:List α) (out:Array α),left.length=n->(pickOrder.go next n k left out).toList.Perm (out.toList++left)
 | 0,k,left,out,h=>by
  obtain rfl:=Xq.mp h;unfold pickOrder.go;rw[Xn]
 | n+1,k,left,out,h=>by
  have hi:next k%left.length<left.length:=Xl _ (by omega);unfold pickOrder.go;rw[Zb hi];refine(vn next n (k+1) _ _ (by rw[List.length_eraseIdx_of_lt hi]; omega)).trans ?_;rw[Array.toList_push,Zt];exact(BD hi).append_left _
theorem FW{α:Type}(next:Nat->Nat)(xs:Array α):(pickOrder next xs).toList.Perm xs.toList:=vn next xs.size 0 xs.toList #[] (ZD)
noncomputable def bZ(w:WN)(S:Addr)(ep:Nat)(es:WO):Array (Int×Value):=if byT w=true then pickOrder (w.params.setOrder S ep) es else es
theorem mj(w:WN)(S:Addr)(ep:Nat)(es:WO):(bZ w S ep es).toList.Perm es.toList:=by
 unfold bZ;split
 ·exact FW _ _
 ·exact .refl _
theorem iJ(w:WN)(S:Addr)(ep:Nat)(es:WO):(bZ w S ep es).size=es.size:=by
 rw[<- ZD,(mj w S ep es).length_eq,ZD]
noncomputable def slotAt(w:WN)(t:SetTable):Nat->Nat
 | 0=>0
 | i+1=>if byT w=true then 0 else t.place.getD i 0+1
noncomputable def nh(w:WN)(S:Addr)(es:WO)(ep:Nat)(t:SetTable)(i:Nat)(d:Option Addr)(sl:Array (Option Value)):Obj :=
 { cls:=.type "set_iterator",dict:=d,data:=.fields #[rawInt (slotAt w t i),rawInt i,.ref S,rawInt es.size,rawInt ep],slots:=sl }
section
variable{prog:WK}{w:WN}{A:Around}{E:WC}{s:WI}{I S:Addr}{o:Obj}{es:WO}{ep:Nat}{t:SetTable}
set_option genInjectivity false in
structure Fix(w:WN)(o:Obj)(es:WO)(ep:Nat)(t:SetTable):Prop where
 data:o.data=.set es ep t
 good:Good t es
 plain:t.plain=true
 led:t.led=!byT w
 fit:es.size<=t.mask
theorem DA(g:Good t es){i:Nat}(hi:i<=es.size)(hb:byT w=false):below t.place (slotAt w t i)=i:=by
 have hsp:=oE g.srt (slotAt w t i)
 cases i with
 | zero =>
  obtain⟨h1,h2,h3⟩:=hsp;rcases Nat.eq_zero_or_pos (below t.place (slotAt w t 0)) with z|z
  ·exact z
  ·have hlt:0<t.place.size:=by omega
   exact absurd (h2 0 _ (Zv hlt) z) (Nat.not_lt_zero _)
 | succ i =>
  have hlt:i<t.place.size:=by rw[g.len]; omega
  have hg:t.place[i]?=some t.place[i]:=Zv hlt
  have e:slotAt w t (i+1)=t.place[i]+1:=by
   show(if byT w=true then 0 else t.place.getD i 0+1)=_;rw[hb,Zg Zx,Xb,hg]; rfl
  rw[e] at hsp ⊢;obtain⟨h1,h2,h3⟩:=hsp;rcases Wx (below t.place (t.place[i]+1)) (i+1) with z|z|z
  ·have:=h3 i _ hg (by omega); omega
  ·exact z
  ·have hlt2:i+1<t.place.size:=by omega
   have hg2:t.place[i+1]?=some t.place[i+1]:=Zv hlt2;have a:=h2 (i+1) _ hg2 z;have b:=g.srt i (i+1) _ _ hg hg2 (X0 i);omega
theorem wj{i:Nat}{Q:Option (Value×Nat)->Shared->Prop}(ho:s.heap.get? S=some o)(X:Fix w o es ep t)(hi:i<=es.size)
  (q:Q (((bZ w S ep es)[i]?).map λe=>(e.2,slotAt w t (i+1))) s):wpAny (model prog w) A (setNext S (slotAt w t i) i ep) Q E s:=by
 have hf:=fV X.good X.fit;unfold setNext setsByText;refine Za (XG ho X.data hf (Za (Za (QF (Zd ?_)))));dsimp only;have hbt:(model prog w).w.params.followText "set-order" = byT w:=rfl
 cases hb:byT w with
 | true =>
  rw[hbt,hb];simp only[Xa,Qx,Zw,ZK];unfold setWalk setsByText;refine Za (Za (XG ho X.data hf (Za (Za (QF (Zd ?_))))));dsimp only;rw[hbt,hb];simp only[Xa];refine Za (QF (Zd (Zd ?_)));have e:bZ w S ep es=pickOrder (w.params.setOrder S ep) es:=by unfold bZ; rw[hb]; rfl
  have e2:slotAt w t i=slotAt w t (i+1):=by cases i<;>(unfold slotAt; simp[hb])
  rw[e] at q;rw[e2];exact q
 | false =>
  rw[hbt,hb];simp only[Zw,ZK];rw[Zg]
  rotate_left
  ·show ¬((!t.plain&&decide (es.size>1))=true);rw[X.plain]; simp
  refine Za (Qt (a:=()) (show(if(!t.led&&!es.isEmpty)=true then _ else pure ())=pure () by rw[X.led,hb]; rfl) (Zd ?_));rw[DA X.good hi hb];have e:bZ w S ep es=es:=by unfold bZ; rw[hb]; rfl
  rw[e] at q
  by_cases hlt:i<es.size
  ·have he:es[i]?=some es[i]:=Zv hlt;have hl2:i<t.place.size:=by rw[X.good.len]; exact hlt
   have hp:t.place[i]?=some t.place[i]:=Zv hl2
   have e3:slotAt w t (i+1)=t.place[i]+1:=by
    show(if byT w=true then 0 else t.place.getD i 0+1)=_;rw[hb,Zg Zx,Xb,hp]; rfl
   rw[he,e3] at q;rw[he,hp];exact q
  ·have he:es[i]?=none:=Qu (by omega);rw[he] at q;rw[he];exact q
end
end TB

namespace TB
open PySem PySem.SetTable
section
variable{prog:WK}{w:WN}{A:Around}{E:WC}{s:WI}{I S:Addr}{o:Obj}{es:WO}{ep:Nat}{t:SetTable}
def AtI(w:WN)(S:Addr)(es:WO)(ep:Nat)(t:SetTable)(h:Heap)(I:Addr)(i:Nat):Prop:=∃d sl,h.get? I=some (nh w S es ep t i d sl)
theorem AtI.type{i:Nat}(x:AtI w S es ep t s.heap I i):s.TypeIs (.ref I) "set_iterator":=let⟨_,_,e⟩:=x; ⟨_,e,rfl⟩
theorem A3{i:Nat}{Q:Option Value->Shared->Prop}(x:AtI w S es ep t s.heap I i)(ho:s.heap.get? S=some o)(X:Fix w o es ep t)(hIS:S≠I){e:Int×Value}(he:(bZ w S ep es)[i]?=some e)
  (q:∀h',AtI w S es ep t h' I (i+1)->Heap.SameBut I s.heap h'->Q (some e.2) { s with heap:=h' }):wpAny (model prog w) A (pyNext (.ref I)) Q E s:=by
 have hT:=x.type;obtain⟨d,sl,hi⟩:=x;have hlt:i<es.size:=by rw[<- iJ w S ep es]; exact(ZO.mp he).1
 unfold pyNext;refine Za (XX (ZY (name:=Str.ofString "__next__") hT gr (Z4 gr hT qa ?_ (o_ _))));unfold Builtin.«set_iterator.__next__»;refine Za (m:=slotArgs "__next__" 0 _) (Qt (a:=(.ref I,[])) rfl ?_);refine Za (wpAny_fieldsOf hi rfl ?_);dsimp only;refine Za (wpAny_setEntries_of ho X.data (fV X.good X.fit) ?_);rw[show(((es.size:Int))!=(es.size:Int))=false from Qx _];simp only[Zw,ZK];rw[show rawInt (slotAt w t i)=Value.int (slotAt w t i) 0 from rfl];dsimp only;rw[ZL,ZL,ZL];refine Za (wj ho X (Qf hlt) ?_);rw[he];dsimp only[Option.map];refine Za (QS hi rfl (by simp) ?_);have h1:=Xv (h:=s.heap) (Obj.mapFields (·.setIfInBounds 0 (rawInt (slotAt w t (i+1))))) hi rfl;refine Za (QS h1 rfl (by simp) (Zd ⟨e.2,rfl,Zd (q _ ⟨d,sl,?_⟩ ?_)⟩))
 ·rw[Xv _ h1 rfl];rfl
 ·exact(XJ s.heap I _).trans (XJ _ I _)
theorem GC{i:Nat}{Q:Option Value->Shared->Prop}(hh:A.handled=none)(x:AtI w S es ep t s.heap I i)(ho:s.heap.get? S=some o)(X:Fix w o es ep t)(hi0:i=es.size)
  (q:∀h',Heap.ExtBut I s.heap h'->Q none { s with heap:=h' }):wpAny (model prog w) A (pyNext (.ref I)) Q E s:=by
 have hT:=x.type;obtain⟨d,sl,hi⟩:=x;have he:(bZ w S ep es)[i]?=none:=Qu (by rw[iJ]; omega);unfold pyNext;refine Za (XX (ZY (name:=Str.ofString "__next__") hT gr (Z4 gr hT qa ?_ (o_ _))));unfold Builtin.«set_iterator.__next__»;refine Za (m:=slotArgs "__next__" 0 _) (Qt (a:=(.ref I,[])) rfl ?_);refine Za (wpAny_fieldsOf hi rfl ?_);dsimp only;refine Za (wpAny_setEntries_of ho X.data (fV X.good X.fit) ?_);rw[show(((es.size:Int))!=(es.size:Int))=false from Qx _];simp only[Zw,ZK];rw[show rawInt (slotAt w t i)=Value.int (slotAt w t i) 0 from rfl];dsimp only;rw[ZL,ZL,ZL];refine Za (wj ho X (Nat.le_of_eq hi0) ?_);rw[he];dsimp only[Option.map];refine Za (QS hi rfl (by simp) (Za ?_)); simp only[newExc,newTuple];refine Za (Xe (Za (m:=firstArgMember _ _) (Qt (a:=Value.none) (by first|rfl|(simp only[firstArgMember]; rfl)) (Xe ?_ (by size_fits)))) (by size_fits)); simp only[raiseNew];refine Za (wpAny_handled ?_); rw[show A.in1.handled=none from hh];refine Za (Zd (wpAny_throw ?_));refine Za (Q1 (T:="StopIteration") (b:=true) ⟨_,Zy _ rfl,rfl⟩ isSubtype_stop (Zd (q _ ?_)));exact((XJ s.heap I _).extBut.push _).push _
theorem Eg{i:Nat}{Q:WC}(x:AtI w S es ep t s.heap I i)(q:Q (.ref I) s):wpAny (model prog w) A (pyIter (.ref I)) Q E s :=
 wpAny_pyIter_slot x.type qL (Z4 qL x.type zF (show wpAny _ _ (ret (.ref I)) _ _ s from Zd ⟨_,rfl,"set_iterator",_,x.type,gr.lookup,q⟩) (ES _))
theorem F3(hh:A.handled=none)(X:Fix w o es ep t)(hIS:S≠I) :
  Walks prog w A I [I,S] [I] es.size (λi v=>∃e,(bZ w S ep es)[i]?=some e/\v=e.2) (λi h=>AtI w S es ep t h I i/\h.get? S=some o) where
 sub:=λb hb=>by rw[ZN.mp hb]; exact Zp
 frame:=λi h h' ⟨⟨d,sl,a⟩,b⟩ k=>⟨⟨d,sl,k I Zp _ a⟩,k S (Zr _ Zp) _ b⟩
 item:=λi s Q E hi ⟨a,b⟩ k=>by
  have hw:i<(bZ w S ep es).size:=by rw[iJ]; exact hi
  exact A3 a b X hIS (Zv hw) λh' x sb=>k _ h' s.toks ⟨_,Zv hw,rfl⟩ ⟨x,(sb.2 S hIS).trans b⟩ λc oc hc ec=>(sb.2 c λz=>hc (by rw[z]; exact Zp)).trans ec
 done:=λs Q E ⟨a,b⟩ k=>GC hh a b X rfl λh' eb=>k h' s.toks λc oc hc ec=>eb c oc (λz=>hc (by rw[z]; exact Zp)) ec
 self:=λi s Q E ⟨a,b⟩ k=>Eg a k
theorem Gy{Q:WC}(ho:s.heap.get? S=some o)(hex:o.ExactSet)(X:Fix w o es ep t)
  (q:∀h',h'=s.heap.push (nh w S es ep t 0 none #[])->Q (.ref s.heap.objs.size) { s with heap:=h' }):wpAny (model prog w) A (pyIter (.ref S)) Q E s:=by
 have hT:s.TypeIs (.ref S) "set":=⟨o,ho,hex.1⟩
 have hf:=fV X.good X.fit;refine wpAny_pyIter_slot hT F.slot_set_iter (Z4 F.slot_set_iter hT BJ ?_ (F.args_set_iter_1 _));unfold Builtin.«frozenset.__iter__»;refine Za (m:=Builtin.Frozenset.slot0 "__iter__" _) (Qt (a:=S) rfl ?_);unfold Builtin.Frozenset.sizeOf;refine Za (Za (wpAny_setEntries_of ho X.data hf (Zd ?_)));unfold setDrawn setsByText;refine Za (Za (XG ho X.data hf (Za (Za (QF (Zd (Zd ?_)))))));dsimp only;have hdr:∀b:Bool,(b&&(!t.plain&&decide (es.size>1)))=false:=λb=>by rw[X.plain]; cases b<;>rfl
 rw[Zg]
 rotate_left
 ·show ¬((!_&&(!t.plain&&decide (es.size>1)))=true);rw[hdr]; exact Zx
 refine Za (Zd ?_);refine Za (wpAny_setEpoch_of ho X.data hf ?_);refine Za (Xe (Zd ⟨_,rfl,"set_iterator",_,⟨_,Zy _ rfl,rfl⟩,gr.lookup,?_⟩));exact q _ rfl
end
end TB

namespace TB
open PySem PySem.SetTable
theorem Gz:splitId "set.__len__" = some ("set","__len__"):=by decide +kernel
section
variable{prog:WK}{w:WN}{A:Around}{E:WC}{s:WI}{S:Addr}{o:Obj}{es:WO}{ep:Nat}{t:SetTable}
theorem zx{Q:Bool->Shared->Prop}(hT:s.TypeIs (.ref S) "set")(q:Q false s):wpAny (model prog w) A (Builtin.List.listLengthHint (.ref S)) Q E s:=by
 unfold Builtin.List.listLengthHint;refine Za (wpAny_specialOf hT F.slot_set_len.lookup ?_);dsimp only;rw[Gz];dsimp only;refine Za (Q1 hT sub_set_self ?_);simp only[XY,Zw,ZK];rw[Ze]
 rotate_left
 ·show(_:Bool)=true;decide +kernel
 refine Za (Q8 hT ?_);exact Zd q
theorem z0{Q:List Value->Shared->Prop}(hh:A.handled=none)(ho:s.heap.get? S=some o)(hex:o.ExactSet)(X:Fix w o es ep t)
  (q:∀h' tk,s.heap.objs.size<h'.objs.size->(∀b oc,b<s.heap.objs.size->s.heap.get? b=some oc->h'.get? b=some oc)->Q ((bZ w S ep es).toList.map (·.2)) { s with heap:=h',toks:=tk }):wpAny (model prog w) A (collect (.ref S)) Q E s:=by
 have hSl:S<s.heap.objs.size:=Zo ho;unfold collect;refine Za (wpAny_runValue (XI F.entry_proto_collect ?_)); rw[XB F.plain_proto_collect _];refine Za (show wpAny _ A.in1 (newList []) _ _ s from Xe ?_);refine Zd ⟨QG F.plain_list_iadd _,XI F.entry_list_iadd ?_⟩; rw[XB F.plain_list_iadd _];generalize hob:({ cls:=.type "list",data:=.seq ([]:List Value).toArray }:Obj)=ob;have g1:(s.heap.push ob).get? S=some o:=Zc _ ho;have gL:(s.heap.push ob).get? s.heap.objs.size=some ob:=Zy _ (by rw[<- hob]; rfl);have hT:Shared.TypeIs { s with heap:=s.heap.push ob } (.ref S) "set":=⟨o,g1,hex.1⟩
 show wpAny _ A.in1 (Builtin.List.listExtendWith (.ref s.heap.objs.size) (.ref S) (.ref s.heap.objs.size)) _ _ { s with heap:=s.heap.push ob };unfold Builtin.List.listExtendWith;refine Za (Q8 hT ?_)
 have n1:Builtin.List.listSameRef (.ref s.heap.objs.size) (.ref S)=false:=by
  show(s.heap.objs.size==S)=false;exact Qo (Xw hSl)
 rw[n1,show(Value.type "set"==Value.type "list")=false by decide,show(Value.type "set"==Value.type "tuple")=false by decide];simp only[Bool.or_false,Zw,ZK];refine Za (Gy (s:={ s with heap:=s.heap.push ob }) g1 hex X λh2 e2=>?_);have k2:∀b oc,(s.heap.push ob).get? b=some oc->h2.get? b=some oc:=λb oc e=>by rw[e2]; exact Zc _ e
 refine Za (Xg (zx (s:={ s with heap:=h2 }) ⟨o,k2 _ _ g1,hex.1⟩ ?_));rw[Ze]
 rotate_left
 ·show(_:Bool)=true;decide +kernel
 refine Za (X2 ?_);have sz:(s.heap.push ob).objs.size=s.heap.objs.size+1:=Z2 _ _;have gI:h2.get? (s.heap.push ob).objs.size=some (nh w S es ep t 0 none #[]):=by rw[e2]; exact Zy _ rfl
 have gL2:h2.get? s.heap.objs.size=some { cls:=.type "list",data:=.seq ([]:List Value).toArray }:=by rw[hob]; exact k2 _ _ gL
 refine Za (show wpAny _ A.in1 (updateSeq s.heap.objs.size (·.push .none)>>=λ_=>updateSeq s.heap.objs.size (·.pop)) _ _ _ from ?_);refine Za (wpAny_updateSeq gL2 rfl ?_);have gL3:=Xv (Obj.mapSeq (·.push Value.none)) gL2 rfl;refine wpAny_updateSeq gL3 rfl ?_;have gL4:=Xv (Obj.mapSeq (·.pop)) gL3 rfl
 have k4:∀b oc,b≠s.heap.objs.size->h2.get? b=some oc->((h2.update s.heap.objs.size (Obj.mapSeq (·.push Value.none))).update s.heap.objs.size (Obj.mapSeq (·.pop))).get? b=some oc :=
  λb oc hb e=>(X1 _ _ (Ne.symm hb)).trans ((X1 _ _ (Ne.symm hb)).trans e)
 generalize ((h2.update s.heap.objs.size (Obj.mapSeq (·.push Value.none))).update s.heap.objs.size (Obj.mapSeq (·.pop)))=h4 at gL4 k4;have hSI:S≠(s.heap.push ob).objs.size:=by rw[sz]; exact ZC (XV hSl)
 have hh2:A.in1.in1.handled=none:=by simpa using hh
 have hh1:A.in1.handled=none:=by simpa using hh
 have hLf:s.heap.objs.size ∉ [(s.heap.push ob).objs.size,S]:=λz=>by
  rcases Zm.mp z with z|z
  ·rw[sz] at z; exact absurd z (ZC (X0 _))
  ·exact absurd (ZN.mp z) (Xw hSl)
 have hn:es.size<=sizeLine:=by rw[XA]; have:=X.fit; rcases X.good.msk with z|z<;>omega
 refine Zd ⟨QG F.plain_extend_loop _,codeAny_extend_loopS (F3 (I:=(s.heap.push ob).objs.size) hh1 X hSI).toS hn _ hLf _ es.size 0 _ _ _ rfl (Xj _)
  ⟨⟨_,_,k4 _ _ (by rw[sz]; exact Xw (X0 _)) gI⟩,k4 S _ (ZC hSl) (k2 _ _ g1)⟩ gL4 (ItemsOf.nil _) λz acc c hm hz hacc=>?_⟩
 obtain⟨h',g',d',tk',os'⟩:=z;obtain rfl:g'=s.gens:=hm.gens;obtain rfl:d'=s.drawn:=hm.drawn;obtain rfl:os'=s.os:=hm.os;refine Za (wpAny_load hz (Zd ?_))
 have hacc':acc.toList=(bZ w S ep es).toList.map (·.2):=by
  refine QU λj=>?_
  rw[ZX,ZJ,ZX]
  by_cases hj:j<es.size
  ·have hj2:j<acc.size:=by rw[hacc.1]; exact hj
   have ha:acc[j]?=some acc[j]:=Zv hj2;obtain⟨e,q1,q2⟩:=hacc.2 j _ ha;rw[ha,q1,q2]; rfl
  ·rw[Qu (by rw[hacc.1]; omega),Qu (by rw[iJ]; omega)]; rfl
 show Q acc.toList _;rw[hacc'];refine q h' tk' (Zo hz) λb oc hb e=>hm.heap b oc (λz=>?_) (k4 b oc (ZC hb) (k2 _ _ (Zc _ e)))
 rcases Zm.mp z with z|z
 ·exact absurd z (ZC hb)
 ·rw[ZN,sz] at z; exact absurd z (ZC (XV hb))
end
end TB

namespace TB
open PySem PyProof.Rows
section
variable{prog:WK}{w:WN}{A:Around}{E:WC}{s:WI}{key:Value->List Int}
theorem kM{vs:WH}{p:Keyed}(h:p∈(pairsOf vs).toList):p.2=p.1/\p.1∈vs:=by
 rw[pairsOf_toList] at h;obtain⟨i,hi⟩:=ZH h;rw[List.getElem?_zip_eq_some] at hi;exact⟨Zz (hi.2.symm.trans hi.1),ZB hi.1⟩
theorem wY(vs:WH):(pairsOf vs).toList.map (·.2)=vs:=by
 rw[pairsOf_toList];exact List.map_snd_zip (Zn _)
theorem HV(vs:WH)(f:Value->List Int):(pairsOf vs).toList.map (λp=>f p.1)=vs.map f:=by
 rw[pairsOf_toList,show(λp:Value×Value=>f p.1)=f∘Prod.fst from rfl,<- X3,List.map_fst_zip (Zn _)]
theorem GU{a:Addr}{vs:WH}{n:Nat}{P:Fin->Shared->Prop}(ho:s.heap.get? a=some (seqObj "list" vs.toArray n))(hv:∀v∈vs,∃c,v=.ref c/\TK prog w s.heap (key v) c/\key v≠[])(hd:(vs.map key).Nodup)(h6:vs.length<64)
  (q:∀out:List Value,out.Perm vs->(out.map key).Pairwise (λx y=>aE x y=true)->P (.done (.ret .none)) { s with heap:=sortedHeap s.heap a vs out.toArray }):wpAny (model prog w) A (Builtin.«list.sort» ⟨[.ref a],[]⟩) P E s:=by
 have hal:a<s.heap.objs.size:=Zo ho;rw[list_sort_plain];refine Za (listItems_at ho rfl (Za (listUpdate_at ho rfl ?_)));obtain⟨e1,ho1⟩:∃e1,(s.heap.update a (Obj.mapSeq λ_=>#[])).get? a=some (seqObj "list" #[] e1):=⟨_,get?_update_seq ho λ_=>#[]⟩
 refine Za (seqEpoch_at ho1 rfl (Za (wpAny_newTuple (Za (wpAny_newList (Xg ?_))))))
 have ot:∀b o,b≠a->s.heap.get? b=some o->(((s.heap.update a (Obj.mapSeq λ_=>#[])).push (seqObj "tuple" vs.toArray 0)).push (seqObj "list" #[] 0)).get? b=some o:=λb o hb e =>
  Zc _ (Zc _ ((X1 _ _ (Ne.symm hb)).trans e))
 have ho6:(((s.heap.update a (Obj.mapSeq λ_=>#[])).push (seqObj "tuple" vs.toArray 0)).push (seqObj "list" #[] 0)).get? a=some (seqObj "list" #[] e1):=Zc _ (Zc _ ho1)
 have fin:∀y:SortSt,(arrOf y).Perm (pairsOf vs)->Up key (arrOf y) (pairsOf vs).size->P (.done (.ret .none)) { s with heap:=sortedHeap s.heap a vs ((arrOf y).map (·.2)) }:=λy py uy=>by
  have pl:=QH.mp py;have h1:=q ((arrOf y).map (·.2)).toList (by rw[Array.toList_map]; exact(pl.map _).trans (by rw[wY])) ?_
  ·rw[Array.toArray_toList] at h1; exact h1
  ·rw[Array.toList_map,X3];refine Wy.mpr (Qe.mpr λi j hi hj hij=>?_);have hi2:i<(arrOf y).size:=by rw[ZD] at hi; exact hi
   have hj2:j<(arrOf y).size:=by rw[ZD] at hj; exact hj
   have m:∀(k:Nat) (hk:k<(arrOf y).size),key (arrOf y)[k].2=at' key (arrOf y) k:=λk hk=>by
    rw[i_ (Zv hk),(kM (pl.mem_iff.mp (by simp))).1]
   have:=uy i j hij (by rw[<- py.size_eq]; exact hj2);show aE (key (arrOf y).toList[i].2) (key (arrOf y).toList[j].2)=true;rw[XT,XT,m i hi2,m j hj2];exact this
 dsimp only;have lin:∀y:SortSt,(arrOf y).Perm (pairsOf vs)->((arrOf y).map (·.2)).size<=sizeLine+1:=λy py=>by rw[Array.size_map,py.size_eq,pairsOf_size,XA]; omega
 by_cases h2:vs.toArray.size<2
 ·rw[Ze h2,Ze h2];refine Za (Zd ?_); rw[StateT.run_pure];refine Za (Zd ?_);dsimp only;refine Za (seqEpoch_at ho6 rfl (Za (listUpdate_at ho6 rfl ?_ (hsz2:=lin (SortSt.mk' general' (pairsOf vs) #[] 7 none) (Array.Perm.refl _)))));simp only[Qx,Zw,ZK];refine Zd (fin (SortSt.mk' general' (pairsOf vs) #[] 7 none) (Array.Perm.refl _) λi j hij hj=>?_);rw[pairsOf_size] at hj; rw[Zh] at h2; omega
 ·rw[Zg h2,Zg h2];have hne:vs≠[]:=λz=>h2 (by rw[z]; decide)
  have hv6:∀v∈vs,∃c,v=.ref c/\TK prog w (((s.heap.update a (Obj.mapSeq λ_=>#[])).push (seqObj "tuple" vs.toArray 0)).push (seqObj "list" #[] 0)) (key v) c/\key v≠[]:=λv m=>by
   obtain⟨c,e,x,y⟩:=hv v m;refine⟨c,e,?_,y⟩;obtain⟨oc,its,k,x1,x2,x3⟩:=x;refine⟨oc,its,k,ot c oc (λz=>?_) x1,x2,x3⟩;rw[z,ho] at x1;cases x1;exact absurd (Value.type.inj (show Value.type "list" = .type "tuple" from x2)) (by decide)
  refine Za (FQ hne (λv m=>let⟨c,e,x,y⟩:=hv6 v m; ⟨_,c,e,x,y⟩) ?_)
  have C:Cmp prog w A { s with heap:=((s.heap.update a (Obj.mapSeq λ_=>#[])).push (seqObj "tuple" vs.toArray 0)).push (seqObj "list" #[] 0) } key (pairsOf vs):=λE x y Q mx my qq=>by
   obtain⟨c,ex,kx,_⟩:=hv6 _ (kM mx).2;obtain⟨d,ey,ky,_⟩:=hv6 _ (kM my).2;generalize x.1=vx at ex kx qq ⊢;generalize y.1=vy at ey ky qq ⊢;subst ex; subst ey;exact Ce kx ky qq
  have D:Diff key (pairsOf vs):=by unfold Diff; rw[HV]; exact hd
  refine Za (Xu (Hl (z:=SortSt.mk' (tuples' true) (pairsOf vs) #[] 7 none) (Q:=λ_ y=>(arrOf y).Perm (pairsOf vs)/\failedOf y=none/\Up key (arrOf y) (pairsOf vs).size) C ⟨Array.Perm.refl _,rfl,rfl,rfl⟩ D (by rw[pairsOf_size]; rw[Zh] at h2; omega) (by rw[pairsOf_size]; exact h6) λy a1 a2 a3=>⟨a1,a2,a3⟩) ?_ λ_ _ e=>e);rintro⟨⟨⟩,y⟩ z ⟨rfl,py,fy,uy⟩;dsimp only;refine Za (seqEpoch_at ho6 rfl (Za (listUpdate_at ho6 rfl ?_ (hsz2:=lin y py))));rw[fy];simp only[Qx,Zw,ZK];exact Zd (fin y py uy)
end
end TB

namespace TB
open PySem PySem.SetTable PySem.Spec
section
variable{prog:WK}{w:WN}{A:Around}{R:Result->Shared->Prop}{I:Addr}{fp wr:WL}{G:Array GenState->Array GenState->Prop}{n:Nat}{P:Nat->Value->Prop}{St:Nat->Shared->Prop}
theorem fK{h h':Heap}{ks:WE}{c:Addr}(x:TK prog w h ks c)(k:∀o,h.get? c=some o->h'.get? c=some o):TK prog w h' ks c:=by
 obtain⟨o,items,m,x1,x2⟩:=x;exact⟨o,items,m,k o x1,x2⟩
theorem yE(hu:A.in1.units<cLine)(W:WalksS prog w A.in1 I fp wr G n P St)(S:Addr)(lim:Addr->Prop)(hS1:S∉fp)(hwr:∀b∈wr,¬lim b)(hSl:¬lim S)(val:Nat->List Int)(hn:n<=18)(hval:∀i v,P i v->∃c,v=.ref c/\lim c) :
  ∀(k i:Nat) (z:WI) (L:WJ),n-i=k->i<=n->St i z->bW prog w lim z.heap S L->(∀x,x∈L ↔ ∃j,j<i/\val j=x)->L.length<=i->(∀i c,P i (.ref c)->TK prog w z.heap (val i) c) ->
   (∀z' L',Moved (S::wr) G z z'->bW prog w lim z'.heap S L'->(∀x,x∈L' ↔ ∃j,j<n/\val j=x)->(∀i c,P i (.ref c)->TK prog w z'.heap (val i) c)->R (.ok (.ret .none)) z') ->
   codeAny (model prog w) A (.builtin "set.update.loop" ⟨[.ref S,.ref I],[]⟩) R z:=by
 have hS2:S∉wr:=λq=>hS1 (W.sub _ q)
 have more:∀b∈wr,b∈S::wr:=λb q=>Zr _ q
 have old:∀{c:Addr},lim c->c∉wr:=λhc q=>hwr _ q hc
 intro k
 induction k with
 | zero =>
  intro i z L hk hi hst hT hL hlen hP hR;obtain rfl:i=n:=by omega
  refine XI QR ?_;rw[XB X5 _];refine Za (W.done z _ _ hst λz' hm=>?_);refine Zd (hR z' L (hm.mono more) (hT.keep λb o hb e=>hm.heap b o ?_ e) hL λj c hp=>fK (hP j c hp) λo e=>hm.heap c o ?_ e)
  ·rcases hb with hb|rfl
   ·exact old hb
   ·exact hS2
  ·obtain⟨c',q1,q2⟩:=hval j _ hp; cases q1; exact old q2
 | succ k ih =>
  intro i z L hk hi hst hT hL hlen hP hR;have hlt:i<n:=by omega
  refine XI QR ?_;rw[XB X5 _];refine Za (W.item i z _ _ hlt hst λv z' hv hst' hm=>?_);obtain⟨c,rfl,hc⟩:=hval i v hv;have hP':∀i c,P i (.ref c)->TK prog w z'.heap (val i) c:=λj d hp=>fK (hP j d hp) λo e=>hm.heap d o (by obtain⟨c',q1,q2⟩:=hval j _ hp; cases q1; exact old q2) e
  have hT':bW prog w lim z'.heap S L:=hT.keep λb o hb e=>hm.heap b o (by rcases hb with hb|rfl; exact old hb; exact hS2) e
  have hci:=hP' i c hv;refine Za (Xg ?_);unfold setAdd;refine Xg (Za (wpAny_pyHash_tuple hu hci ?_));refine Bq (s:={ z' with toks:=z'.toks+((val i).length+1) }) hu hT' (by omega) hci hc λr h' L' sb hT2 hL2 hlen2=>?_
  have kp:∀b o,b≠S->z'.heap.get? b=some o->h'.get? b=some o:=λb o hb e=>(sb.2 b hb).trans e
  refine Zd ⟨QG X5 _,ih (i+1) _ L' (by omega) hlt (W.frame _ z' _ _ hst' (Xz _ _) λb hb o e=>kp b o (λq=>hS1 (q▸hb)) e) hT2 (λx=>?_) (by omega) (λj d hp=>fK (hP' j d hp) λo e=>kp d o ?_ e) λz2 L2 hm2 a1 a2 a3=>?_⟩
  ·rw[hL2,hL];constructor
   ·rintro(⟨j,h1,h2⟩|rfl)
    ·exact⟨j,by omega,h2⟩
    ·exact⟨i,by omega,rfl⟩
   ·rintro⟨j,h1,rfl⟩
    by_cases q:j=i
    ·subst q; exact .inr rfl
    ·exact .inl ⟨j,by omega,rfl⟩
  ·obtain⟨c',q1,q2⟩:=hval j _ hp; cases q1; exact λq=>hSl (q▸q2)
  ·exact hR z2 L2 (Moved.trans W.gtrans ((hm.mono more).then_heap (Xz _ _) λb o hb e=>kp b o (λq=>hb (by rw[q]; exact Zp)) e) hm2) a1 a2 a3
end
end TB

namespace TB
open PySem PyProof.Rows
open Classical in
noncomputable def dm(prog:WK)(w:WN)(h:Heap):Value->List Int
 | .ref c=>if x:∃ks,TK prog w h ks c then x.choose else[]
 | _=>[]
section
variable{prog:WK}{w:WN}{A:Around}{E:WC}{s:WI}
open Classical in
theorem lE{h:Heap}{ks:WE}{c:Addr}(x:TK prog w h ks c):dm prog w h (.ref c)=ks:=by
 have hx:∃ks,TK prog w h ks c:=⟨ks,x⟩
 show(if x:∃ks,TK prog w h ks c then x.choose else[])=ks;rw[dif_pos hx];exact IsTupleKey.inj hx.choose_spec x
theorem sZ{h:Heap}:∀{l:List (Int×Value)} {L:WJ},Els prog w h l L->(l.map (·.2)).map (dm prog w h)=L
 | _,_,.nil=>rfl
 | _,_,.cons ⟨_,b,e,x⟩ r=>by
  rw[ZT,ZT,sZ r,e,lE x]
theorem tF{h:Heap}:∀{l:List (Int×Value)} {L:WJ},Els prog w h l L->∀v∈l.map (·.2),∃c,v=.ref c/\TK prog w h (dm prog w h v) c/\dm prog w h v∈L
 | _,_,.nil,v,hv=>by cases hv
 | _,_,.cons ⟨_,b,e,x⟩ r,v,hv=>by
  rw[ZT] at hv;rcases Zm.mp hv with z|z
  ·rw[e] at z;subst z;exact⟨b,rfl,by rw[lE x]; exact x,by rw[lE x]; exact Zp⟩
  ·obtain⟨c,e1,e2,e3⟩:=tF r v z;exact⟨c,e1,e2,Zr _ e3⟩
def Hx(prog:WK)(w:WN)(h:Heap)(lim:Addr->Prop)(R:Addr)(ks:WJ):Prop:=∃out:List Value,∃n,h.get? R=some (seqObj "list" out.toArray n)/\out.length=ks.length/\∀(i:Nat) v k,out[i]?=some v->ks[i]?=some k->∃c,v=.ref c/\c≠R/\lim c/\TK prog w h k c
theorem IQ{S:Addr}{lim:Addr->Prop}{L:WJ}{Q:WC}(hh:A.handled=none)(x:bW prog w lim s.heap S L)(hne:∀ks∈L,ks≠[])
  (q:∀h' tk R ks,s.heap.objs.size<=R->Hx prog w h' lim R ks->ks.Pairwise (λa b=>aE a b=true)->(∀y,y∈ks ↔ y∈L)->(∀b o,b<s.heap.objs.size->s.heap.get? b=some o->h'.get? b=some o)->Q (.ref R) { s with heap:=h',toks:=tk }) :
  wpAny (model prog w) A (call (.builtin "sorted") [.ref S]) Q E s:=by
 obtain⟨o,es,ep,t,ho,hex,hd,g,⟨hp,hl⟩,hsz,hels,hnd,hlim⟩:=x;have hfit:es.size<=t.mask:=by rcases g.msk with z|z<;>omega
 have X:Fix w o es ep t:=⟨hd,g,hp,hl,hfit⟩
 obtain⟨L1,x1,y1⟩:=Els.perm (mj w S ep es) hels;refine Calls.call_function_entry kind_sorted plain_sorted entry_sorted (args_sorted1 _) ?_;unfold Builtin.«sorted»;refine Za (m:=checkCount "sorted" 1 1 _) (Zd ?_);refine Za (z0 (by simpa using hh) ho hex X λh1 tk hle k1=>?_);have hlen:(bZ w S ep es).toList.length=es.size:=by rw[ZD,iJ]
 have he18:es.size<=18:=by rcases g.msk with z|z<;>omega
 generalize hvs:(bZ w S ep es).toList.map (·.2)=vs;have hvl:vs.length=es.size:=by rw[<- hvs,Zi,hlen]
 have hkeys:vs.map (dm prog w s.heap)=L1:=by rw[<- hvs]; exact sZ x1
 have hvals:∀v∈vs,∃c,v=.ref c/\TK prog w s.heap (dm prog w s.heap v) c/\dm prog w s.heap v∈L1:=by rw[<- hvs]; exact tF x1
 have up:∀{ks:WE} {c:Addr},TK prog w s.heap ks c->TK prog w h1 ks c/\c<s.heap.objs.size:=λ{ks c} z=>by
  obtain⟨oc,its,m,z1,z2⟩:=z;exact⟨⟨oc,its,m,k1 c oc (Zo z1) z1,z2⟩,Zo z1⟩
 refine Za (wpAny_newList ?_);have gR:(h1.push (seqObj "list" vs.toArray 0)).get? h1.objs.size=some (seqObj "list" vs.toArray 0):=Zy _ rfl;refine Za (Xg (Z4 slot_list_sort ⟨_,gR,rfl⟩ entry_list_sort (GU (s:={ s with heap:=h1.push (seqObj "list" vs.toArray 0),toks:=tk }) (key:=dm prog w s.heap) gR (λv m=>?_) (by rw[hkeys]; exact y1.nodup_iff.mpr hnd) (by omega) λout po so=>⟨_,rfl,?_⟩) (args_list_sort _)))
 ·obtain⟨c,e,z,m2⟩:=hvals v m;refine⟨c,e,fK (up z).1 λoc e=>Zc _ e,hne _ (y1.mem_iff.mp m2)⟩
 ·refine Zd ⟨_,rfl,?_⟩
  have old:∀b o,b<s.heap.objs.size->s.heap.get? b=some o->(sortedHeap (h1.push (seqObj "list" vs.toArray 0)) h1.objs.size vs out.toArray).get? b=some o:=λb o hb e =>
   (sortedHeap_old (ZC (QP hb hle)) (by rw[Z2]; exact XV (QP hb hle))).trans (Zc _ (k1 b o hb e))
  obtain⟨n,hn⟩:=sortedHeap_at (vs:=vs) (out:=out.toArray) gR;refine q _ tk h1.objs.size (out.map (dm prog w s.heap)) (Qf hle) ⟨out,n,hn,(Zi _).symm,λi v k e1 e2=>?_⟩ so (λy=>?_) old
  ·rw[ZJ,e1] at e2;have mv:=po.mem_iff.mp (ZB e1);obtain⟨c,e,z,_⟩:=hvals v mv
   have hc:lim c:=by
    rw[<- hvs] at mv;obtain⟨en,m1,m2⟩:=ZP.mp mv;exact hlim en ((mj w S ep es).mem_iff.mp m1) c (m2.trans e)
   have e3:dm prog w s.heap v=k:=Zz e2;rw[e3] at z;exact⟨c,e,ZC (QP (up z).2 hle),hc,fK z λoc e=>old c oc (Zo e) e⟩
  ·rw[(po.map _).mem_iff,hkeys];exact y1.mem_iff
end
end TB

namespace TB
open PySem PySem.SetTable PySem.Spec
section
variable{prog:WK}{w:WN}{A:Around}{E:WC}{s:WI}
def Eo(prog:WK)(w:WN)(h:Heap)(items:WQ)(val:Nat->List Int):Prop:=∀(i:Nat) v,items[i]?=some v->∃c,v=.ref c/\TK prog w h (val i) c
noncomputable def eW(led:Bool):Obj:={ cls:=.type "set",dict:=none,data:=.set #[] 0 (.fresh 0 0 led) }
def Made(prog:WK)(w:WN)(h:Heap)(items:WQ)(val:Nat->List Int)(h':Heap):Prop:=(∃L,bW prog w (λc=>c<h.objs.size/\Value.ref c∈items.toList) h' h.objs.size L/\∀x,x∈L ↔ ∃j,j<items.size/\val j=x)/\∀b o,b<h.objs.size->h.get? b=some o->h'.get? b=some o
set_option maxRecDepth 100000 in
set_option maxHeartbeats 3200000 in
theorem CM(a:Value){Q:WC}(q:Q (.ref s.heap.objs.size) { s with heap:=s.heap.push (eW (!byT w)) }) :
  codeAny (model prog w) A (.call (.builtin "set.__new__") ⟨[.type "set",a],[]⟩) (wants Q E) s:=by
 refine codeAny_of_tree (show wpAny _ A.in1 (do checkBuiltinCall "set.__new__" ⟨[.type "set",a],[]⟩; again (.builtin "set.__new__" ⟨[.type "set",a],[]⟩)) _ _ s from ?_);refine Za (Qt (F.newCall_set_1 a) (Zd ⟨QG F.plain_set_new _,XI F.entry_set_new ?_⟩)); rw[XB F.plain_set_new _];unfold Builtin.«set.__new__» Builtin.Frozenset.newClass; have hsub:=sub_set_self;obtain⟨hp,g,d,tk,os⟩:=s;dsimp only; wp_walk;refine QF (Zd ?_);dsimp only; simp only[newObj];refine Za (wpAny_alloc (Zd (Zd ?_)));exact q
set_option maxRecDepth 100000 in
set_option maxHeartbeats 3200000 in
theorem AQ{l:Addr}{items:WQ}{val:Nat->List Int}{Q:WC}(hu:A.units+4<cLine)(hh:A.handled=none)(hl:s.heap.IsList l items)(ht:Eo prog w s.heap items val)(hb:items.size<=18)
  (q:∀h' tk,Made prog w s.heap items val h'->Q (.ref s.heap.objs.size) { s with heap:=h',toks:=tk }):wpAny (model prog w) A (call (.type "set") [.ref l]) Q E s:=by
 obtain⟨ka,kb,kc⟩:=F.called_set.mro; have kd:=F.called_set.made; have ke:=F.called_set.sub;refine wpAny_call (codeAny_of_tree (show wpAny _ _ (callAny (.type "set") _) _ _ _ from ?_));refine Zd ⟨Code.quiet_builtin _ (by decide +kernel),XI F.entry_type_call ?_⟩; rw[Around.under_plain (weight_type_call_type "set" [.ref l] []) rfl];have kf:=F.called_set.notType; have kg:=F.called_set.canCreate; have ki:=F.typeCall_set_1 (.ref l)
 repeat (any_goals (first|wp_step|assumption))
 refine QL (CM (.ref l) (E:=E) (Q:=λob z=>∃led:Bool,led=!byT w/\ob=.ref s.heap.objs.size/\z={ s with heap:=s.heap.push (eW led) }) ⟨_,rfl,rfl,rfl⟩) λr z hr=>?_
 cases r with
 | error e=>exact hr
 | ok fl =>
  cases fl with
  | ret ob =>
   obtain⟨led,hled,rfl,rfl⟩:=hr;have gS:(s.heap.push (eW led)).get? s.heap.objs.size=some (eW led):=Zy _ rfl;have hT:Shared.TypeIs { s with heap:=s.heap.push (eW led) } (.ref s.heap.objs.size) "set":=⟨_,gS,rfl⟩
   have kj:=F.called_set.init.lookup; have kk:=F.called_set.init.bind (.ref s.heap.objs.size)
   repeat (any_goals (first|wp_step|assumption))
   refine QL (Wl (R:=wants (λr z=>r=.none/\∃h' tk,z={ s with heap:=h',toks:=tk }/\Made prog w s.heap items val h') E) F.called_set.init.plain F.entry_set_init (check_set_init_1 hT ?_)) λr2 z2 hr2=>?_
   ·obtain⟨⟨oc,od,ot,os⟩,hol,hcl,nl,hdl⟩:=hl;have hcl:oc=.type "list":=hcl; have hdl:ot=.seq items nl:=hdl;subst hcl; subst hdl;have hlt:l<s.heap.objs.size:=Zo hol;have gl:(s.heap.push (eW led)).get? l=some { cls:=.type "list",dict:=od,data:=.seq items nl,slots:=os }:=Zc _ hol;have kl:=F.sub_list_set; have km:=F.sub_list_frozenset; have kn:(Value.type "list"==Value.type "dict")=false:=by decide
    have hl1:(s.heap.push (eW led)).IsList l items:=⟨_,gl,rfl,nl,rfl⟩
    unfold Builtin.«set.__init__» noKeywords Builtin.Frozenset.updateFrom;generalize hpi:pyIter=pit;unfold eW at *
    wp_walk
    subst hpi;refine QV hl1 (Za (wpAny_runValue ?_));have sz:((s.heap.push ({ cls:=.type "set",dict:=none,data:=.set #[] 0 (.fresh 0 0 led) }:Obj)).objs.size)=s.heap.objs.size+1:=Z2 _ _;have h3:A.in1.in1.in1.handled=none:=by simpa using hh
    have hI:l≠(s.heap.push ({ cls:=.type "set",dict:=none,data:=.set #[] 0 (.fresh 0 0 led) }:Obj)).objs.size:=by rw[sz]; exact ZC (XV hlt)
    refine yE (by show A.units+1+1+1<cLine; omega) ((Walks.list h3 _ l hI items).toS) s.heap.objs.size (λc=>c<s.heap.objs.size/\Value.ref c∈items.toList) ?hS1 ?hwr (λz=>absurd z.1 (Z6 _)) val hb ?hval (items.size-0) 0 _ [] rfl (Xj _) ⟨⟨_,Zy _ rfl,rfl,rfl⟩,hl1.push _⟩ ?hT ?hL (Zn _) ?hP ?hR
    case hS1=>rw[sz]; intro z; rcases Zm.mp z with z|z; exact absurd z (ZC (X0 _)); exact absurd (ZN.mp z) (Xw hlt)
    case hwr=>intro b z q; rw[ZN.mp z,sz] at q; exact absurd q.1 (Nat.not_lt_of_le (QX _))
    case hval =>
     intro i v hv;obtain⟨c,e,o,items',m,h1,h2⟩:=ht i v hv;exact⟨c,e,Zo h1,ZB (by rw[<- e,ZX]; exact hv)⟩
    case hT=>rw[hled] at gS ⊢; exact bW.new (Zc _ gS)
    case hL=>intro x; constructor; (intro z; cases z); (rintro⟨j,z,_⟩; omega)
    case hP =>
     intro i c hp;obtain⟨c',e,x⟩:=ht i _ hp;cases e;exact fK x λo e=>Zc _ (Zc _ e)
    case hR =>
     rintro⟨h',g',d',tk',os'⟩ L' hm h1 h2 _;obtain rfl:g'=s.gens:=hm.gens;obtain rfl:d'=s.drawn:=hm.drawn;obtain rfl:os'=s.os:=hm.os;refine Zd (Zd ⟨rfl,h',tk',rfl,⟨L',h1,h2⟩,λb o hb' e=>?_⟩);refine hm.heap b o (λz=>?_) (Zc _ (Zc _ e));rcases Zm.mp z with z|z
     ·exact absurd z (ZC hb')
     ·rw[ZN,sz] at z; exact absurd z (ZC (XV hb'))
   ·cases r2 with
    | error e=>exact hr2
    | ok fl2 =>
     cases fl2 with
     | ret r =>
      obtain⟨rfl,h',tk,rfl,hm⟩:=hr2
      repeat (any_goals (first|wp_step|assumption))
      exact q _ _ hm
     | _=>exact hr2.elim
  | _=>exact hr.elim
end
end TB

namespace EV
open PySem PySem.Spec PyProof.Rows L2 TB
theorem rC:∀{t u:WE},t≠u->lexLe t u=true->aE t u=true
 | [],[],h,_=>absurd rfl h
 | [],_::_,_,_=>rfl
 | _::_,[],_,e=>by cases e
 | a::r,b::q,h,e=>by
  unfold lexLe at e;unfold aE
  by_cases ab:a=b
  ·subst ab;rw[Zg (Int.lt_irrefl a),Ze rfl] at e;rw[Ze rfl];exact rC (λz=>h (by rw[z])) e
  ·rw[Zg ab]
   by_cases lt:a<b
   ·exact Zj lt
   ·rw[Zg lt,Zg ab] at e; cases e
theorem q_:∀{t u:WE},lexLe t u=false->aE u t=true
 | [],_,e=>by cases e
 | _::_,[],_=>rfl
 | a::r,b::q,e=>by
  unfold lexLe at e;unfold aE
  by_cases ab:a=b
  ·subst ab;rw[Zg (Int.lt_irrefl a),Ze rfl] at e;rw[Ze rfl];exact q_ e
  ·rw[Zg λz=>ab z.symm]
   by_cases lt:a<b
   ·rw[Ze lt] at e; cases e
   ·exact Zj (by omega)
theorem l9(t x:WE):∀r,x∈cg t r ↔ x=t\/x∈r
 | []=>by unfold cg; simp
 | u::r=>by
  unfold cg
  by_cases e:t=u
  ·rw[Ze e]; subst e; simp
  ·rw[Zg e]
   by_cases l:lexLe t u=true
   ·rw[Ze l]; simp
   ·rw[Zg l,Zm,l9 t x r,Zm]; constructor
    ·rintro(h|h|h)
     ·exact .inr (.inl h)
     ·exact .inl h
     ·exact .inr (.inr h)
    ·rintro(h|h|h)
     ·exact .inr (.inl h)
     ·exact .inl h
     ·exact .inr (.inr h)
theorem qw(t:WE):∀{r},r.Pairwise (λa b=>aE a b=true)->(cg t r).Pairwise (λa b=>aE a b=true)
 | [],_=>by unfold cg; exact List.pairwise_singleton _ _
 | u::r,h=>by
  unfold cg
  by_cases e:t=u
  ·rw[Ze e]; exact h
  ·rw[Zg e];obtain⟨h1,h2⟩:=Wr.mp h
   by_cases l:lexLe t u=true
   ·rw[Ze l];have tu:=rC e l;refine Wr.mpr ⟨λx hx=>?_,h⟩;rcases Zm.mp hx with z|z
    ·rw[z]; exact tu
    ·exact lex_trans _ _ _ tu (h1 x z)
   ·rw[Zg l];have ut:=q_ (Bool.eq_false_iff.mpr l);refine Wr.mpr ⟨λx hx=>?_,qw t h2⟩;rcases(l9 t x r).mp hx with z|z
    ·rw[z]; exact ut
    ·exact h1 x z
theorem nD:∀ts,(aQ ts).Pairwise (λa b=>aE a b=true)
 | []=>.nil
 | t::r=>qw t (nD r)
theorem qm(x:WE):∀ts,x∈aQ ts ↔ x∈ts
 | []=>Iff.rfl
 | t::r=>by
  show x∈cg t (aQ r) ↔ _;rw[l9,qm x r,Zm]
theorem pD{l:WJ}(h:l.Pairwise (λa b=>aE a b=true)):l.Nodup:=h.imp λ{a b} e q=>by
 rw[q,lex_irrefl] at e; cases e
theorem Ac{ts ks:WJ}(h:ks.Pairwise (λa b=>aE a b=true))(m:∀y,y∈ks ↔ y∈ts):ks=aQ ts:=by
 have p:ks.Perm (aQ ts):=(List.perm_ext_iff_of_nodup (pD h) (pD (nD ts))).mpr λy=>by rw[m,qm]
 refine p.eq_of_pairwise (λx y _ _ h1 h2=>?_) h (nD ts);have z:=lex_trans _ _ _ h1 h2;rw[lex_irrefl] at z; cases z
theorem uF(t:WE):∀r,(cg t r).length<=r.length+1
 | []=>Zn _
 | u::r=>by
  unfold cg
  by_cases e:t=u
  ·rw[Ze e]; exact QX _
  ·rw[Zg e]
   by_cases l:lexLe t u=true
   ·rw[Ze l]; exact Zn _
   ·rw[Zg l]; exact Q2 (uF t r)
theorem wm:∀ts,(aQ ts).length<=ts.length
 | []=>Zn _
 | t::r=>Xm (uF t (aQ r)) (Q2 (wm r))
theorem rE:∀{ds:WV} {ts:WJ},tups ds=some ts->ds=ts.map λt=>.tup (t.map .int)
 | [],_,h=>by cases h; rfl
 | d::r,ts,h=>by
  cases d with
  | tup es =>
   unfold tups at h
   cases q1:allInts es with
   | none=>rw[q1] at h; cases h
   | some t =>
    cases q2:tups r with
    | none=>rw[q1,q2] at h; cases h
    | some q =>
     rw[q1,q2] at h; cases h;rw[ZT,<- rE q2,<- ints_map q1]
  | _=>cases h
section
variable{X:Cx}{Γ:Gx}{xw:XW}{ι:WL}{H:Hp}
theorem uC{P:WK}{w:WN}:∀{ks:WE} {its:WH},Vals (ks.map V.int) its->ItemsAre (intKind P w) ks its
 | [],_,.nil=>.nil
 | k::r,_,.cons h t=>by
  obtain⟨u,rfl⟩:=h;exact .cons (Qi k) (uC t)
theorem qI{pins:WD}{σ:L2.St}{s:WI}{c:Addr}{ks:WE}(I:Inv X pins σ H s)(h:H c=some (.tup (ks.map V.int))):TK X.prog X.w s.heap ks c:=by
 obtain⟨its,r,⟨o,e1,e2,n,e3⟩,_⟩:=I.tuple (.of h);exact⟨o,its.toArray,n,e1,e2,e3,uC r⟩
theorem qD:∀{out:WH} {ks:WJ},out.length=ks.length->(∀(i:Nat) v k,out[i]?=some v->ks[i]?=some k->∃c,v=.ref c/\H c=some (.tup (k.map V.int)))->∃vs,Vals vs out/\az Γ ι H (ks.map λt=>.tup (t.map .int)) vs
 | [],[],_,_=>⟨[],.nil,.nil⟩
 | [],_::_,hl,_=>by cases hl
 | _::_,[],hl,_=>by cases hl
 | v::o,k::r,hl,h=>by
  obtain⟨c,rfl,e⟩:=h 0 v k rfl rfl;obtain⟨vs,h1,h2⟩:=qD (out:=o) (ks:=r) (Nat.succ.inj hl) λi v' k' e1 e2=>h (i+1) v' k' e1 e2
  exact⟨.ref c::vs,.cons rfl h1,.cons (.jM e (mK k)) h2⟩
theorem item_at:∀{ts:WJ} {xs:WT} {its:WH} {i:Nat} {v:Value},az Γ ι H (ts.map λt=>.tup (t.map .int)) xs->Vals xs its->its[i]?=some v->∃c t,v=.ref c/\ts[i]?=some t/\H c=some (.tup (t.map V.int))
 | [],_,_,_,_,.nil,.nil,e=>by simp at e
 | t::r,_,_,0,_,.cons a p,.cons b q,e=>by
  cases e;obtain⟨c,rfl,sq⟩:=a.trk;cases b;exact⟨c,t,rfl,rfl,sq⟩
 | t::r,_,_,i+1,_,.cons a p,.cons b q,e=>by
  obtain⟨c,u,e1,e2,e3⟩:=item_at (ts:=r) (i:=i) p q e;exact⟨c,u,e1,e2,e3⟩
theorem EI{sub:Sub}{x y:Str}{p p' pos pos':Pos}{a:Expr}{ma:Sg->M D}(hK:Γ.K=X.K)(hc:X.calm=true)(hu:X.A.units+4<cLine)(hg:Gl X x)(hm:X.mg x=none)(hv:bootBuiltins x=some (.builtin "sorted"))
  (hg':Gl X y) (hm':X.mg y=none) (hv':bootBuiltins y=some (.type "set")) (ha:PE X a (tM Γ xw ma)) (hn:x≠"__name__") (hdb:(x==("__debug__" : Str))=false) (hn':y≠"__name__") (hdb':(y==("__debug__" : Str))=false)
  (hs:starEach [a] X.env=(false,eval a X.env)::starEach [] X.env):PE X (.Call (.Name x p) [.Call (.Name y p') [a] [] pos'] [] pos) (tM Γ xw λσ=>ma σ>>=λd=>bi1 sub .sortedSet d):=by
 intro pins s σ H Q I h;refine Xp (eN I hg hm hv ?_ hn hdb);refine XR (e:=.Call (.Name y p') [a] [] pos') (rest:=[]) ?_ rfl rfl;refine XM ?_;refine Xp (eN I hg' hm' hv' ?_ hn' hdb');refine Xo (e:=a) (rest:=[]) ?_ hs rfl;rw[hs];refine XM (thn (ha pins s σ H _ I (C7 h)) λu s1 ⟨v,H1,I1,r1,q1⟩=>Qw ?_);obtain⟨ι,S,d,hS,r,ho⟩:=q1;obtain⟨ds,q,ho⟩:=Out.cz ho;obtain⟨ts,q2,ho⟩:=Out.opt ho;obtain⟨hz,ho⟩:=Out.guard ho;obtain⟨hz1,hz2⟩:=Bool.and_eq_true_iff.mp hz;have hz1:ts.length<=18:=Zk hz1;obtain⟨_,pa,xs,rfl,sq,rp⟩:=Ik hS r q;rw[rE q2] at rp;cases r1;rw[hK] at sq;obtain⟨its,rv,pl,_⟩:=I1.list sq;have hl:its.length=ts.length:=by rw[<- rv.length,<- rp.length,Zi]
 refine AQ (val:=λi=>ts.getD i []) hu (I1.ok.hd hc) pl.isList (λi v e=>?_) (by rw[Zh]; omega) λh' tk md=>?_
 ·obtain⟨c,t,e1,e2,e3⟩:=item_at rp rv (by simpa using e);refine⟨c,e1,?_⟩;show TK X.prog X.w s1.heap (ts.getD i []) c;rw[Zu,e2];exact qI I1 e3
 ·obtain⟨⟨L,tset,hL⟩,k1⟩:=md
  have hlt:s1.heap.objs.size<h'.objs.size:=by
   obtain⟨o,_,_,_,e,_⟩:=tset;exact Zo e
  have hmem:∀y,y∈L ↔ y∈ts:=λy=>by
   rw[hL];constructor
   ·rintro⟨j,h1,rfl⟩;rw[Zh,hl] at h1;show ts.getD j []∈ts;rw[Zu,Zb h1];exact Xr h1
   ·intro hy;obtain⟨j,hj⟩:=ZH hy;exact⟨j,by rw[Zh,hl]; exact(Zf.mp hj).1,by show ts.getD j []=y; rw[Zu,hj]; rfl⟩
  refine Qw (IQ (s:={ s1 with heap:=h',toks:=tk }) (I1.ok.hd hc) tset (λks hk e=>?_) λh2 tk2 R ks hR hol so hm2 old=>?_)
  ·have:=Z7.mp hz2 ks ((hmem ks).mp hk);rw[e] at this; cases this
  ·obtain⟨out,n,eo,el,ev⟩:=hol;have kp:∀b o,s1.heap.get? b=some o->h2.get? b=some o:=λb o e=>old b o (QP (Zo e) hlt) (k1 b o (Zo e) e)
   have e:ks=aQ ts:=Ac so λy=>by rw[hm2,hmem]
   subst e
   obtain⟨vs,w1,w2⟩:=qD (Γ:=Γ) (ι:=ι) (H:=H1) el λi v k e1 e2=>by
    obtain⟨c,rfl,_,⟨_,hc2⟩,tk2⟩:=ev i v k e1 e2;obtain⟨j,hj⟩:=ZH hc2;obtain⟨c',t,e3,_,e4⟩:=item_at rp rv (by simpa using hj);cases e3;have:=IsTupleKey.inj tk2 (fK (qI I1 e4) λo e=>kp c o e);subst this;exact⟨c,rfl,e4⟩
   have hR2:s1.heap.objs.size<=R:=Xm (Qf hlt) hR;refine⟨.ref R,_,I1.laid (h':=h2) (t':=tk2) (o:=.lst vs) kp hR2 ⟨?_,out,n,w1,eo⟩,rfl,Out.alloc ho hS (I1.hok.fresh hR2) w2⟩;rw[w1.length,el,XA];have:(aQ ts).length<=ts.length:=wm ts;omega
end
end EV

namespace EV
open PySem PySem.Spec PyProof.Rows L2
theorem bX{n:Nat}{c:TC}{a:WR}{a':E}(h:trE n c a=some a'):∀es env,starEach (a::es) env=(false,eval a env)::starEach es env:=by
 cases n with
 | zero=>cases h
 | succ n=>cases a<;>first|(intro _ _; rfl)|cases h
theorem cy{f:PySem.Expr->Option E}{e:WR}{r:WS}{es:E}(h:bM f (e::r)=some es):∃a b,f e=some a/\bM f r=some b/\es=.cs a b:=by
 unfold bM at h
 cases q:f e with
 | none=>rw[q] at h; cases h
 | some a =>
  rw[q] at h
  cases q2:bM f r with
  | none=>rw[q2] at h; cases h
  | some b=>rw[q2] at h; cases h; exact⟨a,b,rfl,rfl,rfl⟩
theorem fH{n:Nat}{c:TC}:∀{es:WS} {es':E},bM (trE n c) es=some es'->∀env pos,(backTo pos (starEach es env)).any (·.1)=false/\(backTo pos (starEach es env)).all (λx=>!x.1)=true
 | [],_,_,_,_=>⟨rfl,rfl⟩
 | e::r,_,h,env,pos=>by
  obtain⟨a,b,h1,h2,_⟩:=cy h;rw[bX h1];obtain⟨z1,z2⟩:=fH h2 env pos;constructor
  ·show(List.map _ ((false,eval e env)::starEach r env)).any _=false;rw[ZT,List.any_cons];have:(List.map (λx:Bool×Sem Value=>(x.1,if x.1=true then do let v <- x.2; standAt pos; pure v else x.2)) (starEach r env)).any (·.1)=false:=z1;simpa using this
  ·show(List.map _ ((false,eval e env)::starEach r env)).all _=true;rw[ZT,Qm];have:(List.map (λx:Bool×Sem Value=>(x.1,if x.1=true then do let v <- x.2; standAt pos; pure v else x.2)) (starEach r env)).all (λx=>!x.1)=true:=z2;simpa using this
section
variable{Γ:Gx}{W:XW->Prop}{CX:CXT}{EW:XW->XK}{gt:List (Str×GE)}{cf:Str->List D->M D}{sub:Sub}{X:Cx}{xw:XW}
theorem uu(hw:W xw){ps:WP}{m:Sg->M (List D)}{i:Str}(hb:∀ds S,ds.length≠ps.length->cf i ds S=.bad){σ:L2.St}{H:Hp}{Q:VK}(h:tM Γ xw (λσ=>m σ>>=cf i) σ H Q) :
  nR (spF Γ W EW (cf i) ps.length) [] (EW xw) (tMA Γ xw m) σ H Q:=by
 obtain⟨σd,ι,S,he,hs,ho⟩:=h;refine⟨σd,ι,S,he,hs,ho.bind.mono λds S' ι' H' _ _ ⟨s',e',o'⟩ vs rs=>?_⟩;show spF Γ W EW (cf i) ps.length (vs++[]) H' Q (EW xw);rw[Xn];refine⟨?_,xw,hw,rfl,ι',S',ds,s',rs,o'⟩
 by_cases hl:ds.length=ps.length
 ·rw[<- rs.length]; exact hl
 ·rw[hb ds S' hl] at o'; exact o'.elim
theorem zk(F:Fam Γ W CX EW gt cf X xw){x:Str}(hx:gt.lookup x=some .fn)(hg:Gl X x)(hdb:(x==("__debug__" : Str))=false){a:WR}{es:WS}{m:Sg->M (List D)}{p pos:Pos}
  (ha:PA X (a::es) (tMA Γ xw m)) (he:starEach (a::es) X.env=(false,eval a X.env)::starEach es X.env) (hpl:(backTo pos (starEach es X.env)).any (·.1)=false) :
  PE X (.Call (.Name x p) (a::es) [] pos) (tM Γ xw λσ=>m σ>>=cf x):=by
 obtain⟨k,f,fd,ps,hf,hr,hm,hk,hb,hl⟩:=F.fn x hx;exact PE.imp (Bl hf hr hg hm hk hb .nil F.pass ha hdb he hpl) λσ H Q h=>uu F.ok hl h
theorem vG{c:TC}(F:Fam Γ W CX EW c.gt cf X xw)(C:Cok c X):∀{fs:WS} {xs:WP},fnNames c fs=some xs->∃as:List Addr,PA X fs (λ_ H Q=>Q (as.map .ref) H)/\as.length=fs.length/\∀(k:Nat) x,xs[k]?=some x->c.gt.lookup x=some .fn/\∃f,as[k]?=some f/\X.mg x=some (.ref f)
 | [],_,h=>by cases h; exact⟨[],d_,rfl,λk x z=>by simp at z⟩
 | e::r,xs,h=>by
  cases e with
  | Name x p =>
   have h:(if((cj x&&glB c x)&&isFn c x)=true then(fnNames c r).map (x :: ·) else none)=some xs:=h;split at h
   ·rename_i hx;rw[Zl,Zl] at hx;obtain⟨⟨h1,h2⟩,h3⟩:=hx
    have hl:c.gt.lookup x=some .fn:=by
     unfold isFn at h3;split at h3
     ·assumption
     ·cases h3
    obtain⟨ys,hy,rfl⟩:=ZA.mp h;obtain⟨as,pa,hn,hg⟩:=vG F C hy;obtain⟨_,f,_,_,_,_,hm,_⟩:=F.fn x hl;refine⟨f::as,λpos pins s σ H Q I q=>dJ (ve (v:=.ref f) (C.gl h2) hm rfl (cL h1).1) pa rfl pos pins s σ H Q I q,by simp[hn],λk y z=>?_⟩
    cases k with
    | zero=>cases z; exact⟨hl,f,rfl,hm⟩
    | succ k=>exact hg k y z
   ·cases h
  | _=>cases h
theorem D_{c:TC}(F:Fam Γ W CX EW c.gt cf X xw)(C:Cok c X){fs:WS}{xs:WP}(hfs:fnNames c fs=some xs)(hz:fs.length<1000){i a:WR}{es:WS}{mi:Sg->M D}{m:Sg->M (List D)}{lp sp pos:Pos}
  (hi:PE X i (tM Γ xw mi)) (hp:iS i) (ha:PA X (a::es) (tMA Γ xw m)) (he:starEach (a::es) X.env=(false,eval a X.env)::starEach es X.env) (hpl:(backTo pos (starEach es X.env)).any (·.1)=false) :
  PE X (.Call (.Subscript (.List fs lp) i sp) (a::es) [] pos) (tM Γ xw λσ=>mi σ>>=λk=>jO xs k>>=λf=>m σ>>=cf f):=by
 intro pins s σ H Q I h;obtain⟨as,pa,hn,hg⟩:=vG F C hfs;have e:eval (.Call (.Subscript (.List fs lp) i sp) (a::es) [] pos) X.env=(do callWith pos (<- eval (.Subscript (.List fs lp) i sp) X.env) [] (backTo pos (starEach (a::es) X.env)) (backToKw pos (keywordEach [] X.env))):=rfl;rw[e];refine Za (thn (sU (pos:=sp) wM (jI (pos:=lp) pa) hi hp pins s σ H (λv H1=>∃x f,v=.ref f/\c.gt.lookup x=some .fn/\X.mg x=some (.ref f)/\tM Γ xw (λσ=>m σ>>=cf x) σ H1 Q) I ?_) λv s1 ⟨x,H1,I1,r,y,f,ex,hx,hm,q⟩=>?_)
 ·refine⟨by rw[Zi,hn,XA]; omega,λp hp=>?_⟩;obtain⟨σd,ι,S,hE,hS,ho⟩:=h;have el:Ext ι ι H (upd H p (.lst (as.map .ref))):=Ext.laid hp;refine⟨σd,ι,S,hE.ext el,hS.laid hp _,(ho.step el).bind.mono λd S' ι' H' ee _ ⟨s',e',o'⟩ v r=>?_⟩
  cases d with
  | int j =>
   cases r;have o':Out Γ xw ι' H' ((guard (decide (0<=j)) (opt xs[j.toNat]?)>>=λf=>m σd>>=cf f) S') λd _ ι' H'=>∀v,Rep Γ ι' H' d v->Q v H':=o'
   by_cases hj:0<=j
   ·rw[Zj hj] at o';obtain⟨x,hx,o''⟩:=Out.opt (o:=xs[j.toNat]?) o';obtain⟨hl,f,hf,hm⟩:=hg _ x hx;have hpi:p∉ι:=hS.new hp;refine⟨p,as.map .ref,j,.ref f,rfl,rfl,.inl (.inl (ee.oth p _ (Ze rfl) hpi)),?_,x,f,rfl,hl,hm,σd,ι',S',hE.ext (el.trans ee),s',o''⟩;have hlt:=(Zf.mp hf).1;show(ixN (as.map V.ref).length j).bind _=_;unfold ixN;rw[Ze hj,Ze (by rw[Zi]; omega)];show(as.map V.ref)[j.toNat]?=_;rw[ZJ,hf]; rfl
   ·rw[Zs hj] at o';exact o'.elim
  | _=>exact o'.elim
 ·subst ex;cases(show v=Value.ref f from r);obtain⟨k,f',fd,ps,hf,hr,hm',hk,hb,hl⟩:=F.fn y hx;rw[hm] at hm';cases hm';refine Wp (h₀:=X.base) I1.ok.mod.kin hk (thn (ha pos pins s1 σ H1 _ I1 (uu (EW:=EW) F.ok hl q)) λus s2 ⟨vs,H2,I2,r2,q2⟩=>⟨I2.kIn,?_⟩) he hpl;exact lP hf hr hb .nil F.pass I2 r2 q2
theorem yO(F:Fam Γ W CX EW gt cf X xw){x:Str}(hx:gt.lookup x=some .fn)(hg:Gl X x)(hdb:(x==("__debug__" : Str))=false){p pos:Pos} :
  PE X (.Call (.Name x p) [] [] pos) (tM Γ xw λ_=>cf x []):=by
 obtain⟨k,f,fd,ps,hf,hr,hm,hk,hb,hl⟩:=F.fn x hx;refine PE.imp (Ba hf hr hg hm hk hb .nil F.pass hdb) λσ H Q h=>?_
 obtain⟨σd,ι,S,he,hs,ho⟩:=h;have ho:Out Γ xw ι H (cf x [] S) λd x ι' H'=>∀(v:V),Rep Γ ι' H' d v->Q v H':=ho
 refine⟨?_,xw,F.ok,rfl,ι,S,[],hs,.nil,ho⟩
 by_cases hz:([]:List D).length=ps.length
 ·exact hz
 ·rw[hl [] S hz] at ho; exact ho.elim
theorem uv(F:Fam Γ W CX EW gt cf X xw){x:Str}(h:gt.lookup x=none)(hm:x∈ez):X.mg x=none:=F.blt x hm h
theorem zQ(F:Fam Γ W CX EW gt cf X xw){x:Str}{b:Bi}(hb:mV x=some b)(hn:gt.lookup x=none)(hg:Gl X x){a:WR}{es:WS}{m:Sg->M (List D)}{p pos:Pos}
  (ha:PA X (a::es) (tMA Γ xw m)) (he:starEach (a::es) X.env=(false,eval a X.env)::starEach es X.env) (hpl:(backTo pos (starEach es X.env)).any (·.1)=false) :
  PE X (.Call (.Name x p) (a::es) [] pos) (tM Γ xw λσ=>m σ>>=biD sub b):=by
 have hm:x∈ez->X.mg x=none:=uv F hn;unfold mV at hb
 by_cases e:x = "len"
 ·subst e; rw[Ze rfl] at hb; cases hb;exact n5 (Jt F.hK) hg (hm (by decide +kernel)) PySem.boot_len ha (by decide +kernel) (by decide +kernel) he hpl
 rw[Zg e] at hb; clear e
 by_cases e:x = "all"
 ·subst e; rw[Ze rfl] at hb; cases hb;exact n5 (GZ F.hK F.calm) hg (hm (by decide +kernel)) boot_all ha (by decide +kernel) (by decide +kernel) he hpl
 rw[Zg e] at hb; clear e
 by_cases e:x = "max"
 ·subst e; rw[Ze rfl] at hb; cases hb;exact n5 (Ew F.hK F.calm) hg (hm (by decide +kernel)) boot_max ha (by decide +kernel) (by decide +kernel) he hpl
 rw[Zg e] at hb; clear e
 by_cases e:x = "list"
 ·subst e; rw[Ze rfl] at hb; cases hb;exact pJ (EY F.hK) hg (hm (by decide +kernel)) PyProof.Rows.boot_list ha (by decide +kernel) (by decide +kernel) he hpl
 rw[Zg e] at hb; clear e
 by_cases e:x = "tuple"
 ·subst e; rw[Ze rfl] at hb; cases hb;exact pJ (DY F.hK) hg (hm (by decide +kernel)) PyProof.Rows.boot_tuple ha (by decide +kernel) (by decide +kernel) he hpl
 rw[Zg e] at hb; cases hb
theorem CF(F:Fam Γ W CX EW gt cf X xw){y:Str}{t:Ty}(hb:mE y=some t)(hn:gt.lookup y=none):∃T,t.name=some T/\bootBuiltins y=some (.type T)/\X.mg y=none/\y≠"__name__"/\(y==("__debug__" : Str))=false:=by
 have hm:y∈ez->X.mg y=none:=uv F hn;unfold mE at hb
 by_cases e:y = "int"
 ·subst e; rw[Ze rfl] at hb; cases hb;exact⟨_,rfl,PyProof.Rows.boot_int,hm (by decide +kernel),by decide +kernel,by decide +kernel⟩
 rw[Zg e] at hb; clear e
 by_cases e:y = "bool"
 ·subst e; rw[Ze rfl] at hb; cases hb;exact⟨_,rfl,PyProof.Rows.boot_bool,hm (by decide +kernel),by decide +kernel,by decide +kernel⟩
 rw[Zg e] at hb; clear e
 by_cases e:y = "str"
 ·subst e; rw[Ze rfl] at hb; cases hb;exact⟨_,rfl,PyProof.Rows.boot_str,hm (by decide +kernel),by decide +kernel,by decide +kernel⟩
 rw[Zg e] at hb; clear e
 by_cases e:y = "list"
 ·subst e; rw[Ze rfl] at hb; cases hb;exact⟨_,rfl,PyProof.Rows.boot_list,hm (by decide +kernel),by decide +kernel,by decide +kernel⟩
 rw[Zg e] at hb; clear e
 by_cases e:y = "tuple"
 ·subst e; rw[Ze rfl] at hb; cases hb;exact⟨_,rfl,PyProof.Rows.boot_tuple,hm (by decide +kernel),by decide +kernel,by decide +kernel⟩
 rw[Zg e] at hb; clear e
 by_cases e:y = "dict"
 ·subst e; rw[Ze rfl] at hb; cases hb;exact⟨_,rfl,PyProof.Rows.boot_dict,hm (by decide +kernel),by decide +kernel,by decide +kernel⟩
 rw[Zg e] at hb; cases hb
theorem FE{o:WR}{name:Str}{env:Env}(hc0:mZ o=true):attributeBase o name env (eval o env)=eval o env:=by
 unfold attributeBase
 cases o with
 | Call f as ks p =>
  cases as with
  | cons _ _=>cases f<;>rfl
  | nil =>
   cases ks with
   | nil=>cases hc0
   | cons _ _=>cases f<;>rfl
 | _=>rfl
theorem FU(F:Fam Γ W CX EW gt cf X xw){name:Str}{me:Me}(hb:oK name=some me){o a:WR}{es:WS}{apos cpos:Pos}{mo:Sg->M D}{m:Sg->M (List D)}
  (ho:PE X o (tM Γ xw mo)) (ha:PA X (a::es) (tMA Γ xw m)) (hc0:mZ o=true) (hlen:(a::es).length<20) (hall:(backTo cpos (starEach (a::es) X.env)).all (λx=>!x.1)=true)
  (hline:(apos.endLine==cpos.line)=true) (hs:starEach (a::es) X.env=(false,eval a X.env)::starEach es X.env) (hplain:(backTo cpos (starEach es X.env)).any (·.1)=false) :
  PE X (.Call (.Attribute o name apos) (a::es) [] cpos) (tM Γ xw λσ=>mo σ>>=λx=>jb x (m σ>>=λds=>meD me x ds)):=by
 have hbase:attributeBase o name X.env (eval o X.env)=eval o X.env:=FE hc0
 have hfew:((backTo cpos (starEach (a::es) X.env)).all (λx=>!x.1)&&(backToKw cpos (keywordEach [] X.env)).all (λx=>x.1.isSome)&&decide ((a::es).length+([]:List Keyword).length+(if([]:List Keyword).isEmpty then 0 else 1)<30))=true:=by
  rw[hall];show(true&&true&&decide ((a::es).length+0+0<30))=true;rw[Zj (show(a::es).length+0+0<30 by omega)];rfl
 obtain⟨id,sl,ty,mt⟩:∃id,Slot "list" name id/\typeOf (.builtin id)=pure (.type "method_descriptor")/\MtR X id (λx xs H Q=>∃ι S dx ds,av Γ ι H S/\Rep Γ ι H dx x/\az Γ ι H ds xs/\Out Γ xw ι H (meD me dx ds S) λd _ ι' H'=>∀v,Rep Γ ι' H' d v->Q v H'):=by
  clear hfew hbase ha ho;unfold oK at hb
  by_cases e:name = "append"
  ·subst e; rw[Ze rfl] at hb; cases hb;exact⟨_,PySem.F.slot_list_append,PySem.F.type_list_append,z_⟩
  rw[Zg e] at hb; clear e
  by_cases e:name = "extend"
  ·subst e; rw[Ze rfl] at hb; cases hb;exact⟨_,PySem.F.slot_list_extend,PySem.F.type_list_extend,Dq⟩
  rw[Zg e] at hb; cases hb
 exact ye F.hK Ql sl ty mt ho ha hbase hfew hline hs hplain
end
end EV

namespace EV
open PySem PySem.Spec PyProof.Rows L2
section
variable(Γ:Gx)(sub:Sub)(cf:Str->List D->M D)
set_option genInjectivity false in
structure ClE(X:Cx)(xw:XW)(e:WR)(e':E):Prop where
 pe:PE X e (tM Γ xw (ev sub cf e'))
 pt:PT X e (tMT Γ xw (evT sub cf e'))
 pw:(∃op vs p,e=.BoolOp op vs p)->PW X e (tMT Γ xw (evT sub cf e'))
end
section
variable{Γ:Gx}{W:XW->Prop}{CX:CXT}{EW:XW->XK}{gt:List (Str×GE)}{cf:Str->List D->M D}{sub:Sub}{X:Cx}{xw:XW}
theorem sS{e:WR}:PT X e (tMT Γ xw λ_=>bad):=λ_ _ _ _ _ _ h=>by
 obtain⟨_,_,_,_,_,ho⟩:=h;exact ho.elim
theorem noBool{e:WR}(h:∀op vs p,e≠.BoolOp op vs p){P:Prop}:(∃op vs p,e=.BoolOp op vs p)->P:=λ⟨op,vs,p,q⟩=>(h op vs p q).elim
theorem bP{e:WR}{e':E}(hK:Γ.K=X.K)(h:PE X e (tM Γ xw (ev sub cf e')))(he:∀whole,isTrue e X.env whole=(do let v <- whole; standAt e.pos; holding [v] (truthy v)))
  (hb:(evT sub cf e'=λσ=>ev sub cf e' σ>>=truth)\/evT sub cf e'=λ_=>bad) (hn:∀op vs p,e≠.BoolOp op vs p):ClE Γ sub cf X xw e e':=by
 refine⟨h,?_,noBool hn⟩;rcases hb with q|q
 ·rw[q]; exact AS hK h he
 ·rw[q]; exact sS
theorem zV{c:TC}{x:Str}{p:Pos}{e':E}(F:Fam Γ W CX EW c.gt cf X xw)(C:Cok c X)(h:lX c x=some e'):ClE Γ sub cf X xw (.Name x p) e':=by
 unfold lX at h
 by_cases h1:cj x=true
 ·rw[Ze h1] at h;obtain⟨d1,d2⟩:=cL h1
  by_cases h2:fD c.sc x=true
  ·rw[Ze h2] at h
   cases q:idx c.N x with
   | none=>rw[q] at h; cases h
   | some i =>
    rw[q] at h; cases h;exact bP F.hK (BF (by rw[C.N]; exact dP q) (by rw[C.sc]; exact r6 h2) d1 d2) (λ_=>rfl) (.inl rfl) (λ_ _ _ z=>nomatch z)
  ·rw[Zg h2] at h
   by_cases h3:glB c x=true
   ·rw[Ze h3] at h
    cases q:c.gt.lookup x with
    | none=>rw[q] at h; cases h
    | some g =>
     rw[q] at h
     cases g with
     | val d =>
      cases h;obtain⟨u,v,hm,r,hv⟩:=F.val x d q;exact bP F.hK (gY (ve (C.gl h3) hm r d1) hv) (λ_=>rfl) (.inl rfl) (λ_ _ _ z=>nomatch z)
     | _=>cases h
   ·rw[Zg h3] at h; cases h
 ·rw[Zg h1] at h; cases h
theorem Bu{k:Const}{j:Nat}{p:Pos}{e':E}(hK:Γ.K=X.K)(h:u6 k=some e'):ClE Γ sub cf X xw (.Constant k j p) e':=by
 cases k<;>first|(cases h; done)|skip
 ·cases h; exact bP hK (gY Jv λ_ _=>.non) (λ_=>rfl) (.inl rfl) (λ_ _ _ z=>nomatch z)
 ·cases h; exact bP hK (gY nG λ_ _=>.bl _) (λ_=>rfl) (.inl rfl) (λ_ _ _ z=>nomatch z)
 ·cases h; exact bP hK (gY vZ λ_ _=>.int _) (λ_=>rfl) (.inl rfl) (λ_ _ _ z=>nomatch z)
 ·cases h; exact bP hK (gY wW λ_ _=>.str _) (λ_=>rfl) (.inl rfl) (λ_ _ _ z=>nomatch z)
theorem AB(hK:Γ.K=X.K){op:Operator}{o:Op2}(h:op2 op=some o):OpR X (binaryOp op) (bg Γ xw (opD o)):=by
 cases op<;>cases h
 ·exact G9 hK
 ·exact yQ
 ·exact xT hK
 ·exact BB
 ·exact Ai
 ·exact Ab
theorem iU(F:Fam Γ W CX EW gt cf X xw){op:CmpOp}{o:Cm}(h:cmO op=some o):OpR X (compareOp op) (bg Γ xw (cmD o)):=by
 cases op<;>cases h
 ·exact s_eq F.hK F.un
 ·exact Ic F.hK F.un
 ·exact BG
 ·exact xy
 ·exact Gj
 ·exact Jm
 ·exact GX F.hK F.un
 ·exact Es F.hK F.un
theorem uL(F:Fam Γ W CX EW gt cf X xw){op:CmpOp}{b:WR}{o:Cm}(h:qz op b=some o):OpR X (compareOp op) (bg Γ xw (cmD o)):=by
 exact iU F h
theorem nK{o:Cm}:∀(x y:D) (S:af) (d:D) (S':af),cmD o x y S=.ok d S'->∃k,d=.bl k:=by
 intro x y S d S' h
 have intc:∀p:Int->Int->Bool,gG p x y S=.ok d S'->∃k,d=.bl k:=λp h=>by
  cases x<;>first|(cases h; done)|skip;cases y<;>first|(cases h; done)|skip;cases h; exact⟨_,rfl⟩
 have inc:∀neg,inM neg x y S=.ok d S'->∃k,d=.bl k:=λneg h=>by
  unfold inM at h;rcases ja y S with⟨ds,e⟩|e
  ·rw[aq e] at h;unfold inA at h
   cases q:inL S x ds with
   | none=>rw[q] at h; cases h
   | some k=>rw[q] at h; cases h; exact⟨_,rfl⟩
  ·rw[bh e] at h; cases h
 cases o with
 | lt=>exact intc _ h
 | le=>exact intc _ h
 | gt=>exact intc _ h
 | ge=>exact intc _ h
 | eq =>
  have h:(eqM x y>>=λb=>pure (.bl b)) S=.ok d S':=h;rw[cI] at h;unfold eqM at h
  cases q:eqD deep S x y with
  | none=>rw[q] at h; cases h
  | some k=>rw[q] at h; cases h; exact⟨_,rfl⟩
 | ne =>
  have h:guard (gZ x y) (eqM x y>>=λb=>pure (.bl (!b))) S=.ok d S':=h
  cases q:gZ x y with
  | false=>rw[q] at h; cases h
  | true =>
   rw[q] at h;have h:(eqM x y>>=λb=>pure (.bl (!b))) S=.ok d S':=h;rw[cI] at h;unfold eqM at h
   cases q:eqD deep S x y with
   | none=>rw[q] at h; cases h
   | some k=>rw[q] at h; cases h; exact⟨_,rfl⟩
 | isin=>exact inc _ h
 | eV=>exact inc _ h
 | tin =>
  cases x<;>first|(cases h; done)|skip;cases y<;>first|(cases h; done)|skip;rename_i a b;have h:(match a.cps.toList with|[c]=>pure (.bl (decide (c∈b.cps.toList)))|_=>bad:M D) S=.ok d S':=h
  cases hc:a.cps.toList with
  | nil=>rw[hc] at h; cases h
  | cons c r =>
   rw[hc] at h
   cases r with
   | nil=>cases h; exact⟨_,rfl⟩
   | cons _ _=>cases h
 | nisB =>
  cases x<;>first|(cases h; done)|skip;cases y<;>first|(cases h; done)|skip;cases h; exact⟨_,rfl⟩
 | din=>exact vW h
 | dnin=>exact vW h
theorem dz{c:TC}{n:Nat}(F:Fam Γ W CX EW c.gt cf X xw)(C:Cok c X)(ih:∀e e',trE n c e=some e'->ClE Γ sub cf X xw e e'):∀{es:WS} {es':E},bM (trE n c) es=some es'->PA X es (tMA Γ xw (evs sub cf es'))
 | [],_,h=>by cases h; exact Ii
 | e::r,_,h=>by
  obtain⟨a,b,h1,h2,rfl⟩:=cy h;exact Hv (ih e a h1).pe (dz F C ih h2) (bX h1 r X.env)
theorem vp{c:TC}{n:Nat}(ih:∀e e',trE n c e=some e'->ClE Γ sub cf X xw e e'){o:Option PySem.Expr}{e':E}(h:trO (trE n c) o=some e'):PO X o (tMO Γ xw λσ=>if e'.bD=true then pure none else ev sub cf e' σ>>=fO):=by
 cases o with
 | none=>cases h; exact zZ
 | some e =>
  have h:(match trE n c e with|some .nl=>none|o=>o)=some e':=h
  cases q:trE n c e with
  | none=>rw[q] at h; cases h
  | some f =>
   rw[q] at h
   have hf:f=e'/\f.bD=false:=by
    cases f<;>first|(cases h; done)|(cases h; exact⟨rfl,rfl⟩)
   obtain⟨rfl,hn⟩:=hf;rw[hn];simp only[Zw,ZK];exact Gi (ih e f q).pe
theorem jq{c:TC}(hK:Γ.K=X.K)(hc:X.calm=true)(C:Cok c X){tg:WR}{t:Tg}(h:ig c tg=some t):PG X tg (tMG Γ t):=by
 have names:∀(es:WS) (is:List Nat),f_ c es=some is->jH X es is:=by
  intro es
  induction es with
  | nil=>intro is h; cases h; exact .nil
  | cons e r ih =>
   intro is h
   cases e with
   | Name x p =>
    unfold f_ at h
    by_cases hl:d9 c x=true
    ·rw[Ze hl] at h
     cases q:idx c.N x with
     | none=>rw[q] at h; cases h
     | some i =>
      rw[q] at h
      cases q2:f_ c r with
      | none=>rw[q2] at h; cases h
      | some js =>
       rw[q2] at h; cases h;exact .cons ⟨x,p,rfl,by rw[C.N]; exact dP q,(C.loc hl).1,(C.loc hl).2⟩ (ih js q2)
    ·rw[Zg hl] at h; cases h
   | _=>cases h
 cases tg with
 | Name x p =>
  have h:(if d9 c x=true then(idx c.N x).map Tg.one else none)=some t:=h
  by_cases hl:d9 c x=true
  ·rw[Ze hl] at h
   cases q:idx c.N x with
   | none=>rw[q] at h; cases h
   | some i =>
    rw[q] at h; cases h;exact yp C.nd (by rw[C.N]; exact dP q) (C.loc hl).1 (C.loc hl).2
  ·rw[Zg hl] at h; cases h
 | Tuple es k p =>
  have h:(f_ c es).map Tg.many=some t:=h
  cases q:f_ c es with
  | none=>rw[q] at h; cases h
  | some is =>
   rw[q] at h; cases h;exact BP hK hc C.nd (names es is q)
 | _=>cases h
theorem Ey{e:WR}(h:nq e=true)(env:Env):∀x,foldedSetIterable e env x=pure x:=by
 intro x;cases e<;>first|rfl|cases h
theorem fY{c:TC}(C:Cok c X){x:Str}(h:cU c x=true):Gl X x/\c.gt.lookup x=none:=by
 unfold cU at h;rw[Zl] at h;exact⟨C.gl h.1,by simpa using h.2⟩
theorem qE{f:PySem.Expr->Option E}:∀{es:WS} {es':E},bM f es=some es'->∀(σ:Sg) (S:af) (ds:WV) (S':af),evs sub cf es' σ S=.ok ds S'->ds.length=es.length
 | [],_,h,σ,S,ds,S',q=>by
  cases h;have q:(Res.ok [] S:Res (List D))=.ok ds S':=q;cases q; rfl
 | e::r,_,h,σ,S,ds,S',q=>by
  obtain⟨a,b,h1,h2,rfl⟩:=cy h;have q:(ev sub cf a σ>>=λx=>evs sub cf b σ>>=λxs=>pure (x::xs)) S=.ok ds S':=q
  cases q1:ev sub cf a σ S with
  | ok d S1 =>
   rw[aq q1] at q
   cases q2:evs sub cf b σ S1 with
   | ok xs S2 =>
    rw[aq q2] at q;cases q;show xs.length+1=r.length+1;rw[qE h2 σ S1 xs _ q2]
   | exc k S2=>rw[cY q2] at q; cases q
   | bad=>rw[bh q2] at q; cases q
  | exc k S2=>rw[cY q1] at q; cases q
  | bad=>rw[bh q1] at q; cases q
theorem yo{α:Type}{m m':M α}(h:∀S,m S=m' S):m=m':=funext h
theorem uB(m:M D)(f:List D->M D):((m>>=λx=>(pure []:M (List D))>>=λxs=>pure (x::xs))>>=f)=(m>>=λx=>f [x]):=by
 refine yo λS=>?_
 rw[cI,cI,cI];cases m S<;>rfl
theorem lU{c:TC}{n:Nat}(F:Fam Γ W CX EW c.gt cf X xw)(C:Cok c X)(ih:∀e e',trE n c e=some e'->ClE Γ sub cf X xw e e'){tg e:WR}{e':E}(h:trI (trE n c) c tg e=some e') :
  PI X tg e (tMI Γ xw (evI sub cf e'))/\∀x,foldedSetIterable e X.env x=pure x:=by
 unfold trI at h
 by_cases hs:nq e=true
 ·rw[Ze hs] at h;refine⟨?_,Ey hs X.env⟩
  have seq:(trE n c e).map E.iSeq=some e'->PI X tg e (tMI Γ xw (evI sub cf e')):=λh=>by
   cases q:trE n c e with
   | none=>rw[q] at h; cases h
   | some a=>rw[q] at h; cases h; exact Ei F.hK (ih e a q).pe
  split at h
  ·rename_i x p args pos
   by_cases hr:nX c x=true
   ·rw[Ze hr] at h;unfold nX at hr;rw[Zl] at hr;have hx:x = "range":=Zk hr.2;subst hx;obtain⟨hg,hn⟩:=fY C hr.1;have hm:X.mg "range" = none:=F.blt _ (by decide +kernel) hn
    by_cases hf:few args=true
    ·rw[Ze hf] at h
     cases q:bM (trE n c) args with
     | none=>rw[q] at h; cases h
     | some es =>
      rw[q] at h; cases h;have ha:=dz F C ih q;have hl:=qE (sub:=sub) (cf:=cf) q
      match args,q,ha,hl,hf with
      | [],_,_,_,hf=>exact absurd hf (by decide)
      | [a],q,ha,hl,_ =>
       obtain⟨a',b',q1,q2,_⟩:=cy q;exact zH hg hm ha (bX q1 [] X.env) hl
      | [a,b],_,_,_,hf=>exact absurd hf (by simp[few])
      | [a,b,d],q,ha,hl,_ =>
       obtain⟨a',r',q1,q2,_⟩:=cy q;obtain⟨b',r2,q3,q4,_⟩:=cy q2;obtain⟨d',r3,q5,q6,_⟩:=cy q4;exact xu hg hm ha (by rw[bX q1,bX q3,bX q5]; rfl) (by rw[bX q3,bX q5]; rfl) hl
      | _::_::_::_::r,_,_,_,hf =>
       simp[few] at hf
    ·rw[Zg hf] at h; cases h
   ·rw[Zg hr] at h
    by_cases he:ou c x=true
    ·rw[Ze he] at h;unfold ou at he;rw[Zl] at he;have hx:x = "enumerate":=Zk he.2;subst hx;obtain⟨hg,hn⟩:=fY C he.1;have hm:X.mg "enumerate" = none:=F.blt _ (by decide +kernel) hn
     cases tg with
     | Tuple es k tp =>
      match args,h with
      | [a],h =>
       have h:(trE n c a).map E.iEnum=some e':=h
       cases q:trE n c a with
       | none=>rw[q] at h; cases h
       | some a'=>rw[q] at h; cases h; exact yG F.hK hg hm boot_enumerate (ih a a' q).pe (bX q [] X.env)
      | [],h=>cases h
      | _::_::_,h=>cases h
     | _=>cases h
    ·rw[Zg he] at h
     by_cases hz:oF c x=true
     ·rw[Ze hz] at h;unfold oF at hz;rw[Zl] at hz;have hx:x = "zip":=Zk hz.2;subst hx;obtain⟨hg,hn⟩:=fY C hz.1;have hm:X.mg "zip" = none:=F.blt _ (by decide +kernel) hn
      by_cases hq:(isTup tg&&pair args)=true
      ·rw[Ze hq] at h;rw[Zl] at hq
       cases q:bM (trE n c) args with
       | none=>rw[q] at h; cases h
       | some es =>
        rw[q] at h; cases h;have ha:=dz F C ih q;have hl:args.length=2:=Zk hq.2
        match args,q,ha,hl with
        | [a,b],q,ha,_ =>
         obtain⟨a',r',q1,q2,_⟩:=cy q
         cases tg with
         | Tuple es k tp=>exact Ez F.hK hg hm ha (bX q1 [b] X.env) (fH q2 X.env pos).1
         | _=>cases hq.1
      ·rw[Zg hq] at h; cases h
     ·rw[Zg hz] at h; exact seq h
  ·exact seq h
 ·rw[Zg hs] at h; cases h
end
end EV

namespace EV
open PySem PySem.Spec PyProof.Rows L2
section
variable{Γ:Gx}{W:XW->Prop}{CX:CXT}{EW:XW->XK}{cf:Str->List D->M D}{sub:Sub}
theorem dG{α β:Type}{o:Option α}{f:α->β}{d:β}(h:o.map f=some d):∃a,o=some a/\d=f a:=by
 cases o with
 | none=>cases h
 | some a=>cases h; exact⟨a,rfl,rfl⟩
theorem tH{t:Tg}{n:Nat}(h:t.qs n=true):∀j,j<n->t.has j=false:=by
 intro j hj
 cases t with
 | one i =>
  have:n<=i:=Zk h;show(i==j)=false;simp; omega
 | many is =>
  show is.contains j=false;have h:(is.all λi=>decide (n<=i))=true:=h;rw[Z7] at h
  cases q:is.contains j with
  | false=>rfl
  | true =>
   have hm:j∈is:=List.contains_iff_mem.mp q;have:=Zk (h j hm);omega
theorem Gq{c:TC}{n:Nat}{X:Cx}{xw:XW}(F:Fam Γ W CX EW c.gt cf X xw)(C:Cok c X)(ih:∀e e',trE n c e=some e'->ClE Γ sub cf X xw e e'){x:Str}{args ra:WS}{b:Bi}{es:E}{p pos:Pos}(hn:c.gt.lookup x=none)(hg:Gl X x)
  (h:lQ c x args=some (b,ra)) (h1:bM (trE n c) ra=some es):PE X (.Call (.Name x p) args [] pos) (tM Γ xw (ev sub cf (.bi b es))):=by
 unfold lQ at h;split at h
 ·rename_i r p1 ra' p2;split at h
  ·rename_i hx;simp only[Zl] at hx;obtain⟨⟨hx1,hx2⟩,hx3⟩:=hx;have hx:x = "sorted":=Zk hx1;subst hx;unfold ua at hx2;rw[Zl] at hx2;have hr:r = "set":=Zk hx2.2;subst hr;obtain⟨hgr,hnr⟩:=fY C hx2.1;cases h
   match ra,h1,hx3 with
   | [a],h1,_ =>
    obtain⟨a',b',q1,q2,q3⟩:=cy h1;cases q2;cases q3
    have key:(λσ=>ev sub cf (.bi .sortedSet (.cs a' .nl)) σ)=λσ=>ev sub cf a' σ>>=λd=>bi1 sub .sortedSet d:=by
     funext σ;exact uB (ev sub cf a' σ) (biD sub .sortedSet)
    show PE X _ (tM Γ xw (λσ=>ev sub cf (.bi .sortedSet (.cs a' .nl)) σ));rw[key];have hu:=F.un;exact EI F.hK F.calm (by omega) hg (F.blt _ (by decide +kernel) hn) boot_sorted hgr (F.blt _ (by decide +kernel) hnr) boot_set (ih a a' q1).pe (by decide +kernel) (by decide +kernel) (by decide +kernel) (by decide +kernel) (bX q1 [] X.env)
  ·cases h
 ·cases h
theorem F4{b:WR}(h:rL b=true):∃j p,b=.Constant .none j p:=by
 cases b with
 | Constant k j p=>cases k<;>first|exact⟨_,_,rfl⟩|cases h
 | _=>cases h
theorem t9{b:WR}(h:jv b=true):∃x j p,b=.Constant (.str x) j p:=by
 cases b with
 | Constant k j p=>cases k<;>first|exact⟨_,_,_,rfl⟩|cases h
 | _=>cases h
theorem DE{op:CmpOp}(h:k8 op=some true):op=.Is:=by cases op<;>first|rfl|cases h
theorem Fi{op:CmpOp}(h:k8 op=some false):op=.IsNot:=by cases op<;>first|rfl|cases h
theorem fL:∀(n:Nat) (c:TC) (e:WR) (e':E),trE n c e=some e'->∀(X:Cx) (xw:XW),Fam Γ W CX EW c.gt cf X xw->Cok c X->ClE Γ sub cf X xw e e':=by
 intro n
 induction n with
 | zero=>intro c e e' h; cases h
 | succ n ihn =>
  intro c e e' h X xw F C;have ih:∀e e',trE n c e=some e'->ClE Γ sub cf X xw e e':=λe e' h=>ihn c e e' h X xw F C
  cases e with
  | Name x p=>exact zV F C h
  | Constant k j p=>exact Bu F.hK h
  | BinOp a op b p =>
   simp only[trE] at h;split at h
   rotate_left
   ·cases h
   rename_i o a' b' h1 h2 h3;cases h;exact bP F.hK (Bm (AB F.hK h1) (ih a a' h2).pe (ih b b' h3).pe) (λ_=>rfl) (.inr rfl) (λ_ _ _ z=>nomatch z)
  | UnaryOp op a p =>
   cases op with
   | Not =>
    obtain⟨a',h1,rfl⟩:∃a',trE n c a=some a'/\e'=.not a':=by
     cases q:trE n c a with
     | none=>simp only[trE,q] at h; cases h
     | some a'=>simp only[trE,q] at h; cases h; exact⟨a',rfl,rfl⟩
    exact⟨E3 (ih a a' h1).pe,zd (ih a a' h1).pt,λ⟨_,_,_,z⟩=>by cases z⟩
   | USub =>
    obtain⟨a',h1,rfl⟩:∃a',trE n c a=some a'/\e'=.neg a':=by
     cases q:trE n c a with
     | none=>simp only[trE,q] at h; cases h
     | some a'=>simp only[trE,q] at h; cases h; exact⟨a',rfl,rfl⟩
    exact bP F.hK (Ex (ih a a' h1).pe) (λ_=>rfl) (.inr rfl) (λ_ _ _ z=>nomatch z)
   | _ =>
    exfalso
    cases q:trE n c a with
    | none=>simp only[trE,q] at h; cases h
    | some a'=>simp only[trE,q] at h; cases h
  | BoolOp op vs p =>
   match vs,h with
   | [],h=>cases h
   | [a],h =>
    have h:trE n c a=some e':=h;have ca:=ih a e' h
    cases op with
    | And=>exact⟨λpins s σ H Q I hw=>k9 ca.pe pins s σ H Q I hw,(uP ca.pt).pt,λ_=>uP ca.pt⟩
    | Or=>exact⟨λpins s σ H Q I hw=>k9 ca.pe pins s σ H Q I hw,(p_ ca.pt).pt,λ_=>p_ ca.pt⟩
   | a::b::r,h =>
    cases op with
    | And =>
     obtain⟨a',b',h1,h2,rfl⟩:∃a' b',trE n c a=some a'/\trE n c (.BoolOp .And (b::r) p)=some b'/\e'=.and a' b':=by
      cases q:trE n c a with
      | none=>simp only[trE,q] at h; cases h
      | some a' =>
       cases q2:trE n c (.BoolOp .And (b::r) p) with
       | none=>simp only[trE,q,q2] at h; cases h
       | some b'=>simp only[trE,q,q2] at h; cases h; exact⟨a',b',rfl,rfl,rfl⟩
     have ca:=ih _ _ h1;have cb:=ih _ _ h2;exact⟨Iu ca.pe cb.pe,(ug ca.pt (cb.pw ⟨_,_,_,rfl⟩)).pt,λ_=>ug ca.pt (cb.pw ⟨_,_,_,rfl⟩)⟩
    | Or =>
     obtain⟨a',b',h1,h2,rfl⟩:∃a' b',trE n c a=some a'/\trE n c (.BoolOp .Or (b::r) p)=some b'/\e'=.or a' b':=by
      cases q:trE n c a with
      | none=>simp only[trE,q] at h; cases h
      | some a' =>
       cases q2:trE n c (.BoolOp .Or (b::r) p) with
       | none=>simp only[trE,q,q2] at h; cases h
       | some b'=>simp only[trE,q,q2] at h; cases h; exact⟨a',b',rfl,rfl,rfl⟩
     have ca:=ih _ _ h1;have cb:=ih _ _ h2;exact⟨zX ca.pe cb.pe,(u_ ca.pt (cb.pw ⟨_,_,_,rfl⟩)).pt,λ_=>u_ ca.pt (cb.pw ⟨_,_,_,rfl⟩)⟩
  | IfExp t a b p =>
   simp only[trE] at h;split at h
   rotate_left
   ·cases h
   rename_i t' a' b' h1 h2 h3;cases h;refine⟨x_ (ih t t' h1).pt (ih a a' h2).pe (ih b b' h3).pe,sS,λ⟨_,_,_,z⟩=>by cases z⟩
  | Tuple es k p =>
   obtain⟨es',h1,rfl⟩:=dG (f:=E.tup) h;exact bP F.hK (yZ (dz F C ih h1)) (λ_=>rfl) (.inr rfl) (λ_ _ _ z=>nomatch z)
  | Dict ks vs p =>
   have h:(none:Option E)=some _:=h;cases h
  | List es p =>
   obtain⟨es',h1,rfl⟩:=dG (f:=E.lst) h;exact bP F.hK (BN (dz F C ih h1)) (λ_=>rfl) (.inr rfl) (λ_ _ _ z=>nomatch z)
  | Compare a ops cs p =>
   simp only[trE] at h;split at h
   ·rename_i op b;split at h
    ·rename_i k hk;split at h
     ·rename_i hb;obtain⟨j,p',rfl⟩:=F4 hb;obtain⟨a',h1,rfl⟩:=dG (f:=λx=>bif k then E.isN x else E.notN x) h
      cases k with
      | true =>
       cases DE hk;exact⟨zb (ih a a' h1).pe,Fj (ih a a' h1).pe,λ⟨_,_,_,z⟩=>by cases z⟩
      | false =>
       cases Fi hk;exact⟨IK (ih a a' h1).pe,iN (ih a a' h1).pe,λ⟨_,_,_,z⟩=>by cases z⟩
     ·cases h
    ·split at h
     ·rename_i o a' b' h1 h2 h3 h4;cases h;exact⟨G6 (uL F h1) (ih a a' h2).pe (ih b b' h3).pe h4,AN nK (uL F h1) (ih a a' h2).pe (ih b b' h3).pe h4,λ⟨_,_,_,z⟩=>by cases z⟩
     ·cases h
   ·rename_i op op' b d;split at h
    ·rename_i o o' a' b' d' h1 h2 h3 h4 h5 h6;cases h;exact⟨Gb (iU F h1) (iU F h2) (ih a a' h3).pe (ih b b' h4).pe (ih d d' h5).pe h6,G0 nK nK (iU F h1) (iU F h2) (ih a a' h3).pe (ih b b' h4).pe (ih d d' h5).pe h6,λ⟨_,_,_,z⟩=>by cases z⟩
    ·cases h
   ·cases h
  | Subscript a i p =>
   simp only[trE] at h;split at h
   ·rename_i lo hi p2;split at h
    ·rename_i a' l u h1 h2 h3;cases h;exact bP F.hK (GY F.hK (ih a a' h1).pe (vp ih h2) (vp ih h3)) (λ_=>rfl) (.inr rfl) (λ_ _ _ z=>nomatch z)
    ·cases h
   ·cases h
   ·cases h
   ·rename_i hs1 hs2 hs3;split at h
    ·rename_i a' i' h1 h2
     have hp:iS i:=by
      intro o j
      cases i with
      | Slice lo hi st p2 =>
       cases st with
       | none=>exact(hs1 lo hi p2 rfl).elim
       | some x=>exact(hs2 lo hi x p2 rfl).elim
      | _=>rfl
     cases h;exact bP F.hK (Ft F.hK (ih a a' h1).pe (ih i i' h2).pe hp) (λ_=>rfl) (.inl rfl) (λ_ _ _ z=>nomatch z)
    ·cases h
  | Call f args kws cpos =>
   simp only[trE] at h;split at h
   ·rename_i x p
    by_cases hx:(cj x&&glB c x)=true
    ·rw[Ze hx] at h;rw[Zl] at hx;have hd:=(cL hx.1).1;have hg:=C.gl hx.2;split at h
     ·rename_i hi;obtain⟨es',h1,rfl⟩:=dG (f:=E.call x) h
      cases args with
      | nil =>
       cases h1;refine bP F.hK ?_ (λ_=>rfl) (.inl rfl) (λ_ _ _ z=>nomatch z);exact yO F hi hg hd
      | cons a r =>
       obtain⟨a',b',q1,q2,_⟩:=cy h1;exact bP F.hK (zk F hi hg hd (dz F C ih h1) (bX q1 r X.env) (fH q2 X.env cpos).1) (λ_=>rfl) (.inl rfl) (λ_ _ _ z=>nomatch z)
     ·cases h
     ·rename_i hn
      by_cases hi:x = "isinstance"
      ·rw[Ze hi] at h;subst hi;split at h
       ·rename_i a y p2
        by_cases hy:(cj y&&cU c y)=true
        ·rw[Ze hy] at h;rw[Zl] at hy;split at h
         ·rename_i t a' h1 h2;cases h;obtain⟨hg2,hn2⟩:=fY C hy.2;obtain⟨T,t1,t2,t3,t4,t5⟩:=CF F h1 hn2;have hm:X.mg "isinstance" = none:=F.blt _ (by decide +kernel) hn
          have key:(λσ=>ev sub cf (.bi (.inst t) (.cs a' .nl)) σ)=λσ=>ev sub cf a' σ>>=λd=>iz sub t d:=by
           funext σ;exact uB (ev sub cf a' σ) (biD sub (.inst t))
          refine bP F.hK ?_ (λ_=>rfl) (.inl rfl) (λ_ _ _ z=>nomatch z);show PE X _ (tM Γ xw (λσ=>ev sub cf (.bi (.inst t) (.cs a' .nl)) σ));rw[key];exact zL F.hK t1 hg hm boot_isinstance hg2 t3 t2 (ih a a' h2).pe (by decide +kernel) (by decide +kernel) t4 t5 (bX h2 _ X.env)
         ·cases h
        ·rw[Zg hy] at h; cases h
       ·cases h
      ·rw[Zg hi] at h;split at h
       ·rename_i b ra hr;obtain⟨es,h1,rfl⟩:=dG (f:=E.bi b) h;exact bP F.hK (Gq F C ih hn hg hr h1) (λ_=>rfl) (.inl rfl) (λ_ _ _ z=>nomatch z)
       ·split at h
        ·cases h
        ·rename_i a r hrn;split at h
         ·rename_i b es h1 h2;cases h;obtain⟨a',b',q1,q2,_⟩:=cy h2;exact bP F.hK (zQ F h1 hn hg (dz F C ih h2) (bX q1 r X.env) (fH q2 X.env cpos).1) (λ_=>rfl) (.inl rfl) (λ_ _ _ z=>nomatch z)
         ·cases h
    ·rw[Zg hx] at h; cases h
   ·rename_i o name apos;split at h
    ·cases h
    ·rename_i a r;split at h
     ·rename_i hx;simp only[Zl] at hx;obtain⟨⟨x1,x2⟩,x3⟩:=hx;split at h
      ·rename_i m o' es h1 h2 h3;cases h;obtain⟨a',b',q1,q2,_⟩:=cy h3;exact bP F.hK (FU F h1 (ih o o' h2).pe (dz F C ih h3) x1 (Zk x3) (fH h3 X.env cpos).2 x2 (bX q1 r X.env) (fH q2 X.env cpos).1) (λ_=>rfl) (.inr rfl) (λ_ _ _ z=>nomatch z)
      ·cases h
     ·cases h
   ·rename_i fs lp i sp;split at h
    ·rename_i hx;rw[Zl] at hx;split at h
     ·rename_i xs i' a r h1 h2;obtain⟨es,h3,rfl⟩:=dG (f:=E.callL xs i') h;obtain⟨a',b',q1,q2,_⟩:=cy h3
      have hp:iS i:=by
       intro o j;cases i<;>first|rfl|cases hx.1
      exact bP F.hK (D_ F C h1 (Zk hx.2) (ih i i' h2).pe hp (dz F C ih h3) (bX q1 r X.env) (fH q2 X.env cpos).1) (λ_=>rfl) (.inr rfl) (λ_ _ _ z=>nomatch z)
     ·cases h
    ·cases h
   ·cases h
  | ListComp elt gens scope p =>
   simp only[trE] at h;split at h
   ·rename_i tg iter ifs asy;split at h
    ·rename_i hx;rw[Zl] at hx;have ha:asy=0:=Zk hx.1;subst ha;obtain⟨CO,CK⟩:=rZ C hx.2;split at h
     ·rename_i it t el tt h1 h2 h3 h4;split at h
      ·rename_i hge;cases h;obtain⟨PI1,hs⟩:=lU F C ih h1
       have ihc:∀cl fp s3 H3 e e',trE n (inComp c scope) e=some e'->ClE Γ sub cf (aN X scope cl (inComp c scope).N fp s3 H3) XF e e' :=
        λcl fp s3 H3 e e' h=>ihn (inComp c scope) e e' h _ XF (F.comp scope cl _ fp s3 H3) (CK cl fp s3 H3)
       have htt:∀cl fp s3 H3,PF (aN X scope cl (inComp c scope).N fp s3 H3) ifs (tMT Γ XF λσ=>if tt.bD=true then pure true else evT sub cf tt σ):=λcl fp s3 H3=>by
        match ifs,h4 with
        | [],h4 =>
         cases h4
         exact λpins s σ H Q I h=>uM pins s σ H Q I (by
          obtain⟨σd,ι,S,he,hs,ho⟩:=h;exact ho.here hs)
        | [t0],h4 =>
         have h4:(match trE n (inComp c scope) t0 with|some .nl=>none|o=>o)=some tt:=h4
         cases q:trE n (inComp c scope) t0 with
         | none=>rw[q] at h4; cases h4
         | some f =>
          rw[q] at h4
          have hf:f=tt/\f.bD=false:=by
           cases f<;>first|(cases h4; done)|(cases h4; exact⟨rfl,rfl⟩)
          obtain⟨rfl,hn⟩:=hf;rw[hn];simp only[Zw,ZK];exact uN (ihc cl fp s3 H3 t0 f q).pt
        | _::_::_,h4=>cases h4
       refine bP F.hK ?_ (λ_=>rfl) (.inr rfl) (λ_ _ _ z=>nomatch z);exact zz CO F.calm (by rw[C.N]; exact tH hge) PI1 (λcl fp s3 H3=>jq (X:=aN X scope cl (inComp c scope).N fp s3 H3) F.hK F.calm (CK cl fp s3 H3) h2) htt (λcl fp s3 H3=>(ihc cl fp s3 H3 elt el h3).pe) hs
      ·cases h
     ·cases h
    ·cases h
   ·cases h
  | _=>cases h
end
end EV

namespace EV
open PySem PySem.Spec PyProof.Rows L2
theorem Paired.put{α β:Type}{R:α->β->Prop}{a:α}{b:β}(r:R a b):∀{as:List α} {bs:List β} (j:Nat),Paired R as bs->Paired R (as.set j a) (bs.set j b)
 | _,_,_,.nil=>.nil
 | _,_,0,.cons _ t=>.cons r t
 | _,_,j+1,.cons h t=>.cons h (Paired.put r j t)
section
variable{X:Cx}{Γ:Gx}{xw:XW}
noncomputable def pZ(Γ:Gx)(xw:XW):V->V->V->Hp->(Hp->Prop)->Prop:=λo i v H Q=>∃ι S da di dv,av Γ ι H S/\Rep Γ ι H da o/\Rep Γ ι H di i/\Rep Γ ι H dv v/\Out Γ xw ι H (gm da di dv S) λ_ _ _ H'=>Q H'
theorem AZ:kY X (pZ Γ xw):=by
 intro pins s σ H o i v ov iv u Q I ro ri rv h;obtain⟨ι,S,da,di,dv,hS,r1,r2,r3,ho⟩:=h
 cases da with
 | loc l =>
  cases di with
  | int k =>
   obtain⟨es,e,ho⟩:=Out.aZ ho;obtain⟨a,xs,ha,hx,p⟩:=hS.lst e;cases r2
   cases r1 with
   | loc q =>
    rw[ha] at q; cases q
    cases q:EV.ixN es.length k with
    | none=>rw[q] at ho; exact ho.elim
    | some j =>
     rw[q] at ho;refine set_list pins s σ H _ _ v _ _ u Q I ro ri rv ⟨a,xs,k,j,rfl,rfl,hx,by rw[<- p.length]; exact q,?_⟩;exact ho ι _ (Ext.write hx (ZB ha)) (hS.write e ha hx (Paired.put r3 j p))
  | _=>exact ho.elim
 | _=>exact ho.elim
theorem yT{o i e:Expr}{mo mi me:Sg->M D}{pos p:Pos}(he:PE X e (tM Γ xw me))(h1:PE X o (tM Γ xw mo))(h2:PE X i (tM Γ xw mi))(hi:∀a b c q,i≠.Slice a b c q)
  (hs:swapsWithSole [.Subscript o i p] e pos.line X.env=pure false):PS X (.Assign [.Subscript o i p] e pos) (tMS Γ xw λσ=>me σ>>=λd=>mo σ>>=λa=>mi σ>>=λk=>gm a k d>>=λ_=>pure (.nx σ)):=by
 have pg:PG X (.Subscript o i p) (tE (tM Γ xw mo) (tM Γ xw mi) (pZ Γ xw)):=C2 h1 h2 AZ (by
  intro v;cases i<;>first|rfl|exact absurd rfl (hi _ _ _ _))
 refine PS.imp (qH he pg hs rfl rfl) λD σ H h=>?_
 obtain⟨σd,ι,S,hE,hs,ho⟩:=h;refine⟨σd,ι,S,hE,hs,ho.bind.mono λd S1 ι1 H1 _ _ ⟨s1,e1,o1⟩ v rv=>?_⟩;refine⟨σd,ι1,S1,hE.ext e1,s1,o1.bind.mono λa S2 ι2 H2 _ _ ⟨s2,e2,o2⟩ ov ro=>?_⟩;refine⟨σd,ι2,S2,(hE.ext e1).ext e2,s2,o2.bind.mono λk S3 ι3 H3 _ _ ⟨s3,e3,o3⟩ iv ri=>?_⟩;exact⟨ι3,S3,a,k,d,s3,ro.ext e3,ri,(rv.ext e2).ext e3,o3.bind.mono λ_ S4 ι4 H4 _ _ ⟨s4,e4,o4⟩=>o4.here s4 _ ((((hE.ext e1).ext e2).ext e3).ext e4)⟩
end
end EV

namespace L2
open PySem PySem.Spec PySem.Calls PyProof.Rows
open PySem.W (Looks)
section
variable{X:Cx}
theorem Vals.bools:∀{bs:List Bool} {us:WH},Vals (bs.map V.bl) us->us=bs.map Value.bool
 | [],_,h=>by cases h; rfl
 | b::r,_,h=>by
  cases h with
  | cons h1 h2=>rw[show _=Value.bool b from h1,Vals.bools h2]; rfl
noncomputable def zg:V->List V->Hp->VK->Prop:=λx vs H Q=>∃(l:Addr) (bs:List Bool),x=.ref l/\vs=[.bl true]/\H l=some (.lst (bs.map .bl))/\Q (.int (bs.count true:Nat)) H
theorem Fc:MtM X "list.count" zg:=by
 intro pins s σ H x vs v us Q I rx rv h;obtain⟨l,bs,rfl,rfl,hH,q⟩:=h;cases rx;obtain⟨u,rfl,ru⟩:=rv.one;cases(show u=Value.bool true from ru);obtain⟨z,its,n,r,hl,e⟩:=I.e_ hH;have hb:=Vals.bools r;subst hb;refine Qd F.slot_list_count ⟨_,e,rfl⟩ F.entry_list_count (F.args_list_count_2 _ _) (PySem.SeqAt.list_countAt l _ n _ _ (.bool true) (λy=>y==.bool true)) ⟨e,λy hy=>?_,?_⟩
 ·obtain⟨b,_,rfl⟩:=ZP.mp (show y∈bs.map Value.bool by simpa using hy);have:(Value.bool b==Value.bool true)=(b==true):=by cases b<;>rfl
  rw[this];exact PySem.SeqAt.EqAt.bool_bool b true
 ·refine⟨.int _,H,I.tok _,⟨_,rfl⟩,?_⟩
  have:(bs.map Value.bool).toArray.toList.countP (λy=>y==.bool true)=bs.count true:=by
   rw[List.count,List.countP_map];refine List.countP_congr λb _=>?_
   cases b<;>decide
  rw[this];exact q
noncomputable def FZ:V->List V->Hp->VK->Prop:=λx vs H Q=>∃(l:Addr) (bs:List Bool) (k:Nat),x=.ref l/\vs=[.bl true]/\H l=some (.lst (bs.map .bl))/\bs[k]?=some true/\(∀m,m<k->bs[m]?=some false)/\k<1000/\Q (.int (k:Nat)) H
theorem zf:MtM X "list.index" FZ:=by
 intro pins s σ H x vs v us Q I rx rv h;obtain⟨l,bs,k,rfl,rfl,hH,h1,h2,h3,q⟩:=h;cases rx;obtain⟨u,rfl,ru⟩:=rv.one;cases(show u=Value.bool true from ru);obtain⟨z,its,n,r,hl,e⟩:=I.e_ hH;have hb:=Vals.bools r;subst hb
 have hk:k<(bs.map Value.bool).toArray.size:=by
  have:=(Zf.mp h1).1;simpa using this
 have g:∀{m:Nat} (hm:m<(bs.map Value.bool).toArray.size) {b:Bool},bs[m]?=some b->(bs.map Value.bool).toArray[m]=.bool b:=λ{m} hm {b} e=>by
  obtain⟨e1,e2⟩:=Zf.mp e;simp[e2]
 refine Qd F.slot_list_index ⟨_,e,rfl⟩ F.entry_list_index (F.args_list_index_2 _ _) (PySem.SeqAt.list_indexAt l _ n _ _ (.bool true) (λy=>y==.bool true) k hk (by omega) (by rw[g hk h1]; rfl) (λm hm hlt=>by rw[g hm (h2 m hlt)]; rfl)) ⟨e,λy hy=>?_,?_⟩
 ·obtain⟨b,_,rfl⟩:=ZP.mp (show y∈bs.map Value.bool by simpa using hy);have:(Value.bool b==Value.bool true)=(b==true):=by cases b<;>rfl
  rw[this];exact PySem.SeqAt.EqAt.bool_bool b true
 ·exact⟨.int _,H,I.tok _,⟨_,rfl⟩,q⟩
end
theorem Bc{K:WG}{M:Model}{A:Around}{E:WC}{Q:Bool->Shared->Prop}{h:Heap}{g:Array GenState}{d:Drawn}{t:Nat}{os:OsState}{e L C N:Addr}{oe:Obj}{nm q bs bm hdct sn sub ab col dd k0 k1 k2 k3 k5}{newId:String}
  (X:K.In h) (hL:h.get? L=some (excClassObj nm q L N bs bm hdct sn sub ab col dd k0 k1 k2 k3 k5 newId)) (he:h.get? e=some oe) (hcls:oe.cls=.ref C) (hbase:bm.contains (.type "BaseException")=true)
  (hk:PySem.W.kitOne K (.ref C) (.ref L)=some true) (hq:Q true ⟨h,g,d,t,os⟩):wpAny M A (excMatches (.ref e) (.ref L)) Q E ⟨h,g,d,t,os⟩:=by
 unfold PySem.W.kitOne at hk
 by_cases z:(Value.ref C==Value.ref L)=true
 ·have:C=L:=Value.ref.inj (QB.mp z);subst this;exact wpAny_excMatches_sub_self hL he hcls hbase hq
 ·rw[Zg z] at hk;obtain⟨_,_,LS⟩:=PySem.W.kit_cls (M:=M) X hk;have hcB:(Value.ref L::bm).contains (.type "BaseException")=true:=by rw[List.contains_cons,hbase,Bool.or_true]
  have f:=tc_notTuple;unfold excMatches
  repeat (first|(with_reducible refine wpAny_loadPart_at he ?_; rw[hcls])|with_reducible refine wpAny_loadPart_at hL ?_|(with_reducible refine wpAny_isSubtype_exc hL ?_; rw[hcB])|with_reducible refine LS.at ?_|wp_step)
  exact hq
section
variable{X:Cx}{i:Nat}{C ea:Addr}{oe:Obj}
noncomputable def Cx.inX(X:Cx)(ea:Addr)(oe:Obj):Cx:={ X with A:=X.A.mark (some (.ref ea)),calm:=false,xe:=λ_ _=>False,pn:=(ea,oe)::X.pn }
theorem Cx.Ok.inX(ok:X.Ok):(X.inX ea oe).Ok:=⟨ok.mod,ok.kind,ok.glob,ok.blt,ok.above,ok.inj,ok.has,ok.cab,(λz=>nomatch z),ok.frames,ok.stk,ok.exf,ok.bs,ok.bsz,ok.noex,ok.exfs,ok.cP,ok.frf⟩
theorem Inv.inX{pins:WD}{σ:St}{H:Hp}{s:WI}(I:Inv X pins σ H s)(h:s.heap.get? ea=some oe/\H ea=none/\ea≠X.env.locals/\ea∉X.fs/\∀v,oe.data≠.cell v):Inv (X.inX ea oe) pins σ H s :=
 ⟨I.ok.inX,I.os,I.bare,I.base,I.loc,I.cell,I.free,I.freeC,λp hp=>by
  rcases Zm.mp hp with rfl|hp
  ·exact h
  ·exact I.pin p hp,I.hok,I.len⟩
theorem Inv.AR{pins:WD}{σ:St}{H:Hp}{s:WI}(ok:X.Ok)(I:Inv (X.inX ea oe) pins σ H s):Inv X pins σ H s :=
 ⟨ok,I.os,I.bare,I.base,I.loc,I.cell,I.free,I.freeC,λp hp=>I.pin p (Zr _ hp),I.hok,I.len⟩
noncomputable def tI(i:Nat)(ea:Addr)(k:Bool):TE:=λσ H Q=>σ[i]?=some (some (.ref ea))/\Q (.bl k) H
theorem qW{e:Expr}{k:Bool}(hc:oe.cls=.ref C)(hd:∃vs,oe.data=.fields vs)(h:PV (X.inX ea oe) i C e (.bl k)):PE (X.inX ea oe) e (tI i ea k):=by
 intro pins s σ H Q I q;obtain⟨vs,hd⟩:=hd;have hp:=(I.pin (ea,oe) (Q5 _ Zp)).1;exact h _ _ pins σ H s ea _ I q.1 ⟨oe,hp,hc,vs,hd⟩ λtk u r=>⟨.bl k,H,I.tok tk,r,q.2⟩
noncomputable def tIs(i:Nat)(ea:Addr)(ks:List Bool):TA:=λσ H Q=>σ[i]?=some (some (.ref ea))/\Q (ks.map .bl) H
set_option genInjectivity false in
inductive fE(X:Cx)(i:Nat)(ea:Addr):List Expr->List Bool->Prop
 | nil:fE X i ea [] []
 | cons {e:Expr} {es:WS} {k:Bool} {ks:List Bool}:PE X e (tI i ea k)->starEach (e::es) X.env=(false,eval e X.env)::starEach es X.env->fE X i ea es ks->fE X i ea (e::es) (k::ks)
theorem fE.pa{es:WS}{ks:List Bool}(h:fE X i ea es ks):PA X es (tIs i ea ks):=by
 induction h with
 | nil=>exact λp pins s σ H Q I q=>d_ p pins s σ H Q I q.2
 | cons h1 h2 _ ih=>exact λp pins s σ H Q I q=>dJ h1 ih h2 p pins s σ H Q I ⟨q.1,q.1,q.2⟩
theorem xO{io ik:Nat}{o kd:Str}{l1 l2:WS}{ks1 ks2:List Bool}{ev:Expr}{b1 b2 j1:Nat}{p1 p2 p3 p4 p5 p6 p7 p8 p9 p10 p11 p12 p13 p14 p15 p16 p17 p18 p19 p20 p21 p22:Pos}
  (hN:X.N.Nodup) (ho:X.N[io]?=some o) (hlo:Loc X.env.scope o) (hfo:X.env.scope.names.lookup o=some .local) (hk:X.N[ik]?=some kd) (hvk:Vis X.env.scope kd) (hio:io≠i) (hik:ik≠io)
  (do1:(o==("__debug__" : Str))=false) (do2:(o==("__classdict__" : Str))=false) (dk1:(kd==("__debug__" : Str))=false) (dk2:(kd==("__classdict__" : Str))=false)
  (ha1:fE X i ea l1 ks1) (ha2:fE X i ea l2 ks2) (hev:PE X ev (tI i ea true))
  (hl1:(p7.endLine==p8.line)=true) (hl2:(p12.endLine==p13.line)=true) (hl3:(p16.endLine==p17.line)=true) :
  PSs X [.Assign [.Name o p1] (.List l1 p2) p3,.Expr (.Call (.Attribute (.Name o p6) "extend" p7) [.List l2 p5] [] p8) p9,
   .Return (some (.BoolOp .And [ev,.Compare (.Call (.Attribute (.Name o p11) "count" p12) [.Constant (.bool true) b1 p4] [] p13) [.Eq] [.Constant (.int 1) j1 p14] p10,.Compare (.Call (.Attribute (.Name o p15) "index" p16) [.Constant (.bool true) b2 p20] [] p17) [.Eq] [.Name kd p18] p21] p19)) p22]
   (λD σ H=>σ[i]?=some (some (.ref ea))/\(ks1++ks2).length<1000/\(ks1++ks2).count true=1/\∃(k:Nat) (n:Int),(ks1++ks2)[k]?=some true/\(∀m,m<k->(ks1++ks2)[m]?=some false)/\σ[ik]?=some (some (.int n)) /\
    ∀H',(∀x,H x≠none->H' x=H x)->D.rt (.bl (decide ((k:Int)=n))) H'):=by
 have vo:=iB (X:=X) (pos:=p6) ho (hlo.elim .inl λz=>.inr (.inl z)) do1 do2;have s1:=B6 (X:=X) (pos:=p3) (pos':=p1) hN ho hlo (jI (pos:=p2) ha1.pa) (hf:=.inr hfo);have s2:=qo (X:=X) (pos:=p9) (jg (apos:=p7) (cpos:=p8) Ql PySem.F.slot_list_extend PySem.F.type_list_extend rj vo (dJ (jI (pos:=p5) ha2.pa) d_) (hline:=hl1));have c1:=nP (X:=X) (pos:=p10) tV (jg (apos:=p12) (cpos:=p13) Ql PySem.F.slot_list_count PySem.F.type_list_count Fc (iB (X:=X) (pos:=p11) ho (hlo.elim .inl λz=>.inr (.inl z)) do1 do2) (dJ (nG (X:=X) (b:=true) (j:=b1) (pos:=p4)) d_) (hline:=hl2)) (vZ (i:=1) (j:=j1) (pos:=p14)) rfl;have c2:=nP (X:=X) (pos:=p21) tV (jg (apos:=p16) (cpos:=p17) Ql PySem.F.slot_list_index PySem.F.type_list_index zf (iB (X:=X) (pos:=p15) ho (hlo.elim .inl λz=>.inr (.inl z)) do1 do2) (dJ (nG (X:=X) (b:=true) (j:=b2) (pos:=p20)) d_) (hline:=hl3)) (iB (X:=X) (pos:=p18) hk hvk dk1 dk2) rfl;have s3:=pX (X:=X) (pos:=p22) (oq hev (oq c1 (k9 (pos:=p19) c2)));intro pins s σ H D I ⟨q1,q2,q3,k,n,q4,q5,q6,q7⟩;have q0:io<σ.length:=by rw[I.len]; exact(Zf.mp ho).1
 refine oJ s1 (oJ s2 (rf s3)) pins s σ H D I ?_;rw[ZG] at q2;have a1:∀p:Addr,(σ.set io (some (.ref p)))[io]?=some (some (.ref p)):=λp=>Xi q0
 have a2:∀p:Addr,(σ.set io (some (.ref p)))[i]?=some (some (.ref ea)):=λp=>by rw[ZR hio]; exact q1
 have a3:∀p:Addr,(σ.set io (some (.ref p)))[ik]?=some (some (.int n)):=λp=>by rw[ZR (Ne.symm hik)]; exact q6
 have hk1:k<1000:=by have:=(Zf.mp q4).1; rw[ZG] at this; omega
 have us:∀(H:Hp) (a:Addr) (o:HO),upd H a o a=some o:=λ_ _ _=>Ze rfl
 have ty:∀{H:Hp} {p:Addr} {xs:WT},H p=some (.lst xs)->tyV X.K "list" (.ref p) H:=λh=>.inl ⟨rfl,_,.inl (.inl h)⟩
 refine⟨q1,by rw[Zi,XA]; omega,λp hp=>⟨.ref p,a1 p,ty (us _ _ _),a2 p,by rw[Zi,XA]; omega,λr hr=>?_⟩⟩;have hne:r≠p:=λz=>by rw[z,us] at hr; cases hr
 dsimp only[m9];refine⟨p,r,ks1.map .bl,ks2.map .bl,rfl,rfl,by rw[aF (Ne.symm hne),us],us ..,by rw[Zi,Zi,XA]; omega,?_⟩;rw[<- Wf];generalize hH3:upd (upd (upd H p (.lst (ks1.map .bl))) r (.lst (ks2.map .bl))) p (.lst ((ks1++ks2).map .bl))=H3;have h3:H3 p=some (.lst ((ks1++ks2).map .bl)):=by rw[<- hH3]; exact us ..
 refine⟨a2 p,true,rfl,?_⟩;rw[Ze rfl];refine⟨.ref p,a1 p,ty h3,⟨p,ks1++ks2,rfl,rfl,h3,⟨rfl,true,by rw[q3]; rfl,?_⟩⟩⟩;rw[Ze rfl];refine⟨.ref p,a1 p,ty h3,⟨p,ks1++ks2,k,rfl,rfl,h3,q4,q5,hk1,.int n,a3 p,⟨rfl,?_⟩⟩⟩;rw[show decide (V.int ((k:Nat):Int)=V.int n)=decide ((k:Int)=n) by rw[iL]; rw[X6]; simp];refine q7 _ λx hx=>?_
 rw[<- hH3];have xp:x≠p:=λz=>hx (z▸hp)
 have xr:x≠r:=λz=>by rw[z] at hx xp; rw[aF xp] at hr; exact hx hr
 rw[aF xp,aF xr,aF xp]
theorem Dk{L:Addr}{c n:Str}{newId:String}{bmB:WH}{np hpos:Pos}{b1:Stmt}{bs1:List Stmt}{pins:WD}{σ:St}{H1:Hp}{s1 s2:WI}{E:XK}{v:Value}{D:Ends}
  (hgc:Gl X c) (hmc:X.mg c=some (.ref L)) (hdc:(c==("__debug__" : Str))=false) (ex:PySem.W.excIn X.K L bmB newId=true) (hBE:bmB.contains (.type "BaseException")=true)
  (hstk:X.stack=X.env::X.outer/\X.env.frame=some X.env.locals) (hN:X.N.Nodup) (hi:X.N[i]?=some n) (hk:X.env.kindOf n=some .local)
  (I1:Inv X pins σ H1 s1) (hx:CXe X.prog X.w X.stack H1 s1 E v s2)
  (hE:∀cls H',E cls none H'->∃C,cls=.ref C/\PySem.W.kitOne X.K (.ref C) (.ref L)=some true/\∀ea oe,oe.cls=.ref C->(∃vs,oe.data=.fields vs) ->
   ∃t,PSs (X.inX ea oe) (b1::bs1) t/\((σ.set i (some (.ref ea)))[i]?=some (some (.ref ea))->t ⟨λ_ _=>False,D.rt,λ_ _=>False,λ_ _=>False⟩ (σ.set i (some (.ref ea))) H')) :
  wpAny (model X.prog X.w) X.A (noteFrame v X.env) (λ_ s₂=>wpAny (model X.prog X.w) X.A (setFlight v none) (λ_ s₃=>wpAny (model X.prog X.w) X.A (handleBy v X.env [.ExceptHandler (some (.Name c np)) (some n) (b1::bs1) hpos]) (SP X pins D) X.xe s₃) X.xe s₂) X.xe s2:=by
 have hC0:=tT I1.ok.mod.kin ex;obtain⟨tl,N,nm,q,bs,hdct,sn,sub,ab,col,dd,k0,k1,k2,k3,k5,mN,hL,hN2,hni,T⟩:=hC0;have hbase:tl.contains (.type "BaseException")=true:=T.hasType hBE;obtain⟨ea,C',B,H',rfl,os',bare',un,hok,xc,⟨a0,tr⟩,cv,hEx⟩:=hx;obtain⟨C,hcl,hkit,hsu⟩:=hE _ _ hEx;cases hcl;have hfr:X.A.frames=some (X.env::X.outer):=by rw[I1.ok.frames,hstk.1]
 have fly:Heap.FlyingW B (X.env::X.outer) ea (.ref C') a0 s2.heap:=⟨xc.stays,xc.new,by rw[<- hstk.1]; exact xc.frames,tr⟩
 have go:∀{h':Heap},B.StaysIn h'->s2.heap.UpToSlots h'->Inv X pins σ H' { s2 with heap:=h' }:=λ{h'} sb up=>by
  obtain⟨u2,ok2,_⟩:=tL (nM I1) un hok xc.frames cv sb up;exact I1.pU (s':={ s2 with heap:=h' }) (ch:=[]) os' u2 ok2 bare' λb z=>absurd z (by simp)
 have nfr:∀{h':Heap} {o:Obj} {vs},h'.FunFrames B (X.env::X.outer)->h'.get? ea=some o->o.data=.fields vs->ea∉frs X.stack:=λf e1 e2 m=>by
  rw[hstk.1] at m;obtain⟨_,o',e3,e4⟩:=f.mem m;rw[e1] at e3; cases e3;exact e4 _ e2
 have hfree:H' ea=none:=by
  obtain⟨_,_,f2,oe,vs,_,_,_,he,hc,hd,_⟩:=fly
  cases z:H' ea with
  | none=>rfl
  | some ob =>
   have:=cv ea oe he (.inl (by rw[z]; exact λy=>by cases y)) (nfr f2 he hd);rw[xc.new] at this; cases this
 refine wpAny_looks_onW hfr hstk.2 fly λh3 held3 up3=>?_
 refine wpAny_landsW held3 λh4 fly4 up4=>?_
 have I4:=go fly4.1 (up3.trans up4);refine wpAny_handleBy_cons (codeAny_handlers_test (wR I4 hgc hmc hdc ?_)) (by intro z; cases z);obtain⟨ob,hob,hobc⟩:=fly4.there;refine Bc I4.kIn (I4.bk _ _ hL) hob hobc hbase hkit (codeAny_handlers_suite_as ?_);refine lands_againW fly4 λh5 fly5 up5=>?_
 have I5:=go fly5.1 ((up3.trans up4).trans up5);obtain⟨_,_,f5,oe,vs,_,_,_,he,hc,hd,_⟩:=fly5;have nf5:=nfr f5 he hd;have hLoc:Loc X.env.scope n:=.inl hk;have mL:X.env.locals∈frs X.stack:=by rw[hstk.1]; unfold frs; rw[Z8,hstk.2]; exact Zp
 refine mQ (v:=.ref ea) I5 hN hi hLoc rfl (λs6 I6 ⟨a,sb,ha⟩=>?_) (.inr (by simpa [Env.kindOf] using hk))
 have he6:s6.heap.get? ea=some oe:=by
  refine(sb.2 ea λz=>?_).trans he;rcases ha with y|y
  ·rw[z,y] at nf5; exact nf5 mL
  ·obtain⟨w',oc,z1,z2⟩:=I5.cell n a y;rw[<- z] at z1;have z3:some oe=some oc:=he.symm.trans z1;cases z3;rw[hd] at z2; cases z2
 obtain⟨t,hP,ht⟩:=hsu ea oe hc.1 ⟨vs,hd⟩;have I6':=I6.inX ⟨he6,hfree,λz=>nf5 (z▸mL),λz=>nf5 (by rw[hstk.1]; unfold frs; rw[Z8,hstk.2]; exact Zr _ z),λv z=>by rw[hd] at z; cases z⟩;have hiσ:i<σ.length:=by rw[I5.len]; exact(Zf.mp hi).1
 refine Xu (hP pins s6 _ H' _ I6' (ht (Xi hiσ))) (λfl s7 hq=>?_) λ_ _ z=>z.elim
 cases fl with
 | ret u =>
  obtain⟨v7,σ7,H7,I7',ru,hrt⟩:=hq;have I7:=I7'.AR I6.ok;obtain⟨m,hn,hl⟩:=id I7.loc;have hcls:(X.env.scope.kind==.class||(X.env.scope.kind==.module&&X.env.locals != X.env.globals))=false:=by rw[I5.ok.kind]; rfl
  exact wpAny_nameGoes_keeps hk hn hcls λh8 v8 hn8 hs8=>⟨v7,_,H7,I7.gone hN hi hn hl hn8 hs8,ru,hrt⟩
 | next=>obtain⟨_,_,_,z⟩:=hq; exact z.elim
 | brk=>obtain⟨_,_,_,z⟩:=hq; exact z.elim
 | cont=>obtain⟨_,_,_,z⟩:=hq; exact z.elim
theorem Jp{L:Addr}{k:Nat}{f:Addr}{fd:FuncData}{ps:WP}{sp:Sp}{x c n:Str}{newId:String}{bmB:WH}{p cpos rpos np hpos pos:Pos}{e:Expr}{es:WS}{t:TA}{b1:Stmt}{bs1:List Stmt}
  (F:cS X.prog X.w X.K X.mg X.base (CXe X.prog X.w) k f fd ps sp) (hr:bR k X.A) (hg:Gl X x) (hm:X.mg x=some (.ref f)) (hkp:PySem.W.keepIn X.K (.ref f)=true) (hb:Binds X.K fd ps []) (hdb:(x==("__debug__" : Str))=false)
  (ha:PA X.nox (e::es) t) (he:starEach (e::es) X.env=(false,eval e X.env)::starEach es X.env) (hpl:(backTo cpos (starEach es X.env)).any (·.1)=false)
  (hgc:Gl X c) (hmc:X.mg c=some (.ref L)) (hdc:(c==("__debug__" : Str))=false) (ex:PySem.W.excIn X.K L bmB newId=true) (hBE:bmB.contains (.type "BaseException")=true)
  (hstk:X.stack=X.env::X.outer/\X.env.frame=some X.env.locals) (hN:X.N.Nodup) (hi:X.N[i]?=some n) (hk:X.env.kindOf n=some .local) :
  PS X (.Try [.Expr (.Call (.Name x p) (e::es) [] cpos) rpos] [.ExceptHandler (some (.Name c np)) (some n) (b1::bs1) hpos] [] [] pos)
   (λD σ H=>t σ H λvs H1=>∃E:XK,(∀cls H',E cls none H'->∃C,cls=.ref C/\PySem.W.kitOne X.K (.ref C) (.ref L)=some true/\∀ea oe,oe.cls=.ref C->(∃vs,oe.data=.fields vs) ->
    ∃t,PSs (X.inX ea oe) (b1::bs1) t/\((σ.set i (some (.ref ea)))[i]?=some (some (.ref ea))->t ⟨λ_ _=>False,D.rt,λ_ _=>False,λ_ _=>False⟩ (σ.set i (some (.ref ea))) H'))/\sp vs H1 (λ_ H'=>D.nx σ H') E):=by
 intro pins s σ H D I h;refine wpAny_Try_except ?_;refine wpAny_execs_cons (wpAny_Expr_any ?_ I.quiet rfl);refine Xp (iV I hg hm ?_ hdb);refine Wp (h₀:=X.base) I.ok.mod.kin hkp (Xu (ha cpos pins s σ H _ (I.dO _) h) (λus s1 ⟨vs,H1,I1,r,E,hE,q⟩=>⟨I1.fk.kIn,?_⟩) λ_ _ z=>False.elim z) he hpl;have I1:=I1.fk;refine Xu (FY (X:=X) F hr hb I1 r q λv s2 hx=>Dk hgc hmc hdc ex hBE hstk hN hi hk I1 hx hE) (λu s2 hq=>?_) λ_ _ z=>z
 obtain⟨v,H',I',_,q'⟩:=hq;exact QI (QI ⟨σ,H',I',q'⟩)
end
end L2

namespace EV
open PySem PySem.Spec PyProof.Rows L2
section
variable{Γ:Gx}{W:XW->Prop}{CX:CXT}{EW:XW->XK}{cf:Str->List D->M D}{sub:Sub}
theorem zj{n:Nat}{c:TC}{elt:WR}{gens:List Comprehension}{scope:Scope}{p:Pos}{e':E}(h:trE n c (.ListComp elt gens scope p)=some e'){X:Cx}{xw:XW}(F:Fam Γ W CX EW c.gt cf X xw)(C:Cok c X) :
  ∃tg iter ifs it t el tt,gens=[⟨tg,iter,ifs,0⟩]/\e'=.comp (own scope).length el t it tt/\fq X scope (inComp c scope).N (own scope).length/\(∀j,j<X.N.length->t.has j=false)/\PI X tg iter (tMI Γ xw (evI sub cf it)) /\
   (∀cl fp s3 H3,PG (aN X scope cl (inComp c scope).N fp s3 H3) tg (tMG Γ t))/\(∀cl fp s3 H3,PF (aN X scope cl (inComp c scope).N fp s3 H3) ifs (tMT Γ XF λσ=>if tt.bD=true then pure true else evT sub cf tt σ)) /\
   (∀cl fp s3 H3,PE (aN X scope cl (inComp c scope).N fp s3 H3) elt (tM Γ XF (ev sub cf el)))/\∀x,foldedSetIterable iter X.env x=pure x:=by
 cases n with
 | zero=>cases h
 | succ n =>
  have ih:∀e e',trE n c e=some e'->ClE Γ sub cf X xw e e':=λe e' h=>fL n c e e' h X xw F C
  simp only[trE] at h;split at h
  ·rename_i tg iter ifs asy;split at h
   ·rename_i hx;rw[Zl] at hx;have ha:asy=0:=Zk hx.1;subst ha;obtain⟨CO,CK⟩:=rZ C hx.2;split at h
    ·rename_i it t el tt h1 h2 h3 h4;split at h
     ·rename_i hge;cases h;obtain⟨PI1,hs⟩:=lU F C ih h1
      have ihc:∀cl fp s3 H3 e e',trE n (inComp c scope) e=some e'->ClE Γ sub cf (aN X scope cl (inComp c scope).N fp s3 H3) XF e e' :=
       λcl fp s3 H3 e e' h=>fL n (inComp c scope) e e' h _ XF (F.comp scope cl _ fp s3 H3) (CK cl fp s3 H3)
      have htt:∀cl fp s3 H3,PF (aN X scope cl (inComp c scope).N fp s3 H3) ifs (tMT Γ XF λσ=>if tt.bD=true then pure true else evT sub cf tt σ):=λcl fp s3 H3=>by
       match ifs,h4 with
       | [],h4 =>
        cases h4
        exact λpins s σ H Q I h=>uM pins s σ H Q I (by
         obtain⟨σd,ι,S,he,hs,ho⟩:=h;exact ho.here hs)
       | [t0],h4 =>
        have h4:(match trE n (inComp c scope) t0 with|some .nl=>none|o=>o)=some tt:=h4
        cases q:trE n (inComp c scope) t0 with
        | none=>rw[q] at h4; cases h4
        | some f =>
         rw[q] at h4
         have hf:f=tt/\f.bD=false:=by
          cases f<;>first|(cases h4; done)|(cases h4; exact⟨rfl,rfl⟩)
         obtain⟨rfl,hn⟩:=hf;rw[hn];simp only[Zw,ZK];exact uN (ihc cl fp s3 H3 t0 f q).pt
       | _::_::_,h4=>cases h4
      exact⟨tg,iter,ifs,it,t,el,tt,rfl,rfl,CO,by rw[C.N]; exact tH hge,PI1,λcl fp s3 H3=>jq (X:=aN X scope cl (inComp c scope).N fp s3 H3) F.hK F.calm (CK cl fp s3 H3) h2,htt,λcl fp s3 H3=>(ihc cl fp s3 H3 elt el h3).pe,hs⟩
     ·cases h
    ·cases h
   ·cases h
  ·cases h
theorem kF{e:WR}(h:gM e=true)(t:Option PySem.Expr)(l:Nat)(env:Env):swapsWith e t l env=pure false:=by
 cases e<;>first|rfl|cases h
theorem Gs{m:Nat}{c:TC}{X:Cx}{xw:XW}(F:Fam Γ W CX EW c.gt cf X xw)(C:Cok c X){tg e:WR}{t:Tg}{e':E}{pos:Pos}(ha:vO tg e=true)(h1:ig c tg=some t)(h2:trE m c e=some e') :
  PS X (.Assign [tg] e pos) (tMS Γ xw (exec sub cf (.set t e'))):=by
 have hg:PG X tg (tMG Γ t):=jq F.hK F.calm C h1;have he:=(fL (sub:=sub) m c e e' h2 X xw F C).pe
 cases tg with
 | Name y py =>
  by_cases hc:gM e=true
  ·exact k7 he hg (show swapsWithSole [.Name y py] e pos.line X.env=pure false from kF hc (some (.Name y py)) pos.line X.env) rfl rfl
  ·cases e with
   | ListComp elt gens scope p =>
    obtain⟨tg,iter,ifs,it,t2,el,tt,rfl,rfl,CO,hslot,PI1,PG1,PF1,PE1,hs⟩:=zj (sub:=sub) h2 F C;have h1':(if d9 c y=true then(idx c.N y).map Tg.one else none)=some t:=h1
    by_cases hl:d9 c y=true
    ·rw[Ze hl] at h1';obtain⟨j,hj,rfl⟩:=dG h1'
     have sw:swapsWith (.ListComp elt [⟨tg,iter,ifs,0⟩] scope p) (some (.Name y py)) pos.line X.env=pure (X.env.blockKind==.function&&X.env.kindOf y==some .local&&py.line==p.line
      &&!(scope.names.any λ(n,k)=>n==y&&(k==.local||k==.cell))):=rfl
     cases q:(X.env.blockKind==.function&&X.env.kindOf y==some .local&&py.line==p.line&&!(scope.names.any λ(n,k)=>n==y&&(k==.local||k==.cell))) with
     | true =>
      rw[q] at sw;simp only[Zl] at q;have hy:X.env.scope.names.lookup y=some .local:=eq_of_beq q.1.1.2;exact F6 CO F.calm hslot PI1 PG1 PF1 PE1 C.nd (by rw[C.N]; exact dP hj) hy sw hs
     | false =>
      rw[q] at sw;exact k7 he hg sw rfl rfl
    ·rw[Zg hl] at h1'; cases h1'
   | SetComp _ _ _ _=>cases m<;>cases h2
   | DictComp _ _ _ _ _=>cases m<;>cases h2
   | _=>exact absurd rfl hc
 | Tuple es k p =>
  have ha:(!isTup e&&gM e)=true:=ha;rw[Zl] at ha;refine k7 he hg (show swapsWithSole [.Tuple es k p] e pos.line X.env=pure false from kF ha.2 (some (.Tuple es k p)) pos.line X.env) ?_ rfl;cases e<;>first|rfl|exact absurd ha.1 (by simp[isTup])
 | _=>cases ha
theorem GD{m:Nat}{c:TC}{X:Cx}{xw:XW}(F:Fam Γ W CX EW c.gt cf X xw)(C:Cok c X){tg e:WR}{s':S}{pos:Pos}(h:mU (trE m c) e tg=some s'):PS X (.Assign [tg] e pos) (tMS Γ xw (exec sub cf s')):=by
 have ce:∀{e e'},trE m c e=some e'->PE X e (tM Γ xw (ev sub cf e')):=λ{e e'} h=>(fL m c e e' h X xw F C).pe
 unfold mU at h;split at h
 ·cases h
 ·rename_i o i p _;split at h
  ·rename_i ha;rw[Zl] at ha;split at h
   ·rename_i a b d h1 h2 h3;cases h;refine yT (ce h3) (ce h1) (ce h2) (λ_ _ _ _ z=>?_) (show swapsWithSole [.Subscript o i p] e pos.line X.env=pure false from kF ha.1 (some (.Subscript o i p)) pos.line X.env);rw[z] at ha; exact absurd ha.2 (by simp[om])
   ·cases h
  ·cases h
 ·cases h
theorem rQ{X:Cx}{xw:XW}{ss:List Stmt}:PSs X ss (tMS Γ xw (exec sub cf .bot)):=λpins s σ H D I h=>by
 obtain⟨_,_,_,_,_,ho⟩:=h;exact ho.elim
theorem iA{f:Stmt->Option S}{X:Cx}{xw:XW}(ih:∀s s',f s=some s'->PS X s (tMS Γ xw (exec sub cf s'))):∀{ss:List Stmt} {s':S},fB f ss=some s'->PSs X ss (tMS Γ xw (exec sub cf s'))
 | [],_,h=>by cases h; exact Dz
 | [s],s',h=>by
  have h:(match f s with|some a=>some a|none=>some .bot)=some s':=h
  cases q:f s with
  | none=>rw[q] at h; cases h; exact rQ
  | some a=>rw[q] at h; cases h; exact qt (ih _ _ q)
 | s::s2::r,s',h=>by
  have h:(match f s with|some a=>(fB f (s2::r)).map (S.seq a)|none=>some .bot)=some s':=h
  cases q:f s with
  | none=>rw[q] at h; cases h; exact rQ
  | some a =>
   rw[q] at h;obtain⟨b,h2,rfl⟩:=ZA.mp h;have h1:=q;exact j4 (ih s a h1) (iA ih h2)
theorem F9{c:TC}{X:Cx}{xw:XW}{e:WR}{s':S}{pos:Pos}(F:Fam Γ W CX EW c.gt cf X xw)(C:Cok c X)(h:nH c e=some s'):PS X (.Raise (some e) none pos) (tMS Γ xw (exec sub cf s')):=by
 unfold nH at h;split at h
 case h_2=>cases h
 rename_i f args kws cpos;split at h
 case h_2=>cases h
 rename_i x np;split at h
 case isFalse=>cases h
 rename_i hc;rw[Zl,Zl] at hc;split at h
 case h_2=>cases h
 rename_i hl;cases h
 match args,hc.1 with
 | [a],hd =>
  obtain⟨v,j,q,rfl⟩:=t9 (show jv a=true from hd);obtain⟨⟨C1,newId,initId,B,bmB,hns,hex,FB,_⟩,hmg⟩:=F.cls x hl;refine PS.imp (Dg (E:=EW xw) FB hex (hmg C1 hns) (C.gl hc.2.2) F.calm (cL hc.2.1).1 wW rfl F.rp) λD σ H h=>?_
  obtain⟨σd,ι,S,hE,hs,ho⟩:=h;have hx:xw x S ι H:=ho ι H .refl hs;rw[F.ew];exact⟨x,C1,rfl,hns,S,ι,hx⟩
theorem Aj:∀d∈six,(d==("__debug__" : Str))=false:=by decide +kernel
set_option genInjectivity false in
inductive Isi(c:TC)(n:Str):List PySem.Expr->List Str->Prop where
 | nil:Isi c n [] []
 | cons {d:Str} {r:WS} {ds:WP} {p1 p2 p3 p4:Pos} (h1:d∈six) (h2:glB c d=true) (h3:c.gt.lookup d=some .cls) (t:Isi c n r ds):Isi c n (.Call (.Name "isinstance" p1) [.Name n p2,.Name d p3] [] p4::r) (d::ds)
theorem uX{c:TC}{X:Cx}{xw:XW}{n k:Str}{i:Nat}{C1 ea:Addr}{oe:Obj}(F:Fam Γ W CX EW c.gt cf X xw)(C:Cok c X)(hi:X.N[i]?=some n)(hk:X.env.kindOf n=some .local)(hd:(n==("__debug__" : Str))=false)(hc:oe.cls=.ref C1)(hv:∃vs,oe.data=.fields vs)(nb:dj (X.inX ea oe) "isinstance" (.builtin "isinstance"))
  (h6:k∈six) (h1:PySem.W.nsIn X.K mainGlobals k=some (some (.ref C1))) (np:∀d P,gF k d=true->PySem.W.nsIn X.K mainGlobals d=some (some (.ref P))->d7 X.K C1/\PySem.W.kitOne X.K (.ref C1) (.ref P)=some false)
  {es:WS} {ds:WP} (h:Isi c n es ds):fE (X.inX ea oe) i ea es (ds.map λd=>decide (d=k)):=by
 induction h with
 | nil=>exact .nil
 | @cons d r ds p1 p2 p3 p4 hd6 hgl e4 _ ih =>
  have hvis:Vis X.env.scope n:=.inl hk;obtain⟨⟨P,_,_,_,_,hP,_⟩,hmg⟩:=F.cls _ e4;have nd:dj (X.inX ea oe) d (.ref P):=⟨C.gl hgl,Aj d hd6,.inl (hmg P hP)⟩
  refine .cons (qW hc hv ?_) rfl ih
  by_cases z:d=k
  ·subst z;rw[h1] at hP; cases hP;show PV _ _ _ _ (.bl (decide (d=d)));rw[Zj rfl];exact rT (X:=X.inX ea oe) hi hk hd hvis nb nd (by unfold PySem.W.kitOne; rw[Ze (by simp)])
  ·show PV _ _ _ _ (.bl (decide (d=k)));rw[Zs z];obtain⟨T,e⟩:=np d P (by unfold gF; rw[Zj h6,Zj hd6,Zs (λy=>z y.symm)]; rfl) hP;exact Cr (X:=X.inX ea oe) hi hk hd hvis nb nd T e
theorem vM:∀{cs:WP} {x:Str} {k:Nat},fz cs x=some k->x∈cs/\(cs.map λd=>decide (d=x))[k]?=some true/\∀m,m<k->(cs.map λd=>decide (d=x))[m]?=some false
 | [],_,_,h=>by cases h
 | y::r,x,k,h=>by
  have h:(if y=x then some 0 else(fz r x).map (· + 1))=some k:=h
  by_cases e:y=x
  ·rw[Ze e] at h; cases h;subst e;exact⟨Zp,by simp,λm hm=>by omega⟩
  ·rw[Zg e] at h;obtain⟨j,hj,rfl⟩:=ZA.mp h;obtain⟨h1,h2,h3⟩:=vM hj;refine⟨Zr _ h1,h2,λm hm=>?_⟩
   cases m with
   | zero=>simp[e]
   | succ m=>exact h3 m (by omega)
theorem vf:∀{cs:WP} {x:Str},cs.Nodup->x∈cs->(cs.map λd=>decide (d=x)).count true=1
 | [],_,_,h=>by cases h
 | y::r,x,hn,h=>by
  obtain⟨h1,h2⟩:=Xh.mp hn;rw[ZT,List.count_cons]
  by_cases e:y=x
  ·subst e
   have z:(r.map λd=>decide (d=y)).count true=0:=List.count_eq_zero.mpr λz=>by
    obtain⟨d,hd,e⟩:=ZP.mp z;exact h1 ((Zk e)▸hd)
   rw[z]; simp
  ·rw[vf h2 ((Zm.mp h).resolve_left λz=>e z.symm)]; simp[e]
theorem vS{c:TC}{n:Str}{es:WS}{ds:WP}(h:Isi c n es ds):∀d∈ds,d∈six/\c.gt.lookup d=some .cls:=by
 induction h with
 | nil=>intro d h; cases h
 | cons h1 h2 h3 _ ih =>
  intro d h;rcases Zm.mp h with rfl|h
  ·exact⟨h1,h3⟩
  ·exact ih d h
theorem av.agree{ι:WL}{H H':Hp}{S:af}(h:av Γ ι H S)(ha:∀x,H x≠none->H' x=H x):av Γ ι H' S/\Ext ι ι H H':=by
 have ag:∀{x o},H x=some o->H' x=some o:=λe=>(ha _ (by rw[e]; exact λz=>by cases z)).trans e
 have ex:Ext ι ι H H':=⟨Qj _,λa xs e=>ag e,λa o u e=>ag e,λa o e _=>ag e,λ_ m n=>absurd m n⟩
 refine⟨⟨h.len,h.nd,λl c e=>?_⟩,ex⟩;obtain⟨a,h1,h2⟩:=h.cell l c e;refine⟨a,h1,?_⟩
 cases c with
 | lst ds=>obtain⟨xs,q1,q2⟩:=h2; exact⟨xs,ag q1,q2.ext ex⟩
 | dct kvs=>obtain⟨xs,q1,q2⟩:=h2; exact⟨xs,ag q1,Paired.imp (λ_ _ r=>⟨r.1,r.2.ext ex⟩) q2⟩
 | fdc kvs=>obtain⟨xs,⟨o,q1⟩,q2⟩:=h2; exact⟨xs,⟨o,ag q1⟩,Paired.imp (λ_ _ r=>⟨r.1,r.2.ext ex⟩) q2⟩
theorem nO{N:WP}{x y:Str}{i j:Nat}(h1:idx N x=some i)(h2:idx N y=some j)(h:¬x=y):i≠j:=λe=>by
 have a:=dP h1;rw[e,dP h2] at a;cases a; exact h rfl
theorem FO{m:Nat}{c:TC}{X:Cx}{xw:XW}{x o n kd:Str}{a:WR}{as l1 l2:WS}{z1 z2 z3 z4:Pos}{es:E}{i io j:Nat}{d1 d2:WP}{b1 b2:Nat}{p cpos rpos np hpos pos p1 p2 p3 p4 p5 p6 p7 p8 p9 p10 p11 p12 p13 p14 p15 p16 p17 p18 p19 p20 p21 p22:Pos}{j1:Nat}(F:Fam Γ W CX EW c.gt cf X xw)(C:Cok c X)
  (ht:c.top=true) (hx1:cj x=true) (hx2:glB c x=true) (hk2:glB c "LapError" = true) (hn1:cj n=true) (hn2:c.sc.names.lookup n=some .local) (hq1:cj o=true) (hq2:c.sc.names.lookup o=some .local) (hd1:cj kd=true) (hd2:fD c.sc kd=true) (hon:¬o=n) (hko:¬kd=o) (hkn':¬kd=n) (hbi:cU c "isinstance" = true) (hbv:cU c "ValueError" = true)
  (g1:c.gt.lookup x=some .fn) (g2:c.gt.lookup ("LapError" : Str)=some .cls) (g3:bM (trE m c) (a::as)=some es) (g4:idx c.N n=some i) (g5:idx c.N o=some io) (g6:idx c.N kd=some j) (g7:Isi c n l1 d1) (g8:Isi c n l2 d2) (nd:(d1++d2).Nodup) (len:(d1++d2).length<1000)
  (li1:(p7.endLine==p8.line)=true) (li2:(p12.endLine==p13.line)=true) (li3:(p16.endLine==p17.line)=true) :
  PS X (.Try [.Expr (.Call (.Name x p) (a::as) [] cpos) rpos] [.ExceptHandler (some (.Name "LapError" np)) (some n) [.Assign [.Name o p1] (.List l1 p2) p3,.Expr (.Call (.Attribute (.Name o p6) "extend" p7) [.List l2 p5] [] p8) p9,
   .Return (some (.BoolOp .And [.Call (.Name "isinstance" z1) [.Name n z2,.Name "ValueError" z3] [] z4,.Compare (.Call (.Attribute (.Name o p11) "count" p12) [.Constant (.bool true) b1 p4] [] p13) [.Eq] [.Constant (.int 1) j1 p14] p10,.Compare (.Call (.Attribute (.Name o p15) "index" p16) [.Constant (.bool true) b2 p20] [] p17) [.Eq] [.Name kd p18] p21] p19)) p22] hpos] [] [] pos) (tMS Γ xw (exec sub cf (.tryK x es (d1++d2) j))):=by
 have hi:X.N[i]?=some n:=by rw[C.N]; exact dP g4
 have hio:X.N[io]?=some o:=by rw[C.N]; exact dP g5
 have hj:X.N[j]?=some kd:=by rw[C.N]; exact dP g6
 have hkn:X.env.kindOf n=some .local:=by show X.env.scope.names.lookup n=_; rw[C.sc]; exact hn2
 have hlo:X.env.scope.names.lookup o=some .local:=by rw[C.sc]; exact hq2
 have hvk:Vis X.env.scope kd:=by rw[C.sc]; exact r6 hd2
 obtain⟨n1,f,fd,ps,hf,hr,hm,hk,hb,hl⟩:=F.fn x g1;obtain⟨⟨L,newId,initId,B,bmB,hns,hex,FB,_⟩,hmg⟩:=F.cls _ g2;rw[F.cx] at hf;obtain⟨a',b',q1,q2,_⟩:=cy g3;refine PS.imp (Jp hf hr (C.gl hx2) hm hk hb (cL hx1).1 (dz (sub:=sub) F.nox C.nox (λe e' h=>fL m c e e' h X.nox XF F.nox C.nox) g3) (bX q1 as X.env) (fH q2 X.env cpos).1 (C.gl hk2) (hmg L hns) (by decide +kernel) hex FB.hasBase (C.stk ht) C.nd hi hkn) λD σ H h=>?_
 obtain⟨σd,ι,S,hE,hs,ho⟩:=h;have ho:Out Γ xw ι H ((quiet (evs sub cf es σd)>>=λds=>gq (d1++d2) σd[j]? σd (cf x ds)) S) (FlK Γ D):=ho;refine⟨σd,ι,S,hE,hs,(Out.quiet ho.bind XF).mono λds S1 ι1 H1 _ _ ⟨s1,e1,o1⟩ vs rs=>?_⟩;refine⟨EW λc' _ _ H'=>∃k n,fz (d1++d2) c'=some k/\σ[j]?=some (some (.int n))/\∀H'',(∀x,H' x≠none->H'' x=H' x)->D.rt (.bl (decide ((k:Int)=n))) H'',λcls H' z=>?_,?_⟩
 ·rw[F.ew] at z;obtain⟨c',C',rfl,hn',_,_,k',n',z1,z2,z3⟩:=z;obtain⟨y1,y2,y3⟩:=vM z1
  have hcs:c'∈six/\c.gt.lookup c'=some .cls:=by
   rcases ZQ.mp y1 with z|z
   ·exact vS g7 _ z
   ·exact vS g8 _ z
  obtain⟨⟨C1,_,_,_,_,hns1,_,_,v1,⟨L1,l1',l2'⟩,noP⟩,_⟩:=F.cls c' hcs.2;rw[hn'] at hns1; cases hns1;have hLL:L1=L:=by rw[l1'] at hns; cases hns; rfl
  subst hLL;refine⟨C',rfl,l2',λea oe hc hv=>?_⟩;obtain⟨b1,b2⟩:=fY C hbi;obtain⟨w1,w2⟩:=fY C hbv;have nb':dj (X.inX ea oe) "isinstance" (.builtin "isinstance"):=⟨b1,by decide +kernel,.inr ⟨F.blt _ (by decide +kernel) b2,boot_isinstance,by decide +kernel⟩⟩
  have nd':dj (X.inX ea oe) "ValueError" (.type "ValueError"):=⟨w1,by decide +kernel,.inr ⟨F.blt _ (by decide +kernel) w2,by decide +kernel,by decide +kernel⟩⟩
  refine⟨_,xO (X:=X.inX ea oe) (i:=i) (ea:=ea) C.nd hio (.inl hlo) hlo hj hvk (nO g5 g4 hon) (nO g6 g5 hko) (cL hq1).1 (cL hq1).2 (cL hd1).1 (cL hd1).2 (uX F C hi hkn (cL hn1).1 hc hv nb' hcs.1 hn' noP g7) (uX F C hi hkn (cL hn1).1 hc hv nb' hcs.1 hn' noP g8) (qW hc hv (rT (X:=X.inX ea oe) hi hkn (cL hn1).1 (.inl hkn) nb' nd' v1)) li1 li2 li3,λhset=>?_⟩;rw[<- Wf];refine⟨hset,by rw[Zi]; exact len,vf nd y1,k',n',y2,y3,?_,z3⟩;rw[ZR (nO g4 g6 λz=>hkn' z.symm)];exact z2
 ·have hlen:vs.length=ps.length:=by
   by_cases z:ds.length=ps.length
   ·rw[<- rs.length]; exact z
   ·unfold gq at o1;rw[hl ds S1 z] at o1;exact o1.elim
  refine⟨hlen,_,F.wt _,rfl,ι1,S1,ds,s1,rs,?_⟩;unfold gq at o1
  cases q:cf x ds S1 with
  | bad=>rw[q] at o1; exact o1.elim
  | ok d' S2 =>
   rw[q] at o1;exact λι' H' e' s2 v r=>o1 ι' H' e' s2 σ (hE.ext (e1.trans e'))
  | exc c' S2 =>
   rw[q] at o1;dsimp only at o1
   cases q3:fz (d1++d2) c' with
   | none=>rw[q3] at o1; exact o1.elim
   | some k' =>
    rw[q3] at o1
    cases q4:σd[j]? with
    | none=>rw[q4] at o1; exact o1.elim
    | some od =>
     cases od with
     | none=>rw[q4] at o1; exact o1.elim
     | some d =>
      cases d with
      | int n' =>
       rw[q4] at o1;obtain⟨v,hv,rv⟩:=hE.var j _ q4;cases rv
       exact λι' H' e' s2=>⟨k',n',q3,hv,λH'' ag=>by
        obtain⟨s3,e3⟩:=s2.agree ag;exact o1 ι' H'' (e'.trans e3) s3 _ (.bl _)⟩
      | _=>rw[q4] at o1; exact o1.elim
theorem j8(m:Nat):∀(n:Nat) (c:TC) (s:Stmt) (s':S),trS m n c s=some s'->∀(X:Cx) (xw:XW),Fam Γ W CX EW c.gt cf X xw->Cok c X->PS X s (tMS Γ xw (exec sub cf s')):=by
 intro n
 induction n with
 | zero=>intro c s s' h; cases h
 | succ n ihn =>
  intro c s s' h X xw F C;have ih:∀s s',trS m n c s=some s'->PS X s (tMS Γ xw (exec sub cf s')):=λs s' h=>ihn c s s' h X xw F C
  have ihx:∀s s',trS m n c s=some s'->PS X.nox s (tMS Γ XF (exec sub cf s')):=λs s' h=>ihn c s s' h X.nox XF F.nox C.nox
  have ce:∀{e e'},trE m c e=some e'->ClE Γ sub cf X xw e e':=λ{e e'} h=>fL m c e e' h X xw F C
  have cx:∀{e e'},trE m c e=some e'->ClE Γ sub cf X.nox XF e e':=λ{e e'} h=>fL m c e e' h X.nox XF F.nox C.nox
  cases s with
  | Return v p =>
   cases v with
   | none=>cases h; exact DX
   | some e =>
    obtain⟨e',h1,rfl⟩:=dG (f:=S.ret) h;exact CW (ce h1).pe
  | Expr e p =>
   simp only[trS] at h;split at h
   ·rename_i hd;obtain⟨x,j,q,rfl⟩:=t9 hd;cases h; exact IG
   ·split at h
    ·rename_i hn;obtain⟨e',h1,rfl⟩:=dG (f:=S.ex) h;exact Hz (ce h1).pe (kF hn _ _ _)
    ·cases h
  | Pass p=>cases h; exact yS
  | Assign ts e p =>
   simp only[trS] at h;split at h
   ·rename_i tg;split at h
    ·rename_i ha;split at h
     ·rename_i t e' h1 h2;cases h;exact Gs F C ha h1 h2
     ·cases h
    ·exact GD F C h
   ·cases h
  | If t a b p =>
   simp only[trS] at h;split at h
   ·rename_i t' a' b' h1 h2 h3;cases h;exact FL (ce h1).pt (iA ih h2) (iA ih h3)
   ·cases h
  | For tg it body els p =>
   simp only[trS] at h;split at h
   ·rename_i t i b h1 h2 h3;cases h;obtain⟨PI1,hs⟩:=lU F C (λe e' h=>ce h) h2;exact ED F.calm PI1 (jq (X:=X.nox) F.hK F.calm C.nox h1) (iA ihx h3) hs
   ·cases h
  | Raise e cause p =>
   cases e with
   | none=>cases cause<;>cases h
   | some e =>
    cases cause with
    | none=>exact F9 F C h
    | some _=>cases h
  | _=>cases h
end
end EV

namespace EV
open PySem PySem.Spec PyProof.Rows L2
theorem nF:∀{ns:WP} {us:WH} {i:Nat} {x:Str} {u:Value},ns.Nodup->ns[i]?=some x->us[i]?=some u->(ns.zip us).lookup x=some u
 | [],_,_,_,_,_,h,_=>by simp at h
 | _::_,[],_,_,_,_,_,h=>by simp at h
 | y::ns,v::us,0,x,u,_,h1,h2=>by
  simp at h1 h2; subst h1; subst h2;simp[List.lookup]
 | y::ns,v::us,i+1,x,u,nd,h1,h2=>by
  have h1':ns[i]?=some x:=by simpa using h1
  have hne:¬x=y:=λe=>by
   subst e; exact(Xh.mp nd).1 (ZB h1')
  have hb:(x==y)=false:=by simpa using hne
  show List.lookup x ((y,v)::ns.zip us)=some u;rw[Z1,hb];exact nF (Xh.mp nd).2 h1' (by simpa using h2)
theorem Ag{ns:WP}{us:WH}(nd:ns.Nodup)(hl:us.length=ns.length):ns.filterMap (λn=>((ns.zip us).lookup n).map (n,·))=ns.zip us:=by
 have all:∀(ms:WP) (vs:WH),vs.length=ms.length->(∀(i:Nat) x u,ms[i]?=some x->vs[i]?=some u->(ns.zip us).lookup x=some u)->ms.filterMap (λn=>((ns.zip us).lookup n).map (n,·))=ms.zip vs:=by
  intro ms
  induction ms with
  | nil=>intro vs _ _; rfl
  | cons m ms ih =>
   intro vs hl h
   cases vs with
   | nil=>simp at hl
   | cons v vs =>
    rw[Z8,h 0 m v rfl rfl];show(m,v)::_=(m,v)::ms.zip vs;rw[ih vs (by simpa using hl) λi x u h1 h2=>h (i+1) x u (by simpa using h1) (by simpa using h2)]
 exact all ns us hl λi x u h1 h2=>nF nd h1 h2
theorem qv{x qual:Str}{a:Arguments}{body:List Stmt}{sc:Scope}{kV doc pm cdv ct:Value}{an:Option Addr}(hp:jx a=true)(nd:(argNames a).Nodup){us:WH}(hl:us.length=(argNames a).length) :
  bindArgs (PySem.W.fnOf x qual a body sc .none kV doc pm an cdv ct) ⟨us,[]⟩=pure ((argNames a).zip us):=by
 obtain⟨po,as,va,ko,kd,kw,df⟩:=a;unfold jx at hp;simp only[Zl,List.isEmpty_iff,Option.isNone_iff_eq_none] at hp;obtain⟨⟨⟨⟨⟨rfl,rfl⟩,rfl⟩,rfl⟩,rfl⟩,rfl⟩:=hp;have nd:(as.map (·.arg)).Nodup:=nd;have hl:us.length=(as.map (·.arg)).length:=hl;show bindArgs _ _=pure ((as.map (·.arg)).zip us);unfold bindArgs;simp only[PySem.W.fnOf,Wb,XH,Xn];generalize as.map (·.arg)=ns at nd hl;have hnot:¬us.length>ns.length:=by rw[hl]; exact Z6 _
 have hmiss:(List.take ns.length ns).filter (λn=>((ns.zip us).lookup n).isNone)=[]:=by
  rw[List.filter_eq_nil_iff];intro n hn;obtain⟨i,hi⟩:=ZH (We hn);have hi':i<us.length:=by rw[hl]; exact(Zf.mp hi).1
  rw[nF nd hi (Zb hi')];simp
 have hb:=Ag nd hl;have hd:seqItems? .none=pure none:=rfl;rw[hd];have hz:(#[]:Array Value).toList=[]:=rfl;have hdec:decide (us.length>ns.length)=false:=Zs hnot;simp only[Wn,pure_bind,Option.getD_none,hz,Qp,Nat.zero_sub,List.drop_nil,Nat.sub_zero,hmiss,hdec,Wm,Zw,ZK,List.isEmpty_nil,XY,List.zip_nil_right,hb]
noncomputable def mX(xw:XW):XW:=λc _ _ H=>∃S ι,xw c S ι H
set_option genInjectivity false in
structure Txt(K:WG)(mg:WM)(gt:List (Str×GE))(defs:List (Str×Stmt)):Prop where
 fn:∀x,gt.lookup x=some .fn->∃st f fd,defs.lookup x=some st/\mg x=some (.ref f)/\Fun K x x st f fd
 blt:∀x∈ez,gt.lookup x=none->mg x=none
 val:∀x d,gt.lookup x=some (.val d)->∃u v,mg x=some u/\RelV v u/\∀ι H,Rep ⟨K⟩ ι H d v
 cls:∀x,gt.lookup x=some .cls->ClsAt K x/\∀C,PySem.W.nsIn K mainGlobals x=some (some (.ref C))->mg x=some (.ref C)
theorem B_{Γ:Gx}{ι:WL}{H:Hp}{ds:WV}{vs:WT}(rs:az Γ ι H ds vs)(N:WP){k:Nat}(hk:k=N.length):a_ Γ ι H (L2.start N vs) (ds.map some++List.replicate (k-ds.length) none):=by
 have hl:=rs.length;refine⟨by unfold L2.start; simp[hl,hk],λi d h=>?_⟩
 by_cases hi:i<ds.length
 ·rw[ZF (by simpa using hi),ZJ] at h
  have h:ds[i]?=some d:=by
   rw[Zb hi] at h ⊢;simpa using h
  obtain⟨v,hv,r⟩:=Paired.get rs h;refine⟨v,?_,r⟩;unfold L2.start;rw[ZF (by rw[Zi,<- hl]; exact hi),ZJ,hv];rfl
 ·rw[ZI (by simpa using hi),XD] at h;split at h<;>cases h
theorem jy{a:Arguments}{sc:Scope}(h:gh a sc=true):lV (namesOf a sc) (argNames a) sc/\jx a=true:=by
 unfold gh at h;simp only[Zl] at h;obtain⟨⟨⟨⟨⟨⟨h1,h2⟩,h3⟩,h4⟩,h5⟩,h6⟩,h7⟩:=h;rw[Z7] at h6 h7;refine⟨⟨Zk h2,by simpa using h3,by simpa using h4,jB h5,?_,λx hx=>?_,λy hy hf=>?_⟩,h1⟩
 ·unfold namesOf; rw[List.take_append_of_le_length (Zn _),Zq]
 ·have:=h6 x hx
  cases q:sc.names.lookup x with
  | none=>rw[q] at this; cases this
  | some k=>rw[q] at this; cases k<;>first|exact .inl rfl|exact .inr rfl|cases this
 ·have:=h7 y hy;rw[hf] at this; simp at this
theorem rq{CX:CXT}{P:WK}{w:WN}{K:WG}{mg:WM}{base:Heap}{N:WP}{qual:Str}{scope:Scope}{f:Addr}{cd:Value}{A:Around}{outer:List Env}{s:WI}{H:Hp}{E:XK}{pins:WD}{σ:L2.St}{H1:Hp}{s1:WI}(I:Inv (cJ CX P w K mg base N qual scope f cd A outer s H E) pins σ H1 s1):A.frames=some outer:=by
 have z:A.frames.map (envOfC qual scope s.heap.objs.size f cd :: ·)=some (envOfC qual scope s.heap.objs.size f cd::outer):=I.ok.frames
 cases q:A.frames with
 | none=>rw[q] at z; cases z
 | some l=>rw[q] at z; cases z; rfl
set_option genInjectivity false in
structure nA(gt:List (Str×GE))(a:Arguments)(body:List Stmt)(sc:Scope)(F:Fn):Prop where
 scp:gh a sc=true
 par:F.par=(argNames a).length
 num:F.names=(namesOf a sc).length
 ok:∀{Γ:Gx} {W:XW->Prop} {CX:CXT} {EW:XW->XK} {cf:Str->List D->M D} {sub:Sub} {X:Cx} {xw:XW},Fam Γ W CX EW gt cf X xw->Cok (iK gt a sc) X->PSs X body (tMS Γ xw (exec sub cf F.body))
def eg(gt:List (Str×GE))(st:Stmt)(F:Fn):Prop:=∃x a body d1 d2 d3 sc d4 d5 d6,st=.FunctionDef x a body d1 d2 d3 sc d4 d5 d6/\nA gt a body sc F
theorem xC{gt:List (Str×GE)}{st:Stmt}{F:Fn}(h:trF gt st=some F):eg gt st F:=by
 cases st with
 | FunctionDef x0 a body d1 d2 d3 sc d4 d5 d6 =>
  have h:(if gh a sc=true then(fB (trS depth depth (iK gt a sc)) body).map λb=>(⟨(argNames a).length,(namesOf a sc).length,b⟩:Fn) else none)=some F:=h
  by_cases hs:gh a sc=true
  ·rw[Ze hs] at h;obtain⟨b,hb,rfl⟩:=dG h;exact⟨_,_,_,_,_,_,_,_,_,_,rfl,hs,rfl,rfl,λFM CK=>iA (λs s' h=>j8 depth depth (iK gt a sc) s s' h _ _ FM CK) hb⟩
  ·rw[Zg hs] at h; cases h
 | _=>cases h
theorem nA.nd{gt:List (Str×GE)}{a:Arguments}{body:List Stmt}{sc:Scope}{F:Fn}(h:nA gt a body sc F):(argNames a).Nodup:=by
 have SC:=(jy h.scp).1;rw[<- SC.pre]; exact SC.nd.sublist (List.take_sublist _ _)
section
variable{P:WK}{w:WN}{K:WG}{mg:WM}{base:Heap}{W:XW->Prop}{sub:Sub}{gt:List (Str×GE)}{defs:List (Str×Stmt)}{Pd:Prg}
theorem HD(T:Txt K mg gt defs)(hW:∀xw,W xw)(hP:∀x st,defs.lookup x=some st->∃F,eg gt st F/\Pd.lookup x=some F) :
  ∀(n:Nat) (x:Str) (st:Stmt) (f:Addr) (fd:FuncData),defs.lookup x=some st->Fun K x x st f fd->cS P w K mg base (CXe P w) n f fd (argNames (fC st)) (spF ⟨K⟩ W (EWx K) (aj sub Pd n x) (argNames (fC st)).length):=by
 intro n
 induction n with
 | zero =>
  intro x st f fd _ _;refine⟨λvs H Q E h=>h.1,λA outer s H args us vs Q E _ _ _ _ h=>?_⟩;obtain⟨_,_,_,_,_,_,_,_,_,ho⟩:=h;exact ho.elim
 | succ n ih =>
  intro x st f fd hst Fu;obtain⟨F,⟨x0,a,body,d1,d2,d3,sc,d4,d5,d6,rfl,DO⟩,hPi⟩:=hP x st hst;obtain⟨SC,hpl⟩:=jy DO.scp;obtain⟨oc,od,kV,doc,pm,an,cdv,ct,osl,rfl,lk,hcd⟩:=Fu.ex;refine AL (N:=namesOf a sc) lk hcd SC (λvs H Q E h=>h.1) λA outer s H vs Q E hr hsp=>?_
  obtain⟨hl,xw,hw,rfl,ι,S,ds,hS,rs,ho⟩:=hsp
  have hew:∀C H,EWx K (mX xw) (.ref C) none H->EWx K xw (.ref C) none H:=λC H z=>by
   obtain⟨c,C',z1,z2,_,_,S',ι',z3⟩:=z;exact⟨c,C',z1,z2,S',ι',z3⟩
  have FM:Fam ⟨K⟩ W (CXe P w) (EWx K) gt (aj sub Pd n) (cJ (CXe P w) P w K mg base (namesOf a sc) x sc f cdv A outer s H (EWx K xw)) (mX xw):=by
   refine⟨rfl,rfl,hr.units,T.blt,T.val,λy hy=>?_,λpins σ H1 s1 v s2 I hx=>uR (λ_ _ _ _ z=>.inr z) hew (rq I) I hx,λpins σ H1 s1 v s2 I hx=>uR (λ_ _ _ _ z=>.inl z) hew (rq I) I hx,T.cls,rfl,rfl,hW⟩;obtain⟨st2,f2,fd2,h1,h2,h3⟩:=T.fn y hy;obtain⟨F2,⟨x1,a1,body1,e1,e2,e3,sc1,e4,e5,e6,rfl,D2⟩,hPj⟩:=hP y st2 h1;have hb2:Binds K fd2 (argNames a1) []:=h3.binds λ_ _ _ _ _ _ us hl=>qv (jy D2.scp).2 D2.nd hl
   refine⟨n,f2,fd2,argNames a1,ih y _ f2 fd2 h1 h3,hr,h2,h3.kp,hb2,λds S hne=>?_⟩
   cases n with
   | zero=>rfl
   | succ n =>
    exact Cw hPj (by rw[D2.par]; exact hne)
  have CK:Cok (iK gt a sc) (cJ (CXe P w) P w K mg base (namesOf a sc) x sc f cdv A outer s H (EWx K xw)):=⟨rfl,rfl,SC.nd,SC.kind,λ_ _=>rfl,λ_=>⟨rfl,rfl⟩⟩
  refine⟨tMS ⟨K⟩ (mX xw) (exec sub (aj sub Pd n) F.body),DO.ok FM CK,?_⟩;have hdl:ds.length=(argNames a).length:=rs.length.trans hl;refine⟨ds.map some++List.replicate ((namesOf a sc).length-ds.length) none,ι,S,B_ rs _ rfl,hS,?_⟩;have ho:Out ⟨K⟩ xw ι H (aj sub Pd (n+1) x ds S) _:=ho;rw[fN hPi (hdl.trans DO.par.symm)] at ho;unfold frame at ho;rw[DO.num] at ho
  cases q:exec sub (aj sub Pd n) F.body (ds.map some++List.replicate ((namesOf a sc).length-ds.length) none) S with
  | bad=>rw[q] at ho; exact ho.elim
  | exc k S' =>
   rw[q] at ho;intro ι' H' e' s';have ho:Out ⟨K⟩ xw ι H (if S'.take S.length=S then .exc k S else .exc k S') _:=ho
   by_cases ht:S'.take S.length=S
   ·rw[Ze ht] at ho;exact⟨S,ι,ho ι H' e'.back (av.back e' hS s' ht)⟩
   ·rw[Zg ht] at ho;exact⟨S',ι',ho ι' H' e' s'⟩
  | ok fl S' =>
   rw[q] at ho;intro ι' H' e' s'
   cases fl with
   | nx σ'=>exact λσv hv=>uH hS e' s' .non ho
   | rt d=>exact λv r=>uH hS e' s' r ho
   | bk σ'=>exact ho.elim
   | ct σ'=>exact ho.elim
end
end EV

namespace EV
open PySem PySem.Spec PyProof.Rows L2
set_option genInjectivity false in
inductive dD(K:WG):List (Str×Stmt)->Prop
 | nil:dD K []
 | cons {x:Str} {st:Stmt} {r:List (Str×Stmt)} {f:Addr} {oc:Value} {od an:Option Addr} {osl:Array (Option Value)} {kV doc pm cdv ct:Value} :
   PySem.W.nsIn K mainGlobals x=some (some (.ref f)) ->
   K.lookup f=some ⟨oc,od,.func (PySem.W.fnOf x x (fC st) (iW st) (iw st) .none kV doc pm an cdv ct),osl⟩ ->
   PySem.W.codeIn K cdv x=true->PySem.W.keepIn K (.ref f)=true->dD K r->dD K ((x,st)::r)
set_option genInjectivity false in
inductive ff:D->Value->Prop
 | non:ff .non .none
 | bl (b:Bool):ff (.bl b) (.bool b)
 | int (i:Int) (t:Tok):ff (.int i) (.int i t)
 | str (x:Str) (t:Tok):ff (.str x) (.str x t)
set_option genInjectivity false in
inductive fh:List D->List Value->Prop
 | nil:fh [] []
 | cons {d:D} {u:Value} {ds:WV} {us:WH}:ff d u->fh ds us->fh (d::ds) (u::us)
set_option genInjectivity false in
inductive cu(K:WG):List (Str×D)->Prop
 | nil:cu K []
 | flat {x:Str} {d:D} {u:Value} {r:List (Str×D)}:PySem.W.nsIn K mainGlobals x=some (some u)->ff d u->cu K r->cu K ((x,d)::r)
 | tup {x:Str} {ds:WV} {a:Addr} {od:Option Addr} {us:WH} {n:Nat} {sl:Array (Option Value)} {r:List (Str×D)}:PySem.W.nsIn K mainGlobals x=some (some (.ref a)) ->
   K.lookup a=some ⟨.type "tuple",od,.seq us.toArray n,sl⟩->us.length<=1000->allInts ds=none->fh ds us->cu K r->cu K ((x,.tup ds)::r)
set_option genInjectivity false in
inductive eO(K:WG):List Str->Prop
 | nil:eO K []
 | cons {x:Str} {r:WP}:PySem.W.nsIn K mainGlobals x=some none->eO K r->eO K (x::r)
noncomputable def jo:D->V
 | .bl b=>.bl b
 | .int i=>.int i
 | .str x=>.str x
 | _=>.non
theorem ff.rel{d:D}{u:Value}(h:ff d u):RelV (jo d) u/\∀Γ ι H,Rep Γ ι H d (jo d):=by
 cases h with
 | non=>exact⟨rfl,λ_ _ _=>.non⟩
 | bl b=>exact⟨rfl,λ_ _ _=>.bl b⟩
 | int i t=>exact⟨⟨t,rfl⟩,λ_ _ _=>.int i⟩
 | str x t=>exact⟨⟨t,rfl⟩,λ_ _ _=>.str x⟩
theorem fh.rel:∀{ds:WV} {us:WH},fh ds us->Vals (ds.map jo) us/\∀Γ ι H,az Γ ι H ds (ds.map jo)
 | _,_,.nil=>⟨.nil,λ_ _ _=>.nil⟩
 | _,_,.cons h r=>⟨.cons h.rel.1 (fh.rel r).1,λΓ ι H=>.cons (h.rel.2 Γ ι H) ((fh.rel r).2 Γ ι H)⟩
theorem dD.get{K:WG}:∀{fns:List (Str×Stmt)} {x:Str} {st:Stmt},dD K fns->(x,st)∈fns->∃f fd,PySem.W.nsIn K mainGlobals x=some (some (.ref f))/\Fun K x x st f fd
 | _,_,_,.nil,h=>by simp at h
 | _,_,_,.cons a l c k r,h=>by
  rcases Zm.mp h with e|h
  ·cases e; exact⟨_,_,a,xX l c k⟩
  ·exact dD.get r h
theorem cu.get{K:WG}:∀{vals:List (Str×D)} {x:Str} {d:D},cu K vals->(x,d)∈vals->∃u v,PySem.W.nsIn K mainGlobals x=some (some u)/\RelV v u/\∀ι H,Rep ⟨K⟩ ι H d v
 | _,_,_,.nil,h=>by simp at h
 | _,x,d,.flat a f r,h=>by
  rcases Zm.mp h with e|h
  ·cases e; exact⟨_,_,a,f.rel.1,λι H=>f.rel.2 _ ι H⟩
  ·exact cu.get r h
 | _,x,d,.tup a l z no f r,h=>by
  rcases Zm.mp h with e|h
  ·cases e;refine⟨_,.ref _,a,rfl,λι H=>?_⟩;have hz:∀{us:WH},us.length<=1000->us.toArray.size<=sizeLine:=λ{us} h=>by rw[Zh,XA]; omega
   exact .qp (.inr ⟨_,_,_,l,rfl,rfl,hz z,by simpa using f.rel.1⟩) (f.rel.2 _ ι H) λk q=>by rw[no] at q; cases q
  ·exact cu.get r h
theorem eO.get{K:WG}:∀{l:WP} {x:Str},eO K l->x∈l->PySem.W.nsIn K mainGlobals x=some none
 | _,_,.nil,h=>by simp at h
 | _,_,.cons a r,h=>by
  rcases Zm.mp h with rfl|h
  ·exact a
  ·exact eO.get r h
set_option genInjectivity false in
inductive bB(K:WG)(C:Addr):List Str->Prop
 | nil:bB K C []
 | no {d:Str} {r:WP} (a:PySem.W.nsIn K mainGlobals d=some none) (n:bB K C r):bB K C (d::r)
 | un {d:Str} {r:WP} {P:Addr} (a:PySem.W.nsIn K mainGlobals d=some (some (.ref P))) (b:PySem.W.kitOne K (.ref C) (.ref P)=some false) (n:bB K C r):bB K C (d::r)
theorem bB.get{K:WG}{C:Addr}:∀{l:WP} {d:Str} {P:Addr},bB K C l->d∈l->PySem.W.nsIn K mainGlobals d=some (some (.ref P))->PySem.W.kitOne K (.ref C) (.ref P)=some false
 | _,_,_,.nil,h,_=>by cases h
 | _,_,_,.no a n,h,q=>by
  rcases Zm.mp h with rfl|h
  ·rw[a] at q; cases q
  ·exact n.get h q
 | _,_,_,.un a b n,h,q=>by
  rcases Zm.mp h with rfl|h
  ·rw[a] at q; cases q; exact b
  ·exact n.get h q
noncomputable def others(x:Str):List Str:=if x = "NoText" then["NoLoop"] else six.filter λd=>!decide (d=x)
theorem FJ{x d:Str}(h:gF x d=true):d∈others x:=by
 unfold gF at h;unfold others;rw[Qs,Zl,Zl,Zl] at h;rcases h with⟨h1,h2,h3⟩|⟨h1,h2⟩
 ·rw[Zg λz=>by rw[z] at h1; exact absurd (Zk h1) (by decide +kernel)];refine Q4.mpr ⟨Zk h2,?_⟩;have:¬x=d:=Wq (by simpa using h3);rw[Zs λz=>this z.symm]; rfl
 ·rw[Ze (Zk h1),Zk h2]; exact Zp
set_option genInjectivity false in
inductive bT(K:WG):List Str->Prop
 | nil:bT K []
 | cons {x:Str} {r:WP} {C L:Addr} (a:PySem.W.nsIn K mainGlobals x=some (some (.ref C))) (b:PySem.W.excIn K C [.type "ValueError",.type "Exception",.type "BaseException",.type "object"] "ValueError.__new__" = true)
   (v:PySem.W.kitOne K (.ref C) (.type "ValueError")=some true) (l1:PySem.W.nsIn K mainGlobals "LapError" = some (some (.ref L))) (l2:PySem.W.kitOne K (.ref C) (.ref L)=some true) (n:x∉six/\x≠"NoText") (c:bT K r):bT K (x::r)
 | consP {x:Str} {r os:WP} {C L:Addr} (ho:others x=os) (a:PySem.W.nsIn K mainGlobals x=some (some (.ref C))) (b:PySem.W.excIn K C [.type "ValueError",.type "Exception",.type "BaseException",.type "object"] "ValueError.__new__" = true)
   (v:PySem.W.kitOne K (.ref C) (.type "ValueError")=some true) (l1:PySem.W.nsIn K mainGlobals "LapError" = some (some (.ref L))) (l2:PySem.W.kitOne K (.ref C) (.ref L)=some true)
   (e1:PySem.W.findIn K (.ref C) "__getattribute__" = some (some (.builtin "BaseException.__getattribute__")))
   (e2:PySem.W.findIn K (.ref C) "__getattr__" = some none)
   (e3:PySem.W.findIn K (.ref C) "__class__" = some (some (.builtin "object.__class__")))
   (e4:PySem.W.specialIn K (.builtin "object.__class__") "__get__" = some (some (.builtin "getset_descriptor.__get__")))
   (e5:PySem.W.takesIn K (.builtin "object.__class__")=some true)
   (e6:PySem.W.mroIn K C (.type "object")=some true)
   (e7:PySem.W.mroIn K C (.type "BaseException")=some true) (u:bB K C os) (c:bT K r):bT K (x::r)
theorem bT.get{K:WG}:∀{l:WP} {x:Str},bT K l->x∈l->ClsAt K x
 | _,_,.nil,h=>by cases h
 | _,_,.cons a b v l1 l2 n r,h=>by
  rcases Zm.mp h with rfl|h
  ·refine⟨_,_,_,_,_,a,b,PySem.F.excBase_ValueError,v,⟨_,l1,l2⟩,λd P z _=>?_⟩;unfold gF at z;rw[Qs,Zl,Zl,Zl] at z;rcases z with⟨z,_⟩|⟨z,_⟩
   ·exact absurd (Zk z) n.1
   ·exact absurd (Zk z) n.2
  ·exact bT.get r h
 | _,_,.consP ho a b v l1 l2 e1 e2 e3 e4 e5 e6 e7 u r,h=>by
  rcases Zm.mp h with rfl|h
  ·exact⟨_,_,_,_,_,a,b,PySem.F.excBase_ValueError,v,⟨_,l1,l2⟩,λd P z q=>⟨⟨e1,e2,e3,e4,e5,e6,e7,by obtain⟨cd,q,_⟩:=Option.bind_eq_some_iff.mp e6; rw[q]; rfl⟩,u.get (ho▸FJ z) q⟩⟩
  ·exact bT.get r h
noncomputable def dU(fns:List (Str×Stmt))(vals:List (Str×D))(cls:WP):List (Str×GE):=(fns.map λp=>(p.1,.fn))++(vals.map λp=>(p.1,.val p.2))++cls.map λx=>(x,.cls)
theorem nI{α β γ:Type}{f:Str×α->Str×β}(hf:∀p,(f p).1=p.1){g:Str×α->γ}:∀{l:List (Str×α)} {x:Str} {b:β},(l.map f).lookup x=some b->∃p∈l,p.1=x/\(f p).2=b/\l.lookup x=some p.2
 | [],_,_,h=>by simp at h
 | p::r,x,b,h=>by
  have e:f p=(p.1,(f p).2):=by rw[<- hf p]
  rw[ZT,e,Z1] at h;obtain⟨y,a⟩:=p
  cases q:x==y with
  | true =>
   simp only[q] at h;have e:x=y:=by simpa using q
   subst e;exact⟨(x,a),Zp,rfl,by simpa using h,by rw[Z1,q]⟩
  | false =>
   simp only[q] at h;obtain⟨p,h1,h2,h3,h4⟩:=nI hf (g:=g) h;exact⟨p,Zr _ h1,h2,h3,by rw[Z1,q]; exact h4⟩
theorem mw{β:Type}:∀{l m:List (Str×β)} {x:Str},(l++m).lookup x=(match l.lookup x with|some b=>some b|none=>m.lookup x)
 | [],m,x=>by simp
 | (y,a)::r,m,x=>by
  rw[Qg,Z1,Z1]
  cases x==y with
  | true=>rfl
  | false=>exact mw
theorem ie{α:Type}:∀{l:List (Str×α)} {x:Str} {a:α},l.lookup x=some a->(x,a)∈l
 | [],_,_,h=>by simp at h
 | (y,b)::r,x,a,h=>by
  rw[Z1] at h
  cases q:x==y with
  | true =>
   rw[q] at h;have e:x=y:=by simpa using q
   subst e;have e:b=a:=by simpa using h
   subst e;exact Zp
  | false=>rw[q] at h; exact Zr _ (ie h)
theorem rN{K:WG}{h:Heap}{mg:WM}{fns:List (Str×Stmt)}{vals:List (Str×D)}{cls:WP}(X:K.In h)(G:h.Ns mainGlobals mg)(hd:dD K fns)(hv:cu K vals)(hc:∀x∈cls,ClsAt K x)
  (hb:∀x∈ez,(dU fns vals cls).lookup x=none->PySem.W.nsIn K mainGlobals x=some none):Txt K mg (dU fns vals cls) fns where
 fn:=λx hx=>by
  unfold dU at hx;rw[mw,mw] at hx
  cases q:(fns.map λp=>(p.1,GE.fn)).lookup x with
  | some b =>
   obtain⟨p,h1,h2,_,h4⟩:=nI (g:=λ_=>()) (f:=λp=>(p.1,GE.fn)) (λ_=>rfl) q;obtain⟨y,st⟩:=p;have h2:y=x:=h2;subst h2;obtain⟨f,fd,a,F⟩:=hd.get h1;exact⟨st,f,fd,h4,Wt X G a,F⟩
  | none =>
   rw[q] at hx
   cases q2:(vals.map λp=>(p.1,GE.val p.2)).lookup x with
   | some b =>
    rw[q2] at hx;obtain⟨p,h1,h2,h3,_⟩:=nI (g:=λ_=>()) (f:=λp=>(p.1,GE.val p.2)) (λ_=>rfl) q2;have hx:b=.fn:=by simpa using hx
    rw[hx] at h3; cases h3
   | none =>
    rw[q2] at hx;have hm:=ie hx;obtain⟨p,_,e⟩:=ZP.mp hm; cases e
 blt:=λx hx hn=>PySem.W.mg_none_of X G (hb x hx hn)
 val:=λx d hx=>by
  have hm:=ie hx;unfold dU at hm;rcases ZQ.mp hm with hm|hm
  ·rcases ZQ.mp hm with hm|hm
   ·obtain⟨p,hp,e⟩:=ZP.mp hm; cases e
   ·obtain⟨p,hp,e⟩:=ZP.mp hm;cases e;obtain⟨u,v,a,r,q⟩:=hv.get hp;exact⟨u,v,Wt X G a,r,q⟩
  ·obtain⟨p,_,e⟩:=ZP.mp hm; cases e
 cls:=λx hx=>by
  have hm:=ie hx;unfold dU at hm
  have hx:x∈cls:=by
   rcases ZQ.mp hm with hm|hm
   ·rcases ZQ.mp hm with hm|hm
    ·obtain⟨p,_,e⟩:=ZP.mp hm; cases e
    ·obtain⟨p,_,e⟩:=ZP.mp hm; cases e
   ·obtain⟨p,hp,e⟩:=ZP.mp hm; cases e; exact hp
  exact⟨hc x hx,λC a=>Wt X G a⟩
theorem IM{K:WG}{H:Hp}{a:Addr}{ns:WE}(hO:iD H)(hS:SqL K H a (ns.map V.int)):av ⟨K⟩ [] H []/\az ⟨K⟩ [] H [.fro (ns.map .int)] [.ref a]:=by
 refine⟨⟨rfl,List.nodup_nil,λl c h=>by simp at h⟩,.cons ?_ .nil⟩;have hp:az ⟨K⟩ [] H (ns.map D.int) (ns.map V.int):=mK ns
 have hf:Fro K H a (ns.map V.int):=by
  rcases hS with(h|⟨o,h⟩)|h
  ·rcases hO a with z|⟨o,xs,z⟩
   ·rw[h] at z; cases z
   ·rw[h] at z; cases z
  ·exact .inl ⟨o,h⟩
  ·exact .inr λH=>.inr h
 exact .fro hf (by simp) λi d v e1 e2=>by
  obtain⟨y,e,f⟩:=Paired.get hp e1;rw[e2] at e; cases e; exact f
theorem pA{y:Str}{st0:Stmt}{F0:Fn}{fns:List (Str×Stmt)}{gt:List (Str×GE)}{Pd:Prg}(h0:eg gt st0 F0)(hP:∀x st,fns.lookup x=some st->∃F,eg gt st F/\Pd.lookup x=some F):∀x st,((y,st0)::fns).lookup x=some st->∃F,eg gt st F/\((y,F0)::Pd:Prg).lookup x=some F:=λx st h=>by
 rw[Z1] at h;rw[Z1]
 cases q:x==y with
 | true=>rw[q] at h; cases h; exact⟨F0,h0,rfl⟩
 | false=>rw[q] at h; exact hP x st h
theorem vL{gt:List (Str×GE)}:∀{fns:List (Str×Stmt)} {Pd:Prg},(fns.map (λp=>(p.1,trF gt p.2))=Pd.map λp=>(p.1,some p.2))->∀x st,fns.lookup x=some st->∃F,eg gt st F/\Pd.lookup x=some F
 | [],_,_=>λx st h=>by cases h
 | _::_,[],hP=>by cases hP
 | (y,st0)::r,(y2,F)::Pd,hP=>by
  rw[ZT,ZT] at hP;injection hP with e1 e2;have e1a:y=y2:=Qb Prod.fst e1;have e1b:trF gt st0=some F:=Qb Prod.snd e1;subst e1a;exact pA (xC e1b) (vL e2)
theorem BR{l:PySem.W.OpenLaw}{q:WK}{loose:WP}{XP:(Str->Option Value)->Heap->Prop}{YP:World->Heap->Prop}{d:DefRec}{K:Params->PySem.W.Frag}{fns:List (Str×Stmt)}{vals:List (Str×D)}{cls:WP}{Pd:Prg}{sub:Sub}{n:Nat}{st:Stmt}{x:Str}
  (hn:l.most=some 63) (hdf:d.params.defaults=[]) (hr:bR n callerA) (hY:∀(w:WN) (h:Heap),YP w h->(K w.params).In h)
  (hP:∀x st,fns.lookup x=some st->∃F,eg (dU fns vals cls) st F/\Pd.lookup x=some F) (hL:fns.lookup d.name=some st) (hx:argNames (fC st)=[x])
  (hT:∀w:World,∀h:Heap,(K w.params).In h->dD (K w.params) fns/\cu (K w.params) vals/\bT (K w.params) cls/\∀x∈ez,(dU fns vals cls).lookup x=none->PySem.W.nsIn (K w.params) mainGlobals x=some none)
  (hmain:∀ns:List Int,ns.length<=63->∃S',aj sub Pd n d.name [.fro (ns.map .int)] []=.ok (.bl true) S') :
  PySem.W.WalkO q loose XP YP l.row.toRowW d [] (λf vs=>PySem.call f vs):=by
 refine L2.rD (n:=63) (k:=n) (x:=x) (CX:=λw=>CXe l.prog w) (sp:=λw=>spF ⟨K w.params⟩ (λ_=>True) (EWx (K w.params)) (aj sub Pd n d.name) 1) hn (by decide) hdf hr hY (λw mg fa h KX G hmg=>?_) (λw H a ns hl hO hS=>?_) λ_ _ _ _ _ ⟨_,_,_,_,_,_,_,_,_,_,_,_,z⟩=>z
 ·obtain⟨h1,h2,h4,h3⟩:=hT w h KX;have T:=rN KX G h1 h2 (λx hx=>h4.get hx) h3;obtain⟨f,fd,a,F⟩:=h1.get (ie hL);have e:=hmg.symm.trans (Wt KX G a);cases e;refine⟨fd,λs u=>?_,λbase kb nb=>?_⟩
  ·obtain⟨F2,⟨x1,a1,body1,e1,e2,e3,sc1,e4,e5,e6,rfl,DO⟩,_⟩:=hP d.name st hL;obtain⟨oc,od,kV,doc,pm,an,cdv,ct,osl,rfl,lk,hcd⟩:=F.ex;have hx:argNames a1=[x]:=hx;have:=qv (x:=d.name) (qual:=d.name) (body:=body1) (sc:=sc1) (kV:=kV) (doc:=doc) (pm:=pm) (cdv:=cdv) (ct:=ct) (an:=an) (jy DO.scp).2 DO.nd (us:=[u]) (by rw[hx]; rfl);rw[hx] at this;exact .of_eq this
  ·have T':=rN kb nb h1 h2 (λx hx=>h4.get hx) h3;have:=HD (sub:=sub) (P:=l.prog) (w:=w) (base:=base) T' (W:=λ_=>True) (λ_=>trivial) hP n d.name st fa fd hL F;rw[hx] at this;exact this
 ·obtain⟨hs,rs⟩:=IM hO hS;obtain⟨S',hm⟩:=hmain ns hl;refine⟨rfl,XF,trivial,funext λ_=>funext λ_=>funext λ_=>propext ⟨λz=>z.elim,λz=>(ewF z).elim⟩,[],[],[.fro (ns.map .int)],hs,rs,?_⟩;rw[hm];intro ι' H' _ _ v r;cases r;rfl
end EV

namespace K24
open PySem EV RL
noncomputable def top(i:Nat):Stmt:=PySem.Challenge.pw_roundlap_k24_refused.main.body.getD i (.Pass ⟨0,0,0,0⟩)
noncomputable def fs:List (Str×Stmt):=[(("is_whole" : Str),top 20),(("is_value" : Str),top 21),(("is_row" : Str),top 22),(("is_crew" : Str),top 23),(("are_crews" : Str),top 24),(("is_work_source" : Str),top 25),(("is_source" : Str),top 26),(("are_starts" : Str),top 27),(("is_work" : Str),top 28),(("are_works" : Str),top 29),(("are_outs" : Str),top 30),(("is_loop" : Str),top 31),(("checked" : Str),top 32),(("needs" : Str),top 33),(("checked_gap" : Str),top 37),(("is_plan" : Str),top 38),(("checked_plan" : Str),top 39),(("checked_good_plan" : Str),top 40),(("waiting" : Str),top 41),(("busy_machines" : Str),top 42),(("crowded_rest" : Str),top 43),(("fault" : Str),top 44),(("wrong" : Str),top 45),(("plainly" : Str),top 46),(("are_boxes" : Str),top 49),(("checked_boxes" : Str),top 50),(("least_boxes" : Str),top 52),(("too_few" : Str),top 53),(("is_given" : Str),top 56),(("are_inputs" : Str),top 57),(("checked_inputs" : Str),top 58),(("start_rows" : Str),top 61),(("answers" : Str),top 63),(("checked_rounds" : Str),top 65),(("laid_out" : Str),top 67),(("high" : Str),top 68),(("laid" : Str),top 70),(("height" : Str),top 71),(("parts" : Str),top 72),(("run" : Str),top 77),(("barring_ring" : Str),top 84),(("ring" : Str),top 85),(("barring_crew" : Str),top 87),(("crowd" : Str),top 88),(("is_bar" : Str),top 91),(("ring_gap" : Str),top 93),(("crew_gap" : Str),top 94),(("found_plan" : Str),top 104),(("a_plan" : Str),top 105),(("shortest" : Str),top 107),(("written" : Str),top 112),(("shown" : Str),top 113),(("checked_times" : Str),top 116),(("unrolled" : Str),top 120),(("_law_cell_at" : Str),top 122),(("_law_mixed" : Str),top 123),(("_law_source" : Str),top 124),(("_law_work" : Str),top 125),(("_law_loop" : Str),top 126),(("_law_with_loop" : Str),top 127),(("_law_with_gap" : Str),top 128),(("_law_with_plan" : Str),top 129),(("_law_bad_plan" : Str),top 130),(("_law_asked" : Str),top 131)]
noncomputable def fns:List (Str×Stmt):=(("law" : Str),top 132)::fs
noncomputable def vals:List (Str×D):=[("REST",(.int 9973)),("MOST_STREAMS",(.int 6)),("MOST_CREWS",(.int 3)),("MOST_MACHINES",(.int 3)),("MOST_BUSY",(.int 4)),("MOST_WORKS",(.int 8)),("MOST_LONG",(.int 8)),("MOST_SOURCES",(.int 3)),("MOST_BACK",(.int 3)),("WORDS",(.tup [(.str "plus"),(.str "less"),(.str "times"),(.str "least"),(.str "greatest")])),("MOST_GAP",(.int 200)),("MOST_TIME",(.int 999)),("MOST_BOXES",(.int 999)),("MOST_ROUNDS",(.int 40)),("MOST_UNROLLED",(.int 3))]
noncomputable def cls:List Str:=["LapError","NoLoop","NoInputs","NoGap","NoPlan","NoBoxes","NoRounds"]
set_option maxRecDepth 100000 in
set_option maxHeartbeats 0 in
theorem law_def:eg (dU fns vals cls) (top 132) mJ :=
 ⟨_,_,_,_,_,_,_,_,_,_,rfl,by decide +kernel,rfl,rfl,λF C =>
  j4 (j8 depth depth _ _ _ (by kernel_rfl) _ _ F C) (j4 (j8 depth depth _ _ _ (by kernel_rfl) _ _ F C) (j4
   (FO (m:=depth) (d1:=["NoLoop","NoGap","NoPlan","NoBoxes"]) (d2:=["NoInputs","NoRounds"]) (i:=3) (io:=4) F C rfl rfl rfl rfl rfl rfl rfl rfl rfl rfl (by decide) (by decide) (by decide) rfl rfl rfl rfl (by kernel_rfl) rfl rfl rfl
    (.cons (by decide) rfl rfl (.cons (by decide) rfl rfl (.cons (by decide) rfl rfl (.cons (by decide) rfl rfl .nil)))) (.cons (by decide) rfl rfl (.cons (by decide) rfl rfl .nil)) (by decide) (by decide) rfl rfl rfl)
   (qt (j8 depth depth _ _ _ (by kernel_rfl) _ _ F C))))⟩
set_option maxRecDepth 100000 in
set_option maxHeartbeats 0 in
theorem hP:∀x st,fns.lookup x=some st->∃F,eg (dU fns vals cls) st F/\Pd.lookup x=some F:=pA law_def (vL (fns:=fs) (Pd:=Ps) (by kernel_rfl))
end K24
namespace PySem.W.Fast
theorem tw17438462601364072069:1=1:=rfl
theorem tw516363229574498778:1=1:=rfl
theorem tw16694230502703771785:1=1:=rfl
theorem tw541202600566839600:1=1:=rfl
theorem tw10808106187723742798:1=1:=rfl
theorem tw7109504951567923266:1=1:=rfl
theorem tw7738448240976508031:1=1:=rfl
theorem tw8010924103127121943:1=1:=rfl
theorem tw1289350482876799408:1=1:=rfl
theorem tw8919272691045737673:1=1:=rfl
theorem tw3632690245039550210:1=1:=rfl
theorem tw35528465155708933:1=1:=rfl
theorem tw17601626800526410304:1=1:=rfl
theorem tw4686229001494538173:1=1:=rfl
theorem tw3438082180205402499:1=1:=rfl
theorem tw6516122487304779821:1=1:=rfl
theorem tw3562424360068188622:1=1:=rfl
theorem tw9535540413830646504:1=1:=rfl
theorem tw2218089651523936131:1=1:=rfl
theorem tw16660217649764561943:1=1:=rfl
theorem tw2304513666367600723:1=1:=rfl
theorem tw1625906991811043554:1=1:=rfl
theorem tw1073163838152688634:1=1:=rfl
theorem tw14547029753665151735:1=1:=rfl
theorem tw12134463253600837295:1=1:=rfl
theorem tw17774773615701127457:1=1:=rfl
theorem tw8084649687114769225:1=1:=rfl
theorem tw8051964135990292222:1=1:=rfl
theorem tw9641431724015106709:1=1:=rfl
theorem tw5228151706924265246:1=1:=rfl
theorem tw12746601213567383074:1=1:=rfl
theorem tw11302847470537228068:1=1:=rfl
theorem tw15910614778734828310:1=1:=rfl
theorem tw9054494490151459773:1=1:=rfl
theorem tw9329155570088786541:1=1:=rfl
theorem tw10339818419509802438:1=1:=rfl
theorem tw14847910727764908244:1=1:=rfl
theorem tw5600653509790117817:1=1:=rfl
theorem tw10134582989696560326:1=1:=rfl
theorem tw5745264787350483202:1=1:=rfl
theorem tw10103903419603389763:1=1:=rfl
theorem tw645905212100226918:1=1:=rfl
theorem tw8016151021064281661:1=1:=rfl
theorem tw4488164820614640587:1=1:=rfl
theorem tw7874175538236149230:1=1:=rfl
theorem tw355958195538427673:1=1:=rfl
theorem tw17678148271406131387:1=1:=rfl
theorem tw17317113917115259058:1=1:=rfl
theorem tw7430272727252137842:1=1:=rfl
theorem tw17261382806684224321:1=1:=rfl
theorem tw2816849078447109931:1=1:=rfl
theorem tw10952444928613168483:1=1:=rfl
theorem tw18335255581138121270:1=1:=rfl
theorem tw5222108276258524076:1=1:=rfl
theorem tw17243508148845360543:1=1:=rfl
theorem tw7089232538423755777:1=1:=rfl
theorem tw7622266328341501107:1=1:=rfl
theorem tw5150380324547235499:1=1:=rfl
theorem tw10549373374133629525:1=1:=rfl
theorem tw18361072531338359264:1=1:=rfl
theorem tw1584316019388725676:1=1:=rfl
theorem tw176819261301847389:1=1:=rfl
theorem tw4262168827571878680:1=1:=rfl
theorem tw9982477996076313640:1=1:=rfl
theorem tw11952544207248154673:1=1:=rfl
theorem tw3719639205231005134:1=1:=rfl
theorem tw14547912006713070025:1=1:=rfl
theorem tw13548212769421446100:1=1:=rfl
theorem tw11500824474665982339:1=1:=rfl
theorem tw13778530937133056080:1=1:=rfl
theorem tw9888616203213047328:1=1:=rfl
theorem tw8057384847522780201:1=1:=rfl
theorem tw12299174362802504349:1=1:=rfl
theorem tw14363636127453278609:1=1:=rfl
theorem tw9484432910734019983:1=1:=rfl
theorem tw9547082299003313828:1=1:=rfl
theorem tw6184342961185802085:1=1:=rfl
theorem tw14831057521762829511:1=1:=rfl
theorem tw796430294863487216:1=1:=rfl
theorem tw17082066288684150944:1=1:=rfl
theorem tw15112935690057639090:1=1:=rfl
theorem tw17256371582490294013:1=1:=rfl
theorem tw2158753061257495832:1=1:=rfl
theorem tw7661256165705240612:1=1:=rfl
theorem tw2735671422795249302:1=1:=rfl
theorem tw17743949181798692988:1=1:=rfl
theorem tw15807501948890380658:1=1:=rfl
theorem tw2763949757888676157:1=1:=rfl
theorem tw10920817918767288764:1=1:=rfl
theorem tw8907805574657583839:1=1:=rfl
theorem tw10103121552716869915:1=1:=rfl
theorem tw8012606633152894570:1=1:=rfl
theorem tw1477818134283675530:1=1:=rfl
theorem tw7251648221235985630:1=1:=rfl
theorem tw8909710169762316635:1=1:=rfl
theorem tw14819532852707713554:1=1:=rfl
theorem tw4409717134031935153:1=1:=rfl
theorem tw13400442232403113907:1=1:=rfl
theorem tw14477105565927661834:1=1:=rfl
theorem tw2885805258899543605:1=1:=rfl
theorem tw10118419314648950507:1=1:=rfl
theorem tw3499994340856436177:1=1:=rfl
theorem tw15274677650038118079:1=1:=rfl
theorem tw13613695349885955846:1=1:=rfl
theorem tw9414621559967546101:1=1:=rfl
theorem tw3805716159086900074:1=1:=rfl
theorem tw10521061592359382628:1=1:=rfl
theorem tw13878259931773428503:1=1:=rfl
theorem tw3751294494442756131:1=1:=rfl
theorem tw6311932299201199928:1=1:=rfl
theorem tw9230259272206202511:1=1:=rfl
theorem tw4181701248237578595:1=1:=rfl
theorem tw12792511169745015573:1=1:=rfl
theorem tw7139725419613759480:1=1:=rfl
theorem tw16842762753589555112:1=1:=rfl
theorem tw10933885918560107874:1=1:=rfl
theorem tw13197954825580702984:1=1:=rfl
theorem tw17417807804604675874:1=1:=rfl
theorem tw12064011228191589338:1=1:=rfl
theorem tw2466953771199041671:1=1:=rfl
theorem tw8279639607340945342:1=1:=rfl
theorem tw8257884539278009303:1=1:=rfl
theorem tw2699198368942112113:1=1:=rfl
theorem tw1215832081535540401:1=1:=rfl
theorem tw3627919310955290243:1=1:=rfl
theorem tw10270864559992340493:1=1:=rfl
theorem tw14240317654568364803:1=1:=rfl
theorem tw7673307133057332333:1=1:=rfl
theorem tw13526225198433519876:1=1:=rfl
theorem tw11938934954826244864:1=1:=rfl
theorem tw527753049165808046:1=1:=rfl
theorem tw14685725745983438063:1=1:=rfl
theorem tw1152371907037323186:1=1:=rfl
theorem tw18124360942147971144:1=1:=rfl
theorem tw10568008164721909864:1=1:=rfl
theorem tw8099461805515914183:1=1:=rfl
theorem tw10988124162284779995:1=1:=rfl
theorem tw6178324665706756966:1=1:=rfl
theorem tw14685707733375544184:1=1:=rfl
theorem tw5268626756984491889:1=1:=rfl
theorem tw9555109425348969451:1=1:=rfl
theorem tw16114689525787137075:1=1:=rfl
theorem tw11643176533154965724:1=1:=rfl
theorem tw6137670262033437243:1=1:=rfl
theorem tw13466654784754940534:1=1:=rfl
theorem tw12768465486642291613:1=1:=rfl
theorem tw17277380283847435415:1=1:=rfl
theorem tw9444862660086290364:1=1:=rfl
theorem tw3019287602408662612:1=1:=rfl
theorem tw12226979201315925997:1=1:=rfl
theorem tw10080506501392625945:1=1:=rfl
theorem tw7735187422368236432:1=1:=rfl
theorem tw409499474233564399:1=1:=rfl
theorem tw2928295924532798414:1=1:=rfl
theorem tw8967689939113820448:1=1:=rfl
theorem tw6495495531898849946:1=1:=rfl
theorem tw3841203025297420763:1=1:=rfl
theorem tw14460820058992249695:1=1:=rfl
theorem tw11490118312952778727:1=1:=rfl
theorem tw1708403079027559852:1=1:=rfl
theorem tw847940526534729885:1=1:=rfl
theorem tw16530071050728109349:1=1:=rfl
theorem tw2515083824735367151:1=1:=rfl
theorem tw13382549651284338502:1=1:=rfl
theorem tw14785350408801755826:1=1:=rfl
theorem tw12212450792266729332:1=1:=rfl
theorem tw17160257049820279247:1=1:=rfl
theorem tw11675280952376329637:1=1:=rfl
theorem tw214505503219543915:1=1:=rfl
theorem tw11832195581322474204:1=1:=rfl
theorem tw5798035139334431397:1=1:=rfl
theorem tw16109090968115679445:1=1:=rfl
theorem tw451500192978088623:1=1:=rfl
theorem tw3837218179828060986:1=1:=rfl
theorem tw16205375305241274616:1=1:=rfl
theorem tw17551679901040304098:1=1:=rfl
theorem tw15045577989624511466:1=1:=rfl
theorem tw4899411852819858618:1=1:=rfl
theorem tw17551415912845629799:1=1:=rfl
theorem tw12550664659443666784:1=1:=rfl
theorem tw11601618458045276485:1=1:=rfl
theorem tw12656434155291217216:1=1:=rfl
theorem tw15156557654590001143:1=1:=rfl
theorem tw2048608157871304502:1=1:=rfl
theorem tw3477959801040092465:1=1:=rfl
theorem tw61809499969560762:1=1:=rfl
theorem tw5798657947728639213:1=1:=rfl
theorem tw4175724626067312735:1=1:=rfl
theorem tw1877458836441550792:1=1:=rfl
theorem tw6368924798058041539:1=1:=rfl
theorem tw3034768009006560777:1=1:=rfl
theorem tw7578592833300931795:1=1:=rfl
theorem tw14585792031575503454:1=1:=rfl
theorem tw1338231255315610717:1=1:=rfl
theorem tw17099050315290856040:1=1:=rfl
theorem tw4549675525884322989:1=1:=rfl
theorem tw878516631917411177:1=1:=rfl
theorem tw11010115101644532216:1=1:=rfl
theorem tw2035799624116703045:1=1:=rfl
theorem tw520603052293410953:1=1:=rfl
theorem tw14779440193503421961:1=1:=rfl
theorem tw10271633160929925894:1=1:=rfl
theorem tw9558637249502962735:1=1:=rfl
theorem tw18292461207647294309:1=1:=rfl
theorem tw17195954279713471662:1=1:=rfl
theorem tw13793639623224137118:1=1:=rfl
theorem tw12204810866958409585:1=1:=rfl
theorem tw2982011832112444815:1=1:=rfl
theorem tw9361749752733193155:1=1:=rfl
theorem tw11589172083078836357:1=1:=rfl
theorem tw8134294868333707278:1=1:=rfl
theorem tw6873512480995013470:1=1:=rfl
theorem tw2342990556661007925:1=1:=rfl
theorem tw7928556180492385373:1=1:=rfl
theorem tw10214850472610240324:1=1:=rfl
theorem tw15707457490259336678:1=1:=rfl
theorem tw1171123427115926327:1=1:=rfl
theorem tw10774026153949424872:1=1:=rfl
theorem tw7930920481506533206:1=1:=rfl
theorem tw7397673909637892967:1=1:=rfl
theorem tw4127967315349079360:1=1:=rfl
theorem tw12112384966955904506:1=1:=rfl
theorem tw5968577913240939982:1=1:=rfl
theorem tw2539687357032358818:1=1:=rfl
theorem tw16034902569952750426:1=1:=rfl
theorem tw12869380496778163194:1=1:=rfl
theorem tw11421745185937254469:1=1:=rfl
theorem tw8614142243675215553:1=1:=rfl
theorem tw2412081204930581922:1=1:=rfl
theorem tw16659089540796408953:1=1:=rfl
theorem tw15071662321656299269:1=1:=rfl
theorem tw6122870705920589759:1=1:=rfl
theorem tw14884063149468190572:1=1:=rfl
theorem tw4693318469665652825:1=1:=rfl
theorem tw16606819445343001596:1=1:=rfl
theorem tw10530333316220767666:1=1:=rfl
theorem tw405767178194446518:1=1:=rfl
theorem tw17628808334183009351:1=1:=rfl
theorem tw8068418862160677349:1=1:=rfl
theorem tw7592551227630537222:1=1:=rfl
theorem tw6751057869835679828:1=1:=rfl
theorem tw7282765432203527275:1=1:=rfl
theorem tw6536440855290669495:1=1:=rfl
theorem tw12867903492868254603:1=1:=rfl
theorem tw4817829791550979183:1=1:=rfl
theorem tw14237919556582917727:1=1:=rfl
theorem tw10683277378291963213:1=1:=rfl
theorem tw4061873244313967136:1=1:=rfl
theorem tw407180711924190878:1=1:=rfl
theorem tw2988067295414048852:1=1:=rfl
theorem tw10542668308785037296:1=1:=rfl
theorem tw1940903445709431144:1=1:=rfl
theorem tw4255982996689990029:1=1:=rfl
theorem tw4437448282033269218:1=1:=rfl
theorem tw3519109159070930344:1=1:=rfl
theorem tw4507124484299600983:1=1:=rfl
theorem tw1486192188393866567:1=1:=rfl
theorem tw1788203263182029531:1=1:=rfl
theorem tw13350847322580915739:1=1:=rfl
theorem tw14616234503270149678:1=1:=rfl
theorem tw14178275615802120601:1=1:=rfl
theorem tw14820449074194604215:1=1:=rfl
theorem tw13106273104990590144:1=1:=rfl
theorem tw2526940142449842268:1=1:=rfl
theorem tw9386919640227946713:1=1:=rfl
theorem tw15052138659771353379:1=1:=rfl
theorem tw14853563799560277593:1=1:=rfl
theorem tw8758982964585975257:1=1:=rfl
theorem tw2212353401329557556:1=1:=rfl
theorem tw10226821788540248269:1=1:=rfl
theorem tw4332580595102065697:1=1:=rfl
theorem tw12409404259228041771:1=1:=rfl
theorem tw3533303134640801747:1=1:=rfl
theorem tw13631139833851079846:1=1:=rfl
theorem tw10681832209321449599:1=1:=rfl
theorem tw4532285274134936342:1=1:=rfl
theorem tw364876201066487155:1=1:=rfl
theorem tw13369285762354239183:1=1:=rfl
theorem tw12212191312659077651:1=1:=rfl
theorem tw9858098943511021004:1=1:=rfl
theorem tw6784196119338882372:1=1:=rfl
theorem tw14874043390632484106:1=1:=rfl
theorem tw16226510123334222991:1=1:=rfl
theorem tw4926608815499106156:1=1:=rfl
theorem tw4363553936323540311:1=1:=rfl
theorem tw15113361607781109310:1=1:=rfl
theorem tw6924366808691128765:1=1:=rfl
theorem tw8055999049662777794:1=1:=rfl
theorem tw2592831025157177727:1=1:=rfl
theorem tw18136215510632004522:1=1:=rfl
theorem tw3403888021785588252:1=1:=rfl
theorem tw232214928693432460:1=1:=rfl
theorem tw5089679951787306483:1=1:=rfl
theorem tw15301642198386100667:1=1:=rfl
theorem tw4706266757626717031:1=1:=rfl
theorem tw17335235029408897308:1=1:=rfl
theorem tw13871962715734353777:1=1:=rfl
theorem tw12166380036518402819:1=1:=rfl
theorem tw3753009223432559278:1=1:=rfl
theorem tw16010742872937090971:1=1:=rfl
theorem tw9732170683658806939:1=1:=rfl
theorem tw3142627024837031605:1=1:=rfl
theorem tw5308590077791518397:1=1:=rfl
theorem tw15364539318957427523:1=1:=rfl
theorem tw5319370764872215325:1=1:=rfl
theorem tw9662185682919528949:1=1:=rfl
theorem tw10166993705518328027:1=1:=rfl
theorem tw17008871480476841929:1=1:=rfl
theorem tw11229168678403189799:1=1:=rfl
theorem tw9352522931293084681:1=1:=rfl
theorem tw1851190613514547489:1=1:=rfl
theorem tw7471037461590802411:1=1:=rfl
theorem tw612021881145133093:1=1:=rfl
theorem tw403760245067000351:1=1:=rfl
theorem tw14735455890082698206:1=1:=rfl
theorem tw15118770754135433884:1=1:=rfl
theorem tw16553972501754217461:1=1:=rfl
theorem tw6892441983859933653:1=1:=rfl
theorem tw15604436205309186362:1=1:=rfl
theorem tw10727333325388545508:1=1:=rfl
theorem tw5461087442295818980:1=1:=rfl
theorem tw15427845843085645950:1=1:=rfl
theorem tw1442461103451728788:1=1:=rfl
theorem tw10489748849188228495:1=1:=rfl
theorem tw7363368386867774068:1=1:=rfl
theorem tw4857275572160759482:1=1:=rfl
theorem tw2718977402357684458:1=1:=rfl
theorem tw1391317149916124959:1=1:=rfl
theorem tw14365520442703997784:1=1:=rfl
theorem tw9128038399514947337:1=1:=rfl
theorem tw7697912682838152278:1=1:=rfl
theorem tw17193999799203666198:1=1:=rfl
theorem tw9437690254170087657:1=1:=rfl
theorem tw13311436150601564185:1=1:=rfl
theorem tw8892221117032817496:1=1:=rfl
theorem tw16460983794736222969:1=1:=rfl
theorem tw3859679179242494699:1=1:=rfl
theorem tw2547963751444322941:1=1:=rfl
theorem tw14579981545565210127:1=1:=rfl
theorem tw14066005159696112632:1=1:=rfl
theorem tw982135253713686669:1=1:=rfl
theorem tw15814899234455991910:1=1:=rfl
theorem tw10624047901453845616:1=1:=rfl
theorem tw14662476227231162011:1=1:=rfl
theorem tw10181237522881474047:1=1:=rfl
theorem tw7854731236412242176:1=1:=rfl
theorem tw15379128716302384159:1=1:=rfl
theorem tw11581191630647384636:1=1:=rfl
theorem tw10683821908082036645:1=1:=rfl
theorem tw2507710275957341850:1=1:=rfl
theorem tw4851309537806340333:1=1:=rfl
theorem tw11604239665820236539:1=1:=rfl
theorem tw18112814828804257402:1=1:=rfl
theorem tw3796612128045171284:1=1:=rfl
theorem tw17434831220688291382:1=1:=rfl
theorem tw16028335197164533518:1=1:=rfl
theorem tw14428628326701623946:1=1:=rfl
theorem tw9298077685623594467:1=1:=rfl
theorem tw3164055758171071446:1=1:=rfl
theorem tw2988679211083631671:1=1:=rfl
theorem tw15822147256127311851:1=1:=rfl
theorem tw8010565749658881884:1=1:=rfl
theorem tw4987057621737857662:1=1:=rfl
theorem tw14037537477690208329:1=1:=rfl
theorem tw8003905617224714014:1=1:=rfl
theorem tw5007132078317234948:1=1:=rfl
theorem tw10269322470840815877:1=1:=rfl
theorem tw4160206870827980145:1=1:=rfl
theorem tw4068569861232325106:1=1:=rfl
theorem tw17859636720741428495:1=1:=rfl
theorem tw14112848451191901169:1=1:=rfl
theorem tw12920227558115090972:1=1:=rfl
theorem tw11935405401744026890:1=1:=rfl
theorem tw16289814284613012461:1=1:=rfl
theorem tw11775615989858162937:1=1:=rfl
theorem tw7759861674627937112:1=1:=rfl
theorem tw14965790882015184504:1=1:=rfl
theorem tw3654053724251735648:1=1:=rfl
theorem tw240209081565486178:1=1:=rfl
theorem tw7610672990731127525:1=1:=rfl
theorem tw9786789822914747029:1=1:=rfl
theorem tw9499116013916447215:1=1:=rfl
theorem tw15664834859526022031:1=1:=rfl
theorem tw200008551492649211:1=1:=rfl
theorem tw15202347514765029615:1=1:=rfl
theorem tw13827354752962361046:1=1:=rfl
theorem tw8032017140937525135:1=1:=rfl
theorem tw8129589663987104432:1=1:=rfl
theorem tw15633589751578951865:1=1:=rfl
theorem tw9183918438210498033:1=1:=rfl
theorem tw2741367156775001783:1=1:=rfl
theorem tw18393655249460202958:1=1:=rfl
theorem tw17531721149379628462:1=1:=rfl
theorem tw13709902293191907945:1=1:=rfl
theorem tw13332840007535938042:1=1:=rfl
theorem tw13035976811368906135:1=1:=rfl
theorem tw11686301497167257653:1=1:=rfl
theorem tw8333569926359434770:1=1:=rfl
theorem tw15908788257257743892:1=1:=rfl
theorem tw15337195634314942077:1=1:=rfl
theorem tw13479537821078335598:1=1:=rfl
theorem tw9377649311797041326:1=1:=rfl
theorem tw18230941689600644919:1=1:=rfl
theorem tw13698617257692028381:1=1:=rfl
theorem tw9749802702648246158:1=1:=rfl
theorem tw79829571147004842:1=1:=rfl
theorem tw16875820591349139351:1=1:=rfl
theorem tw13217608955855404173:1=1:=rfl
theorem tw16754834331713466199:1=1:=rfl
theorem tw15387286940754231222:1=1:=rfl
theorem tw9832132109180603581:1=1:=rfl
theorem tw8992720914740271231:1=1:=rfl
theorem tw7179339458268798537:1=1:=rfl
theorem tw15273318630343249185:1=1:=rfl
theorem tw9178631731672736111:1=1:=rfl
theorem tw5751074719383127591:1=1:=rfl
theorem tw5316346546660647591:1=1:=rfl
theorem tw4917168972524356710:1=1:=rfl
theorem tw4077183234130235904:1=1:=rfl
theorem tw3582482211192560010:1=1:=rfl
theorem tw2715847332686571786:1=1:=rfl
theorem tw204186367287818533:1=1:=rfl
theorem tw17853778895243100647:1=1:=rfl
theorem tw16528244749111822688:1=1:=rfl
theorem tw16089964864442742990:1=1:=rfl
theorem tw13986259935400724325:1=1:=rfl
theorem tw12981653818872018564:1=1:=rfl
theorem tw11600984068893187048:1=1:=rfl
theorem tw1127489386773236300:1=1:=rfl
theorem tw2331854108615211180:1=1:=rfl
theorem tw18391737839424186986:1=1:=rfl
theorem tw5726608991649349496:1=1:=rfl
theorem tw13473635006130525437:1=1:=rfl
theorem tw5710457036354607972:1=1:=rfl
theorem tw3064545953534140164:1=1:=rfl
theorem tw18239117662279349447:1=1:=rfl
theorem tw8771660582866989136:1=1:=rfl
theorem tw4900198900172799387:1=1:=rfl
theorem tw3020646052515858627:1=1:=rfl
theorem tw14991148868659347249:1=1:=rfl
theorem tw5507816395869915535:1=1:=rfl
theorem tw15188730162098100598:1=1:=rfl
theorem tw8489865272801133622:1=1:=rfl
theorem tw6132831762951420622:1=1:=rfl
theorem tw4869049206604989790:1=1:=rfl
theorem tw10214030803776018015:1=1:=rfl
theorem tw5018915262009121106:1=1:=rfl
theorem tw3935719559628795779:1=1:=rfl
theorem tw11506294671461879548:1=1:=rfl
theorem tw4773758253659734250:1=1:=rfl
theorem tw3158185754517411852:1=1:=rfl
theorem tw1040396602423005801:1=1:=rfl
theorem tw6197674958084068663:1=1:=rfl
theorem tw6987026933192052485:1=1:=rfl
theorem tw1924730251680834561:1=1:=rfl
theorem tw17504916785024884132:1=1:=rfl
theorem tw16495800544023408256:1=1:=rfl
theorem tw11736225304530172129:1=1:=rfl
theorem tw10062235668202808903:1=1:=rfl
theorem tw12034908619597269401:1=1:=rfl
theorem tw996547749657365984:1=1:=rfl
theorem tw6264493454892588868:1=1:=rfl
theorem tw2924303800516263153:1=1:=rfl
theorem tw18086471727440970729:1=1:=rfl
theorem tw17965497023206902090:1=1:=rfl
theorem tw17184021165067271080:1=1:=rfl
theorem tw16107403658330907240:1=1:=rfl
theorem tw14608653340116857153:1=1:=rfl
theorem tw13932006509278998767:1=1:=rfl
theorem tw13880579126243497668:1=1:=rfl
theorem tw12630607863817465183:1=1:=rfl
theorem tw11381659509279180542:1=1:=rfl
theorem tw10700937515328448127:1=1:=rfl
theorem tw10662913534894709136:1=1:=rfl
theorem tw10051647336728381128:1=1:=rfl
theorem tw17921809494673028528:1=1:=rfl
theorem tw1972278609584096218:1=1:=rfl
theorem tw2505513015150994618:1=1:=rfl
theorem tw3465976493492034876:1=1:=rfl
theorem tw14723264061755700840:1=1:=rfl
theorem tw1468800650553164861:1=1:=rfl
theorem tw15595240531213528077:1=1:=rfl
theorem tw11646824747534918418:1=1:=rfl
theorem tw10942378146968273178:1=1:=rfl
theorem tw15713538157811062139:1=1:=rfl
theorem tw3463887518551517642:1=1:=rfl
theorem tw8578210282257735291:1=1:=rfl
theorem tw6637470214121422050:1=1:=rfl
theorem tw3291546430899955481:1=1:=rfl
theorem tw17550148080445070634:1=1:=rfl
theorem tw11562157934062515567:1=1:=rfl
theorem tw4529492321087658375:1=1:=rfl
theorem tw4158749750875851355:1=1:=rfl
theorem tw12023342039090836353:1=1:=rfl
theorem tw18337244469326018024:1=1:=rfl
theorem tw15701180972625953899:1=1:=rfl
theorem tw8558745746644086125:1=1:=rfl
theorem tw6719825764719959069:1=1:=rfl
theorem tw471932144621263238:1=1:=rfl
theorem tw5965591867834371089:1=1:=rfl
end PySem.W.Fast
namespace PySem.W.Fast
end PySem.W.Fast
open PySem PySem.W PyProof.Rows
set_option maxRecDepth 100000 in
set_option maxHeartbeats 0 in
theorem PySem.Challenge.cw_roundlap_k24_refused_holds : PySem.Challenge.rw_roundlap_k24_refused.Holds := by
 w_on; o_law; k_head; (case hw=>w_witness2)
 k_fill
 refine EV.BR (l:=PySem.Challenge.rw_roundlap_k24_refused) (fns:=K24.fns) (vals:=K24.vals) (cls:=K24.cls) (Pd:=K24.Pd) (sub:=λ_ _=>false) (n:=30) (st:=K24.top 132) (x:="_law_script") rfl rfl ⟨rfl,by decide,by decide⟩ (λw h Y=>Y.1) K24.hP rfl rfl ?T K24.main
 case T =>
  intro w h KX;refine⟨?_,?_,?_,?_⟩
  ·unfold K24.fns K24.fs
   repeat (apply EV.dD.cons; k_is; k_is; k_is; k_is)
   exact EV.dD.nil
  ·unfold K24.vals
   repeat first
    | (apply EV.cu.flat; k_is; constructor)
    | (apply EV.cu.tup; k_is; k_is; decide; rfl; (focus (repeat' constructor)))
   exact EV.cu.nil
  ·unfold K24.cls;apply EV.bT.cons; k_is; k_exc; kit_is; k_is; kit_is; decide +kernel;apply EV.bT.consP (os:=["NoGap","NoPlan","NoBoxes","NoInputs","NoRounds"]); decide +kernel; k_is; k_exc; kit_is; k_is; kit_is; k_is; k_is; k_is; k_is; k_is; k_is; k_is; (focus ((repeat first|(apply EV.bB.un; k_is; kit_is)|(apply EV.bB.no; k_is)); exact EV.bB.nil));apply EV.bT.consP (os:=["NoLoop","NoGap","NoPlan","NoBoxes","NoRounds"]); decide +kernel; k_is; k_exc; kit_is; k_is; kit_is; k_is; k_is; k_is; k_is; k_is; k_is; k_is; (focus ((repeat first|(apply EV.bB.un; k_is; kit_is)|(apply EV.bB.no; k_is)); exact EV.bB.nil));apply EV.bT.consP (os:=["NoLoop","NoPlan","NoBoxes","NoInputs","NoRounds"]); decide +kernel; k_is; k_exc; kit_is; k_is; kit_is; k_is; k_is; k_is; k_is; k_is; k_is; k_is; (focus ((repeat first|(apply EV.bB.un; k_is; kit_is)|(apply EV.bB.no; k_is)); exact EV.bB.nil));apply EV.bT.consP (os:=["NoLoop","NoGap","NoBoxes","NoInputs","NoRounds"]); decide +kernel; k_is; k_exc; kit_is; k_is; kit_is; k_is; k_is; k_is; k_is; k_is; k_is; k_is; (focus ((repeat first|(apply EV.bB.un; k_is; kit_is)|(apply EV.bB.no; k_is)); exact EV.bB.nil));apply EV.bT.consP (os:=["NoLoop","NoGap","NoPlan","NoInputs","NoRounds"]); decide +kernel; k_is; k_exc; kit_is; k_is; kit_is; k_is; k_is; k_is; k_is; k_is; k_is; k_is; (focus ((repeat first|(apply EV.bB.un; k_is; kit_is)|(apply EV.bB.no; k_is)); exact EV.bB.nil));apply EV.bT.consP (os:=["NoLoop","NoGap","NoPlan","NoBoxes","NoInputs"]); decide +kernel; k_is; k_exc; kit_is; k_is; kit_is; k_is; k_is; k_is; k_is; k_is; k_is; k_is; (focus ((repeat first|(apply EV.bB.un; k_is; kit_is)|(apply EV.bB.no; k_is)); exact EV.bB.nil));exact EV.bT.nil
  ·refine λx hx _=>EV.eO.get (l:=EV.ez) ?hNone0 hx
   unfold EV.ez
   repeat (apply EV.eO.cons; k_is)
   exact EV.eO.nil
end
