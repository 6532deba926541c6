import PyProof.Rows.All
import Wide.All
import OpenK.AllK
import Wide.FinOn
import Lean
import PyProof.EqAt
import PyProof.EqKinds
import PyProof.TupleCall
import PyProof.ListRange
import PyProof.TupleOfSeq
import PySem.Str
import PyProof.NeKinds
import PyProof.ZipIter
import PyProof.DictWalks
import KE.KDictList
import PyProof.DictValues
import PyProof.Rows.SetFrom
import PyProof.SetRoads
import OpenK.KRaise
import OpenK.KOwn
import PyProof.ExcAttrAll.ValueError
import PySem.Eval
import PySem.SetTable
import PyProof.SetScanFacts
import PyProof.TupleKey
import PyProof.SetKind
import PyProof.IsRules
import PyProof.DictKinds
import PyProof.InstSpecial
import PyProof.Rows.SortShellK
import PyProof.WalksS
import PyProof.Walks
import PyProof.Seq
import PyProof.FactsAll.set_1
import PyProof.Comp
import PyProof.CollectWalk
import PyProof.SetNew
import PyProof.FactsAll.set_2
import PyProof.Rows.SortWalk
import PyProof.ExcBaseAll.ValueError
import PySem.Challenge.RW_roundlap_k09_whole_barred
set_option genSizeOfSpec false
set_option bootstrap.genMatcherCode false
set_option compiler.extract_closed false
set_option genSizeOf false
noncomputable section
open PySem renaming wpAny_bind->Za,wpAny_pure->Ze,wpAny_call_entry->ZU,wpAny_callSpecial?_slot->ZW,wpAny_field->Z9,wpAny_newObj_type->Xb,wpAny_setField_rec->Xd,wpAny_truthy_bool->Xi,wpAny_holding->XE,wpAny_attempt->XG,wpAny_mono->XH,wpAny_seqItems->XJ,wpAny_setState_of->XM,wpAny_Call_Name_kw->XQ,codeAny_builtin->XX,wpAny_pyIter_tuple->X6,wpAny_of_eq->Qg,wpAny_setField->Qh,wpAny_isInstance->Qk,mem_of_lookup->Ql,sizeLine_eq->Qp,wpAny_forIn_list->QA,wpAny_rule->QB,wpAny_askSetting->QD,plainId_quiet->QF,tupleKind_room_in1->QP,isSubtype_stop->QT,wpAny_pyIter_list->Q0,wpAny_pyIter_slot->Q3,richCompare_meets_room->Q4,codeAny_mono->Q7,wpAny_updateSeq_pair->We
open List renaming getElem?_eq_getElem->Zb,length_map->Zc,getElem?_eq_some_iff->Zh,getD_eq_getElem?_getD->Zj,mem_cons_self->Zk,mem_cons_of_mem->Zm,prefix_append->Zn,size_toArray->Zo,append_assoc->Zq,mem_cons->Zt,length_append->Zu,mem_map->ZB,mem_of_getElem?->ZD,getElem?_append_left->ZE,length_cons->ZF,getElem?_map->ZG,length_range->ZJ,map_cons->ZK,getElem?_append_right->ZN,take_length->ZO,find?_cons->ZP,mem_append->ZR,getElem?_of_mem->ZS,mem_singleton->ZY,getElem?_set_ne->ZZ,mem_range->Z0,getElem_mem->Z3,prefix_refl->Z4,lookup_cons->Z5,mem_append_right->Z6,map_append->Z8,nodup_cons->Xk,map_map->Xl,getElem?_set_self->Xm,all_eq_true->Xn,drop_eq_getElem_cons->Xo,length_set->Xr,filterMap_cons->Xu,replicate_succ->Xv,length_replicate->Xw,length_take->Xz,cons_append->XA,getElem_map->XC,getElem?_replicate->XL,take_succ_eq_append_getElem->XN,length_singleton->XR,getElem?_eq_none->XS,append_nil->XV,any_cons->X1,nil_append->X8,length_nil->X9,lookup_cons_self->Qa,flatten_cons->Qd,mem_append_left->Qe,pairwise_iff_getElem->Qf,map_nil->Qt,length_filter_le->Qu,mem_nil_iff->QC,exists_cons_of_ne_nil->QE,mem_filter->QI,mem_filterMap->QL,getElem?_take_of_lt->QN,nodup_nil->QS,filter_cons_of_neg->QU,filter_cons_of_pos->QV,ext_getElem?->QX,nodup_append->QZ,foldl_cons->Q8,set_set->Q9,mem_of_mem_take->Wc,forIn_cons->Wd,getElem?_range->Wg,forIn_nil->Wh,pairwise_cons->Wj,all_cons->Wm,take_sublist->Wo,getElem?_set->Wp,pairwise_map->Ws
open PySem.Heap renaming get?_push_of_some->Zd,lt_size->Zp,get?_push_size->Zv,size_push->Z1,get?_update_self->Z7,get?_update_other->X4
open Nat renaming le_refl->Zl,ne_of_lt->ZI,lt_of_lt_of_le->ZM,le_trans->Xa,lt_irrefl->Xe,zero_le->Xj,zero_add->Xq,ne_of_gt->Xy,le_add_right->XD,lt_succ_of_lt->X0,lt_succ_self->X2,le_of_lt->Qi,succ_pos->Qj,le_succ->Qq,lt_trans->Qv,mod_lt->Qy,succ_le_succ->Qz,lt_succ_iff->QK,sub_self->Wb,lt_of_sub_pos->Wq,lt_trichotomy->Wr,min_self->Wu
open Array renaming getElem?_eq_getElem->Zr,length_toList->ZH,getElem?_eq_some_iff->ZV,getElem?_toList->ZX,getD_eq_getD_getElem?->Xh,getElem_toList->XZ,getElem?_eq_none->X5,perm_iff_toList_perm->QG
open Bool renaming false_eq_true->Zx,false_ne_true->Zz,and_eq_true->ZA,not_true->Qc,eq_iff_iff->Qm,and_self->Wl
open Option.some renaming inj->Zy
open Option renaming map_eq_some_iff->ZC,isSome_map->QY
open Int renaming toNat_natCast->ZQ,ofNat_le->XB,natCast_nonneg->XT,le_refl->QH,emod_lt_of_pos->QO,emod_nonneg->Wa
open PyProof.Rows renaming wpS_bind->Z2,callWith_type1->Xs,wpS_pure->Xt,wpS_forRange->QQ
open PySem.Heap.SameBut renaming update->Xg
open PySem.Around renaming under_plainId->XI
open PySem.Obj renaming data_mapFields->XU,isFreed_of_fields->Qw,cls_mapFields->Q2
open PySem.F renaming slot_dict_valueiterator_next->XY,slot_dict_keyiterator_next->X3,slot_tuple_iterator_next->Qb,slot_enumerate_next->Qx,slot_zip_next->Wf
open PyProof.Rows.F renaming plain_set_update_loop->X7,entry_set_update_loop->QR
open PySem.W renaming kia_one->Qo,mg_of->Wn
open PySem.Value renaming isInt_shape->Qr
open Classical renaming byContradiction->QJ
open PySem.Calls renaming spliced_cons->QM,spliced_nil->QW
open PySem.Paired renaming length->Q5
open List.cons renaming inj->Q6
abbrev Wv:=PySem.Value->PySem.Shared->Prop
abbrev Ww:=List (PySem.Addr×PySem.Obj)
abbrev Wx:=List Int
abbrev Wy:=PySem.W.Frag
abbrev Wz:=List PySem.Value
abbrev WA:=PySem.Shared
abbrev WB:=List (List Int)
abbrev WC:=PySem.Program
abbrev WD:=List PySem.Addr
abbrev WE:=PySem.Str->Option PySem.Value
abbrev WG:=PySem.World
abbrev WH:=Array (Int×PySem.Value)
abbrev WI:=List PySem.Str
abbrev WJ:=Array PySem.Value
abbrev WL:=PySem.Expr
abbrev WM:=List PySem.Expr
noncomputable abbrev Zf:=@if_pos
noncomputable abbrev Zg:=@if_neg
noncomputable abbrev Zi:=@decide_eq_true
noncomputable abbrev Zs:=@of_decide_eq_true
noncomputable abbrev Zw:=@decide_eq_false
noncomputable abbrev ZT:=@if_false
noncomputable abbrev Xf:=@beq_eq_false_iff_ne
noncomputable abbrev Xp:=@congrArg
noncomputable abbrev Xx:=@if_true
noncomputable abbrev XO:=@beq_self_eq_true
noncomputable abbrev Qn:=@beq_false_of_ne
noncomputable abbrev Qs:=@bne_self_eq_false
noncomputable abbrev Wi:=@of_decide_eq_false
noncomputable abbrev Wt:=@beq_iff_eq
set_option Elab.async false
set_option linter.all false
set_option maxRecDepth 100000
namespace L2
open PySem PySem.Spec PyProof.Rows
abbrev Key:=Sum Int Str
noncomputable def ia:Key->Value->Bool
 | .inl k,v=>Value.isInt k v
 | .inr x,v=>Value.isStrOf x v
noncomputable def BZ(w:WG):Key->Int
 | .inl k=>hashInt k
 | .inr x=>hashStr w x
theorem eK:∀{k:Key} {v:Value},ia k v=true->(∃i t,k=Sum.inl i/\v=Value.int i t)\/(∃x t,k=Sum.inr x/\v=Value.str x t)
 | .inl i,v,h=>by
  obtain⟨t,e⟩:=Qr (k:=i) (v:=v) h;exact .inl ⟨i,t,rfl,e⟩
 | .inr x,v,h=>by
  obtain⟨t,e⟩:=Value.isStrOf_shape (x:=x) (v:=v) h;exact .inr ⟨x,t,rfl,e⟩
theorem Cc(i:Int)(t:Tok):ia (.inl i) (.int i t)=true:=by simp[ia,Value.isInt]
theorem EI(x:Str)(t:Tok):ia (.inr x) (.str x t)=true:=by simp[ia,Value.isStrOf]
theorem Bd(a b:Int):decide ((Sum.inl a:Key)=Sum.inl b)=(a==b):=by
 by_cases e:a=b
 ·subst e; simp
 ·have h:¬(Sum.inl a:Key)=Sum.inl b:=λq=>e (Sum.inl.inj q)
  rw[Zw h];exact(Xf.mpr e).symm
theorem GU(a b:Str):decide ((Sum.inr a:Key)=Sum.inr b)=decide (a=b):=by
 by_cases e:a=b
 ·subst e; simp
 ·have h:¬(Sum.inr a:Key)=Sum.inr b:=λq=>e (Sum.inr.inj q)
  rw[Zw h,Zw e]
theorem Bl(a:Int)(b:Str):decide ((Sum.inl a:Key)=Sum.inr b)=false:=Zw (λq=>nomatch q)
theorem xR(a:Str)(b:Int):decide ((Sum.inr a:Key)=Sum.inl b)=false:=Zw (λq=>nomatch q)
noncomputable def bL(prog:WC)(w:WG):PySem.KeyKind prog w Key where
 is:=ia
 hash:=BZ w
 inj:=λv a b ha hb=>by
  rcases eK ha with⟨i,t,rfl,rfl⟩|⟨x,t,rfl,rfl⟩
  ·rcases eK hb with⟨j,u,rfl,e⟩|⟨y,u,rfl,e⟩
   ·injection e with e1 _; rw[e1]
   ·exact nomatch e
  ·rcases eK hb with⟨j,u,rfl,e⟩|⟨y,u,rfl,e⟩
   ·exact nomatch e
   ·injection e with e1 _; rw[e1]
 byValue:=λk v h=>by
  rcases eK h with⟨i,t,rfl,rfl⟩|⟨x,t,rfl,rfl⟩<;>rfl
 pyHash:=λhv h=>by
  rcases eK hv with⟨i,t,rfl,rfl⟩|⟨x,t,rfl,rfl⟩
  ·exact wpAny_pyHash_int h
  ·exact wpAny_pyHash_str h
 eqBool:=λhu hv h=>by
  rcases eK hu with⟨i,t,rfl,rfl⟩|⟨x,t,rfl,rfl⟩
  ·rcases eK hv with⟨j,u,rfl,rfl⟩|⟨y,u,rfl,rfl⟩
   ·rw[Bd] at h; exact wpAny_eqBool_int h
   ·rw[Bl] at h; exact SeqAt.EqAt.int_str i t y u _ _ _ _ h
  ·rcases eK hv with⟨j,u,rfl,rfl⟩|⟨y,u,rfl,rfl⟩
   ·rw[xR] at h; exact SeqAt.EqAt.str_int x t j u _ _ _ _ h
   ·rw[GU] at h; exact wpAny_eqBool_str h
 «strs»:=λk x t v h=>by
  rcases eK h with⟨i,u,rfl,e⟩|⟨y,u,rfl,e⟩
  ·exact nomatch e
  ·injection e with e1 _;subst e1;cases v<;>rfl
theorem CB(prog:WC)(w:WG)(i:Int)(t:Tok):(bL prog w).is (.inl i) (.int i t)=true:=Cc i t
theorem zq(prog:WC)(w:WG)(x:Str)(t:Tok):(bL prog w).is (.inr x) (.str x t)=true:=EI x t
end L2
namespace L2
open PySem PySem.Spec PyProof.Rows
inductive V where
 | non|bl (b:Bool)|int (i:Int)|str (x:Str)|byt (b:Array UInt8)|flt (b:UInt64)|ref (a:Addr)|ty (n:String)
 deriving DecidableEq
abbrev WO:=List (List Key×V)
abbrev WN:=List V
noncomputable def RelV:V->Value->Prop
 | .non,u=>u=Value.none
 | .bl b,u=>u=Value.bool b
 | .int i,u=>∃t,u=Value.int i t
 | .str x,u=>∃t,u=Value.str x t
 | .byt b,u=>∃t,u=Value.bytes b t
 | .flt b,u=>∃t,u=Value.float b t
 | .ref a,u=>u=Value.ref a
 | .ty n,u=>u=Value.type n
abbrev Vals:List V->List Value->Prop:=Paired RelV
theorem Vals.length{xs:WN}{us:Wz}(r:Vals xs us):xs.length=us.length:=Q5 r
theorem Vals.get:∀{xs:WN} {us:Wz} {i:Nat} {x:V},Vals xs us->xs[i]?=some x->∃u,us[i]?=some u/\RelV x u
 | _,_,_,_,.nil,e=>by simp at e
 | _,_,0,_,.cons r _,e=>by simp at e; subst e; exact⟨_,rfl,r⟩
 | _,_,i+1,x,.cons _ t,e=>by
  obtain⟨u,h1,h2⟩:=Vals.get (i:=i) (x:=x) t (by simpa using e);exact⟨u,by simpa using h1,h2⟩
theorem Vals.set{x:V}{u:Value}(r:RelV x u):∀{xs:WN} {us:Wz} (i:Nat),Vals xs us->Vals (xs.set i x) (us.set i u)
 | _,_,_,.nil=>.nil
 | _,_,0,.cons _ t=>.cons r t
 | _,_,i+1,.cons q t=>.cons q (Vals.set r i t)
theorem Vals.append:∀{xs ys:WN} {us ws:Wz},Vals xs us->Vals ys ws->Vals (xs++ys) (us++ws)
 | _,_,_,_,.nil,s=>s
 | _,_,_,_,.cons r t,s=>.cons r (Vals.append t s)
noncomputable def dU:Option V->Option Value->Prop
 | some v,some u=>RelV v u
 | none,none=>True
 | _,_=>False
noncomputable def KV{κ:Type}:List (κ×V)->List (κ×Value)->Prop:=Paired λ(p:κ×V) (q:κ×Value)=>p.1=q.1/\RelV p.2 q.2
noncomputable def kV:Key->V
 | .inl i=>.int i
 | .inr x=>.str x
inductive HO where
 /-- a list -/
 | lst (xs:WN)
 /-- a tuple (never changes) -/
 | tup (xs:WN)
 /-- a dict whose keys are ints and texts; one whose keys are tuples of ints and texts (the empty one is both) -/
 | dK (kvs:List (Key×V))|dT (kvs:WO)
 /-- a set of ints: its members,its size -/
 | set (S:Int->Bool) (n:Nat)
 /-- an instance of the class at C,its dict at dx,its attributes -/
 | ins (C dx:Addr) (fs:List (Str×V))
 /-- the dict of the instance at x -/
 | own (x:Addr)
 /-- the dict of an exception -/
 | xd (fs:List (Str×V))
 /-- a bound method,f of x -/
 | met (f x:Addr)
 /-- a range object lo,lo+1,.. below hi -/
 | rng (lo hi:Int)
 /-- a thing that is known to the object (the script; a dict while a loop walks it): read,never written while it is so -/
 | frz (o:Obj) (u:HO)
 /-- a code object's table -/
 | tbl (ps:WJ)
 /-- any other thing,by what is true of its one object (a def of one's own: SetO a S n:=HO.ext λh=>..) -/
 | ext (φ:Heap->Prop)
abbrev Hp:=Addr->Option HO
noncomputable def upd(H:Hp)(a:Addr)(o:HO):Hp:=λb=>if b=a then some o else H b
theorem bZ{H:Hp}{a:Addr}{o:HO}:upd H a o a=some o:=by unfold upd; rw[Zf rfl]
theorem aC{H:Hp}{a b:Addr}{o:HO}(h:b≠a):upd H a o b=H b:=by unfold upd; rw[Zg h]
theorem ni{H:Hp}{a b:Addr}{o u:HO}(h:H a=some o)(h':H b=some u)(d:o≠u):a≠b:=by
 intro e; subst e; rw[h] at h'; exact d (Zy h')
theorem br{H:Hp}{a b:Addr}{o:HO}(h:H a=some o)(h':H b=none):a≠b:=by
 intro e; subst e; rw[h] at h'; cases h'
section
variable(P:WC)(w:WG)
noncomputable def aY(H:Hp)(h:Heap)(a:Addr):HO->Prop
 | .lst xs=>xs.length<=sizeLine/\∃(its:Wz) (n:Nat),Vals xs its/\h.get? a=some { cls:=.type "list",data:=.seq its.toArray n }
 | .tup xs=>xs.length<=sizeLine/\∃its:List Value,Vals xs its/\IsTup h a its.toArray
 | .dK kvs=>kvs.length<=sizeLine/\(a==sysModules)=false/\∃vs,KV kvs vs/\h.DictOf (bL P w) a vs
 | .dT kvs=>kvs.length<=sizeLine/\(a==sysModules)=false/\∃xs:List (List Key×Addr×Value),
   Paired (λ(p:List Key×V) (q:List Key×Addr×Value)=>p.1=q.1/\H q.2.1=some (.tup (p.1.map kV))/\RelV p.2 q.2.2) kvs xs /\
   ∃o es ep,h.get? a=some o/\o.ExactDict/\o.data=.dict es ep/\es.toList=xs.map (entryOfKey (tupleKind (bL P w)))/\(xs.map (·.1)).Nodup
 | .set S n=>h.SetOf (intKind P w) a S n
 | .ins C dx fs=>H dx=some (.own a)/\fs.length<=1000/\dx≠a/\h.get? a=some (PySem.W.instObj C dx) /\
   ∃mA,h.Ns1 dx mA/\(∀f,dU (fs.lookup f) (mA f))/\PySem.Within mA (fs.map (·.1))
 | .own _=>∃o,h.get? a=some o
 | .xd fs=>∃mA,h.Ns1 a mA/\∀f,dU (fs.lookup f) (mA f)
 | .rng lo hi=>∃t u v,h.get? a=some { cls:=.type "range",data:=.fields #[.int lo t,.int hi u,.int 1 v] }
 | .frz o u=>h.get? a=some o/\aY H h a u
 | .tbl ps=>h.get? a=some { cls:=.none,data:=.fields ps }
 | .met f x=>h.get? a=some (PySem.W.methodObj (.ref f) (.ref x))
 | .ext φ=>φ h/\(∃o,h.get? a=some o)/\∀h1 h2:Heap,φ h1->(∀o,h1.get? a=some o->h2.get? a=some o)->φ h2
def HOk(H:Hp)(h:Heap):Prop:=∀a o,H a=some o->aY P w H h a o
end
section
variable{P:WC}{w:WG}{H H':Hp}{h h':Heap}{a:Addr}{o:HO}
theorem aY.lt(x:aY P w H h a o):a<h.objs.size:=by
 cases o with
 | lst xs=>obtain⟨_,_,_,_,e⟩:=x; exact Zp e
 | tup xs=>obtain⟨_,_,_,p⟩:=x; exact p.lt
 | dK kvs=>obtain⟨_,_,_,_,o,_,_,e,_⟩:=x; exact Zp e
 | dT kvs=>obtain⟨_,_,_,_,o,_,_,e,_⟩:=x; exact Zp e
 | set S n=>obtain⟨o,_,_,_,e,_⟩:=x; exact Zp e
 | ins C dx fs=>obtain⟨_,_,_,e,_⟩:=x; exact Zp e
 | own y=>obtain⟨_,e⟩:=x; exact Zp e
 | xd fs=>obtain⟨_,⟨_,_,_,e,_⟩,_⟩:=x; exact Zp e
 | rng lo hi=>obtain⟨_,_,_,e⟩:=x; exact Zp e
 | frz ob u=>obtain⟨e,_⟩:=x; exact Zp e
 | tbl ps=>exact Zp (show h.get? a=some _ from x)
 | met f y=>exact Zp (show h.get? a=some _ from x)
 | ext φ=>obtain⟨_,⟨_,e⟩,_⟩:=x; exact Zp e
theorem Paired.lE{α β:Type}{F G:α->β->Prop}:∀{l₁:List α} {l₂:List β},Paired F l₁ l₂->(∀a b,F a b->G a b)->Paired G l₁ l₂
 | _,_,.nil,_=>.nil
 | _,_,.cons r t,f=>.cons (f _ _ r) (Paired.lE t f)
theorem aY.stay(x:aY P w H h a o)(k:∀b u,(b=a\/H b=some (.own a))->h.get? b=some u->h'.get? b=some u)
  (ho:∀b,H b=some (.own a)->H' b=some (.own a)) (ht:∀b xs,H b=some (.tup xs)->H' b=some (.tup xs)):aY P w H' h' a o:=by
 induction o with
 | lst xs=>obtain⟨z,its,n,r,e⟩:=x; exact⟨z,its,n,r,k _ _ (.inl rfl) e⟩
 | tup xs=>obtain⟨z,its,r,ob,e,c⟩:=x; exact⟨z,its,r,ob,k _ _ (.inl rfl) e,c⟩
 | dK kvs=>obtain⟨z,y,vs,r,ob,es,ep,e,c⟩:=x; exact⟨z,y,vs,r,ob,es,ep,k _ _ (.inl rfl) e,c⟩
 | dT kvs =>
  obtain⟨z,y,xs,r,ob,es,ep,e,c⟩:=x;exact⟨z,y,xs,Paired.lE r λp q z=>⟨z.1,ht _ _ z.2.1,z.2.2⟩,ob,es,ep,k _ _ (.inl rfl) e,c⟩
 | set S n=>obtain⟨ob,es,ep,t,e,c⟩:=x; exact⟨ob,es,ep,t,k _ _ (.inl rfl) e,c⟩
 | ins C dx fs =>
  obtain⟨d,z,ne,e,mA,⟨od,es,ep,e2,c⟩,r⟩:=x;exact⟨ho _ d,z,ne,k _ _ (.inl rfl) e,mA,⟨od,es,ep,k _ _ (.inr d) e2,c⟩,r⟩
 | own y=>obtain⟨ob,e⟩:=x; exact⟨ob,k _ _ (.inl rfl) e⟩
 | xd fs=>obtain⟨mA,⟨od,es,ep,e,c⟩,r⟩:=x; exact⟨mA,⟨od,es,ep,k _ _ (.inl rfl) e,c⟩,r⟩
 | rng lo hi=>obtain⟨t,u,v,e⟩:=x; exact⟨t,u,v,k _ _ (.inl rfl) e⟩
 | frz ob u ih=>obtain⟨e,q⟩:=x; exact⟨k _ _ (.inl rfl) e,ih q⟩
 | tbl ps =>
  have e:h.get? a=some { cls:=.none,data:=.fields ps }:=x;show h'.get? a=some { cls:=.none,data:=.fields ps };exact k a _ (.inl rfl) e
 | met f y =>
  have e:h.get? a=some (PySem.W.methodObj (.ref f) (.ref y)):=x;show h'.get? a=some (PySem.W.methodObj (.ref f) (.ref y));exact k a _ (.inl rfl) e
 | ext φ=>obtain⟨p,⟨o,e⟩,st⟩:=x; exact⟨st _ _ p λo q=>k _ _ (.inl rfl) q,⟨o,k _ _ (.inl rfl) e⟩,st⟩
theorem HOk.lt(x:HOk P w H h)(e:H a=some o):a<h.objs.size:=(x a o e).lt
theorem HOk.fresh(x:HOk P w H h)(e:h.objs.size<=a):H a=none:=by
 cases q:H a with
 | none=>rfl
 | some u=>exact absurd (ZM (x.lt q) e) (Xe _)
theorem HOk.kept(x:HOk P w H h)(k:∀b u,h.get? b=some u->h'.get? b=some u):HOk P w H h':=λa o e =>
 (x a o e).stay (λb u _ q=>k b u q) (λ_ q=>q) λ_ _ q=>q
theorem HOk.laid(x:HOk P w H h)(k:∀b u,h.get? b=some u->h'.get? b=some u)(hp:h.objs.size<=a)(new:aY P w (upd H a o) h' a o):HOk P w (upd H a o) h':=λb u e=>by
 have hn:=x.fresh hp
 by_cases hb:b=a
 ·subst hb; rw[bZ] at e; cases e; exact new
 ·rw[aC hb] at e;exact(x b u e).stay (λc v _ q=>k c v q) (λc q=>by rw[aC (br q hn)]; exact q) λc xs q=>by rw[aC (br q hn)]; exact q
end
def Rd(H:Hp)(a:Addr)(u:HO):Prop:=H a=some u\/∃o,H a=some (.frz o u)
theorem Rd.ok{P:WC}{w:WG}{H:Hp}{h:Heap}{a:Addr}{u:HO}(r:Rd H a u)(x:HOk P w H h):aY P w H h a u:=by
 rcases r with r|⟨o,r⟩
 ·exact x a u r
 ·obtain⟨_,q⟩:=x a _ r;exact q
noncomputable def Mut:Option HO->Prop
 | some (.lst _)=>True
 | some (.dK _)=>True
 | some (.dT _)=>True
 | some (.set _ _)=>True
 | some (.ins _ _ _)=>True
 | some (.ext _)=>True
 | _=>False
section
variable{P:WC}{w:WG}{H:Hp}{h h':Heap}{x e:Addr}{o':HO}
theorem HOk.write(ok:HOk P w H h)(mu:Mut (H x))(he:e=x\/H e=some (.own x))(k:∀b u,b≠e->h.get? b=some u->h'.get? b=some u)(heo:∃u,h'.get? e=some u)
  (new:aY P w (upd H x o') h' x o'):HOk P w (upd H x o') h':=λb u q=>by
 have nown:∀c y,H c=some (.own y)->c≠x:=λc y r z=>by subst z; rw[r] at mu; exact mu
 have ntup:∀c xs,H c=some (.tup xs)->c≠x:=λc xs r z=>by subst z; rw[r] at mu; exact mu
 by_cases hb:b=x
 ·subst hb; rw[bZ] at q; cases q; exact new
 ·rw[aC hb] at q
  by_cases hbe:b=e
  ·have q':H b=some (.own x):=by
    rcases he with z|z
    ·exact absurd (hbe.trans z) hb
    ·rw[hbe]; exact z
   rw[q] at q'; cases q';obtain⟨v,hv⟩:=heo;exact⟨v,by rw[hbe]; exact hv⟩
  ·refine(ok b u q).stay (λc v hc r=>k c v ?_ r) (λc r=>by rw[aC (nown c b r)]; exact r) λc xs r=>by rw[aC (ntup c xs r)]; exact r
   rcases hc with rfl|hc
   ·exact hbe
   ·rintro rfl;rcases he with z|z
    ·exact nown c b hc z
    ·rw[hc] at z; cases z; exact hb rfl
end
structure Un(fs ex:WD)(H H':Hp)(h h':Heap):Prop where
 keep:∀b o,h.get? b=some o->H b=none->b∉fs->b∉ex->h'.get? b=some o
 slot:∀b o,h.get? b=some o->H b=none->b∈fs->b∉ex->∃sl,h'.get? b=some { o with slots:=sl }
 free:∀b o,h.get? b=some o->H b=none->b∉ex->H' b=none
 there:∀b o,h.get? b=some o->b∉ex->∃o',h'.get? b=some o'
 tups:∀b xs,H b=some (.tup xs)->H' b=some (.tup xs)
 frzs:∀b o u,H b=some (.frz o u)->H' b=some (.frz o u)
 tbls:∀b ps,H b=some (.tbl ps)->∃more,H' b=some (.tbl (ps++more))
section
variable{fs fs' ex ex':WD}{H H1 H2:Hp}{h h1 h2 h':Heap}{a x e:Addr}{o:HO}
theorem Un.any(u:Un fs ex H H1 h h1){b:Addr}{ob:Obj}(q:h.get? b=some ob)(n:H b=none)(hx:b∉ex):∃sl,h1.get? b=some { ob with slots:=sl }:=by
 by_cases hb:b∈fs
 ·exact u.slot b ob q n hb hx
 ·exact⟨ob.slots,u.keep b ob q n hb hx⟩
theorem Un.kept(k:∀b u,h.get? b=some u->h'.get? b=some u):Un fs ex H H h h' :=
 ⟨λb ob q _ _ _=>k b ob q,λb ob q _ _ _=>⟨ob.slots,k b ob q⟩,λ_ _ _ n _=>n,λb ob q _=>⟨ob,k b ob q⟩,λ_ _ q=>q,λ_ _ _ q=>q,λ_ ps q=>⟨#[],by rw[q]; simp⟩⟩
theorem Un.refl:Un fs ex H H h h:=Un.kept λ_ _ q=>q
theorem Un.laid(k:∀b u,h.get? b=some u->h'.get? b=some u)(hp:h.objs.size<=a)(hn:H a=none):Un fs ex H (upd H a o) h h' where
 keep:=λb u q _ _ _=>k b u q
 slot:=λb u q _ _ _=>⟨u.slots,k b u q⟩
 free:=λb u q n _=>by rw[aC (ZI (ZM (Zp q) hp))]; exact n
 there:=λb u q _=>⟨u,k b u q⟩
 tups:=λb xs q=>by rw[aC (br q hn)]; exact q
 frzs:=λb u xs q=>by rw[aC (br q hn)]; exact q
 tbls:=λb ps q=>⟨#[],by rw[aC (br q hn),q]; simp⟩
theorem Un.write(mu:Mut (H x))(he:e=x\/H e=some (.own x))(k:∀b u,b≠e->h.get? b=some u->h'.get? b=some u)(heo:∃u,h'.get? e=some u):Un fs ex H (upd H x o) h h':=by
 have hx:∀b,H b=none->b≠x:=λb n z=>by subst z; rw[n] at mu; exact mu
 have hb:∀b,H b=none->b≠e:=λb n z=>by
  subst z;rcases he with r|r
  ·exact hx b n r
  ·rw[n] at r; cases r
 have hm:∀b u,H b=some u->¬Mut (some u)->b≠x:=λb u q nm z=>by subst z; rw[q] at mu; exact nm mu
 refine⟨λb u q n _ _=>k b u (hb b n) q,λb u q n _ _=>⟨u.slots,k b u (hb b n) q⟩,λb u q n _=>by rw[aC (hx b n)]; exact n,λb u q _=>?_,
  λb xs q=>by rw[aC (hm b _ q λz=>z)]; exact q,λb u xs q=>by rw[aC (hm b _ q λz=>z)]; exact q,λb ps q=>⟨#[],by rw[aC (hm b _ q λz=>z),q]; simp⟩⟩
 by_cases hbe:b=e
 ·subst hbe; exact heo
 ·exact⟨u,k b u hbe q⟩
end
noncomputable def trk(h:Heap)(H:Hp):List Addr:=(List.range h.objs.size).filter λa=>(H a).isSome
noncomputable def eS(h:Heap)(H:Hp):Heap:=PySem.W.hideAll h (trk h H)
theorem F6(h:Heap)(H:Hp):(eS h H).objs.size=h.objs.size:=PySem.W.hideAll_size _ _
theorem Ay{h:Heap}{H:Hp}{b:Addr}{o:Obj}(e:h.get? b=some o)(n:H b=none):(eS h H).get? b=some o :=
 PySem.W.hideAll_get _ e λhm=>by
  have q:(H b).isSome=true:=(QI.mp hm).2;rw[n] at q; simp at q
theorem A5{h:Heap}{H:Hp}{b:Addr}{o:Obj}(e:(eS h H).get? b=some o):h.get? b=some o/\H b=none:=by
 have e':h.get? b=some o:=PySem.W.of_hideAll (trk h H) e;refine⟨e',?_⟩
 cases q:H b with
 | none=>rfl
 | some x =>
  have hm:b∈trk h H:=QI.mpr ⟨Z0.mpr (Zp e'),by simp[q]⟩;have z:(eS h H).get? b=none:=PySem.W.hideAll_none (trk h H) hm;rw[z] at e; cases e
end L2
namespace L2
open PySem PySem.Spec PyProof.Rows
structure Mod(K:Wy)(mg:WE)(base:Heap):Prop where
 kin:K.In base
 glob:base.Ns mainGlobals mg
 blt:∃mb,base.Ns builtinsNs mb/\∀x:Str,x≠"__name__"->mb x=bootBuiltins x
 nolimit:base.NoLimit
structure Cx where
 prog:Program
 w:World
 K:PySem.W.Frag
 mg:Str->Option Value
 base:Heap
 A:Around
 N:List Str
 s₀:Shared
 H₀:Hp
 env:Env
 outer:List Env
 stack:List Env
 ex:List Addr
 fn:Str->Bool
 calm:Bool
 pn:List (Addr×Obj)
 xe:Value->Shared->Prop
noncomputable def frs(l:List Env):List Addr:=l.filterMap (·.frame)
abbrev Cx.fs(X:Cx):List Addr:=frs X.outer
def Vis(sc:Scope)(x:Str):Prop:=sc.names.lookup x=some .local\/sc.names.lookup x=some .cell\/sc.names.lookup x=some .free
def Loc(sc:Scope)(x:Str):Prop:=sc.names.lookup x=some .local\/sc.names.lookup x=some .cell
noncomputable def Look(env:Env)(h:Heap)(m:WE)(x:Str)(u:Value):Prop :=
 (env.kindOf x=some .local/\m x=some u)\/((env.kindOf x=some .cell\/env.kindOf x=some .free)/\∃c,env.cells.lookup x=some c/\h.IsCell c (some u))
structure Cx.Ok(X:Cx):Prop where
 mod:Mod X.K X.mg X.base
 kind:X.env.scope.kind=.function
 glob:X.env.globals=mainGlobals
 blt:X.env.builtins=builtinsNs
 above:X.s₀.heap.objs.size<=X.env.locals
 inj:∀x y c,X.env.cells.lookup x=some c->X.env.cells.lookup y=some c->x=y
 has:∀x,(X.env.kindOf x=some .cell\/X.env.kindOf x=some .free)->∃c,X.env.cells.lookup x=some c
 cab:∀x c,X.fn x=true->X.env.cells.lookup x=some c->X.s₀.heap.objs.size<=c
 hd:X.calm=true->X.A.handled=none
 frames:X.A.frames=some X.stack
 stk:X.stack=X.outer\/(X.stack=X.env::X.outer/\X.env.frame=some X.env.locals)
 exf:∀b∈X.ex,b≠X.env.locals/\∀x c,X.env.cells.lookup x=some c->c≠b
 bs:∀b o,X.base.get? b=some o->X.s₀.heap.get? b=some o/\X.H₀ b=none
 bsz:X.base.objs.size<=X.s₀.heap.objs.size
 noex:∀b o,X.base.get? b=some o->b∉X.ex
 exfs:∀b∈X.ex,b∉X.fs
 dm:X.s₀.heap.FunFrames X.base X.outer
 frf:∀b∈X.fs,X.H₀ b=none
structure Inv(X:Cx)(pins:Ww)(σ:List (Option V))(H:Hp)(s:WA):Prop where
 ok:X.Ok
 os:s.os=X.s₀.os
 bare:AllBare s.gens
 base:Un X.fs X.ex X.H₀ H X.s₀.heap s.heap
 loc:∃m,s.heap.Ns X.env.locals m/\∀(i:Nat) (x:Str) (v:V),X.N[i]?=some x->σ[i]?=some (some v)->Vis X.env.scope x->∃u,RelV v u/\Look X.env s.heap m x u
 cell:∀x c,X.env.cells.lookup x=some c->∃v,s.heap.IsCell c v
 free:H X.env.locals=none
 freeC:∀x c,X.env.cells.lookup x=some c->H c=none
 pin:∀p∈X.pn++pins,s.heap.get? p.1=some p.2/\H p.1=none/\p.1≠X.env.locals/\p.1∉X.fs/\∀v,p.2.data≠.cell v
 hok:HOk X.prog X.w H s.heap
 len:σ.length=X.N.length
section
variable{X:Cx}{pins:Ww}{σ:List (Option V)}{H H':Hp}{s:WA}{h':Heap}
theorem Cx.Ok.GF(ok:X.Ok){b:Addr}{o:Obj}(e:X.base.get? b=some o):b∉X.fs:=λhb=>by
 have:=(ok.dm.mem hb).1;rw[e] at this; cases this
theorem Inv.bs(I:Inv X pins σ H s):∀b o,X.base.get? b=some o->s.heap.get? b=some o/\H b=none:=λb o e =>
 ⟨I.base.keep b o (I.ok.bs b o e).1 (I.ok.bs b o e).2 (I.ok.GF e) (I.ok.noex b o e),I.base.free b o (I.ok.bs b o e).1 (I.ok.bs b o e).2 (I.ok.noex b o e)⟩
theorem Inv.bk(I:Inv X pins σ H s):∀b o,X.base.get? b=some o->s.heap.get? b=some o:=λb o e=>(I.bs b o e).1
theorem Inv.mod(I:Inv X pins σ H s):Mod X.K X.mg X.base:=I.ok.mod
theorem Inv.kIn(I:Inv X pins σ H s):X.K.In s.heap:=I.ok.mod.kin.keeps I.bk
theorem Inv.lt(I:Inv X pins σ H s):X.env.locals<s.heap.objs.size:=let⟨_,hn,_⟩:=I.loc; hn.lt
theorem Inv.sz(I:Inv X pins σ H s):X.s₀.heap.objs.size<=s.heap.objs.size:=Xa I.ok.above (Qi I.lt)
theorem Inv.AR(I:Inv X pins σ H s){a:Addr}(h:s.heap.objs.size<=a):a∉X.fs:=λhb=>by
 obtain⟨_,o,ho,_⟩:=I.ok.dm.mem hb;exact absurd (ZM (Zp ho) (Xa I.sz h)) (Xe _)
theorem Inv.cne(I:Inv X pins σ H s):∀x c,X.env.cells.lookup x=some c->c≠X.env.locals:=λx c e z=>by
 obtain⟨v,o,ho,hd⟩:=I.cell x c e;obtain⟨m,⟨o',es,ep,ho',hd',_⟩,_⟩:=I.loc;rw[z,ho'] at ho; cases ho; rw[hd'] at hd; cases hd
theorem Inv.dm(I:Inv X pins σ H s):s.heap.FunFrames X.base X.outer:=by
 have all:∀(l:List Env),(∀b∈frs l,b∈X.fs)->X.s₀.heap.FunFrames X.base l->s.heap.FunFrames X.base l:=by
  intro l
  induction l with
  | nil=>intro _ _; trivial
  | cons env r ih =>
   intro hs hl;obtain⟨hk,⟨L,o,hf,hn,ho,hd⟩,hr⟩:=hl;have hL:L∈X.fs:=hs L (by unfold frs; rw[Xu,hf]; exact Zk);obtain⟨sl,e⟩:=I.base.slot L o ho (I.ok.frf L hL) hL λz=>I.ok.exfs L z hL
   exact⟨hk,⟨L,_,hf,hn,e,hd⟩,ih (λb hb=>hs b (by unfold frs; rw[Xu,hf]; exact Zm _ hb)) hr⟩
 exact all X.outer (λ_ hb=>hb) I.ok.dm
theorem Inv.stack(I:Inv X pins σ H s):s.heap.FunFrames X.base X.stack:=by
 rcases I.ok.stk with e|⟨e,hf⟩
 ·rw[e]; exact I.dm
 ·rw[e];obtain⟨m,hn,_⟩:=I.loc;refine .cons (by rw[I.ok.kind]; decide) hf hn ?_ I.dm;exact Heap.get?_none_of_le (Xa I.ok.bsz I.ok.above)
theorem Inv.oR(I:Inv X pins σ H s):∀b∈frs X.stack,b∈X.env.locals::X.fs:=λb hb=>by
 rcases I.ok.stk with e|⟨e,hf⟩
 ·rw[e] at hb; exact Zm _ hb
 ·rw[e] at hb;unfold frs at hb;rw[Xu,hf] at hb;exact hb
theorem Inv.oX(I:Inv X pins σ H s):∀b∈frs X.stack,H b=none:=λb hb=>by
 rcases Zt.mp (I.oR b hb) with e|hb
 ·rw[e]; exact I.free
 ·obtain⟨_,o,ho,_⟩:=I.ok.dm.mem hb;exact I.base.free b o ho (I.ok.frf b hb) λz=>I.ok.exfs b z hb
theorem Inv.step{g':Array GenState}{t':Nat}{d':Drawn}{ch:WD}(I:Inv X pins σ H s)
  (hch:∀b∈ch,(b∈X.ex\/X.s₀.heap.objs.size<=b)/\b≠X.env.locals/\(∀x c,X.env.cells.lookup x=some c->c≠b)/\∀p∈X.pn++pins,p.1≠b)
  (keep:∀b o,b≠X.env.locals->b∉X.fs->b∉ch->s.heap.get? b=some o->H b=none->h'.get? b=some o)
  (slot:∀b o,b≠X.env.locals->b∈X.fs->b∉ch->s.heap.get? b=some o->H b=none->∃sl,h'.get? b=some { o with slots:=sl }) (free:∀b o,b∉ch->s.heap.get? b=some o->H b=none->H' b=none)
  (there:∀b o,b∉ch->s.heap.get? b=some o->∃o',h'.get? b=some o')
  (tups:∀b xs,H b=some (.tup xs)->H' b=some (.tup xs)) (frzs:∀b o u,H b=some (.frz o u)->H' b=some (.frz o u)) (tbls:∀b ps,H b=some (.tbl ps)->∃more,H' b=some (.tbl (ps++more)))
  (ns:∀m,s.heap.Ns X.env.locals m->h'.Ns X.env.locals m) (hok:HOk X.prog X.w H' h') (hg:AllBare g') :
  Inv X pins σ H' { s with heap:=h',gens:=g',drawn:=d',toks:=t' }:=by
 have neL:∀b o,X.s₀.heap.get? b=some o->b≠X.env.locals:=λb o e=>ZI (ZM (Zp e) I.ok.above)
 have neC:∀b o,X.s₀.heap.get? b=some o->b∉X.ex->b∉ch:=λb o e hx hb=>by
  rcases(hch b hb).1 with z|z
  ·exact hx z
  ·exact absurd (ZM (Zp e) z) (Xe _)
 have cellK:∀x c,X.env.cells.lookup x=some c->∀v,s.heap.IsCell c v->h'.IsCell c v:=λx c e v ⟨o,ho,hd⟩=>by
  have nch:c∉ch:=λz=>(hch c z).2.2.1 x c e rfl
  by_cases hc:c∈X.fs
  ·obtain⟨sl,q⟩:=slot c o (I.cne x c e) hc nch ho (I.freeC x c e);exact⟨_,q,hd⟩
  ·exact⟨o,keep c o (I.cne x c e) hc nch ho (I.freeC x c e),hd⟩
 refine⟨I.ok,I.os,hg,⟨λb o e n hb hx=>?_,λb o e n hb hx=>?_,λb o e n hx=>?_,λb o e hx=>?_,λb xs e=>tups b xs (I.base.tups b xs e),λb o xs e=>frzs b o xs (I.base.frzs b o xs e),λb ps e=>?_⟩,?_,λx c e=>?_,?_,λx c e=>?_,λp hp=>?_,hok,I.len⟩
 ·exact keep b o (neL b o e) hb (neC b o e hx) (I.base.keep b o e n hb hx) (I.base.free b o e n hx)
 ·obtain⟨sl,e1⟩:=I.base.slot b o e n hb hx;obtain⟨sl',e2⟩:=slot b _ (neL b o e) hb (neC b o e hx) e1 (I.base.free b o e n hx);exact⟨sl',e2⟩
 ·obtain⟨o',e1⟩:=I.base.there b o e hx;exact free b o' (neC b o e hx) e1 (I.base.free b o e n hx)
 ·obtain⟨o',e1⟩:=I.base.there b o e hx;exact there b o' (neC b o e hx) e1
 ·obtain⟨m1,e1⟩:=I.base.tbls b ps e;obtain⟨m2,e2⟩:=tbls b _ e1;exact⟨m1++m2,by rw[e2,Array.append_assoc]⟩
 ·obtain⟨m,hn,hl⟩:=I.loc;refine⟨m,ns m hn,λi x v e1 e2 e3=>?_⟩;obtain⟨u,r,l⟩:=hl i x v e1 e2 e3;refine⟨u,r,?_⟩;rcases l with l|⟨k,c,e,z⟩
  ·exact .inl l
  ·exact .inr ⟨k,c,e,cellK x c e _ z⟩
 ·obtain⟨v,z⟩:=I.cell x c e;exact⟨v,cellK x c e v z⟩
 ·obtain⟨m,⟨o,_,_,ho,_⟩,_⟩:=I.loc;exact free _ o (λz=>(hch _ z).2.1 rfl) ho I.free
 ·obtain⟨v,o,ho,hd⟩:=I.cell x c e;exact free c o (λz=>(hch c z).2.2.1 x c e rfl) ho (I.freeC x c e)
 ·obtain⟨e,n,ne,nf,d⟩:=I.pin p hp;have nch:p.1∉ch:=λz=>(hch p.1 z).2.2.2 p hp rfl
  exact⟨keep p.1 p.2 ne nf nch e n,free p.1 p.2 nch e n,ne,nf,d⟩
theorem Inv.un{t':Nat}(I:Inv X pins σ H s)(u:Un X.fs [] H H' s.heap h')(hok:HOk X.prog X.w H' h'):Inv X pins σ H' { s with heap:=h',toks:=t' }:=by
 obtain⟨m,⟨o,es,ep,ho,r⟩,_⟩:=id I.loc;obtain⟨sl,hL⟩:=u.any ho I.free (by simp)
 exact I.step (g':=s.gens) (d':=s.drawn) (ch:=[]) (λ_ z=>nomatch z) (λb o _ hb _ e n=>u.keep b o e n hb (by simp)) (λb o _ hb _ e n=>u.slot b o e n hb (by simp)) (λb o _ e n=>u.free b o e n (by simp)) (λb o _ e=>u.there b o e (by simp)) u.tups u.frzs u.tbls (λm' hm=>by
  obtain⟨o',es',ep',ho',r'⟩:=hm;rw[ho] at ho'; cases ho';exact⟨_,es',ep',hL,r'⟩) hok I.bare
theorem Inv.call{g':Array GenState}{t':Nat}{d':Drawn}{ch:WD}(I:Inv X pins σ H s)(u:Un (frs X.stack) ch H H' s.heap h')(hok:HOk X.prog X.w H' h')(hg:AllBare g')
  (hch:∀b∈ch,(b∈X.ex\/X.s₀.heap.objs.size<=b)/\b≠X.env.locals/\(∀x c,X.env.cells.lookup x=some c->c≠b)/\∀p∈X.pn++pins,p.1≠b) :
  Inv X pins σ H' { s with heap:=h',gens:=g',drawn:=d',toks:=t' }:=by
 obtain⟨m,⟨o,es,ep,ho,r⟩,_⟩:=id I.loc;obtain⟨sl,hL⟩:=u.any ho I.free λz=>(hch _ z).2.1 rfl
 exact I.step (ch:=ch) hch (λb o hL hb hc e n=>u.keep b o e n (λz=>(Zt.mp (I.oR b z)).elim hL hb) hc) (λb o _ _ hc e n=>u.any e n hc) (λb o hc e n=>u.free b o e n hc) (λb o hc e=>u.there b o e hc) u.tups u.frzs u.tbls (λm' hm=>by
  obtain⟨o',es',ep',ho',r'⟩:=hm;rw[ho] at ho'; cases ho';exact⟨_,es',ep',hL,r'⟩) hok hg
theorem Inv.turned{t':Nat}{it:Addr}(I:Inv X pins σ H s)(k:∀b o,b≠it->s.heap.get? b=some o->h'.get? b=some o)(hn:H it=none)(hL:it≠X.env.locals)
  (h1:it∈X.ex\/X.s₀.heap.objs.size<=it) (h2:∀x c,X.env.cells.lookup x=some c->c≠it) (h3:∀p∈X.pn++pins,p.1≠it):Inv X pins σ H { s with heap:=h',toks:=t' }:=by
 have nit:∀b u,H b=some u->b≠it:=λb u e z=>by rw[z,hn] at e; cases e
 refine I.step (g':=s.gens) (d':=s.drawn) (ch:=[it]) (λb hb=>?_) (λb o _ _ hc e _=>k b o (λz=>hc (by simp[z])) e) (λb o _ _ hc e _=>⟨o.slots,k b o (λz=>hc (by simp[z])) e⟩) (λ_ _ _ _ n=>n)
  (λb o hc e=>⟨o,k b o (λz=>hc (by simp[z])) e⟩) (λ_ _ e=>e) (λ_ _ _ e=>e) (λb ps e=>⟨#[],by rw[e]; simp⟩) (λm hm=>?_) (λb u e=>?_) I.bare
 ·have e:b=it:=by simpa using hb
  subst e;exact⟨h1,hL,h2,h3⟩
 ·obtain⟨o,es,ep,ho,r⟩:=hm;exact⟨o,es,ep,k _ o (Ne.symm hL) ho,r⟩
 ·refine(I.hok b u e).stay (λc v hc q=>k c v ?_ q) (λ_ q=>q) λ_ _ q=>q
  rcases hc with z|z
  ·rw[z]; exact nit b u e
  ·exact nit c _ z
theorem Inv.tok(I:Inv X pins σ H s)(t:Nat):Inv X pins σ H { s with toks:=t }:=I.un (h':=s.heap) (t':=t) Un.refl I.hok
theorem Inv.kept{t':Nat}(I:Inv X pins σ H s)(k:∀b u,s.heap.get? b=some u->h'.get? b=some u):Inv X pins σ H { s with heap:=h',toks:=t' }:=I.un (Un.kept k) (I.hok.kept k)
theorem Inv.laid{a:Addr}{o:HO}{t':Nat}(I:Inv X pins σ H s)(k:∀b u,s.heap.get? b=some u->h'.get? b=some u)(hp:s.heap.objs.size<=a)(new:aY X.prog X.w (upd H a o) h' a o) :
  Inv X pins σ (upd H a o) { s with heap:=h',toks:=t' }:=I.un (Un.laid k hp (I.hok.fresh hp)) (I.hok.laid k hp new)
theorem Inv.write{x e:Addr}{o:HO}{t':Nat}(I:Inv X pins σ H s)(mu:Mut (H x))(he:e=x\/H e=some (.own x))(k:∀b u,b≠e->s.heap.get? b=some u->h'.get? b=some u)(heo:∃u,h'.get? e=some u)
  (new:aY X.prog X.w (upd H x o) h' x o):Inv X pins σ (upd H x o) { s with heap:=h',toks:=t' }:=I.un (Un.write mu he k heo) (I.hok.write mu he k heo new)
theorem Inv.weak{σ':List (Option V)}(I:Inv X pins σ H s)(hl:σ'.length=σ.length)(w:∀(i:Nat) v,σ'[i]?=some (some v)->σ[i]?=some (some v)):Inv X pins σ' H s :=
 ⟨I.ok,I.os,I.bare,I.base,let⟨m,hn,hl'⟩:=I.loc; ⟨m,hn,λi x v e1 e2 e3=>hl' i x v e1 (w i v e2) e3⟩,I.cell,I.free,I.freeC,I.pin,I.hok,hl.trans I.len⟩
theorem Inv.vJ{pins':Ww}(I:Inv X pins σ H s)(h:∀p∈pins',s.heap.get? p.1=some p.2/\H p.1=none/\p.1≠X.env.locals/\p.1∉X.fs/\∀v,p.2.data≠.cell v):Inv X pins' σ H s :=
 ⟨I.ok,I.os,I.bare,I.base,I.loc,I.cell,I.free,I.freeC,λp hp=>(ZR.mp hp).elim (λz=>I.pin p (Qe _ z)) (h p),I.hok,I.len⟩
theorem sI{N:WI}(hN:N.Nodup){i j:Nat}{x:Str}(a:N[i]?=some x)(b:N[j]?=some x):i=j:=by
 obtain⟨h1,e1⟩:=Zh.mp a;obtain⟨h2,e2⟩:=Zh.mp b;exact(List.getElem_inj hN).mp (e1.trans e2.symm)
theorem vN{M:Model}{A:Around}{E:Wv}{i:Nat}{x:Str}{v:V}{u:Value}{Q:Unit->Shared->Prop}(I:Inv X pins σ H s)(hN:X.N.Nodup)(hi:X.N[i]?=some x)(hx:Loc X.env.scope x)(r:RelV v u)
  (h:∀s',Inv X pins (σ.set i (some v)) H s'->(∃a,Heap.SameBut a s.heap s'.heap/\(a=X.env.locals\/X.env.cells.lookup x=some a))->Q () s') (hf:X.fn x=true\/X.env.scope.names.lookup x=some .local:=by first|exact .inl rfl|exact .inr rfl|assumption):wpAny M A (storeName X.env x u) Q E s:=by
 obtain⟨m,hn,hl⟩:=id I.loc;have hcls:(X.env.scope.kind==.class||(X.env.scope.kind==.module&&X.env.locals != X.env.globals))=false:=by rw[I.ok.kind]; rfl
 have hiσ:i<σ.length:=by rw[I.len]; exact(Zh.mp hi).1
 have cne:=I.cne
 have tracked:∀{a:Addr} {h':Heap},(∃o,s.heap.get? a=some o/\H a=none)->Heap.SameBut a s.heap h'->HOk X.prog X.w H h':=λ{a h'} ha hs b ob e=>by
  obtain⟨_,_,hfree⟩:=ha;refine(I.hok b ob e).stay (λc w' hc q=>(hs.2 c ?_).trans q) (λ_ q=>q) λ_ _ q=>q
  rintro rfl;rcases hc with rfl|hc
  ·rw[hfree] at e; cases e
  ·rw[hfree] at hc; cases hc
 rcases hx with hk|hk
 ·refine wpAny_storeName_local hk hn (λh' hn' hs=>?_) hcls;obtain⟨oL,_,_,hoL,_⟩:=id hn;refine h _ ⟨I.ok,I.os,I.bare,⟨λb o e n hb hx=>?_,λb o e n hb hx=>?_,I.base.free,λb o e hx=>?_,I.base.tups,I.base.frzs,I.base.tbls⟩,⟨_,hn',λj y v' e1 e2 e3=>?_⟩,λy c e=>?_,I.free,I.freeC,λp hp=>?_,tracked ⟨oL,hoL,I.free⟩ hs,by simpa using I.len⟩ ⟨_,hs,.inl rfl⟩
  ·exact(hs.2 b (ZI (ZM (Zp e) I.ok.above))).trans (I.base.keep b o e n hb hx)
  ·obtain⟨sl,e1⟩:=I.base.slot b o e n hb hx;exact⟨sl,(hs.2 b (ZI (ZM (Zp e) I.ok.above))).trans e1⟩
  ·obtain⟨o',e1⟩:=I.base.there b o e hx;exact⟨o',(hs.2 b (ZI (ZM (Zp e) I.ok.above))).trans e1⟩
  ·by_cases hj:j=i
   ·subst hj;rw[hi] at e1; cases e1;rw[Xm hiσ] at e2;cases e2;exact⟨u,r,.inl ⟨hk,by simp⟩⟩
   ·rw[ZZ (Ne.symm hj)] at e2;obtain⟨u',r',q⟩:=hl j y v' e1 e2 e3;refine⟨u',r',?_⟩;rcases q with⟨k,e⟩|⟨k,c,e,z⟩
    ·refine .inl ⟨k,?_⟩;have:y≠x:=λe=>hj (sI hN e1 (e▸hi))
     simp[this,e]
    ·exact .inr ⟨k,c,e,z.sameBut hs (cne y c e)⟩
  ·obtain⟨w',z⟩:=I.cell y c e;exact⟨w',z.sameBut hs (cne y c e)⟩
  ·obtain⟨e,n,ne,nf,d⟩:=I.pin p hp;exact⟨(hs.2 p.1 ne).trans e,n,ne,nf,d⟩
 ·have hfn:X.fn x=true:=by
   rcases hf with z|z
   ·exact z
   ·rw[z] at hk; cases hk
  obtain⟨c,hc⟩:=I.ok.has x (.inl hk);obtain⟨w',z⟩:=I.cell x c hc;refine wpAny_storeName_cell I.ok.kind hk hc z (λh' hc' hs=>?_);obtain⟨oc,hoc,hocd⟩:=id z;refine h { s with heap:=h' } ⟨I.ok,I.os,I.bare,⟨λb o e n hb hx=>?_,λb o e n hb hx=>?_,I.base.free,λb o e hx=>?_,I.base.tups,I.base.frzs,I.base.tbls⟩,⟨m,hn.sameBut hs (Ne.symm (cne x c hc)),λj y v' e1 e2 e3=>?_⟩,λy c' e=>?_,I.free,I.freeC,λp hp=>?_,tracked ⟨oc,hoc,I.freeC x c hc⟩ hs,by simpa using I.len⟩ ⟨c,hs,.inr hc⟩
  ·exact(hs.2 b (ZI (ZM (Zp e) (I.ok.cab x c hfn hc)))).trans (I.base.keep b o e n hb hx)
  ·obtain⟨sl,e1⟩:=I.base.slot b o e n hb hx;exact⟨sl,(hs.2 b (ZI (ZM (Zp e) (I.ok.cab x c hfn hc)))).trans e1⟩
  ·obtain⟨o',e1⟩:=I.base.there b o e hx;exact⟨o',(hs.2 b (ZI (ZM (Zp e) (I.ok.cab x c hfn hc)))).trans e1⟩
  ·by_cases hj:j=i
   ·subst hj;rw[hi] at e1; cases e1;rw[Xm hiσ] at e2;cases e2;exact⟨u,r,.inr ⟨.inl hk,c,hc,hc'⟩⟩
   ·rw[ZZ (Ne.symm hj)] at e2;obtain⟨u',r',q⟩:=hl j y v' e1 e2 e3;refine⟨u',r',?_⟩;rcases q with q|⟨k,c',e,z'⟩
    ·exact .inl q
    ·refine .inr ⟨k,c',e,z'.sameBut hs ?_⟩;rintro rfl;exact hj (sI hN e1 (I.ok.inj _ _ _ e hc▸hi))
  ·by_cases hcc:c'=c
   ·subst hcc; exact⟨_,hc'⟩
   ·obtain⟨w2,z2⟩:=I.cell y c' e;exact⟨w2,z2.sameBut hs hcc⟩
  ·obtain⟨e,n,ne,nf,d⟩:=I.pin p hp;refine⟨(hs.2 p.1 ?_).trans e,n,ne,nf,d⟩;intro q;rw[q,hoc] at e;have q':oc=p.2:=Zy e;exact d w' (by rw[<- q']; exact hocd)
theorem Dw{M:Model}{A:Around}{E:Wv}{i:Nat}{x:Str}{v:V}{u:Value}{Q:Unit->Shared->Prop}(I:Inv X pins σ H s)(hN:X.N.Nodup)(hi:X.N[i]?=some x)(hx:Loc X.env.scope x)(r:RelV v u)
  (h:∀s',Inv X pins (σ.set i (some v)) H s'->Q () s') (hf:X.fn x=true\/X.env.scope.names.lookup x=some .local:=by first|exact .inl rfl|exact .inr rfl|assumption):wpAny M A (storeName X.env x u) Q E s :=
 vN I hN hi hx r (λs' I' _=>h s' I') hf
theorem Inv.CI{s':WA}{ch:WD}(I:Inv X pins σ H s)(ho:s'.os=s.os)(u:Un (frs X.stack) ch H H' s.heap s'.heap)(hok:HOk X.prog X.w H' s'.heap)(hg:AllBare s'.gens)
  (hch:∀b∈ch,(b∈X.ex\/X.s₀.heap.objs.size<=b)/\b≠X.env.locals/\(∀x c,X.env.cells.lookup x=some c->c≠b)/\∀p∈X.pn++pins,p.1≠b):Inv X pins σ H' s':=by
 obtain⟨h',g',d',t',o'⟩:=s';have e:o'=s.os:=ho;subst e;exact I.call (g':=g') (t':=t') (d':=d') u hok hg hch
end
abbrev XK:=Value->Option Addr->Hp->Prop
abbrev St:=List (Option V)
abbrev VK:=V->Hp->Prop
abbrev TE:=St->Hp->VK->Prop
abbrev TT:=St->Hp->(Bool->Hp->Prop)->Prop
abbrev TA:=St->Hp->(List V->Hp->Prop)->Prop
structure Ends where
 nx:St->Hp->Prop
 rt:VK
 bk:St->Hp->Prop:=λ_ _=>False
 ct:St->Hp->Prop:=λ_ _=>False
abbrev TS:=Ends->St->Hp->Prop
def EP(X:Cx)(pins:Ww)(σ:St)(Q:VK)(u:Value)(s':WA):Prop:=∃v H',Inv X pins σ H' s'/\RelV v u/\Q v H'
def TP(X:Cx)(pins:Ww)(σ:St)(Q:Bool->Hp->Prop)(b:Bool)(s':WA):Prop:=∃H',Inv X pins σ H' s'/\Q b H'
def AP(X:Cx)(pins:Ww)(σ:St)(Q:List V->Hp->Prop)(us:Wz)(s':WA):Prop:=∃vs H',Inv X pins σ H' s'/\Vals vs us/\Q vs H'
noncomputable def SP(X:Cx)(pins:Ww)(D:Ends)(f:Flow)(s':WA):Prop :=
 match f with
 | .next=>∃σ' H',Inv X pins σ' H' s'/\D.nx σ' H'
 | .brk=>∃σ' H',Inv X pins σ' H' s'/\D.bk σ' H'
 | .cont=>∃σ' H',Inv X pins σ' H' s'/\D.ct σ' H'
 | .ret u=>∃v σ' H',Inv X pins σ' H' s'/\RelV v u/\D.rt v H'
noncomputable def PE(X:Cx)(e:Expr)(t:TE):Prop :=
 ∀(pins:Ww) (s:WA) (σ:St) (H:Hp) (Q:VK),Inv X pins σ H s->t σ H Q->wpAny (model X.prog X.w) X.A (eval e X.env) (EP X pins σ Q) X.xe s
noncomputable def PT(X:Cx)(e:Expr)(t:TT):Prop :=
 ∀(pins:Ww) (s:WA) (σ:St) (H:Hp) (Q:Bool->Hp->Prop),Inv X pins σ H s->t σ H Q->wpAny (model X.prog X.w) X.A (isTrue e X.env (eval e X.env)) (TP X pins σ Q) X.xe s
noncomputable def PW(X:Cx)(e:Expr)(t:TT):Prop :=
 ∀(whole:Sem Value) (pins:Ww) (s:WA) (σ:St) (H:Hp) (Q:Bool->Hp->Prop),Inv X pins σ H s->t σ H Q->wpAny (model X.prog X.w) X.A (isTrue e X.env whole) (TP X pins σ Q) X.xe s
theorem PW.pt{X:Cx}{e:Expr}{t:TT}(h:PW X e t):PT X e t:=h _
noncomputable def PA(X:Cx)(es:WM)(t:TA):Prop :=
 ∀(pos:Pos) (pins:Ww) (s:WA) (σ:St) (H:Hp) (Q:List V->Hp->Prop),Inv X pins σ H s->t σ H Q->wpAny (model X.prog X.w) X.A (spliced (backTo pos (starEach es X.env))) (AP X pins σ Q) X.xe s
noncomputable def PS(X:Cx)(st:Stmt)(t:TS):Prop :=
 ∀(pins:Ww) (s:WA) (σ:St) (H:Hp) (D:Ends),Inv X pins σ H s->t D σ H->wpAny (model X.prog X.w) X.A (exec st X.env) (SP X pins D) X.xe s
noncomputable def PSs(X:Cx)(st:List Stmt)(t:TS):Prop :=
 ∀(pins:Ww) (s:WA) (σ:St) (H:Hp) (D:Ends),Inv X pins σ H s->t D σ H->wpAny (model X.prog X.w) X.A (execs st X.env) (SP X pins D) X.xe s
theorem thn{α:Type}{t:Sem α}{Q Q':α->Shared->Prop}{M:Model}{A:Around}{E:Wv}{s:WA}(h:wpAny M A t Q E s)(hQ:∀a s,Q a s->Q' a s):wpAny M A t Q' E s:=XH h hQ λ_ _ x=>x
end L2
namespace L2
open PySem PySem.Spec PyProof.Rows
section
variable{X:Cx}
noncomputable def Hf(i:Nat):TE:=λσ H Q=>∃v,σ[i]?=some (some v)/\Q v H
noncomputable def tC(v:V):TE:=λ_ H Q=>Q v H
theorem z8{i:Nat}{x:Str}{pos:Pos}(hN:X.N[i]?=some x)(hv:Vis X.env.scope x)(hd:(x==("__debug__" : Str))=false:=by decide)(hcd:(x==("__classdict__" : Str))=false:=by decide):PE X (.Name x pos) (Hf i):=by
 intro pins s σ H Q I h;obtain⟨v,e,h⟩:=h;obtain⟨m,hn,hl⟩:=I.loc;obtain⟨u,r,l⟩:=hl i x v hN e hv;have fin:EP X pins σ Q u s:=⟨v,H,I,r,h⟩
 rcases l with⟨hk,hm⟩|⟨hk,c,hc,hcell⟩
 ·exact wpAny_Name (wpAny_loadName_local I.ok.kind hk hn hm fin) hd
 ·rcases hk with hk|hk
  ·exact wpAny_Name (wpAny_loadName_cell I.ok.kind hk hc hcell fin) hd
  ·exact wpAny_Name (wpAny_loadName_free I.ok.kind hk hc hcell fin hcd) hd
theorem BC{i j pos}:PE X (.Constant (.int i) j pos) (tC (.int i)):=λ_ _ _ H _ I h=>wpAny_Constant_int ⟨.int i,H,I.tok _,⟨_,rfl⟩,h⟩
theorem Eo{b j pos}:PE X (.Constant (.bool b) j pos) (tC (.bl b)):=λ_ _ _ H _ I h=>Constant_bool ⟨.bl b,H,I,rfl,h⟩
theorem AK{j pos}:PE X (.Constant .none j pos) (tC .non):=λ_ _ _ H _ I h=>Constant_none ⟨.non,H,I,rfl,h⟩
theorem HV{x j pos}:PE X (.Constant (.str x) j pos) (tC (.str x)):=λ_ _ _ H _ I h=>Calls.Constant_str ⟨.str x,H,I.tok _,⟨_,rfl⟩,h⟩
def Gl(X:Cx)(x:Str):Prop:=X.env.kindOf x=some .globalImplicit
theorem oU{E:Wv}{pins:Ww}{s:WA}{σ:St}{H:Hp}{x:Str}{u:Value}{pos:Pos}{Q:Wv}(I:Inv X pins σ H s)(hg:Gl X x)(hm:X.mg x=some u)(h:Q u s)
  (hd:(x==("__debug__" : Str))=false:=by decide):wpAny (model X.prog X.w) X.A (eval (.Name x pos) X.env) Q E s :=
 Calls.Name_function_global I.ok.kind hg (Calls.loadGlobal_global (by rw[I.ok.glob]; exact I.mod.glob.keeps I.bk) hm h) hd
theorem ef{E:Wv}{pins:Ww}{s:WA}{σ:St}{H:Hp}{x:Str}{u:Value}{pos:Pos}{Q:Wv}(I:Inv X pins σ H s)(hg:Gl X x)(hm:X.mg x=none)(hv:bootBuiltins x=some u)(h:Q u s)
  (hn:x≠"__name__":=by decide) (hd:(x==("__debug__" : Str))=false:=by decide):wpAny (model X.prog X.w) X.A (eval (.Name x pos) X.env) Q E s:=by
 obtain⟨mb,h1,h2⟩:=I.mod.blt;exact Calls.Name_function_global I.ok.kind hg (Calls.loadGlobal_builtin (by rw[I.ok.glob]; exact I.mod.glob.keeps I.bk) hm (by rw[I.ok.blt]; exact h1.keeps I.bk) ((h2 x hn).trans hv) h) hd
theorem C2{x:Str}{v:V}{u:Value}{pos:Pos}(hg:Gl X x)(hm:X.mg x=some u)(r:RelV v u)(hd:(x==("__debug__" : Str))=false:=by decide):PE X (.Name x pos) (tC v) :=
 λ_ _ _ H _ I h=>oU I hg hm ⟨v,H,I,r,h⟩ hd
theorem yq{x:Str}{v:V}{u:Value}{pos:Pos}(hg:Gl X x)(hm:X.mg x=none)(hv:bootBuiltins x=some u)(r:RelV v u)(hn:x≠"__name__":=by decide)(hd:(x==("__debug__" : Str))=false:=by decide):PE X (.Name x pos) (tC v) :=
 λ_ _ _ H _ I h=>ef I hg hm hv ⟨v,H,I,r,h⟩ hn hd
variable{a b:Expr}{ta tb:TE}{pos:Pos}
noncomputable def PC(X:Cx)(op:CmpOp)(a b:Expr)(t:TE):Prop :=
 ∀(pins:Ww) (s:WA) (σ:St) (H:Hp) (Q:VK),Inv X pins σ H s->t σ H Q ->
  wpAny (model X.prog X.w) X.A (eval a X.env) (λv s₁=>wpAny (model X.prog X.w) X.A (eval b X.env) (λu s₂=>wpAny (model X.prog X.w) X.A (compareOp op v u) (EP X pins σ Q) X.xe s₂) X.xe s₁) X.xe s
theorem uu(b:Expr){op:CmpOp}(h:op≠.In)(h2:op≠.NotIn):behindInMarks op b=false:=by
 have e1:(op==CmpOp.In)=false:=by cases op<;>first|rfl|exact absurd rfl h
 have e2:(op==CmpOp.NotIn)=false:=by cases op<;>first|rfl|exact absurd rfl h2
 cases b<;>simp[behindInMarks,e1,e2]
noncomputable def AL(ta:TE):TE:=λσ H Q=>ta σ H λx H1=>Q (.bl (decide (x=.non))) H1
noncomputable def CH(ta:TE):TE:=λσ H Q=>ta σ H λx H1=>Q (.bl (!decide (x=.non))) H1
theorem RelV.wQ{x:V}{v:Value}(r:RelV x v):(v==Value.none)=decide (x=.non):=by
 cases x with
 | non=>cases r; rfl
 | bl _=>cases r; rfl
 | int _=>obtain⟨t,rfl⟩:=r; rfl
 | str _=>obtain⟨t,rfl⟩:=r; rfl
 | byt _=>obtain⟨t,rfl⟩:=r; rfl
 | flt _=>obtain⟨t,rfl⟩:=r; rfl
 | ref _=>cases r; rfl
 | ty _=>cases r; rfl
theorem uY{j pos'}(ha:PE X a ta):PC X .Is a (.Constant .none j pos') (AL ta):=by
 intro pins s σ H Q I h;refine thn (ha pins s σ H _ I h) λv s1 ⟨x,H1,I1,r1,q1⟩=>?_
 exact Constant_none (is_none_gen ⟨.bl _,H1,I1,by rw[r1.wQ]; rfl,q1⟩)
theorem w_{j pos'}(ha:PE X a ta):PC X .IsNot a (.Constant .none j pos') (CH ta):=by
 intro pins s σ H Q I h;refine thn (ha pins s σ H _ I h) λv s1 ⟨x,H1,I1,r1,q1⟩=>?_
 exact Constant_none (isnot_none_gen ⟨.bl _,H1,I1,by rw[r1.wQ]; rfl,q1⟩)
noncomputable def tB(t:TE):TT:=λσ H Q=>t σ H λx H1=>∃c,x=.bl c/\Q c H1
theorem tH{op:CmpOp}{t:TE}(h:PC X op a b t)(h1:behindInMarks op b=false:=by first|exact uu _ (by decide) (by decide)|rfl):PE X (.Compare a [op] [b] pos) t:=λpins s σ H Q I hw=>wpAny_Compare1 (h pins s σ H Q I hw) h1
theorem tV{op:CmpOp}{t:TE}(h:PC X op a b t)(h1:behindInMarks op b=false:=by first|exact uu _ (by decide) (by decide)|rfl):PT X (.Compare a [op] [b] pos) (tB t):=by
 intro pins s σ H Q I hw;refine wpAny_isTrue_Compare1 (thn (h pins s σ H _ I hw) λv s1 h1=>thn h1 λu s2 h2=>thn h2 λc s3 ⟨x,H1,I1,r1,q1⟩=>?_) h1;obtain⟨d,rfl,q⟩:=q1;cases r1;exact Xi ⟨H1,I1,q⟩
variable{tA tB':TT}{rest:WM}
noncomputable def zv(t u:TT):TT:=λσ H Q=>t σ H λc H1=>if c=true then u σ H1 Q else Q false H1
noncomputable def tOr(t u:TT):TT:=λσ H Q=>t σ H λc H1=>if c=true then Q true H1 else u σ H1 Q
noncomputable def AV(t:TT):TT:=λσ H Q=>t σ H λc H1=>Q (!c) H1
theorem pQ(ha:PT X a tA):PW X (.BoolOp .And [a] pos) tA:=by
 intro wh pins s σ H Q I h;refine isTrue_and (thn (ha pins s σ H Q I h) λc s1 e=>?_)
 cases c with
 | true=>exact isTrue_and_nil e
 | false=>exact e
theorem qQ(ha:PT X a tA):PW X (.BoolOp .Or [a] pos) tA:=by
 intro wh pins s σ H Q I h;refine isTrue_or (thn (ha pins s σ H Q I h) λc s1 e=>?_)
 cases c with
 | false=>exact isTrue_or_nil e
 | true=>exact e
theorem A9(ha:PT X a tA)(hb:PW X (.BoolOp .And (b::rest) pos) tB'):PW X (.BoolOp .And (a::b::rest) pos) (zv tA tB'):=by
 intro wh pins s σ H Q I h;refine isTrue_and (thn (ha pins s σ H _ I h) λc s1 ⟨H1,I1,q1⟩=>?_)
 cases c with
 | true=>exact hb wh pins s1 σ H1 Q I1 q1
 | false=>exact⟨H1,I1,q1⟩
theorem AY(ha:PT X a tA)(hb:PW X (.BoolOp .Or (b::rest) pos) tB'):PW X (.BoolOp .Or (a::b::rest) pos) (tOr tA tB'):=by
 intro wh pins s σ H Q I h;refine isTrue_or (thn (ha pins s σ H _ I h) λc s1 ⟨H1,I1,q1⟩=>?_)
 cases c with
 | true=>exact⟨H1,I1,q1⟩
 | false=>exact hb wh pins s1 σ H1 Q I1 q1
theorem AF(ha:PT X a tA):PT X (.UnaryOp .Not a pos) (AV tA):=by
 intro pins s σ H Q I h;exact isTrue_not (ha pins s σ H (λc H1=>Q (!c) H1) I h)
noncomputable def HX(ta tb:TE):TE:=λσ H Q=>ta σ H λx H1=>∃c,x=.bl c/\if c=true then tb σ H1 Q else Q (.bl false) H1
noncomputable def IT(ta tb:TE):TE:=λσ H Q=>ta σ H λx H1=>∃c,x=.bl c/\if c=true then Q (.bl true) H1 else tb σ H1 Q
noncomputable def zf(ta:TE):TE:=λσ H Q=>ta σ H λx H1=>∃c,x=.bl c/\Q (.bl (!c)) H1
theorem q_{op}{t:TE}(h:PE X a t):PE X (.BoolOp op [a] pos) t:=λpins s σ H Q I hw=>BoolOp_one (h pins s σ H Q I hw)
theorem Ga(ha:PE X a ta)(hb:PE X (.BoolOp .And (b::rest) pos) tb):PE X (.BoolOp .And (a::b::rest) pos) (HX ta tb):=by
 intro pins s σ H Q I h;refine BoolOp_and (thn (ha pins s σ H _ I h) λv s1 ⟨x,H1,I1,r1,q1⟩=>?_);obtain⟨c,rfl,q1⟩:=q1;cases r1;refine Xi ?_
 cases c with
 | true=>exact hb pins s1 σ H1 Q I1 q1
 | false=>exact⟨.bl false,H1,I1,rfl,q1⟩
theorem Jm(ha:PE X a ta)(hb:PE X (.BoolOp .Or (b::rest) pos) tb):PE X (.BoolOp .Or (a::b::rest) pos) (IT ta tb):=by
 intro pins s σ H Q I h;refine BoolOp_or (thn (ha pins s σ H _ I h) λv s1 ⟨x,H1,I1,r1,q1⟩=>?_);obtain⟨c,rfl,q1⟩:=q1;cases r1;refine Xi ?_
 cases c with
 | false=>exact hb pins s1 σ H1 Q I1 q1
 | true=>exact⟨.bl true,H1,I1,rfl,q1⟩
theorem CS(ha:PE X a ta):PE X (.UnaryOp .Not a pos) (zf ta):=by
 intro pins s σ H Q I h;refine UnaryOp_ (thn (ha pins s σ H _ I h) λv s1 ⟨x,H1,I1,r1,q1⟩=>?_);obtain⟨c,rfl,q1⟩:=q1;cases r1;exact not_of (Xi ⟨.bl (!c),H1,I1,rfl,q1⟩)
noncomputable def tIf(t:TT)(ta tb:TE):TE:=λσ H Q=>t σ H λc H1=>if c=true then ta σ H1 Q else tb σ H1 Q
theorem BV{c:Expr}(hc:PT X c tA)(ha:PE X a ta)(hb:PE X b tb):PE X (.IfExp c a b pos) (tIf tA ta tb):=by
 intro pins s σ H Q I h;refine wpAny_IfExp (thn (hc pins s σ H _ I h) λd s1 ⟨H1,I1,q1⟩=>?_)
 cases d with
 | true=>exact ha pins s1 σ H1 Q I1 q1
 | false=>exact hb pins s1 σ H1 Q I1 q1
end
end L2
namespace L2
open PySem PySem.Spec PyProof.Rows
noncomputable def SqL(K:Wy)(H:Hp)(a:Addr)(xs:WN):Prop :=
 Rd H a (.lst xs) \/
  ∃(o:Obj) (its:WJ) (n:Nat),K.lookup a=some o/\o.cls=.type "list"/\o.dict=none/\o.data=.seq its n/\its.size<=sizeLine/\Vals xs its.toList
noncomputable def SqT(K:Wy)(H:Hp)(a:Addr)(xs:WN):Prop :=
 Rd H a (.tup xs) \/
  ∃(o:Obj) (its:WJ) (n:Nat),K.lookup a=some o/\o.cls=.type "tuple"/\o.data=.seq its n/\its.size<=sizeLine/\Vals xs its.toList
noncomputable def zZ:Value->Option V
 | .none=>some .non
 | .bool b=>some (.bl b)
 | .int i _=>some (.int i)
 | .str x _=>some (.str x)
 | .bytes b _=>some (.byt b)
 | .float b _=>some (.flt b)
 | .ref a=>some (.ref a)
 | .type n=>some (.ty n)
 | _=>none
theorem RelV.abs{x:V}{u:Value}(r:RelV x u):zZ u=some x:=by
 cases x with
 | non=>cases r; rfl
 | bl _=>cases r; rfl
 | int _=>obtain⟨t,rfl⟩:=r; rfl
 | str _=>obtain⟨t,rfl⟩:=r; rfl
 | byt _=>obtain⟨t,rfl⟩:=r; rfl
 | flt _=>obtain⟨t,rfl⟩:=r; rfl
 | ref _=>cases r; rfl
 | ty _=>cases r; rfl
theorem RelV.inj{x y:V}{u:Value}(r:RelV x u)(q:RelV y u):x=y:=Zy (r.abs.symm.trans q.abs)
theorem Vals.inj:∀{xs ys:WN} {us:Wz},Vals xs us->Vals ys us->xs=ys
 | _,_,_,.nil,.nil=>rfl
 | _,_,_,.cons r t,.cons r' t'=>by rw[r.inj r',Vals.inj t t']
section
variable{X:Cx}{pins:Ww}{σ:St}{H:Hp}{s:WA}{a:Addr}{xs ys:WN}
theorem SqL.of{K:Wy}(h:H a=some (.lst xs)):SqL K H a xs:=.inl (.inl h)
theorem SqT.of{K:Wy}(h:H a=some (.tup xs)):SqT K H a xs:=.inl (.inl h)
theorem Inv.list(I:Inv X pins σ H s)(h:SqL X.K H a xs):∃its:List Value,Vals xs its/\PlainL s.heap a its.toArray/\xs.length<=sizeLine:=by
 rcases h with h|⟨o,its,n,hk,hc,hd,hs,hz,r⟩
 ·obtain⟨z,its,n,r,e⟩:=h.ok I.hok;exact⟨its,r,⟨_,n,e,rfl,rfl,rfl⟩,z⟩
 ·refine⟨its.toList,r,⟨o,n,I.kIn a o hk,hc,hd,by simpa using hs⟩,?_⟩;have e:=r.length;simp only[ZH] at e;omega
theorem Inv.tuple(I:Inv X pins σ H s)(h:SqT X.K H a xs):∃its:List Value,Vals xs its/\IsTup s.heap a its.toArray/\xs.length<=sizeLine:=by
 rcases h with h|⟨o,its,n,hk,hc,hs,hz,r⟩
 ·obtain⟨z,its,r,p⟩:=h.ok I.hok;exact⟨its,r,p,z⟩
 ·refine⟨its.toList,r,⟨o,I.kIn a o hk,hc,n,by simpa using hs⟩,?_⟩;have e:=r.length;simp only[ZH] at e;omega
theorem Inv.jK(I:Inv X pins σ H s)(h:SqL X.K H a xs)(h':SqL X.K H a ys):xs=ys:=by
 obtain⟨its,r,⟨o,n,e,_,_,d⟩,_⟩:=I.list h;obtain⟨its',r',⟨o',n',e',_,_,d'⟩,_⟩:=I.list h';rw[e] at e'; cases e';rw[d] at d';injection d' with d1 _;have:its=its':=by simpa using Xp Array.toList d1
 subst this;exact r.inj r'
theorem Inv.jF(I:Inv X pins σ H s)(h:SqT X.K H a xs)(h':SqT X.K H a ys):xs=ys:=by
 obtain⟨its,r,⟨o,e,_,n,d⟩,_⟩:=I.tuple h;obtain⟨its',r',⟨o',e',_,n',d'⟩,_⟩:=I.tuple h';rw[e] at e'; cases e';rw[d] at d';injection d' with d1 _;have:its=its':=by simpa using Xp Array.toList d1
 subst this;exact r.inj r'
end
abbrev Cx.eg(X:Cx)(E:Wv):Cx:={ X with xe:=E }
abbrev Cx.nox(X:Cx):Cx:=X.eg λ_ _=>False
theorem Cx.Ok.eg{X:Cx}(ok:X.Ok)(E:Wv):(X.eg E).Ok :=
 ⟨ok.mod,ok.kind,ok.glob,ok.blt,ok.above,ok.inj,ok.has,ok.cab,ok.hd,ok.frames,ok.stk,ok.exf,ok.bs,ok.bsz,ok.noex,ok.exfs,ok.dm,ok.frf⟩
theorem Cx.Ok.gJ{X:Cx}{E:Wv}(ok:(X.eg E).Ok):X.Ok :=
 ⟨ok.mod,ok.kind,ok.glob,ok.blt,ok.above,ok.inj,ok.has,ok.cab,ok.hd,ok.frames,ok.stk,ok.exf,ok.bs,ok.bsz,ok.noex,ok.exfs,ok.dm,ok.frf⟩
section
variable{X:Cx}{pins:Ww}{σ:St}{H:Hp}{s:WA}{E:Wv}
theorem Inv.eg(I:Inv X pins σ H s)(E:Wv):Inv (X.eg E) pins σ H s:=⟨I.ok.eg E,I.os,I.bare,I.base,I.loc,I.cell,I.free,I.freeC,I.pin,I.hok,I.len⟩
theorem Inv.gJ(I:Inv (X.eg E) pins σ H s):Inv X pins σ H s:=⟨I.ok.gJ,I.os,I.bare,I.base,I.loc,I.cell,I.free,I.freeC,I.pin,I.hok,I.len⟩
end
section
variable{X:Cx}{st:Stmt}{rest:List Stmt}{t u:TS}{e:Expr}{te:TE}{pos:Pos}
noncomputable def oQ:TS:=λD σ H=>D.nx σ H
noncomputable def H_(t u:TS):TS:=λD σ H=>t { D with nx:=u D } σ H
theorem II:PSs X [] oQ:=λ_ _ σ H _ I h=>wpAny_execs_nil ⟨σ,H,I,h⟩
theorem B9(h1:PS X st t)(h2:PSs X rest u):PSs X (st::rest) (H_ t u):=by
 intro pins s σ H D I h;refine wpAny_execs_cons (thn (h1 pins s σ H { D with nx:=u D } I h) λf s1 q=>?_)
 cases f with
 | next =>
  obtain⟨σ',H',I',q⟩:=q;exact h2 pins s1 σ' H' D I' q
 | ret v=>exact q
 | brk=>exact q
 | cont=>exact q
theorem ye(h1:PS X st t):PSs X [st] t:=by
 intro pins s σ H D I h;refine wpAny_execs_cons (thn (h1 pins s σ H D I h) λf s1 q=>?_)
 cases f with
 | next=>exact wpAny_execs_nil q
 | ret v=>exact q
 | brk=>exact q
 | cont=>exact q
theorem IW:PS X (.Pass pos) oQ:=λ_ _ σ H _ I h=>wpAny_Pass ⟨σ,H,I,h⟩
theorem Inv.quiet{pins:Ww}{σ:St}{H:Hp}{s:WA}(I:Inv X pins σ H s):interactive X.env=false:=by simp[interactive,I.ok.kind]
theorem CM{x j pos pos'}:PS X (.Expr (.Constant (.str x) j pos) pos') oQ:=λ_ s σ H _ I h=>wpAny_Expr (Calls.Constant_str (show SP X _ _ .next { s with toks:=s.toks+1 } from⟨σ,H,I.tok _,h⟩)) I.quiet
noncomputable def DP(te:TE):TS:=λD σ H=>te σ H λ_ H1=>D.nx σ H1
theorem D5(he:PE X e te)(hs:swapsWith e none pos.line X.env=pure false:=by rfl):PS X (.Expr e pos) (DP te):=by
 intro pins s σ H D I h;exact wpAny_Expr_any (thn (he pins s σ H _ I h) λv s1 ⟨x,H1,I1,r1,q1⟩=>⟨σ,H1,I1,q1⟩) I.quiet hs
noncomputable def Ij(te:TE):TS:=λD σ H=>te σ H D.rt
theorem Ci(he:PE X e te):PS X (.Return (some e) pos) (Ij te):=by
 intro pins s σ H D I h;exact wpAny_Return_some (thn (he pins s σ H _ I h) λv s1 ⟨x,H1,I1,r1,q1⟩=>⟨x,σ,H1,I1,r1,q1⟩)
noncomputable def yc:TS:=λD _ H=>D.rt .non H
theorem FT:PS X (.Return none pos) yc:=λ_ _ σ H _ I h=>wpAny_Return_none ⟨.non,σ,H,I,rfl,h⟩
noncomputable def HL(c:TT)(t u:TS):TS:=λD σ H=>c σ H λb H1=>if b=true then t D σ H1 else u D σ H1
theorem Df{c:Expr}{a b:List Stmt}{tc:TT}(hc:PT X c tc)(ha:PSs X a t)(hb:PSs X b u):PS X (.If c a b pos) (HL tc t u):=by
 intro pins s σ H D I h;refine wpAny_If (thn (hc pins s σ H _ I h) λd s1 ⟨H1,I1,q1⟩=>?_)
 cases d with
 | true=>exact ha pins s1 σ H1 D I1 q1
 | false=>exact hb pins s1 σ H1 D I1 q1
end
abbrev TG:=V->St->Hp->(St->Hp->Prop)->Prop
abbrev TGs:=List V->St->Hp->(St->Hp->Prop)->Prop
noncomputable def PG(X:Cx)(target:Expr)(t:TG):Prop :=
 ∀(pins:Ww) (s:WA) (σ:St) (H:Hp) (v:V) (u:Value) (Q:St->Hp->Prop),Inv X pins σ H s->RelV v u->t v σ H Q ->
  wpAny (model X.prog X.w) X.A (assign target X.env u) (λ_ s'=>∃σ' H',Inv X pins σ' H' s'/\Q σ' H') X.xe s
noncomputable def PGs(X:Cx)(ts:WM)(t:TGs):Prop :=
 ∀(pins:Ww) (s:WA) (σ:St) (H:Hp) (vs:WN) (us:Wz) (Q:St->Hp->Prop),Inv X pins σ H s->Vals vs us->t vs σ H Q ->
  wpAny (model X.prog X.w) X.A (assignInOrder ((assignEach ts X.env).map (·.2)) us) (λ_ s'=>∃σ' H',Inv X pins σ' H' s'/\Q σ' H') X.xe s
abbrev bU:=V->V->V->Hp->(Hp->Prop)->Prop
noncomputable def oA(X:Cx)(t:bU):Prop :=
 ∀(pins:Ww) (s:WA) (σ:St) (H:Hp) (o i v:V) (ov iv u:Value) (Q:Hp->Prop),Inv X pins σ H s->RelV o ov->RelV i iv->RelV v u->t o i v H Q ->
  wpAny (model X.prog X.w) X.A (setItem ov iv u) (λ_ s'=>∃H',Inv X pins σ H' s'/\Q H') X.xe s
section
variable{X:Cx}{pos:Pos}
noncomputable def jr(i:Nat):TG:=λv σ H Q=>Q (σ.set i (some v)) H
theorem sE{i:Nat}{x:Str}(hN:X.N.Nodup)(hi:X.N[i]?=some x)(hx:Loc X.env.scope x)(hf:X.fn x=true\/X.env.scope.names.lookup x=some .local:=by first|exact .inl rfl|exact .inr rfl|assumption):PG X (.Name x pos) (jr i):=by
 intro pins s σ H v u Q I r h;exact wpAny_assign_Name (Dw I hN hi hx r (λs' I'=>⟨_,H,I',h⟩) hf)
noncomputable def qk:TGs:=λvs σ H Q=>vs=[]/\Q σ H
noncomputable def qi(t:TG)(u:TGs):TGs:=λvs σ H Q=>∃v r,vs=v::r/\t v σ H λσ' H'=>u r σ' H' Q
theorem IL:PGs X [] qk:=by
 intro pins s σ H vs us Q I r h;obtain⟨e,h⟩:=h;subst e;cases r;exact assignInOrder_nil ⟨σ,H,I,h⟩
theorem CU{e:Expr}{es:WM}{t:TG}{u:TGs}(h1:PG X e t)(h2:PGs X es u)
  (hs:(assignEach (e::es) X.env).map (·.2)=assign e X.env::(assignEach es X.env).map (·.2):=by rfl):PGs X (e::es) (qi t u):=by
 intro pins s σ H vs us Q I r h;obtain⟨v,vr,e1,h⟩:=h;subst e1
 cases r with
 | cons r rr =>
  rw[hs];refine assignInOrder_cons (thn (h1 pins s σ H _ _ _ I r h) λ_ s1 ⟨σ1,H1,I1,q1⟩=>?_);exact h2 pins s1 σ1 H1 _ _ Q I1 rr q1
noncomputable def yr(K:Wy)(n:Nat)(t:TGs):TG:=λv σ H Q=>∃a xs,v=.ref a/\SqT K H a xs/\xs.length=n/\t xs σ H Q
theorem Cg{es:WM}{k:Nat}{t:TGs}{n:Nat}(hc:X.calm=true)(h:PGs X es t)
  (hn:(assignEach es X.env).length=n:=by rfl) (hst:(assignEach es X.env).findIdx? (·.1)=none:=by rfl):PG X (.Tuple es k pos) (yr X.K n t):=by
 intro pins s σ H v u Q I r hw;obtain⟨a,xs,e1,hq,hl,hw⟩:=hw;subst e1;cases r;obtain⟨its,rv,ht,hz⟩:=I.tuple hq;refine assign_Tuple_tuple (I.ok.hd hc) ht (by simp[hn,<- hl,rv.length]) hst λh' hx=>?_
 have I1:Inv X pins σ H { s with heap:=h' }:=I.kept (t':=s.toks) λb o e=>hx b o (ZI (Zp e)) e
 exact h pins _ σ H xs _ Q I1 (by simpa using rv) hw
noncomputable def wI(to ti:TE)(t:bU):TG:=λv σ H Q=>to σ H λo H1=>ti σ H1 λi H2=>t o i v H2 λH3=>Q σ H3
theorem zK{o i:Expr}{to ti:TE}{t:bU}(ho:PE X o to)(hi:PE X i ti)(hs:oA X t)
  (ha:∀v,assign (.Subscript o i pos) X.env v=(do
   let ov <- holding [v] (eval o X.env)
   let iv <- holding [v,ov] (eval i X.env)
   standAt pos
   holding [v,ov,iv] (setItem ov iv v)
   release [v,ov,iv] []):=by intro _; rfl):PG X (.Subscript o i pos) (wI to ti t):=by
 intro pins s σ H v u Q I r h;rw[ha];refine Za (XE (thn (ho pins s σ H _ I h) λov s1 ⟨x,H1,I1,r1,q1⟩=>?_));refine Za (XE (thn (hi pins s1 σ H1 _ I1 q1) λiv s2 ⟨y,H2,I2,r2,q2⟩=>?_));refine Za (wpAny_standAt (Za (XE (thn (hs pins s2 σ H2 x y v ov iv u _ I2 r1 r2 r q2) λ_ s3 ⟨H3,I3,q3⟩=>?_))));exact wpAny_release ⟨σ,H3,I3,q3⟩
noncomputable def lB(te:TE)(g:TG):TS:=λD σ H=>te σ H λx H1=>g x σ H1 D.nx
theorem tw{tg e:Expr}{te:TE}{g:TG}(he:PE X e te)(hg:PG X tg g)(hs:swapsWithSole [tg] e pos.line X.env=pure false:=by rfl)(hw:swappedStores [tg] e X.env=pure none:=by rfl)
  (h1:(assignEach [tg] X.env).map (·.2)=[assign tg X.env]:=by rfl):PS X (.Assign [tg] e pos) (lB te g):=by
 intro pins s σ H D I h;refine wpAny_Assign_stores (thn (he pins s σ H _ I h) λv s1 ⟨x,H1,I1,r1,q1⟩=>?_) hs hw;rw[h1];exact thn (hg pins s1 σ H1 x v _ I1 r1 q1) λ_ s2 q=>q
end
section
variable{X:Cx}{pos:Pos}
end
structure It where
 go:Nat->Hp->Prop
 yld:Nat->Hp->V->Hp->Prop
 stop:Nat->Hp->Prop
noncomputable def cI(X:Cx)(pins:Ww)(H:Hp)(b:Addr):Prop :=
 H b=none/\b≠X.env.locals/\b∉X.fs/\(b∈X.ex\/X.s₀.heap.objs.size<=b)/\(∀x c,X.env.cells.lookup x=some c->c≠b)/\∀p∈X.pn++pins,p.1≠b
theorem Inv.fZ{X:Cx}{pins:Ww}{σ:St}{H H':Hp}{s:WA}{b:Addr}(I:Inv X pins σ H s)(hb:s.heap.objs.size<=b)(hn:H' b=none):cI X pins H' b:=by
 refine⟨hn,Xy (ZM I.lt hb),I.AR hb,.inr (Xa I.sz hb),λx c e z=>?_,λp hp z=>?_⟩
 ·obtain⟨v,q⟩:=I.cell x c e;exact absurd (ZM q.lt (by rw[z]; exact hb)) (Xe _)
 ·exact absurd (ZM (Zp (I.pin p hp).1) (by rw[z]; exact hb)) (Xe _)
structure Turn(P:WC)(w:WG)(K:Wy)(tg:Expr)(J:It)(fp:WD)(it:Addr)(tn:Nat->Heap->Prop):Prop where
 mem:it∈fp
 obj:∀i h,tn i h->∀b∈fp,∃o,h.get? b=some o/\∀v,o.data≠.cell v
 keep:∀i h h',tn i h->(∀b∈fp,∀o,h.get? b=some o->h'.get? b=some o)->tn i h'
 item:∀(X:Cx),X.prog=P->X.w=w->X.K=K->X.calm=true->∀(i:Nat) (pins:Ww) (s:WA) (σ:St) (H:Hp) (E:Wv),Inv X pins σ H s->(∀b∈fp,cI X pins H b)->tn i s.heap->J.go i H ->
  wpAny (model P w) X.A (pyNext (.ref it)) (λr s1=>∃u,r=some u /\
   wpAny (model P w) X.A (letOwnedTupleGo tg (.ref it) u) (λ_ s2=>∃x H',Inv X pins σ H' s2/\RelV x u/\J.yld i H x H'/\tn (i+1) s2.heap/\∀b∈fp,H' b=none) E s1) E s
 done:∀(X:Cx),X.prog=P->X.w=w->X.K=K->X.calm=true->∀(i:Nat) (pins:Ww) (s:WA) (σ:St) (H:Hp) (E:Wv),Inv X pins σ H s->(∀b∈fp,cI X pins H b)->tn i s.heap->J.stop i H ->
  wpAny (model P w) X.A (pyNext (.ref it)) (λr s1=>r=none/\Inv X pins σ H s1) E s
 self:∀(A:Around) (i:Nat) (s:WA) (Q:Wv) (E:Wv),tn i s.heap->Q (.ref it) s->wpAny (model P w) A (pyIter (.ref it)) Q E s
abbrev TI:=St->Hp->(It->Hp->Prop)->Prop
noncomputable def PIE(X:Cx)(pins:Ww)(σ:St)(tg:Expr)(R:It->Hp->Prop)(itv:Value)(s2:WA):Prop :=
 ∃(it:Addr) (fp:WD) (tn:Nat->Heap->Prop) (J:It) (H':Hp),itv=.ref it/\Inv X pins σ H' s2/\Turn X.prog X.w X.K tg J fp it tn/\tn 0 s2.heap/\(∀b∈fp,cI X pins H' b)/\R J H'
noncomputable def PI(X:Cx)(tg iter:Expr)(wi:TI):Prop :=
 ∀(pins:Ww) (s:WA) (σ:St) (H:Hp) (R:It->Hp->Prop),Inv X pins σ H s->wi σ H R ->
  wpAny (model X.prog X.w) X.A (eval iter X.env) (λv s1=>wpAny (model X.prog X.w) X.A (pyIter v) (PIE X pins σ tg R) X.xe s1) X.xe s
theorem jD{M:Model}{A:Around}{E:Wv}{s:WA}{tg:Expr}{it:Addr}{u:Value}{o:Obj}{n:String}{vs:WJ}{Q:Unit->Shared->Prop}(ho:s.heap.get? it=some o)(hc:o.cls=.type n)(hd:o.data=.fields vs)
  (hn:["enumerate","zip","dict_itemiterator","dict_reverseitemiterator","odict_iterator","itertools.zip_longest","itertools.pairwise"].contains n=false) (hQ:Q () s):wpAny M A (letOwnedTupleGo tg (.ref it) u) Q E s:=by
 unfold letOwnedTupleGo
 cases tg<;>first
  | exact Ze hQ
  | (cases u<;>first
    | exact Ze hQ
    | (
      refine Za (wpAny_load ho ?_);rw[hc,hd];show wpAny M A (if(["enumerate","zip","dict_itemiterator","dict_reverseitemiterator","odict_iterator","itertools.zip_longest","itertools.pairwise"].contains n&&vs[0]?==some (rawInt _))=true then _ else _) Q E s;rw[Zg (by intro h; rw[hn,Bool.false_and] at h; cases h)];exact Ze hQ))
noncomputable def Itl(K:Wy)(a:Addr):It :=
 ⟨λi H=>∃xs x,SqL K H a xs/\xs[i]?=some x,λi H x H'=>H'=H/\∀xs,SqL K H a xs->xs[i]?=some x,λi H=>∃xs,SqL K H a xs/\xs.length<=i⟩
noncomputable def Itt(K:Wy)(a:Addr):It :=
 ⟨λi H=>∃xs x,SqT K H a xs/\xs[i]?=some x,λi H x H'=>H'=H/\∀xs,SqT K H a xs->xs[i]?=some x,λi H=>∃xs,SqT K H a xs/\xs.length<=i⟩
noncomputable def Itr(lo:Int)(n:Nat):It:=⟨λi _=>i<n,λi H x H'=>H'=H/\x=.int (lo+i),λi _=>n<=i⟩
theorem IA{P:WC}{w:WG}{K:Wy}{tg:Expr}(a it:Addr):Turn P w K tg (Itl K a) [it] it (λi h=>h.IsListIter it a i) where
 mem:=by simp
 obj:=λi h st b hb=>by
  have e:b=it:=by simpa using hb
  subst e;obtain⟨o,e,c,d⟩:=st;exact⟨o,e,λv z=>by rw[d] at z; cases z⟩
 keep:=λi h h' st k=>st.at λo e=>k it (by simp) o e
 item:=by
  intro X hP hw hK hc i pins s σ H E I hf st hg;subst hP hw hK;obtain⟨xs,x,hq,hx⟩:=hg;obtain⟨its,rv,p,hz⟩:=I.list hq;obtain⟨u,hu,ru⟩:=rv.get hx;obtain⟨f0,f1,f2,f3,f4,f5⟩:=hf it (by simp);refine wpAny_pyNext_list_item st p.isList (x:=u) (by simpa using hu) λh' st' sb=>?_
  have I1:Inv X pins σ H { s with heap:=h' }:=I.turned (t':=s.toks) (λb o hb e=>(sb.2 b hb).trans e) f0 f1 f3 f4 f5;obtain⟨o,e,c,d⟩:=id st';exact⟨u,rfl,jD (s:={ s with heap:=h' }) e c d (by decide) ⟨x,H,I1,ru,⟨rfl,λys hy=>by rw[I.jK hy hq]; exact hx⟩,st',λb hb=>(hf b hb).1⟩⟩
 done:=by
  intro X hP hw hK hc i pins s σ H E I hf st hg;subst hP hw hK;obtain⟨xs,hq,hx⟩:=hg;obtain⟨its,rv,p,hz⟩:=I.list hq;obtain⟨f0,f1,f2,f3,f4,f5⟩:=hf it (by simp);have hl:=rv.length;exact wpAny_pyNext_list_end (I.ok.hd hc) st p.isList (by simp; omega) λh' eb=>⟨rfl,I.turned (t':=s.toks) (λb o hb e=>eb b o hb e) f0 f1 f3 f4 f5⟩
 self:=λ_ _ _ _ _ st h=>wpAny_pyIter_listiter st h
theorem De{P:WC}{w:WG}{K:Wy}{tg:Expr}(a it:Addr):Turn P w K tg (Itt K a) [it] it (λi h=>h.IsTupleIter it a i) where
 mem:=by simp
 obj:=λi h st b hb=>by
  have e:b=it:=by simpa using hb
  subst e;obtain⟨o,e,c,d⟩:=st;exact⟨o,e,λv z=>by rw[d] at z; cases z⟩
 keep:=λi h h' st k=>st.at λo e=>k it (by simp) o e
 item:=by
  intro X hP hw hK hc i pins s σ H E I hf st hg;subst hP hw hK;obtain⟨xs,x,hq,hx⟩:=hg;obtain⟨its,rv,p,hz⟩:=I.tuple hq;obtain⟨u,hu,ru⟩:=rv.get hx;obtain⟨f0,f1,f2,f3,f4,f5⟩:=hf it (by simp);refine wpAny_pyNext_tuple_item st (show s.heap.IsTuple a its.toArray from p) (x:=u) (by simpa using hu) λh' st' sb=>?_
  have I1:Inv X pins σ H { s with heap:=h' }:=I.turned (t':=s.toks) (λb o hb e=>(sb.2 b hb).trans e) f0 f1 f3 f4 f5;obtain⟨o,e,c,d⟩:=id st';exact⟨u,rfl,jD (s:={ s with heap:=h' }) e c d (by decide) ⟨x,H,I1,ru,⟨rfl,λys hy=>by rw[I.jF hy hq]; exact hx⟩,st',λb hb=>(hf b hb).1⟩⟩
 done:=by
  intro X hP hw hK hc i pins s σ H E I hf st hg;subst hP hw hK;obtain⟨xs,hq,hx⟩:=hg;obtain⟨its,rv,p,hz⟩:=I.tuple hq;obtain⟨f0,f1,f2,f3,f4,f5⟩:=hf it (by simp);have hl:=rv.length;exact wpAny_pyNext_tuple_end (I.ok.hd hc) st (show s.heap.IsTuple a its.toArray from p) (by simp; omega) λh' eb=>⟨rfl,I.turned (t':=s.toks) (λb o hb e=>eb b o hb e) f0 f1 f3 f4 f5⟩
 self:=λ_ _ _ _ _ st h=>wpAny_pyIter_tupleiter st h
theorem zX{P:WC}{w:WG}{K:Wy}{tg:Expr}(it:Addr)(lo:Int)(n:Nat):Turn P w K tg (Itr lo n) [it] it (λi h=>IsRangeIter h it (lo+(i:Nat)*1) ((n:Int)-(i:Nat)) 1) where
 mem:=by simp
 obj:=λi h st b hb=>by
  have e:b=it:=by simpa using hb
  subst e
  exact⟨_,st,λv z=>by
   have z':Data.fields _=Data.cell v:=z;cases z'⟩
 keep:=λi h h' st k=>k it (by simp) _ st
 item:=by
  intro X hP hw hK hc i pins s σ H E I hf st hg;subst hP hw hK;obtain⟨f0,f1,f2,f3,f4,f5⟩:=hf it (by simp);have W:=Walks.range (prog:=X.prog) (w:=X.w) (I.ok.hd hc) it lo 1 n;refine W.item i s _ _ hg st λv h' tk hv st' kk=>?_
  obtain⟨t,rfl⟩:=hv;have I1:Inv X pins σ H { s with heap:=h',toks:=tk }:=I.turned (λb o hb e=>kk b o (by simpa using hb) e) f0 f1 f3 f4 f5;refine⟨_,rfl,jD (s:={ s with heap:=h',toks:=tk }) (n:="range_iterator") st' rfl rfl (by decide) ⟨.int (lo+i),H,I1,⟨t,?_⟩,⟨rfl,rfl⟩,st',λb hb=>(hf b hb).1⟩⟩;rw[Int.mul_one]
 done:=by
  intro X hP hw hK hc i pins s σ H E I hf st hg;subst hP hw hK;obtain⟨f0,f1,f2,f3,f4,f5⟩:=hf it (by simp);exact wpAny_pyNext_range_end (I.ok.hd hc) st (by have:n<=i:=hg; omega) λh' eb=>⟨rfl,I.turned (t':=s.toks) (λb o hb e=>eb b o hb e) f0 f1 f3 f4 f5⟩
 self:=λ_ _ _ _ _ st h=>wpAny_pyIter_rangeiter st h
end L2
namespace L2
open PySem PySem.Spec PyProof.Rows
section
variable{X:Cx}{tg:Expr}
theorem BD{pins:Ww}{σ:St}{H:Hp}{s:WA}{R:It->Hp->Prop}{E:Wv}{lo hi:Int}{t u v:Tok}{tk:Nat}(I:Inv X pins σ H s)(h1:-(2^62)<=lo)(h2:lo<2^62)(h3:-(2^62)<=hi)(h4:hi<2^62)
  (q:R (Itr lo (hi-lo).toNat) H):wpAny (model X.prog X.w) X.A (pyIter (.ref s.heap.objs.size)) (PIE X pins σ tg R) E { s with heap:=s.heap.push { cls:=.type "range",data:=.fields #[.int lo t,.int hi u,.int 1 v] },toks:=tk }:=by
 refine wpAny_pyIter_range (IsRange.new ..) (small_one h1 h2 h3 h4) ?_;have I1:Inv X pins σ H { s with heap:=s.heap.push { cls:=.type "range",data:=.fields #[.int lo t,.int hi u,.int 1 v] },toks:=tk }:=I.kept λb o e=>Zd _ e
 refine⟨(s.heap.push { cls:=.type "range",data:=.fields #[.int lo t,.int hi u,.int 1 v] }).objs.size,[(s.heap.push { cls:=.type "range",data:=.fields #[.int lo t,.int hi u,.int 1 v] }).objs.size],_,_,H,rfl,
  I1.kept (t':=tk) λb o e=>Zd _ e,zX _ lo (hi-lo).toNat,?_,λb hb=>?_,q⟩
 ·have e1:lo+((0:Nat):Int)*1=lo:=by simp
  have e2:(((hi-lo).toNat:Nat):Int)-((0:Nat):Int)=Builtin.Range.rangeSize lo hi 1:=by rw[rangeSize_one]; split<;>omega
  show IsRangeIter _ _ (lo+((0:Nat):Int)*1) ((((hi-lo).toNat:Nat):Int)-((0:Nat):Int)) 1;rw[e1,e2];exact Zv _ rfl
 ·have e:b=(s.heap.push { cls:=.type "range",data:=.fields #[.int lo t,.int hi u,.int 1 v] }).objs.size:=by simpa using hb
  subst e;exact I1.fZ (Zl _) (I1.hok.fresh (Zl _))
noncomputable def EO(ta:TA):TI:=λσ H R=>ta σ H λvs H1=>∃j:Int,vs=[.int j]/\-(2^62)<=j/\j<2^62/\R (Itr 0 j.toNat) H1
theorem EE{a:Expr}{ta:TA}{p pos:Pos}(hg:Gl X "range")(hm:X.mg "range" = none)(ha:PA X [a] ta)(hs:starEach [a] X.env=[(false,eval a X.env)]:=by rfl):PI X tg (.Call (.Name "range" p) [a] [] pos) (EO ta):=by
 intro pins s σ H R I h;refine Call_ (ef I hg hm boot_range (Xs (thn (ha pos pins s σ H _ I h) λus s1 ⟨vs,H1,I1,r1,q1⟩=>?_) hs rfl));obtain⟨j,e,q1,q2,q⟩:=q1;subst e
 cases r1 with
 | cons r rr =>
  cases rr;obtain⟨t,rfl⟩:=r;exact call_range_1 (BD I1 (by omega) (by omega) q1 q2 (by simpa using q))
noncomputable def vq(wi:TI)(g:TG)(tb:TS):TS:=λD σ H=>wi σ H λJ H1=>∃W:Nat->Nat->St->Hp->Prop,(∃m,W 0 m σ H1)/\∀i m σ H,W i m σ H ->
 (J.stop i H/\D.nx σ H)\/(J.go i H/\∃N:St->Hp->Prop,(∀σ' H',N σ' H'->∃m',m'<m/\W (i+1) m' σ' H')/\∀x H',J.yld i H x H'->g x σ H' λσ2 H2=>tb { D with nx:=N,ct:=N,bk:=D.nx } σ2 H2)
noncomputable def iK(fp:WD)(h:Heap):List (Addr×Obj):=fp.filterMap λb=>(h.get? b).map λo=>(b,o)
theorem kU{fp:WD}{h:Heap}{b:Addr}{o:Obj}(hb:b∈fp)(e:h.get? b=some o):(b,o)∈iK fp h:=QL.mpr ⟨b,hb,by rw[e]; rfl⟩
theorem Hz{fp:WD}{h:Heap}{p:Addr×Obj}(hp:p∈iK fp h):p.1∈fp/\h.get? p.1=some p.2:=by
 obtain⟨b,hb,e⟩:=QL.mp hp
 cases q:h.get? b with
 | none=>rw[q] at e; cases e
 | some o =>
  rw[q] at e;have e':(b,o)=p:=Zy e;subst e';exact⟨hb,q⟩
theorem Inv.pinned{pins:Ww}{σ:St}{H:Hp}{s:WA}{fp:WD}(I:Inv X pins σ H s)(hf:∀b∈fp,cI X pins H b)(ho:∀b∈fp,∃o,s.heap.get? b=some o/\∀v,o.data≠.cell v):Inv X (pins++iK fp s.heap) σ H s :=
 I.vJ λp hp=>(ZR.mp hp).elim (λz=>I.pin p (Z6 _ z)) λz=>by
  obtain⟨hb,e⟩:=Hz z;obtain⟨f0,f1,f2,_⟩:=hf p.1 hb;obtain⟨o,e',d⟩:=ho p.1 hb;rw[e] at e'; cases e';exact⟨e,f0,f1,f2,d⟩
theorem Inv.kH{pins pl:Ww}{σ:St}{H:Hp}{s:WA}(I:Inv X (pins++pl) σ H s):Inv X pins σ H s:=I.vJ λp hp=>I.pin p (Z6 _ (Qe _ hp))
end
end L2
namespace L2
open PySem PySem.Spec PyProof.Rows
abbrev R2:=V->V->Hp->VK->Prop
noncomputable def OpR(X:Cx)(f:Value->Value->Sem Value)(r:R2):Prop :=
 ∀(pins:Ww) (s:WA) (σ:St) (H:Hp) (x y:V) (v u:Value) (Q:VK),Inv X pins σ H s->RelV x v->RelV y u->r x y H Q ->
  wpAny (model X.prog X.w) X.A (f v u) (EP X pins σ Q) X.xe s
noncomputable def UnR(X:Cx)(f:Value->Sem Value)(r:V->Hp->VK->Prop):Prop :=
 ∀(pins:Ww) (s:WA) (σ:St) (H:Hp) (x:V) (v:Value) (Q:VK),Inv X pins σ H s->RelV x v->r x H Q ->
  wpAny (model X.prog X.w) X.A (f v) (EP X pins σ Q) X.xe s
noncomputable def cG(X:Cx)(f:Value)(r:List V->Hp->VK->Prop):Prop :=
 ∀(pins:Ww) (s:WA) (σ:St) (H:Hp) (xs:WN) (us:Wz) (Q:VK),Inv X pins σ H s->Vals xs us->r xs H Q ->
  wpAny (model X.prog X.w) X.A (call f us) (EP X pins σ Q) X.xe s
noncomputable def wC(X:Cx)(r:V->Hp->(Bool->Hp->Prop)->Prop):Prop :=
 ∀(pins:Ww) (s:WA) (σ:St) (H:Hp) (x:V) (v:Value) (Q:Bool->Hp->Prop),Inv X pins σ H s->RelV x v->r x H Q ->
  wpAny (model X.prog X.w) X.A (truthy v) (TP X pins σ Q) X.xe s
noncomputable def tOp(r:R2)(ta tb:TE):TE:=λσ H Q=>ta σ H λx H1=>tb σ H1 λy H2=>r x y H2 Q
noncomputable def tUn(r:V->Hp->VK->Prop)(ta:TE):TE:=λσ H Q=>ta σ H λx H1=>r x H1 Q
noncomputable def rI(C:Int->Int->Prop)(g:Int->Int->V):R2:=λx y H Q=>∃i j,x=.int i/\y=.int j/\C i j/\Q (g i j) H
noncomputable def rI0(g:Int->Int->V):R2:=λx y H Q=>∃i j,x=.int i/\y=.int j/\Q (g i j) H
noncomputable def rU(g:Int->V):V->Hp->VK->Prop:=λx H Q=>∃i,x=.int i/\Q (g i) H
section
variable{X:Cx}{a b c:Expr}{ta tb tc:TE}{pos:Pos}
theorem pq(ha:PE X a ta)(hb:PE X b tb){pins:Ww}{s:WA}{σ:St}{H:Hp}{R:V->V->Hp->Prop}(I:Inv X pins σ H s)
  (h:ta σ H λx H1=>tb σ H1 λy H2=>R x y H2) {Q:Wv} {f:Value->Value->Sem Value}
  (hf:∀v u s2 x y H2,Inv X pins σ H2 s2->RelV x v->RelV y u->R x y H2->wpAny (model X.prog X.w) X.A (f v u) Q X.xe s2) :
  wpAny (model X.prog X.w) X.A (eval a X.env) (λv s₁=>wpAny (model X.prog X.w) X.A (eval b X.env) (λu s₂=>wpAny (model X.prog X.w) X.A (f v u) Q X.xe s₂) X.xe s₁) X.xe s:=by
 refine thn (ha pins s σ H _ I h) λv s1 ⟨x,H1,I1,r1,q1⟩=>?_
 refine thn (hb pins s1 σ H1 _ I1 q1) λu s2 ⟨y,H2,I2,r2,q2⟩=>?_
 exact hf v u s2 x y H2 I2 r1 r2 q2
theorem FJ{op:Operator}{r:R2}(ho:OpR X (binaryOp op) r)(ha:PE X a ta)(hb:PE X b tb):PE X (.BinOp a op b pos) (tOp r ta tb):=by
 intro pins s σ H Q I h;exact wpAny_BinOp (pq ha hb I h λv u s2 x y H2 I2 rx ry q=>ho pins s2 σ H2 x y v u Q I2 rx ry q)
theorem FE{op:UnaryOp}{r:V->Hp->VK->Prop}(ho:UnR X (unaryOp op) r)(ha:PE X a ta):PE X (.UnaryOp op a pos) (tUn r ta):=by
 intro pins s σ H Q I h;exact UnaryOp_ (thn (ha pins s σ H _ I h) λv s1 ⟨x,H1,I1,r1,q1⟩=>ho pins s1 σ H1 x v Q I1 r1 q1)
theorem opI{f:Value->Value->Sem Value}{C:Int->Int->Prop}{g:Int->Int->Int}
  (rule:∀(i j:Int) (t u:Tok) (s:WA) (Q:Wv) (E:Wv),C i j->Q (.int (g i j) s.toks) { s with toks:=s.toks+1 }->wpAny (model X.prog X.w) X.A (f (.int i t) (.int j u)) Q E s) :
  OpR X f (rI C λi j=>.int (g i j)):=by
 intro pins s σ H x y v u Q I rx ry h;obtain⟨i,j,rfl,rfl,hc,q⟩:=h;obtain⟨t,rfl⟩:=rx;obtain⟨t',rfl⟩:=ry;exact rule i j t t' s _ _ hc ⟨.int (g i j),H,I.tok _,⟨_,rfl⟩,q⟩
theorem qS{f:Value->Value->Sem Value}{g:Int->Int->Int}
  (rule:∀(i j:Int) (t u:Tok) (s:WA) (Q:Wv) (E:Wv),Q (.int (g i j) s.toks) { s with toks:=s.toks+1 }->wpAny (model X.prog X.w) X.A (f (.int i t) (.int j u)) Q E s) :
  OpR X f (rI0 λi j=>.int (g i j)):=by
 intro pins s σ H x y v u Q I rx ry h;obtain⟨i,j,rfl,rfl,q⟩:=h;obtain⟨t,rfl⟩:=rx;obtain⟨t',rfl⟩:=ry;exact rule i j t t' s _ _ ⟨.int (g i j),H,I.tok _,⟨_,rfl⟩,q⟩
theorem j5{f:Value->Value->Sem Value}{g:Int->Int->Bool}
  (rule:∀(i j:Int) (t u:Tok) (s:WA) (Q:Wv) (E:Wv),Q (.bool (g i j)) s->wpAny (model X.prog X.w) X.A (f (.int i t) (.int j u)) Q E s) :
  OpR X f (rI0 λi j=>.bl (g i j)):=by
 intro pins s σ H x y v u Q I rx ry h;obtain⟨i,j,rfl,rfl,q⟩:=h;obtain⟨t,rfl⟩:=rx;obtain⟨t',rfl⟩:=ry;exact rule i j t t' s _ _ ⟨.bl (g i j),H,I,rfl,q⟩
def Co(i j:Int):Prop:=0<j/\j<1073741824
def lO(i j:Int):Prop:=(-(2^64)<i/\i<2^64)\/(-(2^64)<j/\j<2^64)
theorem lO.ok{i j:Int}(h:lO i j):IntMulOk i j:=by
 rcases h with⟨h1,h2⟩|⟨h1,h2⟩
 ·exact .of_left (intBits_le_64 h1 h2)
 ·exact .of_right (intBits_le_64 h1 h2)
theorem BP:OpR X (binaryOp .Add) (rI0 λi j=>.int (i+j)):=qS λ_ _ _ _ _ _ _ q=>add_int q
theorem Hy:OpR X (binaryOp .Sub) (rI0 λi j=>.int (i-j)):=qS λ_ _ _ _ _ _ _ q=>sub_int q
theorem xu:OpR X (binaryOp .Mult) (rI lO λi j=>.int (i*j)):=opI λ_ _ _ _ _ _ _ hc q=>mul_int q hc.ok
theorem DH:OpR X (binaryOp .FloorDiv) (rI Co λi j=>.int (i/j)):=opI λi j _ _ _ _ _ hc q=>by
 have h1:(0:Int)<j:=hc.1;have h2:j<1073741824:=hc.2;exact floordiv_int (by omega) (by rw[Int.fdiv_eq_ediv_of_nonneg i (by omega)]; exact q) (.inl (PyProof.noPylong_small (by omega)))
theorem Bo:OpR X (binaryOp .Mod) (rI (λ_ j=>0<j) λi j=>.int (i%j)):=opI λi j _ _ _ _ _ hc q=>by
 have h1:(0:Int)<j:=hc;exact mod_int' (by omega) (by rw[Int.fmod_eq_emod_of_nonneg i (by omega)]; exact q)
theorem unI{f:Value->Sem Value}{g:Int->Int}
  (rule:∀(i:Int) (t:Tok) (s:WA) (Q:Wv) (E:Wv),Q (.int (g i) s.toks) { s with toks:=s.toks+1 }->wpAny (model X.prog X.w) X.A (f (.int i t)) Q E s) :
  UnR X f (rU λi=>.int (g i)):=by
 intro pins s σ H x v Q I rx h;obtain⟨i,rfl,q⟩:=h;obtain⟨t,rfl⟩:=rx;exact rule i t s _ _ ⟨.int (g i),H,I.tok _,⟨_,rfl⟩,q⟩
theorem DX:UnR X (unaryOp .USub) (rU λi=>.int (-i)):=unI λ_ _ _ _ _ q=>neg_int q
end
noncomputable def vg:V->V->Bool
 | .non,.non=>true|.non,.int _=>true|.int _,.non=>true|.non,.bl _=>true|.bl _,.non=>true|.non,.str _=>true|.str _,.non=>true
 | .int _,.int _=>true|.bl _,.bl _=>true|.str _,.str _=>true|.byt _,.byt _=>true
 | .int _,.str _=>true|.str _,.int _=>true|.bl _,.str _=>true|.str _,.bl _=>true
 | _,_=>false
noncomputable def rNe:R2:=λx y H Q=>vg x y=true/\Q (.bl (!decide (x=y))) H
theorem nu{i j:Int}:decide (V.int i=V.int j)=(i==j):=by
 rw[Qm];simp
theorem wY{i j:Bool}:decide (V.bl i=V.bl j)=(i==j):=by
 rw[Qm];simp
theorem tG{i j:Str}:decide (V.str i=V.str j)=(i==j):=by
 rw[Qm];simp
theorem Dm{i j:Array UInt8}:decide (V.byt i=V.byt j)=(i.toList==j.toList):=by
 rw[Qm];cases i;cases j;simp
section
variable{X:Cx}{a b c:Expr}{ta tb tc:TE}{pos:Pos}
theorem b_{pins:Ww}{σ:St}{H:Hp}{s:WA}{Q:VK}{k k':Bool}(I:Inv X pins σ H s)(q:Q (.bl k) H)(e:k=k'):EP X pins σ Q (.bool k') s:=by
 subst e;exact⟨.bl k,H,I,rfl,q⟩
theorem HQ:OpR X (compareOp .NotEq) rNe:=by
 intro pins s σ H x y v u Q I rx ry h;obtain⟨hs,q⟩:=h
 cases x with
 | non =>
  cases rx
  cases y with
  | non=>cases ry; exact PySem.EqNone.ne_none_none (b_ I q (by simp))
  | bl j=>cases ry; exact PySem.EqNone.ne_none_bool (b_ I q (by simp))
  | int j=>obtain⟨t',rfl⟩:=ry; exact PySem.EqNone.ne_none_int (b_ I q (by simp))
  | str j=>obtain⟨t',rfl⟩:=ry; exact PySem.EqNone.ne_none_str (b_ I q (by simp))
  | _=>exact absurd (show false=true from hs) Zz
 | bl i =>
  cases rx
  cases y with
  | non=>cases ry; exact PySem.EqNone.ne_bool_none (b_ I q (by simp))
  | bl j=>cases ry; exact ne_bool (b_ I q (Xp not wY))
  | str j=>obtain⟨t',rfl⟩:=ry; exact PySem.EqMixed.ne_bool_str (b_ I q (by simp))
  | _=>exact absurd (show false=true from hs) Zz
 | int i =>
  obtain⟨t,rfl⟩:=rx
  cases y with
  | non=>cases ry; exact PySem.EqNone.ne_int_none (b_ I q (by simp))
  | int j=>obtain⟨t',rfl⟩:=ry; exact ne_int (b_ I q (Xp not nu))
  | str j=>obtain⟨t',rfl⟩:=ry; exact PySem.EqMixed.ne_int_str (b_ I q (by simp))
  | _=>exact absurd (show false=true from hs) Zz
 | str i =>
  obtain⟨t,rfl⟩:=rx
  cases y with
  | non=>cases ry; exact PySem.EqNone.ne_str_none (b_ I q (by simp))
  | bl j=>cases ry; exact PySem.EqMixed.ne_str_bool (b_ I q (by simp))
  | int j=>obtain⟨t',rfl⟩:=ry; exact PySem.EqMixed.ne_str_int (b_ I q (by simp))
  | str j=>obtain⟨t',rfl⟩:=ry; exact ne_str (b_ I q (Xp not tG))
  | _=>exact absurd (show false=true from hs) Zz
 | byt i =>
  obtain⟨t,rfl⟩:=rx
  cases y with
  | byt j=>obtain⟨t',rfl⟩:=ry; exact PySem.W.ne_bytes (b_ I q (Xp not Dm))
  | _=>exact absurd (show false=true from hs) Zz
 | _=>cases y<;>exact absurd (show false=true from hs) Zz
theorem E7:OpR X (compareOp .Lt) (rI0 λi j=>.bl (decide (i<j))):=j5 λ_ _ _ _ _ _ _ q=>lt_int q
theorem Hu:OpR X (compareOp .LtE) (rI0 λi j=>.bl (decide (i<=j))):=j5 λ_ _ _ _ _ _ _ q=>le_int q
theorem IV:OpR X (compareOp .Gt) (rI0 λi j=>.bl (decide (j<i))):=j5 λ_ _ _ _ _ _ _ q=>gt_int q
theorem GL:OpR X (compareOp .GtE) (rI0 λi j=>.bl (decide (j<=i))):=j5 λ_ _ _ _ _ _ _ q=>ge_int q
theorem EJ{op:CmpOp}{r:R2}(ho:OpR X (compareOp op) r)(ha:PE X a ta)(hb:PE X b tb)(hm:behindInMarks op b=false):PE X (.Compare a [op] [b] pos) (tOp r ta tb):=by
 intro pins s σ H Q I h;exact wpAny_Compare1 (pq ha hb I h λv u s2 x y H2 I2 rx ry q=>ho pins s2 σ H2 x y v u Q I2 rx ry q) hm
noncomputable def uV(t:TE):TT:=λσ H Q=>t σ H λx H'=>∃k,x=.bl k/\Q k H'
theorem yb{op:CmpOp}{r:R2}(ho:OpR X (compareOp op) r)(ha:PE X a ta)(hb:PE X b tb)(hm:behindInMarks op b=false):PT X (.Compare a [op] [b] pos) (uV (tOp r ta tb)):=by
 intro pins s σ H Q I h
 refine wpAny_isTrue_Compare1 (thn (ha pins s σ H _ I h) λv s1 ⟨x,H1,I1,r1,q1⟩=>thn (hb pins s1 σ H1 _ I1 q1) λu s2 ⟨y,H2,I2,r2,q2⟩ =>
  thn (ho pins s2 σ H2 x y v u _ I2 r1 r2 q2) λc s3 ⟨z,H3,I3,r3,k,e,q3⟩=>?_) hm
 subst e;cases r3;exact Xi ⟨H3,I3,q3⟩
noncomputable def qw(r r':R2)(ta tb tc:TE):TE:=λσ H Q=>ta σ H λx H1=>tb σ H1 λy H2=>r x y H2 λz H3=>∃k,z=.bl k /\
 (if k=true then tc σ H3 λw' H4=>r' y w' H4 Q else Q (.bl false) H3)
theorem Hr{op op':CmpOp}{r r':R2}(ho:OpR X (compareOp op) r)(ho':OpR X (compareOp op') r')(ha:PE X a ta)(hb:PE X b tb)(hc:PE X c tc)
  (hm:lastMarks [op,op'] [b,c]=false:=by with_unfolding_all rfl):PE X (.Compare a [op,op'] [b,c] pos) (qw r r' ta tb tc):=by
 intro pins s σ H Q I h
 refine Compare_chain (thn (ha pins s σ H _ I h) λv s1 ⟨x,H1,I1,r1,q1⟩=>chain_link (thn (hb pins s1 σ H1 _ I1 q1) λu s2 ⟨y,H2,I2,r2,q2⟩ =>
  thn (ho pins s2 σ H2 x y v u _ I2 r1 r2 q2) λd s3 ⟨z,H3,I3,r3,k,e,q3⟩=>?_)) hm
 subst e;cases r3;refine Xi ?_
 cases k with
 | false=>exact ite_ff ⟨.bl false,H3,I3,rfl,q3⟩
 | true=>exact ite_tt (chain_last (thn (hc pins s3 σ H3 _ I3 q3) λw' s4 ⟨z',H4,I4,r4,q4⟩=>ho' pins s4 σ H4 y z' u w' Q I4 r2 r4 q4))
theorem CW{op op':CmpOp}{r r':R2}(ho:OpR X (compareOp op) r)(ho':OpR X (compareOp op') r')(ha:PE X a ta)(hb:PE X b tb)(hc:PE X c tc)
  (hm:lastMarks [op,op'] [b,c]=false:=by with_unfolding_all rfl):PT X (.Compare a [op,op'] [b,c] pos) (uV (qw r r' ta tb tc)):=by
 intro pins s σ H Q I h
 refine isTrue_chain (thn (ha pins s σ H _ I h) λv s1 ⟨x,H1,I1,r1,q1⟩=>test_link (thn (hb pins s1 σ H1 _ I1 q1) λu s2 ⟨y,H2,I2,r2,q2⟩ =>
  thn (ho pins s2 σ H2 x y v u _ I2 r1 r2 q2) λd s3 ⟨z,H3,I3,r3,k,e,q3⟩=>?_)) hm
 subst e;cases r3;refine Xi ?_
 cases k with
 | false =>
  obtain⟨k',e',q'⟩:=q3;cases e';exact ite_ff ⟨H3,I3,q'⟩
 | true =>
  refine ite_tt (test_last (thn (hc pins s3 σ H3 _ I3 q3) λw' s4 ⟨z',H4,I4,r4,q4⟩=>thn (ho' pins s4 σ H4 y z' u w' _ I4 r2 r4 q4) λd' s5 ⟨z2,H5,I5,r5,k2,e2,q5⟩=>?_));subst e2;cases r5;exact Xi ⟨H5,I5,q5⟩
noncomputable def Ja(K:Wy)(x:V)(H:Hp)(k:Bool):Prop :=
 match x with
 | .non=>k=false
 | .bl b=>k=b
 | .int i=>k=(i != 0)
 | .str y=>y.length<=sizeLine/\k=((y.length:Int)!=0)
 | .byt y=>y.size<=sizeLine/\k=((y.size:Int)!=0)
 | .ref p=>(∃xs,SqL K H p xs/\k=!xs.isEmpty)\/(∃xs,SqT K H p xs/\k=!xs.isEmpty)\/∃kvs,H p=some (.dK kvs)/\k=!kvs.isEmpty
 | _=>False
theorem Gz{κ:Type}{kvs:List (κ×V)}{vs:List (κ×Value)}(r:KV kvs vs):(!vs.isEmpty)=!kvs.isEmpty:=by
 cases r<;>rfl
theorem r_{xs:WN}{its:Wz}(r:Vals xs its):(!its.toArray.isEmpty)=!xs.isEmpty:=by
 cases r<;>simp
theorem i7:(sizeLine:Nat)<2^63:=by rw[Qp]; decide
theorem EG:wC X (λx H Q=>∃k,Ja X.K x H k/\Q k H):=by
 intro pins s σ H x v Q I rx h;obtain⟨k,e,q⟩:=h;have hl:=i7;have hs:sizeLine=16777216:=Qp
 cases x with
 | non =>
  cases rx;have e':k=false:=e;subst e';exact truthy_none ⟨H,I,q⟩
 | bl b =>
  cases rx;have e':k=b:=e;subst e';exact Xi ⟨H,I,q⟩
 | int i =>
  obtain⟨t,rfl⟩:=rx;have e':k=(i != 0):=e;subst e';exact PySem.P.truthy_int ⟨H,I,q⟩
 | str y =>
  obtain⟨t,rfl⟩:=rx;obtain⟨hy,e'⟩:y.length<=sizeLine/\k=((y.length:Int)!=0):=e;subst e';exact PySem.P.truthy_str (by omega) ⟨H,I.tok _,q⟩
 | byt y =>
  obtain⟨t,rfl⟩:=rx;obtain⟨hy,e'⟩:y.size<=sizeLine/\k=((y.size:Int)!=0):=e;subst e';exact PySem.W.truthy_bytes (by omega) ⟨H,I.tok _,q⟩
 | ref p =>
  cases rx;have e':(∃xs,SqL X.K H p xs/\k=!xs.isEmpty)\/(∃xs,SqT X.K H p xs/\k=!xs.isEmpty)\/∃kvs,H p=some (.dK kvs)/\k=!kvs.isEmpty:=e;rcases e' with⟨xs,hx,e'⟩|⟨xs,hx,e'⟩|⟨kvs,hx,e'⟩
  ·subst e';obtain⟨its,r,pl,hz⟩:=I.list hx;have hlen:=r.length;exact wpAny_truthy_list pl.isList (by simp only[Zo]; omega) ⟨H,I.tok _,by rw[r_ r]; exact q⟩
  ·subst e';obtain⟨its,r,pl,hz⟩:=I.tuple hx;have hlen:=r.length;exact truthy_tuple pl (by simp only[Zo]; omega) ⟨H,I.tok _,by rw[r_ r]; exact q⟩
  ·subst e';obtain⟨hz,hS,vs,r,m⟩:kvs.length<=sizeLine/\(p==sysModules)=false/\∃vs,KV kvs vs/\s.heap.DictOf (bL X.prog X.w) p vs:=I.hok p _ hx;have hlen:kvs.length=vs.length:=Q5 r;exact wpAny_truthy_dict hS m (by omega) ⟨H,I.tok _,by rw[Gz r]; exact q⟩
 | _=>exact(show False from e).elim
theorem vals1{x:V}{us:Wz}(r:Vals [x] us):∃u,us=[u]/\RelV x u:=by
 cases r with
 | cons r1 r2=>cases r2; exact⟨_,rfl,r1⟩
theorem vals2{x y:V}{us:Wz}(r:Vals [x,y] us):∃u w',us=[u,w']/\RelV x u/\RelV y w':=by
 cases r with
 | cons r1 r2 =>
  cases r2 with
  | cons r3 r4=>cases r4; exact⟨_,_,rfl,r1,r3⟩
theorem Ht(hc:X.calm=true):cG X (.builtin "max") (λxs H Q=>∃i j,xs=[.int i,.int j]/\Q (.int (if j>i then j else i)) H):=by
 intro pins s σ H xs us Q I r h;obtain⟨i,j,rfl,q⟩:=h;obtain⟨u,w',rfl,⟨t,rfl⟩,⟨t',rfl⟩⟩:=vals2 r;refine max_two_ints (I.ok.hd hc) λh' tk k=>⟨_,H,I.kept k,?_,q⟩
 by_cases hj:j>i
 ·rw[Zf hj,Zf hj]; exact⟨_,rfl⟩
 ·rw[Zg hj,Zg hj]; exact⟨_,rfl⟩
end
end L2
namespace L2
open PySem PySem.Spec PyProof.Rows
structure JG(h:Heap)(x dx C:Addr)(mA:WE):Prop where
 obj:h.get? x=some (PySem.W.instObj C dx)
 ns:h.Ns1 dx mA
 ne:dx≠x
section
variable{prog:WC}{w:WG}{A:Around}{E:Wv}{s:WA}{K:Wy}{x dx C f:Addr}{mA:WE}{name:Str}{v:Value}
end
theorem dU.some_of{v:V}{o:Option Value}(r:dU (some v) o):∃u,o=some u/\RelV v u:=by
 cases o with
 | none=>exact(show False from r).elim
 | some u=>exact⟨u,rfl,r⟩
section
variable{P:WC}{w:WG}{H H':Hp}{h h':Heap}{a C dx:Addr}{fs fs':List (Str×V)}
end
structure Cls(K:Wy)(C:Addr):Prop where
 pg:PySem.W.plainGet K C Str.empty=true
 hd:PySem.W.hasDictIn K C=true
 po:PySem.W.plainOver K C=true
 sa:PySem.W.findIn K (.ref C) "__setattr__" = some (some (.builtin "object.__setattr__"))
structure Con(K:Wy)(C:Addr)(f:Str)(v:V)(u:Value):Prop where
 at_:PySem.W.findIn K (.ref C) f=some (some u)
 rel:RelV v u
 get:PySem.W.specialIn K u "__get__" = some none
 cp:PySem.W.copiedNames.contains f=false
section
variable{X:Cx}{pins:Ww}{σ:St}{H:Hp}{s:WA}{a C dx:Addr}{fs:List (Str×V)}{f:Str}{v:V}{A:Around}{E:Wv}
end
section
variable{X:Cx}{o e value:Expr}{f:Str}{pos pos' tpos:Pos}{ta tv:TE}
end
section
variable{X:Cx}{pins:Ww}{σ:St}{H:Hp}{s:WA}{A:Around}{E:Wv}{Q:Wv}{c:Value}{b:Bool}
inductive dz(K:Wy)(H:Hp):V->Value->Prop where
 | non:dz K H .non (.type "NoneType")
 | bl (x:Bool):dz K H (.bl x) (.type "bool")
 | int (i:Int):dz K H (.int i) (.type "int")
 | str (x:Str):dz K H (.str x) (.type "str")
 | flt (x:UInt64):dz K H (.flt x) (.type "float")
 | lst {a:Addr} {xs:WN} (e:H a=some (.lst xs)):dz K H (.ref a) (.type "list")
 | frz {a:Addr} {o:Obj} {xs:WN} (e:H a=some (.frz o (.lst xs))):dz K H (.ref a) (.type "list")
 | tup {a:Addr} {xs:WN} (e:H a=some (.tup xs)):dz K H (.ref a) (.type "tuple")
 | dK {a:Addr} {kvs:List (Key×V)} (e:H a=some (.dK kvs)):dz K H (.ref a) (.type "dict")
 | dT {a:Addr} {kvs:WO} (e:H a=some (.dT kvs)):dz K H (.ref a) (.type "dict")
 | ins {a C dx:Addr} {fs:List (Str×V)} (e:H a=some (.ins C dx fs)) (cl:Cls K C) (ha:PySem.W.findIn K (.ref C) "__class__" = some (some (.builtin "object.__class__")))
   (hn:PySem.W.specialIn K (.builtin "object.__class__") "__get__" = some (some (.builtin "getset_descriptor.__get__"))) (htk:PySem.W.takesIn K (.builtin "object.__class__")=some true)
   (hm:PySem.W.mroIn K C (.type "object")=some true):dz K H (.ref a) (.ref C)
end
end L2
namespace L2
open PySem PySem.Spec PyProof.Rows
structure bY(k:Nat)(A:Around):Prop where
 hd:A.handled=none
 dp:A.depth+3*k+5<recursionLimit
 un:A.units+16*k+200<cLine
theorem bY.deeper{k:Nat}{A:Around}(r:bY (k+1) A)(env:Env):bY k (A.deeper env) :=
 ⟨r.hd,by have:=r.dp; show A.depth+1+3*k+5<_; omega,by have:=r.un; show A.units+3+16*k+200<_; omega⟩
theorem bY.depth{k:Nat}{A:Around}(r:bY k A):A.depth<recursionLimit:=by have:=r.dp; omega
theorem bY.units{k:Nat}{A:Around}(r:bY k A):A.units+64<cLine:=by have:=r.un; omega
noncomputable def sW:TA:=λ_ H Q=>Q [] H
noncomputable def xZ(ta:TE)(tr:TA):TA:=λσ H Q=>ta σ H λx H1=>tr σ H1 λxs H2=>Q (x::xs) H2
section
variable{X:Cx}{e:Expr}{es:WM}{te:TE}{t:TA}{pos:Pos}
theorem lX:PA X [] sW:=λ_ _ _ _ H Q I h=>QW ⟨[],H,I,.nil,h⟩
theorem jX(ha:PE X e te)(hr:PA X es t)(hs:starEach (e::es) X.env=(false,eval e X.env)::starEach es X.env:=by rfl):PA X (e::es) (xZ te t):=by
 intro pos pins s σ H Q I h;rw[hs];show wpAny _ _ (spliced ((false,eval e X.env)::backTo pos (starEach es X.env))) _ _ s;refine QM (thn (ha pins s σ H _ I h) λu s1 ⟨x,H1,I1,r1,q1⟩=>?_);exact thn (hr pos pins s1 σ H1 _ I1 q1) λus s2 ⟨xs,H2,I2,r2,q2⟩=>⟨x::xs,H2,I2,.cons r1 r2,q2⟩
noncomputable def FW(t:TA):TE:=λσ H Q=>t σ H λxs H1=>xs.length<=sizeLine/\∀p,H1 p=none->Q (.ref p) (upd H1 p (.tup xs))
noncomputable def zF(t:TA):TE:=λσ H Q=>t σ H λxs H1=>xs.length<=sizeLine/\∀p,H1 p=none->Q (.ref p) (upd H1 p (.lst xs))
theorem EY{x1}(h:PA X es t):PE X (.Tuple es x1 pos) (FW t):=by
 intro pins s σ H Q I hq;refine wpAny_Tuple_spliced (thn (h pos pins s σ H _ I hq) λus s1 ⟨xs,H1,I1,r,z,q⟩=>⟨by rw[<- r.length]; exact z,?_⟩);have hf:H1 s1.heap.objs.size=none:=I1.hok.fresh (Zl _);refine⟨.ref s1.heap.objs.size,upd H1 s1.heap.objs.size (.tup xs),I1.laid (t':=s1.toks) (λb u e=>Zd _ e) (Zl _) ?_,rfl,q _ hf⟩;exact⟨z,us,r,⟨_,Zv _ rfl,rfl,_,rfl⟩⟩
theorem BQ(h:PA X es t):PE X (.List es pos) (zF t):=by
 intro pins s σ H Q I hq;refine wpAny_List_spliced (thn (h pos pins s σ H _ I hq) λus s1 ⟨xs,H1,I1,r,z,q⟩=>⟨by rw[<- r.length]; exact z,?_⟩);have hf:H1 s1.heap.objs.size=none:=I1.hok.fresh (Zl _);refine⟨.ref s1.heap.objs.size,upd H1 s1.heap.objs.size (.lst xs),I1.laid (t':=s1.toks) (λb u e=>Zd _ e) (Zl _) ?_,rfl,q _ hf⟩;exact⟨z,us,0,r,Zv _ rfl⟩
end
abbrev Sp:=List V->Hp->VK->XK->Prop
abbrev CXT:=List Env->Hp->Shared->XK->Value->Shared->Prop
structure jG(P:WC)(w:WG)(K:Wy)(mg:WE)(base:Heap)(A:Around)(outer:List Env)(s:WA)(H:Hp):Prop where
 frames:A.frames=some outer
 mod:Mod K mg base
 bs:∀b o,base.get? b=some o->s.heap.get? b=some o/\H b=none
 bsz:base.objs.size<=s.heap.objs.size
 dm:s.heap.FunFrames base outer
 frf:∀b∈frs outer,H b=none
 hok:HOk P w H s.heap
 bare:AllBare s.gens
noncomputable def CE(outer:List Env)(P:WC)(w:WG)(H:Hp)(s:WA)(Q:VK)(u:Value)(s':WA):Prop :=
 ∃v H',s'.os=s.os/\AllBare s'.gens/\Un (frs outer) [] H H' s.heap s'.heap/\HOk P w H' s'.heap/\RelV v u/\Q v H'
noncomputable def CR(CX:CXT)(outer:List Env)(P:WC)(w:WG)(H:Hp)(s:WA)(Q:VK)(E:XK)(r:Result)(s':WA):Prop :=
 match r with
 | .ok (.ret u)=>CE outer P w H s Q u s'
 | .ok _=>False
 | .error e=>CX outer H s E e s'
structure e_(P:WC)(w:WG)(K:Wy)(mg:WE)(base:Heap)(CX:CXT)(k:Nat)(f:Addr)(fd:FuncData)(ps:WI)(sp:Sp):Prop where
 len:∀vs H Q E,sp vs H Q E->vs.length=ps.length
 run:∀(A:Around) (outer:List Env) (s:WA) (H:Hp) (args:Args) (us:Wz) (vs:WN) (Q:VK) (E:XK),bY k A->jG P w K mg base A outer s H->BindsTo s fd args (ps.zip us)->Vals vs us->sp vs H Q E ->
  codeAny (model P w) A (.call (.ref f) args) (CR CX outer P w H s Q E) s
section
variable{X:Cx}{pins:Ww}{σ:St}{H:Hp}{s s':WA}
theorem Inv.Fj(I:Inv X pins σ H s):jG X.prog X.w X.K X.mg X.base X.A X.stack s H :=
 ⟨I.ok.frames,I.ok.mod,I.bs,Xa I.ok.bsz I.sz,I.stack,I.oX,I.hok,I.bare⟩
theorem Inv.after{Q:VK}{u:Value}(I:Inv X pins σ H s)(h:CE X.stack X.prog X.w H s Q u s'):EP X pins σ Q u s':=by
 obtain⟨v,H',os,bare,un,hok,r,q⟩:=h;obtain⟨hh,g,d,t,os'⟩:=s';obtain rfl:os'=s.os:=os;exact⟨v,H',I.call (h':=hh) (g':=g) (d':=d) (t':=t) (ch:=[]) un hok bare (λb z=>absurd z (by simp)),r,q⟩
end
noncomputable def nK(sp:Sp)(dvs:WN)(E:XK)(t:TA):TE:=λσ H Q=>t σ H λvs H1=>sp (vs++dvs) H1 Q E
noncomputable def Binds(K:Wy)(fd:FuncData)(ps:WI)(ds:Wz):Prop :=
 ∀(s:WA) (us:Wz),K.In s.heap->(us++ds).length=ps.length->BindsTo s fd ⟨us,[]⟩ (ps.zip (us++ds))
theorem Binds.all{K:Wy}{fd:FuncData}{ps:WI}(h:∀us:List Value,us.length=ps.length->bindArgs fd ⟨us,[]⟩=pure (ps.zip us)):Binds K fd ps []:=λs us _ hl=>by
 rw[XV] at hl ⊢;exact .of_eq (h us hl)
def Passes(CX:CXT)(X:Cx)(E:XK):Prop:=∀(pins:Ww) (σ:St) (H:Hp) (s:WA) (e:Value) (s':WA),Inv X pins σ H s->CX X.stack H s E e s'->X.xe e s'
section
variable{X:Cx}{CX:CXT}{k:Nat}{f C:Addr}{fd:FuncData}{ps:WI}{sp:Sp}{dvs:WN}{ds:Wz}{E:XK}{x m:Str}{p pos apos:Pos}{e o:Expr}{es:WM}{ta:TE}{t:TA}
theorem rN{pins:Ww}{σ:St}{H:Hp}{s:WA}{Q:VK}{us:Wz}{vs:WN}(F:e_ X.prog X.w X.K X.mg X.base CX k f fd ps sp)(hr:bY k X.A)(hb:Binds X.K fd ps ds)(hd:Vals dvs ds)(hx:Passes CX X E)
  (I:Inv X pins σ H s) (r:Vals vs us) (h:sp (vs++dvs) H Q E):wpAny (model X.prog X.w) X.A (call (.ref f) us) (EP X pins σ Q) X.xe s:=by
 have r2:Vals (vs++dvs) (us++ds):=r.append hd;have hl:(us++ds).length=ps.length:=by rw[<- r2.length]; exact F.len _ _ _ _ h
 refine wpAny_call (Q7 (F.run X.A X.stack s H ⟨us,[]⟩ (us++ds) (vs++dvs) Q E hr I.Fj (hb s us I.kIn hl) r2 h) λr s' hq=>?_)
 cases r with
 | error e=>exact hx pins σ H s e s' I hq
 | ok fl =>
  cases fl with
  | ret u=>exact I.after hq
  | next=>exact False.elim hq
  | brk=>exact False.elim hq
  | cont=>exact False.elim hq
theorem An(F:e_ X.prog X.w X.K X.mg X.base CX k f fd ps sp)(hr:bY k X.A)(hg:Gl X x)(hm:X.mg x=some (.ref f))(hk:PySem.W.keepIn X.K (.ref f)=true)(hb:Binds X.K fd ps ds)(hd:Vals dvs ds)(hx:Passes CX X E)
  (ha:PA X (e::es) t) (hdb:(x==("__debug__" : Str))=false:=by decide) (he:starEach (e::es) X.env=(false,eval e X.env)::starEach es X.env:=by rfl) (hpl:(backTo pos (starEach es X.env)).any (·.1)=false:=by rfl) :
  PE X (.Call (.Name x p) (e::es) [] pos) (nK sp dvs E t):=by
 intro pins s σ H Q I h;refine XQ (oU I hg hm ?_ hdb);refine PySem.W.callWith_K (h₀:=X.base) I.ok.mod.kin hk (thn (ha pos pins s σ H _ I h) λus s1 ⟨vs,H1,I1,r,q⟩=>⟨I1.kIn,?_⟩) he hpl;exact rN F hr hb hd hx I1 r q
theorem z_(F:e_ X.prog X.w X.K X.mg X.base CX k f fd ps sp)(hr:bY k X.A)(hg:Gl X x)(hm:X.mg x=some (.ref f))(hk:PySem.W.keepIn X.K (.ref f)=true)(hb:Binds X.K fd ps ds)(hd:Vals dvs ds)(hx:Passes CX X E)
  (hdb:(x==("__debug__" : Str))=false:=by decide):PE X (.Call (.Name x p) [] [] pos) (nK sp dvs E sW):=by
 intro pins s σ H Q I h;refine XQ (oU I hg hm ?_ hdb);exact PySem.W.callWith_K0 I.kIn hk (rN (us:=[]) F hr hb hd hx I .nil h)
structure Mk(K:Wy)(C f:Addr):Prop where
 makes:PySem.W.makesIn K C=true
 init:PySem.W.findIn K (.ref C) "__init__" = some (some (.ref f))
 fn:PySem.W.isFn K (.ref f)=true
 kp:PySem.W.keepIn K (.ref C)=true
end
section
variable{X:Cx}{CX:CXT}{k:Nat}{f C:Addr}{fd:FuncData}{ps ks:WI}{sp:Sp}{E:XK}{x m:Str}{p pos apos kpos:Pos}{e o:Expr}{es:WM}{kws:List Keyword}{te ta:TE}{t tk:TA}{nm:Option Str}
structure Jz(K:Wy)(fd:FuncData)(ps ks:WI)(g:List Value->List Value->List Value)(gV:List V->List V->List V):Prop where
 to:∀(s:WA) (us ws:Wz),K.In s.heap->(g us ws).length=ps.length->BindsTo s fd ⟨us,ks.zip ws⟩ (ps.zip (g us ws))
 rel:∀{vs:WN} {us:Wz} {zs:WN} {ws:Wz},Vals vs us->Vals zs ws->Vals (gV vs zs) (g us ws)
variable{g:List Value->List Value->List Value}{gV:List V->List V->List V}
end
structure mQ(N P:WI)(sc:Scope):Prop where
 kind:sc.kind=.function
 co:sc.isCoroutine=false
 gen:sc.isGenerator=false
 nd:N.Nodup
 pre:N.take P.length=P
 par:∀x∈P,sc.names.lookup x=some .local\/sc.names.lookup x=some .cell
 nofree:∀y∈sc.names,y.2≠.free
theorem vh{kindOf:Str->Option NameKind}{x:Str}:∀{binds:List (Str×Value)} {m:WE},(∀v,(x,v)∉binds)->bindL kindOf binds m x=m x
 | [],_,_=>rfl
 | (n,v)::r,m,h=>by
  unfold bindL;rw[vh λw hw=>h w (Zm _ hw)];split
  ·have:x≠n:=by rintro rfl; exact h v Zk
   simp[this]
  ·rfl
theorem tR{kindOf:Str->Option NameKind}{x:Str}:∀{binds:List (Str×Value)} {m:WE},(∀v,(x,v)∉binds)->bindC kindOf binds m x=m x
 | [],_,_=>rfl
 | (n,v)::r,m,h=>by
  unfold bindC;rw[tR λw hw=>h w (Zm _ hw)];split
  ·rfl
  ·have:x≠n:=by rintro rfl; exact h v Zk
   simp[this]
theorem sG{kindOf:Str->Option NameKind}{x:Str}{v:Value}:∀{P:WI} {vs:Wz} {i:Nat} {m:WE},P.Nodup->P[i]?=some x->vs[i]?=some v->kindOf x=some .local ->
  bindL kindOf (P.zip vs) m x=some v
 | [],_,_,_,_,h,_,_=>by simp at h
 | _::_,[],_,_,_,_,h,_=>by simp at h
 | p::P,w::vs,0,m,nd,h1,h2,hk=>by
  simp at h1 h2; subst h1; subst h2;show bindL kindOf ((p,w)::P.zip vs) m p=_;unfold bindL;rw[vh λv hv=>(Xk.mp nd).1 (List.of_mem_zip hv).1,Zf hk];simp
 | p::P,w::vs,i+1,m,nd,h1,h2,hk=>by
  show bindL kindOf ((p,w)::P.zip vs) m x=_;unfold bindL;exact sG (i:=i) (Xk.mp nd).2 (by simpa using h1) (by simpa using h2) hk
theorem tS{kindOf:Str->Option NameKind}{x:Str}{v:Value}:∀{P:WI} {vs:Wz} {i:Nat} {m:WE},P.Nodup->P[i]?=some x->vs[i]?=some v->kindOf x≠some .local ->
  bindC kindOf (P.zip vs) m x=some v
 | [],_,_,_,_,h,_,_=>by simp at h
 | _::_,[],_,_,_,_,h,_=>by simp at h
 | p::P,w::vs,0,m,nd,h1,h2,hk=>by
  simp at h1 h2; subst h1; subst h2;show bindC kindOf ((p,w)::P.zip vs) m p=_;unfold bindC;rw[tR λv hv=>(Xk.mp nd).1 (List.of_mem_zip hv).1,Zg hk];simp
 | p::P,w::vs,i+1,m,nd,h1,h2,hk=>by
  show bindC kindOf ((p,w)::P.zip vs) m x=_;unfold bindC;exact tS (i:=i) (Xk.mp nd).2 (by simpa using h1) (by simpa using h2) hk
noncomputable def start(N:WI)(vs:WN):St:=vs.map some++List.replicate (N.length-vs.length) none
noncomputable def cK(CX:CXT)(P:WC)(w:WG)(K:Wy)(mg:WE)(base:Heap)(N:WI)(qual:Str)(scope:Scope)(f:Addr)(cd:Value)(A:Around)(outer:List Env)(s:WA)(H:Hp)(E:XK):Cx where
 prog:=P
 w:=w
 K:=K
 mg:=mg
 base:=base
 A:=A.deeper (envOfC qual scope s.heap.objs.size f cd)
 N:=N
 s₀:=s
 H₀:=H
 env:=envOfC qual scope s.heap.objs.size f cd
 outer:=outer
 stack:=envOfC qual scope s.heap.objs.size f cd::outer
 ex:=[]
 calm:=true
 fn:=λ_=>true
 pn:=[]
 xe:=λe s'=>wpAny (model P w) (A.deeper (envOfC qual scope s.heap.objs.size f cd)) (leaving (envOfC qual scope s.heap.objs.size f cd) e) (λ_ s''=>CX outer H s E e s'') (λe' s''=>CX outer H s E e' s'') s'
theorem oG{sc:Scope}{n:Nat}{x:Str}(h:sc.names.lookup x=some .cell):∃c,(cellsFrom n sc.names []).lookup x=some c:=by
 have q:=PySem.W.cellsFrom_some sc.names n [] (.inl h);exact Option.isSome_iff_exists.mp q
theorem D8{CX:CXT}{P:WC}{w:WG}{K:Wy}{mg:WE}{base:Heap}{N ps:WI}{qual:Str}{scope:Scope}{f:Addr}{cd:Value}{A:Around}{outer:List Env}{s s1:WA}{H:Hp}{E:XK}{us:Wz}{vs:WN}
  (S:mQ N ps scope) (hd:A.handled=none) (e0:jG P w K mg base A outer s H) (hl:vs.length=ps.length) (r:Vals vs us)
  (x:InCallC s s.heap.objs.size (bindL (envOfC qual scope s.heap.objs.size f cd).kindOf (ps.zip us) λ_=>none) (cellsFrom (s.heap.objs.size+1) scope.names []) (bindC (envOfC qual scope s.heap.objs.size f cd).kindOf (ps.zip us) λ_=>none) s1) :
  Inv (cK CX P w K mg base N qual scope f cd A outer s H E) [] (start N vs) H s1:=by
 have hpl:ps.length<=N.length:=by have:=Xp List.length S.pre; rw[Xz] at this; omega
 obtain⟨h1,tk,rfl,hk⟩:=x.done;have noA:∀b:Addr,b∉(cK CX P w K mg base N qual scope f cd A outer s H E).ex:=λb z=>absurd (show b∈([]:List Addr) from z) (by simp)
 refine⟨⟨e0.mod,S.kind,rfl,rfl,Zl _,λy z c h1 h2=>?_,λy hy=>?_,λy c _ h=>?_,λ_=>hd,Around.frames_deeper e0.frames,.inr ⟨rfl,rfl⟩,λb z=>absurd z (noA b),e0.bs,e0.bsz,λb _ _=>noA b,λb z=>absurd z (noA b),e0.dm,e0.frf⟩,
  rfl,e0.bare,Un.kept hk,⟨_,x.toInCall.ns,λi y v h1 h2 h3=>?_⟩,λy c h=>⟨_,x.cell y c h⟩,e0.hok.fresh (Zl _),λy c h=>?_,λp hp=>absurd (show p∈([]:List (Addr×Obj)) from hp) (by simp),e0.hok.kept hk,?_⟩
 ·exact name_of_addr x.apart (Ql h1) (Ql h2)
 ·have hy:scope.names.lookup y=some .cell\/scope.names.lookup y=some .free:=hy;rcases hy with hy|hy
  ·exact oG hy
  ·exact absurd rfl (S.nofree _ (Ql hy))
 ·exact Qi (x.above y c (Ql h))
 ·have hi:i<vs.length:=by
   unfold start at h2
   by_cases hi:i<vs.length
   ·exact hi
   ·rw[ZN (by simpa using hi)] at h2;rw[XL] at h2;split at h2<;>cases h2
  have ha:vs[i]?=some v:=by
   unfold start at h2;rw[ZE (by simpa using hi),ZG] at h2
   cases e:vs[i]? with
   | none=>rw[e] at h2; cases h2
   | some a=>rw[e] at h2; cases h2; rfl
  obtain⟨u,hu,rv⟩:=r.get ha
  have hp:ps[i]?=some y:=by
   rw[<- S.pre,QN (by omega)]; exact h1
  have ndP:ps.Nodup:=by rw[<- S.pre]; exact S.nd.sublist (Wo _ _)
  refine⟨u,rv,?_⟩;rcases S.par y (ZD hp) with k|k
  ·exact .inl ⟨k,sG ndP hp hu k⟩
  ·obtain⟨c,e⟩:=oG (n:=s.heap.objs.size+1) k;refine .inr ⟨.inl k,c,e,?_⟩;have q:=x.cell y c e;rw[tS ndP hp hu (by show scope.names.lookup y≠_; rw[k]; decide)] at q;exact q
 ·exact e0.hok.fresh (Qi (x.above y c (Ql h)))
 ·unfold start;show _=N.length;rw[Zu,Zc,Xw];omega
theorem FP{CX:CXT}{P:WC}{w:WG}{K:Wy}{mg:WE}{base:Heap}{k:Nat}{f:Addr}{name qual:Str}{params:Arguments}{body:List Stmt}{scope:Scope}{dV kV doc pm cdv ct oc:Value}{an od:Option Addr}
  {osl:Array (Option Value)} {N ps:WI} {sp:Sp} (lk:K.lookup f=some ⟨oc,od,.func (PySem.W.fnOf name qual params body scope dV kV doc pm an cdv ct),osl⟩) (hcd:PySem.W.codeIn K cdv qual=true) (S:mQ N ps scope)
  (len:∀vs H Q E,sp vs H Q E->vs.length=ps.length)
  (hbody:∀(A:Around) (outer:List Env) (s:WA) (H:Hp) (vs:WN) (Q:VK) (E:XK),bY k (A.deeper (envOfC qual scope s.heap.objs.size f cdv))->sp vs H Q E ->
   ∃t,PSs (cK CX P w K mg base N qual scope f cdv A outer s H E) body t/\t { nx:=λ_ H'=>Q .non H',rt:=Q } (start N vs) H) :
  e_ P w K mg base CX (k+1) f (PySem.W.fnOf name qual params body scope dV kV doc pm an cdv ct) ps sp:=by
 refine⟨len,λA outer s H args us vs Q E hr e0 hb r hsp=>?_⟩;have hl:=len _ _ _ _ hsp;have KX:K.In s.heap:=e0.mod.kin.keeps λb o e=>(e0.bs b o e).1
 have lim:s.heap.NoLimit:=e0.mod.nolimit.keeps λb o e=>(e0.bs b o e).1
 have hkind:∀y∈ps.zip us,scope.names.lookup y.1=some .local\/(scope.names.lookup y.1=some .cell/\((cellsFrom (s.heap.objs.size+1) scope.names []).lookup y.1).isSome=true):=λ⟨n,v⟩ hy=>by
  rcases S.par n (List.of_mem_zip hy).1 with q|q
  ·exact .inl q
  ·exact .inr ⟨q,PySem.W.cellsFrom_some _ _ _ (.inl q)⟩
 refine codeAny_call_function hr.depth (KX _ _ lk) rfl S.co S.gen rfl (PySem.W.codeRec_of KX hcd) (hb _ _ _ _ ?_);refine wpAny_newFunctionEnv_cells S.kind hkind λenv he s1 x=>?_
 subst he;refine⟨lim.keeps x.toInCall.keep,codeAny_func ?_⟩;obtain⟨t,ht,hq⟩:=hbody A outer s H vs Q E (hr.deeper _) hsp;have I:Inv (cK CX P w K mg base N qual scope f cdv A outer s H E) [] (start N vs) H s1:=D8 S hr.hd e0 hl r x;refine XH (ht [] s1 (start N vs) H _ I hq) (λfl s' hs=>?_) λe s' hs=>hs
 have fin:∀{σ':St} {H':Hp} {v:V} {u:Value},Inv (cK CX P w K mg base N qual scope f cdv A outer s H E) [] σ' H' s'->RelV v u->Q v H'->CE outer P w H s Q u s' :=
  λ{σ' H' v u} J rv q=>⟨v,H',J.os,J.bare,J.base,J.hok,rv,q⟩
 cases fl with
 | ret u =>
  obtain⟨v,σ',H',J,rv,q⟩:=hs;exact fin J rv q
 | next =>
  obtain⟨σ',H',J,q⟩:=hs;exact fin (v:=V.non) (u:=Value.none) J rfl q
 | brk =>
  obtain⟨_,_,_,q⟩:=hs;exact False.elim q
 | cont =>
  obtain⟨_,_,_,q⟩:=hs;exact False.elim q
end L2
namespace L2
open PySem PySem.Spec PyProof.Rows
section
variable{X:Cx}{x:Str}{p pos:Pos}{e:Expr}{es:WM}{t:TA}{id T:String}{r:List V->Hp->VK->Prop}
noncomputable def tCB(r:List V->Hp->VK->Prop)(t:TA):TE:=λσ H Q=>t σ H λvs H1=>r vs H1 Q
theorem wG(hc:cG X (.builtin id) r)(hg:Gl X x)(hm:X.mg x=none)(hv:bootBuiltins x=some (.builtin id))(ha:PA X (e::es) t)(hn:x≠"__name__":=by decide)(hdb:(x==("__debug__" : Str))=false:=by decide)
  (he:starEach (e::es) X.env=(false,eval e X.env)::starEach es X.env:=by rfl) (hpl:(backTo pos (starEach es X.env)).any (·.1)=false:=by rfl):PE X (.Call (.Name x p) (e::es) [] pos) (tCB r t):=by
 intro pins s σ H Q I h;refine XQ (ef I hg hm hv ?_ hn hdb);exact PyProof.Rows.callWith_builtin1 (thn (ha pos pins s σ H _ I h) λus s1 ⟨vs,H1,I1,r1,q1⟩=>hc pins s1 σ H1 vs us Q I1 r1 q1) he hpl
theorem C7(hc:cG X (.type T) r)(hg:Gl X x)(hm:X.mg x=none)(hv:bootBuiltins x=some (.type T))(ha:PA X (e::es) t)(hn:x≠"__name__":=by decide)(hdb:(x==("__debug__" : Str))=false:=by decide)
  (he:starEach (e::es) X.env=(false,eval e X.env)::starEach es X.env:=by rfl) (hpl:(backTo pos (starEach es X.env)).any (·.1)=false:=by rfl):PE X (.Call (.Name x p) (e::es) [] pos) (tCB r t):=by
 intro pins s σ H Q I h;refine XQ (ef I hg hm hv ?_ hn hdb);exact Xs (thn (ha pos pins s σ H _ I h) λus s1 ⟨vs,H1,I1,r1,q1⟩=>hc pins s1 σ H1 vs us Q I1 r1 q1) he hpl
end
end L2
namespace HT
open PySem PyProof.Rows
section
open PySem.SeqAt
open PySem.AutoSeq1 (wpAny_loadPart')
open PySem.MeetsSeq PySem.MeetsSeq2 PySem.MeetsSeq3
end
section
variable{prog:WC}{w:WG}{A:Around}{E:Wv}{s:WA}
end
end HT
namespace L2
open PySem PySem.Spec PyProof.Rows
section
variable{X:Cx}{e:Expr}{te:TE}{lo hi:Option Expr}{tl th:TO}{pos p2:Pos}
end
end L2
namespace L2
open PySem PySem.Spec PyProof.Rows
noncomputable def ixN(n:Nat)(i:Int):Option Nat:=if 0<=i then(if i<n then some i.toNat else none) else if -(n:Int)<=i then some (i+n).toNat else none
noncomputable def atI{α:Type}(xs:List α)(i:Int):Option α:=(ixN xs.length i).bind λj=>xs[j]?
theorem xj{n:Nat}{i:Int}{j:Nat}(h:ixN n i=some j):seqIndex? i n=some j/\j<n/\-(n:Int)<=i/\i<n:=by
 unfold ixN at h
 by_cases h0:0<=i
 ·rw[Zf h0] at h
  by_cases h1:i<n
  ·rw[Zf h1] at h;have e:i.toNat=j:=Zy h;exact⟨by rw[seqIndex_of h0 h1,e],by omega,by omega,h1⟩
  ·rw[Zg h1] at h; cases h
 ·rw[Zg h0] at h
  by_cases h1:-(n:Int)<=i
  ·rw[Zf h1] at h;have e:(i+n).toNat=j:=Zy h;exact⟨by rw[seqIndex_neg (by omega) h1,e],by omega,h1,by omega⟩
  ·rw[Zg h1] at h; cases h
theorem qx{α:Type}{xs:List α}{i:Int}{v:α}(h:atI xs i=some v):∃j,seqIndex? i xs.length=some j/\xs[j]?=some v/\j<xs.length/\-(xs.length:Int)<=i/\i<xs.length:=by
 unfold atI at h
 cases e:ixN xs.length i with
 | none=>rw[e] at h; cases h
 | some j =>
  rw[e] at h;obtain⟨h1,h2,h3,h4⟩:=xj e;exact⟨j,h1,h,h2,h3,h4⟩
def oO(b:Expr):Prop:=∀o i,subscripted b false o i=operate [o,i] (getItem o i)
noncomputable def IxR(X:Cx)(r:R2):Prop :=
 ∀(value slice:Expr) (pins:Ww) (s:WA) (σ:St) (H:Hp) (x y:V) (v u:Value) (Q:VK),Inv X pins σ H s->RelV x v->RelV y u->r x y H Q ->
  subscripted slice false v u=operate [v,u] (getItem v u)->wpAny (model X.prog X.w) X.A (subscriptTail value slice v u) (EP X pins σ Q) X.xe s
noncomputable def MtR(X:Cx)(id:String)(r:V->List V->Hp->VK->Prop):Prop :=
 ∀(pins:Ww) (s:WA) (σ:St) (H:Hp) (x:V) (xs:WN) (v:Value) (us:Wz) (Q:VK),Inv X pins σ H s->RelV x v->Vals xs us->r x xs H Q ->
  wpAny (model X.prog X.w) X.A (call (.builtin id) (v::us)) (EP X pins σ Q) X.xe s
section
variable{X:Cx}{a b:Expr}{ta tb:TE}{pos:Pos}
theorem Jk{r:R2}(hr:IxR X r)(ha:PE X a ta)(hb:PE X b tb)(hs:oO b):PE X (.Subscript a b pos) (tOp r ta tb):=by
 intro pins s σ H Q I h;exact Subscript_ (pq ha hb I h λv u s2 x y H2 I2 rx ry q=>hr a b pins s2 σ H2 x y v u Q I2 rx ry q (hs _ _))
noncomputable def E8(K:Wy):R2:=λx y H Q=>∃p xs i v,x=.ref p/\y=.int i/\SqL K H p xs/\atI xs i=some v/\Q v H
noncomputable def zN(K:Wy):R2:=λx y H Q=>∃p xs i v,x=.ref p/\y=.int i/\SqT K H p xs/\atI xs i=some v/\Q v H
theorem DO:IxR X (E8 X.K):=by
 intro value slice pins s σ H x y v u Q I rx ry h hs;obtain⟨p,xs,i,z,rfl,rfl,hq,he,q⟩:=h;cases rx;obtain⟨t,rfl⟩:=ry;obtain⟨its,r,pl,hz⟩:=I.list hq;obtain⟨j,h1,h2,h3,h4,h5⟩:=qx he;obtain⟨w,ew,rw'⟩:=r.get h2;have hl:=r.length;have hn:=i7;have fin:EP X pins σ Q w s:=⟨z,H,I,rw',q⟩
 by_cases h0:0<=i
 ·have hj:i.toNat=j:=by
   rw[seqIndex_of h0 h5] at h1;exact Zy h1
  exact item_listR pl.isList h0 (by omega) (by rw[hj]; simpa using ew) fin hs
 ·have hj:(i+(its.toArray.size:Int)).toNat=j:=by
   rw[seqIndex_neg (by omega) h4] at h1;rw[Zo,<- hl];exact Zy h1
  exact subscriptTail_builtinR (x:=w) pl.isList.typeIs slot_list_getitem.lookup
   (wpAny_getItem_list_neg (Q:=λr s'=>r=w/\EP X pins σ Q r s') pl.isList (by omega) (by rw[Zo]<;>omega) (by omega) (by rw[hj]; simpa using ew) ⟨rfl,fin⟩) hs
theorem xB:IxR X (zN X.K):=by
 intro value slice pins s σ H x y v u Q I rx ry h hs;obtain⟨p,xs,i,z,rfl,rfl,hq,he,q⟩:=h;cases rx;obtain⟨t,rfl⟩:=ry;obtain⟨its,r,pl,hz⟩:=I.tuple hq;obtain⟨j,h1,h2,h3,h4,h5⟩:=qx he;obtain⟨w,ew,rw'⟩:=r.get h2;have hl:=r.length;have hn:=i7;have fin:EP X pins σ Q w s:=⟨z,H,I,rw',q⟩
 exact subscriptTail_builtinR (x:=w) pl.typeIs slot_tuple_getitem.lookup
  (getItem_tuple (j:=j) (Q:=λr s'=>r=w/\EP X pins σ Q r s') pl (by omega) (by omega) (by rw[Zo,<- hl]; exact h1) (by simpa using ew) ⟨rfl,fin⟩) hs
theorem yW(its:Wz)(n j:Nat)(u:Value):Obj.mapSeq (·.setIfInBounds j u) { cls:=.type "list",data:=.seq its.toArray n }={ cls:=.type "list",data:=.seq (its.set j u).toArray n }:=by
 simp[Obj.mapSeq]
theorem Inv.lst{pins:Ww}{σ:St}{H:Hp}{s:WA}{p:Addr}{xs:WN}(I:Inv X pins σ H s)(h:H p=some (.lst xs)) :
  ∃(its:Wz) (n:Nat),Vals xs its/\s.heap.get? p=some { cls:=.type "list",data:=.seq its.toArray n }/\xs.length<=sizeLine:=by
 obtain⟨z,its,n,r,e⟩:=I.hok p _ h;exact⟨its,n,r,e,z⟩
theorem Inv.yx{pins:Ww}{σ:St}{H:Hp}{s:WA}{p:Addr}{xs ys:WN}{its its':Wz}{n n':Nat}{f:Obj->Obj}(I:Inv X pins σ H s)(h:H p=some (.lst xs))
  (ho:s.heap.get? p=some { cls:=.type "list",data:=.seq its.toArray n }) (hf:f { cls:=.type "list",data:=.seq its.toArray n }={ cls:=.type "list",data:=.seq its'.toArray n' }) (r:Vals ys its') (hz:ys.length<=sizeLine) (t:Nat) :
  Inv X pins σ (upd H p (.lst ys)) { s with heap:=s.heap.update p f,toks:=t }:=by
 have e:(s.heap.update p f).get? p=some { cls:=.type "list",data:=.seq its'.toArray n' }:=by
  rw[Z7 f ho (by rw[hf]<;>rfl),hf]
 refine I.write (x:=p) (e:=p) (by rw[h]; trivial) (.inl rfl) (λb u hb q=>(X4 _ _ (Ne.symm hb)).trans q) ⟨_,e⟩ ?_;exact⟨hz,its',n',r,e⟩
noncomputable def Dg:V->V->V->Hp->(Hp->Prop)->Prop:=λo i v H Q=>∃p xs k j,o=.ref p/\i=.int k/\H p=some (.lst xs)/\ixN xs.length k=some j/\Q (upd H p (.lst (xs.set j v)))
theorem set_list:oA X Dg:=by
 intro pins s σ H o i v ov iv u Q I ro ri rv h;obtain⟨p,xs,k,j,rfl,rfl,hp,hj,q⟩:=h;cases ro;obtain⟨t,rfl⟩:=ri;obtain⟨its,n,r,ho,hz⟩:=I.lst hp;obtain⟨h1,h2,h3,h4⟩:=xj hj;have hl:=r.length;have hn:=i7
 have I':Inv X pins σ (upd H p (.lst (xs.set j v))) { s with heap:=s.heap.update p (Obj.mapSeq (·.setIfInBounds j u)) } :=
  I.yx hp ho (yW its n j u) (r.set rv j) (by rw[Xr]; exact hz) s.toks
 by_cases h0:0<=k
 ·have hk:k.toNat=j:=by
   rw[seqIndex_of h0 h4] at h1;exact Zy h1
  exact PySem.W.ki_setAt ho h0 (by omega) (by rw[Zo,<- hl]; exact h4) (by rw[hk]; exact⟨_,I',q⟩)
 ·have hk:(k+(its.toArray.size:Int)).toNat=j:=by
   rw[seqIndex_neg (by omega) h3] at h1;rw[Zo,<- hl];exact Zy h1
  exact PySem.W.ki_setBack ho (by omega) (by rw[Zo,<- hl]; exact h3) (by omega) (by rw[hk]; exact⟨_,I',q⟩)
noncomputable def yR:V->Bool
 | .non=>true
 | .bl _=>true
 | .int _=>true
 | .str _=>true
 | _=>false
theorem yf:cG X (.builtin "len") (λxs H Q=>∃p ys,xs=[.ref p]/\(SqL X.K H p ys\/SqT X.K H p ys)/\Q (.int ys.length) H):=by
 intro pins s σ H xs us Q I r h;obtain⟨p,ys,rfl,hq,q⟩:=h;obtain⟨u,rfl,rx⟩:=vals1 r;cases rx;have hn:=i7;rcases hq with hq|hq
 ·obtain⟨its,r',pl,hz⟩:=I.list hq;have hlen:=r'.length;exact Calls.call_len_list pl.isList (by simp only[Zo]<;>omega) ⟨.int ys.length,H,I.tok _,⟨s.toks+1,by rw[Zo,hlen]⟩,q⟩
 ·obtain⟨its,r',pl,hz⟩:=I.tuple hq;have hlen:=r'.length;exact len_tuple pl (by simp only[Zo]<;>omega) ⟨.int ys.length,H,I.tok _,⟨s.toks+1,by rw[Zo,hlen]⟩,q⟩
theorem mD:cG X (.type "tuple") (λxs H Q=>∃p ys,xs=[.ref p]/\((SqL X.K H p ys/\∀l,H l=none->Q (.ref l) (upd H l (.tup ys)))\/(SqT X.K H p ys/\Q (.ref p) H))):=by
 intro pins s σ H xs us Q I r h;obtain⟨p,ys,rfl,h⟩:=h;obtain⟨u,rfl,rx⟩:=vals1 r;cases rx;rcases h with⟨hq,q⟩|⟨hq,q⟩
 ·obtain⟨its,r',pl,hz⟩:=I.list hq;have hlen:=r'.length;refine call_tuple_list pl.isList (λh' kp=>?_) (by simp only[Zo]<;>omega);have I1:Inv X pins σ H { s with heap:=h' }:=I.kept (t':=s.toks) kp
  have I2:Inv X pins σ (upd H h'.objs.size (.tup ys)) { s with heap:=h'.push { cls:=.type "tuple",data:=.seq its.toArray } } :=
   I1.laid (t':=s.toks) (λb o e=>Zd _ e) (Zl _) (show aY X.prog X.w _ _ _ (.tup ys) from⟨hz,its,r',IsTup.new _ _⟩)
  exact⟨.ref h'.objs.size,_,I2,rfl,q _ (I1.hok.fresh (Zl _))⟩
 ·obtain⟨its,r',pl,hz⟩:=I.tuple hq;exact call_tuple_same pl ⟨.ref p,H,I,rfl,q⟩
def tyV(K:Wy)(T:String)(x:V)(H:Hp):Prop:=match x with
 | .str _=>T = "str"
 | .int _=>T = "int"
 | .ref p=>(T = "list"/\∃xs,SqL K H p xs)\/(T = "tuple"/\∃o,K.lookup p=some o/\o.cls=.type "tuple"/\o.dict=none) \/
   (T = "dict"/\((∃kvs,H p=some (.dK kvs))\/∃kvs,H p=some (.dT kvs)))\/(T = "set"/\∃S n,H p=some (.set S n))
 | _=>False
theorem zI{pins:Ww}{σ:St}{H:Hp}{s:WA}{T:String}{x:V}{v:Value}(I:Inv X pins σ H s)(r:RelV x v)(ty:tyV X.K T x H) :
  s.TypeIs v T/\∀a,v=.ref a->∃ob,s.heap.get? a=some ob/\ob.dict=none:=by
 cases x with
 | str z =>
  obtain⟨t,rfl⟩:=r;cases(show T = "str" from ty);exact⟨typeIs_str s z t,λ_ e=>nomatch e⟩
 | int i =>
  obtain⟨t,rfl⟩:=r;cases(show T = "int" from ty);exact⟨typeIs_int s i t,λ_ e=>nomatch e⟩
 | ref p =>
  cases r;rcases ty with⟨rfl,xs,hq⟩|⟨rfl,o,hk,hc,hd⟩|⟨rfl,hk⟩|⟨rfl,S,n,hk⟩
  ·obtain⟨its,_,pl,_⟩:=I.list hq;refine⟨pl.isList.typeIs,λa e=>?_⟩;cases e;obtain⟨o,n,e,c,hd,_⟩:=pl;exact⟨o,e,hd⟩
  ·refine⟨⟨o,I.kIn p o hk,hc⟩,λa e=>?_⟩;cases e;exact⟨o,I.kIn _ o hk,hd⟩
  ·have z:∃o,s.heap.get? p=some o/\o.ExactDict:=by
    rcases hk with⟨kvs,hk⟩|⟨kvs,hk⟩
    ·obtain⟨_,_,_,_,o,_,_,e,ex,_⟩:=I.hok p _ hk;exact⟨o,e,ex⟩
    ·obtain⟨_,_,_,_,o,_,_,e,ex,_⟩:=I.hok p _ hk;exact⟨o,e,ex⟩
   obtain⟨o,e,ex⟩:=z;refine⟨⟨o,e,ex.1⟩,λa e2=>?_⟩;cases e2;exact⟨o,e,ex.2.1⟩
  ·obtain⟨o,_,_,_,e,ex,_⟩:=I.hok p _ hk;refine⟨⟨o,e,ex.1⟩,λa e2=>?_⟩;cases e2;exact⟨o,e,ex.2.1⟩
 | _=>exact False.elim ty
noncomputable def tBM(K:Wy)(T:String)(r:V->List V->Hp->VK->Prop)(to:TE)(t:TA):TE:=λσ H Q=>to σ H λx H1=>tyV K T x H1/\t σ H1 λxs H2=>r x xs H2 Q
variable{o e:Expr}{es:WM}{to:TE}{t:TA}{name:Str}{apos cpos:Pos}{T id:String}{r:V->List V->Hp->VK->Prop}
theorem BS(pa:PlainAttrs T)(slot:Slot T name id)(hty:typeOf (.builtin id)=pure (.type "method_descriptor"))(hm:MtR X id r)(ho:PE X o to)(ha:PA X (e::es) t)
  (hbase:attributeBase o name X.env (eval o X.env)=eval o X.env:=by rfl)
  (hfew:((backTo cpos (starEach (e::es) X.env)).all (λx=>!x.1)&&(backToKw cpos (keywordEach [] X.env)).all (λx=>x.1.isSome)
  &&decide ((e::es).length+([]:List Keyword).length+(if([]:List Keyword).isEmpty then 0 else 1)<30))=true:=by rfl)
  (hline:(apos.endLine==cpos.line)=true:=by rfl) (hs:starEach (e::es) X.env=(false,eval e X.env)::starEach es X.env:=by rfl) (hplain:(backTo cpos (starEach es X.env)).any (·.1)=false:=by rfl) :
  PE X (.Call (.Attribute o name apos) (e::es) [] cpos) (tBM X.K T r to t):=by
 intro pins s σ H Q I h;refine wpAny_Call_method_late hbase hfew hline rfl (thn (ho pins s σ H _ I h) λv s1 ⟨x,H1,I1,r1,ty,q1⟩=>?_);obtain⟨h1,h2⟩:=zI I1 r1 ty;refine⟨T,id,pa,slot,hty,h1,h2,?_⟩;have hA:=ha cpos pins s1 σ H1 _ I1 q1;rw[hs] at hA ⊢;refine Calls.callWith_builtin (by show(false||(backTo cpos (starEach es X.env)).any (·.1))=false; rw[hplain]<;>rfl) (Calls.evalArgs_plain ?_);exact thn hA λus s2 ⟨vs,H2,I2,r2,q2⟩=>hm pins s2 σ H2 x vs v us Q I2 r1 r2 q2
/- xs.append(e),list.index on a module's tuple .. are MtR facts of 06m -/
end
end L2
namespace L2
open PySem PySem.Spec PyProof.Rows
noncomputable def MtM(X:Cx)(id:String)(r:V->List V->Hp->VK->Prop):Prop :=
 ∀(pins:Ww) (s:WA) (σ:St) (H:Hp) (x:V) (xs:WN) (v:Value) (us:Wz) (Q:VK),Inv X pins σ H s->RelV x v->Vals xs us->r x xs H Q ->
  wpAny (model X.prog X.w) X.A (call (.builtin id) (v::us)) (EP X pins σ Q) X.xe s
theorem Vals.one:∀{x:V} {us:Wz},Vals [x] us->∃u,us=[u]/\RelV x u
 | _,_,.cons r .nil=>⟨_,rfl,r⟩
theorem Vals.two:∀{x y:V} {us:Wz},Vals [x,y] us->∃u v,us=[u,v]/\RelV x u/\RelV y v:=λh=>by
 cases h with
 | cons r t=>
  cases t with
  | cons q t=>
   cases t
   exact⟨_,_,rfl,r,q⟩
theorem Vals.rep{xs:WN}{us:Wz}(h:Vals xs us):∀k:Nat,Vals (List.replicate k xs).flatten (List.replicate k us).flatten
 | 0=>.nil
 | k+1=>by
  rw[Xv,Xv,Qd,Qd];exact Vals.append h (Vals.rep h k)
theorem foldl_rep(its:Wz):∀(k:Nat) (acc:Wz),
  List.foldl (λx1 x2=>x1++x2) acc.toArray (List.replicate k its.toArray)=(acc++(List.replicate k its).flatten).toArray
 | 0,acc=>by simp
 | k+1,acc=>by
  have e:acc.toArray++its.toArray=(acc++its).toArray:=by simp
  have e2:(acc++its)++(List.replicate k its).flatten=acc++(List.replicate (k+1) its).flatten:=by
   rw[Xv,Qd,Zq]
  rw[<- e2,<- foldl_rep its k (acc++its),<- e,Xv,Q8]
section
variable{X:Cx}{pins:Ww}{σ:St}{H:Hp}{s:WA}{l b:Addr}{xs ys zs:WN}
theorem Inv.qa{its its':Wz}{n:Nat}{f:Array Value->Array Value}{t':Nat}(I:Inv X pins σ H s)(hH:H l=some (.lst xs))
  (e:s.heap.get? l=some { cls:=.type "list",data:=.seq its.toArray n }) (hf:f its.toArray=its'.toArray) (hv:Vals ys its') (hz:ys.length<=sizeLine) :
  Inv X pins σ (upd H l (.lst ys)) { s with heap:=s.heap.update l (Obj.mapSeq f),toks:=t' }:=by
 have q:=PySem.IsL.update e f;rw[hf] at q;refine I.write (x:=l) (e:=l) (by rw[hH]; exact trivial) (.inl rfl) (λb' u hb hu=>(X4 s.heap (Obj.mapSeq f) (Ne.symm hb)).trans hu) ⟨_,q⟩ ?_;exact⟨hz,its',_,hv,q⟩
theorem Inv.vo{its:Wz}{t':Nat}(I:Inv X pins σ H s)(hv:Vals ys its)(hz:ys.length<=sizeLine) :
  Inv X pins σ (upd H s.heap.objs.size (.lst ys)) { s with heap:=s.heap.push { cls:=.type "list",data:=.seq its.toArray },toks:=t' } :=
 I.laid (λ_ _ q=>Zd _ q) (Zl _) ⟨hz,its,0,hv,Zv _ rfl⟩
theorem Inv.fresh(I:Inv X pins σ H s):H s.heap.objs.size=none:=I.hok.fresh (Zl _)
theorem Inv.gP(I:Inv X pins σ H s)(hH:H l=some (.lst xs)):xs.length<=sizeLine/\∃(its:Wz) (n:Nat),Vals xs its/\xs.length=its.length/\s.heap.get? l=some { cls:=.type "list",data:=.seq its.toArray n }:=by
 obtain⟨z,its,n,r,e⟩:=I.hok l _ hH;exact⟨z,its,n,r,r.length,e⟩
theorem pU{n:Nat}(h:n<=sizeLine):Builtin.List.listTooLong n=false:=by
 unfold Builtin.List.listTooLong;exact Zw (by omega)
end
section
variable{X:Cx}
noncomputable def Cs:V->List V->Hp->VK->Prop:=λx vs H Q=>∃l xs y,x=.ref l/\vs=[y]/\H l=some (.lst xs)/\xs.length<sizeLine/\Q .non (upd H l (.lst (xs++[y])))
theorem sD:MtM X "list.append" Cs:=by
 intro pins s σ H x vs v us Q I rx rv h;obtain⟨l,xs,y,rfl,rfl,hH,hz,q⟩:=h;cases rx;obtain⟨u,rfl,ru⟩:=rv.one;obtain⟨z,its,n,r,hl,e⟩:=I.gP hH;refine call_meets F.slot_list_append ⟨_,e,rfl⟩ F.entry_list_append (F.args_list_append_2 _ _) (PySem.list_append l its.toArray n u (by rw[Zo]; omega)) ⟨e,?_⟩;refine⟨.non,_,I.qa (its':=its++[u]) hH e (by simp) (r.append (.cons ru .nil)) ?_,rfl,q⟩;rw[Zu,XR];omega
noncomputable def yt:V->List V->Hp->VK->Prop:=λx vs H Q=>∃l b xs zs,x=.ref l/\vs=[.ref b]/\H l=some (.lst xs)/\H b=some (.lst zs)/\xs.length+zs.length<=sizeLine/\Q .non (upd H l (.lst (xs++zs)))
theorem Hh:MtM X "list.extend" yt:=by
 intro pins s σ H x vs v us Q I rx rv h;obtain⟨l,b,xs,zs,rfl,rfl,hH,hB,hz,q⟩:=h;cases rx;obtain⟨u,rfl,ru⟩:=rv.one;cases ru;obtain⟨z,its,n,r,hl,e⟩:=I.gP hH;obtain⟨z2,its2,n2,r2,hl2,e2⟩:=I.gP hB;have hsz:its.toArray.size+its2.toArray.size<=sizeLine:=by rw[Zo,Zo]; omega
 have hlong:¬(!its.toArray.isEmpty&&Builtin.List.listTooLong (its.toArray.size+its2.toArray.size))=true:=by
  rw[pU hsz,Bool.and_false];exact Zz
 refine call_meets F.slot_list_extend ⟨_,e,rfl⟩ F.entry_list_extend (F.args_list_extend_2 _ _)
  (AutoSeq1.list_extend_list_list_0 l its.toArray n b its2.toArray n2 hlong (by rw[Zo]; omega) (by omega)) ⟨e,e2,?_⟩
 refine⟨.non,_,I.qa (its':=its++its2) hH e (by simp) (r.append r2) ?_,rfl,q⟩;rw[Zu];omega
noncomputable def G8:R2:=λx y H Q=>∃l b xs zs,x=.ref l/\y=.ref b/\H l=some (.lst xs)/\H b=some (.lst zs)/\xs.length+zs.length<=sizeLine/\∀p,H p=none->Q (.ref p) (upd H p (.lst (xs++zs)))
theorem xQ:OpR X (binaryOp .Add) G8:=by
 intro pins s σ H x y v u Q I rx ry h;obtain⟨l,b,xs,zs,rfl,rfl,hH,hB,hz,q⟩:=h;cases rx;cases ry;obtain⟨z,its,n,r,hl,e⟩:=I.gP hH;obtain⟨z2,its2,n2,r2,hl2,e2⟩:=I.gP hB;refine PySem.P.add_list e e2 ?_ (by rw[Zo,Zo]; omega);have ea:its.toArray++its2.toArray=(its++its2).toArray:=by simp
 rw[ea];exact⟨.ref _,_,I.vo (t':=s.toks) (r.append r2) (by rw[Zu]; omega),rfl,q _ I.fresh⟩
noncomputable def AD:R2:=λx y H Q=>∃l k xs,x=.ref l/\y=.int k/\H l=some (.lst xs)/\-(2^63)<=k/\k<2^63/\xs.length*k.toNat<=sizeLine /\
 ∀p,H p=none->Q (.ref p) (upd H p (.lst (List.replicate k.toNat xs).flatten))
theorem len_rep{α:Type}(xs:List α)(k:Nat):(List.replicate k xs).flatten.length=k*xs.length:=by
 induction k with
 | zero=>simp
 | succ k ih=>rw[Xv,Qd,Zu,ih,Nat.succ_mul,Nat.add_comm]
theorem EU:OpR X (binaryOp .Mult) AD:=by
 intro pins s σ H x y v u Q I rx ry h;obtain⟨l,k,xs,rfl,rfl,hH,h1,h2,hz,q⟩:=h;cases rx;obtain⟨t,rfl⟩:=ry;obtain⟨z,its,n,r,hl,e⟩:=I.gP hH;have hlen:its.toArray.size*k.toNat<=sizeLine:=by rw[Zo,<- hl]; exact hz
 have hcap:¬its.toArray.size*k.toNat>(2^63-1)/8:=by
  have:(sizeLine:Nat)<=(2^63-1)/8:=by decide
  omega
 have hfit:¬(!Builtin.List.listFitsIndex k)=true:=by
  rw[fitsIndex_both h1 h2];exact Zz
 have hlong:¬Builtin.List.listTooLong (its.toArray.size*k.toNat)=true:=by
  rw[pU hlen];exact Zz
 have hnew:List.foldl (λx1 x2=>x1++x2) #[] (List.replicate (if its.toArray.isEmpty=true then 0 else k.toNat) its.toArray)=(List.replicate k.toNat its).flatten.toArray:=by
  have f0:∀m:Nat,List.foldl (λx1 x2=>x1++x2) #[] (List.replicate m its.toArray)=(List.replicate m its).flatten.toArray:=λm=>by
   have:=foldl_rep its m [];rw[X8] at this;exact this
  rw[f0]
  cases its with
  | nil=>simp
  | cons a r'=>rw[Zg (by simp)]
 refine wpAny_binaryOp_repeat_ref (T:="list") (U:="int") (by decide) ⟨_,e,rfl⟩ (λs'=>typeIs_int s' k t) noFill_list_mul F.fills_int_mul F.slot_int_rmul repeat_list F.slot_int_index.lookup
  (call_meets F.slot_int_rmul (typeIs_int s k t) F.entry_int_rmul (F.args_int_rmul_2 _ _) (int___rmul___int_list k t l its.toArray n)
   ⟨e,rfl,⟨_,e,rfl⟩,call_meets F.slot_list_mul ⟨_,e,rfl⟩ F.entry_list_mul (F.args_list_mul_2 _ _) (AutoListH.list___mul___list_int_3 l its.toArray n k t hfit hcap hlong) ⟨e,?_⟩⟩)
 rw[hnew];exact⟨.ref _,_,I.vo (t':=s.toks) (r.rep k.toNat) (by rw[len_rep,Nat.mul_comm]; exact hz),rfl,q _ I.fresh⟩
end
section
variable{prog:WC}{w:WG}{A:Around}{E:Wv}{s:WA}
end
section
variable{X:Cx}
end
end L2
namespace Att
open PySem PySem.W PySem.Calls PyProof.Rows
theorem DS{P:Params}{h:Heap}:∀(ns:Wx) (vs:Wz),WellAll P h vs (ns.map WData.int)->IntsAre vs ns:=by
 intro ns
 induction ns with
 | nil =>
  intro vs w;rw[Qt] at w;cases w;exact .nil
 | cons n ns ih =>
  intro vs w;rw[ZK] at w
  cases w with
  | cons a b =>
   cases a;exact .cons _ _ (ih _ b)
theorem yP{l:OpenLaw}{n:Nat}(hn:l.most=some n){P:Params}{h:Heap}{args:List WData}{vals:Wz}
  (hpre:l.row.toRowW.claim.pre args=true) (hwl:WellAll P h vals args) :
  ∃a vs ns,vals=[Value.ref a]/\args=[WData.list (ns.map WData.int)]/\h.get? a=some { cls:=.type "list",data:=.seq vs.toArray }/\IntsAre vs ns/\ns.length<=n:=by
 have hsh:WShape.hasAll [] args [.list .int]=true:=(pre_splitW hpre).1;have hc:l.pre.holds [] { args:=args }=true:=(pre_splitW hpre).2;obtain⟨d,r,rfl,h1,h2⟩:=hasAllW_cons hsh;obtain rfl:=hasAllW_nil h2;obtain⟨xs,rfl,h3⟩:=hasW_list h1;obtain⟨ns,rfl⟩:=items_int h3
 have hlen:ns.length<=n:=by
  unfold OpenLaw.pre at hc
  have h4:(WTm.not (.lt (.lit (.int (n:Int))) (.len (.arg 0)))).holds [] { args:=[.list (ns.map .int)] }=true:=by
   have h4:=(holds_andW hc).1;rw[hn] at h4;exact h4
  have h5:=condW_of h4 (w_not (w_lt w_lit (w_len_list (w_arg rfl))));rw[Zc] at h5;refine Nat.le_of_not_lt λq=>?_
  have q':(n:Int)<((ns.length:Nat):Int):=by omega
  first
   | (rw[Zi q'] at h5; exact absurd h5 (by decide))
   | (simp at h5; omega)
 cases hwl with
 | cons w1 w2 =>
  cases w2
  cases w1 with
  | list ho hall=>exact⟨_,_,ns,rfl,rfl,ho,DS ns _ hall,hlen⟩
theorem DM(l:OpenLaw)(args:List WData):l.row.toRowW.claim.post args (.bool true) args=true :=
 postW_of (r:=l.row.toRowW) (X:=(true==true))
  (show WShape.has [] (.bool true) .bool=true by first|rfl|decide|simp[WShape.has,WShape.arms,WShape.armsAll])
  (show(WTm.eq .res (.lit (.bool true))).value [] { args:=args,res:=some (.bool true),after:=args }=some (.bool (true==true)) from w_eq_bool (w_res rfl) w_lit) rfl
theorem GV{l:OpenLaw}{n:Nat}{q:WC}{loose:WI}{XP:(Str->Option Value)->Heap->Prop}{YP:World->Heap->Prop}{d:DefRec}
  (hn:l.most=some n) (hdf:d.params.defaults=[])
  (call:∀(w:WG) (s₀ s₁:WA) (mg mb:WE) (fa:Addr) (o:Obj) (pm cd doc:Value) (a:Addr) (vs:Wz) (ns:Wx),
   Ground q loose [] XP w s₀ mg mb s₁.heap->YP w s₁.heap ->
   s₁.heap.get? fa=some o->o.data=.func (docDef d.name d.params d.body d.scope pm cd doc)->s₁.heap.CodeRec cd d.name->mg d.name=some (.ref fa) ->
   s₁.heap.get? a=some { cls:=.type "list",data:=.seq vs.toArray }->IntsAre vs ns->ns.length<=n->s₁.gens=#[] ->
   codeAny (model l.prog w) callerA (.call (.ref fa) ⟨[.ref a],[]⟩) (λr s'=>r=.ok (.ret (.bool true))/\OldK s₁.heap s'.heap/\s'.os=s₁.os/\AllBare s'.gens) s₁) :
  WalkO q loose XP YP l.row.toRowW d [] (λf vs=>PySem.call f vs):=by
 intro w s₀ s₁ mg mb G Y fa o pm cd doc dV kV ho hd hcd hD hmg hg args vals as hpre hlay hrd hwl hlo;obtain rfl:dV=.none:=Dflts.none hD hdf;obtain rfl:kV=.none:=Dflts.noKw hD;obtain⟨a,vs,ns,rfl,rfl,hobj,hints,hlen⟩:=yP hn hpre hwl;refine enter_call (Q7 (call w s₀ s₁ mg mb fa o pm cd doc a vs ns G Y ho (fd_plain hd) hcd hmg hobj hints hlen hg) λr s' hq=>?_);obtain⟨rfl,h2,h3,h4⟩:=hq;exact⟨.inl ⟨.bool true,.bool true,[],rfl,λ_=>rfl,.bool true,DM l _,λ_=>⟨List.Pairwise.nil,λ_ hm=>(nomatch hm)⟩⟩,h2,h3,h4⟩
section
variable{prog:WC}{w:WG}{A:Around}{E:Wv}{s:WA}{K:Frag}
end
end Att
namespace L2
open PySem PySem.Spec PyProof.Rows
theorem rG:∀{vs:Wz} {ns:Wx},IntsAre vs ns->Vals (ns.map V.int) vs
 | _,_,.nil=>.nil
 | _,_,.cons n t h=>.cons ⟨t,rfl⟩ (rG h)
def iS(H:Hp):Prop:=∀b,H b=none\/∃o xs,H b=some (.frz o (.lst xs))
theorem Em{P:WC}{w:WG}{K:Wy}{mg mb:WE}{CX:CXT}{k:Nat}{fa a:Addr}{fd:FuncData}{x:Str}{sp:Sp}{s₁:WA}{vs:Wz}{ns:Wx}
  (KX:K.In s₁.heap) (hns:s₁.heap.Ns mainGlobals mg) (hb:s₁.heap.Ns builtinsNs mb) (hbb:∀x:Str,x≠"__name__"->mb x=bootBuiltins x) (hlim:s₁.heap.NoLimit) (hg:s₁.gens=#[])
  (ha:s₁.heap.get? a=some { cls:=.type "list",data:=.seq vs.toArray }) (hi:IntsAre vs ns) (hl:ns.length<=sizeLine) (hr:bY k callerA)
  (F:∀base:Heap,K.In base->base.Ns mainGlobals mg->e_ P w K mg base CX k fa fd [x] sp) (hbind:∀(s:WA) (u:Value),BindsTo s fd ⟨[u],[]⟩ [(x,u)])
  (hsp:∀H:Hp,iS H->SqL K H a (ns.map V.int)->sp [.ref a] H (λv _=>v=.bl true) λ_ _ _=>False)
  (hCX:∀H e s',CX [] H s₁ (λ_ _ _=>False) e s'->False) :
  codeAny (model P w) callerA (.call (.ref fa) ⟨[.ref a],[]⟩) (λr s'=>r=.ok (.ret (.bool true))/\OldK s₁.heap s'.heap/\s'.os=s₁.os/\AllBare s'.gens) s₁:=by
 have rv:=rG hi;have lenV:=hi.length
 have core:∀H:Hp,iS H->SqL K H a (ns.map V.int)->HOk P w H s₁.heap->(∀b,H b≠none->b=a)->(H a≠none->K.lookup a=none) ->
   codeAny (model P w) callerA (.call (.ref fa) ⟨[.ref a],[]⟩) (λr s'=>r=.ok (.ret (.bool true))/\OldK s₁.heap s'.heap/\s'.os=s₁.os/\AllBare s'.gens) s₁:=by
  intro H hO hS hok hA hK;have base_of:∀{b:Addr} {o:Obj},s₁.heap.get? b=some o->H b=none->(eS s₁.heap H).get? b=some o:=λe n=>Ay e n
  have noA:∀{b:Addr} {o:Obj} {es:Array DictEntry} {ep:Nat},s₁.heap.get? b=some o->o.data=.dict es ep->H b=none:=λ{b o es ep} e d=>by
   cases q:H b with
   | none=>rfl
   | some u =>
    have e':b=a:=hA b (by rw[q]; simp);subst e';rw[ha] at e; cases e;have d':Data.seq vs.toArray _=Data.dict es ep:=d;cases d'
  have nsK:∀{b:Addr} {m:WE},s₁.heap.Ns b m->(eS s₁.heap H).Ns b m:=λ{b m} ⟨o,es,ep,e,d,r⟩=>⟨o,es,ep,base_of e (noA e d),d,r⟩
  have hKb:K.In (eS s₁.heap H):=λb o e=>base_of (KX b o e) (by
   cases q:H b with
   | none=>rfl
   | some u =>
    have e':b=a:=hA b (by rw[q]; simp);subst e';rw[hK (by rw[q]; simp)] at e; cases e)
  have hM:Mod K mg (eS s₁.heap H):=⟨hKb,nsK hns,⟨mb,nsK hb,hbb⟩,let⟨mc,h1,h2⟩:=hlim; ⟨mc,nsK h1,h2⟩⟩
  have e0:jG P w K mg (eS s₁.heap H) callerA [] s₁ H:=⟨rfl,hM,λb o e=>A5 e,Nat.le_of_eq (F6 _ _),trivial,λb hb=>absurd (show b∈([]:List Addr) from hb) (by simp),hok,.of_eq hg⟩
  refine Q7 ((F _ hKb (nsK hns)).run callerA [] s₁ H ⟨[.ref a],[]⟩ [.ref a] [.ref a] _ _ hr e0 (hbind s₁ (.ref a)) (.cons rfl .nil) (hsp H hO hS)) λr s' h=>?_
  cases r with
  | error e=>exact(hCX H e s' h).elim
  | ok fl =>
   cases fl with
   | next=>exact False.elim h
   | brk=>exact False.elim h
   | cont=>exact False.elim h
   | ret u =>
    obtain⟨v,H',os,bare,un,hok',r',q⟩:=h;have q':v=.bl true:=q;subst q';obtain rfl:u=Value.bool true:=r';refine⟨rfl,OldK.of_keep λb o e=>?_,os,bare⟩
    cases q:H b with
    | none=>exact un.keep b o e q (by intro z; exact absurd (show b∈([]:List Addr) from z) (by simp)) (by simp)
    | some u =>
     rcases hO b with z|⟨ob,xs,z⟩
     ·rw[q] at z; cases z
     ·have z2:=un.frzs b ob _ z;obtain⟨e1,_⟩:=hok b _ z;obtain⟨e2,_⟩:=hok' b _ z2;rw[e] at e1; cases e1;exact e2
 cases hk:K.lookup a with
 | some o =>
  have e:=KX a o hk;rw[ha] at e;cases e;refine core (λ_=>none) (λ_=>.inl rfl) (.inr ⟨_,vs.toArray,_,hk,rfl,rfl,rfl,by rw[Zo,lenV]; exact hl,by simpa using rv⟩) (λb u z=>by have z':(none:Option HO)=some u:=z; cases z') (λb z=>absurd rfl z) λz=>absurd rfl z
 | none =>
  refine core (λb=>if b=a then some (.frz { cls:=.type "list",data:=.seq vs.toArray } (.lst (ns.map V.int))) else none) (λb=>?_) (.inl (.inr ⟨{ cls:=.type "list",data:=.seq vs.toArray },Zf rfl⟩)) (λb u z=>?_) (λb z=>?_) λ_=>hk
  ·by_cases hb:b=a
   ·exact .inr ⟨_,_,Zf hb⟩
   ·exact .inl (Zg hb)
  ·by_cases hb:b=a
   ·have z':=(Zf hb).symm.trans z;cases z';subst hb;exact⟨ha,by rw[Zc]; exact hl,vs,_,rv,ha⟩
   ·have z':=(Zg hb).symm.trans z;cases z'
  ·by_cases hb:b=a
   ·exact hb
   ·exact absurd (Zg hb) z
end L2
namespace L2
open PySem PySem.Spec PyProof.Rows
theorem pM{l:PySem.W.OpenLaw}{n k:Nat}{q:WC}{loose:WI}{XP:(Str->Option Value)->Heap->Prop}{YP:World->Heap->Prop}{d:DefRec}{K:Params->PySem.W.Frag}{CX:World->CXT}{sp:World->Sp}{x:Str}
  (hn:l.most=some n) (hn2:n<=sizeLine) (hdf:d.params.defaults=[]) (hr:bY k callerA)
  (hY:∀(w:WG) (h:Heap),YP w h->(K w.params).In h)
  (F:∀(w:WG) (mg:WE) (fa:Addr) (h:Heap),(K w.params).In h->h.Ns mainGlobals mg->mg d.name=some (.ref fa) ->
   ∃fd:FuncData,(∀(s:WA) (u:Value),BindsTo s fd ⟨[u],[]⟩ [(x,u)]) /\
    ∀base:Heap,(K w.params).In base->base.Ns mainGlobals mg->e_ l.prog w (K w.params) mg base (CX w) k fa fd [x] (sp w))
  (hsp:∀(w:WG) (H:Hp) (a:Addr) (ns:Wx),ns.length<=n->iS H->SqL (K w.params) H a (ns.map V.int)->sp w [.ref a] H (λv _=>v=.bl true) λ_ _ _=>False)
  (hCX:∀(w:WG) (H:Hp) (s:WA) (e:Value) (s':WA),CX w [] H s (λ_ _ _=>False) e s'->False) :
  PySem.W.WalkO q loose XP YP l.row.toRowW d [] (λf vs=>PySem.call f vs):=by
 refine Att.GV hn hdf λw s₀ s₁ mg mb fa o pm cd doc a vs ns G Y ho hd hcd hmg hobj hints hlen hg=>?_
 have KX:=hY w _ Y;obtain⟨fd,hb,hF⟩:=F w mg fa _ KX G.T.g hmg;exact Em KX G.T.g G.T.b G.T.builtins G.T.nolimit hg hobj hints (Xa hlen hn2) hr hF hb (λH hO hS=>hsp w H a ns hlen hO hS) λH e s'=>hCX w H s₁ e s'
theorem JL{l:PySem.W.OpenLaw}{n k:Nat}{q:WC}{loose:WI}{XP:(Str->Option Value)->Heap->Prop}{YP:World->Heap->Prop}{d:DefRec}{K:Params->PySem.W.Frag}{CX:CXT}{sp:PySem.W.Frag->Sp}{x:Str}
  (hn:l.most=some n) (hn2:n<=sizeLine) (hdf:d.params.defaults=[]) (hr:bY k callerA)
  (hY:∀(w:WG) (h:Heap),YP w h->(K w.params).In h)
  (F:∀(w:WG) (mg:WE) (fa:Addr) (h:Heap),(K w.params).In h->h.Ns mainGlobals mg->mg d.name=some (.ref fa) ->
   ∃fd:FuncData,(∀(s:WA) (u:Value),BindsTo s fd ⟨[u],[]⟩ [(x,u)]) /\
    ∀base:Heap,(K w.params).In base->base.Ns mainGlobals mg->e_ l.prog w (K w.params) mg base CX k fa fd [x] (sp (K w.params)))
  (hsp:∀(K:Wy) (H:Hp) (a:Addr) (ns:Wx),ns.length<=n->iS H->SqL K H a (ns.map V.int)->sp K [.ref a] H (λv _=>v=.bl true) λ_ _ _=>False)
  (hCX:∀(H:Hp) (s:WA) (e:Value) (s':WA),CX [] H s (λ_ _ _=>False) e s'->False) :
  PySem.W.WalkO q loose XP YP l.row.toRowW d [] (λf vs=>PySem.call f vs) :=
 pM (K:=K) (CX:=λ_=>CX) (sp:=λw=>sp (K w.params)) hn hn2 hdf hr hY F (λw H a ns h1 h2 h3=>hsp (K w.params) H a ns h1 h2 h3) λ_ H s e s'=>hCX H s e s'
end L2
namespace L2
open PySem PySem.Spec PyProof.Rows
noncomputable def c9(s:Stmt):Arguments:=match s with
 | .FunctionDef _ a _ _ _ _ _ _ _ _=>a
 | _=>{ posonlyargs:=[],args:=[],vararg:=none,kwonlyargs:=[],kw_defaults:=[],kwarg:=none,defaults:=[] }
noncomputable def iG(s:Stmt):List Stmt:=match s with
 | .FunctionDef _ _ b _ _ _ _ _ _ _=>b
 | _=>[]
noncomputable def iz(s:Stmt):Scope:=match s with
 | .FunctionDef _ _ _ _ _ _ sc _ _ _=>sc
 | _=>{ kind:=.function,names:=[],isGenerator:=false,isCoroutine:=false }
structure Fun(K:Wy)(x qual:Str)(st:Stmt)(f:Addr)(fd:FuncData):Prop where
 ex:∃(oc:Value) (od:Option Addr) (kV doc pm:Value) (an:Option Addr) (cdv ct:Value) (osl:Array (Option Value)),
  fd=PySem.W.fnOf x qual (c9 st) (iG st) (iz st) .none kV doc pm an cdv ct/\K.lookup f=some ⟨oc,od,.func fd,osl⟩/\PySem.W.codeIn K cdv qual=true
 kp:PySem.W.keepIn K (.ref f)=true
section
variable{P:WC}{w:WG}{K:Wy}{mg:WE}{base:Heap}
theorem Fun.binds{x qual:Str}{st:Stmt}{f:Addr}{fd:FuncData}{ps:WI}(F:Fun K x qual st f fd)
  (h:∀(kV doc pm:Value) (an:Option Addr) (cdv ct:Value) (us:Wz),us.length=ps.length->bindArgs (PySem.W.fnOf x qual (c9 st) (iG st) (iz st) .none kV doc pm an cdv ct) ⟨us,[]⟩=pure (ps.zip us)):Binds K fd ps []:=by
 obtain⟨oc,od,kV,doc,pm,an,cdv,ct,osl,rfl,lk,hcd⟩:=F.ex;exact .all (h kV doc pm an cdv ct)
theorem AM{x qual:Str}{st:Stmt}{f:Addr}{oc:Value}{od an:Option Addr}{osl:Array (Option Value)}{kV doc pm cdv ct:Value}(l:K.lookup f=some ⟨oc,od,.func (PySem.W.fnOf x qual (c9 st) (iG st) (iz st) .none kV doc pm an cdv ct),osl⟩)
  (c:PySem.W.codeIn K cdv qual=true) (k:PySem.W.keepIn K (.ref f)=true):Fun K x qual st f (PySem.W.fnOf x qual (c9 st) (iG st) (iz st) .none kV doc pm an cdv ct):=⟨⟨oc,od,kV,doc,pm,an,cdv,ct,osl,rfl,l,c⟩,k⟩
end
section
variable{X:Cx}
end
end L2

namespace EV
open PySem
inductive D where
 | non|bl (b:Bool)|int (i:Int)|str (x:Str)|tup (ds:List D)|loc (l:Nat)|exn (c:Str)|fro (ds:List D)
 deriving Inhabited
abbrev WQ:=List (List Int×D)
abbrev WP:=List D
mutual
noncomputable def D.dec:(a b:D)->Decidable (a=b)
 | .non,b=>match b with|.non=>.isTrue rfl|.bl _|.int _|.str _|.tup _|.loc _|.exn _|.fro _=>.isFalse (λh=>nomatch h)
 | .bl x,b=>match b with
  | .bl y=>if h:x=y then .isTrue (by rw[h]) else .isFalse (λe=>h (D.bl.inj e))
  | .non|.int _|.str _|.tup _|.loc _|.exn _|.fro _=>.isFalse (λh=>nomatch h)
 | .int x,b=>match b with
  | .int y=>if h:x=y then .isTrue (by rw[h]) else .isFalse (λe=>h (D.int.inj e))
  | .non|.bl _|.str _|.tup _|.loc _|.exn _|.fro _=>.isFalse (λh=>nomatch h)
 | .str x,b=>match b with
  | .str y=>if h:x=y then .isTrue (by rw[h]) else .isFalse (λe=>h (D.str.inj e))
  | .non|.bl _|.int _|.tup _|.loc _|.exn _|.fro _=>.isFalse (λh=>nomatch h)
 | .tup x,b=>match b with
  | .tup y=>match D.decs x y with
   | .isTrue h=>.isTrue (by rw[h])
   | .isFalse h=>.isFalse (λe=>h (D.tup.inj e))
  | .non|.bl _|.int _|.str _|.loc _|.exn _|.fro _=>.isFalse (λh=>nomatch h)
 | .loc x,b=>match b with
  | .loc y=>if h:x=y then .isTrue (by rw[h]) else .isFalse (λe=>h (D.loc.inj e))
  | .non|.bl _|.int _|.str _|.tup _|.exn _|.fro _=>.isFalse (λh=>nomatch h)
 | .exn x,b=>match b with
  | .exn y=>if h:x=y then .isTrue (by rw[h]) else .isFalse (λe=>h (D.exn.inj e))
  | .non|.bl _|.int _|.str _|.tup _|.loc _|.fro _=>.isFalse (λh=>nomatch h)
 | .fro x,b=>match b with
  | .fro y=>match D.decs x y with
   | .isTrue h=>.isTrue (by rw[h])
   | .isFalse h=>.isFalse (λe=>h (D.fro.inj e))
  | .non|.bl _|.int _|.str _|.loc _|.exn _|.tup _=>.isFalse (λh=>nomatch h)
noncomputable def D.decs:(a b:WP)->Decidable (a=b)
 | [],[]=>.isTrue rfl
 | [],_::_=>.isFalse (λh=>nomatch h)
 | _::_,[]=>.isFalse (λh=>nomatch h)
 | x::xs,y::ys=>match D.dec x y with
  | .isFalse h=>.isFalse (λe=>h (Q6 e).1)
  | .isTrue h=>match D.decs xs ys with
   | .isTrue h'=>.isTrue (by rw[h,h'])
   | .isFalse h'=>.isFalse (λe=>h' (Q6 e).2)
end
noncomputable instance:DecidableEq D:=D.dec
inductive Cell where
 | lst (ds:WP)|dct (kvs:WQ)|fdc (kvs:WQ)
 deriving DecidableEq,Inhabited
abbrev af:=List Cell
inductive Res(α:Type) where
 | ok (a:α) (S:af)|exc (c:Str) (S:af)|bad
noncomputable def M(α:Type):=af->Res α
noncomputable instance:Monad M where
 pure a:=λS=>.ok a S
 bind m f:=λS=>match m S with
  | .ok a S'=>f a S'
  | .exc c S'=>.exc c S'
  | .bad=>.bad
theorem cT{α β:Type}(m:M α)(f:α->M β)(S:af):(m>>=f) S=match m S with|.ok a S'=>f a S'|.exc c S'=>.exc c S'|.bad=>.bad:=rfl
theorem aj{α β:Type}{m:M α}{f:α->M β}{S S':af}{a:α}(h:m S=.ok a S'):(m>>=f) S=f a S':=by rw[cT,h]
theorem cY{α β:Type}{m:M α}{f:α->M β}{S S':af}{c:Str}(h:m S=.exc c S'):(m>>=f) S=.exc c S':=by rw[cT,h]
theorem aV{α β:Type}{m:M α}{f:α->M β}{S:af}(h:m S=.bad):(m>>=f) S=.bad:=by rw[cT,h]
noncomputable def bad{α:Type}:M α:=λ_=>.bad
noncomputable def opt{α:Type}:Option α->M α
 | some a=>pure a
 | none=>bad
noncomputable def alloc(c:Cell):M D:=λS=>.ok (.loc S.length) (S++[c])
noncomputable def quiet{α:Type}(m:M α):M α:=λS=>match m S with
 | .ok a S'=>.ok a S'
 | _=>.bad
noncomputable def aM:Nat:=16777216
noncomputable def fits(n:Nat):Bool:=decide (n<=aM)
noncomputable def fG(n:Nat):Bool:=decide (n<aM)
noncomputable def guard{α:Type}(b:Bool)(m:M α):M α:=match b with
 | true=>m
 | false=>bad
noncomputable def listAt(S:af)(l:Nat):Option (List D):=match S[l]? with
 | some (.lst ds)=>some ds
 | _=>none
noncomputable def items:D->M (List D)
 | .tup ds=>pure ds
 | .loc l=>λS=>match listAt S l with
  | some ds=>.ok ds S
  | none=>.bad
 | .fro ds=>pure ds
 | _=>bad
noncomputable def cB:D->M (List D)
 | .loc l=>items (.loc l)
 | .fro ds=>pure ds
 | _=>bad
noncomputable def asL(S:af):D->Option (List D)
 | .loc l=>listAt S l
 | .fro ds=>some ds
 | _=>none
noncomputable def i2b(b:Bool):Int:=if b then 1 else 0
noncomputable def jT:D->D->Option Bool
 | .non,.non=>some true
 | .non,.bl _|.non,.int _|.non,.str _|.bl _,.non|.int _,.non|.str _,.non=>some false
 | .bl a,.bl b=>some (a==b)
 | .bl a,.int b=>some (i2b a==b)
 | .int a,.bl b=>some (a==i2b b)
 | .int a,.int b=>some (a==b)
 | .str a,.str b=>some (a==b)
 | .bl _,.str _|.int _,.str _|.str _,.bl _|.str _,.int _=>some false
 | _,_=>none
noncomputable def cu(f:D->D->Option Bool):List D->List D->Option Bool
 | x::xs,y::ys=>match f x y,cu f xs ys with
  | some a,some b=>some (a&&b)
  | _,_=>none
 | _,_=>some true
set_option genInjectivity false in
inductive Kd where|flat|tup|list|other
noncomputable def D.kd:D->Kd
 | .non|.bl _|.int _|.str _=>.flat
 | .tup _=>.tup
 | .loc _|.fro _=>.list
 | .exn _=>.other
noncomputable def D.its:D->List D
 | .tup ds=>ds
 | _=>[]
noncomputable def eqD:Nat->af->D->D->Option Bool
 | 0,_,_,_=>none
 | n+1,S,a,b=>match a.kd,b.kd with
  | .flat,.flat=>jT a b
  | .tup,.tup=>(cu (eqD n S) a.its b.its).map λr=>r&&(a.its.length==b.its.length)
  | .list,.list=>match asL S a,asL S b with
   | some xs,some ys=>if xs.length=ys.length then cu (eqD n S) xs ys else some false
   | _,_=>none
  | .list,.tup=>(asL S a).map λ_=>false
  | .tup,.list=>(asL S b).map λ_=>false
  | .list,.flat=>(asL S a).map λ_=>false
  | .flat,.list=>(asL S b).map λ_=>false
  | .tup,.flat=>some false
  | .flat,.tup=>some false
  | _,_=>none
noncomputable def deep:Nat:=12
noncomputable def eqM(a b:D):M Bool:=λS=>match eqD deep S a b with
 | some k=>.ok k S
 | none=>.bad
noncomputable def inL(S:af)(x:D):List D->Option Bool
 | []=>some false
 | y::ys=>match eqD deep S y x,inL S x ys with
  | some a,some b=>some (a||b)
  | _,_=>none
set_option genInjectivity false in
inductive Op2 where|add|sub|mul|fdiv|mod|pow
set_option genInjectivity false in
inductive Cm where|lt|le|gt|ge|eq|ne|isin|cW|din|dnin|nisB|tin
set_option genInjectivity false in
inductive Ty where|int|bool|str|list|tuple|dict|cls (c:Str)
 deriving DecidableEq
set_option genInjectivity false in
inductive Bi where|len|inst (t:Ty)|all|any|sum|min|max|sorted|sortedSet|list|tuple|int|abs|rangeT|rangeL|vals|lenS|rev|lenD|lenT|intT|str1|signs|tTo|tFrom|tAt
set_option genInjectivity false in
inductive Tm where|join|split|starts|part
set_option genInjectivity false in
inductive Me where|append|extend
noncomputable def small(i:Int):Bool:=decide (-(2^64)<i/\i<2^64)
noncomputable def aU(l:Nat)(f:List D->M D):M D:=λS=>match S[l]? with
 | some (.lst ds)=>f ds S
 | _=>.bad
noncomputable def put(l:Nat)(c:Cell):M D:=λS=>.ok .non (S.set l c)
noncomputable def zP(a b:Nat):M D:=aU a λxs=>aU b λys=>guard (fits (xs.length+ys.length)) (alloc (.lst (xs++ys)))
noncomputable def Di:D->D->M D
 | .int i,.int j=>pure (.int (i+j))
 | .loc a,.loc b=>zP a b
 | _,_=>bad
noncomputable def Bv:D->D->M D
 | .int i,.int j=>pure (.int (i-j))
 | _,_=>bad
noncomputable def AA(l:Nat)(j:Int):M D:=aU l λxs=>guard (decide (-(2^63)<=j)&&decide (j<2^63)&&fits (xs.length*j.toNat)) (alloc (.lst (List.replicate j.toNat xs).flatten))
noncomputable def Jq:D->D->M D
 | .int i,.int j=>guard (small i||small j) (pure (.int (i*j)))
 | .loc l,.int j=>AA l j
 | _,_=>bad
noncomputable def xG:D->D->M D
 | .int i,.int j=>guard (decide (0<j)&&decide (j<1073741824)) (pure (.int (i/j)))
 | _,_=>bad
noncomputable def xO:D->D->M D
 | .int i,.int j=>guard (decide (0<j)) (pure (.int (i%j)))
 | _,_=>bad
noncomputable def Ce:D->D->M D
 | .int i,.int j=>guard (decide (0<=j)&&decide (j<=1000)&&decide (i.natAbs<2^64)) (pure (.int (i^j.toNat)))
 | _,_=>bad
noncomputable def opD:Op2->D->D->M D
 | .add=>Di
 | .sub=>Bv
 | .mul=>Jq
 | .fdiv=>xG
 | .mod=>xO
 | .pow=>Ce
noncomputable def gr(p:Int->Int->Bool):D->D->M D
 | .int i,.int j=>pure (.bl (p i j))
 | _,_=>bad
noncomputable def inA(neg:Bool)(a:D)(ys:WP):M D:=λS=>match inL S a ys with
 | some k=>.ok (.bl (k != neg)) S
 | none=>.bad
noncomputable def inM(neg:Bool)(a b:D):M D:=do
 let ys <- items b
 inA neg a ys
noncomputable def allInts:List D->Option (List Int)
 | []=>some []
 | .int i::r=>(allInts r).map (i :: ·)
 | _=>none
noncomputable def b6(kvs:WQ)(k:Wx):Option D:=(kvs.find? λkv=>decide (kv.1=k)).map (·.2)
noncomputable def iF(kvs:WQ)(k:Wx)(d:D):List (List Int×D) :=
 if(kvs.any λkv=>decide (kv.1=k))=true then kvs.map (λkv=>if kv.1=k then(kv.1,d) else kv) else kvs++[(k,d)]
noncomputable def bX(l:Nat)(f:List (List Int×D)->M D):M D:=λS=>match S[l]? with
 | some (.dct kvs)=>f kvs S
 | some (.fdc kvs)=>f kvs S
 | _=>.bad
noncomputable def ie:D->D->M D
 | .loc l,.tup ds=>do
  let k <- opt (allInts ds)
  bX l λkvs=>opt (b6 kvs k)
 | _,_=>bad
noncomputable def kP(neg:Bool):D->D->M D
 | .tup ds,.loc l=>do
  let k <- opt (allInts ds)
  bX l λkvs=>pure (.bl ((b6 kvs k).isSome != neg))
 | _,_=>bad
noncomputable def vH:D->M D
 | .loc l=>bX l λkvs=>guard (fits kvs.length) (alloc (.lst (kvs.map (·.2))))
 | _=>bad
noncomputable def Ag(acc:Wx)(x:Int):List Int:=if acc.contains x then acc else acc++[x]
noncomputable def uM(xs:Wx):Nat:=(xs.foldl Ag []).length
noncomputable def Ba:D->D->M D
 | .bl a,.bl b=>pure (.bl (a != b))
 | _,_=>bad
noncomputable def tx(xs:List Nat):Str:=⟨xs.toArray⟩
noncomputable def sC(c:Nat):D:=.str ⟨#[c]⟩
noncomputable def mT(c:Nat):List Nat->List (List Nat)
 | []=>[[]]
 | a::r=>if a=c then[]::mT c r else match mT c r with
  | h::t=>(a::h)::t
  | []=>[[a]]
noncomputable def uS(a:Str):List Str->Str
 | []=>tx []
 | [y]=>y
 | y::r=>y++a++uS a r
noncomputable def allStrs:List D->Option (List Str)
 | []=>some []
 | .str y::r=>(allStrs r).map (y :: ·)
 | _=>none
noncomputable def HF(x:Str):D->M D
 | .str y=>match y.cps.toList with
  | [c]=>guard (decide (x.length<=1000000)) (alloc (.lst ((mT c x.cps.toList).map λp=>.str (tx p))))
  | _=>bad
 | _=>bad
noncomputable def Ek(c:Nat)(xs:List Nat):List D:=if c∈xs then[.str (tx (xs.takeWhile λa=>a != c)),.str ⟨#[c]⟩,.str (tx ((xs.dropWhile λa=>a != c).drop 1))] else[.str (tx xs),.str (tx []),.str (tx [])]
noncomputable def zY(x:Str):D->M D
 | .str y=>match y.cps.toList with
  | [c]=>guard (decide (x.length<=1000000)) (pure (.tup (Ek c x.cps.toList)))
  | _=>bad
 | _=>bad
noncomputable def Fp(x:Str):D->M D
 | .str y=>match y.cps.toList with
  | [c]=>pure (.bl (decide (x.cps.toList.head?=some c)))
  | _=>bad
 | _=>bad
noncomputable def joinM(x:Str)(ys:WI):M D:=guard (decide ((ys.map (λy=>y.length)).sum+ys.length*x.length<=16777216)) (pure (.str (uS x ys)))
noncomputable def Iu(x:Str)(d:D):M D:=do
 let ds <- cB d
 let ys <- opt (allStrs ds)
 joinM x ys
noncomputable def tmD:Tm->Str->D->M D
 | .join=>Iu
 | .split=>HF
 | .starts=>Fp
 | .part=>zY
noncomputable def wF(m:Tm)(s:Str)(as:WP):M D:=match as with
 | [y]=>tmD m s y
 | _=>bad
noncomputable def uh(x:D)(f:Str->M D):M D:=match x with
 | .str s=>f s
 | _=>bad
noncomputable def HD:D->D->M D
 | .str x,.str y=>match x.cps.toList with
  | [c]=>pure (.bl (decide (c∈y.cps.toList)))
  | _=>bad
 | _,_=>bad
noncomputable def BU(c:Nat):Bool:=decide (48<=c)&&decide (c<=57)
noncomputable def valN(xs:List Nat):Nat:=xs.foldl (λacc c=>acc*10+(c-48)) 0
noncomputable def E_:D->M D
 | .str x=>guard (x.cps.toList.all BU&&decide (1<=x.length)&&decide (x.length<=4)) (pure (.int (valN x.cps.toList:Nat)))
 | _=>bad
noncomputable def AZ:D->M D
 | .int i=>guard (small i) (pure (.str (Str.ofString (toString i))))
 | .str x=>pure (.str x)
 | _=>bad
noncomputable def EM:D->M D
 | .str x=>guard (fits x.length) (pure (.int x.length))
 | _=>bad
noncomputable def zk:D->M D
 | .str x=>guard (x.cps.toList.all λc=>decide (c<128)) (pure (.tup (x.cps.toList.map sC)))
 | _=>bad
noncomputable def A7:D->D->M D
 | .str x,.int j=>guard (decide (-(x.length:Int)<=j)&&decide (j<=(x.length:Int))&&fits x.length) (pure (.str (tx (x.cps.toList.take (if j<0 then(j+(x.length:Int)).toNat else j.toNat)))))
 | _,_=>bad
noncomputable def z0:D->D->M D
 | .str x,.int j=>guard (decide (0<=j)&&fits x.length) (pure (.str (tx (x.cps.toList.drop j.toNat))))
 | _,_=>bad
noncomputable def Aa:D->D->M D
 | .str x,.int j=>guard (decide (0<=j)&&fits x.length) (match x.cps.toList[j.toNat]? with
  | some c=>pure (sC c)
  | none=>bad)
 | _,_=>bad
noncomputable def iw:D->D->Bool
 | .bl _,.int _=>false
 | .int _,.bl _=>false
 | .tup _,.str _=>true
 | .tup _,.int _=>true
 | a,b=>match a.kd,b.kd with
  | .flat,.flat=>true
  | .tup,.tup=>true
  | .list,.list=>true
  | _,_=>false
noncomputable def cmD:Cm->D->D->M D
 | .lt=>gr λi j=>decide (i<j)
 | .le=>gr λi j=>decide (i<=j)
 | .gt=>gr λi j=>decide (j<i)
 | .ge=>gr λi j=>decide (j<=i)
 | .eq=>λa b=>do pure (.bl (<- eqM a b))
 | .ne=>λa b=>guard (iw a b) (do pure (.bl (!(<- eqM a b))))
 | .isin=>inM false
 | .cW=>inM true
 | .din=>kP false
 | .dnin=>kP true
 | .nisB=>Ba
 | .tin=>HD
noncomputable def truth:D->M Bool
 | .bl b=>pure b
 | .non=>pure false
 | .int i=>pure (i != 0)
 | .tup ds=>pure (!ds.isEmpty)
 | .loc l=>do
  let xs <- items (.loc l)
  pure (!xs.isEmpty)
 | .fro ds=>pure (!ds.isEmpty)
 | _=>bad
noncomputable def ixN(n:Nat)(i:Int):Option Nat:=if 0<=i then(if i<n then some i.toNat else none) else if -(n:Int)<=i then some (i+n).toNat else none
noncomputable def atI(xs:WP)(i:Int):Option D:=(ixN xs.length i).bind λj=>xs[j]?
noncomputable def ixD(a i:D):M D:=match i with
 | .int j=>do
  let xs <- items a
  opt (atI xs j)
 | _=>bad
noncomputable def gv:D->D->D->M D
 | .loc l,.int k,d=>aU l λxs=>match ixN xs.length k with
  | some j=>put l (.lst (xs.set j d))
  | none=>bad
 | _,_,_=>bad
noncomputable def sIx(n d:Nat):Option Int->Nat
 | none=>d
 | some v=>if v<0 then(v+(n:Int)).toNat else min v.toNat n
noncomputable def cut(xs:WP)(lo hi:Option Int):List D:=(xs.drop (sIx xs.length 0 lo)).take (sIx xs.length xs.length hi-sIx xs.length 0 lo)
noncomputable def slD(a:D)(lo hi:Option Int):M D:=match a with
 | .tup xs=>pure (.tup (cut xs lo hi))
 | .loc l=>do
  let xs <- items (.loc l)
  alloc (.lst (cut xs lo hi))
 | .fro xs=>alloc (.lst (cut xs lo hi))
 | _=>bad
noncomputable def dZ:List D->Option (List Bool)
 | []=>some []
 | .bl i::r=>(dZ r).map (i :: ·)
 | _=>none
noncomputable def ins(i:Int):List Int->List Int
 | []=>[i]
 | j::r=>if i<=j then i::j::r else j::ins i r
noncomputable def qj:List Int->List Int
 | []=>[]
 | i::r=>ins i (qj r)
abbrev Sub:=Str->Str->Bool
noncomputable def cF(sub:Sub)(S:af):D->Ty->Option Bool
 | .non,t=>match t with|.cls _=>none|_=>some false
 | .bl _,t=>match t with|.cls _=>none|.int=>some true|.bool=>some true|_=>some false
 | .int _,t=>match t with|.cls _=>none|.int=>some true|_=>some false
 | .str _,t=>match t with|.cls _=>none|.str=>some true|_=>some false
 | .tup _,t=>match t with|.cls _=>none|.tuple=>some true|_=>some false
 | .loc l,t=>match S[l]?,t with
  | _,.cls _=>none
  | some (.lst _),.list=>some true
  | some (.lst _),_=>some false
  | some (.dct _),_=>none
  | some (.fdc _),_=>none
  | none,_=>none
 | .fro _,t=>match t with|.cls _=>none|.list=>some true|_=>some false
 | .exn c,t=>match t with|.cls d=>some (sub c d)|_=>none
noncomputable def lexLe:List Int->List Int->Bool
 | [],_=>true
 | _::_,[]=>false
 | a::r,b::q=>if a<b then true else if a=b then lexLe r q else false
noncomputable def bC(t:Wx):List (List Int)->List (List Int)
 | []=>[t]
 | u::r=>if t=u then u::r else if lexLe t u then t::u::r else u::bC t r
noncomputable def aN:List (List Int)->List (List Int)
 | []=>[]
 | t::r=>bC t (aN r)
noncomputable def tups:List D->Option (List (List Int))
 | []=>some []
 | .tup ds::r=>match allInts ds,tups r with
  | some t,some q=>some (t::q)
  | _,_=>none
 | _=>none
noncomputable def rng(lo hi step:Int):List Int :=
 if 0<step then(List.range ((hi-lo+step-1)/step).toNat).map λ(k:Nat)=>lo+k*step
 else if step<0 then(List.range ((lo-hi-step-1)/(-step)).toNat).map λ(k:Nat)=>lo+k*step
 else[]
noncomputable def near(i:Int):Bool:=decide (-(2^62)<=i/\i<2^62)
noncomputable def e9:List D->Option (List Int)
 | [.int j]=>if near j then some (rng 0 j 1) else none
 | [.int i,.int j]=>if near i&&near j then some (rng i j 1) else none
 | [.int i,.int j,.int k]=>if near i&&near j&&decide (k=-1) then some (rng i j k) else none
 | _=>none
noncomputable def yL:List Int->M D
 | []=>bad
 | i::r=>pure (.int (r.foldl min i))
noncomputable def oY:List Int->M D
 | []=>bad
 | i::r=>pure (.int (r.foldl max i))
noncomputable def min2:D->D->M D
 | .int i,.int j=>pure (.int (if j<i then j else i))
 | _,_=>bad
noncomputable def max2:D->D->M D
 | .int i,.int j=>pure (.int (if j>i then j else i))
 | _,_=>bad
noncomputable def toInt:D->M D
 | .int i=>pure (.int i)
 | .bl b=>pure (.int (i2b b))
 | _=>bad
noncomputable def Dz:D->M D
 | .int i=>pure (.int (if i<0 then -i else i))
 | _=>bad
noncomputable def iL(sub:Sub)(t:Ty)(a:D):M D:=λS=>match cF sub S a t with
 | some k=>.ok (.bl k) S
 | none=>.bad
noncomputable def JK:D->M D
 | .tup ds=>pure (.tup ds)
 | a=>do pure (.tup (<- items a))
noncomputable def CA:Option (List (List Int))->M D
 | some ts=>guard (decide (ts.length<64)&&decide ts.Nodup&&ts.all λt=>!t.isEmpty) (alloc (.lst ((aN ts).map λt=>.tup (t.map .int))))
 | none=>bad
noncomputable def Cz(r:M D):Option (List Int)->M D
 | some is=>guard (decide (is.length<64)) (alloc (.lst ((qj is).map .int)))
 | none=>r
noncomputable def xr(ds:WP):M D:=Cz (CA (tups ds)) (allInts ds)
noncomputable def Gb:D->Option Int
 | .tup [.int n,_]=>some n
 | _=>none
noncomputable def firstsP:List D->Option (List Int)
 | []=>some []
 | d::r=>match Gb d,firstsP r with
  | some n,some ns=>some (n::ns)
  | _,_=>none
noncomputable def bi1(sub:Sub):Bi->D->M D
 | .len,a=>do
  let ds <- items a
  pure (.int ds.length)
 | .inst t,a=>iL sub t a
 | .all,a=>do
  let ds <- items a
  let bs <- opt (dZ ds)
  pure (.bl (bs.all id))
 | .any,a=>do
  let ds <- items a
  let bs <- opt (dZ ds)
  pure (.bl (bs.any id))
 | .sum,a=>do
  let ds <- items a
  let is <- opt (allInts ds)
  pure (.int is.sum)
 | .min,a=>do
  let ds <- items a
  let is <- opt (allInts ds)
  yL is
 | .max,a=>do
  let ds <- items a
  let is <- opt (allInts ds)
  oY is
 | .sorted,a=>do
  let ds <- items a
  xr ds
 | .sortedSet,a=>do
  let ds <- cB a
  let ts <- opt (tups ds)
  guard (decide (ts.length<=18)&&ts.all λt=>!t.isEmpty) (alloc (.lst ((aN ts).map λt=>.tup (t.map .int))))
 | .list,a=>do
  let ds <- items a
  alloc (.lst ds)
 | .tuple,a=>do
  let ds <- items a
  pure (.tup ds)
 | .int,a=>toInt a
 | .abs,a=>Dz a
 | .vals,a=>vH a
 | .lenS,a=>do
  let ds <- cB a
  let is <- opt (allInts ds)
  guard (decide (is.length<=18)) (pure (.int (uM is)))
 | .rev,a=>do
  let ds <- cB a
  alloc (.lst ds.reverse)
 | .lenD,a=>do
  let ds <- cB a
  let is <- opt (firstsP ds)
  guard (decide (is.length<=18)) (pure (.int (uM is)))
 | .lenT,a=>EM a
 | .intT,a=>E_ a
 | .str1,a=>AZ a
 | .signs,a=>zk a
 | .tTo,_=>bad
 | .tFrom,_=>bad
 | .tAt,_=>bad
 | .rangeT,_=>bad
 | .rangeL,_=>bad
noncomputable def bi2:Bi->D->D->M D
 | .min=>min2
 | .max=>max2
 | .tTo=>A7
 | .tFrom=>z0
 | .tAt=>Aa
 | _=>λ_ _=>bad
noncomputable def biR:Bi->List D->M D
 | .rangeT,as=>do
  let is <- opt (e9 as)
  guard (fits is.length) (pure (.tup (is.map .int)))
 | .rangeL,as=>do
  let is <- opt (e9 as)
  guard (fits is.length) (alloc (.lst (is.map .int)))
 | _,_=>bad
noncomputable def Bi.isR:Bi->Bool
 | .rangeT=>true
 | .rangeL=>true
 | _=>false
noncomputable def biD(sub:Sub)(b:Bi)(as:WP):M D:=match b.isR with
 | true=>biR b as
 | false=>match as with
  | [a]=>bi1 sub b a
  | [a,c]=>bi2 b a c
  | _=>bad
noncomputable def GG:D->D->M D
 | .loc l,d=>aU l λds=>guard (fG ds.length) (put l (.lst (ds++[d])))
 | _,_=>bad
noncomputable def Dt:D->D->M D
 | .loc l,.loc k=>aU l λds=>aU k λes=>guard (fits (ds.length+es.length)) (put l (.lst (ds++es)))
 | _,_=>bad
noncomputable def y_:D->M D
 | .loc l=>aU l λds=>match ds.getLast? with
  | some d=>λS=>.ok d (S.set l (.lst ds.dropLast))
  | none=>bad
 | _=>bad
noncomputable def meD(m:Me)(o:D)(as:WP):M D:=match as with
 | [d]=>match m with
  | .append=>GG o d
  | .extend=>Dt o d
 | _=>bad
set_option genInjectivity false in
inductive Tg where
 | one (i:Nat)|many (is:List Nat)
abbrev Sg:=List (Option D)
noncomputable def Tg.has:Tg->Nat->Bool
 | .one i,j=>i==j
 | .many is,j=>is.contains j
noncomputable def cj:List Nat->List D->Sg->Sg
 | i::is,d::ds,σ=>cj is ds (σ.set i (some d))
 | _,_,σ=>σ
noncomputable def aQ:Tg->D->Sg->M Sg
 | .one i,d,σ=>pure (σ.set i (some d))
 | .many is,.tup ds,σ=>guard (decide (ds.length=is.length)) (pure (cj is ds σ))
 | _,_,_=>bad
set_option genInjectivity false in
inductive E where
 | v (i:Nat)|c (d:D)|bin (op:Op2) (a b:E)|cmp (op:Cm) (a b:E)|chn (o o':Cm) (a b c:E)|and (a b:E)|or (a b:E)|not (a:E)|neg (a:E)|isN (a:E)|notN (a:E)|ite (c a b:E)
 | nl|cs (a r:E)|tup (es:E)|lst (es:E)|ix (a i:E)|sl (a lo hi:E)|call (f:Str) (es:E)|bi (b:Bi) (es:E)|me (m:Me) (o es:E)
 | iSeq (a:E)|iEnum (a:E)|iRng (es:E)|iZip (es:E)|comp (k:Nat) (elt:E) (t:Tg) (it ife:E)|dget (o es:E)|dnew|dgv (o i:E)|iDct (o:E)|pop (o:E)|tm (m:Tm) (o es:E)|callL (fs:WI) (i es:E)
class ZL where
 l:Option Nat
 raw:List D
noncomputable instance zl0:ZL:=⟨none,[]⟩
set_option genInjectivity false in
structure Src where
 its:List D
 l:Option Nat
 raw:List D
 [z:ZL]
noncomputable def stl(l:Option Nat)(raw:WP):M Unit:=match l with
 | none=>pure ()
 | some l=>λS=>match listAt S l with
  | some ds=>guard (decide (ds=raw)) (pure ()) S
  | none=>.bad
noncomputable def aF(s:Src):M Unit:=do
 stl s.l s.raw
 stl s.z.l s.z.raw
noncomputable def srcOf:D->M Src
 | .tup ds=>pure ⟨ds,none,ds⟩
 | .loc l=>do
  let ds <- items (.loc l)
  pure ⟨ds,some l,ds⟩
 | .fro ds=>pure ⟨ds,none,ds⟩
 | _=>bad
noncomputable def iN:D->M Src
 | .loc l=>λS=>match S[l]? with
  | some (.dct kvs)=>.ok ⟨kvs.map λkv=>.tup (kv.1.map .int),none,[]⟩ (S.set l (.fdc kvs))
  | some (.fdc kvs)=>.ok ⟨kvs.map λkv=>.tup (kv.1.map .int),none,[]⟩ S
  | _=>.bad
 | _=>bad
noncomputable def bG:List D->List D->List D
 | x::r,y::q=>.tup [x,y]::bG r q
 | _,_=>[]
noncomputable def gO(s t:Src):Src:=match s.l,t.l with
 | none,none=>⟨bG s.its t.its,none,[]⟩
 | _,_=>@Src.mk (bG s.its t.its) s.l s.raw ⟨t.l,t.raw⟩
noncomputable def fO:List D->M Src
 | [x,y]=>do
  let s <- srcOf x
  let t <- srcOf y
  pure (gO s t)
 | _=>bad
noncomputable def num(k:Nat):List D->List D
 | []=>[]
 | d::r=>.tup [.int k,d]::num (k+1) r
noncomputable def bD(s:Src)(f:D->M (Option D)):List D->M (List D)
 | []=>do
  aF s
  pure []
 | d::ds=>do
  aF s
  let y <- f d
  let ys <- bD s f ds
  pure (match y with|some y=>y::ys|none=>ys)
noncomputable def jd:D->M (Option Int)
 | .int i=>pure (some i)
 | _=>bad
noncomputable def D.cQ(S:af):D->Bool
 | .loc l=>match S[l]? with|some (.lst _)=>true|_=>false
 | _=>false
noncomputable def ly{α:Type}(x:D)(m:M α):M α:=λS=>guard (x.cQ S) m S
noncomputable def fE(l:Nat)(f:List (List Int×D)->M D):M D:=λS=>match S[l]? with
 | some (.dct kvs)=>f kvs S
 | _=>.bad
noncomputable def IQ(a:D)(ds:WP):M D:=match a with
 | .loc l=>do
  let k <- opt (allInts ds)
  fE l λkvs=>opt (b6 kvs k)
 | _=>bad
noncomputable def xh(a:D)(ds:WP)(d:D):M D:=match a with
 | .loc l=>do
  let k <- opt (allInts ds)
  fE l λkvs=>guard (fG kvs.length) (put l (.dct (iF kvs k d)))
 | _=>bad
noncomputable def ir(a:D):D->D->M D
 | .tup ds,d=>xh a ds d
 | _,_=>bad
noncomputable def DC(fs:WI):D->M Str
 | .int j=>guard (decide (0<=j)) (opt fs[j.toNat]?)
 | _=>bad
noncomputable def bq(σ:Sg)(i:Nat):M D:=match σ[i]? with
 | some (some d)=>pure d
 | _=>bad
noncomputable def E.bA:E->Bool
 | .nl=>true
 | _=>false
section
variable(sub:Sub)(cf:Str->List D->M D)
mutual
noncomputable def ev:E->Sg->M D
 | .v i,σ=>bq σ i
 | .c d,_=>pure d
 | .bin op a b,σ=>do
  let x <- ev a σ
  let y <- ev b σ
  opD op x y
 | .cmp op a b,σ=>do
  let x <- ev a σ
  let y <- ev b σ
  cmD op x y
 | .chn o o' a b c,σ=>do
  let x <- ev a σ
  let y <- ev b σ
  match <- cmD o x y with
   | .bl true=>do
    let z <- ev c σ
    cmD o' y z
   | .bl false=>pure (.bl false)
   | _=>bad
 | .and a b,σ=>do
  match <- ev a σ with
   | .bl true=>ev b σ
   | .bl false=>pure (.bl false)
   | _=>bad
 | .or a b,σ=>do
  match <- ev a σ with
   | .bl true=>pure (.bl true)
   | .bl false=>ev b σ
   | _=>bad
 | .not a,σ=>do
  match <- ev a σ with
   | .bl b=>pure (.bl (!b))
   | _=>bad
 | .neg a,σ=>do
  match <- ev a σ with
   | .int i=>pure (.int (-i))
   | _=>bad
 | .isN a,σ=>do
  let x <- ev a σ
  pure (.bl (decide (x=.non)))
 | .notN a,σ=>do
  let x <- ev a σ
  pure (.bl (!decide (x=.non)))
 | .ite c a b,σ=>do
  if <- evT c σ then ev a σ else ev b σ
 | .tup es,σ=>do
  let ds <- evs es σ
  guard (fits ds.length) (pure (.tup ds))
 | .lst es,σ=>do
  let ds <- evs es σ
  guard (fits ds.length) (alloc (.lst ds))
 | .ix a i,σ=>do
  let x <- ev a σ
  let y <- ev i σ
  ixD x y
 | .sl a lo hi,σ=>do
  let x <- ev a σ
  let l <- (if lo.bA then pure none else do jd (<- ev lo σ))
  let h <- (if hi.bA then pure none else do jd (<- ev hi σ))
  slD x l h
 | .call f es,σ=>do
  let ds <- evs es σ
  cf f ds
 | .bi b es,σ=>do
  let ds <- evs es σ
  biD sub b ds
 | .me m o es,σ=>do
  let x <- ev o σ
  ly x (do
   let ds <- evs es σ
   meD m x ds)
 | .comp k elt t it ife,σ=>do
  let s <- evI it σ
  let ys <- quiet (bD s (λd=>do
   let σ' <- aQ t d (σ++List.replicate k none)
   if <- (if ife.bA then pure true else evT ife σ') then do
    let y <- ev elt σ'
    pure (some y)
   else pure none) s.its)
  guard (fits ys.length) (alloc (.lst ys))
 | .dget o es,σ=>do
  let x <- ev o σ
  let ds <- evs es σ
  guard (fits ds.length) (IQ x ds)
 | .dnew,_=>alloc (.dct [])
 | .dgv o i,σ=>do
  let x <- ev o σ
  let y <- ev i σ
  ie x y
 | .iDct _,_=>bad
 | .pop o,σ=>do
  let x <- ev o σ
  y_ x
 | .tm m o es,σ=>do
  let x <- ev o σ
  uh x λs=>do
   let ds <- evs es σ
   wF m s ds
 | .callL fs i es,σ=>do
  let k <- ev i σ
  let f <- DC fs k
  let ds <- evs es σ
  cf f ds
 | .nl,_=>bad
 | .cs _ _,_=>bad
 | .iSeq _,_=>bad
 | .iEnum _,_=>bad
 | .iRng _,_=>bad
 | .iZip _,_=>bad
noncomputable def evT:E->Sg->M Bool
 | .and a b,σ=>do
  if <- evT a σ then evT b σ else pure false
 | .or a b,σ=>do
  if <- evT a σ then pure true else evT b σ
 | .not a,σ=>do
  let b <- evT a σ
  pure (!b)
 | .v i,σ=>bq σ i>>=truth
 | .c d,_=>pure d>>=truth
 | .cmp op a b,σ=>do
  let x <- ev a σ
  let y <- ev b σ
  truth (<- cmD op x y)
 | .chn o o' a b c,σ=>do
  let x <- ev a σ
  let y <- ev b σ
  if <- truth (<- cmD o x y) then do
   let z <- ev c σ
   truth (<- cmD o' y z)
  else pure false
 | .isN a,σ=>do
  let x <- ev a σ
  pure (decide (x=.non))
 | .notN a,σ=>do
  let x <- ev a σ
  pure (!decide (x=.non))
 | .ix a i,σ=>(do
  let x <- ev a σ
  let y <- ev i σ
  ixD x y)>>=truth
 | .call f es,σ=>(do
  let ds <- evs es σ
  cf f ds)>>=truth
 | .bi b es,σ=>(do
  let ds <- evs es σ
  biD sub b ds)>>=truth
 | .tm m o es,σ=>(do
  let x <- ev o σ
  uh x λs=>do
   let ds <- evs es σ
   wF m s ds)>>=truth
 | _,_=>bad
noncomputable def evs:E->Sg->M (List D)
 | .nl,_=>pure []
 | .cs a r,σ=>do
  let x <- ev a σ
  let xs <- evs r σ
  pure (x::xs)
 | _,_=>bad
noncomputable def evI:E->Sg->M Src
 | .iSeq a,σ=>do srcOf (<- ev a σ)
 | .iEnum a,σ=>do
  let s <- srcOf (<- ev a σ)
  pure { s with its:=num 0 s.its }
 | .iRng es,σ=>do
  let is <- opt (e9 (<- evs es σ))
  pure ⟨is.map .int,none,[]⟩
 | .iZip es,σ=>do fO (<- evs es σ)
 | .iDct a,σ=>do iN (<- ev a σ)
 | _,_=>bad
end
end
set_option genInjectivity false in
inductive S where
 | ret (e:E)|retN|set (t:Tg) (e:E)|setIx (o i e:E)|dset (o es e:E)|dsv (o i e:E)|ex (e:E)|ite (c:E) (a b:S)|forS (t:Tg) (it:E) (b:S)|whl (c:E) (b:S)|rais (c:Str)|tryR (f:Str) (es:E) (c:Str) (d:D)|tryE (f:Str) (es:E) (c:Str) (d:D)|tryK (f:Str) (es:E) (cs:WI) (j:Nat)|bot
 | skip|seq (a b:S)|brk|cont
set_option genInjectivity false in
inductive Fl where
 | nx (σ:Sg)|rt (d:D)|bk (σ:Sg)|ct (σ:Sg)
noncomputable def forL(s:Src)(f:D->Sg->M Fl):List D->Sg->M Fl
 | [],σ=>do
  aF s
  pure (.nx σ)
 | d::ds,σ=>do
  aF s
  match <- f d σ with
   | .nx σ'=>forL s f ds σ'
   | .ct σ'=>forL s f ds σ'
   | .bk σ'=>pure (.nx σ')
   | .rt d=>pure (.rt d)
noncomputable def m9(c:Sg->M Bool)(f:Sg->M Fl):Nat->Sg->M Fl
 | 0,_=>bad
 | n+1,σ=>do
  if <- c σ then do
   match <- f σ with
    | .nx σ'=>m9 c f n σ'
    | .ct σ'=>m9 c f n σ'
    | .bk σ'=>pure (.nx σ')
    | .rt d=>pure (.rt d)
  else pure (.nx σ)
noncomputable def Jo(c:Str)(d:D)(m:M D):M D:=λS=>match m S with
 | .ok v S'=>.ok v S'
 | .exc c' S'=>if c'=c then .ok d S' else .bad
 | .bad=>.bad
noncomputable def CD(c:Str)(d:D)(σ:Sg)(m:M D):M Fl:=λS=>match m S with
 | .ok _ S'=>.ok (.nx σ) S'
 | .exc c' S'=>if c'=c then .ok (.rt d) S' else .bad
 | .bad=>.bad
noncomputable def rJ:List Str->Str->Option Nat
 | [],_=>none
 | y::r,x=>if y=x then some 0 else(rJ r x).map (· + 1)
noncomputable def Eg(cs:WI)(kd:Option (Option D))(σ:Sg)(m:M D):M Fl:=λS=>match m S with
 | .ok _ S'=>.ok (.nx σ) S'
 | .exc c S'=>match rJ cs c,kd with
  | some k,some (some (.int n))=>.ok (.rt (.bl (decide ((k:Int)=n)))) S'
  | _,_=>.bad
 | .bad=>.bad
noncomputable def Bw:Nat:=1000000
section
variable(sub:Sub)(cf:Str->List D->M D)
noncomputable def exec:S->Sg->M Fl
 | .ret e,σ=>do
  let d <- ev sub cf e σ
  pure (.rt d)
 | .retN,_=>pure (.rt .non)
 | .set t e,σ=>do
  let d <- ev sub cf e σ
  let σ' <- aQ t d σ
  pure (.nx σ')
 | .setIx o i e,σ=>do
  let d <- ev sub cf e σ
  let a <- ev sub cf o σ
  let k <- ev sub cf i σ
  let _ <- gv a k d
  pure (.nx σ)
 | .dset o es e,σ=>do
  let d <- ev sub cf e σ
  let a <- ev sub cf o σ
  let ks <- evs sub cf es σ
  let _ <- guard (fits ks.length) (xh a ks d)
  pure (.nx σ)
 | .dsv o i e,σ=>do
  let d <- ev sub cf e σ
  let a <- ev sub cf o σ
  let k <- ev sub cf i σ
  let _ <- ir a k d
  pure (.nx σ)
 | .ex e,σ=>do
  let _ <- ev sub cf e σ
  pure (.nx σ)
 | .ite c a b,σ=>do
  if <- evT sub cf c σ then exec a σ else exec b σ
 | .forS t it b,σ=>do
  let s <- evI sub cf it σ
  quiet (forL s (λd σ=>do
   let σ' <- aQ t d σ
   exec b σ') s.its σ)
 | .whl c b,σ=>quiet (m9 (evT sub cf c) (exec b) Bw σ)
 | .rais c,_=>λ_=>.bad
 | .tryR f es c d,σ=>do
  let ds <- quiet (evs sub cf es σ)
  let v <- Jo c d (cf f ds)
  pure (.rt v)
 | .tryE f es c d,σ=>do
  let ds <- quiet (evs sub cf es σ)
  CD c d σ (cf f ds)
 | .tryK f es cs j,σ=>do
  let ds <- quiet (evs sub cf es σ)
  Eg cs σ[j]? σ (cf f ds)
 | .bot,_=>bad
 | .skip,σ=>pure (.nx σ)
 | .seq a b,σ=>do
  match <- exec a σ with
   | .nx σ'=>exec b σ'
   | f=>pure f
 | .brk,σ=>pure (.bk σ)
 | .cont,σ=>pure (.ct σ)
end
mutual
noncomputable def D.low(n:Nat):D->Bool
 | .tup ds=>D.lows n ds
 | .fro ds=>D.lows n ds
 | .loc l=>decide (l<n)
 | _=>true
noncomputable def D.lows(n:Nat):List D->Bool
 | []=>true
 | d::r=>D.low n d&&D.lows n r
end
noncomputable def Cell.low(n:Nat):Cell->Bool
 | .lst ds=>D.lows n ds
 | .dct _=>false
 | .fdc _=>false
noncomputable def leave(S:af)(d:D)(S':af):Res D :=
 if S'.take S.length=S then
  if d.low S.length then .ok d S
  else match d with
   | .loc l=>match S'[l]? with
    | some c=>if c.low S.length then .ok (.loc S.length) (S++[c]) else .ok d S'
    | none=>.ok d S'
   | _=>.ok d S'
 else .ok d S'
set_option genInjectivity false in
structure Fn where
 par:Nat
 names:Nat
 body:S
abbrev Prg:=List (Str×Fn)
noncomputable def iI(S:af):Res Fl->Res D
 | .ok (.rt d) S'=>leave S d S'
 | .ok (.nx _) S'=>leave S .non S'
 | .ok (.bk _) _=>.bad
 | .ok (.ct _) _=>.bad
 | .exc c S'=>if S'.take S.length=S then .exc c S else .exc c S'
 | .bad=>.bad
noncomputable def frame(F:Fn)(ds:WP):Sg:=ds.map some++List.replicate (F.names-ds.length) none
noncomputable def ah(sub:Sub)(P:Prg):Nat->Str->List D->M D
 | 0,_,_=>bad
 | n+1,f,ds=>λS=>match P.lookup f with
  | none=>.bad
  | some F=>if ds.length=F.par then iI S (exec sub (ah sub P n) F.body (frame F ds) S) else .bad
theorem uD{sub:Sub}{P:Prg}{n:Nat}{f:Str}{ds:WP}{S:af}{F:Fn}(h:P.lookup f=some F)(hl:ds.length=F.par):ah sub P (n+1) f ds S=iI S (exec sub (ah sub P n) F.body (frame F ds) S):=by
 show(match P.lookup f with|none=>Res.bad|some F=>if ds.length=F.par then iI S (exec sub (ah sub P n) F.body (frame F ds) S) else .bad)=_;rw[h]; simp only[hl,Xx]
theorem F0{sub:Sub}{P:Prg}{n:Nat}{f:Str}{ds:WP}{S:af}{F:Fn}(h:P.lookup f=some F)(hl:ds.length≠F.par):ah sub P (n+1) f ds S=.bad:=by
 show(match P.lookup f with|none=>Res.bad|some F=>if ds.length=F.par then iI S (exec sub (ah sub P n) F.body (frame F ds) S) else .bad)=_;rw[h]; simp only[hl,ZT]
end EV

namespace EV
open PySem
variable{α β:Type}
noncomputable def Res.bind(r:Res α)(f:α->af->Res β):Res β:=match r with
 | .ok a S=>f a S
 | .exc c S=>.exc c S
 | .bad=>.bad
@[simp]theorem Res.aj(a:α)(S:af)(f:α->af->Res β):(Res.ok a S).bind f=f a S:=id rfl
@[simp]theorem Res.cY(c:Str)(S:af)(f:α->af->Res β):(Res.exc c S:Res α).bind f=.exc c S:=id rfl
@[simp]theorem Res.aV(f:α->af->Res β):(Res.bad:Res α).bind f=.bad:=id rfl
theorem az(m:M α)(f:α->M β)(S:af):(m>>=f) S=(m S).bind λa S'=>f a S':=by
 rw[cT]; cases m S<;>rfl
@[simp]theorem zp(a:α)(S:af):(pure a:M α) S=.ok a S:=id rfl
@[simp]theorem kB(b:Bool)(m:M α)(S:af):guard b m S=if b=true then m S else .bad:=by cases b<;>rfl
@[simp]theorem dP(a:α)(S:af):opt (some a) S=.ok a S:=id rfl
@[simp]theorem qG(c:Cell)(S:af):alloc c S=.ok (.loc S.length) (S++[c]):=id rfl
theorem FU(m:M α)(S:af):quiet m S=match m S with|.ok a S'=>.ok a S'|_=>.bad:=rfl
theorem gC{m:M α}{S S':af}{a:α}(h:m S=.ok a S'):quiet m S=.ok a S':=by rw[FU,h]
section
variable(sub:Sub)(cf:Str->List D->M D)(σ:Sg)(S:af)
@[simp]theorem Ji(i:Nat):ev sub cf (.v i) σ S=bq σ i S:=id rfl
@[simp]theorem F3(o:Op2)(a b:E):ev sub cf (.bin o a b) σ S=(ev sub cf a σ S).bind λx S1=>(ev sub cf b σ S1).bind λy S2=>opD o x y S2:=by
 show(ev sub cf a σ>>=λx=>ev sub cf b σ>>=λy=>opD o x y) S=_;simp only[az]
@[simp]theorem u0(o:Cm)(a b:E):ev sub cf (.cmp o a b) σ S=(ev sub cf a σ S).bind λx S1=>(ev sub cf b σ S1).bind λy S2=>cmD o x y S2:=by
 show(ev sub cf a σ>>=λx=>ev sub cf b σ>>=λy=>cmD o x y) S=_;simp only[az]
@[simp]theorem G5(o o':Cm)(a b c:E):ev sub cf (.chn o o' a b c) σ S=(ev sub cf a σ S).bind λx S1=>(ev sub cf b σ S1).bind λy S2=>(cmD o x y S2).bind λr S3=>match r with
  | .bl true=>(ev sub cf c σ S3).bind λz S4=>cmD o' y z S4
  | .bl false=>.ok (.bl false) S3
  | _=>.bad:=by
 show(ev sub cf a σ>>=λx=>ev sub cf b σ>>=λy=>cmD o x y>>=λr=>match r with|.bl true=>ev sub cf c σ>>=λz=>cmD o' y z|.bl false=>pure (D.bl false)|_=>bad) S=_;simp only[az];congr 1; funext x S1; congr 1; funext y S2; congr 1; funext r S3;cases r<;>first|rfl|(rename_i b; cases b<;>simp[az])
@[simp]theorem Fv(a b:E):ev sub cf (.and a b) σ S=(ev sub cf a σ S).bind λr S1=>match r with|.bl true=>ev sub cf b σ S1|.bl false=>.ok (.bl false) S1|_=>.bad:=by
 show(ev sub cf a σ>>=λr=>match r with|.bl true=>ev sub cf b σ|.bl false=>pure (D.bl false)|_=>bad) S=_;rw[az]; congr 1; funext r S1;cases r<;>first|rfl|(rename_i b; cases b<;>rfl)
@[simp]theorem xF(a:E):ev sub cf (.neg a) σ S=(ev sub cf a σ S).bind λr S1=>match r with|.int i=>.ok (.int (-i)) S1|_=>.bad:=by
 show(ev sub cf a σ>>=λr=>match r with|.int i=>pure (D.int (-i))|_=>bad) S=_;rw[az]; congr 1; funext r S1; cases r<;>rfl
@[simp]theorem qd(c a b:E):ev sub cf (.ite c a b) σ S=(evT sub cf c σ S).bind λk S1=>if k=true then ev sub cf a σ S1 else ev sub cf b σ S1:=by
 show(evT sub cf c σ>>=λk=>if k=true then ev sub cf a σ else ev sub cf b σ) S=_;rw[az]; congr 1; funext k S1; cases k<;>rfl
@[simp]theorem Ac:evs sub cf .nl σ S=.ok [] S:=id rfl
@[simp]theorem ue(a r:E):evs sub cf (.cs a r) σ S=(ev sub cf a σ S).bind λx S1=>(evs sub cf r σ S1).bind λxs S2=>.ok (x::xs) S2:=by
 show(ev sub cf a σ>>=λx=>evs sub cf r σ>>=λxs=>pure (x::xs)) S=_;simp only[az]; rfl
@[simp]theorem Jb(es:E):ev sub cf (.tup es) σ S=(evs sub cf es σ S).bind λds S1=>if fits ds.length=true then .ok (.tup ds) S1 else .bad:=by
 show(evs sub cf es σ>>=λds=>guard (fits ds.length) (pure (D.tup ds))) S=_;rw[az]; simp only[kB,zp]
@[simp]theorem GA(es:E):ev sub cf (.lst es) σ S=(evs sub cf es σ S).bind λds S1=>if fits ds.length=true then .ok (.loc S1.length) (S1++[.lst ds]) else .bad:=by
 show(evs sub cf es σ>>=λds=>guard (fits ds.length) (alloc (.lst ds))) S=_;rw[az]; simp only[kB,qG]
@[simp]theorem Fb(a i:E):ev sub cf (.ix a i) σ S=(ev sub cf a σ S).bind λx S1=>(ev sub cf i σ S1).bind λy S2=>ixD x y S2:=by
 show(ev sub cf a σ>>=λx=>ev sub cf i σ>>=λy=>ixD x y) S=_;simp only[az]
noncomputable def iT(e:E)(S:af):Res (Option Int):=if e.bA=true then .ok none S else(ev sub cf e σ S).bind λd S1=>jd d S1
@[simp]theorem DV(a lo hi:E):ev sub cf (.sl a lo hi) σ S=(ev sub cf a σ S).bind λx S1=>(iT sub cf σ lo S1).bind λl S2=>(iT sub cf σ hi S2).bind λh S3=>slD x l h S3:=by
 show(ev sub cf a σ>>=λx=>(if lo.bA=true then pure none else ev sub cf lo σ>>=jd)>>=λl=>(if hi.bA=true then pure none else ev sub cf hi σ>>=jd)>>=λh=>slD x l h) S=_;simp only[az];congr 1; funext x S1;unfold iT;cases lo.bA<;>cases hi.bA<;>simp[az]
@[simp]theorem E3(f:Str)(es:E):ev sub cf (.call f es) σ S=(evs sub cf es σ S).bind λds S1=>cf f ds S1:=by
 show(evs sub cf es σ>>=λds=>cf f ds) S=_;rw[az]
@[simp]theorem zR(b:Bi)(es:E):ev sub cf (.bi b es) σ S=(evs sub cf es σ S).bind λds S1=>biD sub b ds S1:=by
 show(evs sub cf es σ>>=λds=>biD sub b ds) S=_;rw[az]
@[simp]theorem vQ(m:Me)(o es:E):ev sub cf (.me m o es) σ S=(ev sub cf o σ S).bind λx S1=>if x.cQ S1=true then(evs sub cf es σ S1).bind λds S2=>meD m x ds S2 else .bad:=by
 show(ev sub cf o σ>>=λx=>ly x (evs sub cf es σ>>=λds=>meD m x ds)) S=_;rw[az]; congr 1; funext x S1;show guard (x.cQ S1) (evs sub cf es σ>>=λds=>meD m x ds) S1=_;rw[kB,az]
theorem jn(k:Nat)(el:E)(t:Tg)(it tt:E):ev sub cf (.comp k el t it tt) σ S=(evI sub cf it σ S).bind λs S1=>(quiet (bD s (λd=>aQ t d (σ++List.replicate k none)>>=λσ'=>(if tt.bA=true then pure true else evT sub cf tt σ')>>=λb=>if b=true then ev sub cf el σ'>>=λy=>pure (some y) else pure none) s.its) S1).bind λys S2=>if fits ys.length=true then .ok (.loc S2.length) (S2++[.lst ys]) else .bad:=by
 show(evI sub cf it σ>>=λs=>quiet (bD s (λd=>aQ t d (σ++List.replicate k none)>>=λσ'=>(if tt.bA=true then pure true else evT sub cf tt σ')>>=λb=>if b=true then ev sub cf el σ'>>=λy=>pure (some y) else pure none) s.its)>>=λys=>guard (fits ys.length) (alloc (.lst ys))) S=_;simp only[az,kB,qG]
@[simp]theorem sS(a b:E):evT sub cf (.and a b) σ S=(evT sub cf a σ S).bind λk S1=>if k=true then evT sub cf b σ S1 else .ok false S1:=by
 show(evT sub cf a σ>>=λk=>if k=true then evT sub cf b σ else pure false) S=_;rw[az]; congr 1; funext k S1; cases k<;>rfl
@[simp]theorem v9(a b:E):evT sub cf (.or a b) σ S=(evT sub cf a σ S).bind λk S1=>if k=true then .ok true S1 else evT sub cf b σ S1:=by
 show(evT sub cf a σ>>=λk=>if k=true then pure true else evT sub cf b σ) S=_;rw[az]; congr 1; funext k S1; cases k<;>rfl
@[simp]theorem za(a:E):evT sub cf (.not a) σ S=(evT sub cf a σ S).bind λk S1=>.ok (!k) S1:=by
 show(evT sub cf a σ>>=λk=>pure (!k)) S=_;rw[az]; rfl
@[simp]theorem yG(o:Cm)(a b:E):evT sub cf (.cmp o a b) σ S=(ev sub cf a σ S).bind λx S1=>(ev sub cf b σ S1).bind λy S2=>(cmD o x y S2).bind λr S3=>truth r S3:=by
 show(ev sub cf a σ>>=λx=>ev sub cf b σ>>=λy=>cmD o x y>>=λr=>truth r) S=_;simp only[az]
@[simp]theorem JB(o o':Cm)(a b c:E):evT sub cf (.chn o o' a b c) σ S=(ev sub cf a σ S).bind λx S1=>(ev sub cf b σ S1).bind λy S2=>(cmD o x y S2).bind λr S3=>(truth r S3).bind λk S4=>if k=true then(ev sub cf c σ S4).bind λz S5=>(cmD o' y z S5).bind λr S6=>truth r S6 else .ok false S4:=by
 show(ev sub cf a σ>>=λx=>ev sub cf b σ>>=λy=>cmD o x y>>=λr=>truth r>>=λk=>if k=true then ev sub cf c σ>>=λz=>cmD o' y z>>=λr=>truth r else pure false) S=_;simp only[az];congr 1; funext x S1; congr 1; funext y S2; congr 1; funext r S3; congr 1; funext k S4;cases k<;>simp[az]
@[simp]theorem FD(a:E):evT sub cf (.isN a) σ S=(ev sub cf a σ S).bind λr S1=>.ok (decide (r=.non)) S1:=by
 show(ev sub cf a σ>>=λr=>pure (decide (r=.non))) S=_;rw[az]; rfl
@[simp]theorem Iv(a:E):evT sub cf (.notN a) σ S=(ev sub cf a σ S).bind λr S1=>.ok (!decide (r=.non)) S1:=by
 show(ev sub cf a σ>>=λr=>pure (!decide (r=.non))) S=_;rw[az]; rfl
@[simp]theorem Cd(f:Str)(es:E):evT sub cf (.call f es) σ S=(ev sub cf (.call f es) σ S).bind λd S1=>truth d S1:=by
 show(ev sub cf (.call f es) σ>>=truth) S=_;rw[az]
@[simp]theorem yT(b:Bi)(es:E):evT sub cf (.bi b es) σ S=(ev sub cf (.bi b es) σ S).bind λd S1=>truth d S1:=by
 show(ev sub cf (.bi b es) σ>>=truth) S=_;rw[az]
@[simp]theorem E5(a:E):evI sub cf (.iSeq a) σ S=(ev sub cf a σ S).bind λd S1=>srcOf d S1:=by
 show(ev sub cf a σ>>=srcOf) S=_;rw[az]
@[simp]theorem uw(a:E):evI sub cf (.iZip a) σ S=(evs sub cf a σ S).bind λds S1=>fO ds S1:=by
 show(evs sub cf a σ>>=λds=>fO ds) S=_;rw[cT];cases evs sub cf a σ S<;>rfl
@[simp]theorem qh(a:E):evI sub cf (.iEnum a) σ S=(ev sub cf a σ S).bind λd S1=>(srcOf d S1).bind λs S2=>.ok { s with its:=num 0 s.its } S2:=by
 show(ev sub cf a σ>>=λd=>srcOf d>>=λs=>pure { s with its:=num 0 s.its }) S=_;simp only[az]; rfl
@[simp]theorem D_(es:E):evI sub cf (.iRng es) σ S=(evs sub cf es σ S).bind λds S1=>(opt (e9 ds) S1).bind λis S2=>.ok ⟨is.map .int,none,[]⟩ S2:=by
 show(evs sub cf es σ>>=λds=>opt (e9 ds)>>=λis=>pure (⟨is.map .int,none,[]⟩:Src)) S=_;simp only[az]; rfl
@[simp]theorem yF(e:E):exec sub cf (.ret e) σ S=(ev sub cf e σ S).bind λd S1=>.ok (.rt d) S1:=by
 show(ev sub cf e σ>>=λd=>pure (Fl.rt d)) S=_;rw[az]; rfl
@[simp]theorem tO(t:Tg)(e:E):exec sub cf (.set t e) σ S=(ev sub cf e σ S).bind λd S1=>(aQ t d σ S1).bind λσ' S2=>.ok (.nx σ') S2:=by
 show(ev sub cf e σ>>=λd=>aQ t d σ>>=λσ'=>pure (Fl.nx σ')) S=_;simp only[az]; rfl
@[simp]theorem tL(e:E):exec sub cf (.ex e) σ S=(ev sub cf e σ S).bind λ_ S1=>.ok (.nx σ) S1:=by
 show(ev sub cf e σ>>=λ_=>pure (Fl.nx σ)) S=_;rw[az]; rfl
@[simp]theorem vz(c:E)(a b:EV.S):exec sub cf (.ite c a b) σ S=(evT sub cf c σ S).bind λk S1=>if k=true then exec sub cf a σ S1 else exec sub cf b σ S1:=by
 show(evT sub cf c σ>>=λk=>if k=true then exec sub cf a σ else exec sub cf b σ) S=_;rw[az]; congr 1; funext k S1; cases k<;>rfl
theorem Ex(t:Tg)(it:E)(b:EV.S):exec sub cf (.forS t it b) σ S=(evI sub cf it σ>>=λs=>quiet (forL s (λd σ=>aQ t d σ>>=λσ'=>exec sub cf b σ') s.its σ)) S:=rfl
noncomputable def jN(b:EV.S)(r:Res Fl):Res Fl:=r.bind λf S1=>match f with|.nx σ'=>exec sub cf b σ' S1|f=>.ok f S1
@[simp]theorem HZ(b:EV.S)(σ':Sg)(S1:af):jN sub cf b (.ok (.nx σ') S1)=exec sub cf b σ' S1:=id rfl
@[simp]theorem Fc(b:EV.S)(d:D)(S1:af):jN sub cf b (.ok (.rt d) S1)=.ok (.rt d) S1:=id rfl
@[simp]theorem wj(a b:EV.S):exec sub cf (.seq a b) σ S=jN sub cf b (exec sub cf a σ S):=by
 show(exec sub cf a σ>>=λf=>match f with|.nx σ'=>exec sub cf b σ'|f=>pure f) S=_;rw[az]; unfold jN; congr 1; funext f S1; cases f<;>rfl
end
theorem GS{sub:Sub}{cf:Str->List D->M D}{σ σ':Sg}{S S':af}{a r:EV.S}(h:exec sub cf a σ S=.ok (.nx σ') S'):exec sub cf (.seq a r) σ S=exec sub cf r σ' S':=by
 rw[wj,h,HZ]
theorem Ds(σ:Sg)(i:Nat)(S:af):bq σ i S=match σ[i]? with|some (some d)=>.ok d S|_=>.bad:=by
 unfold bq
 cases σ[i]? with
 | none=>rfl
 | some x=>cases x<;>rfl
@[simp]theorem Jy(d:D)(σ:Sg)(S:af):bq (some d::σ) 0 S=.ok d S:=id rfl
@[simp]theorem JE(x:Option D)(σ:Sg)(i:Nat)(S:af):bq (x::σ) (i+1) S=bq σ i S:=id rfl
@[simp]theorem iW(i:Nat)(d:D)(σ:Sg)(S:af):aQ (.one i) d σ S=.ok (σ.set i (some d)) S:=id rfl
@[simp]theorem nN(is:List Nat)(ds:WP)(σ:Sg)(S:af):aQ (.many is) (.tup ds) σ S=if ds.length=is.length then .ok (cj is ds σ) S else .bad:=by
 show guard (decide (ds.length=is.length)) (pure (cj is ds σ)) S=_;simp
@[simp]theorem cg(i j:Int)(S:af):opD .add (.int i) (.int j) S=.ok (.int (i+j)) S:=id rfl
@[simp]theorem eY(i j:Int)(S:af):opD .sub (.int i) (.int j) S=.ok (.int (i-j)) S:=id rfl
@[simp]theorem DK(i j:Int)(S:af):opD .mul (.int i) (.int j) S=if(small i||small j)=true then .ok (.int (i*j)) S else .bad:=by
 show guard _ _ S=_;simp
@[simp]theorem yw(i j:Int)(S:af):opD .fdiv (.int i) (.int j) S=if(decide (0<j)&&decide (j<1073741824))=true then .ok (.int (i/j)) S else .bad:=by
 show guard _ _ S=_;simp
theorem JJ(i j:Int)(S:af):opD .pow (.int i) (.int j) S=if(decide (0<=j)&&decide (j<=1000)&&decide (i.natAbs<2^64))=true then .ok (.int (i^j.toNat)) S else .bad:=by
 show guard _ _ S=_;simp
@[simp]theorem yY(i j:Int)(S:af):opD .mod (.int i) (.int j) S=if 0<j then .ok (.int (i%j)) S else .bad:=by
 show guard _ _ S=_;simp
@[simp]theorem oZ{n:Nat}(h:n<=1000):fits n=true:=Zi (by unfold aM; omega)
@[simp]theorem jQ(i j:Int)(S:af):cmD .lt (.int i) (.int j) S=.ok (.bl (decide (i<j))) S:=id rfl
@[simp]theorem jY(i j:Int)(S:af):cmD .le (.int i) (.int j) S=.ok (.bl (decide (i<=j))) S:=id rfl
@[simp]theorem jq(i j:Int)(S:af):cmD .gt (.int i) (.int j) S=.ok (.bl (decide (j<i))) S:=id rfl
@[simp]theorem nM(i j:Int)(S:af):cmD .ge (.int i) (.int j) S=.ok (.bl (decide (j<=i))) S:=id rfl
theorem pJ(x y:D)(S:af):cmD .eq x y S=match eqD deep S x y with|some k=>.ok (.bl k) S|none=>.bad:=by
 show(eqM x y>>=λb=>pure (D.bl b)) S=_;rw[az];unfold eqM;cases eqD deep S x y<;>rfl
@[simp]theorem fX(i j:Int)(S:af):cmD .eq (.int i) (.int j) S=.ok (.bl (i==j)) S:=id rfl
@[simp]theorem lH(i j:Str)(S:af):cmD .eq (.str i) (.str j) S=.ok (.bl (i==j)) S:=id rfl
@[simp]theorem Hj(i j:Int)(S:af):cmD .ne (.int i) (.int j) S=.ok (.bl (!(i==j))) S:=id rfl
theorem fH{l:Nat}{ds:WP}{S:af}(h:S[l]?=some (.lst ds)):items (.loc l) S=.ok ds S:=by
 show(match listAt S l with|some ds=>Res.ok ds S|none=>.bad)=_;unfold listAt; rw[h]
theorem nq(a:D)(j:Int)(S:af):ixD a (.int j) S=(items a S).bind λxs S1=>opt (atI xs j) S1:=by
 show(items a>>=λxs=>opt (atI xs j)) S=_;rw[az]
@[simp]theorem AQ(xs:WP)(j:Int)(S:af):ixD (.tup xs) (.int j) S=opt (atI xs j) S:=by rw[nq]; rfl
@[simp]theorem Cr(xs:WP)(j:Int)(S:af):ixD (.fro xs) (.int j) S=opt (atI xs j) S:=by rw[nq]; rfl
theorem zg{l:Nat}{xs:WP}{j:Int}{S:af}(h:S[l]?=some (.lst xs)):ixD (.loc l) (.int j) S=opt (atI xs j) S:=by rw[nq,fH h]; rfl
theorem oS{xs:WP}{j:Nat}:atI xs (j:Int)=xs[j]?:=by
 unfold atI ixN;rw[Zf (by omega)]
 by_cases h:j<xs.length
 ·rw[Zf (by omega)]; simp
 ·rw[Zg (by omega)]; rw[XS (by omega)]; rfl
@[simp]theorem lW(xs:WP):atI xs 0=xs[0]?:=oS (j:=0)
@[simp]theorem nZ(sub:Sub)(d:D)(S:af):biD sub .len [d] S=(items d S).bind λds S1=>.ok (.int ds.length) S1:=by
 show(items d>>=λds=>pure (D.int ds.length)) S=_;rw[az]; rfl
@[simp]theorem F_(sub:Sub)(t:Ty)(d:D)(S:af):biD sub (.inst t) [d] S=match cF sub S d t with|some k=>.ok (.bl k) S|none=>.bad:=id rfl
@[simp]theorem Cu(sub:Sub)(d:D)(S:af):biD sub .tuple [d] S=(items d S).bind λds S1=>.ok (.tup ds) S1:=by
 show(items d>>=λds=>pure (D.tup ds)) S=_;rw[az]; rfl
theorem ES(sub:Sub)(d:D)(S:af):biD sub .all [d] S=(items d S).bind λds S1=>(opt (dZ ds) S1).bind λbs S2=>.ok (.bl (bs.all id)) S2:=by
 show(items d>>=λds=>opt (dZ ds)>>=λbs=>pure (D.bl (bs.all id))) S=_;simp only[az]; rfl
theorem Al(sub:Sub)(d:D)(S:af):biD sub .sum [d] S=(items d S).bind λds S1=>(opt (allInts ds) S1).bind λis S2=>.ok (.int is.sum) S2:=by
 show(items d>>=λds=>opt (allInts ds)>>=λis=>pure (D.int is.sum)) S=_;simp only[az]; rfl
theorem Jw(sub:Sub)(d:D)(S:af):biD sub .max [d] S=(items d S).bind λds S1=>(opt (allInts ds) S1).bind λis S2=>oY is S2:=by
 show(items d>>=λds=>opt (allInts ds)>>=λis=>oY is) S=_;simp only[az]
theorem mJ{l:Nat}{ds:WP}{d:D}{S:af}(h:S[l]?=some (.lst ds))(hz:ds.length<aM):meD .append (.loc l) [d] S=.ok .non (S.set l (.lst (ds++[d]))):=by
 show aU l (λds=>guard (fG ds.length) (put l (.lst (ds++[d])))) S=_;unfold aU;rw[h];simp[fG,hz,put]
theorem vf{l k:Nat}{ds es:WP}{S:af}(h:S[l]?=some (.lst ds))(h2:S[k]?=some (.lst es))(hz:ds.length+es.length<=aM):meD .extend (.loc l) [.loc k] S=.ok .non (S.set l (.lst (ds++es))):=by
 show aU l (λds=>aU k λes=>guard (fits (ds.length+es.length)) (put l (.lst (ds++es)))) S=_;unfold aU;rw[h];simp only;rw[h2];simp[fits,hz,put]
@[simp]theorem eB(S T:af)(c:Cell):(S++c::T)[S.length]?=some c:=by simp
@[simp]theorem Dp(S T:af)(k:Nat):(S++T)[S.length+k]?=T[k]?:=by
 rw[ZN (by omega)]; congr 1; omega
@[simp]theorem iR(S T:af)(c d:Cell):(S++c::T).set S.length d=S++d::T:=by simp
@[simp]theorem bB(S T:af):(S++T).take S.length=S:=by simp
theorem rq{S T:af}{xs:WP}{d:D}(h:xs.length<=1000000):meD .append (.loc S.length) [d] (S++.lst xs::T)=.ok .non (S++.lst (xs++[d])::T):=by
 rw[mJ (ds:=xs) (eB S T _) (by unfold aM; omega),iR]
theorem nG{l:Option Nat}{raw:WP}{S:af}(h:l=none\/∃k,l=some k/\S[k]?=some (.lst raw)):stl l raw S=.ok () S:=by
 unfold stl;rcases h with h|⟨l,h,h2⟩
 ·rw[h]; rfl
 ·rw[h]; unfold listAt; simp[h2]
theorem d_{its raw:WP}{l:Option Nat}{S:af}(h:l=none\/∃k,l=some k/\S[k]?=some (.lst raw)):aF ⟨its,l,raw⟩ S=.ok () S:=(aj (nG h)).trans rfl
theorem kR(s:Src)(f:D->Sg->M Fl)(σ:Sg)(S:af):forL s f [] σ S=(aF s S).bind λ_ S1=>.ok (.nx σ) S1:=by
 show(aF s>>=λ_=>pure (Fl.nx σ)) S=_;rw[az]; rfl
theorem jf(s:Src)(f:D->Sg->M Fl)(d:D)(ds:WP)(σ:Sg)(S:af):forL s f (d::ds) σ S=(aF s S).bind λ_ S1=>(f d σ S1).bind λfl S2=>match fl with
  | .nx σ'=>forL s f ds σ' S2|.ct σ'=>forL s f ds σ' S2|.bk σ'=>.ok (.nx σ') S2|.rt d=>.ok (.rt d) S2:=by
 show(aF s>>=λ_=>f d σ>>=λfl=>match fl with|.nx σ'=>forL s f ds σ'|.ct σ'=>forL s f ds σ'|.bk σ'=>pure (Fl.nx σ')|.rt d=>pure (Fl.rt d)) S=_;simp only[az];congr 1; funext _ S1; congr 1; funext fl S2; cases fl<;>rfl
theorem lI(s:Src)(f:D->M (Option D))(S:af):bD s f [] S=(aF s S).bind λ_ S1=>.ok [] S1:=by
 show(aF s>>=λ_=>pure []) S=_;rw[az]; rfl
theorem jH(s:Src)(f:D->M (Option D))(d:D)(ds:WP)(S:af):bD s f (d::ds) S=(aF s S).bind λ_ S1=>(f d S1).bind λy S2=>(bD s f ds S2).bind λys S3=>.ok (match y with|some y=>y::ys|none=>ys) S3:=by
 show(aF s>>=λ_=>f d>>=λy=>bD s f ds>>=λys=>pure (match y with|some y=>y::ys|none=>ys)) S=_;simp only[az]; rfl
theorem nE{s:Src}{f:D->M (Option D)}{g:D->Option D}{S:af}(hs:aF s S=.ok () S):∀{its:WP},(∀d∈its,f d S=.ok (g d) S)->bD s f its S=.ok (its.filterMap g) S
 | [],_=>by rw[lI,hs]; rfl
 | d::ds,h=>by
  rw[jH,hs];simp only[Res.aj];rw[h d Zk];simp only[Res.aj];rw[nE hs λe he=>h e (Zm _ he)];simp only[Res.aj,Xu];cases g d<;>rfl
theorem zD(S S':af)(d:D):iI S (.ok (.rt d) S')=leave S d S':=rfl
mutual
theorem qC:∀{d:D} {n m:Nat},n<=m->d.low n=true->d.low m=true
 | .tup ds,n,m,h,q=>jc h q
 | .fro ds,n,m,h,q=>jc h q
 | .loc l,n,m,h,q=>Zi (ZM (Zs q) h)
 | .non,_,_,_,_=>rfl
 | .bl _,_,_,_,_=>rfl
 | .int _,_,_,_,_=>rfl
 | .str _,_,_,_,_=>rfl
 | .exn _,_,_,_,_=>rfl
theorem jc:∀{ds:WP} {n m:Nat},n<=m->D.lows n ds=true->D.lows m ds=true
 | [],_,_,_,_=>rfl
 | d::r,n,m,h,q=>by
  rw[D.lows,ZA] at q ⊢;exact⟨qC h q.1,jc h q.2⟩
end
abbrev D.cl(d:D):Prop:=d.low 0=true
theorem bh{S S':af}{d:D}(h:d.cl)(ht:S'.take S.length=S):leave S d S'=.ok d S:=by
 unfold leave;rw[Zf ht,Zf (qC (Xj _) h)]
theorem leave_new{S T:af}{ds:WP}{k:Nat}(h:T[k]?=some (.lst ds))(hc:D.lows 0 ds=true):leave S (.loc (S.length+k)) (S++T)=.ok (.loc S.length) (S++[.lst ds]):=by
 unfold leave;rw[Zf (by simp)];rw[Zg (by show ¬decide (S.length+k<S.length)=true; simp)];simp only;rw[Dp,h];simp only;rw[Zf (show Cell.low S.length (.lst ds)=true from jc (Xj _) hc)]
theorem nR{n:Nat}:∀{ds:WP},D.lows n ds=true ↔ ∀d∈ds,d.low n=true
 | []=>by simp[D.lows]
 | d::r=>by rw[D.lows,ZA,nR]; simp
theorem DY{n:Nat}(is:Wx):D.lows n (is.map .int)=true:=nR.mpr λd h=>by
 obtain⟨i,_,rfl⟩:=ZB.mp h; rfl
theorem lA{α:Type}{n:Nat}{f:α->D}(hf:∀a,(f a).low n=true)(l:List α):D.lows n (l.map f)=true:=nR.mpr λd h=>by
 obtain⟨i,_,rfl⟩:=ZB.mp h; exact hf i
theorem E0(is:List Bool):dZ (is.map .bl)=some is:=by
 induction is with
 | nil=>rfl
 | cons i r ih=>simp[dZ,ih]
section
variable{sub:Sub}{cf:Str->List D->M D}{σ:Sg}{S S1:af}{k i:Nat}{el it tt:E}{s:Src}
theorem Jf{g:D->D}{p:D->Bool}(hn:tt.bA=false)(hi:evI sub cf it σ S=.ok s S1)(hs:aF s S1=.ok () S1)(hp:∀d∈s.its,evT sub cf tt ((σ++List.replicate k none).set i (some d)) S1=.ok (p d) S1)
  (hg:∀d∈s.its,p d=true->ev sub cf el ((σ++List.replicate k none).set i (some d)) S1=.ok (g d) S1) (hz:s.its.length<=aM) :
  ev sub cf (.comp k el (.one i) it tt) σ S=.ok (.loc S1.length) (S1++[.lst ((s.its.filter p).map g)]):=by
 rw[jn,hi];simp only[Res.aj]
 have:=nE (s:=s) (f:=λd=>aQ (.one i) d (σ++List.replicate k none)>>=λσ'=>(if tt.bA=true then pure true else evT sub cf tt σ')>>=λb=>if b=true then ev sub cf el σ'>>=λy=>pure (some y) else pure none) (g:=λd=>if p d=true then some (g d) else none) (S:=S1) hs (its:=s.its) (λd hd=>by
  simp only[az,iW,Res.aj,hn,Zx,ZT];rw[hp d hd]
  cases q:p d with
  | false=>simp
  | true=>simp[az,hg d hd q])
 rw[gC this]
 have e:s.its.filterMap (λd=>if p d=true then some (g d) else none)=(s.its.filter p).map g:=by
  induction s.its with
  | nil=>rfl
  | cons a r ih=>cases q:p a<;>simp[q,ih]
 rw[e]
 have hz':((s.its.filter p).map g).length<=aM:=by
  rw[Zc]; exact Xa (Qu _ _) hz
 simp only[Res.aj];rw[Zf (show fits ((s.its.filter p).map g).length=true from Zi hz')]
theorem t8{is:List Nat}{g:D->D}(hi:evI sub cf it σ S=.ok s S1)(hs:aF s S1=.ok () S1)(hg:∀d∈s.its,∃ds,d=.tup ds/\ds.length=is.length/\ev sub cf el (cj is ds (σ++List.replicate k none)) S1=.ok (g d) S1)(hz:s.its.length<=aM) :
  ev sub cf (.comp k el (.many is) it .nl) σ S=.ok (.loc S1.length) (S1++[.lst (s.its.map g)]):=by
 rw[jn,hi];simp only[Res.aj]
 have:=nE (s:=s) (f:=λd=>aQ (.many is) d (σ++List.replicate k none)>>=λσ'=>(if E.bA .nl=true then pure true else evT sub cf .nl σ')>>=λb=>if b=true then ev sub cf el σ'>>=λy=>pure (some y) else pure none) (g:=λd=>some (g d)) (S:=S1) hs (its:=s.its) (λd hd=>by
  obtain⟨ds,rfl,hl,hd⟩:=hg d hd;simp only[az,nN,hl,Xx,Res.aj];show(ev sub cf el (cj is ds (σ++List.replicate k none))>>=λy=>pure (some y)) S1=_;rw[az,hd]; rfl)
 rw[gC this];have e:s.its.filterMap (λd=>some (g d))=s.its.map g:=by rw[<- List.filterMap_eq_map]; rfl
 rw[e];simp[fits,hz]
end
@[simp]theorem Ju(ds:WP)(S:af):srcOf (.tup ds) S=.ok ⟨ds,none,ds⟩ S:=id rfl
theorem cL{l:Nat}{ds:WP}{S:af}(h:S[l]?=some (.lst ds)):srcOf (.loc l) S=.ok ⟨ds,some l,ds⟩ S:=by
 show(items (.loc l)>>=λds=>pure (⟨ds,some l,ds⟩:Src)) S=_;rw[az,fH h]; rfl
theorem vM{sub:Sub}{S:af}{α:Type}(l:List α)(g:α->Bool):biD sub .all [.loc S.length] (S++[.lst (l.map λa=>.bl (g a))])=.ok (.bl (l.all g)) (S++[.lst (l.map λa=>.bl (g a))]):=by
 rw[ES,fH (ds:=l.map λa=>D.bl (g a)) (eB S [] _)];simp only[Res.aj];rw[show dZ (l.map λa=>D.bl (g a))=some (l.map g) from by rw[<- E0,Xl]; rfl];simp[List.all_map]
section
variable{sub:Sub}{cf:Str->List D->M D}{σ:Sg}{S S1 S2:af}{t:Tg}{it:E}{b:EV.S}{s:Src}{fl:Fl}
noncomputable def aK(sub:Sub)(cf:Str->List D->M D)(t:Tg)(b:EV.S):D->Sg->M Fl:=λd σ=>aQ t d σ>>=λσ'=>exec sub cf b σ'
theorem o8(i:Nat)(b:EV.S)(d:D)(σ:Sg)(S:af):aK sub cf (.one i) b d σ S=exec sub cf b (σ.set i (some d)) S:=by
 unfold aK; rw[az]; rfl
theorem Dv(is:List Nat)(b:EV.S)(ds:WP)(σ:Sg)(S:af)(h:ds.length=is.length):aK sub cf (.many is) b (.tup ds) σ S=exec sub cf b (cj is ds σ) S:=by
 unfold aK; rw[az,nN,Zf h]; rfl
theorem bP(hi:evI sub cf it σ S=.ok s S1)(hf:forL s (aK sub cf t b) s.its σ S1=.ok fl S2):exec sub cf (.forS t it b) σ S=.ok fl S2:=by
 rw[Ex,az,hi];exact gC hf
end
section
variable{sub:Sub}{cf:Str->List D->M D}{s:Src}{i j l:Nat}{e:E}{g:D->D}
noncomputable def fN(i:Nat)(its:WP)(σ:Sg):Sg:=match its.getLast? with
 | some d=>σ.set i (some d)
 | none=>σ
@[simp]theorem JC(i:Nat)(σ:Sg):fN i [] σ=σ:=id rfl
theorem C4(i:Nat)(d:D)(its:WP)(σ:Sg):fN i (d::its) σ=fN i its (σ.set i (some d)):=by
 unfold fN;rw[List.getLast?_cons]
 cases q:its.getLast? with
 | none=>rfl
 | some e=>simp[Q9]
theorem jh{α:Type}{S:List α}{l:Nat}{c:α}(h:S[l]?=some c):S.set l c=S:=by
 apply QX;intro k;rw[Wp];split
 ·rename_i e; subst e;split
  ·exact h.symm
  ·rename_i h2; exact absurd (Zh.mp h).1 h2
 ·rfl
theorem get_set{α:Type}{S:List α}{l:Nat}{c d:α}(h:S[l]?=some c):(S.set l d)[l]?=some d:=by
 rw[Xm (Zh.mp h).1]
theorem GN{σ:Sg}{S:af}{xs:WP}{d:D}(hj:σ[j]?=some (some (.loc l)))(hS:S[l]?=some (.lst xs))(he:ev sub cf e σ S=.ok d S)(hz:xs.length<aM) :
  exec sub cf (.ex (.me .append (.v j) (.cs e .nl))) σ S=.ok (.nx σ) (S.set l (.lst (xs++[d]))):=by
 have hv:bq σ j S=.ok (.loc l) S:=by rw[Ds,hj]
 have hL:(D.loc l).cQ S=true:=by show(match S[l]? with|some (.lst _)=>true|_=>false)=true; rw[hS]
 simp only[tL,vQ,Ji,hv,Res.aj,hL,Xx,ue,he,Ac,mJ hS hz]
theorem p7{α:Type}{f g:α->D}(hij:i≠j):∀{ks:List α} {σ:Sg} {S:af} {xs:WP},σ[j]?=some (some (.loc l))->S[l]?=some (.lst xs)->(∀ys,aF s (S.set l (.lst ys))=.ok () (S.set l (.lst ys))) ->
  (∀a∈ks,∀ys,ev sub cf e (σ.set i (some (f a))) (S.set l (.lst ys))=.ok (g a) (S.set l (.lst ys)))->xs.length+ks.length<=aM ->
  forL s (aK sub cf (.one i) (.ex (.me .append (.v j) (.cs e .nl)))) (ks.map f) σ S=.ok (.nx (fN i (ks.map f) σ)) (S.set l (.lst (xs++ks.map g)))
 | [],σ,S,xs,h1,h2,h3,h4,h5=>by
  have:=h3 xs;rw[jh h2] at this;rw[Qt,kR,this];simp[jh h2]
 | d::ks,σ,S,xs,h1,h2,h3,h4,h5=>by
  have hst:=h3 xs;rw[jh h2] at hst;rw[ZK,jf,hst];simp only[Res.aj,o8];have h1':(σ.set i (some (f d)))[j]?=some (some (.loc l)):=by rw[ZZ hij]; exact h1
  have hd:=h4 d Zk xs;rw[jh h2] at hd;rw[GN h1' h2 hd (by simp at h5; omega)];simp only[Res.aj]
  rw[p7 hij (xs:=xs++[g d]) h1' (get_set h2) (λys=>by rw[Q9]; exact h3 ys)
   (λa ha ys=>by rw[Q9,Q9]; exact h4 a (Zm _ ha) ys) (by simp at h5 ⊢; omega)]
  rw[C4,Q9,ZK,Zq];rfl
end
theorem FG{i:Nat}{its:WP}{σ:Sg}(h:i<σ.length):∃x,fN i its σ=σ.set i x:=by
 unfold fN
 cases its.getLast? with
 | some d=>exact⟨_,rfl⟩
 | none=>exact⟨σ[i],(jh (Zb h)).symm⟩
theorem zo{i:Int}(h1:-1000000000<=i)(h2:i<=1000000000):near i=true:=Zi ⟨by omega,by omega⟩
theorem FI(j:Int):rng 0 j 1=(List.range j.toNat).map λ(k:Nat)=>(k:Int):=by
 unfold rng;rw[Zf (by decide)];have:(j-0+1-1)/1=j:=by rw[Int.ediv_one]; omega
 rw[this];simp
theorem BK{j:Int}(h1:-1000000000<=j)(h2:j<=1000000000):e9 [.int j]=some ((List.range j.toNat).map λ(k:Nat)=>(k:Int)):=by
 show(if near j=true then some (rng 0 j 1) else none)=_;rw[Zf (zo h1 h2),FI]
theorem lQ{sub:Sub}{cf:Str->List D->M D}{i j l:Nat}{it e:E}{σ:Sg}{S S1:af}{xs:WP}{α:Type}{ks:List α}{f g:α->D}{o:Option Nat}{raw:WP}
  (hit:evI sub cf it σ S=.ok ⟨ks.map f,o,raw⟩ S1) (hj:σ[j]?=some (some (.loc l))) (hS:S1[l]?=some (.lst xs)) (hij:i≠j) (hi:i<σ.length) (hst:∀ys,aF ⟨ks.map f,o,raw⟩ (S1.set l (.lst ys))=.ok () (S1.set l (.lst ys)))
  (he:∀a∈ks,∀ys,ev sub cf e (σ.set i (some (f a))) (S1.set l (.lst ys))=.ok (g a) (S1.set l (.lst ys))) (hz:xs.length+ks.length<=aM) :
  ∃x,exec sub cf (.forS (.one i) it (.ex (.me .append (.v j) (.cs e .nl)))) σ S=.ok (.nx (σ.set i x)) (S1.set l (.lst (xs++ks.map g))):=by
 obtain⟨x,hx⟩:=FG (i:=i) (its:=ks.map f) (σ:=σ) hi;refine⟨x,?_⟩;rw[<- hx];exact bP hit (p7 hij hj hS hst he hz)
theorem Gi{S:af}{a b:Nat}{xs ys:WP}(ha:S[a]?=some (.lst xs))(hb:S[b]?=some (.lst ys)):eqD deep S (.loc a) (.loc b)=if xs.length=ys.length then cu (eqD 11 S) xs ys else some false:=by
 have e1:listAt S a=some xs:=by unfold listAt; rw[ha]
 have e2:listAt S b=some ys:=by unfold listAt; rw[hb]
 show(match listAt S a,listAt S b with|some xs,some ys=>if xs.length=ys.length then cu (eqD 11 S) xs ys else some false|_,_=>none)=_;rw[e1,e2]
theorem tP{S:af}{a b:Nat}{xs:WP}(ha:S[a]?=some (.lst xs))(hb:S[b]?=some (.lst [])):cmD .eq (.loc a) (.loc b) S=.ok (.bl xs.isEmpty) S:=by
 rw[pJ,Gi ha hb];cases xs<;>simp[cu]
theorem p9{s:Src}{f:D->Sg->M Fl}:∀{its:WP} (I:Nat->Sg->af->Prop) {σ:Sg} {S:af},I 0 σ S->(∀i σ T,I i σ T->aF s T=.ok () T) ->
  (∀i (h:i<its.length) σ T,I i σ T->∃σ' T',f its[i] σ T=.ok (.nx σ') T'/\I (i+1) σ' T')->∃σ' T',forL s f its σ S=.ok (.nx σ') T'/\I its.length σ' T'
 | [],I,σ,S,h0,h1,_=>⟨σ,S,by rw[kR,h1 0 σ S h0]; rfl,h0⟩
 | d::ds,I,σ,S,h0,h1,h2=>by
  obtain⟨σ1,T1,e1,i1⟩:=h2 0 (by simp) σ S h0;obtain⟨σ2,T2,e2,i2⟩:=p9 (its:=ds) (λi=>I (i+1)) i1 (λi=>h1 (i+1)) λi hi=>h2 (i+1) (by simpa using hi)
  refine⟨σ2,T2,?_,i2⟩;rw[jf,h1 0 σ S h0];simp only[Res.aj];rw[show f d σ S=.ok (.nx σ1) T1 from e1];exact e2
theorem dS{sub:Sub}{cf:Str->List D->M D}{t:Tg}{it:E}{b:EV.S}{σ:Sg}{S S1:af}{s:Src}(I:Nat->Sg->af->Prop)(hi:evI sub cf it σ S=.ok s S1)(h0:I 0 σ S1)(h1:∀i σ T,I i σ T->aF s T=.ok () T)
  (h2:∀i (h:i<s.its.length) σ T,I i σ T->∃σ' T',aK sub cf t b s.its[i] σ T=.ok (.nx σ') T'/\I (i+1) σ' T'):∃σ' T',exec sub cf (.forS t it b) σ S=.ok (.nx σ') T'/\I s.its.length σ' T':=by
 obtain⟨σ',T',e,i⟩:=p9 I h0 h1 h2;exact⟨σ',T',bP hi e,i⟩
theorem lG{α:Type}{s:Src}{fn:D->M (Option D)}{f:α->D}{g:α->Option D}{S:af}(hs:aF s S=.ok () S):∀{ks:List α},(∀a∈ks,fn (f a) S=.ok (g a) S)->bD s fn (ks.map f) S=.ok (ks.filterMap g) S
 | [],_=>by rw[Qt,lI,hs]; rfl
 | d::ds,h=>by
  rw[ZK,jH,hs];simp only[Res.aj];rw[h d Zk];simp only[Res.aj];rw[lG hs λe he=>h e (Zm _ he)];simp only[Res.aj,Xu];cases g d<;>rfl
theorem kX{sub:Sub}{cf:Str->List D->M D}{σ:Sg}{S S1:af}{k i:Nat}{el it:E}{α:Type}{ks:List α}{f g:α->D}{o:Option Nat}{raw:WP}(hi:evI sub cf it σ S=.ok ⟨ks.map f,o,raw⟩ S1)(hs:aF ⟨ks.map f,o,raw⟩ S1=.ok () S1)
  (hg:∀a∈ks,ev sub cf el ((σ++List.replicate k none).set i (some (f a))) S1=.ok (g a) S1) (hz:ks.length<=aM) :
  ev sub cf (.comp k el (.one i) it .nl) σ S=.ok (.loc S1.length) (S1++[.lst (ks.map g)]):=by
 rw[jn,hi];simp only[Res.aj]
 have:=lG (s:=⟨ks.map f,o,raw⟩) (f:=f) (fn:=λd=>aQ (.one i) d (σ++List.replicate k none)>>=λσ'=>(if E.bA .nl=true then pure true else evT sub cf .nl σ')>>=λb=>if b=true then ev sub cf el σ'>>=λy=>pure (some y) else pure none) (g:=λa=>some (g a)) (S:=S1) hs (ks:=ks) (λd hd=>by
  simp only[az,iW,Res.aj];show(ev sub cf el ((σ++List.replicate k none).set i (some (f d)))>>=λy=>pure (some y)) S1=_;rw[az,hg d hd]; rfl)
 rw[gC this];have e:ks.filterMap (λd=>some (g d))=ks.map g:=by rw[<- List.filterMap_eq_map]; rfl
 rw[e];simp only[Res.aj];rw[Zf (show fits (ks.map g).length=true from Zi (by rw[Zc]; exact hz))]
section
variable{sub:Sub}{cf:Str->List D->M D}{σ:Sg}{S:af}
end
theorem pP(ds:WP):∀(k i:Nat) (h:i<(num k ds).length),(num k ds)[i]=.tup [.int ((k+i:Nat):Int),ds[i]'(by have:(num k ds).length=ds.length:=(by clear h; induction ds generalizing k with|nil=>rfl|cons _ _ ih=>simp[num,ih]); omega)]:=by
 induction ds with
 | nil=>intro k i h; simp[num] at h
 | cons d r ih =>
  intro k i h
  cases i with
  | zero=>simp[num]
  | succ i =>
   simp only[num,List.getElem_cons_succ];rw[ih (k+1) i (by simpa [num] using h)];congr 3;omega
theorem j4:∀(ds:WP) (k:Nat),(num k ds).length=ds.length
 | [],_=>rfl
 | _::r,k=>by simp[num,j4 r]
end EV

namespace GO
open PySem EV
theorem gE{S:af}{l:Nat}{ds:WP}(h:S[l]?=some (.lst ds)):(D.loc l).cQ S=true:=by show(match S[l]? with|some (.lst _)=>true|_=>false)=true; rw[h]
theorem u7(T:af)(ds:WP):(D.loc T.length).cQ (T++[.lst ds])=true:=gE (ds:=ds) (by simp)
theorem ve(T:af)(ds:WP)(G:af):(D.loc T.length).cQ (T++.lst ds::G)=true:=gE (ds:=ds) (by simp)
theorem Jx(T:af)(ds:WP)(G U:af):(D.loc T.length).cQ ((T++.lst ds::G)++U)=true:=by rw[Zq,XA]; exact ve _ _ _
section
variable{sub:Sub}{cf:Str->List D->M D}{σ σ1:Sg}{S S1 S2 S3:af}{R:Res D}{RF:Res Fl}{x y z d:D}{ds:WP}{a b c r es:E}{u v w:EV.S}
theorem r_v{i:Nat}(h:bq σ i S=.ok d S):ev sub cf (.v i) σ S=.ok d S:=h
theorem r_c:ev sub cf (.c d) σ S=.ok d S:=id rfl
theorem aP{o:Op2}(ha:ev sub cf a σ S=.ok x S1)(hb:ev sub cf b σ S1=.ok y S2)(h:opD o x y S2=R):ev sub cf (.bin o a b) σ S=R:=by rw[F3,ha,Res.aj,hb,Res.aj,h]
theorem aX{o:Cm}(ha:ev sub cf a σ S=.ok x S1)(hb:ev sub cf b σ S1=.ok y S2)(h:cmD o x y S2=R):ev sub cf (.cmp o a b) σ S=R:=by rw[u0,ha,Res.aj,hb,Res.aj,h]
theorem fu(ha:ev sub cf a σ S=.ok (.bl true) S1)(hb:ev sub cf b σ S1=R):ev sub cf (.and a b) σ S=R:=by rw[Fv,ha]; exact hb
theorem kD{i:Int}(ha:ev sub cf a σ S=.ok (.int i) S1):ev sub cf (.neg a) σ S=.ok (.int (-i)) S1:=by rw[xF,ha]; rfl
theorem AI(hc:evT sub cf c σ S=.ok true S1)(ha:ev sub cf a σ S1=R):ev sub cf (.ite c a b) σ S=R:=by rw[qd,hc,Res.aj,Zf rfl,ha]
theorem Gq(hc:evT sub cf c σ S=.ok false S1)(hb:ev sub cf b σ S1=R):ev sub cf (.ite c a b) σ S=R:=by rw[qd,hc,Res.aj,Zg (by decide),hb]
theorem ai:evs sub cf .nl σ S=.ok [] S:=id rfl
theorem aa(ha:ev sub cf a σ S=.ok x S1)(hr:evs sub cf r σ S1=.ok ds S2):evs sub cf (.cs a r) σ S=.ok (x::ds) S2:=by rw[ue,ha,Res.aj,hr,Res.aj]
theorem ee(hs:evs sub cf es σ S=.ok ds S1)(hz:fits ds.length=true):ev sub cf (.tup es) σ S=.ok (.tup ds) S1:=by rw[Jb,hs,Res.aj,Zf hz]
theorem bV(hs:evs sub cf es σ S=.ok ds S1)(hz:fits ds.length=true):ev sub cf (.lst es) σ S=.ok (.loc S1.length) (S1++[.lst ds]):=by rw[GA,hs,Res.aj,Zf hz]
theorem ao(ha:ev sub cf a σ S=.ok x S1)(hb:ev sub cf b σ S1=.ok y S2)(h:ixD x y S2=R):ev sub cf (.ix a b) σ S=R:=by rw[Fb,ha,Res.aj,hb,Res.aj,h]
theorem Jv{lo hi:E}{p q:Option Int}(ha:ev sub cf a σ S=.ok x S1)(hl:iT sub cf σ lo S1=.ok p S2)(hh:iT sub cf σ hi S2=.ok q S3)(h:slD x p q S3=R):ev sub cf (.sl a lo hi) σ S=R:=by
 rw[DV,ha,Res.aj,hl,Res.aj,hh,Res.aj,h]
theorem ay{f:Str}(hs:evs sub cf es σ S=.ok ds S1)(h:cf f ds S1=R):ev sub cf (.call f es) σ S=R:=by rw[E3,hs,Res.aj,h]
theorem aO{o:Bi}(hs:evs sub cf es σ S=.ok ds S1)(h:biD sub o ds S1=R):ev sub cf (.bi o es) σ S=R:=by rw[zR,hs,Res.aj,h]
theorem gg{m:Me}{l:Nat}(ha:ev sub cf a σ S=.ok (.loc l) S1)(hs:evs sub cf es σ S1=.ok ds S2)(h:meD m (.loc l) ds S2=R)(hL:(D.loc l).cQ S1=true:=by first|assumption|exact u7 _ _|exact ve _ _ _|exact gE (by assumption)):ev sub cf (.me m a es) σ S=R:=by
 rw[vQ,ha,Res.aj,Zf hL,hs,Res.aj,h]
theorem mK{k:Bool}(h:ev sub cf a σ S=.ok (.bl k) S1)(ht:evT sub cf a σ S=(ev sub cf a σ S).bind λd S1=>truth d S1):evT sub cf a σ S=.ok k S1:=by rw[ht,h]; rfl
theorem bN{f:Str}{k:Bool}(h:ev sub cf (.call f es) σ S=.ok (.bl k) S1):evT sub cf (.call f es) σ S=.ok k S1:=mK h (Cd _ _ _ _ _ _)
theorem iu{o:Bi}{k:Bool}(h:ev sub cf (.bi o es) σ S=.ok (.bl k) S1):evT sub cf (.bi o es) σ S=.ok k S1:=mK h (yT _ _ _ _ _ _)
theorem aT{o:Cm}{k:Bool}(h:ev sub cf (.cmp o a b) σ S=.ok (.bl k) S1):evT sub cf (.cmp o a b) σ S=.ok k S1:=mK h (by
 rw[yG,u0]; cases ev sub cf a σ S<;>simp[Res.bind]; rename_i q Q; cases ev sub cf b σ Q<;>simp[Res.bind])
theorem fm{k:Bool}(ha:evT sub cf a σ S=.ok true S1)(hb:evT sub cf b σ S1=.ok k S2):evT sub cf (.and a b) σ S=.ok k S2:=by rw[sS,ha,Res.aj,Zf rfl,hb]
theorem kL(ha:evT sub cf a σ S=.ok false S1):evT sub cf (.and a b) σ S=.ok false S1:=by rw[sS,ha,Res.aj,Zg (by decide)]
theorem lZ(ha:evT sub cf a σ S=.ok true S1):evT sub cf (.or a b) σ S=.ok true S1:=by rw[v9,ha,Res.aj,Zf rfl]
theorem cP{k:Bool}(ha:evT sub cf a σ S=.ok false S1)(hb:evT sub cf b σ S1=.ok k S2):evT sub cf (.or a b) σ S=.ok k S2:=by rw[v9,ha,Res.aj,Zg (by decide),hb]
theorem bE{k:Bool}(ha:evT sub cf a σ S=.ok k S1):evT sub cf (.not a) σ S=.ok (!k) S1:=by rw[za,ha,Res.aj]
theorem t_k{k k':Bool}(h:evT sub cf a σ S=.ok k' S1)(e:k'=k):evT sub cf a σ S=.ok k S1:=by rw[h,e]
theorem zU(h:Nat.ble ds.length 1000=true):fits ds.length=true:=oZ (Nat.le_of_ble_eq_true h)
theorem kF{i j:Int}(h:0<j):opD .mod (.int i) (.int j) S=.ok (.int (i%j)) S:=by rw[yY,Zf h]
theorem rM{i j:Int}(h:(small i||small j)=true):opD .mul (.int i) (.int j) S=.ok (.int (i*j)) S:=by rw[DK,Zf h]
theorem qu{i:Int}(h:-1000000000000<i/\i<1000000000000):small i=true:=Zi ⟨by omega,by omega⟩
theorem fJ{i j:Int}(h:-1000000000000<i/\i<1000000000000):opD .mul (.int i) (.int j) S=.ok (.int (i*j)) S:=rM (by rw[qu h,Bool.true_or])
theorem wD{i j:Int}(h:-1000000000000<j/\j<1000000000000):opD .mul (.int i) (.int j) S=.ok (.int (i*j)) S:=rM (by rw[qu h,Bool.or_true])
theorem zM{i j:Int}(h:0<j/\j<1073741824):opD .fdiv (.int i) (.int j) S=.ok (.int (i/j)) S:=by rw[yw,Zf (by rw[Zi h.1,Zi h.2]; rfl)]
theorem av{xs:WP}{j:Int}(h:atI xs j=some d):ixD (.tup xs) (.int j) S=.ok d S:=by rw[AQ,h,dP]
theorem qM{xs:WP}{j:Int}(h:atI xs j=some d):ixD (.fro xs) (.int j) S=.ok d S:=by rw[Cr,h,dP]
theorem gY{xs:WP}{j:Int}{l:Nat}(hl:S[l]?=some (.lst xs))(h:atI xs j=some d):ixD (.loc l) (.int j) S=.ok d S:=by rw[zg hl,h,dP]
theorem dw{xs:WP}:biD sub .len [.tup xs] S=.ok (.int xs.length) S:=by rw[nZ]; rfl
theorem vK{xs:WP}:biD sub .len [.fro xs] S=.ok (.int xs.length) S:=by rw[nZ]; rfl
theorem sf{xs:WP}{l:Nat}(hl:S[l]?=some (.lst xs)):biD sub .len [.loc l] S=.ok (.int xs.length) S:=by rw[nZ,fH hl]; rfl
theorem fz{xs:WP}{l:Nat}(hl:S[l]?=some (.lst xs)):biD sub .tuple [.loc l] S=.ok (.tup xs) S:=by rw[Cu,fH hl]; rfl
theorem i8{t:Ty}{k:Bool}(h:cF sub S x t=some k):biD sub (.inst t) [x] S=.ok (.bl k) S:=by rw[F_,h]
theorem aJ{α:Type}(T:List α)(c:α):(T++[c])[T.length]?=some c:=by simp
theorem rj{T:af}{xs:WP}{j:Int}(h:atI xs j=some d):ixD (.loc T.length) (.int j) (T++[.lst xs])=.ok d (T++[.lst xs]):=gY (aJ T _) h
theorem j6{T:af}{xs:WP}:biD sub .tuple [.loc T.length] (T++[.lst xs])=.ok (.tup xs) (T++[.lst xs]):=fz (aJ T _)
theorem uB{T:af}{xs:WP}:biD sub .len [.loc T.length] (T++[.lst xs])=.ok (.int xs.length) (T++[.lst xs]):=sf (aJ T _)
theorem ck{s:Src}(ha:ev sub cf a σ S=.ok x S1)(h:srcOf x S1=.ok s S2):evI sub cf (.iSeq a) σ S=.ok s S2:=by rw[E5,ha,Res.aj,h]
theorem BE{is:Wx}(hs:evs sub cf es σ S=.ok ds S1)(h:e9 ds=some is):evI sub cf (.iRng es) σ S=.ok ⟨is.map .int,none,[]⟩ S1:=by rw[D_,hs,Res.aj,h,dP,Res.aj]
theorem dM{j:Int}{k:Nat}{f:Nat->D}(hs:evs sub cf es σ S=.ok [.int j] S1)(hj:j=(k:Int))(hk:k<=1000000)(hf:∀i:Nat,f i=.int (i:Int)):evI sub cf (.iRng es) σ S=.ok ⟨(List.range k).map f,none,[]⟩ S1:=by
 subst hj;rw[BE hs (BK (by omega) (by omega)),ZQ,Xl,show(D.int∘λk:Nat=>(k:Int))=f from funext λi=>(hf i).symm]
theorem aE{i:Nat}(h:ev sub cf a σ S=.ok d S1):exec sub cf (.set (.one i) a) σ S=.ok (.nx (σ.set i (some d))) S1:=by rw[tO,h,Res.aj,iW,Res.aj]
theorem C8{is:List Nat}(h:ev sub cf a σ S=.ok (.tup ds) S1)(hl:ds.length=is.length):exec sub cf (.set (.many is) a) σ S=.ok (.nx (cj is ds σ)) S1:=by rw[tO,h,Res.aj,nN,Zf hl,Res.aj]
theorem cU(h:ev sub cf a σ S=.ok d S1):exec sub cf (.ex a) σ S=.ok (.nx σ) S1:=by rw[tL,h,Res.aj]
theorem aB(h:ev sub cf a σ S=.ok d S1):exec sub cf (.ret a) σ S=.ok (.rt d) S1:=by rw[yF,h,Res.aj]
theorem bw(hc:evT sub cf c σ S=.ok true S1)(h:exec sub cf u σ S1=RF):exec sub cf (.ite c u v) σ S=RF:=by rw[vz,hc,Res.aj,Zf rfl,h]
theorem aG(hc:evT sub cf c σ S=.ok false S1)(h:exec sub cf v σ S1=RF):exec sub cf (.ite c u v) σ S=RF:=by rw[vz,hc,Res.aj,Zg (by decide),h]
theorem ak(hu:exec sub cf u σ S=.ok (.nx σ1) S1)(h:exec sub cf v σ1 S1=RF):exec sub cf (.seq u v) σ S=RF:=(GS hu).trans h
theorem bO(hu:exec sub cf u σ S=.ok (.rt d) S1):exec sub cf (.seq u v) σ S=.ok (.rt d) S1:=by rw[wj,hu,Fc]
theorem aH:exec sub cf .skip σ S=.ok (.nx σ) S:=id rfl
theorem x_call{P:Prg}{n:Nat}{f:Str}{F:Fn}(hP:P.lookup f=some F)(hl:ds.length=F.par)(hb:exec sub (ah sub P n) F.body (frame F ds) S=.ok (.rt d) S1)(h:leave S d S1=R):ah sub P (n+1) f ds S=R:=by
 rw[uD hP hl,hb,zD,h]
theorem dh{s:Src}{f:D->Sg->M Fl}{ds:WP}(hs:aF s S=.ok () S)(hb:f d σ S=.ok (.nx σ1) S1)(h:forL s f ds σ1 S1=RF):forL s f (d::ds) σ S=RF:=by
 rw[jf,hs,Res.aj,hb]; exact h
theorem bW{i:Nat}(h:exec sub cf u (σ.set i (some d)) S=RF):aK sub cf (.one i) u d σ S=RF:=(o8 i u d σ S).trans h
theorem dI{is:List Nat}(hl:ds.length=is.length)(h:exec sub cf u (cj is ds σ) S=RF):aK sub cf (.many is) u (.tup ds) σ S=RF:=(Dv is u ds σ S hl).trans h
theorem DI{P:Prg}{n:Nat}{f:Str}{F:Fn}(hP:P.lookup f=some F)(hl:ds.length=F.par)(hb:exec sub (ah sub P n) F.body (frame F ds) S=RF)(h:∃S',RF=.ok (.rt d) S'/\S'.take S.length=S)(hc:d.cl):ah sub P (n+1) f ds S=.ok d S:=by
 obtain⟨S',e,ht⟩:=h;exact x_call hP hl (hb.trans e) (bh hc ht)
end
end GO

namespace RL
open PySem EV GO
noncomputable def oq:Fn:=⟨3,3,(.seq (.ite (.or (.not (.bi (.inst .int) (.cs (.v 0) .nl))) (.bi (.inst .bool) (.cs (.v 0) .nl)))
  (.ret (.c (.bl false)))
  .skip)
 (.ret (.chn .le .le (.v 1) (.v 0) (.v 2))))⟩
noncomputable def t9:Fn:=⟨1,1,(.ret (.call "is_whole" (.cs (.v 0) (.cs (.c (.int 0)) (.cs (.bin .sub (.c (.int 9973)) (.c (.int 1))) .nl)))))⟩
noncomputable def jV:Fn:=⟨3,3,(.ret (.and (.bi (.inst .tuple) (.cs (.v 0) .nl)) (.chn .le .le (.v 1) (.bi .len (.cs (.v 0) .nl)) (.v 2))))⟩
noncomputable def v_:Fn:=⟨1,1,(.ret (.and (.call "is_row" (.cs (.v 0) (.cs (.c (.int 2)) (.cs (.c (.int 2)) .nl)))) (.and (.call "is_whole" (.cs (.ix (.v 0) (.c (.int 0))) (.cs (.c (.int 1)) (.cs (.c (.int 3)) .nl)))) (.call "is_whole" (.cs (.ix (.v 0) (.c (.int 1))) (.cs (.c (.int 1)) (.cs (.c (.int 4)) .nl)))))))⟩
noncomputable def sY:Fn:=⟨1,1,(.ret (.and (.call "is_row" (.cs (.v 0) (.cs (.c (.int 1)) (.cs (.c (.int 3)) .nl)))) (.bi .all (.cs (.comp 2 (.call "is_crew" (.cs (.v 2) .nl)) (.one 2) (.iSeq (.v 0)) .nl) .nl))))⟩
noncomputable def wV:Fn:=⟨3,4,(.seq (.ite (.or (.not (.call "is_row" (.cs (.v 0) (.cs (.c (.int 3)) (.cs (.c (.int 3)) .nl))))) (.not (.call "is_whole" (.cs (.ix (.v 0) (.c (.int 2))) (.cs (.c (.int 0)) (.cs (.c (.int 3)) .nl))))))
  (.ret (.c (.bl false)))
  .skip)
 (.seq (.set (.one 3) (.ite (.cmp .eq (.ix (.v 0) (.c (.int 2))) (.c (.int 0))) (.v 1) (.v 2)))
 (.ret (.call "is_whole" (.cs (.ix (.v 0) (.c (.int 1))) (.cs (.c (.int 0)) (.cs (.bin .sub (.v 3) (.c (.int 1))) .nl)))))))⟩
noncomputable def qR:Fn:=⟨4,4,(.seq (.ite (.or (.not (.call "is_row" (.cs (.v 0) (.cs (.c (.int 2)) (.cs (.c (.int 3)) .nl))))) (.not (.bi (.inst .str) (.cs (.ix (.v 0) (.c (.int 0))) .nl))))
  (.ret (.c (.bl false)))
  .skip)
 (.seq (.ite (.cmp .eq (.ix (.v 0) (.c (.int 0))) (.c (.str "work")))
  (.ret (.call "is_work_source" (.cs (.v 0) (.cs (.v 1) (.cs (.v 2) .nl)))))
  .skip)
 (.seq (.ite (.cmp .ne (.bi .len (.cs (.v 0) .nl)) (.c (.int 2)))
  (.ret (.c (.bl false)))
  .skip)
 (.seq (.ite (.cmp .eq (.ix (.v 0) (.c (.int 0))) (.c (.str "input")))
  (.ret (.call "is_whole" (.cs (.ix (.v 0) (.c (.int 1))) (.cs (.c (.int 0)) (.cs (.bin .sub (.v 3) (.c (.int 1))) .nl)))))
  .skip)
 (.ret (.and (.cmp .eq (.ix (.v 0) (.c (.int 0))) (.c (.str "value"))) (.call "is_value" (.cs (.ix (.v 0) (.c (.int 1))) .nl))))))))⟩
noncomputable def sZ:Fn:=⟨1,1,(.ret (.and (.call "is_row" (.cs (.v 0) (.cs (.c (.int 3)) (.cs (.c (.int 3)) .nl)))) (.bi .all (.cs (.comp 2 (.call "is_value" (.cs (.v 2) .nl)) (.one 2) (.iSeq (.v 0)) .nl) .nl))))⟩
noncomputable def tE:Fn:=⟨5,6,(.seq (.ite (.not (.call "is_row" (.cs (.v 0) (.cs (.c (.int 5)) (.cs (.c (.int 5)) .nl)))))
  (.ret (.c (.bl false)))
  .skip)
 (.seq (.ite (.or (.not (.call "is_whole" (.cs (.ix (.v 0) (.c (.int 0))) (.cs (.c (.int 0)) (.cs (.bin .sub (.v 4) (.c (.int 1))) .nl))))) (.not (.call "is_whole" (.cs (.ix (.v 0) (.c (.int 1))) (.cs (.c (.int 1)) (.cs (.c (.int 8)) .nl))))))
  (.ret (.c (.bl false)))
  .skip)
 (.seq (.ite (.or (.not (.bi (.inst .str) (.cs (.ix (.v 0) (.c (.int 2))) .nl))) (.cmp .cW (.ix (.v 0) (.c (.int 2))) (.c (.tup [(.str "plus"),(.str "less"),(.str "times"),(.str "least"),(.str "greatest")]))))
  (.ret (.c (.bl false)))
  .skip)
 (.seq (.set (.one 5) (.ix (.v 0) (.c (.int 3))))
 (.seq (.ite (.or (.not (.call "is_row" (.cs (.v 5) (.cs (.c (.int 1)) (.cs (.c (.int 3)) .nl))))) (.not (.call "are_starts" (.cs (.ix (.v 0) (.c (.int 4))) .nl))))
  (.ret (.c (.bl false)))
  .skip)
 (.ret (.bi .all (.cs (.comp 2 (.call "is_source" (.cs (.v 7) (.cs (.v 1) (.cs (.v 2) (.cs (.v 3) .nl))))) (.one 7) (.iSeq (.v 5)) .nl) .nl))))))))⟩
noncomputable def wu:Fn:=⟨3,4,(.seq (.ite (.not (.call "is_row" (.cs (.v 0) (.cs (.c (.int 1)) (.cs (.c (.int 8)) .nl)))))
  (.ret (.c (.bl false)))
  .skip)
 (.seq (.set (.one 3) (.bi .len (.cs (.v 0) .nl)))
 (.ret (.bi .all (.cs (.comp 3 (.call "is_work" (.cs (.v 6) (.cs (.v 5) (.cs (.v 3) (.cs (.v 1) (.cs (.v 2) .nl)))))) (.many [5,6]) (.iEnum (.v 0)) .nl) .nl)))))⟩
noncomputable def uz:Fn:=⟨2,4,(.seq (.ite (.not (.call "is_row" (.cs (.v 0) (.cs (.c (.int 1)) (.cs (.v 1) .nl)))))
  (.ret (.c (.bl false)))
  .skip)
 (.seq (.set (.one 2) (.c (.int 0)))
 (.seq (.forS (.one 3) (.iSeq (.v 0))
  (.seq (.ite (.not (.call "is_whole" (.cs (.v 3) (.cs (.v 2) (.cs (.bin .sub (.v 1) (.c (.int 1))) .nl)))))
  (.ret (.c (.bl false)))
  .skip)
 (.set (.one 2) (.bin .add (.v 3) (.c (.int 1))))))
 (.ret (.c (.bl true))))))⟩
noncomputable def uW:Fn:=⟨1,1,(.seq (.ite (.not (.call "is_row" (.cs (.v 0) (.cs (.c (.int 4)) (.cs (.c (.int 4)) .nl)))))
  (.ret (.c (.bl false)))
  .skip)
 (.seq (.ite (.or (.not (.call "is_whole" (.cs (.ix (.v 0) (.c (.int 0))) (.cs (.c (.int 0)) (.cs (.c (.int 6)) .nl))))) (.not (.call "are_crews" (.cs (.ix (.v 0) (.c (.int 1))) .nl))))
  (.ret (.c (.bl false)))
  .skip)
 (.ret (.and (.call "are_works" (.cs (.ix (.v 0) (.c (.int 2))) (.cs (.ix (.v 0) (.c (.int 0))) (.cs (.bi .len (.cs (.ix (.v 0) (.c (.int 1))) .nl)) .nl)))) (.call "are_outs" (.cs (.ix (.v 0) (.c (.int 3))) (.cs (.bi .len (.cs (.ix (.v 0) (.c (.int 2))) .nl)) .nl)))))))⟩
noncomputable def uO:Fn:=⟨1,1,(.seq (.ite (.not (.call "is_loop" (.cs (.v 0) .nl)))
  (.rais "NoLoop")
  .skip)
 (.ret (.v 0)))⟩
noncomputable def d9:List Str:=["plus","less","times","least","greatest"]
def Jt(S:af):Prop:=∀(l:Nat) c,S[l]?=some c->∃ds,c=.lst ds
def Has(P:Prg)(x:String)(F:Fn):Prop:=P.lookup (Str.ofString x)=some F
set_option genInjectivity false in
inductive Srs where|val (v:Int)|inp (k:Nat)|wrk (w b:Nat)
noncomputable def Srs.toD:Srs->D
 | .val v=>.tup [.str "value",.int v]
 | .inp k=>.tup [.str "input",.int k]
 | .wrk w b=>.tup [.str "work",.int w,.int b]
set_option genInjectivity false in
structure Wk where
 crew:Nat
 long:Nat
 doing:Str
 srcs:List Srs
 starts:List Int
noncomputable def Wk.toD(w:Wk):D:=.tup [.int w.crew,.int w.long,.str w.doing,.tup (w.srcs.map Srs.toD),.tup (w.starts.map .int)]
set_option genInjectivity false in
structure Lp where
 streams:Nat
 crews:List (Nat×Nat)
 works:List Wk
 outs:List Nat
noncomputable def aZ(c:Nat×Nat):D:=.tup [.int c.1,.int c.2]
noncomputable def au(k:Nat):D:=.int k
noncomputable def Lp.toD(l:Lp):D:=.tup [.int l.streams,.tup (l.crews.map aZ),.tup (l.works.map Wk.toD),.tup (l.outs.map au)]
noncomputable def Srs.WF(own many streams:Nat):Srs->Prop
 | .val v=>0<=v/\v<=9972
 | .inp k=>k<streams
 | .wrk w b=>b<=3/\w<(if b=0 then own else many)
set_option genInjectivity false in
structure Wk.WF(own many streams ncrews:Nat)(w:Wk):Prop where
 crew:w.crew<ncrews
 long:1<=w.long/\w.long<=8
 doing:w.doing∈d9
 some:1<=w.srcs.length/\w.srcs.length<=3
 srcs:∀s∈w.srcs,s.WF own many streams
 three:w.starts.length=3
 starts:∀v∈w.starts,0<=v/\v<=9972
noncomputable def eN:Nat->Nat->List Nat->Prop
 | _,_,[]=>True
 | many,least,k::r=>least<=k/\k<many/\eN many (k+1) r
set_option genInjectivity false in
structure Lp.WF(l:Lp):Prop where
 streams:l.streams<=6
 ncrews:1<=l.crews.length/\l.crews.length<=3
 crews:∀c∈l.crews,(1<=c.1/\c.1<=3)/\(1<=c.2/\c.2<=4)
 nworks:1<=l.works.length/\l.works.length<=8
 works:∀(i:Nat) w,l.works[i]?=some w->w.WF i l.works.length l.streams l.crews.length
 nouts:1<=l.outs.length
 outs:eN l.works.length 0 l.outs
set_option genInjectivity false in
structure HB(P:Prg):Prop where
 whole:Has P "is_whole" oq
 value:Has P "is_value" t9
 row:Has P "is_row" jV
 crew:Has P "is_crew" v_
 crews:Has P "are_crews" sY
 worksource:Has P "is_work_source" wV
 source:Has P "is_source" qR
 starts:Has P "are_starts" sZ
 work:Has P "is_work" tE
 works:Has P "are_works" wu
 outs:Has P "are_outs" uz
 loop:Has P "is_loop" uW
 checked:Has P "checked" uO
variable{sub:Sub}{P:Prg}{n:Nat}{S:af}
@[simp]theorem jl(S T:af)(b:Bool):leave S (.bl b) (S++T)=.ok (.bl b) S:=bh rfl (bB _ _)
@[simp]theorem dF(S:af)(b:Bool):leave S (.bl b) S=.ok (.bl b) S:=bh rfl (ZO)
@[simp]theorem ic(S T:af)(b:Int):leave S (.int b) (S++T)=.ok (.int b) S:=bh rfl (bB _ _)
@[simp]theorem gm(S:af)(b:Int):leave S (.int b) S=.ok (.int b) S:=bh rfl (ZO)
theorem short{ds:WP}{k:Int}(h:(ds.length:Int)<=k)(hk:k<=1000):ds.length<=aM:=by unfold aM; omega
theorem sU{σ:Sg}{cf:Str->List D->M D}{a b c:E}{i j k:Int}(ha:ev sub cf a σ S=.ok (.int i) S)(hb:ev sub cf b σ S=.ok (.int j) S)(hc:ev sub cf c σ S=.ok (.int k) S)(h1:i<=j)(h2:j<=k) :
  ev sub cf (.chn .le .le a b c) σ S=.ok (.bl true) S:=by
 rw[G5,ha,Res.aj,hb,Res.aj,jY,Res.aj,Zi h1];show(ev sub cf c σ S).bind _=_;rw[hc,Res.aj,jY,Zi h2]
theorem cD(h:Has P "is_whole" oq){i lo hi:Int}(h1:lo<=i)(h2:i<=hi):ah sub P (n+1) "is_whole" [.int i,.int lo,.int hi] S=.ok (.bl true) S :=
 x_call h rfl (ak (aG (cP (bE (k:=true) (iu (aO (aa (r_v rfl) ai) (i8 rfl)))) (k:=false) (iu (aO (aa (r_v rfl) ai) (i8 rfl)))) aH) (aB (sU (r_v rfl) (r_v rfl) (r_v rfl) h1 h2))) (dF _ _)
theorem tZ(h:HB P){v:Int}(h1:0<=v)(h2:v<=9972):ah sub P (n+2) "is_value" [.int v] S=.ok (.bl true) S :=
 x_call h.value rfl (aB (ay (aa (r_v rfl) (aa r_c (aa (aP r_c r_c (eY _ _ _)) ai))) (cD h.whole h1 h2))) (dF _ _)
theorem g9(h:Has P "is_row" jV){ds:WP}{lo hi:Int}(h1:lo<=(ds.length:Int))(h2:(ds.length:Int)<=hi):ah sub P (n+1) "is_row" [.tup ds,.int lo,.int hi] S=.ok (.bl true) S :=
 x_call h rfl (aB (fu (aO (aa (r_v rfl) ai) (i8 rfl)) (sU (r_v rfl) (aO (aa (r_v rfl) ai) dw) (r_v rfl) h1 h2))) (dF _ _)
theorem gH(h:Has P "is_row" jV){ds:WP}{lo hi:Int}(m:Nat)(hm:ds.length=m)(h1:lo<=(m:Int))(h2:(m:Int)<=hi):ah sub P (n+1) "is_row" [.tup ds,.int lo,.int hi] S=.ok (.bl true) S :=
 g9 h (by rw[hm]; exact h1) (by rw[hm]; exact h2)
theorem Ck(h:HB P){c:Nat×Nat}(hc:(1<=c.1/\c.1<=3)/\(1<=c.2/\c.2<=4)):ah sub P (n+2) "is_crew" [aZ c] S=.ok (.bl true) S :=
 x_call h.crew rfl (aB (fu (ay (aa (r_v rfl) (aa r_c (aa r_c ai))) (gH h.row 2 rfl (by decide) (by decide)))
  (fu (ay (aa (ao (r_v rfl) r_c (av rfl)) (aa r_c (aa r_c ai))) (cD h.whole (XB.mpr hc.1.1) (XB.mpr hc.1.2)))
   (ay (aa (ao (r_v rfl) r_c (av rfl)) (aa r_c (aa r_c ai))) (cD h.whole (XB.mpr hc.2.1) (XB.mpr hc.2.2)))))) (dF _ _)
theorem ku{cf:Str->List D->M D}{σ:Sg}{i k:Nat}{el a:E}{α:Type}{l:List α}{f:α->D}(ha:ev sub cf a σ S=.ok (.tup (l.map f)) S)(hn:l.length<=1000)(h:∀x∈l,ev sub cf el ((σ++List.replicate k none).set i (some (f x))) S=.ok (.bl true) S) :
  ∃T,ev sub cf (.bi .all (.cs (.comp k el (.one i) (.iSeq a) .nl) .nl)) σ S=.ok (.bl true) (S++T):=by
 have hc:=kX (sub:=sub) (cf:=cf) (k:=k) (i:=i) (el:=el) (it:=.iSeq a) (σ:=σ) (S:=S) (S1:=S) (ks:=l) (f:=f) (g:=λ_=>.bl true) (o:=none) (raw:=l.map f) (ck ha rfl) rfl h (by unfold aM; omega);refine⟨[.lst (l.map λ_=>.bl true)],aO (R:=.ok (.bl true) _) (aa hc ai) ((vM l λ_=>true).trans ?_)⟩;rw[Xn.mpr λ_ _=>rfl]
theorem En(h:HB P){cs:List (Nat×Nat)}(h1:1<=cs.length)(h2:cs.length<=3)(hc:∀c∈cs,(1<=c.1/\c.1<=3)/\(1<=c.2/\c.2<=4)):ah sub P (n+3) "are_crews" [.tup (cs.map aZ)] S=.ok (.bl true) S:=by
 obtain⟨T,e⟩:=ku (sub:=sub) (cf:=ah sub P (n+2)) (σ:=[some (.tup (cs.map aZ))]) (S:=S) (i:=2) (k:=2) (el:=.call "is_crew" (.cs (.v 2) .nl)) (a:=.v 0) (l:=cs) (f:=aZ) (r_v rfl) (by omega) (λc hm=>ay (aa (r_v rfl) ai) (Ck h (hc c hm)));exact x_call h.crews rfl (aB (fu (ay (aa (r_v rfl) (aa r_c (aa r_c ai))) (g9 h.row (by rw[Zc]; omega) (by rw[Zc]; omega))) e)) (jl _ _ _)
theorem x_(h:HB P){vs:Wx}(h1:vs.length=3)(hv:∀v∈vs,0<=v/\v<=9972):ah sub P (n+3) "are_starts" [.tup (vs.map .int)] S=.ok (.bl true) S:=by
 obtain⟨T,e⟩:=ku (sub:=sub) (cf:=ah sub P (n+2)) (σ:=[some (.tup (vs.map .int))]) (S:=S) (i:=2) (k:=2) (el:=.call "is_value" (.cs (.v 2) .nl)) (a:=.v 0) (l:=vs) (f:=.int) (r_v rfl) (by omega) (λc hm=>ay (aa (r_v rfl) ai) (tZ h (hv c hm).1 (hv c hm).2));exact x_call h.starts rfl (aB (fu (ay (aa (r_v rfl) (aa r_c (aa r_c ai))) (g9 h.row (by rw[Zc,h1]; decide) (by rw[Zc,h1]; decide))) e)) (jl _ _ _)
theorem Jd(h:HB P){x:D}{w b own many:Nat}(hb:b<=3)(hw:w<(if b=0 then own else many)):ah sub P (n+2) "is_work_source" [.tup [x,.int w,.int b],.int own,.int many] S=.ok (.bl true) S:=by
 have h0:∀k:Nat,(0:Int)<=(k:Int):=λk=>XT k
 refine x_call h.worksource rfl (ak (aG (cP (bE (k:=true) (bN (ay (aa (r_v rfl) (aa r_c (aa r_c ai))) (gH h.row 3 rfl (by decide) (by decide)))))
  (k:=false) (bE (k:=true) (bN (ay (aa (ao (r_v rfl) r_c (av rfl)) (aa r_c (aa r_c ai))) (cD h.whole (h0 b) (XB.mpr hb)))))) aH)
  (ak (aE (d:=.int ((if b=0 then own else many:Nat):Int)) (S1:=S) ?_) (aB (ay (aa (ao (r_v rfl) r_c (av rfl)) (aa r_c (aa (aP (r_v rfl) r_c (eY _ _ _)) ai))) (cD h.whole (h0 w) (by omega)))))) (dF _ _)
 by_cases z:b=0
 ·rw[Zf z]; subst z;exact AI (S1:=S) (aT (aX (ao (r_v rfl) r_c (av rfl)) r_c (fX _ _ _))) (r_v rfl)
 ·rw[Zg z];exact Gq (S1:=S) (t_k (aT (aX (ao (r_v rfl) r_c (av rfl)) r_c (fX _ _ _))) (Qn (by omega))) (r_v rfl)
theorem zy(h:HB P){s:Srs}{own many streams:Nat}(hs:s.WF own many streams):ah sub P (n+3) "is_source" [s.toD,.int own,.int many,.int streams] S=.ok (.bl true) S:=by
 have first:∀{x:Str} {r:WP} {σ:Sg} (e:bq σ 0 S=.ok (.tup (.str x::r)) S) (m:Nat) (hm:(D.str x::r).length=m) (h1:2<=(m:Int)) (h2:(m:Int)<=3),evT sub (ah sub P (n+2)) (.or (.not (.call "is_row" (.cs (.v 0) (.cs (.c (.int 2)) (.cs (.c (.int 3)) .nl))))) (.not (.bi (.inst .str) (.cs (.ix (.v 0) (.c (.int 0))) .nl)))) σ S=.ok false S:=λ{x r σ} e m hm h1 h2 =>
  cP (bE (k:=true) (bN (ay (aa (r_v e) (aa r_c (aa r_c ai))) (gH h.row m hm h1 h2)))) (k:=false) (bE (k:=true) (iu (aO (aa (ao (r_v e) r_c (av (d:=.str x) (lW _))) ai) (i8 rfl))))
 have word:∀{x:Str} {r:WP} {σ:Sg} (y:Str) {k:Bool} (e:bq σ 0 S=.ok (.tup (.str x::r)) S) (hk:(x==y)=k),ev sub (ah sub P (n+2)) (.cmp .eq (.ix (.v 0) (.c (.int 0))) (.c (.str y))) σ S=.ok (.bl k) S:=λy k e hk=>by
  rw[<- hk]; exact aX (ao (r_v e) r_c (av (lW _))) r_c (lH _ _ _)
 have two:∀{x y:D} {σ:Sg} (e:bq σ 0 S=.ok (.tup [x,y]) S),evT sub (ah sub P (n+2)) (.cmp .ne (.bi .len (.cs (.v 0) .nl)) (.c (.int 2))) σ S=.ok false S:=λe =>
  aT (aX (aO (aa (r_v e) ai) dw) r_c (Hj _ _ _))
 cases s with
 | val v =>
  exact x_call h.source rfl (ak (aG (first (x:="value") rfl 2 rfl (by decide) (by decide)) aH) (ak (aG (aT (word "work" (x:="value") rfl (by decide +kernel))) aH) (ak (aG (two rfl) aH) (ak (aG (aT (word "input" (x:="value") rfl (by decide +kernel))) aH)
   (aB (fu (word "value" (x:="value") rfl (by decide +kernel)) (ay (aa (ao (r_v rfl) r_c (av rfl)) ai) (tZ h hs.1 hs.2)))))))) (dF _ _)
 | inp k =>
  have hk:k<streams:=hs
  exact x_call h.source rfl (ak (aG (first (x:="input") rfl 2 rfl (by decide) (by decide)) aH) (ak (aG (aT (word "work" (x:="input") rfl (by decide +kernel))) aH) (ak (aG (two rfl) aH) (bO (bw (aT (word "input" (x:="input") rfl (by decide +kernel)))
   (aB (ay (aa (ao (r_v rfl) r_c (av rfl)) (aa r_c (aa (aP (r_v rfl) r_c (eY _ _ _)) ai))) (cD h.whole (XT k) (by omega))))))))) (dF _ _)
 | wrk w b =>
  exact x_call h.source rfl (ak (aG (first (x:="work") rfl 3 rfl (by decide) (by decide)) aH) (bO (bw (aT (word "work" (x:="work") rfl (by decide +kernel))) (aB (ay (aa (r_v rfl) (aa (r_v rfl) (aa (r_v rfl) ai))) (Jd h hs.1 hs.2)))))) (dF _ _)
theorem zG{x:Str}(h:x∈d9):cmD .cW (.str x) (.tup [(.str "plus"),(.str "less"),(.str "times"),(.str "least"),(.str "greatest")]) S=.ok (.bl false) S:=by
 have h:x = "plus"\/x = "less"\/x = "times"\/x = "least"\/x = "greatest":=by simpa [d9] using h
 rcases h with rfl|rfl|rfl|rfl|rfl<;>rfl
theorem xX(h:HB P){w:Wk}{own many streams ncrews:Nat}(hw:w.WF own many streams ncrews):ah sub P (n+4) "is_work" [w.toD,.int own,.int many,.int streams,.int ncrews] S=.ok (.bl true) S:=by
 have hc:=hw.crew;obtain⟨T,e⟩:=ku (sub:=sub) (cf:=ah sub P (n+3)) (σ:=[some w.toD,some (.int own),some (.int many),some (.int streams),some (.int ncrews),some (.tup (w.srcs.map Srs.toD))]) (S:=S) (i:=7) (k:=2) (el:=.call "is_source" (.cs (.v 7) (.cs (.v 1) (.cs (.v 2) (.cs (.v 3) .nl))))) (a:=.v 5) (l:=w.srcs) (f:=Srs.toD) (r_v rfl) (by have:=hw.some; omega) (λs hm=>ay (aa (r_v rfl) (aa (r_v rfl) (aa (r_v rfl) (aa (r_v rfl) ai)))) (zy h (hw.srcs s hm)))
 refine x_call h.work rfl (ak (aG (bE (k:=true) (bN (ay (aa (r_v rfl) (aa r_c (aa r_c ai))) (gH h.row 5 rfl (by decide) (by decide))))) aH)
  (ak (aG (cP (bE (k:=true) (bN (ay (aa (ao (r_v rfl) r_c (av rfl)) (aa r_c (aa (aP (r_v rfl) r_c (eY _ _ _)) ai))) (cD h.whole (XT _) (by omega))))) (k:=false)
   (bE (k:=true) (bN (ay (aa (ao (r_v rfl) r_c (av rfl)) (aa r_c (aa r_c ai))) (cD h.whole (XB.mpr hw.long.1) (XB.mpr hw.long.2)))))) aH)
  (ak (aG (cP (bE (k:=true) (iu (aO (aa (ao (r_v rfl) r_c (av rfl)) ai) (i8 rfl)))) (aT (aX (ao (r_v rfl) r_c (av rfl)) r_c (zG hw.doing)))) aH)
  (ak (aE (ao (r_v rfl) r_c (av rfl)))
  (ak (aG (cP (bE (k:=true) (bN (ay (aa (r_v rfl) (aa r_c (aa r_c ai))) (g9 h.row (ds:=w.srcs.map Srs.toD) ?_ ?_)))) (k:=false) (bE (k:=true) (bN (ay (aa (ao (r_v rfl) r_c (av rfl)) ai) (x_ h hw.three hw.starts))))) aH)
  (aB e)))))) (jl _ _ _)
 ·rw[Zc]; have:=hw.some; omega
 ·rw[Zc]; have:=hw.some; omega
theorem yg(h:HB P){ws:List Wk}{streams ncrews:Nat}(h1:1<=ws.length)(h2:ws.length<=8)(hw:∀(i:Nat) w,ws[i]?=some w->w.WF i ws.length streams ncrews):ah sub P (n+5) "are_works" [.tup (ws.map Wk.toD),.int streams,.int ncrews] S=.ok (.bl true) S:=by
 have hc:=t8 (sub:=sub) (cf:=ah sub P (n+4)) (k:=3) (is:=[5,6]) (el:=.call "is_work" (.cs (.v 6) (.cs (.v 5) (.cs (.v 3) (.cs (.v 1) (.cs (.v 2) .nl)))))) (it:=.iEnum (.v 0))
  (σ:=[some (.tup (ws.map Wk.toD)),some (.int streams),some (.int ncrews),some (.int ws.length)]) (S:=S) (S1:=S) (s:=⟨num 0 (ws.map Wk.toD),none,ws.map Wk.toD⟩) (g:=λ_=>.bl true) rfl rfl (λd hd=>by
   obtain⟨i,hi,rfl⟩:=List.mem_iff_getElem.mp hd;have hi':i<ws.length:=by rw[j4,Zc] at hi; exact hi
   refine⟨_,pP _ 0 i hi,rfl,?_⟩;rw[XC,Xq];exact ay (aa (r_v rfl) (aa (r_v rfl) (aa (r_v rfl) (aa (r_v rfl) (aa (r_v rfl) ai))))) (xX h (hw i _ (Zb hi')))) (by unfold aM; rw[j4,Zc]; omega)
 have ha:ev sub (ah sub P (n+4)) (.bi .all (.cs (.comp 3 (.call "is_work" (.cs (.v 6) (.cs (.v 5) (.cs (.v 3) (.cs (.v 1) (.cs (.v 2) .nl)))))) (.many [5,6]) (.iEnum (.v 0)) .nl) .nl)) [some (.tup (ws.map Wk.toD)),some (.int streams),some (.int ncrews),some (.int ws.length)] S=.ok (.bl true) (S++[.lst ((num 0 (ws.map Wk.toD)).map λ_=>.bl true)]) :=
  aO (aa hc ai) ((vM _ λ_=>true).trans (by rw[Xn.mpr λ_ _=>rfl]))
 refine x_call h.works rfl (ak (aG (bE (k:=true) (bN (ay (aa (r_v rfl) (aa r_c (aa r_c ai))) (g9 h.row (ds:=ws.map Wk.toD) ?_ ?_)))) aH)
  (ak (aE (d:=.int ws.length) (S1:=S) ?_) (aB ha))) (jl _ _ _)
 ·rw[Zc]; omega
 ·rw[Zc]; omega
 ·have:=dw (sub:=sub) (S:=S) (xs:=ws.map Wk.toD);rw[Zc] at this;exact aO (aa (r_v rfl) ai) this
theorem ur(h:HB P){d0:D}{many:Nat}{s:Src}(hs:∀T,aF s T=.ok () T):∀(l:List Nat) (least:Nat) (x:Option D),eN many least l->∃σ',forL s (aK sub (ah sub P (n+1)) (.one 3) (.seq (.ite (.not (.call "is_whole" (.cs (.v 3) (.cs (.v 2) (.cs (.bin .sub (.v 1) (.c (.int 1))) .nl))))) (.ret (.c (.bl false))) .skip) (.set (.one 2) (.bin .add (.v 3) (.c (.int 1))))))
   (l.map au) [some d0,some (.int many),some (.int least),x] S=.ok (.nx σ') S
 | [],least,x,_=>⟨_,by rw[Qt,kR,hs,Res.aj]⟩
 | k::r,least,x,⟨h1,h2,h3⟩=>by
  obtain⟨σ',e⟩:=ur h hs r (k+1) (some (au k)) h3;refine⟨σ',?_⟩;rw[ZK,jf,hs,Res.aj,o8,ak (aG (bE (k:=true) (bN (ay (aa (r_v rfl) (aa (r_v rfl) (aa (aP (r_v rfl) r_c (eY _ _ _)) ai))) (cD h.whole (XB.mpr h1) (by omega))))) aH) (aE (aP (r_v rfl) r_c (cg _ _ _)))];exact e
theorem qV{many:Nat}:∀{l:List Nat} {least:Nat},eN many least l->least<=many->l.length+least<=many
 | [],_,_,h=>by simpa using h
 | k::r,least,⟨h1,h2,h3⟩,_=>by
  have:=qV h3 (by omega);simp only[ZF]; omega
theorem IJ(h:HB P){os:List Nat}{many:Nat}(h1:1<=os.length)(hr:eN many 0 os):ah sub P (n+2) "are_outs" [.tup (os.map au),.int many] S=.ok (.bl true) S:=by
 have hl:=qV hr (Xj _);obtain⟨σ',e⟩:=ur (sub:=sub) (n:=n) (S:=S) (d0:=.tup (os.map au)) (s:=⟨os.map au,none,os.map au⟩) h (λ_=>rfl) os 0 none hr
 exact x_call h.outs rfl (ak (aG (bE (k:=true) (bN (ay (aa (r_v rfl) (aa r_c (aa (r_v rfl) ai))) (g9 h.row (ds:=os.map au) (by rw[Zc]; omega) (by rw[Zc]; omega))))) aH)
  (ak (aE r_c) (ak (bP (ck (r_v rfl) rfl) e) (aB r_c)))) (dF _ _)
theorem AS(h:HB P){l:Lp}(hl:l.WF):ah sub P (n+6) "is_loop" [l.toD] S=.ok (.bl true) S:=by
 have e1:=dw (sub:=sub) (S:=S) (xs:=l.crews.map aZ);have e2:=dw (sub:=sub) (S:=S) (xs:=l.works.map Wk.toD);rw[Zc] at e1 e2
 exact x_call h.loop rfl (ak (aG (bE (k:=true) (bN (ay (aa (r_v rfl) (aa r_c (aa r_c ai))) (gH h.row 4 rfl (by decide) (by decide))))) aH)
  (ak (aG (cP (bE (k:=true) (bN (ay (aa (ao (r_v rfl) r_c (av rfl)) (aa r_c (aa r_c ai))) (cD h.whole (XT _) (XB.mpr hl.streams))))) (k:=false)
   (bE (k:=true) (bN (ay (aa (ao (r_v rfl) r_c (av rfl)) ai) (En h hl.ncrews.1 hl.ncrews.2 hl.crews))))) aH)
  (aB (fu (ay (aa (ao (r_v rfl) r_c (av rfl)) (aa (ao (r_v rfl) r_c (av rfl)) (aa (aO (aa (ao (r_v rfl) r_c (av rfl)) ai) e1) ai))) (yg h hl.nworks.1 hl.nworks.2 hl.works))
   (ay (aa (ao (r_v rfl) r_c (av rfl)) (aa (aO (aa (ao (r_v rfl) r_c (av rfl)) ai) e2) ai)) (IJ h hl.nouts hl.outs)))))) (dF _ _)
end RL

namespace RL
open PySem EV GO
section
local macro_rules|`(tactic| done)=>`(tactic| (first|with_reducible exact r_c|((with_reducible apply r_v); exact rfl)|with_reducible apply aP|with_reducible apply aX|with_reducible apply ao|with_reducible apply ay|with_reducible exact ai|with_reducible apply aa|with_reducible apply aO|with_reducible apply gg|with_reducible apply ee|with_reducible apply bV|((with_reducible apply zU); exact rfl)|with_reducible apply kD|with_reducible apply bN|with_reducible apply iu|with_reducible apply aT|with_reducible exact cg _ _ _|with_reducible exact eY _ _ _|((with_reducible apply kF); first|decide|assumption|omega)|((with_reducible apply fJ); first|decide|omega)|((with_reducible apply wD); first|decide|omega)|((with_reducible apply zM); decide)|with_reducible exact jQ _ _ _|with_reducible exact jY _ _ _|with_reducible exact jq _ _ _|with_reducible exact nM _ _ _|with_reducible exact fX _ _ _|with_reducible exact lH _ _ _|((with_reducible apply rj); assumption)|with_reducible exact j6|with_reducible exact uB|with_reducible exact dw|with_reducible exact vK|((with_reducible apply av); exact rfl)|with_reducible assumption|((apply kF); first|decide|assumption)|apply fX|apply lH))
noncomputable def vD:Fn:=⟨2,2,(.seq (.ite (.cmp .lt (.v 1) (.bi .len (.cs (.v 0) .nl)))
  (.ret (.ix (.v 0) (.v 1)))
  .skip)
 (.seq (.ite (.cmp .eq (.v 0) (.lst .nl))
  (.ret (.c (.int 0)))
  .skip)
 (.ret (.bin .add (.bin .mul (.ix (.v 0) (.bin .mod (.v 1) (.bi .len (.cs (.v 0) .nl)))) (.c (.int 31))) (.v 1)))))⟩
noncomputable def qc:Fn:=⟨3,4,(.seq (.set (.one 3) (.bin .mod (.bin .mul (.bin .add (.bin .add (.call "_law_cell_at" (.cs (.v 0) (.cs (.v 1) .nl))) (.bin .mul (.c (.int 7919)) (.v 1))) (.c (.int 1))) (.c (.int 48271))) (.c (.int 2147483647))))
 (.ret (.bin .mod (.bin .mod (.bin .add (.bin .add (.bin .mul (.v 3) (.v 3)) (.bin .mul (.c (.int 7)) (.v 3))) (.v 1)) (.c (.int 2147483629))) (.v 2))))⟩
noncomputable def uG:Fn:=⟨5,7,(.seq (.set (.one 5) (.call "_law_mixed" (.cs (.v 0) (.cs (.v 1) (.cs (.c (.int 7)) .nl)))))
 (.seq (.ite (.or (.cmp .eq (.v 5) (.c (.int 0))) (.and (.cmp .eq (.v 5) (.c (.int 1))) (.cmp .eq (.v 2) (.c (.int 0)))))
  (.ret (.tup (.cs (.c (.str "value")) (.cs (.call "_law_mixed" (.cs (.v 0) (.cs (.bin .add (.v 1) (.c (.int 1))) (.cs (.c (.int 9973)) .nl)))) .nl))))
  .skip)
 (.seq (.ite (.cmp .eq (.v 5) (.c (.int 1)))
  (.ret (.tup (.cs (.c (.str "input")) (.cs (.call "_law_mixed" (.cs (.v 0) (.cs (.bin .add (.v 1) (.c (.int 1))) (.cs (.v 2) .nl)))) .nl))))
  .skip)
 (.seq (.set (.one 6) (.call "_law_mixed" (.cs (.v 0) (.cs (.bin .add (.v 1) (.c (.int 1))) (.cs (.v 3) .nl)))))
 (.seq (.ite (.and (.cmp .lt (.v 6) (.v 4)) (.cmp .lt (.v 5) (.c (.int 5))))
  (.ret (.tup (.cs (.c (.str "work")) (.cs (.v 6) (.cs (.c (.int 0)) .nl)))))
  .skip)
 (.ret (.tup (.cs (.c (.str "work")) (.cs (.v 6) (.cs (.bin .add (.c (.int 1)) (.call "_law_mixed" (.cs (.v 0) (.cs (.bin .add (.v 1) (.c (.int 2))) (.cs (.c (.int 3)) .nl))))) .nl))))))))))⟩
noncomputable def vd:Fn:=⟨4,12,(.seq (.set (.many [4,5,6]) (.v 2))
 (.seq (.set (.one 7) (.lst .nl))
 (.seq (.forS (.one 8) (.iRng (.cs (.bin .add (.c (.int 1)) (.call "_law_mixed" (.cs (.v 0) (.cs (.bin .add (.v 1) (.c (.int 2))) (.cs (.c (.int 2)) .nl))))) .nl))
  (.ex (.me .append (.v 7) (.cs (.call "_law_source" (.cs (.v 0) (.cs (.bin .add (.bin .add (.v 1) (.c (.int 3))) (.bin .mul (.c (.int 3)) (.v 8))) (.cs (.v 4) (.cs (.v 6) (.cs (.v 3) .nl)))))) .nl))))
 (.seq (.set (.one 9) (.ix (.lst (.cs (.c (.str "plus")) (.cs (.c (.str "less")) (.cs (.c (.str "times")) (.cs (.c (.str "least")) (.cs (.c (.str "greatest")) .nl)))))) (.call "_law_mixed" (.cs (.v 0) (.cs (.v 1) (.cs (.c (.int 5)) .nl))))))
 (.seq (.set (.one 10) (.bin .add (.c (.int 1)) (.call "_law_mixed" (.cs (.v 0) (.cs (.bin .add (.v 1) (.c (.int 1))) (.cs (.ix (.lst (.cs (.c (.int 2)) (.cs (.c (.int 5)) .nl))) (.call "_law_mixed" (.cs (.v 0) (.cs (.bin .add (.v 1) (.c (.int 2))) (.cs (.c (.int 2)) .nl))))) .nl))))))
 (.seq (.set (.one 11) (.bi .tuple (.cs (.comp 2 (.call "_law_mixed" (.cs (.v 0) (.cs (.bin .add (.v 1) (.v 13)) (.cs (.c (.int 9973)) .nl)))) (.one 13) (.iSeq (.tup (.cs (.c (.int 0)) (.cs (.c (.int 5)) (.cs (.c (.int 6)) .nl))))) .nl) .nl)))
 (.ret (.tup (.cs (.call "_law_mixed" (.cs (.v 0) (.cs (.bin .add (.v 1) (.c (.int 7))) (.cs (.v 5) .nl)))) (.cs (.v 10) (.cs (.v 9) (.cs (.bi .tuple (.cs (.v 7) .nl)) (.cs (.v 11) .nl)))))))))))))⟩
noncomputable def uo:Fn:=⟨3,9,(.seq (.set (.one 3) (.call "_law_mixed" (.cs (.v 0) (.cs (.v 1) (.cs (.c (.int 3)) .nl)))))
 (.seq (.set (.one 4) (.bin .add (.c (.int 1)) (.call "_law_mixed" (.cs (.v 0) (.cs (.bin .add (.v 1) (.c (.int 1))) (.cs (.v 2) .nl))))))
 (.seq (.set (.one 5) (.lst .nl))
 (.seq (.forS (.one 6) (.iRng (.cs (.bin .add (.c (.int 1)) (.call "_law_mixed" (.cs (.v 0) (.cs (.bin .add (.v 1) (.c (.int 2))) (.cs (.c (.int 2)) .nl))))) .nl))
  (.ex (.me .append (.v 5) (.cs (.tup (.cs (.bin .add (.c (.int 1)) (.call "_law_mixed" (.cs (.v 0) (.cs (.bin .add (.bin .add (.v 1) (.c (.int 3))) (.v 6)) (.cs (.c (.int 2)) .nl))))) (.cs (.bin .add (.c (.int 1)) (.bin .fdiv (.call "_law_mixed" (.cs (.v 0) (.cs (.bin .add (.bin .add (.v 1) (.c (.int 5))) (.v 6)) (.cs (.c (.int 5)) .nl)))) (.c (.int 2)))) .nl))) .nl))))
 (.seq (.set (.one 7) (.lst .nl))
 (.seq (.forS (.one 6) (.iRng (.cs (.v 4) .nl))
  (.ex (.me .append (.v 7) (.cs (.call "_law_work" (.cs (.v 0) (.cs (.bin .add (.bin .add (.v 1) (.c (.int 7))) (.bin .mul (.c (.int 9)) (.v 6))) (.cs (.tup (.cs (.v 3) (.cs (.bi .len (.cs (.v 5) .nl)) (.cs (.v 4) .nl)))) (.cs (.v 6) .nl))))) .nl))))
 (.seq (.set (.one 8) (.comp 2 (.v 10) (.one 10) (.iRng (.cs (.v 4) .nl)) (.cmp .gt (.call "_law_mixed" (.cs (.v 0) (.cs (.bin .add (.bin .add (.v 1) (.c (.int 7))) (.v 10)) (.cs (.c (.int 3)) .nl)))) (.c (.int 0)))))
 (.seq (.ite (.cmp .eq (.v 8) (.lst .nl))
  (.set (.one 8) (.lst (.cs (.bin .sub (.v 4) (.c (.int 1))) .nl)))
  .skip)
 (.ret (.tup (.cs (.v 3) (.cs (.bi .tuple (.cs (.v 5) .nl)) (.cs (.bi .tuple (.cs (.v 7) .nl)) (.cs (.bi .tuple (.cs (.v 8) .nl)) .nl))))))))))))))⟩
theorem Srs.cl(s:Srs):s.toD.cl:=by cases s<;>rfl
theorem Wk.cl(w:Wk):w.toD.cl:=by
 show(true&&(true&&(true&&(D.lows 0 (w.srcs.map Srs.toD)&&(D.lows 0 (w.starts.map .int)&&true)))))=true;rw[lA Srs.cl,DY]; rfl
theorem Lp.cl(l:Lp):l.toD.cl:=by
 show(true&&(D.lows 0 (l.crews.map aZ)&&(D.lows 0 (l.works.map Wk.toD)&&(D.lows 0 (l.outs.map au)&&true))))=true;rw[lA (f:=aZ) λ_=>rfl,lA Wk.cl,lA (f:=au) λ_=>rfl]; rfl
theorem gX{sub:Sub}{P:Prg}{n:Nat}{S:af}(h:HB P){l:Lp}(hw:l.WF):ah sub P (n+7) "checked" [l.toD] S=.ok l.toD S :=
 x_call h.checked rfl (ak (aG (bE (k:=true) (bN (ay (aa (r_v rfl) ai) (AS h hw)))) aH) (aB (r_v rfl))) (bh l.cl ZO)
noncomputable def cellAt(ns:Wx)(k:Int):Int:=if k<ns.length then ns.getD k.toNat 0 else if ns.length=0 then 0 else ns.getD (k%(ns.length:Int)).toNat 0*31+k
noncomputable def drawn(ns:Wx)(k:Int):Int:=(cellAt ns k+7919*k+1)*48271%2147483647
noncomputable def mixed(ns:Wx)(k m:Int):Int:=(drawn ns k*drawn ns k+7*drawn ns k+k)%2147483629%m
theorem Je(ns:Wx)(k:Int){m:Int}(h:0<m):0<=mixed ns k m/\mixed ns k m<m:=⟨Wa _ (by omega),QO _ h⟩
structure HG(P:Prg):Prop where
 cell:Has P "_law_cell_at" vD
 mix:Has P "_law_mixed" qc
 source:Has P "_law_source" uG
 work:Has P "_law_work" vd
 loop:Has P "_law_loop" uo
variable{sub:Sub}{P:Prg}{n:Nat}{S:af}
theorem vF{ns:Wx}{k:Int}(h0:0<=k)(h:k<ns.length):atI (ns.map D.int) k=some (.int (ns.getD k.toNat 0)):=by
 obtain⟨j,rfl⟩:=Int.eq_ofNat_of_zero_le h0;rw[oS];have hj:j<ns.length:=by omega
 simp[hj]
theorem eq_empty(ns:Wx)(S:af):cmD .eq (.fro (ns.map .int)) (.loc S.length) (S++[.lst []])=.ok (.bl (decide (ns.length=0))) (S++[.lst []]):=by
 rw[pJ]
 have:eqD deep (S++[.lst []]) (.fro (ns.map .int)) (.loc S.length)=some (decide (ns.length=0)):=by
  show(match some (ns.map D.int),listAt (S++[.lst []]) S.length with|some xs,some ys=>if xs.length=ys.length then cu _ xs ys else some false|_,_=>none)=_;have e:listAt (S++[.lst []]) S.length=some []:=by unfold listAt; simp
  rw[e];cases ns<;>simp[cu]
 rw[this]
theorem DJ(h:HG P)(ns:Wx){k:Int}(hk:0<=k):ah sub P (n+1) "_law_cell_at" [.fro (ns.map .int),.int k] S=.ok (.int (cellAt ns k)) S:=by
 have hl:∀S:af,biD sub .len [.fro (ns.map .int)] S=.ok (.int ns.length) S:=λS=>by
  have:=vK (sub:=sub) (S:=S) (xs:=ns.map .int);rw[Zc] at this;exact this
 have e1:∀{b:Bool},decide (k<(ns.length:Int))=b->evT sub (ah sub P n) (.cmp .lt (.v 1) (.bi .len (.cs (.v 0) .nl))) [some (.fro (ns.map .int)),some (.int k)] S=.ok b S:=λe=>t_k (aT (aX (r_v rfl) (aO (aa (r_v rfl) ai) (hl _)) (jQ _ _ _))) e
 have e2:∀{b:Bool},decide (ns.length=0)=b->evT sub (ah sub P n) (.cmp .eq (.v 0) (.lst .nl)) [some (.fro (ns.map .int)),some (.int k)] S=.ok b (S++[.lst []]):=λe=>t_k (aT (aX (r_v rfl) (bV ai rfl) (eq_empty ns S))) e
 unfold cellAt
 by_cases h1:k<ns.length
 ·rw[Zf h1];exact x_call h.cell rfl (bO (bw (e1 (Zi h1)) (aB (ao (r_v rfl) (r_v rfl) (qM (vF hk h1)))))) (gm _ _)
 rw[Zg h1]
 by_cases h2:ns.length=0
 ·rw[Zf h2];exact x_call h.cell rfl (ak (aG (e1 (Zw h1)) aH) (bO (bw (e2 (Zi h2)) (aB r_c)))) (ic _ _ _)
 ·rw[Zg h2];have h3:0<(ns.length:Int):=by omega
  exact x_call h.cell rfl (ak (aG (e1 (Zw h1)) aH) (ak (aG (e2 (Zw h2)) aH) (aB (aP (aP (ao (r_v rfl) (aP (r_v rfl) (aO (aa (r_v rfl) ai) (hl _)) (kF h3)) (qM (vF (Wa k (by omega)) (QO k h3)))) r_c (wD (by decide))) (r_v rfl) (cg _ _ _))))) (ic _ _ _)
theorem Bc(h:HG P)(ns:Wx){k m:Int}(hk:0<=k)(hm:0<m):ah sub P (n+2) "_law_mixed" [.fro (ns.map .int),.int k,.int m] S=.ok (.int (mixed ns k m)) S:=by
 have hc:=DJ (sub:=sub) (n:=n) (S:=S) h ns hk;have h1:0<=drawn ns k:=Wa _ (by decide);have h2:drawn ns k<2147483647:=QO _ (by decide);refine x_call h.mix rfl (ak (aE (d:=.int (drawn ns k)) (S1:=S) ?_) (aB (d:=.int (mixed ns k m)) (S1:=S) ?_)) (bh rfl (by simp))<;>(repeat' done)
structure Mix(P:Prg)(mx:List Int->Int->Int->Int):Prop where
 ok:∀{sub:Sub} {n:Nat} {S:af} (ns:Wx) {k m:Int},0<=k->0<m->ah sub P (n+2) "_law_mixed" [.fro (ns.map .int),.int k,.int m] S=.ok (.int (mx ns k m)) S
 rng:∀(ns:Wx) (k:Int) {m:Int},0<m->0<=mx ns k m/\mx ns k m<m
theorem Ih(h:HG P):∃mx,Mix P mx:=⟨mixed,λns _ _ hk hm=>Bc h ns hk hm,λns k _ h=>Je ns k h⟩
variable{mx:List Int->Int->Int->Int}
noncomputable def eU(mx:List Int->Int->Int->Int)(ns:Wx)(at':Int)(streams many own:Nat):Srs :=
 if mx ns at' 7=0\/(mx ns at' 7=1/\streams=0) then .val (mx ns (at' + 1) 9973)
 else if mx ns at' 7=1 then .inp (mx ns (at' + 1) streams).toNat
 else if(mx ns (at' + 1) many).toNat<own/\mx ns at' 7<5 then .wrk (mx ns (at' + 1) many).toNat 0
 else .wrk (mx ns (at' + 1) many).toNat (1+mx ns (at' + 2) 3).toNat
theorem BO(S:af)(s:Srs):leave S s.toD S=.ok s.toD S:=bh s.cl (by simp)
theorem toNat_cast{i:Int}(h:0<=i):((i.toNat:Nat):Int)=i:=Int.toNat_of_nonneg h
theorem Gn(h:HG P)(M:Mix P mx)(ns:Wx){at':Int}{streams many own:Nat}(hat:0<=at')(hm:0<many):ah sub P (n+3) "_law_source" [.fro (ns.map .int),.int at',.int streams,.int many,.int own] S=.ok (eU mx ns at' streams many own).toD S:=by
 have hm':(0:Int)<many:=by omega
 have a1:0<=at' + 1:=by omega
 have a2:0<=at' + 2:=by omega
 have m0:=M.ok (sub:=sub) (n:=n) (S:=S) ns (k:=at') (m:=7) hat (by decide);have r3:=M.rng ns (at' + 1) hm';have m1:=M.ok (sub:=sub) (n:=n) (S:=S) ns (k:=at' + 1) (m:=9973) a1 (by decide);have m3:=M.ok (sub:=sub) (n:=n) (S:=S) ns (k:=at' + 1) (m:=many) a1 hm';have m4:=M.ok (sub:=sub) (n:=n) (S:=S) ns (k:=at' + 2) (m:=3) a2 (by decide);have r4:=M.rng ns (at' + 2) (show(0:Int)<3 by decide);unfold eU;generalize hw:mx ns at' 7=w at m0;refine x_call (S1:=S) h.source rfl (ak (aE (d:=.int w) (S1:=S) (by(repeat' done))) ?_) (BO S _)
 by_cases w0:w=0\/(w=1/\streams=0)
 ·rw[Zf w0];refine bO (bw (S1:=S) ?_ (show _=Res.ok (Fl.rt (.tup [.str "value",.int _])) S from aB (by(repeat' done))));rcases w0 with rfl|⟨rfl,rfl⟩
  ·exact lZ (t_k (by(repeat' done)) rfl)
  ·exact cP (t_k (S1:=S) (by(repeat' done)) rfl) (fm (t_k (S1:=S) (by(repeat' done)) rfl) (t_k (by(repeat' done)) rfl))
 ·rw[Zg w0];refine ak (aG (S1:=S) ?_ aH) ?_
  ·by_cases z:w=0
   ·exact(w0 (.inl z)).elim
   ·by_cases z1:w=1
    ·have hs2:¬(streams=0):=λq=>w0 (.inr ⟨z1,q⟩)
     exact cP (t_k (S1:=S) (by(repeat' done)) (Qn z)) (fm (t_k (S1:=S) (by(repeat' done)) (Wt.mpr z1)) (t_k (by(repeat' done)) (by simp[hs2])))
    ·exact cP (t_k (S1:=S) (by(repeat' done)) (Qn z)) (kL (t_k (by(repeat' done)) (Qn z1)))
  ·by_cases w1:w=1
   ·have hs':(0:Int)<streams:=by have:¬streams=0:=λq=>w0 (.inr ⟨w1,q⟩); omega
    have m2:=M.ok (sub:=sub) (n:=n) (S:=S) ns (k:=at' + 1) (m:=streams) a1 hs';have r2:=toNat_cast (M.rng ns (at' + 1) hs').1;rw[Zf w1];refine bO (bw (S1:=S) (t_k (by(repeat' done)) (Wt.mpr w1)) ?_);show _=Res.ok (Fl.rt (.tup [.str "input",.int _])) S;rw[r2];exact aB (by(repeat' done))
   ·rw[Zg w1];have t3:=toNat_cast r3.1;generalize hv:mx ns (at' + 1) many=v at m3 r3 t3;refine ak (aG (S1:=S) (t_k (by(repeat' done)) (Qn w1)) aH) (ak (aE (d:=.int v) (S1:=S) (by(repeat' done))) ?_)
    by_cases w2:v.toNat<own/\w<5
    ·rw[Zf w2];refine bO (bw (S1:=S) (fm (t_k (S1:=S) (by(repeat' done)) (Zi (by omega))) (t_k (by(repeat' done)) (Zi w2.2))) ?_);show _=Res.ok (Fl.rt (.tup [.str "work",.int _,.int 0])) S;rw[t3];exact aB (by(repeat' done))
    ·rw[Zg w2];refine ak (aG (S1:=S) ?_ aH) ?_
     ·by_cases w3:v<own
      ·exact fm (t_k (S1:=S) (by(repeat' done)) (Zi w3)) (t_k (by(repeat' done)) (Zw λz=>w2 ⟨by omega,z⟩))
      ·exact kL (t_k (by(repeat' done)) (Zw w3))
     ·show _=Res.ok (Fl.rt (.tup [.str "work",.int _,.int _])) S;rw[t3,toNat_cast (show 0<=1+mx ns (at' + 2) 3 by omega)];exact aB (by(repeat' done))
theorem Ho(M:Mix P mx)(ns:Wx)(at':Int){streams many own:Nat}(hm:0<many):(eU mx ns at' streams many own).WF own many streams:=by
 have r1:=M.rng ns (at' + 1) (show(0:Int)<9973 by decide);have r3:=M.rng ns (at' + 1) (show(0:Int)<many by omega);have r4:=M.rng ns (at' + 2) (show(0:Int)<3 by decide);unfold eU
 by_cases w0:mx ns at' 7=0\/(mx ns at' 7=1/\streams=0)
 ·rw[Zf w0]; exact⟨r1.1,by omega⟩
 ·rw[Zg w0]
  by_cases w1:mx ns at' 7=1
  ·rw[Zf w1];have hs:streams≠0:=λz=>w0 (.inr ⟨w1,z⟩)
   have r2:=M.rng ns (at' + 1) (show(0:Int)<streams by omega);show _<streams;omega
  ·rw[Zg w1];split
   ·rename_i h; exact⟨by omega,by simpa using h.1⟩
   ·refine⟨by omega,?_⟩;rw[Zg (by omega)];omega
noncomputable def cR(i:Int):Int:=if i=0 then 2 else 5
noncomputable def dY(mx:List Int->Int->Int->Int)(ns:Wx)(at':Int)(streams ncrews many own:Nat):Wk where
 crew:=(mx ns (at' + 7) ncrews).toNat
 long:=(1+mx ns (at' + 1) (cR (mx ns (at' + 2) 2))).toNat
 doing:=d9.getD (mx ns at' 5).toNat "plus"
 srcs:=(List.range (1+mx ns (at' + 2) 2).toNat).map λ(k:Nat)=>eU mx ns (at' + 3+3*(k:Int)) streams many own
 starts:=[mx ns (at' + 0) 9973,mx ns (at' + 5) 9973,mx ns (at' + 6) 9973]
theorem eZ(k:Nat):au k=.int (k:Int):=rfl
theorem D0{i:Int}(h:0<=i/\i<2):atI [D.int 2,D.int 5] i=some (.int (cR i)):=by
 rcases(show i=0\/i=1 by omega) with rfl|rfl<;>rfl
theorem DA{i:Int}(h:0<=i/\i<5):atI [D.str "plus",D.str "less",D.str "times",D.str "least",D.str "greatest"] i=some (.str (d9.getD i.toNat "plus")):=by
 obtain⟨k,rfl⟩:=Int.eq_ofNat_of_zero_le h.1;rw[oS];have hk:k<5:=by omega
 exact(by decide:∀k:Fin 5,[D.str "plus",D.str "less",D.str "times",D.str "least",D.str "greatest"][k.1]?=some (.str (d9.getD ((k.1:Nat):Int).toNat "plus"))) ⟨k,hk⟩
theorem Ez(h:HG P)(M:Mix P mx)(ns:Wx){at':Int}{streams ncrews many own:Nat}(hat:0<=at')(hm:0<many)(hc:0<ncrews) :
  ah sub P (n+4) "_law_work" [.fro (ns.map .int),.int at',.tup [.int streams,.int ncrews,.int many],.int own] S=.ok (dY mx ns at' streams ncrews many own).toD S:=by
 have r2:=M.rng ns (at' + 2) (show(0:Int)<2 by decide);have rl:0<cR (mx ns (at' + 2) 2):=by unfold cR; split<;>decide
 have hn:(0:Int)<ncrews:=by omega
 have m (k m:Int) (hk:0<=k) (hm:0<m) (S:af):ah sub P (n+3) "_law_mixed" [.fro (ns.map .int),.int k,.int m] S=.ok (.int (mx ns k m)) S:=M.ok ns hk hm;have m2:=m (at' + 2) 2 (by omega) (by decide);have m0:=m at' 5 hat (by decide);have m7:=m (at' + 7) ncrews (by omega) hn;have m1:=m (at' + 1) (cR (mx ns (at' + 2) 2)) (by omega) rl;have hw:=DA (M.rng ns at' (show(0:Int)<5 by decide));have h25:=D0 r2
 have val:(dY mx ns at' streams ncrews many own).toD=.tup [.int (mx ns (at' + 7) ncrews),.int (1+mx ns (at' + 1) (cR (mx ns (at' + 2) 2))),.str (d9.getD (mx ns at' 5).toNat "plus"),
   .tup ((List.range (1+mx ns (at' + 2) 2).toNat).map λ(k:Nat)=>(eU mx ns (at' + 3+3*(k:Int)) streams many own).toD),.tup [.int (mx ns (at' + 0) 9973),.int (mx ns (at' + 5) 9973),.int (mx ns (at' + 6) 9973)]]:=by
  have e1:=toNat_cast (M.rng ns (at' + 7) hn).1;have e2:=toNat_cast (i:=1+mx ns (at' + 1) (cR (mx ns (at' + 2) 2))) (by have:=M.rng ns (at' + 1) rl; omega);unfold dY Wk.toD;rw[e1,e2,Xl]; rfl
 have hcl:=(dY mx ns at' streams ncrews many own).cl;rw[val] at hcl ⊢;generalize hq:(1+mx ns (at' + 2) 2).toNat=q at hcl;have hq':(1+mx ns (at' + 2) 2)=(q:Int):=by omega
 obtain⟨x,loop⟩:=lQ (sub:=sub) (cf:=ah sub P (n+3)) (i:=8) (j:=7) (l:=S.length)
   (it:=.iRng (.cs (.bin .add (.c (.int 1)) (.call "_law_mixed" (.cs (.v 0) (.cs (.bin .add (.v 1) (.c (.int 2))) (.cs (.c (.int 2)) .nl))))) .nl))
   (e:=.call "_law_source" (.cs (.v 0) (.cs (.bin .add (.bin .add (.v 1) (.c (.int 3))) (.bin .mul (.c (.int 3)) (.v 8))) (.cs (.v 4) (.cs (.v 6) (.cs (.v 3) .nl))))))
   (σ:=[some (.fro (ns.map .int)),some (.int at'),some (.tup [.int streams,.int ncrews,.int many]),some (.int own),some (.int streams),some (.int ncrews),some (.int many),some (.loc S.length),none,none,none,none])
   (S:=S++[.lst []]) (S1:=S++[.lst []]) (xs:=[]) (ks:=List.range q) (f:=au) (g:=λ(k:Nat)=>(eU mx ns (at' + 3+3*(k:Int)) streams many own).toD) (o:=none) (raw:=[])
   (dM (by(repeat' (first|done|with_reducible exact m2 _))) hq' (by omega) eZ) rfl (aJ _ _) (by decide) (Wq (by exact Qj 3)) (λ_=>rfl)
   (λk _ ys=>by
    have:=Gn (sub:=sub) (n:=n) (S:=List.set (S++[.lst []]) S.length (.lst ys)) h M ns (at':=at' + 3+3*(k:Int)) (streams:=streams) (many:=many) (own:=own) (by omega) hm;rw[eZ]
    (repeat' done)) (by unfold aM; rw[ZJ,X9]; omega)
 rw[iR,X8] at loop
 have comp:∀(y:Option D) (d1 d2:D) (T:af),ev sub (ah sub P (n+3)) (.comp 2 (.call "_law_mixed" (.cs (.v 0) (.cs (.bin .add (.v 1) (.v 13)) (.cs (.c (.int 9973)) .nl)))) (.one 13) (.iSeq (.tup (.cs (.c (.int 0)) (.cs (.c (.int 5)) (.cs (.c (.int 6)) .nl))))) .nl)
   [some (.fro (ns.map .int)),some (.int at'),some (.tup [.int streams,.int ncrews,.int many]),some (.int own),some (.int streams),some (.int ncrews),some (.int many),some (.loc S.length),y,some d1,some d2,none] T =
   .ok (.loc T.length) (T++[.lst [.int (mx ns (at' + 0) 9973),.int (mx ns (at' + 5) 9973),.int (mx ns (at' + 6) 9973)]]):=λy d1 d2 T =>
  kX (ks:=[0,5,6]) (f:=D.int) (g:=λk=>.int (mx ns (at' + k) 9973)) (ck (x:=.tup [.int 0,.int 5,.int 6]) (by(repeat' done)) rfl) rfl (λk hk=>by
   have hk:0<=k:=by
    have:k=0\/k=5\/k=6:=by simpa using hk
    omega
   have:=m (at' + k) 9973 (by omega) (by decide) T
   (repeat' done)) (by decide)
 have go:∀(T:af),(S++.lst ((List.range q).map λ(k:Nat)=>(eU mx ns (at' + 3+3*(k:Int)) streams many own).toD)::T)[S.length]?=some (.lst ((List.range q).map λ(k:Nat)=>(eU mx ns (at' + 3+3*(k:Int)) streams many own).toD)):=λT=>eB S T _
 refine x_call h.work rfl (ak (C8 (ds:=[.int streams,.int ncrews,.int many]) (r_v rfl) rfl) (ak (aE (bV ai rfl)) (ak loop (ak (aE (by(repeat' (first|done|with_reducible exact m0 _))))
  (ak (aE (by(repeat' (first|done|with_reducible exact m2 _|with_reducible exact m1 _)))) (ak (aE (aO (aa (comp _ _ _ _) ai) j6)) (aB (ee (aa (by(repeat' (first|done|with_reducible exact m7 _))) (aa (r_v rfl) (aa (r_v rfl) (aa (aO (aa (r_v rfl) ai) (fz (by rw[Zq,Zq,Zq]; exact go _))) (aa (r_v rfl) ai))))) rfl)))))))) (bh hcl (by rw[Zq,Zq,Zq]; exact bB _ _))
theorem Ef(M:Mix P mx)(ns:Wx)(at':Int){streams ncrews many own:Nat}(hm:0<many)(hc:0<ncrews):(dY mx ns at' streams ncrews many own).WF own many streams ncrews:=by
 have r2:=M.rng ns (at' + 2) (show(0:Int)<2 by decide);have r5:=M.rng ns at' (show(0:Int)<5 by decide);have rl:0<cR (mx ns (at' + 2) 2)/\cR (mx ns (at' + 2) 2)<=5:=by unfold cR; split<;>decide
 have r1:=M.rng ns (at' + 1) rl.1;have r7:=M.rng ns (at' + 7) (show(0:Int)<ncrews by omega);refine⟨?_,⟨?_,?_⟩,?_,⟨?_,?_⟩,λs hs=>?_,rfl,λv hv=>?_⟩
 ·show(mx ns (at' + 7) ncrews).toNat<ncrews; omega
 ·show 1<=(1+mx ns (at' + 1) (cR (mx ns (at' + 2) 2))).toNat; omega
 ·show(1+mx ns (at' + 1) (cR (mx ns (at' + 2) 2))).toNat<=8; omega
 ·show d9.getD (mx ns at' 5).toNat "plus"∈d9;rw[Zj,Zb (show(mx ns at' 5).toNat<d9.length by show _<5; omega)];exact Z3 _
 ·show 1<=((List.range (1+mx ns (at' + 2) 2).toNat).map _).length;rw[Zc,ZJ]; omega
 ·show((List.range (1+mx ns (at' + 2) 2).toNat).map _).length<=3;rw[Zc,ZJ]; omega
 ·obtain⟨k,_,rfl⟩:=ZB.mp hs;exact Ho M ns _ hm
 ·have:∀k,0<=mx ns k 9973/\mx ns k 9973<=9972:=λk=>by have:=M.rng ns k (show(0:Int)<9973 by decide); omega
  have hv:v∈[mx ns (at' + 0) 9973,mx ns (at' + 5) 9973,mx ns (at' + 6) 9973]:=hv;simp at hv;rcases hv with rfl|rfl|rfl<;>exact this _
noncomputable def gp(mx:List Int->Int->Int->Int)(ns:Wx)(at':Int)(k:Nat):Nat×Nat:=((1+mx ns (at' + 3+(k:Int)) 2).toNat,(1+mx ns (at' + 5+(k:Int)) 5/2).toNat)
noncomputable def cJ(mx:List Int->Int->Int->Int)(ns:Wx)(at':Int)(many:Nat):List Nat:=(List.range many).filter λk=>decide (0<mx ns (at' + 7+(k:Int)) 3)
noncomputable def cO(mx:List Int->Int->Int->Int)(ns:Wx)(at' most:Int):Lp where
 streams:=(mx ns at' 3).toNat
 crews:=(List.range (1+mx ns (at' + 2) 2).toNat).map (gp mx ns at')
 works:=(List.range (1+mx ns (at' + 1) most).toNat).map λ(k:Nat)=>dY mx ns (at' + 7+9*(k:Int)) (mx ns at' 3).toNat (1+mx ns (at' + 2) 2).toNat (1+mx ns (at' + 1) most).toNat k
 outs:=if cJ mx ns at' (1+mx ns (at' + 1) most).toNat=[] then[(1+mx ns (at' + 1) most).toNat-1] else cJ mx ns at' (1+mx ns (at' + 1) most).toNat
theorem AB(M:Mix P mx)(ns:Wx){at' most:Int}{nc many:Nat}{os:List Nat}(hq:(1+mx ns (at' + 2) 2).toNat=nc)(hw:(1+mx ns (at' + 1) most).toNat=many)(ho:(if cJ mx ns at' many=[] then[many-1] else cJ mx ns at' many)=os):(cO mx ns at' most).toD =
  .tup [.int (mx ns at' 3),.tup ((List.range nc).map λ(k:Nat)=>aZ (gp mx ns at' k)),.tup ((List.range many).map λ(k:Nat)=>(dY mx ns (at' + 7+9*(k:Int)) (mx ns at' 3).toNat nc many k).toD),.tup (os.map au)]:=by
 have e0:=toNat_cast (M.rng ns at' (show(0:Int)<3 by decide)).1;unfold cO Lp.toD;simp only[hq,hw,ho,e0,Xl];rfl
theorem FL(h:HG P)(M:Mix P mx)(ns:Wx){at' most:Int}(hat:0<=at')(hmo:0<most)(hmo2:most<=8) :
  ah sub P (n+5) "_law_loop" [.fro (ns.map .int),.int at',.int most] S=.ok (cO mx ns at' most).toD S:=by
 have r1:=M.rng ns (at' + 1) hmo;have r2:=M.rng ns (at' + 2) (show(0:Int)<2 by decide);have m (k m:Int) (hk:0<=k) (hm:0<m) (S:af):ah sub P (n+4) "_law_mixed" [.fro (ns.map .int),.int k,.int m] S=.ok (.int (mx ns k m)) S:=M.ok ns hk hm;have m0:=m at' 3 hat (by decide);have m1:=m (at' + 1) most (by omega) hmo;have m2:=m (at' + 2) 2 (by omega) (by decide);have e0:=toNat_cast (M.rng ns at' (show(0:Int)<3 by decide)).1;generalize hq:(1+mx ns (at' + 2) 2).toNat=nc;generalize hw:(1+mx ns (at' + 1) most).toNat=many;have hq':(1+mx ns (at' + 2) 2)=(nc:Int):=by omega
 have hw':(1+mx ns (at' + 1) most)=(many:Int):=by omega
 have hcl:=(cO mx ns at' most).cl;generalize ho:(if cJ mx ns at' many=[] then[many-1] else cJ mx ns at' many)=os;rw[AB M ns hq hw ho] at hcl ⊢;generalize hs:(mx ns at' 3).toNat=streams at e0 hcl ⊢
 obtain⟨x,loop1⟩:=lQ (sub:=sub) (cf:=ah sub P (n+4)) (i:=6) (j:=5) (l:=S.length) (it:=.iRng (.cs (.bin .add (.c (.int 1)) (.call "_law_mixed" (.cs (.v 0) (.cs (.bin .add (.v 1) (.c (.int 2))) (.cs (.c (.int 2)) .nl))))) .nl))
   (e:=.tup (.cs (.bin .add (.c (.int 1)) (.call "_law_mixed" (.cs (.v 0) (.cs (.bin .add (.bin .add (.v 1) (.c (.int 3))) (.v 6)) (.cs (.c (.int 2)) .nl))))) (.cs (.bin .add (.c (.int 1)) (.bin .fdiv (.call "_law_mixed" (.cs (.v 0) (.cs (.bin .add (.bin .add (.v 1) (.c (.int 5))) (.v 6)) (.cs (.c (.int 5)) .nl)))) (.c (.int 2)))) .nl)))
   (σ:=[some (.fro (ns.map .int)),some (.int at'),some (.int most),some (.int (mx ns at' 3)),some (.int (1+mx ns (at' + 1) most)),some (.loc S.length),none,none,none])
   (S:=S++[.lst []]) (S1:=S++[.lst []]) (xs:=[]) (ks:=List.range nc) (f:=au) (g:=λ(k:Nat)=>aZ (gp mx ns at' k)) (o:=none) (raw:=[])
   (dM (by(repeat' (first|done|with_reducible exact m2 _))) hq' (by omega) eZ) rfl (aJ _ _) (by decide) (Wq (by exact Qj 2)) (λ_=>rfl)
   (λk _ ys=>by
    have q1:=m (at' + 3+(k:Int)) 2 (by omega) (by decide);have q2:=m (at' + 5+(k:Int)) 5 (by omega) (by decide);have g1:=M.rng ns (at' + 3+(k:Int)) (show(0:Int)<2 by decide);have g2:=M.rng ns (at' + 5+(k:Int)) (show(0:Int)<5 by decide);have t1:=toNat_cast (i:=1+mx ns (at' + 3+(k:Int)) 2) (by omega);have t2:=toNat_cast (i:=1+mx ns (at' + 5+(k:Int)) 5/2) (by omega);rw[eZ];unfold aZ gp;rw[t1,t2]
    (repeat' (first|done|with_reducible exact q1 _|with_reducible exact q2 _))) (by unfold aM; rw[ZJ,X9]; omega)
 rw[iR,X8] at loop1;generalize hcr:((List.range nc).map λ(k:Nat)=>aZ (gp mx ns at' k))=cr at loop1 hcl ⊢;have hcrl:cr.length=nc:=by rw[<- hcr,Zc,ZJ]
 obtain⟨y,loop2⟩:=lQ (sub:=sub) (cf:=ah sub P (n+4)) (i:=6) (j:=7) (l:=(S++[Cell.lst cr]).length) (it:=.iRng (.cs (.v 4) .nl))
   (e:=.call "_law_work" (.cs (.v 0) (.cs (.bin .add (.bin .add (.v 1) (.c (.int 7))) (.bin .mul (.c (.int 9)) (.v 6))) (.cs (.tup (.cs (.v 3) (.cs (.bi .len (.cs (.v 5) .nl)) (.cs (.v 4) .nl)))) (.cs (.v 6) .nl)))))
   (σ:=[some (.fro (ns.map .int)),some (.int at'),some (.int most),some (.int (mx ns at' 3)),some (.int (1+mx ns (at' + 1) most)),some (.loc S.length),x,some (.loc (S++[Cell.lst cr]).length),none])
   (S:=(S++[.lst cr])++[.lst []]) (S1:=(S++[.lst cr])++[.lst []]) (xs:=[]) (ks:=List.range many) (f:=au)
   (g:=λ(k:Nat)=>(dY mx ns (at' + 7+9*(k:Int)) streams nc many k).toD) (o:=none) (raw:=[])
   (dM (by(repeat' done)) hw' (by omega) eZ) rfl (aJ _ _) (by decide) (Wq (by exact Qj 2)) (λ_=>rfl)
   (λk _ ys=>by
    rw[iR,eZ];have hd:=Ez (sub:=sub) (n:=n) (S:=(S++[.lst cr])++[.lst ys]) h M ns (at':=at' + 7+9*(k:Int)) (streams:=streams) (ncrews:=nc) (many:=many) (own:=k) (by omega) (by omega) (by omega);rw[e0,<- hw'] at hd
    have hl:biD sub .len [.loc S.length] ((S++[.lst cr])++[.lst ys])=.ok (.int (nc:Int)) ((S++[.lst cr])++[.lst ys]):=by
     rw[<- hcrl]; exact sf (by rw[Zq]; exact eB _ _ _)
    (repeat' done)) (by unfold aM; rw[ZJ,X9]; omega)
 rw[iR,X8] at loop2;generalize hwk:((List.range many).map λ(k:Nat)=>(dY mx ns (at' + 7+9*(k:Int)) streams nc many k).toD)=wk at loop2 hcl ⊢;generalize hT:(S++[Cell.lst cr])++[Cell.lst wk]=T at loop2;have gc:∀U:af,(T++U)[S.length]?=some (.lst cr):=λU=>by rw[<- hT,Zq,Zq]; exact eB _ _ _
 have gw:∀U:af,(T++U)[(S++[Cell.lst cr]).length]?=some (.lst wk):=λU=>by rw[<- hT,Zq]; exact eB _ _ _
 have tk:∀U:af,(T++U).take S.length=S:=λU=>by rw[<- hT,Zq,Zq]; exact bB _ _
 have comp:=Jf (sub:=sub) (cf:=ah sub P (n+4)) (k:=2) (i:=10) (el:=.v 10) (it:=.iRng (.cs (.v 4) .nl)) (tt:=.cmp .gt (.call "_law_mixed" (.cs (.v 0) (.cs (.bin .add (.bin .add (.v 1) (.c (.int 7))) (.v 10)) (.cs (.c (.int 3)) .nl)))) (.c (.int 0)))
   (σ:=[some (.fro (ns.map .int)),some (.int at'),some (.int most),some (.int (mx ns at' 3)),some (.int (1+mx ns (at' + 1) most)),some (.loc S.length),y,some (.loc (S++[Cell.lst cr]).length),none]) (S:=T) (S1:=T) (s:=⟨(List.range many).map au,none,[]⟩) (g:=id) (p:=λd=>match d with|.int k=>decide (0<mx ns (at' + 7+k) 3)|_=>false) rfl
   (dM (by(repeat' done)) hw' (by omega) eZ) rfl
   (λd hd=>by
    obtain⟨k,_,rfl⟩:=ZB.mp hd;have:=m (at' + 7+(k:Int)) 3 (by omega) (by decide) T;rw[eZ]
    (repeat' done))
   (λd hd _=>r_v rfl) (by unfold aM; rw[Zc,ZJ]; omega)
 rw[List.map_id,List.filter_map,show List.filter ((λd=>match d with|.int k=>decide (0<mx ns (at' + 7+k) 3)|_=>false)∘au) (List.range many)=cJ mx ns at' many from rfl] at comp;refine DI h.loop rfl (ak (aE (by(repeat' (first|done|with_reducible exact m0 _)))) (ak (aE (by(repeat' (first|done|with_reducible exact m1 _)))) (ak (aE (bV ai rfl)) (ak loop1 (ak (aE (bV ai rfl)) (ak loop2 (ak (aE comp) rfl))))))) ?_ hcl
 cases hu:cJ mx ns at' many with
 | nil =>
  rw[hu,Zf rfl] at ho;subst ho;have t3:((many-1:Nat):Int)=1+mx ns (at' + 1) most-1:=by omega
  have hE:cmD .eq (.loc T.length) (.loc (T++[Cell.lst []]).length) ((T++[.lst []])++[.lst []])=.ok (.bl true) ((T++[.lst []])++[.lst []]):=tP (xs:=[]) (by rw[Zq]; exact eB _ _ _) (aJ _ _);refine⟨_,ak (bw (aT (aX (r_v rfl) (bV ai rfl) hE)) (aE (by(repeat' done)))) (aB (ee (aa (r_v rfl) (aa (aO (aa (r_v rfl) ai) (fz ?_)) (aa (aO (aa (r_v rfl) ai) (fz ?_)) (aa (aO (aa (r_v rfl) ai) (fz ?_)) ai)))) rfl)),?_⟩
  ·rw[Zq,Zq]; exact gc _
  ·rw[Zq,Zq]; exact gw _
  ·rw[ZK,eZ,t3]; exact aJ _ _
  ·rw[Zq,Zq]; exact tk _
 | cons a r =>
  rw[hu,Zg (by intro z; cases z)] at ho;subst ho;have hE:cmD .eq (.loc T.length) (.loc (T++[Cell.lst ((a::r).map au)]).length) ((T++[.lst ((a::r).map au)])++[.lst []])=.ok (.bl false) ((T++[.lst ((a::r).map au)])++[.lst []]):=tP (xs:=(a::r).map au) (by rw[Zq]; exact eB _ _ _) (aJ _ _);refine⟨_,ak (aG (aT (aX (r_v rfl) (bV ai rfl) hE)) aH) (aB (ee (aa (r_v rfl) (aa (aO (aa (r_v rfl) ai) (fz ?_)) (aa (aO (aa (r_v rfl) ai) (fz ?_)) (aa (aO (aa (r_v rfl) ai) (fz ?_)) ai)))) rfl)),?_⟩
  ·rw[Zq]; exact gc _
  ·rw[Zq]; exact gw _
  ·rw[Zq]; exact eB _ _ _
  ·rw[Zq]; exact tk _
theorem xo(p:Nat->Bool)(many:Nat):∀(k c:Nat),k+c<=many->eN many k ((List.range' k c).filter p)
 | k,0,_=>trivial
 | k,c+1,h=>by
  rw[List.range'_succ,List.filter_cons];have:=xo p many (k+1) c (by omega);split
  ·exact⟨Zl _,by omega,this⟩
  ·have low:∀(l:List Nat) (a b:Nat),a<=b->eN many b l->eN many a l:=by
    intro l
    cases l with
    | nil=>intros; trivial
    | cons x r=>intro a b hab ⟨h1,h2,h3⟩; exact⟨by omega,h2,h3⟩
   exact low _ _ _ (Qq _) this
theorem FF(M:Mix P mx)(ns:Wx){at' most:Int}(hmo:0<most)(hmo2:most<=8):(cO mx ns at' most).WF:=by
 have r0:=M.rng ns at' (show(0:Int)<3 by decide);have r1:=M.rng ns (at' + 1) hmo;have r2:=M.rng ns (at' + 2) (show(0:Int)<2 by decide);have hw:(cO mx ns at' most).works.length=(1+mx ns (at' + 1) most).toNat:=by simp[cO]
 have hc:(cO mx ns at' most).crews.length=(1+mx ns (at' + 2) 2).toNat:=by simp[cO]
 refine⟨?_,?_,λc hcm=>?_,?_,λi w hi=>?_,?_,?_⟩
 ·show(mx ns at' 3).toNat<=6; omega
 ·rw[hc]; omega
 ·obtain⟨k,_,rfl⟩:=ZB.mp hcm;have q1:=M.rng ns (at' + 3+(k:Int)) (show(0:Int)<2 by decide);have q2:=M.rng ns (at' + 5+(k:Int)) (show(0:Int)<5 by decide);simp only[gp];omega
 ·rw[hw]; omega
 ·rw[hw,hc];have hi':i<(1+mx ns (at' + 1) most).toNat:=by rw[<- hw]; exact(Zh.mp hi).1
  have hi:((List.range (1+mx ns (at' + 1) most).toNat).map λ(k:Nat)=>dY mx ns (at' + 7+9*(k:Int)) (mx ns at' 3).toNat (1+mx ns (at' + 2) 2).toNat (1+mx ns (at' + 1) most).toNat k)[i]?=some w:=hi;rw[ZG,Wg hi'] at hi;cases hi;exact Ef M ns _ (by omega) (by omega)
 ·show 1<=(if cJ mx ns at' (1+mx ns (at' + 1) most).toNat=[] then[(1+mx ns (at' + 1) most).toNat-1] else cJ mx ns at' (1+mx ns (at' + 1) most).toNat).length;split
  ·simp
  ·rename_i h; exact List.length_pos_iff.mpr h
 ·rw[hw];show eN _ 0 (if cJ mx ns at' (1+mx ns (at' + 1) most).toNat=[] then[(1+mx ns (at' + 1) most).toNat-1] else cJ mx ns at' (1+mx ns (at' + 1) most).toNat);split
  ·exact⟨Xj _,by omega,trivial⟩
  ·unfold cJ;rw[List.range_eq_range'];exact xo _ _ 0 _ (by omega)
end
end RL

namespace RL
open PySem EV GO
noncomputable def fS:Fn:=⟨1,5,(.seq (.set (.one 1) (.ix (.call "checked" (.cs (.v 0) .nl)) (.c (.int 2))))
 (.seq (.set (.one 2) (.lst .nl))
 (.seq (.forS (.many [3,4]) (.iEnum (.v 1))
  (.ex (.me .extend (.v 2) (.cs (.comp 2 (.tup (.cs (.ix (.v 6) (.c (.int 1))) (.cs (.v 3) (.cs (.ix (.v 6) (.c (.int 2))) .nl)))) (.one 6) (.iSeq (.ix (.v 4) (.c (.int 3)))) (.cmp .eq (.ix (.v 6) (.c (.int 0))) (.c (.str "work")))) .nl))))
 (.ret (.bi .sortedSet (.cs (.v 2) .nl))))))⟩
noncomputable def tupI(t:Wx):D:=.tup (t.map .int)
noncomputable def gK(behind:Nat):Srs->Option (List Int)
 | .wrk w b=>some [(w:Int),(behind:Int),(b:Int)]
 | _=>none
noncomputable def aW:Nat->List Wk->List (List Int)
 | _,[]=>[]
 | k,w::r=>w.srcs.filterMap (gK k)++aW (k+1) r
theorem qm{sub:Sub}{cf:Str->List D->M D}{σ:Sg}{S S1:af}{k i:Nat}{el it tt:E}{α:Type}{ks:List α}{f:α->D}{g:α->Option D}{o:Option Nat}{raw:WP}(hn:tt.bA=false)(hi:evI sub cf it σ S=.ok ⟨ks.map f,o,raw⟩ S1)(hs:aF ⟨ks.map f,o,raw⟩ S1=.ok () S1)
  (hp:∀a∈ks,evT sub cf tt ((σ++List.replicate k none).set i (some (f a))) S1=.ok (g a).isSome S1) (hg:∀a∈ks,∀d,g a=some d->ev sub cf el ((σ++List.replicate k none).set i (some (f a))) S1=.ok d S1) (hz:ks.length<=aM) :
  ev sub cf (.comp k el (.one i) it tt) σ S=.ok (.loc S1.length) (S1++[.lst (ks.filterMap g)]):=by
 rw[jn,hi];simp only[Res.aj]
 have:=lG (s:=⟨ks.map f,o,raw⟩) (f:=f) (fn:=λd=>aQ (.one i) d (σ++List.replicate k none)>>=λσ'=>(if tt.bA=true then pure true else evT sub cf tt σ')>>=λb=>if b=true then ev sub cf el σ'>>=λy=>pure (some y) else pure none) (g:=g) (S:=S1) hs (ks:=ks) (λd hd=>by
  simp only[az,iW,Res.aj,hn,Zx,ZT];rw[hp d hd]
  cases q:g d with
  | none=>rfl
  | some y=>simp[az,hg d hd y q])
 rw[gC this];simp only[Res.aj];rw[Zf (show fits (ks.filterMap g).length=true from Zi (Xa (List.length_filterMap_le _ _) hz))]
theorem lJ:∀(ws:List Wk) (k i:Nat) (h:i<ws.length),aW k (ws.take (i+1))=aW k (ws.take i)++(ws[i]).srcs.filterMap (gK (k+i))
 | w::r,k,0,_=>by simp[aW]
 | w::r,k,i+1,h=>by
  have:=lJ r (k+1) i (by simpa using h);simp only[List.take_succ_cons,aW,List.getElem_cons_succ];rw[this,Zq,show k+1+i=k+(i+1) by omega]
theorem nV:∀(ws:List Wk) (k:Nat),(∀w∈ws,w.srcs.length<=3)->(aW k ws).length<=3*ws.length
 | [],_,_=>Zl _
 | w::r,k,h=>by
  have h1:=nV r (k+1) λv hv=>h v (Zm _ hv)
  have h2:=h w Zk;have h3:(w.srcs.filterMap (gK k)).length<=w.srcs.length:=List.length_filterMap_le _ _;simp only[aW,Zu,ZF];omega
theorem iB:∀{ws:List Wk} {k:Nat} {t:Wx},t∈aW k ws->∃i w b x,ws[i]?=some w/\Srs.wrk x b∈w.srcs/\t=[(x:Int),((k+i:Nat):Int),(b:Int)]
 | w::r,k,t,h=>by
  rcases ZR.mp h with h|h
  ·obtain⟨s,hs,e⟩:=QL.mp h
   cases s with
   | wrk x b=>cases e; exact⟨0,w,b,x,rfl,hs,rfl⟩
   | _=>cases e
  ·obtain⟨i,v,b,x,h1,h2,h3⟩:=iB h;exact⟨i+1,v,b,x,h1,h2,by rw[h3,show k+1+i=k+(i+1) by omega]⟩
theorem allI(t:Wx):allInts (t.map .int)=some t:=by
 induction t with
 | nil=>rfl
 | cons a r ih=>show(allInts (r.map .int)).map (a :: ·)=_; rw[ih]; rfl
theorem qN:∀ts:List (List Int),tups (ts.map tupI)=some ts
 | []=>rfl
 | t::r=>by
  show(match allInts (t.map .int),tups (r.map tupI) with|some t,some q=>some (t::q)|_,_=>none)=_;rw[allI,qN r]
theorem jP(t:Wx):D.lows 0 (t.map .int)=true:=by
 induction t with
 | nil=>rfl
 | cons a r ih=>show(D.low 0 (.int a)&&D.lows 0 (r.map .int))=true; rw[ih]; rfl
theorem lF(ts:WB):D.lows 0 (ts.map tupI)=true:=by
 induction ts with
 | nil=>rfl
 | cons t r ih=>show(D.lows 0 (t.map .int)&&D.lows 0 (r.map tupI))=true; rw[jP,ih]; rfl
section
variable{sub:Sub}{P:Prg}{n:Nat}{S:af}
theorem yZ{cf:Str->List D->M D}{x0 x1 x2:Option D}{i:Nat}{w:Wk}{T:af}(hw:w.srcs.length<=3) :
  ev sub cf (.comp 2 (.tup (.cs (.ix (.v 6) (.c (.int 1))) (.cs (.v 3) (.cs (.ix (.v 6) (.c (.int 2))) .nl)))) (.one 6) (.iSeq (.ix (.v 4) (.c (.int 3)))) (.cmp .eq (.ix (.v 6) (.c (.int 0))) (.c (.str "work"))))
   [x0,x1,x2,some (.int (i:Int)),some w.toD] T=.ok (.loc T.length) (T++[.lst ((w.srcs.filterMap (gK i)).map tupI)]):=by
 have h:=qm (sub:=sub) (cf:=cf) (k:=2) (i:=6) (el:=.tup (.cs (.ix (.v 6) (.c (.int 1))) (.cs (.v 3) (.cs (.ix (.v 6) (.c (.int 2))) .nl)))) (it:=.iSeq (.ix (.v 4) (.c (.int 3)))) (tt:=.cmp .eq (.ix (.v 6) (.c (.int 0))) (.c (.str "work")))
  (σ:=[x0,x1,x2,some (.int (i:Int)),some w.toD]) (S:=T) (S1:=T) (ks:=w.srcs) (f:=Srs.toD) (g:=λs=>(gK i s).map tupI) (o:=none) (raw:=w.srcs.map Srs.toD) rfl (ck (ao (r_v rfl) r_c (av rfl)) rfl) rfl
  (λs _=>by
   cases s with
   | val v=>exact aT (aX (ao (r_v rfl) r_c (av rfl)) r_c rfl)
   | inp k=>exact aT (aX (ao (r_v rfl) r_c (av rfl)) r_c rfl)
   | wrk x b=>exact aT (aX (ao (r_v rfl) r_c (av rfl)) r_c rfl))
  (λs _ d hd=>by
   cases s with
   | val v=>cases hd
   | inp k=>cases hd
   | wrk x b =>
    cases hd;exact ee (aa (ao (r_v rfl) r_c (av rfl)) (aa (r_v rfl) (aa (ao (r_v rfl) r_c (av rfl)) ai))) rfl)
  (by unfold aM; omega)
 rw[h,List.map_filterMap]
theorem jS{T:af}{a b:Cell}{G:af}:(T++a::G).set T.length b=T++b::G:=by
 rw[List.set_append_right _ _ (Zl _),Wb]; rfl
theorem dg{T:af}{a:Cell}{G:af}:(T++a::G)[T.length]?=some a:=by
 rw[ZN (Zl _),Wb]; rfl
theorem G3{T:af}{k:Nat}{ts:WB}(hk:T[k]?=some (.lst (ts.map tupI)))(h1:ts.length<=18)(h2:(ts.all λt=>!t.isEmpty)=true):biD sub .sortedSet [.loc k] T=.ok (.loc T.length) (T++[.lst ((aN ts).map tupI)]):=by
 show(cB (.loc k)>>=λds=>opt (tups ds)>>=λts=>guard (decide (ts.length<=18)&&ts.all λt=>!t.isEmpty) (alloc (.lst ((aN ts).map λt=>.tup (t.map .int))))) T=_;have e:cB (.loc k) T=.ok (ts.map tupI) T:=fH hk;rw[az,e];simp only[Res.aj];rw[az,qN];simp only[dP,Res.aj];rw[h2,Zi h1];rfl
theorem jv{T:af}{ds:WP}{m:Nat}(hm:S.length<=m)(ht:T.take S.length=S)(h:T[m]?=some (.lst ds))(hc:D.lows 0 ds=true):leave S (.loc m) T=.ok (.loc S.length) (S++[.lst ds]):=by
 unfold leave;rw[Zf ht,Zg (by show ¬decide (m<S.length)=true; simp; omega)];simp only[h];rw[Zf (show Cell.low S.length (.lst ds)=true from jc (Xj _) hc)]
theorem n5(h:HB P)(hn:Has P "needs" fS){l:Lp}(hl:l.WF)(h6:l.works.length<=6):ah sub P (n+8) "needs" [l.toD] S=.ok (.loc S.length) (S++[.lst ((aN (aW 0 l.works)).map tupI)]):=by
 have h3:∀w∈l.works,w.srcs.length<=3:=λw hw=>by
  obtain⟨i,hi⟩:=ZS hw;exact(hl.works i w hi).some.2
 have hnl:∀i,(aW 0 (l.works.take i)).length<=18:=λi=>by
  have:=nV (l.works.take i) 0 λw hw=>h3 w (Wc hw)
  rw[Xz] at this;omega
 have hnum:(num 0 (l.works.map Wk.toD)).length=l.works.length:=by rw[j4,Zc]
 obtain⟨σ',T',e,x3,x4,G,rfl,rfl⟩:=dS (sub:=sub) (cf:=ah sub P (n+7)) (t:=.many [3,4]) (it:=.iEnum (.v 1)) (b:=.ex (.me .extend (.v 2) (.cs (.comp 2 (.tup (.cs (.ix (.v 6) (.c (.int 1))) (.cs (.v 3) (.cs (.ix (.v 6) (.c (.int 2))) .nl)))) (.one 6) (.iSeq (.ix (.v 4) (.c (.int 3)))) (.cmp .eq (.ix (.v 6) (.c (.int 0))) (.c (.str "work")))) .nl)))
  (σ:=[some l.toD,some (.tup (l.works.map Wk.toD)),some (.loc S.length),none,none]) (S:=S++[.lst []]) (S1:=S++[.lst []]) (s:=⟨num 0 (l.works.map Wk.toD),none,l.works.map Wk.toD⟩)
  (λi σ T=>∃x3 x4 G,σ=[some l.toD,some (.tup (l.works.map Wk.toD)),some (.loc S.length),x3,x4]/\T=S++.lst ((aW 0 (l.works.take i)).map tupI)::G)
  (by simp) ⟨none,none,[],rfl,rfl⟩ (λ_ _ _ _=>rfl) (λi hi σ T ⟨x3,x4,G,hσ,hT⟩=>by
   subst hσ; subst hT;have hi':i<l.works.length:=by rw[<- hnum]; exact hi
   have hit:(num 0 (l.works.map Wk.toD))[i]=.tup [.int (i:Int),(l.works[i]).toD]:=by
    rw[pP]; simp
   show ∃σ' T',aK sub (ah sub P (n+7)) _ _ (num 0 (l.works.map Wk.toD))[i] _ _=_/\_;rw[hit];refine⟨_,_,dI rfl (cU (gg (r_v rfl) (aa (yZ (h3 _ (Z3 hi'))) ai) (vf (l:=S.length) (ds:=(aW 0 (l.works.take i)).map tupI) (k:=(S++.lst ((aW 0 (l.works.take i)).map tupI)::G).length) ?_ (aJ _ _) ?_))),some (.int (i:Int)),some (l.works[i]).toD,G++[.lst (((l.works[i]).srcs.filterMap (gK i)).map tupI)],rfl,?_⟩
   ·exact(ZE (by simp)).trans dg
   ·have h1:=hnl (i+1);rw[lJ _ _ _ hi',Zu,Xq] at h1;rw[Zc,Zc];unfold aM; omega
   ·rw[Zq,XA,jS,<- Z8,lJ _ _ _ hi',Xq])
 rw[hnum,ZO] at e
 have ne:((aW 0 l.works).all λt=>!t.isEmpty)=true:=Xn.mpr λt ht=>by
  obtain⟨i,w,b,x,_,_,rfl⟩:=iB ht;rfl
 have hl18:=hnl l.works.length;rw[ZO] at hl18;refine x_call (ds:=[l.toD]) hn rfl (ak (aE (ao (ay (aa (r_v rfl) ai) (gX h hl)) r_c (av rfl))) (ak (aE (bV ai rfl)) (ak e (aB (aO (aa (r_v rfl) ai) (G3 dg hl18 ne)))))) (jv (by simp) ?_ (aJ _ _) (lF _));rw[Zq,bB]
end
end RL

namespace RL
open PySem EV GO
noncomputable def nS:Fn:=⟨1,1,(.seq (.ite (.not (.call "is_whole" (.cs (.v 0) (.cs (.c (.int 1)) (.cs (.c (.int 200)) .nl)))))
  (.rais "NoGap")
  .skip)
 (.ret (.v 0)))⟩
noncomputable def rV:Fn:=⟨2,2,(.ret (.and (.call "is_row" (.cs (.v 0) (.cs (.v 1) (.cs (.v 1) .nl)))) (.bi .all (.cs (.comp 2 (.call "is_whole" (.cs (.v 3) (.cs (.c (.int 0)) (.cs (.c (.int 999)) .nl)))) (.one 3) (.iSeq (.v 0)) .nl) .nl))))⟩
noncomputable def wU:Fn:=⟨2,2,(.seq (.ite (.not (.call "is_plan" (.cs (.v 1) (.cs (.bi .len (.cs (.ix (.v 0) (.c (.int 2))) .nl)) .nl))))
  (.rais "NoPlan")
  .skip)
 (.ret (.v 1)))⟩
noncomputable def iy:Fn:=⟨4,5,(.seq (.set (.one 4) (.bin .add (.ix (.v 2) (.ix (.v 3) (.c (.int 0)))) (.ix (.ix (.ix (.v 0) (.c (.int 2))) (.ix (.v 3) (.c (.int 0)))) (.c (.int 1)))))
 (.ret (.bin .sub (.bin .add (.ix (.v 2) (.ix (.v 3) (.c (.int 1)))) (.bin .mul (.ix (.v 3) (.c (.int 2))) (.v 1))) (.v 4))))⟩
noncomputable def g7:Fn:=⟨4,9,(.seq (.set (.one 4) (.bin .mul (.lst (.cs (.c (.int 0)) .nl)) (.v 1)))
 (.seq (.forS (.many [5,6]) (.iZip (.cs (.v 2) (.cs (.ix (.v 0) (.c (.int 2))) .nl)))
  (.ite (.cmp .eq (.ix (.v 6) (.c (.int 0))) (.v 3))
  (.forS (.one 7) (.iRng (.cs (.ix (.ix (.ix (.v 0) (.c (.int 1))) (.v 3)) (.c (.int 1))) .nl))
  (.seq (.set (.one 8) (.bin .mod (.bin .add (.v 5) (.v 7)) (.v 1)))
 (.setIx (.v 4) (.v 8) (.bin .add (.ix (.v 4) (.v 8)) (.c (.int 1))))))
  .skip))
 (.ret (.v 4))))⟩
noncomputable def bump(xs:Wx)(r:Nat):List Int:=xs.set r (xs.getD r 0+1)
noncomputable def bH(g b m:Nat)(xs:Wx):List Int:=(List.range m).foldl (λxs j=>bump xs ((b+j)%g)) xs
noncomputable def b5(g crew bz:Nat):List (Nat×Wk)->List Int->List Int
 | [],xs=>xs
 | (b,w)::r,xs=>b5 g crew bz r (if w.crew=crew then bH g b bz xs else xs)
theorem Ea(xs:Wx)(r:Nat):(bump xs r).length=xs.length:=Xr
theorem jJ(g b m:Nat)(xs:Wx):bH g b (m+1) xs=bump (bH g b m xs) ((b+m)%g):=by
 unfold bH;rw[List.range_succ,List.foldl_append]; rfl
theorem iH(g b:Nat)(xs:Wx):∀m,(bH g b m xs).length=xs.length
 | 0=>rfl
 | m+1=>by rw[jJ,Ea,iH g b xs m]
theorem oj(g crew bz:Nat)(b:Nat)(w:Wk):∀(ps:List (Nat×Wk)) (xs:Wx),b5 g crew bz (ps++[(b,w)]) xs=if w.crew=crew then bH g b bz (b5 g crew bz ps xs) else b5 g crew bz ps xs
 | [],xs=>rfl
 | (b',w')::r,xs=>oj g crew bz b w r _
theorem oN(g crew bz:Nat):∀(ps:List (Nat×Wk)) (xs:Wx),(b5 g crew bz ps xs).length=xs.length
 | [],xs=>rfl
 | (b,w)::r,xs=>by
  show(b5 g crew bz r (if w.crew=crew then bH g b bz xs else xs)).length=_;rw[oN g crew bz r];split
  ·exact iH ..
  ·rfl
section
variable{sub:Sub}{cf:Str->List D->M D}{σ:Sg}{S S1 S2 S3 S4:af}{x y z d:D}
theorem uJ{o i e:E}(he:ev sub cf e σ S=.ok d S1)(ho:ev sub cf o σ S1=.ok x S2)(hi:ev sub cf i σ S2=.ok y S3)(h:gv x y d S3=.ok z S4):exec sub cf (.setIx o i e) σ S=.ok (.nx σ) S4:=by
 show(ev sub cf e σ>>=λd=>ev sub cf o σ>>=λa=>ev sub cf i σ>>=λk=>gv a k d>>=λ_=>(pure (Fl.nx σ):M Fl)) S=_;rw[az,he];simp only[Res.aj];rw[az,ho];simp only[Res.aj];rw[az,hi];simp only[Res.aj];rw[az,h]; rfl
theorem sj{T:af}{ys:WP}{r:Nat}(h:r<ys.length):gv (.loc T.length) (.int (r:Int)) d (T++[.lst ys])=.ok .non (T++[.lst (ys.set r d)]):=by
 show aU T.length (λxs=>match ixN xs.length (r:Int) with|some j=>put T.length (.lst (xs.set j d))|none=>bad) (T++[.lst ys])=_;unfold aU;rw[aJ]
 have e:ixN ys.length (r:Int)=some r:=by
  unfold ixN;rw[Zf (XT r),Zf (Int.ofNat_lt.mpr h),ZQ]
 simp only[e];show Res.ok D.non ((T++[Cell.lst ys]).set T.length (Cell.lst (ys.set r d)))=_;rw[jS]
end
section
variable{sub:Sub}{P:Prg}{n:Nat}{S:af}
theorem gD{xs:WP}{k:Nat}{d:D}(h:xs[k]?=some d):atI xs (k:Int)=some d:=by
 unfold atI ixN;have hk:=(Zh.mp h).1;rw[Zf (XT k),Zf (Int.ofNat_lt.mpr hk),ZQ];exact h
noncomputable def cM(l:Lp)(g:Nat)(pl:List Nat)(x i b:Nat):Int:=((pl.getD i 0:Nat):Int)+(b:Int)*(g:Int)-(((pl.getD x 0:Nat):Int)+(((l.works.getD x ⟨0,0,"",[],[]⟩).long:Nat):Int))
theorem kJ{pl:List Nat}{i:Nat}(h:i<pl.length):atI (pl.map au) (i:Int)=some (.int ((pl.getD i 0:Nat):Int)):=gD (by rw[ZG,Zj,Zb h]; rfl)
theorem jR{l:Lp}{i:Nat}(h:i<l.works.length):atI (l.works.map Wk.toD) (i:Int)=some (l.works.getD i ⟨0,0,"",[],[]⟩).toD:=gD (by rw[ZG,Zj,Zb h]; rfl)
theorem yO(hw:Has P "waiting" iy){l:Lp}{g:Nat}{pl:List Nat}(hp:pl.length=l.works.length){x i b:Nat}(hx:x<l.works.length)(hi:i<l.works.length)(hb:b<=3) :
  ah sub P (n+1) "waiting" [l.toD,.int (g:Int),.tup (pl.map au),tupI [(x:Int),(i:Int),(b:Int)]] S=.ok (.int (cM l g pl x i b)) S :=
 x_call (ds:=[l.toD,.int (g:Int),.tup (pl.map au),tupI [(x:Int),(i:Int),(b:Int)]]) hw rfl (ak (aE (aP (ao (r_v rfl) (ao (r_v rfl) r_c (av rfl)) (av (kJ (by rw[hp]; exact hx)))) (ao (ao (ao (r_v rfl) r_c (av rfl)) (ao (r_v rfl) r_c (av rfl)) (av (jR hx))) r_c (av rfl)) (cg _ _ _)))
  (aB (aP (aP (ao (r_v rfl) (ao (r_v rfl) r_c (av rfl)) (av (kJ (by rw[hp]; exact hi)))) (aP (ao (r_v rfl) r_c (av rfl)) (r_v rfl) (fJ ⟨by omega,by omega⟩)) (cg _ _ _)) (r_v rfl) (eY _ _ _)))) (gm _ _)
noncomputable def jB:EV.S:=(.seq (.set (.one 8) (.bin .mod (.bin .add (.v 5) (.v 7)) (.v 1)))
 (.setIx (.v 4) (.v 8) (.bin .add (.ix (.v 4) (.v 8)) (.c (.int 1)))))
theorem lz{l:Lp}{k:Nat}{c:Nat×Nat}(h:l.crews[k]?=some c):atI (l.crews.map aZ) (k:Int)=some (aZ c):=gD (by rw[ZG,h]; rfl)
theorem C_{cf:Str->List D->M D}{l:Lp}{g b crew:Nat}{c:Nat×Nat}{D2 D6:D}{A:af}{xs:Wx}{x7 x8:Option D}(hc:l.crews[crew]?=some c)(hb:c.2<=4)(hg:0<g)(hx:xs.length=g) :
  ∃x7' x8',exec sub cf (.forS (.one 7) (.iRng (.cs (.ix (.ix (.ix (.v 0) (.c (.int 1))) (.v 3)) (.c (.int 1))) .nl)) jB) [some l.toD,some (.int (g:Int)),some D2,some (.int (crew:Int)),some (.loc A.length),some (.int (b:Int)),some D6,x7,x8] (A++[.lst (xs.map .int)]) =
   .ok (.nx [some l.toD,some (.int (g:Int)),some D2,some (.int (crew:Int)),some (.loc A.length),some (.int (b:Int)),some D6,x7',x8']) (A++[.lst ((bH g b c.2 xs).map .int)]):=by
 obtain⟨σ',T',e,x7',x8',rfl,rfl⟩:=dS (sub:=sub) (cf:=cf) (t:=.one 7) (it:=.iRng (.cs (.ix (.ix (.ix (.v 0) (.c (.int 1))) (.v 3)) (.c (.int 1))) .nl)) (b:=jB)
  (σ:=[some l.toD,some (.int (g:Int)),some D2,some (.int (crew:Int)),some (.loc A.length),some (.int (b:Int)),some D6,x7,x8]) (S:=A++[.lst (xs.map .int)]) (S1:=A++[.lst (xs.map .int)]) (s:=⟨(List.range c.2).map λ(i:Nat)=>.int (i:Int),none,[]⟩)
  (λj σ T=>∃x7 x8,σ=[some l.toD,some (.int (g:Int)),some D2,some (.int (crew:Int)),some (.loc A.length),some (.int (b:Int)),some D6,x7,x8]/\T=A++[.lst ((bH g b j xs).map .int)])
  (dM (aa (ao (ao (ao (r_v rfl) r_c (av rfl)) (r_v rfl) (av (lz hc))) r_c (av rfl)) ai) rfl (by omega) λ_=>rfl) ⟨x7,x8,rfl,rfl⟩ (λ_ _ _ _=>rfl) (λj hj σ T ⟨x7,x8,hσ,hT⟩=>by
   subst hσ; subst hT;have hlt:(b+j)%g<((bH g b j xs).map D.int).length:=by rw[Zc,iH,hx]; exact Qy _ hg
   have hlt':(b+j)%g<(bH g b j xs).length:=by rw[Zc] at hlt; exact hlt
   have hit:((List.range c.2).map λ(i:Nat)=>D.int (i:Int))[j]'hj=.int (j:Int):=by simp
   show ∃σ' T',aK sub cf (.one 7) jB (((List.range c.2).map λ(i:Nat)=>D.int (i:Int))[j]'hj) _ _=_/\_;rw[hit];have em:((b:Int)+(j:Int))%(g:Int)=(((b+j)%g:Nat):Int):=by rw[Int.natCast_emod,Int.natCast_add]
   have hm:opD .mod (.int ((b:Int)+(j:Int))) (.int (g:Int)) (A++[.lst ((bH g b j xs).map .int)])=.ok (.int (((b+j)%g:Nat):Int)) (A++[.lst ((bH g b j xs).map .int)]):=by rw[<- em]; exact kF (by omega)
   have ha:atI ((bH g b j xs).map D.int) (((b+j)%g:Nat):Int)=some (.int ((bH g b j xs).getD ((b+j)%g) 0)):=gD (by rw[ZG,Zj,Zb hlt']; rfl);refine⟨_,_,bW (ak (aE (aP (aP (r_v rfl) (r_v rfl) (cg _ _ _)) (r_v rfl) hm)) (uJ (aP (ao (r_v rfl) (r_v rfl) (rj ha)) r_c (cg _ _ _)) (r_v rfl) (r_v rfl) (sj hlt))),some (.int (j:Int)),some (.int (((b+j)%g:Nat):Int)),rfl,?_⟩;rw[jJ];unfold bump;rw[List.map_set])
 refine⟨x7',x8',?_⟩;rw[e];simp
theorem zW{cf:Str->List D->M D}{σ:Sg}{S1:af}{es:E}{xs ys:WP}(hs:evs sub cf es σ S=.ok [.tup xs,.tup ys] S1):evI sub cf (.iZip es) σ S=.ok ⟨bG xs ys,none,[]⟩ S1:=by
 rw[uw,hs]; rfl
theorem zip_map{α β:Type}{f:α->D}{h:β->D}:∀(xs:List α) (ys:List β),bG (xs.map f) (ys.map h)=(xs.zip ys).map λp=>.tup [f p.1,h p.2]
 | [],_=>rfl
 | _::_,[]=>rfl
 | x::r,y::q=>by
  show D.tup [f x,h y]::bG (r.map f) (q.map h)=_;rw[zip_map r q]; rfl
theorem xH{A:af}{g:Nat}(hg:g<=1000):opD .mul (.loc A.length) (.int (g:Int)) (A++[.lst [.int 0]])=.ok (.loc (A++[Cell.lst [D.int 0]]).length) ((A++[.lst [.int 0]])++[.lst ((List.replicate g (0:Int)).map .int)]):=by
 show aU A.length (λxs=>guard (decide (-(2^63)<=(g:Int))&&decide ((g:Int)<2^63)&&fits (xs.length*(g:Int).toNat)) (alloc (.lst (List.replicate (g:Int).toNat xs).flatten))) (A++[.lst [.int 0]])=_;unfold aU;rw[aJ];have e1:decide (-(2^63)<=(g:Int))=true:=Zi (by omega);have e2:decide ((g:Int)<2^63)=true:=Zi (by omega);have e3:fits ([D.int 0].length*(g:Int).toNat)=true:=oZ (by rw[ZQ]; show 1*g<=1000; omega);simp only[e1,e2,e3,Wl]
 have e4:(List.replicate (g:Int).toNat [D.int 0]).flatten=(List.replicate g (0:Int)).map .int:=by
  rw[ZQ,List.map_replicate];clear e3 e2 e1 hg
  induction g with
  | zero=>rfl
  | succ k ih=>rw[Xv,Qd,ih,Xv]; rfl
 show alloc (.lst (List.replicate (g:Int).toNat [D.int 0]).flatten) (A++[.lst [.int 0]])=_;rw[e4]; rfl
theorem wm{a b:Nat}{T:af}:cmD .eq (.int (a:Int)) (.int (b:Int)) T=.ok (.bl (decide (a=b))) T:=by
 have e:eqD 12 T (.int (a:Int)) (.int (b:Int))=some (decide ((a:Int)=(b:Int))):=rfl
 have e2:decide ((a:Int)=(b:Int))=decide (a=b):=by
  by_cases h:a=b
  ·rw[Zi h,Zi (by omega)]
  ·rw[Zw h,Zw (by omega)]
 rw[<- e2]; rfl
theorem IM(hB:Has P "busy_machines" g7){l:Lp}{g:Nat}(hg:0<g)(hg2:g<=1000){pl:List Nat}{crew:Nat}{c:Nat×Nat}(hc:l.crews[crew]?=some c)(hb:c.2<=4) :
  ah sub P (n+1) "busy_machines" [l.toD,.int (g:Int),.tup (pl.map au),.int (crew:Int)] S=.ok (.loc S.length) (S++[.lst ((b5 g crew c.2 (pl.zip l.works) (List.replicate g 0)).map .int)]):=by
 generalize hA:S++[Cell.lst [D.int 0]]=A
 obtain⟨σ',T',e,x5,x6,x7,x8,rfl,rfl⟩:=dS (sub:=sub) (cf:=ah sub P n) (t:=.many [5,6]) (it:=.iZip (.cs (.v 2) (.cs (.ix (.v 0) (.c (.int 2))) .nl)))
  (b:=.ite (.cmp .eq (.ix (.v 6) (.c (.int 0))) (.v 3)) (.forS (.one 7) (.iRng (.cs (.ix (.ix (.ix (.v 0) (.c (.int 1))) (.v 3)) (.c (.int 1))) .nl)) jB) .skip)
  (σ:=[some l.toD,some (.int (g:Int)),some (.tup (pl.map au)),some (.int (crew:Int)),some (.loc A.length),none,none,none,none]) (S:=A++[.lst ((List.replicate g (0:Int)).map .int)]) (S1:=A++[.lst ((List.replicate g (0:Int)).map .int)])
  (s:=⟨(pl.zip l.works).map λp=>.tup [au p.1,p.2.toD],none,[]⟩)
  (λi σ T=>∃x5 x6 x7 x8,σ=[some l.toD,some (.int (g:Int)),some (.tup (pl.map au)),some (.int (crew:Int)),some (.loc A.length),x5,x6,x7,x8]/\T=A++[.lst ((b5 g crew c.2 ((pl.zip l.works).take i) (List.replicate g 0)).map .int)])
  (by rw[<- zip_map]; exact zW (aa (r_v rfl) (aa (ao (r_v rfl) r_c (av rfl)) ai))) ⟨none,none,none,none,rfl,rfl⟩ (λ_ _ _ _=>rfl) (λi hi σ T ⟨x5,x6,x7,x8,hσ,hT⟩=>by
   subst hσ; subst hT;have hi':i<(pl.zip l.works).length:=by simpa using hi
   show ∃σ' T',aK sub (ah sub P n) _ _ (((pl.zip l.works).map λp=>D.tup [au p.1,p.2.toD])[i]'hi) _ _=_/\_;rw[XC];have hs:=XN hi';generalize (pl.zip l.works)[i]=p at hs;obtain⟨b,w⟩:=p
   by_cases hw:w.crew=crew
   ·obtain⟨x7',x8',e⟩:=C_ (sub:=sub) (cf:=ah sub P n) (l:=l) (g:=g) (b:=b) (crew:=crew) (c:=c) (D2:=.tup (pl.map au)) (D6:=w.toD) (A:=A) (xs:=b5 g crew c.2 ((pl.zip l.works).take i) (List.replicate g 0)) (x7:=x7) (x8:=x8) hc hb hg (by rw[oN,Xw]);refine⟨_,_,dI rfl (bw (aT (aX (ao (r_v rfl) r_c (av rfl)) (r_v rfl) (by rw[wm,Zi hw]))) e),_,_,_,_,rfl,?_⟩;rw[hs,oj,Zf hw]
   ·refine⟨_,_,dI rfl (aG (aT (aX (ao (r_v rfl) r_c (av rfl)) (r_v rfl) (by rw[wm,Zw hw]))) aH),_,_,x7,x8,rfl,?_⟩;rw[hs,oj,Zg hw])
 rw[Zc,ZO] at e;have hlen:S.length<=A.length:=by rw[<- hA]; simp
 refine x_call (ds:=[l.toD,.int (g:Int),.tup (pl.map au),.int (crew:Int)]) hB rfl (ak (aE (aP (bV (aa r_c ai) rfl) (r_v rfl) (xH hg2))) (ak (by rw[hA]; exact e) (aB (r_v rfl)))) (jv hlen ?_ (aJ _ _) ?_)
 ·rw[<- hA,Zq,bB]
 ·exact jP _
end
end RL

namespace RL
open PySem EV GO
noncomputable def iY:Fn:=⟨4,6,(.seq (.forS (.many [4,5]) (.iEnum (.call "busy_machines" (.cs (.v 0) (.cs (.v 1) (.cs (.v 2) (.cs (.v 3) .nl))))))
  (.ite (.cmp .gt (.v 5) (.ix (.ix (.ix (.v 0) (.c (.int 1))) (.v 3)) (.c (.int 0))))
  (.ret (.v 4))
  .skip))
 (.ret (.c .non)))⟩
noncomputable def b9(m:Int):Nat->List Int->Option Nat
 | _,[]=>none
 | k,x::r=>if x>m then some k else b9 m (k+1) r
noncomputable def kM:EV.S:=.ite (.cmp .gt (.v 5) (.ix (.ix (.ix (.v 0) (.c (.int 1))) (.v 3)) (.c (.int 0)))) (.ret (.v 4)) .skip
theorem vv(t x:Wx):∀r,x∈bC t r ↔ x=t\/x∈r
 | []=>by unfold bC; simp
 | u::r=>by
  unfold bC
  by_cases e:t=u
  ·rw[Zf e]; subst e; simp
  ·rw[Zg e]
   by_cases q:lexLe t u=true
   ·rw[Zf q]; simp
   ·rw[Zg q,Zt,vv t x r,Zt]; constructor
    ·rintro(h|h|h)
     ·exact .inr (.inl h)
     ·exact .inl h
     ·exact .inr (.inr h)
    ·rintro(h|h|h)
     ·exact .inr (.inl h)
     ·exact .inl h
     ·exact .inr (.inr h)
theorem oB(x:Wx):∀ts,x∈aN ts ↔ x∈ts
 | []=>Iff.rfl
 | t::r=>by
  show x∈bC t (aN r) ↔ _;rw[vv,oB x r,Zt]
section
variable{sub:Sub}{P:Prg}{n:Nat}{S:af}
theorem f6{s:Src}{f:D->Sg->M Fl}{d y:D}{ds:WP}{σ:Sg}{S1:af}(hs:aF s S=.ok () S)(hb:f d σ S=.ok (.rt y) S1):forL s f (d::ds) σ S=.ok (.rt y) S1:=by
 rw[jf,hs,Res.aj,hb]; rfl
theorem gk{s:Src}{f:D->Sg->M Fl}{σ:Sg}(hs:aF s S=.ok () S):forL s f [] σ S=.ok (.nx σ) S:=by
 rw[kR,hs]; rfl
theorem qJ{cf:Str->List D->M D}{s:Src}{T:af}{l:Lp}{crew:Nat}{c:Nat×Nat}{D1 D2:D}(hs:aF s T=.ok () T)(hc:l.crews[crew]?=some c):∀(xs:Wx) (k:Nat) (x4 x5:Option D),
  (∃r,b9 (c.1:Int) k xs=some r/\forL s (aK sub cf (.many [4,5]) kM) (num k (xs.map .int)) [some l.toD,some D1,some D2,some (.int (crew:Int)),x4,x5] T=.ok (.rt (.int (r:Int))) T) \/
  (b9 (c.1:Int) k xs=none/\∃σ',forL s (aK sub cf (.many [4,5]) kM) (num k (xs.map .int)) [some l.toD,some D1,some D2,some (.int (crew:Int)),x4,x5] T=.ok (.nx σ') T)
 | [],k,x4,x5=>.inr ⟨rfl,_,gk hs⟩
 | x::r,k,x4,x5=>by
  have ht:evT sub cf (.cmp .gt (.v 5) (.ix (.ix (.ix (.v 0) (.c (.int 1))) (.v 3)) (.c (.int 0)))) [some l.toD,some D1,some D2,some (.int (crew:Int)),some (.int (k:Int)),some (.int x)] T=.ok (decide (x>(c.1:Int))) T :=
   aT (aX (r_v rfl) (ao (ao (ao (r_v rfl) r_c (av rfl)) (r_v rfl) (av (lz hc))) r_c (av rfl)) (jq _ _ _))
  by_cases h:x>(c.1:Int)
  ·refine .inl ⟨k,by unfold b9; rw[Zf h],?_⟩;rw[Zi h] at ht;exact f6 hs (dI rfl (bw ht (aB (r_v rfl))))
  ·rw[Zw h] at ht
   have e:b9 (c.1:Int) k (x::r)=b9 (c.1:Int) (k+1) r:=by
    show(if x>(c.1:Int) then some k else b9 (c.1:Int) (k+1) r)=_;rw[Zg h]
   rw[e]
   have st:∀{RF},forL s (aK sub cf (.many [4,5]) kM) (num (k+1) (r.map .int)) [some l.toD,some D1,some D2,some (.int (crew:Int)),some (.int (k:Int)),some (.int x)] T=RF ->
     forL s (aK sub cf (.many [4,5]) kM) (num k ((x::r).map .int)) [some l.toD,some D1,some D2,some (.int (crew:Int)),x4,x5] T=RF:=λq=>dh hs (dI rfl (aG ht aH)) q
   rcases qJ hs hc r (k+1) (some (.int (k:Int))) (some (.int x)) with⟨q,h1,h2⟩|⟨h1,σ',h2⟩
   ·exact .inl ⟨q,h1,st h2⟩
   ·exact .inr ⟨h1,σ',st h2⟩
noncomputable def A3:Option Nat->D
 | some r=>.int (r:Int)
 | none=>.non
theorem GC(hB:Has P "busy_machines" g7)(hC:Has P "crowded_rest" iY){l:Lp}{g:Nat}(hg:0<g)(hg2:g<=1000){pl:List Nat}{crew:Nat}{c:Nat×Nat}(hc:l.crews[crew]?=some c)(hb:c.2<=4) :
  ah sub P (n+2) "crowded_rest" [l.toD,.int (g:Int),.tup (pl.map au),.int (crew:Int)] S=.ok (A3 (b9 (c.1:Int) 0 (b5 g crew c.2 (pl.zip l.works) (List.replicate g 0)))) S:=by
 generalize hxs:b5 g crew c.2 (pl.zip l.works) (List.replicate g 0)=xs;have hbz:=IM (sub:=sub) (n:=n) (S:=S) hB (l:=l) hg hg2 (pl:=pl) hc hb;rw[hxs] at hbz
 have hi:evI sub (ah sub P (n+1)) (.iEnum (.call "busy_machines" (.cs (.v 0) (.cs (.v 1) (.cs (.v 2) (.cs (.v 3) .nl)))))) [some l.toD,some (.int (g:Int)),some (.tup (pl.map au)),some (.int (crew:Int)),none,none] S=.ok ⟨num 0 (xs.map .int),some S.length,xs.map .int⟩ (S++[.lst (xs.map .int)]):=by
  rw[qh,ay (aa (r_v rfl) (aa (r_v rfl) (aa (r_v rfl) (aa (r_v rfl) ai)))) hbz,Res.aj,cL (aJ _ _)]; rfl
 have hs:aF ⟨num 0 (xs.map .int),some S.length,xs.map .int⟩ (S++[.lst (xs.map .int)])=.ok () (S++[.lst (xs.map .int)]):=d_ (.inr ⟨_,rfl,aJ _ _⟩);rcases qJ (sub:=sub) (cf:=ah sub P (n+1)) (D1:=.int (g:Int)) (D2:=.tup (pl.map au)) hs hc xs 0 none none with⟨r,h1,h2⟩|⟨h1,σ',h2⟩
 ·rw[h1];exact x_call (ds:=[l.toD,.int (g:Int),.tup (pl.map au),.int (crew:Int)]) hC rfl (bO (bP hi h2)) (ic _ _ _)
 ·rw[h1];exact x_call (ds:=[l.toD,.int (g:Int),.tup (pl.map au),.int (crew:Int)]) hC rfl (ak (bP hi h2) (aB r_c)) (bh rfl (bB _ _))
theorem fC{cf:Str->List D->M D}{σ:Sg}{a:E}{x:D}{S1:af}(h:ev sub cf a σ S=.ok x S1):evT sub cf (.notN a) σ S=.ok (!decide (x=.non)) S1:=by
 rw[Iv,h]; rfl
noncomputable def lS:Fn:=⟨3,6,(.seq (.forS (.one 3) (.iSeq (.call "needs" (.cs (.v 0) .nl)))
  (.ite (.cmp .lt (.call "waiting" (.cs (.v 0) (.cs (.v 1) (.cs (.v 2) (.cs (.v 3) .nl))))) (.c (.int 0)))
  (.ret (.tup (.cs (.c (.str "need")) (.cs (.v 3) .nl))))
  .skip))
 (.seq (.forS (.one 4) (.iRng (.cs (.bi .len (.cs (.ix (.v 0) (.c (.int 1))) .nl)) .nl))
  (.seq (.set (.one 5) (.call "crowded_rest" (.cs (.v 0) (.cs (.v 1) (.cs (.v 2) (.cs (.v 4) .nl))))))
 (.ite (.notN (.v 5))
  (.ret (.tup (.cs (.c (.str "crew")) (.cs (.v 4) (.cs (.v 5) .nl)))))
  .skip)))
 (.ret (.c .non))))⟩
noncomputable def k9:EV.S:=.ite (.cmp .lt (.call "waiting" (.cs (.v 0) (.cs (.v 1) (.cs (.v 2) (.cs (.v 3) .nl))))) (.c (.int 0))) (.ret (.tup (.cs (.c (.str "need")) (.cs (.v 3) .nl)))) .skip
noncomputable def kI:EV.S:=.seq (.set (.one 5) (.call "crowded_rest" (.cs (.v 0) (.cs (.v 1) (.cs (.v 2) (.cs (.v 4) .nl)))))) (.ite (.notN (.v 5)) (.ret (.tup (.cs (.c (.str "crew")) (.cs (.v 4) (.cs (.v 5) .nl))))) .skip)
noncomputable def dQ(l:Lp)(g:Nat)(pl:List Nat):List Int->Int
 | [x,i,b]=>cM l g pl x.toNat i.toNat b.toNat
 | _=>0
def Tri(n:Nat)(t:Wx):Prop:=∃x i b:Nat,t=[(x:Int),(i:Int),(b:Int)]/\x<n/\i<n/\b<=3
theorem pG(hw:Has P "waiting" iy){s:Src}{T:af}{l:Lp}{g:Nat}{pl:List Nat}(hp:pl.length=l.works.length)(hs:aF s T=.ok () T):∀(ts:WB) (x3:Option D),(∀t∈ts,Tri l.works.length t) ->
  (∃t,ts.find? (λt=>decide (dQ l g pl t<0))=some t/\forL s (aK sub (ah sub P (n+1)) (.one 3) k9) (ts.map tupI) [some l.toD,some (.int (g:Int)),some (.tup (pl.map au)),x3,none,none] T=.ok (.rt (.tup [.str "need",tupI t])) T) \/
  (ts.find? (λt=>decide (dQ l g pl t<0))=none/\∃x3',forL s (aK sub (ah sub P (n+1)) (.one 3) k9) (ts.map tupI) [some l.toD,some (.int (g:Int)),some (.tup (pl.map au)),x3,none,none] T=.ok (.nx [some l.toD,some (.int (g:Int)),some (.tup (pl.map au)),x3',none,none]) T)
 | [],x3,_=>.inr ⟨rfl,_,gk hs⟩
 | t::r,x3,h=>by
  obtain⟨x,i,b,rfl,h1,h2,h3⟩:=h t Zk;have ew:dQ l g pl [(x:Int),(i:Int),(b:Int)]=cM l g pl x i b:=rfl;have hv:=yO (sub:=sub) (n:=n) (S:=T) hw (g:=g) hp h1 h2 h3
  have ht:evT sub (ah sub P (n+1)) (.cmp .lt (.call "waiting" (.cs (.v 0) (.cs (.v 1) (.cs (.v 2) (.cs (.v 3) .nl))))) (.c (.int 0))) [some l.toD,some (.int (g:Int)),some (.tup (pl.map au)),some (tupI [(x:Int),(i:Int),(b:Int)]),none,none] T=.ok (decide (cM l g pl x i b<0)) T :=
   aT (aX (ay (aa (r_v rfl) (aa (r_v rfl) (aa (r_v rfl) (aa (r_v rfl) ai)))) hv) r_c (jQ _ _ _))
  by_cases q:cM l g pl x i b<0
  ·rw[Zi q] at ht;exact .inl ⟨_,by rw[ZP,ew,Zi q],f6 hs (bW (bw ht (aB (ee (aa r_c (aa (r_v rfl) ai)) rfl))))⟩
  ·rw[Zw q] at ht;rw[ZP,ew,Zw q]
   have st:∀{RF},forL s (aK sub (ah sub P (n+1)) (.one 3) k9) (r.map tupI) [some l.toD,some (.int (g:Int)),some (.tup (pl.map au)),some (tupI [(x:Int),(i:Int),(b:Int)]),none,none] T=RF ->
     forL s (aK sub (ah sub P (n+1)) (.one 3) k9) (([(x:Int),(i:Int),(b:Int)]::r).map tupI) [some l.toD,some (.int (g:Int)),some (.tup (pl.map au)),x3,none,none] T=RF:=λq=>dh hs (bW (aG ht aH)) q
   rcases pG hw hp hs r (some (tupI [(x:Int),(i:Int),(b:Int)])) (λu hu=>h u (Zm _ hu)) with⟨u,h1,h2⟩|⟨h1,x3',h2⟩
   ·exact .inl ⟨u,h1,st h2⟩
   ·exact .inr ⟨h1,x3',st h2⟩
noncomputable def cE(l:Lp)(g:Nat)(pl:List Nat)(k:Nat):Option Nat:=b9 (((l.crews.getD k (0,0)).1:Nat):Int) 0 (b5 g k (l.crews.getD k (0,0)).2 (pl.zip l.works) (List.replicate g 0))
noncomputable def cH(f:Nat->Option Nat):List Nat->Option (Nat×Nat)
 | []=>none
 | k::r=>match f k with
  | some x=>some (k,x)
  | none=>cH f r
theorem rm(hB:Has P "busy_machines" g7)(hC:Has P "crowded_rest" iY){s:Src}{T:af}{l:Lp}(hl:l.WF){g:Nat}(hg:0<g)(hg2:g<=1000){pl:List Nat}{D3:Option D}(hs:aF s T=.ok () T):∀(ks:List Nat) (x4 x5:Option D),(∀k∈ks,k<l.crews.length) ->
  (∃k r,cH (cE l g pl) ks=some (k,r)/\forL s (aK sub (ah sub P (n+2)) (.one 4) kI) (ks.map au) [some l.toD,some (.int (g:Int)),some (.tup (pl.map au)),D3,x4,x5] T=.ok (.rt (.tup [.str "crew",.int (k:Int),.int (r:Int)])) T) \/
  (cH (cE l g pl) ks=none/\∃σ',forL s (aK sub (ah sub P (n+2)) (.one 4) kI) (ks.map au) [some l.toD,some (.int (g:Int)),some (.tup (pl.map au)),D3,x4,x5] T=.ok (.nx σ') T)
 | [],x4,x5,_=>.inr ⟨rfl,_,gk hs⟩
 | k::r,x4,x5,h=>by
  have hk:=h k Zk;have hc:l.crews[k]?=some (l.crews.getD k (0,0)):=by rw[Zj,Zb hk]; rfl
  have hv:=GC (sub:=sub) (n:=n) (S:=T) hB hC hg hg2 (pl:=pl) hc (hl.crews _ (ZD hc)).2.2;have hset:=λ{x5:Option D}=>aE (sub:=sub) (cf:=ah sub P (n+2)) (σ:=[some l.toD,some (.int (g:Int)),some (.tup (pl.map au)),D3,some (.int (k:Int)),x5]) (i:=5) (ay (f:="crowded_rest") (aa (r_v (i:=0) rfl) (aa (r_v (i:=1) rfl) (aa (r_v (i:=2) rfl) (aa (r_v (i:=4) rfl) ai)))) hv)
  cases q:cE l g pl k with
  | some x =>
   refine .inl ⟨k,x,by show(match cE l g pl k with|some x=>some (k,x)|none=>cH (cE l g pl) r)=_; rw[q],?_⟩;rw[show b9 _ _ _=some x from q] at hset;exact f6 hs (bW (ak hset (bw (t_k (fC (x:=.int (x:Int)) (r_v rfl)) rfl) (aB (ee (aa r_c (aa (r_v rfl) (aa (r_v rfl) ai))) rfl)))))
  | none =>
   rw[show b9 _ _ _=none from q] at hset
   have e:cH (cE l g pl) (k::r)=cH (cE l g pl) r:=by
    show(match cE l g pl k with|some x=>some (k,x)|none=>cH (cE l g pl) r)=_;rw[q]
   rw[e]
   have st:∀{RF},forL s (aK sub (ah sub P (n+2)) (.one 4) kI) (r.map au) [some l.toD,some (.int (g:Int)),some (.tup (pl.map au)),D3,some (.int (k:Int)),some .non] T=RF ->
     forL s (aK sub (ah sub P (n+2)) (.one 4) kI) ((k::r).map au) [some l.toD,some (.int (g:Int)),some (.tup (pl.map au)),D3,x4,x5] T=RF:=λq=>dh hs (bW (ak hset (aG (t_k (fC (x:=.non) (r_v rfl)) rfl) aH))) q
   rcases rm hB hC hl hg hg2 hs r (some (.int (k:Int))) (some .non) (λu hu=>h u (Zm _ hu)) with⟨k',r',h1,h2⟩|⟨h1,σ',h2⟩
   ·exact .inl ⟨k',r',h1,st h2⟩
   ·exact .inr ⟨h1,σ',st h2⟩
noncomputable def cS(l:Lp)(g:Nat)(pl:List Nat):D:=match (aN (aW 0 l.works)).find? (λt=>decide (dQ l g pl t<0)) with
 | some t=>.tup [.str "need",tupI t]
 | none=>match cH (cE l g pl) (List.range l.crews.length) with
  | some (k,r)=>.tup [.str "crew",.int (k:Int),.int (r:Int)]
  | none=>.non
theorem CC{l:Lp}(hl:l.WF):∀t∈aN (aW 0 l.works),Tri l.works.length t:=λt ht=>by
 obtain⟨i,w,b,x,h1,h2,rfl⟩:=iB ((oB t _).mp ht);have hw:=hl.works i w h1;have hi:=(Zh.mp h1).1;have:=hw.srcs _ h2;obtain⟨hb,hx⟩:=(show b<=3/\x<(if b=0 then i else l.works.length) from this)
 refine⟨x,i,b,by rw[Xq],?_,hi,hb⟩;split at hx<;>omega
theorem D9(h:HB P)(hn:Has P "needs" fS)(hw:Has P "waiting" iy)(hB:Has P "busy_machines" g7)(hC:Has P "crowded_rest" iY)(hF:Has P "fault" lS)
  {l:Lp} (hl:l.WF) (h6:l.works.length<=6) {g:Nat} (hg:0<g) (hg2:g<=1000) {pl:List Nat} (hp:pl.length=l.works.length) :
  ah sub P (n+9) "fault" [l.toD,.int (g:Int),.tup (pl.map au)] S=.ok (cS l g pl) S:=by
 have hnd:=n5 (sub:=sub) (n:=n) (S:=S) h hn hl h6
 have hi:evI sub (ah sub P (n+8)) (.iSeq (.call "needs" (.cs (.v 0) .nl))) [some l.toD,some (.int (g:Int)),some (.tup (pl.map au)),none,none,none] S=.ok ⟨(aN (aW 0 l.works)).map tupI,some S.length,(aN (aW 0 l.works)).map tupI⟩ (S++[.lst ((aN (aW 0 l.works)).map tupI)]) :=
  ck (ay (aa (r_v rfl) ai) hnd) (cL (aJ _ _))
 have hs:aF ⟨(aN (aW 0 l.works)).map tupI,some S.length,(aN (aW 0 l.works)).map tupI⟩ (S++[.lst ((aN (aW 0 l.works)).map tupI)])=.ok () (S++[.lst ((aN (aW 0 l.works)).map tupI)]):=d_ (.inr ⟨_,rfl,aJ _ _⟩);unfold cS;rcases pG (sub:=sub) (n:=n+7) hw (g:=g) hp hs (aN (aW 0 l.works)) none (CC hl) with⟨t,h1,h2⟩|⟨h1,x3,h2⟩
 ·rw[h1];exact x_call (ds:=[l.toD,.int (g:Int),.tup (pl.map au)]) hF rfl (bO (bP hi h2)) (bh (show(true&&(D.lows 0 (t.map .int)&&true))=true by rw[jP]; rfl) (bB _ _))
 ·rw[h1]
  have hr:evI sub (ah sub P (n+8)) (.iRng (.cs (.bi .len (.cs (.ix (.v 0) (.c (.int 1))) .nl)) .nl)) [some l.toD,some (.int (g:Int)),some (.tup (pl.map au)),x3,none,none] (S++[.lst ((aN (aW 0 l.works)).map tupI)])=.ok ⟨(List.range l.crews.length).map au,none,[]⟩ (S++[.lst ((aN (aW 0 l.works)).map tupI)]) :=
   dM (aa (aO (aa (ao (r_v rfl) r_c (av rfl)) ai) dw) ai) (by rw[Zc]) (by have:=hl.ncrews; omega) λ_=>rfl
  rcases rm (sub:=sub) (n:=n+6) hB hC hl hg hg2 (pl:=pl) (D3:=x3) (T:=S++[.lst ((aN (aW 0 l.works)).map tupI)]) (s:=⟨(List.range l.crews.length).map au,none,[]⟩) rfl (List.range l.crews.length) none none (λk hk=>Z0.mp hk) with⟨k,r,h3,h4⟩|⟨h3,σ',h4⟩
  ·rw[h3];exact x_call (ds:=[l.toD,.int (g:Int),.tup (pl.map au)]) hF rfl (ak (bP hi h2) (bO (bP hr h4))) (bh rfl (bB _ _))
  ·rw[h3];exact x_call (ds:=[l.toD,.int (g:Int),.tup (pl.map au)]) hF rfl (ak (bP hi h2) (ak (bP hr h4) (aB r_c))) (bh rfl (bB _ _))
end
end RL

namespace RL
open PySem EV GO
noncomputable def bQ(l:Lp)(w:Wk):Nat:=max w.long (l.crews.getD w.crew (0,0)).2
noncomputable def bu(l:Lp):Nat->List Wk->List Nat
 | _,[]=>[]
 | t,w::r=>t::bu l (t+bQ l w) r
noncomputable def cC(l:Lp):Nat->List Wk->Nat
 | t,[]=>t
 | t,w::r=>cC l (t+bQ l w) r
theorem kO(l:Lp):∀(ws:List Wk) (t:Nat),(bu l t ws).length=ws.length
 | [],_=>rfl
 | w::r,t=>by show(bu l _ r).length+1=_; rw[kO l r]; rfl
theorem nk(l:Lp):∀(ws:List Wk) (t:Nat),t<=cC l t ws
 | [],_=>Zl _
 | w::r,t=>Xa (XD _ _) (nk l r _)
theorem u9(l:Lp):∀(ws:List Wk) (t i:Nat) (h:i<ws.length),bu l t (ws.take (i+1))=bu l t (ws.take i)++[cC l t (ws.take i)]/\cC l t (ws.take (i+1))=cC l t (ws.take i)+bQ l ws[i]
 | w::r,t,0,_=>⟨rfl,rfl⟩
 | w::r,t,i+1,h=>by
  obtain⟨h1,h2⟩:=u9 l r (t+bQ l w) i (by simpa using h);constructor
  ·show t::bu l (t+bQ l w) (r.take (i+1))=t::(bu l (t+bQ l w) (r.take i)++_);rw[h1]; rfl
  ·exact h2
theorem j9(l:Lp):∀(ws:List Wk) (t i:Nat) (w:Wk),ws[i]?=some w->∃b,(bu l t ws)[i]?=some b/\t<=b/\b+bQ l w<=cC l t ws/\∀j b',i<j->(bu l t ws)[j]?=some b'->b+bQ l w<=b'
 | w::r,t,0,v,h=>by
  cases h;refine⟨t,rfl,Zl _,nk l r _,λj b' hj hb=>?_⟩;obtain⟨k,rfl⟩:∃k,j=k+1:=⟨j-1,by omega⟩
  have hb:(bu l (t+bQ l w) r)[k]?=some b':=hb;have hk:k<r.length:=by rw[<- kO l r (t+bQ l w)]; exact(Zh.mp hb).1
  obtain⟨c,h1,h2,_⟩:=j9 l r (t+bQ l w) k _ (Zb hk);rw[hb] at h1; cases h1;exact h2
 | w::r,t,i+1,v,h=>by
  obtain⟨b,h1,h2,h3,h4⟩:=j9 l r (t+bQ l w) i v h;refine⟨b,h1,by omega,h3,λj b' hj hb=>?_⟩;obtain⟨k,rfl⟩:∃k,j=k+1:=⟨j-1,by omega⟩
  exact h4 k b' (by omega) hb
def Low(t:Nat)(xs:Wx):Prop:=∀r,xs.getD r 0<=1/\(t<=r->xs.getD r 0=0)
theorem Fo{xs:Wx}{i r:Nat}{v:Int}:(xs.set i v).getD r 0=if i=r/\r<xs.length then v else xs.getD r 0:=by
 rw[Zj,Zj,Wp]
 by_cases h:i=r
 ·subst h
  by_cases h2:i<xs.length
  ·simp[h2]
  ·simp[h2,XS (Nat.le_of_not_lt h2)]
 ·simp[h]
theorem pD{g t:Nat}{xs:Wx}(h:Low t xs):∀m,t+m<=g->Low (t+m) (bH g t m xs)
 | 0,_=>h
 | m+1,hm=>by
  have ih:=pD (g:=g) h m (by omega);rw[jJ,Nat.mod_eq_of_lt (by omega)];intro r;unfold bump;rw[Fo]
  by_cases e:t+m=r/\r<(bH g t m xs).length
  ·rw[Zf e];have:=(ih (t+m)).2 (Zl _);exact⟨by omega,λhr=>by omega⟩
  ·rw[Zg e];refine⟨(ih r).1,λhr=>(ih r).2 (by omega)⟩
theorem Low.mono{t t':Nat}{xs:Wx}(h:Low t xs)(e:t<=t'):Low t' xs:=λr=>⟨(h r).1,λq=>(h r).2 (by omega)⟩
theorem tY{l:Lp}{g crew:Nat}:∀(ws:List Wk) (t:Nat) (xs:Wx),Low t xs->cC l t ws<=g->Low g (b5 g crew (l.crews.getD crew (0,0)).2 ((bu l t ws).zip ws) xs)
 | [],t,xs,h,e=>h.mono e
 | w::r,t,xs,h,e=>by
  have e':cC l (t+bQ l w) r<=g:=e;have h2:=nk l r (t+bQ l w);show Low g (b5 g crew (l.crews.getD crew (0,0)).2 ((bu l (t+bQ l w) r).zip r) (if w.crew=crew then bH g t (l.crews.getD crew (0,0)).2 xs else xs));refine tY r (t+bQ l w) _ ?_ e
  by_cases q:w.crew=crew
  ·rw[Zf q];have hle:(l.crews.getD crew (0,0)).2<=bQ l w:=by rw[<- q]; exact Nat.le_max_right _ _
   exact(pD h _ (by omega)).mono (by omega)
  ·rw[Zg q]; exact h.mono (XD _ _)
theorem w4{m:Int}:∀(xs:Wx) (k:Nat),(∀x∈xs,x<=m)->b9 m k xs=none
 | [],_,_=>rfl
 | x::r,k,h=>by
  show(if x>m then some k else b9 m (k+1) r)=none;rw[Zg (by have:=h x Zk; omega)];exact w4 r (k+1) λy hy=>h y (Zm _ hy)
theorem uT{f:Nat->Option Nat}:∀(ks:List Nat),(∀k∈ks,f k=none)->cH f ks=none
 | [],_=>rfl
 | k::r,h=>by
  show(match f k with|some x=>some (k,x)|none=>cH f r)=none;rw[h k Zk];exact uT r λj hj=>h j (Zm _ hj)
theorem Er{l:Lp}(hl:l.WF){g:Nat}(hg:cC l 0 l.works<=g):cS l g (bu l 0 l.works)=.non:=by
 have hn:(aN (aW 0 l.works)).find? (λt=>decide (dQ l g (bu l 0 l.works) t<0))=none:=by
  refine List.find?_eq_none.mpr λt ht=>?_
  obtain⟨i,w,b,x,h1,h2,rfl⟩:=iB ((oB t _).mp ht);rw[Xq];have hi:=(Zh.mp h1).1;obtain⟨hb,hx⟩:=(show b<=3/\x<(if b=0 then i else l.works.length) from(hl.works i w h1).srcs _ h2)
  have hxn:x<l.works.length:=by split at hx<;>omega
  obtain⟨bx,p1,p2,p3,p4⟩:=j9 l l.works 0 x _ (Zb hxn);obtain⟨bi,q1,_⟩:=j9 l l.works 0 i w h1;have e1:(bu l 0 l.works).getD x 0=bx:=by rw[Zj,p1]; rfl
  have e2:(bu l 0 l.works).getD i 0=bi:=by rw[Zj,q1]; rfl
  have e3:l.works.getD x ⟨0,0,"",[],[]⟩=l.works[x]:=by rw[Zj,Zb hxn]; rfl
  have hs:(l.works[x]).long<=bQ l l.works[x]:=Nat.le_max_left _ _
  have key:(0:Int)<=cM l g (bu l 0 l.works) x i b:=by
   unfold cM;rw[e1,e2,e3]
   by_cases b0:b=0
   ·subst b0;rw[Zf rfl] at hx;have:=p4 i bi hx q1;simp only[Int.natCast_zero,Int.zero_mul];omega
   ·have:(g:Int)<=(b:Int)*(g:Int):=by
     have h1:(1:Int)<=(b:Int):=by omega
     have h0:(0:Int)<=(g:Int):=by omega
     calc (g:Int)=1*(g:Int):=(Int.one_mul _).symm
      _<=(b:Int)*(g:Int):=Int.mul_le_mul_of_nonneg_right h1 h0
    omega
  have ew:dQ l g (bu l 0 l.works) [(x:Int),(i:Int),(b:Int)]=cM l g (bu l 0 l.works) x i b:=rfl;rw[ew,Zw (by omega)];exact Zz
 have hc:cH (cE l g (bu l 0 l.works)) (List.range l.crews.length)=none:=by
  refine uT _ λk hk=>?_
  have hk:=Z0.mp hk;have e:l.crews.getD k (0,0)=l.crews[k]:=by rw[Zj,Zb hk]; rfl
  have h1:=(hl.crews _ (Z3 hk)).1.1;unfold cE
  have low:Low 0 (List.replicate g (0:Int)):=λr=>by
   have:(List.replicate g (0:Int)).getD r 0=0:=by
    rw[Zj,XL];split<;>rfl
   exact⟨by omega,λ_=>this⟩
  have B:=tY (l:=l) (g:=g) (crew:=k) l.works 0 _ low hg;refine w4 _ 0 λx hx=>?_
  obtain⟨r,hr⟩:=ZS hx;have:=(B r).1;rw[Zj,hr] at this;have this:x<=1:=this;rw[e];omega
 unfold cS;rw[hn,hc]
end RL

namespace RL
open PySem EV GO
noncomputable def vC:Fn:=⟨3,3,(.seq (.ex (.call "checked" (.cs (.v 0) .nl)))
 (.seq (.ex (.call "checked_gap" (.cs (.v 1) .nl)))
 (.ret (.call "fault" (.cs (.v 0) (.cs (.v 1) (.cs (.call "checked_plan" (.cs (.v 0) (.cs (.v 2) .nl))) .nl)))))))⟩
noncomputable def o9:Fn:=⟨1,5,(.seq (.set (.one 1) (.ix (.call "checked" (.cs (.v 0) .nl)) (.c (.int 1))))
 (.seq (.set (.one 2) (.lst .nl))
 (.seq (.set (.one 3) (.c (.int 0)))
 (.seq (.forS (.one 4) (.iSeq (.ix (.v 0) (.c (.int 2))))
  (.seq (.ex (.me .append (.v 2) (.cs (.v 3) .nl)))
 (.set (.one 3) (.bin .add (.v 3) (.bi .max (.cs (.ix (.v 4) (.c (.int 1))) (.cs (.ix (.ix (.v 1) (.ix (.v 4) (.c (.int 0)))) (.c (.int 1))) .nl)))))))
 (.ret (.tup (.cs (.v 3) (.cs (.bi .tuple (.cs (.v 2) .nl)) .nl))))))))⟩
set_option genInjectivity false in
structure HP(P:Prg):Prop where
 needs:Has P "needs" fS
 gap:Has P "checked_gap" nS
 isplan:Has P "is_plan" rV
 plan:Has P "checked_plan" wU
 waiting:Has P "waiting" iy
 busy:Has P "busy_machines" g7
 crowded:Has P "crowded_rest" iY
 fault:Has P "fault" lS
 wrong:Has P "wrong" vC
section
variable{sub:Sub}{P:Prg}{n:Nat}{S:af}
theorem l0(pl:List Nat):D.lows 0 (pl.map au)=true:=by
 induction pl with
 | nil=>rfl
 | cons a r ih=>show(D.low 0 (au a)&&D.lows 0 (r.map au))=true; rw[ih]; rfl
theorem pX(h:HB P)(hp:HP P){g:Nat}(h1:1<=g)(h2:g<=200):ah sub P (n+2) "checked_gap" [.int (g:Int)] S=.ok (.int (g:Int)) S :=
 x_call (ds:=[.int (g:Int)]) hp.gap rfl (ak (aG (bE (k:=true) (bN (ay (aa (r_v rfl) (aa r_c (aa r_c ai))) (cD h.whole (XB.mpr h1) (XB.mpr h2))))) aH) (aB (r_v rfl))) (gm _ _)
theorem yI(h:HB P)(hp:HP P){pl:List Nat}{m:Nat}(hl:pl.length=m)(hm:m<=1000)(ht:∀t∈pl,t<=999):ah sub P (n+2) "is_plan" [.tup (pl.map au),.int (m:Int)] S=.ok (.bl true) S:=by
 obtain⟨T,e⟩:=ku (sub:=sub) (cf:=ah sub P (n+1)) (σ:=[some (.tup (pl.map au)),some (.int (m:Int))]) (S:=S) (i:=3) (k:=2) (el:=.call "is_whole" (.cs (.v 3) (.cs (.c (.int 0)) (.cs (.c (.int 999)) .nl)))) (a:=.v 0) (l:=pl) (f:=au) (r_v rfl) (by omega)
  (λt hm=>ay (aa (r_v rfl) (aa r_c (aa r_c ai))) (cD h.whole (XT t) (XB.mpr (ht t hm))))
 exact x_call (ds:=[.tup (pl.map au),.int (m:Int)]) hp.isplan rfl (aB (fu (ay (aa (r_v rfl) (aa (r_v rfl) (aa (r_v rfl) ai))) (gH h.row m (by rw[Zc,hl]) (QH _) (QH _))) e)) (jl _ _ _)
theorem A2(h:HB P)(hp:HP P){l:Lp}(hl8:l.works.length<=8){pl:List Nat}(hl:pl.length=l.works.length)(ht:∀t∈pl,t<=999):ah sub P (n+3) "checked_plan" [l.toD,.tup (pl.map au)] S=.ok (.tup (pl.map au)) S:=by
 have e:biD sub .len [.tup (l.works.map Wk.toD)] S=.ok (.int ((l.works.length:Nat):Int)) S:=by rw[dw,Zc]
 exact x_call (ds:=[l.toD,.tup (pl.map au)]) hp.plan rfl (ak (aG (bE (k:=true) (bN (ay (aa (r_v rfl) (aa (aO (aa (ao (r_v rfl) r_c (av rfl)) ai) e) ai)) (yI h hp hl (by omega) ht)))) aH) (aB (r_v rfl))) (bh (l0 pl) ZO)
theorem AG(l:Lp)(g:Nat)(pl:List Nat):(cS l g pl).cl:=by
 unfold cS;split
 ·rename_i t _;show(true&&(D.lows 0 (t.map .int)&&true))=true;rw[jP]; rfl
 ·split<;>rfl
theorem BF(h:HB P)(hp:HP P){l:Lp}(hl:l.WF)(h6:l.works.length<=6){g:Nat}(h1:1<=g)(h2:g<=200){pl:List Nat}(hpl:pl.length=l.works.length)(ht:∀t∈pl,t<=999) :
  ah sub P (n+10) "wrong" [l.toD,.int (g:Int),.tup (pl.map au)] S=.ok (cS l g pl) S :=
 x_call (ds:=[l.toD,.int (g:Int),.tup (pl.map au)]) hp.wrong rfl (ak (cU (ay (aa (r_v rfl) ai) (gX h hl))) (ak (cU (ay (aa (r_v rfl) ai) (pX h hp h1 h2)))
  (aB (ay (aa (r_v rfl) (aa (r_v rfl) (aa (ay (aa (r_v rfl) (aa (r_v rfl) ai)) (A2 h hp (by omega) hpl ht)) ai))) (D9 h hp.needs hp.waiting hp.busy hp.crowded hp.fault hl h6 h1 (by omega) hpl))))) (bh (AG l g pl) ZO)
theorem zH{a b:Nat}{T:af}:biD sub .max [.int (a:Int),.int (b:Int)] T=.ok (.int ((max a b:Nat):Int)) T:=by
 show Res.ok (D.int (if(b:Int)>(a:Int) then(b:Int) else(a:Int))) T=_
 by_cases h:(b:Int)>(a:Int)
 ·rw[Zf h,Nat.max_eq_right (by omega)]
 ·rw[Zg h,Nat.max_eq_left (by omega)]
theorem Ib{l:Lp}(hl:l.WF){i:Nat}{w:Wk}(h:l.works[i]?=some w):l.crews[w.crew]?=some (l.crews.getD w.crew (0,0)):=by
 have:=(hl.works i w h).crew;rw[Zj,Zb this]; rfl
theorem yS(h:HB P)(hq:Has P "plainly" o9){l:Lp}(hl:l.WF):ah sub P (n+8) "plainly" [l.toD] S=.ok (.tup [.int ((cC l 0 l.works:Nat):Int),.tup ((bu l 0 l.works).map au)]) S:=by
 have hw8:=hl.nworks.2
 obtain⟨σ',T',e,x4,rfl,rfl⟩:=dS (sub:=sub) (cf:=ah sub P (n+7)) (t:=.one 4) (it:=.iSeq (.ix (.v 0) (.c (.int 2)))) (b:=.seq (.ex (.me .append (.v 2) (.cs (.v 3) .nl))) (.set (.one 3) (.bin .add (.v 3) (.bi .max (.cs (.ix (.v 4) (.c (.int 1))) (.cs (.ix (.ix (.v 1) (.ix (.v 4) (.c (.int 0)))) (.c (.int 1))) .nl))))))
  (σ:=[some l.toD,some (.tup (l.crews.map aZ)),some (.loc S.length),some (.int 0),none]) (S:=S++[.lst []]) (S1:=S++[.lst []]) (s:=⟨l.works.map Wk.toD,none,l.works.map Wk.toD⟩)
  (λi σ T=>∃x4,σ=[some l.toD,some (.tup (l.crews.map aZ)),some (.loc S.length),some (.int ((cC l 0 (l.works.take i):Nat):Int)),x4]/\T=S++[.lst ((bu l 0 (l.works.take i)).map au)])
  (ck (ao (r_v rfl) r_c (av rfl)) rfl) ⟨none,rfl,rfl⟩ (λ_ _ _ _=>rfl) (λi hi σ T ⟨x4,hσ,hT⟩=>by
   subst hσ; subst hT;have hi':i<l.works.length:=by simpa using hi
   have hit:(l.works.map Wk.toD)[i]'hi=(l.works[i]).toD:=XC _;show ∃σ' T',aK sub (ah sub P (n+7)) _ _ ((l.works.map Wk.toD)[i]'hi) _ _=_/\_;rw[hit];have hc:=Ib hl (Zb hi');obtain⟨p1,p2⟩:=u9 l l.works 0 i hi';have hz:((bu l 0 (l.works.take i)).map au).length<=1000000:=by rw[Zc,kO,Xz]; omega
   refine⟨_,_,bW (ak (cU (gg (r_v rfl) (aa (r_v rfl) ai) (rq (S:=S) (T:=[]) hz))) (aE (aP (r_v rfl) (aO (aa (ao (r_v rfl) r_c (av rfl)) (aa (ao (ao (r_v rfl) (ao (r_v rfl) r_c (av rfl)) (av (lz hc))) r_c (av rfl)) ai)) zH) (cg _ _ _)))),some (l.works[i]).toD,?_,?_⟩
   ·rw[p2]; rfl
   ·rw[p1,Z8]; rfl)
 rw[Zc,ZO] at e;exact x_call (ds:=[l.toD]) hq rfl (ak (aE (ao (ay (aa (r_v rfl) ai) (gX h hl)) r_c (av rfl))) (ak (aE (bV ai rfl)) (ak (aE r_c) (ak e (aB (ee (aa (r_v rfl) (aa (aO (aa (r_v rfl) ai) j6) ai)) rfl)))))) (bh (show(true&&(D.lows 0 ((bu l 0 l.works).map au)&&true))=true by rw[l0]; rfl) (bB _ _))
end
end RL

namespace WK
abbrev Nd:=List Int
abbrev Wlk:=List Nd
noncomputable def nA(t:Nd):Int:=t.getD 0 0
noncomputable def nB(t:Nd):Int:=t.getD 1 0
noncomputable def nC(t:Nd):Int:=t.getD 2 0
noncomputable def fst(w:Wlk):Int:=match w with|t::_=>nA t|[]=>0
noncomputable def lst:Wlk->Int
 | []=>0
 | [t]=>nB t
 | _::r=>lst r
noncomputable def Chn:Wlk->Prop
 | []=>True
 | [_]=>True
 | t::u::r=>nB t=nA u/\Chn (u::r)
noncomputable def ends(w:Wlk):List Int:=[fst w,lst w]
theorem oz(t u:Nd)(r:Wlk):lst (t::u::r)=lst (u::r):=rfl
theorem mX:∀{p r:Wlk},p≠[]->fst (p++r)=fst p
 | [],_,h=>absurd rfl h
 | _::_,_,_=>rfl
theorem h_:∀(p:Wlk) {r:Wlk},r≠[]->lst (p++r)=lst r
 | [],_,_=>rfl
 | [t],u::r,_=>rfl
 | [t],[],h=>absurd rfl h
 | t::u::p,r,h=>by
  show lst (t::((u::p)++r))=_;rw[XA,oz,<- XA];exact h_ (u::p) h
theorem fU:∀{p r:Wlk},p≠[]->r≠[]->(Chn (p++r) ↔ Chn p/\lst p=fst r/\Chn r)
 | [],_,h,_=>absurd rfl h
 | [t],[],_,h=>absurd rfl h
 | [t],u::r,_,_=>⟨λh=>⟨trivial,h.1,h.2⟩,λh=>⟨h.2.1,h.2.2⟩⟩
 | t::u::p,r,_,h=>by
  have ih:=fU (p:=u::p) (r:=r) (by simp) h;show(nB t=nA u/\Chn ((u::p)++r)) ↔ (nB t=nA u/\Chn (u::p))/\lst (u::p)=fst r/\Chn r;rw[ih,and_assoc]
theorem twice:∀{w:Wlk},¬(w.map nA).Nodup->∃p t q u r,w=p++(t::q)++(u::r)/\nA t=nA u
 | [],h=>absurd QS h
 | t::r,h=>by
  by_cases hm:nA t∈r.map nA
  ·obtain⟨u,hu,e⟩:=ZB.mp hm;obtain⟨a,b,rfl⟩:=List.append_of_mem hu;exact⟨[],t,a,u,b,rfl,e.symm⟩
  ·have h':¬(r.map nA).Nodup:=λz=>h (by rw[ZK,Xk]; exact⟨hm,z⟩)
   obtain⟨p,a,q,u,b,rfl,e⟩:=twice h';exact⟨t::p,a,q,u,b,rfl,e⟩
section
variable(lg:Int->Int)(g:Int)
noncomputable def dH(w:Wlk):Int:=(w.map λt=>lg (nA t)).sum
noncomputable def dB(w:Wlk):Int:=(w.map nC).sum
noncomputable def wt(w:Wlk):Int:=dH lg w-g*dB w
theorem Cw(a b:Wlk):dH lg (a++b)=dH lg a+dH lg b:=by unfold dH; rw[Z8,List.sum_append]
theorem A6(a b:Wlk):dB (a++b)=dB a+dB b:=by unfold dB; rw[Z8,List.sum_append]
theorem fR(a b:Wlk):wt lg g (a++b)=wt lg g a+wt lg g b:=by
 unfold wt; rw[Cw,A6,Int.mul_add]; omega
set_option genInjectivity false in
structure Walk(st:List Nd)(w:Wlk):Prop where
 ne:w≠[]
 mem:∀t∈w,t∈st
 chn:Chn w
variable{lg g}{st:List Nd}
theorem Walk.one{t:Nd}(h:t∈st):Walk st [t]:=⟨by simp,λu hu=>by rw[ZY.mp hu]; exact h,trivial⟩
theorem Walk.snoc{w:Wlk}{t:Nd}(h:Walk st w)(ht:t∈st)(e:nA t=lst w):Walk st (w++[t]) :=
 ⟨by simp,λu hu=>by
  rcases ZR.mp hu with z|z
  ·exact h.mem u z
  ·rw[ZY.mp z]; exact ht,(fU h.ne (by simp)).mpr ⟨h.chn,e.symm,trivial⟩⟩
theorem Walk.DG{w:Wlk}{t:Nd}(hw:w≠[])(h:Walk st (w++[t])):Walk st w/\t∈st/\nA t=lst w:=by
 obtain⟨h1,h2,_⟩:=(fU hw (by simp)).mp h.chn;exact⟨⟨hw,λu hu=>h.mem u (Qe _ hu),h1⟩,h.mem t (by simp),h2.symm⟩
def dN(w:Wlk):Prop:=fst w=lst w
def gT(lg:Int->Int)(g:Int)(st:List Nd)(m:Nat):Prop:=∀w,Walk st w->w.length=m->dN w->wt lg g w<=0
theorem xy{w:Wlk}(h:Walk st w)(hc:dN w)(hp:0<wt lg g w)(hf:∀m,0<m->m<w.length->gT lg g st m):(w.map nA).Nodup:=by
 refine QJ λhn=>?_
 obtain⟨p,t,q,u,r,rfl,e⟩:=twice hn;have c1:=(fU (p:=p++(t::q)) (r:=u::r) (by simp) (by simp)).mp h.chn
 have hq:Chn (t::q):=by
  by_cases hp0:p=[]
  ·subst hp0; exact c1.1
  ·exact((fU hp0 (by simp)).mp c1.1).2.2
 have lq:lst (t::q)=nA u:=by
  have:=c1.2.1;rw[h_ p (by simp)] at this;exact this
 have hmem:∀x,x∈p\/x∈t::q\/x∈u::r->x∈st:=λx hx=>h.mem x (by
  simp only[ZR];rcases hx with z|z|z
  ·exact .inl (.inl z)
  ·exact .inl (.inr z)
  ·exact .inr z)
 have wq:Walk st (t::q):=⟨by simp,λx hx=>hmem x (.inr (.inl hx)),hq⟩
 have wpr:Walk st (p++(u::r)):=⟨by simp,λx hx=>by
  rcases ZR.mp hx with z|z
  ·exact hmem x (.inl z)
  ·exact hmem x (.inr (.inr z)),by
  by_cases hp0:p=[]
  ·subst hp0; exact c1.2.2
  ·have:=(fU hp0 (by simp)).mp c1.1;exact(fU hp0 (by simp)).mpr ⟨this.1,by rw[this.2.1]; exact e,c1.2.2⟩⟩
 have cq:dN (t::q):=by show nA t=lst (t::q); rw[lq,e]
 have cpr:dN (p++(u::r)):=by
  have hc:fst (p++(t::q)++(u::r))=lst (p++(t::q)++(u::r)):=hc;rw[h_ _ (by simp)] at hc;show fst (p++(u::r))=lst (p++(u::r));rw[h_ _ (by simp),<- hc]
  by_cases hp0:p=[]
  ·subst hp0; show nA u=nA t; exact e.symm
  ·rw[mX hp0,Zq,mX hp0]
 have f1:=hf (t::q).length (by rw[ZF]; omega) (by simp only[Zu,ZF]; omega) _ wq rfl cq;have f2:=hf (p++(u::r)).length (by simp only[Zu,ZF]; omega) (by simp only[Zu,ZF]; omega) _ wpr rfl cpr;have e1:wt lg g (p++(t::q)++(u::r))=wt lg g p+wt lg g (t::q)+wt lg g (u::r):=by rw[fR,fR]
 have e2:wt lg g (p++(u::r))=wt lg g p+wt lg g (u::r):=by rw[fR]
 omega
end
section
variable{α:Type}
noncomputable def aL(K:List (List Int×α))(k:Wx):Option α:=(K.find? λe=>decide (e.1=k)).map (·.2)
noncomputable def bR(K:List (List Int×α))(k:Wx)(d:α):List (List Int×α) :=
 if(K.any λe=>decide (e.1=k))=true then K.map (λe=>if e.1=k then(e.1,d) else e) else K++[(k,d)]
theorem fF:∀{K:List (List Int×α)} {k:Wx} {a:α},aL K k=some a->(k,a)∈K
 | [],_,_,h=>by cases h
 | e::r,k,a,h=>by
  unfold aL at h;rw[ZP] at h
  by_cases q:e.1=k
  ·rw[Zi q] at h;cases h;subst q;exact Zk
  ·rw[Zw q] at h;exact Zm _ (fF h)
theorem vZ{k:Wx}{x:α}{Y:List (List Int×α)}:∀{K:List (List Int×α)},aL K k=some x->aL (K++Y) k=some x
 | [],h=>by cases h
 | e::r,h=>by
  unfold aL at h ⊢;rw[XA,ZP];rw[ZP] at h
  by_cases q:e.1=k
  ·rw[Zi q] at h ⊢; exact h
  ·rw[Zw q] at h ⊢; exact vZ h
theorem qI{k:Wx}:∀{K:List (List Int×α)},aL K k=none->(K.any λe=>decide (e.1=k))=false
 | [],_=>rfl
 | e::r,h=>by
  unfold aL at h;rw[ZP] at h;rw[X1]
  by_cases q:e.1=k
  ·rw[Zi q] at h; cases h
  ·rw[Zw q] at h ⊢; exact qI h
theorem qF{k:Wx}{a:α}:∀{K:List (List Int×α)},aL K k=some a->(K.any λe=>decide (e.1=k))=true
 | [],h=>by cases h
 | e::r,h=>by
  unfold aL at h;rw[ZP] at h;rw[X1]
  by_cases q:e.1=k
  ·rw[Zi q]; rfl
  ·rw[Zw q] at h ⊢; exact qF h
theorem pZ{k:Wx}{a:α}:∀{K:List (List Int×α)},aL K k=none->aL (K++[(k,a)]) k=some a
 | [],_=>by unfold aL; rw[X8,ZP,Zi rfl]; rfl
 | e::r,h=>by
  unfold aL at h ⊢;rw[XA,ZP];rw[ZP] at h
  by_cases q:e.1=k
  ·rw[Zi q] at h; cases h
  ·rw[Zw q] at h ⊢; exact pZ h
theorem nh{k:Wx}{a x:α}{j:Wx}:∀{K:List (List Int×α)},aL K j=some x->aL (K.map λe=>if e.1=k then(e.1,a) else e) j=some (if j=k then a else x)
 | [],h=>by cases h
 | e::r,h=>by
  unfold aL at h ⊢;rw[ZK,ZP];rw[ZP] at h;have e1:(if e.1=k then(e.1,a) else e).1=e.1:=by split<;>rfl
  rw[e1]
  by_cases q:e.1=j
  ·rw[Zi q] at h ⊢;cases h
   by_cases z:e.1=k
   ·rw[Zf z,Zf (by rw[<- q]; exact z)]; rfl
   ·rw[Zg z,Zg (by rw[<- q]; exact z)]; rfl
  ·rw[Zw q] at h ⊢;exact nh h
theorem rz{K:List (List Int×α)}{k:Wx}{a:α}:aL (bR K k a) k=some a:=by
 unfold bR
 cases q:aL K k with
 | none=>rw[qI q,Zg (by decide)]; exact pZ q
 | some x=>rw[qF q,Zf rfl,nh q,Zf rfl]
theorem BX{K:List (List Int×α)}{k j:Wx}{a x:α}(h:aL K j=some x)(hj:j≠k):aL (bR K k a) j=some x:=by
 unfold bR;split
 ·rw[nh h,Zg hj]
 ·exact vZ h
theorem GY{K:List (List Int×α)}{k:Wx}{a:α}{e:List Int×α}(h:e∈bR K k a):e∈K\/e=(k,a):=by
 unfold bR at h;split at h
 ·obtain⟨x,hx,rfl⟩:=ZB.mp h
  by_cases q:x.1=k
  ·rw[Zf q,q]; exact .inr rfl
  ·rw[Zg q]; exact .inl hx
 ·rcases ZR.mp h with z|z
  ·exact .inl z
  ·exact .inr (ZY.mp z)
theorem GR(K:List (List Int×α))(k:Wx)(a:α):(bR K k a).length<=K.length+1:=by
 unfold bR;split
 ·rw[Zc]; omega
 ·rw[Zu]; exact Zl _
theorem get_map{β:Type}(f:α->β)(k:Wx):∀K:List (List Int×α),aL (K.map λe=>(e.1,f e.2)) k=(aL K k).map f
 | []=>rfl
 | e::r=>by
  have ih:=get_map f k r;unfold aL at ih ⊢;rw[ZK,ZP,ZP]
  cases q:decide (e.1=k) with
  | true=>rfl
  | false=>exact ih
theorem AE{β:Type}(f:α->β)(k:Wx)(a:α)(K:List (List Int×α)):bR (K.map λe=>(e.1,f e.2)) k (f a)=(bR K k a).map λe=>(e.1,f e.2):=by
 unfold bR;rw[List.any_map];have e1:((λe:List Int×β=>decide (e.1=k))∘λe:List Int×α=>(e.1,f e.2))=λe=>decide (e.1=k):=rfl
 rw[e1];split
 ·rw[Xl,Xl];refine List.map_congr_left λe _=>?_
  show(if e.1=k then(e.1,f a) else(e.1,f e.2))=_
  by_cases q:e.1=k
  ·rw[Zf q]; show _=((if e.1=k then(e.1,a) else e).1,f (if e.1=k then(e.1,a) else e).2); rw[Zf q]
  ·rw[Zg q]; show _=((if e.1=k then(e.1,a) else e).1,f (if e.1=k then(e.1,a) else e).2); rw[Zg q]
 ·rw[Z8]; rfl
noncomputable def cV(en:α->List Int)(wf:α->Int)(K:List (List Int×α))(q:α):List (List Int×α):=match aL K (en q) with
 | none=>bR K (en q) q
 | some x=>if wf x<wf q then bR K (en q) q else K
set_option genInjectivity false in
structure KOk(en:α->List Int)(wf:α->Int)(Q:List α)(K:List (List Int×α)):Prop where
 mem:∀e∈K,e.2∈Q/\e.1=en e.2
 all:∀q∈Q,∃x,aL K (en q)=some x/\wf q<=wf x
 len:K.length<=Q.length
variable{en:α->List Int}{wf:α->Int}
theorem KOk.nil:KOk en wf [] []:=⟨λ_ h=>(by cases h),λ_ h=>(by cases h),Zl _⟩
theorem KOk.step{Q:List α}{K:List (List Int×α)}(h:KOk en wf Q K)(q:α):KOk en wf (Q++[q]) (cV en wf K q):=by
 have put:(∀x,aL K (en q)=some x->wf x<=wf q)->KOk en wf (Q++[q]) (bR K (en q) q):=λhx=>by
  refine⟨λe he=>?_,λp hp=>?_,?_⟩
  ·rcases GY he with z|z
   ·exact⟨Qe _ (h.mem e z).1,(h.mem e z).2⟩
   ·subst z; exact⟨by simp,rfl⟩
  ·rcases ZR.mp hp with z|z
   ·obtain⟨x,h1,h2⟩:=h.all p z
    by_cases e:en p=en q
    ·rw[e] at h1 ⊢;exact⟨q,rz,Int.le_trans h2 (hx x h1)⟩
    ·exact⟨x,BX h1 e,h2⟩
   ·rw[ZY.mp z];exact⟨q,rz,QH _⟩
  ·have:=GR K (en q) q;have:=h.len;rw[Zu]; simp; omega
 unfold cV
 cases e:aL K (en q) with
 | none=>exact put λx hx=>by rw[e] at hx; cases hx
 | some x =>
  simp only;split
  ·rename_i hlt;exact put λy hy=>by rw[e] at hy; cases hy; omega
  ·rename_i hlt;refine⟨λe he=>⟨Qe _ (h.mem e he).1,(h.mem e he).2⟩,λp hp=>?_,?_⟩
   ·rcases ZR.mp hp with z|z
    ·exact h.all p z
    ·rw[ZY.mp z];exact⟨x,e,by omega⟩
   ·have:=h.len;rw[Zu]; omega
theorem KOk.fold:∀(R Q:List α) (K:List (List Int×α)),KOk en wf Q K->KOk en wf (Q++R) (R.foldl (cV en wf) K)
 | [],Q,K,h=>by rw[XV]; exact h
 | q::R,Q,K,h=>by
  have:=KOk.fold R (Q++[q]) _ (h.step q);rw[Zq] at this;exact this
theorem KOk.of(Q:List α):KOk en wf Q (Q.foldl (cV en wf) []):=KOk.fold Q [] [] .nil
end
section
variable{lg:Int->Int}{g:Int}{st:List Nd}
set_option genInjectivity false in
structure f_(lg:Int->Int)(g:Int)(st:List Nd)(m:Nat)(Q:List Wlk):Prop where
 mem:∀w∈Q,Walk st w/\w.length=m
 all:∀w,Walk st w->w.length=m->∃x∈Q,ends x=ends w/\wt lg g w<=wt lg g x
theorem f_.one:f_ lg g st 1 (st.map λt=>[t]):=⟨λw hw=>by
  obtain⟨t,ht,rfl⟩:=ZB.mp hw;exact⟨.one ht,rfl⟩,λw hw hl=>by
  match w,hl with
  | [t],_=>exact⟨[t],ZB.mpr ⟨t,hw.mem t (by simp),rfl⟩,rfl,QH _⟩⟩
theorem tT{w:Wlk}(hw:w≠[])(t:Nd):ends (w++[t])=[fst w,nB t]:=by unfold ends; rw[mX hw,h_ _ (by simp)]; rfl
theorem p8{w x:Wlk}(h:ends w=ends x):fst w=fst x/\lst w=lst x:=by
 unfold ends at h;obtain⟨h1,h2⟩:=Q6 h;exact⟨h1,(Q6 h2).1⟩
theorem f_.next{m:Nat}{V:List Wlk}(hm:0<m)(h1:∀w∈V,Walk st w/\w.length=m)(h2:∀w,Walk st w->w.length=m->∃x∈V,ends x=ends w/\wt lg g w<=wt lg g x){Q:List Wlk}
  (hQ:∀w,w∈Q ↔ ∃v∈V,∃t∈st,nA t=lst v/\w=v++[t]):f_ lg g st (m+1) Q:=by
 refine⟨λw hw=>?_,λw hw hl=>?_⟩
 ·obtain⟨v,hv,t,ht,e,rfl⟩:=(hQ w).mp hw;obtain⟨a,b⟩:=h1 v hv;exact⟨a.snoc ht e,by rw[Zu,b]; rfl⟩
 ·obtain⟨v,t,rfl⟩:∃v t,w=v++[t]:=⟨w.dropLast,w.getLast hw.ne,(List.dropLast_concat_getLast hw.ne).symm⟩
  have hl':v.length=m:=by rw[Zu] at hl; simpa using hl
  have hv:v≠[]:=λz=>by subst z; simp at hl'; omega
  obtain⟨a,b,c⟩:=hw.DG hv;obtain⟨x,hx,e,le⟩:=h2 v a hl';obtain⟨e1,e2⟩:=p8 e;refine⟨x++[t],(hQ _).mpr ⟨x,hx,t,b,by rw[e2]; exact c,rfl⟩,?_,?_⟩
  ·rw[tT hv,tT (h1 x hx).1.ne,e1]
  ·rw[fR,fR]; omega
end
end WK

namespace RL
open PySem EV GO WK
noncomputable def sV:Fn:=⟨2,2,(.ret (.bi .sum (.cs (.comp 2 (.ix (.ix (.ix (.v 0) (.c (.int 2))) (.ix (.v 3) (.c (.int 0)))) (.c (.int 1))) (.one 3) (.iSeq (.v 1)) .nl) .nl)))⟩
noncomputable def rB:Fn:=⟨1,1,(.ret (.bi .sum (.cs (.comp 2 (.ix (.v 2) (.c (.int 2))) (.one 2) (.iSeq (.v 0)) .nl) .nl)))⟩
noncomputable def pH:Fn:=⟨3,3,(.ret (.bin .sub (.call "longs_of" (.cs (.v 0) (.cs (.v 2) .nl))) (.bin .mul (.v 1) (.call "backs_of" (.cs (.v 2) .nl)))))⟩
noncomputable def v8:Fn:=⟨3,6,(.seq (.set (.one 3) .dnew)
 (.seq (.forS (.one 4) (.iSeq (.v 2))
  (.seq (.set (.one 5) (.tup (.cs (.ix (.ix (.v 4) (.c (.int 0))) (.c (.int 0))) (.cs (.ix (.ix (.v 4) (.neg (.c (.int 1)))) (.c (.int 1))) .nl))))
 (.ite (.or (.cmp .dnin (.v 5) (.v 3)) (.cmp .lt (.call "surplus" (.cs (.v 0) (.cs (.v 1) (.cs (.dgv (.v 3) (.v 5)) .nl)))) (.call "surplus" (.cs (.v 0) (.cs (.v 1) (.cs (.v 4) .nl))))))
  (.dsv (.v 3) (.v 5) (.v 4))
  .skip)))
 (.ret (.v 3))))⟩
noncomputable def kY:Fn:=⟨2,4,(.seq (.set (.one 2) (.lst .nl))
 (.seq (.forS (.one 3) (.iSeq (.v 0))
  (.ex (.me .extend (.v 2) (.cs (.comp 2 (.bin .add (.v 3) (.lst (.cs (.v 5) .nl))) (.one 5) (.iSeq (.v 1)) (.cmp .eq (.ix (.v 5) (.c (.int 0))) (.ix (.ix (.v 3) (.neg (.c (.int 1)))) (.c (.int 1))))) .nl))))
 (.ret (.v 2))))⟩
set_option genInjectivity false in
structure HW(P:Prg):Prop where
 dH:Has P "longs_of" sV
 dB:Has P "backs_of" rB
 surplus:Has P "surplus" pH
 longest:Has P "longest_walks" v8
 lengthened:Has P "lengthened" kY
noncomputable def a_(l:Lp)(x:Int):Int:=((l.works.getD x.toNat ⟨0,0,"",[],[]⟩).long:Int)
def bT(l:Lp)(t:Nd):Prop:=∃x i b:Nat,t=[(x:Int),(i:Int),(b:Int)]/\x<l.works.length/\i<l.works.length/\b<=3/\(b=0->x<i)
theorem Cq{l:Lp}(hl:l.WF){t:Nd}(h:t∈aW 0 l.works):bT l t:=by
 obtain⟨i,w,b,x,h1,h2,h3⟩:=iB h;have hi:i<l.works.length:=(Zh.mp h1).1;have hs:=(hl.works i w h1).srcs _ h2;obtain⟨hb,hx⟩:b<=3/\x<(if b=0 then i else l.works.length):=hs;refine⟨x,i,b,by rw[h3,Xq],?_,hi,hb,λe=>by rw[Zf e] at hx; exact hx⟩;split at hx<;>omega
def AtW(T:af)(q:Wlk×Nat):Prop:=T[q.2]?=some (.lst (q.1.map tupI))
theorem bF{T T':af}(h:T<+:T'){i:Nat}{c:Cell}(e:T[i]?=some c):T'[i]?=some c:=by
 obtain⟨t,rfl⟩:=h;rw[ZE (Zh.mp e).1]; exact e
theorem AtW.pre{T T':af}{q:Wlk×Nat}(h:AtW T q)(p:T<+:T'):AtW T' q:=bF p h
section
variable{sub:Sub}{P:Prg}{n:Nat}{S T:af}{l:Lp}
theorem vV{c:Nat}{is:Wx}(h:S[c]?=some (.lst (is.map .int))):biD sub .sum [.loc c] S=.ok (.int is.sum) S:=by
 rw[Al,fH h,Res.aj,allI,dP,Res.aj]
theorem t_{t:Nd}(h:bT l t):(∃r,t.map D.int=.int (nA t)::.int (nB t)::.int (nC t)::r)/\0<=nA t/\(nA t).toNat<l.works.length/\0<=nB t/\(nB t).toNat<l.works.length/\0<=nC t/\nC t<=3/\(nC t=0->nA t<nB t):=by
 obtain⟨x,i,b,rfl,h1,h2,h3,h4⟩:=h;refine⟨⟨[],rfl⟩,?_⟩;show 0<=(x:Int)/\(x:Int).toNat<_/\0<=(i:Int)/\(i:Int).toNat<_/\0<=(b:Int)/\(b:Int)<=3/\((b:Int)=0->(x:Int)<(i:Int))
 omega
theorem ow{t:Nd}(h:bT l t):ixD (tupI t) (.int 0) T=.ok (.int (nA t)) T:=by
 obtain⟨x,i,b,rfl,_⟩:=h; exact av rfl
theorem uF{t:Nd}(h:bT l t):ixD (tupI t) (.int 1) T=.ok (.int (nB t)) T:=by
 obtain⟨x,i,b,rfl,_⟩:=h; exact av rfl
theorem Ah{t:Nd}(h:bT l t):ixD (tupI t) (.int 2) T=.ok (.int (nC t)) T:=by
 obtain⟨x,i,b,rfl,_⟩:=h; exact av rfl
theorem Ig{x:Int}(h0:0<=x)(h:x.toNat<l.works.length):atI (l.works.map Wk.toD) x=some (l.works.getD x.toNat ⟨0,0,"",[],[]⟩).toD:=by
 have:=jR h;rw[Int.toNat_of_nonneg h0] at this;exact this
theorem se{cf:Str->List D->M D}{σ:Sg}{c i m:Nat}{el:E}{w:Wlk}{f:Nd->Int}(hm:T[m]?=some (.lst (w.map tupI)))(hv:bq σ c T=.ok (.loc m) T)(hz:w.length<=1000)(he:∀t∈w,ev sub cf el ((σ++List.replicate 2 none).set i (some (tupI t))) T=.ok (.int (f t)) T) :
  ev sub cf (.comp 2 el (.one i) (.iSeq (.v c)) .nl) σ T=.ok (.loc T.length) (T++[.lst ((w.map f).map .int)]):=by
 rw[Xl];exact kX (ks:=w) (f:=tupI) (g:=λt=>.int (f t)) (o:=some m) (raw:=w.map tupI) (ck (r_v hv) (cL hm)) (d_ (.inr ⟨m,rfl,hm⟩)) he (by unfold aM; omega)
theorem zA{cf:Str->List D->M D}{σ:Sg}{i:Nat}{t:Nd}(h0:bq σ 0 T=.ok l.toD T)(hi:bq σ i T=.ok (tupI t) T)(hn:bT l t):ev sub cf (.ix (.ix (.ix (.v 0) (.c (.int 2))) (.ix (.v i) (.c (.int 0)))) (.c (.int 1))) σ T=.ok (.int (a_ l (nA t))) T:=by
 obtain⟨_,h1,h2,_⟩:=t_ hn;exact ao (ao (ao (r_v h0) r_c (av rfl)) (ao (r_v hi) r_c (ow hn)) (av (Ig h1 h2))) r_c (av rfl)
theorem yD(hw:HW P){w:Wlk}{k:Nat}(h:AtW S (w,k))(hn:∀t∈w,bT l t)(hz:w.length<=1000):ah sub P (n+1) "longs_of" [l.toD,.loc k] S=.ok (.int (dH (a_ l) w)) S :=
 x_call (ds:=[l.toD,.loc k]) hw.dH rfl (aB (aO (aa (se h rfl hz λt ht=>zA rfl rfl (hn t ht)) ai) (vV (aJ _ _)))) (ic _ _ _)
theorem EB(hw:HW P){w:Wlk}{k:Nat}(h:AtW S (w,k))(hn:∀t∈w,bT l t)(hz:w.length<=1000):ah sub P (n+1) "backs_of" [.loc k] S=.ok (.int (dB w)) S :=
 x_call (ds:=[.loc k]) hw.dB rfl (aB (aO (aa (se h rfl hz λt ht=>ao (r_v rfl) r_c (Ah (hn t ht))) ai) (vV (aJ _ _)))) (ic _ _ _)
theorem m6(hw:HW P){w:Wlk}{k:Nat}{g:Int}(hg:0<=g/\g<=1000)(h:AtW S (w,k))(hn:∀t∈w,bT l t)(hz:w.length<=1000):ah sub P (n+2) "surplus" [l.toD,.int g,.loc k] S=.ok (.int (wt (a_ l) g w)) S :=
 x_call (ds:=[l.toD,.int g,.loc k]) hw.surplus rfl (aB (aP (ay (aa (r_v rfl) (aa (r_v rfl) ai)) (yD hw h hn hz)) (aP (r_v rfl) (ay (aa (r_v rfl) ai) (EB hw h hn hz)) (fJ (by omega))) (eY _ _ _))) (gm _ _)
def TabAt(T:af)(l:Nat)(kvs:WQ):Prop:=T[l]?=some (.dct kvs)\/T[l]?=some (.fdc kvs)
theorem nX{T:af}{l:Nat}{kvs:WQ}(h:TabAt T l kvs)(f:List (List Int×D)->M D):bX l f T=f kvs T:=by
 unfold bX;rcases h with h|h<;>rw[h]
theorem wL{l:Nat}{kvs:WQ}{k:Wx}{d:D}(h:TabAt T l kvs)(e:aL kvs k=some d):ie (.loc l) (tupI k) T=.ok d T:=by
 show(opt (allInts (k.map .int))>>=λk=>bX l λkvs=>opt (b6 kvs k)) T=_;rw[az,allI,dP,Res.aj,nX h,show b6 kvs k=some d from e,dP]
theorem Gy{l:Nat}{kvs:WQ}{k:Wx}(h:TabAt T l kvs):cmD .dnin (tupI k) (.loc l) T=.ok (.bl (!(aL kvs k).isSome)) T:=by
 show(opt (allInts (k.map .int))>>=λk=>bX l λkvs=>pure (.bl ((b6 kvs k).isSome != true))) T=_;rw[az,allI,dP,Res.aj,nX h];show Res.ok (D.bl ((b6 kvs k).isSome != true)) T=_;rw[show b6 kvs k=aL kvs k from rfl];cases(aL kvs k).isSome<;>rfl
theorem Fz{l:Nat}{kvs:WQ}{k:Wx}{d:D}(h:T[l]?=some (.dct kvs))(hz:kvs.length<=1000000):ir (.loc l) (tupI k) d T=.ok .non (T.set l (.dct (bR kvs k d))):=by
 show(opt (allInts (k.map .int))>>=λk=>fE l λkvs=>guard (fG kvs.length) (put l (.dct (iF kvs k d)))) T=_;rw[az,allI,dP,Res.aj];unfold fE;rw[h];show guard (fG kvs.length) (put l (.dct (iF kvs k d))) T=_;rw[show fG kvs.length=true from Zi (by unfold aM; omega)];rfl
theorem oV{cf:Str->List D->M D}{σ:Sg}{a b:E}{x y:D}{S1 S2:af}{R:Res D}(ha:ev sub cf a σ S=.ok x S1)(hb:ev sub cf b σ S1=.ok y S2)(h:ie x y S2=R):ev sub cf (.dgv a b) σ S=R:=by
 show(ev sub cf a σ>>=λx=>ev sub cf b σ>>=λy=>ie x y) S=R;rw[az,ha,Res.aj,az,hb,Res.aj,h]
theorem z7{cf:Str->List D->M D}{σ:Sg}{a b e:E}{x y d r:D}{S1 S2 S3 S4:af}(he:ev sub cf e σ S=.ok d S1)(ha:ev sub cf a σ S1=.ok x S2)(hb:ev sub cf b σ S2=.ok y S3)(h:ir x y d S3=.ok r S4):exec sub cf (.dsv a b e) σ S=.ok (.nx σ) S4:=by
 show(ev sub cf e σ>>=λd=>ev sub cf a σ>>=λx=>ev sub cf b σ>>=λy=>ir x y d>>=λ_=>pure (Fl.nx σ)) S=_;rw[az,he,Res.aj,az,ha,Res.aj,az,hb,Res.aj,az,h,Res.aj]; rfl
theorem DQ{cf:Str->List D->M D}{σ:Sg}:ev sub cf .dnew σ S=.ok (.loc S.length) (S++[.dct []]):=id rfl
noncomputable def kv(e:List Int×(Wlk×Nat)):List Int×D:=(e.1,.loc e.2.2)
noncomputable def wfQ(l:Lp)(g:Int)(q:Wlk×Nat):Int:=wt (a_ l) g q.1
noncomputable def enQ(q:Wlk×Nat):List Int:=ends q.1
theorem qZ{w:Wlk}(h:w≠[]):∃t,w.getLast?=some t/\t∈w/\lst w=nB t/\atI (w.map tupI) (-1)=some (tupI t):=by
 obtain⟨v,t,rfl⟩:∃v t,w=v++[t]:=⟨w.dropLast,w.getLast h,(List.dropLast_concat_getLast h).symm⟩
 refine⟨t,by simp,by simp,by rw[h_ _ (by simp)]; rfl,?_⟩;unfold atI ixN;rw[Zg (by decide),Zf (by rw[Zc,Zu]; simp; omega)];have e:(-1+((List.map tupI (v++[t])).length:Int)).toNat=v.length:=by rw[Zc,Zu]; simp; omega
 rw[e];show(List.map tupI (v++[t]))[v.length]?=_;simp
theorem zB{w:Wlk}(h:w≠[]):∃t,t∈w/\fst w=nA t/\atI (w.map tupI) 0=some (tupI t):=by
 cases w with
 | nil=>exact absurd rfl h
 | cons t r=>exact⟨t,by simp,rfl,by rw[lW]; rfl⟩
theorem qE{T:af}{a b:Cell}:(T++[a]).set T.length b=T++[b]:=by rw[List.set_append_right _ _ (Zl _),Wb]; rfl
noncomputable def mV:EV.S:=.seq (.set (.one 5) (.tup (.cs (.ix (.ix (.v 4) (.c (.int 0))) (.c (.int 0))) (.cs (.ix (.ix (.v 4) (.neg (.c (.int 1)))) (.c (.int 1))) .nl))))
 (.ite (.or (.cmp .dnin (.v 5) (.v 3)) (.cmp .lt (.call "surplus" (.cs (.v 0) (.cs (.v 1) (.cs (.dgv (.v 3) (.v 5)) .nl)))) (.call "surplus" (.cs (.v 0) (.cs (.v 1) (.cs (.v 4) .nl))))))
  (.dsv (.v 3) (.v 5) (.v 4))
  .skip)
set_option genInjectivity false in
structure dj(l:Lp)(T:af)(q:Wlk×Nat):Prop where
 at':AtW T q
 ne:q.1≠[]
 nd:∀t∈q.1,bT l t
 len:q.1.length<=1000
theorem dj.pre{q:Wlk×Nat}{T':af}(h:dj l T q)(p:T<+:T'):dj l T' q:=⟨h.at'.pre p,h.ne,h.nd,h.len⟩
theorem Ax(hw:HW P){g:Int}(hg:0<=g/\g<=1000){K:List (List Int×(Wlk×Nat))}{q:Wlk×Nat}{x2 x5:Option D}(hq:dj l S q)(hK:∀e∈K,dj l S e.2)(hz:K.length<=1000000) :
  exec sub (ah sub P (n+2)) mV [some l.toD,some (.int g),x2,some (.loc S.length),some (.loc q.2),x5] (S++[.dct (K.map kv)]) =
   .ok (.nx [some l.toD,some (.int g),x2,some (.loc S.length),some (.loc q.2),some (tupI (enQ q))]) (S++[.dct ((cV enQ (wfQ l g) K q).map kv)]):=by
 have pre:S<+:S++[.dct (K.map kv)]:=Zn _ _;have hq':=hq.pre pre;obtain⟨t,ht,e1,a1⟩:=zB hq.ne;obtain⟨u,_,hu,e2,a2⟩:=qZ hq.ne;have hL:(S++[Cell.dct (K.map kv)])[q.2]?=some (.lst (q.1.map tupI)):=hq'.at'
 have s1:exec sub (ah sub P (n+2)) (.set (.one 5) (.tup (.cs (.ix (.ix (.v 4) (.c (.int 0))) (.c (.int 0))) (.cs (.ix (.ix (.v 4) (.neg (.c (.int 1)))) (.c (.int 1))) .nl))))
   [some l.toD,some (.int g),x2,some (.loc S.length),some (.loc q.2),x5] (S++[.dct (K.map kv)])=.ok (.nx [some l.toD,some (.int g),x2,some (.loc S.length),some (.loc q.2),some (tupI (enQ q))]) (S++[.dct (K.map kv)]):=by
  have:=aE (sub:=sub) (cf:=ah sub P (n+2)) (σ:=[some l.toD,some (.int g),x2,some (.loc S.length),some (.loc q.2),x5]) (S:=S++[.dct (K.map kv)]) (i:=5) (ee (aa (ao (ao (r_v (i:=4) rfl) r_c (gY hL a1)) r_c (ow (hq.nd t ht))) (aa (ao (ao (r_v (i:=4) rfl) (kD r_c) (gY hL a2)) r_c (uF (hq.nd u hu))) ai)) rfl);rw[<- e1,<- e2] at this;exact this
 have hT:TabAt (S++[.dct (K.map kv)]) S.length (K.map kv):=.inl (aJ _ _);have hg2:aL (K.map kv) (enQ q)=(aL K (enQ q)).map λq=>D.loc q.2:=get_map (λq:Wlk×Nat=>D.loc q.2) (enQ q) K
 have s2:=m6 (sub:=sub) (n:=n) hw hg hq'.at' hq.nd hq.len;have hin:=Gy (k:=enQ q) hT;rw[hg2,QY] at hin
 have put:exec sub (ah sub P (n+2)) (.dsv (.v 3) (.v 5) (.v 4)) [some l.toD,some (.int g),x2,some (.loc S.length),some (.loc q.2),some (tupI (enQ q))] (S++[.dct (K.map kv)]) =
   .ok (.nx [some l.toD,some (.int g),x2,some (.loc S.length),some (.loc q.2),some (tupI (enQ q))]) (S++[.dct ((bR K (enQ q) q).map kv)]):=by
  have:=z7 (sub:=sub) (cf:=ah sub P (n+2)) (σ:=[some l.toD,some (.int g),x2,some (.loc S.length),some (.loc q.2),some (tupI (enQ q))]) (r_v (i:=4) rfl) (r_v (i:=3) rfl) (r_v (i:=5) rfl) (Fz (k:=enQ q) (d:=.loc q.2) (aJ S (.dct (K.map kv))) (by rw[Zc]; exact hz));rw[qE,show bR (K.map kv) (enQ q) (.loc q.2)=(bR K (enQ q) q).map kv from AE (λq:Wlk×Nat=>D.loc q.2) (enQ q) q K] at this;exact this
 refine ak s1 ?_;unfold cV
 cases e:aL K (enQ q) with
 | none =>
  rw[e] at hin;exact bw (lZ (aT (aX (r_v rfl) (r_v rfl) hin))) put
 | some y =>
  rw[e] at hin hg2;have hy:=(hK _ (fF e)).pre pre;have s3:=m6 (sub:=sub) (n:=n) hw hg hy.at' hy.nd hy.len
  have ht:evT sub (ah sub P (n+2)) (.or (.cmp .dnin (.v 5) (.v 3)) (.cmp .lt (.call "surplus" (.cs (.v 0) (.cs (.v 1) (.cs (.dgv (.v 3) (.v 5)) .nl)))) (.call "surplus" (.cs (.v 0) (.cs (.v 1) (.cs (.v 4) .nl))))))
    [some l.toD,some (.int g),x2,some (.loc S.length),some (.loc q.2),some (tupI (enQ q))] (S++[.dct (K.map kv)])=.ok (decide (wfQ l g y<wfQ l g q)) (S++[.dct (K.map kv)]) :=
   cP (aT (aX (r_v rfl) (r_v rfl) hin)) (aT (aX (ay (aa (r_v rfl) (aa (r_v rfl) (aa (oV (r_v rfl) (r_v rfl) (wL hT hg2)) ai))) s3) (ay (aa (r_v rfl) (aa (r_v rfl) (aa (r_v rfl) ai))) s2) (jQ _ _ _)))
  simp only
  by_cases hlt:wfQ l g y<wfQ l g q
  ·rw[Zf hlt];rw[Zi hlt] at ht;exact bw ht put
  ·rw[Zg hlt];rw[Zw hlt] at ht;exact aG ht aH
theorem EC{α:Type}{en:α->List Int}{wf:α->Int}{Q:List α}{e:List Int×α}(h:e∈Q.foldl (cV en wf) []):e.2∈Q:=((KOk.of (en:=en) (wf:=wf) Q).mem e h).1
theorem Gs(hw:HW P){g:Int}(hg:0<=g/\g<=1000){Q:List (Wlk×Nat)}{k:Nat}(hk:S[k]?=some (.lst (Q.map λq=>.loc q.2)))(hQ:∀q∈Q,dj l S q)(hz:Q.length<=1000000) :
  ah sub P (n+3) "longest_walks" [l.toD,.int g,.loc k] S=.ok (.loc S.length) (S++[.dct ((Q.foldl (cV enQ (wfQ l g)) []).map kv)]):=by
 have hkl:k<S.length:=(Zh.mp hk).1
 obtain⟨σ',T',e,x4,x5,rfl,rfl⟩:=dS (sub:=sub) (cf:=ah sub P (n+2)) (t:=.one 4) (it:=.iSeq (.v 2)) (b:=mV) (σ:=[some l.toD,some (.int g),some (.loc k),some (.loc S.length),none,none]) (S:=S++[.dct []]) (S1:=S++[.dct []]) (s:=⟨Q.map λq=>.loc q.2,some k,Q.map λq=>.loc q.2⟩)
  (λi σ T=>∃x4 x5,σ=[some l.toD,some (.int g),some (.loc k),some (.loc S.length),x4,x5]/\T=S++[.dct (((Q.take i).foldl (cV enQ (wfQ l g)) []).map kv)])
  (ck (r_v rfl) (cL (by rw[ZE hkl]; exact hk))) ⟨none,none,rfl,rfl⟩
  (λi σ T ⟨_,_,_,hT⟩=>by subst hT; exact d_ (.inr ⟨k,rfl,by rw[ZE hkl]; exact hk⟩))
  (λi hi σ T ⟨x4,x5,hσ,hT⟩=>by
   subst hσ; subst hT;have hi':i<Q.length:=by simpa using hi
   have hit:(Q.map λq=>D.loc q.2)[i]'hi=.loc (Q[i]).2:=XC _;show ∃σ' T',aK sub (ah sub P (n+2)) (.one 4) mV ((Q.map λq=>D.loc q.2)[i]'hi) _ _=_/\_;rw[hit];have hl:=(KOk.of (en:=enQ) (wf:=wfQ l g) (Q.take i)).len;rw[Xz] at hl;refine⟨_,_,bW (Ax hw hg (x2:=some (.loc k)) (hQ _ (Z3 hi')) (λe he=>hQ _ (Wc (EC he))) (by omega)),some (.loc (Q[i]).2),some (tupI (enQ Q[i])),rfl,?_⟩;rw[XN hi',List.foldl_append]; rfl)
 rw[Zc,ZO] at e;refine x_call (ds:=[l.toD,.int g,.loc k]) hw.longest rfl (ak (aE DQ) (ak e (aB (r_v rfl)))) ?_;unfold leave;rw[Zf (bB _ _),Zg (by show ¬decide (S.length<S.length)=true; simp)];simp only[aJ];rw[Zg (by show ¬Cell.low S.length (.dct _)=true; exact Zz)]
end
end RL

namespace RL
open PySem EV GO WK
section
variable{sub:Sub}{P:Prg}{n:Nat}{S T:af}{l:Lp}
theorem nQ{α:Type}{s:Src}{fn:D->M (Option D)}{f:α->D}{p:α->Bool}{h:α->Wlk}{S0:af}(hs:∀T,S0<+:T->aF s T=.ok () T):∀(ks:List α) (T:af),S0<+:T ->
  (∀a∈ks,∀T,S0<+:T->(p a=false->fn (f a) T=.ok none T)/\(p a=true->∃T' l,fn (f a) T=.ok (some (.loc l)) T'/\T<+:T'/\S0.length<=l/\AtW T' (h a,l))) ->
  ∃(T':af) (Q:List (Wlk×Nat)),bD s fn (ks.map f) T=.ok (Q.map λq=>.loc q.2) T'/\T<+:T'/\Q.map (·.1)=(ks.filter p).map h/\∀q∈Q,AtW T' q/\S0.length<=q.2
 | [],T,hT,_=>⟨T,[],by rw[Qt,lI,hs T hT]; rfl,Z4 _,rfl,λ_ h=>by cases h⟩
 | a::r,T,hT,H=>by
  obtain⟨h1,h2⟩:=H a Zk T hT
  cases q:p a with
  | false =>
   obtain⟨T',Q,e,t1,t2,t3⟩:=nQ hs r T hT λb hb=>H b (Zm _ hb)
   refine⟨T',Q,?_,t1,by rw[QU (by rw[q]; decide)]; exact t2,t3⟩;rw[ZK,jH,hs T hT,Res.aj,h1 q,Res.aj,e]; rfl
  | true =>
   obtain⟨T1,m,e1,p1,lm,a1⟩:=h2 q;obtain⟨T',Q,e,t1,t2,t3⟩:=nQ hs r T1 (hT.trans p1) λb hb=>H b (Zm _ hb)
   refine⟨T',(h a,m)::Q,?_,p1.trans t1,?_,λx hx=>?_⟩
   ·rw[ZK,jH,hs T hT,Res.aj,e1,Res.aj,e]; rfl
   ·rw[QV q,ZK,ZK,t2]
   ·rcases Zt.mp hx with rfl|hx
    ·exact⟨a1.pre t1,lm⟩
    ·exact t3 x hx
theorem vR{cf:Str->List D->M D}{σ:Sg}{k i:Nat}{el it tt:E}{α:Type}{ks:List α}{f:α->D}{p:α->Bool}{h:α->Wlk}{o:Option Nat}{raw:WP}(hi:evI sub cf it σ S=.ok ⟨ks.map f,o,raw⟩ S)(hs:∀T,S<+:T->aF ⟨ks.map f,o,raw⟩ T=.ok () T)
  (hp:∀a∈ks,∀T,S<+:T->(if tt.bA=true then(pure true:M Bool) else evT sub cf tt ((σ++List.replicate k none).set i (some (f a)))) T=.ok (p a) T)
  (hg:∀a∈ks,p a=true->∀T,S<+:T->∃T' l,ev sub cf el ((σ++List.replicate k none).set i (some (f a))) T=.ok (.loc l) T'/\T<+:T'/\S.length<=l/\AtW T' (h a,l)) (hz:ks.length<=aM) :
  ∃(T':af) (Q:List (Wlk×Nat)),ev sub cf (.comp k el (.one i) it tt) σ S=.ok (.loc T'.length) (T'++[.lst (Q.map λq=>.loc q.2)])/\S<+:T'/\Q.map (·.1)=(ks.filter p).map h/\∀q∈Q,AtW T' q/\S.length<=q.2:=by
 obtain⟨T',Q,e,t1,t2,t3⟩:=nQ (s:=⟨ks.map f,o,raw⟩) (fn:=λd=>aQ (.one i) d (σ++List.replicate k none)>>=λσ'=>(if tt.bA=true then pure true else evT sub cf tt σ')>>=λb=>if b=true then ev sub cf el σ'>>=λy=>pure (some y) else pure none) (f:=f) (p:=p) (h:=h) (S0:=S) hs ks S (Z4 _) (λa ha T hT=>by
  have e0:=hp a ha T hT
  have key:∀b,p a=b->(aQ (.one i) (f a) (σ++List.replicate k none)>>=λσ'=>(if tt.bA=true then pure true else evT sub cf tt σ')>>=λb=>if b=true then ev sub cf el σ'>>=λy=>pure (some y) else pure none) T=(if b=true then ev sub cf el ((σ++List.replicate k none).set i (some (f a)))>>=λy=>pure (some y) else(pure none:M (Option D))) T:=λb hb=>by
   rw[az,iW,Res.aj,az,e0,Res.aj,hb]
  refine⟨λq=>?_,λq=>?_⟩
  ·rw[key false q]; rfl
  ·obtain⟨T',l,e1,p1,lm,a1⟩:=hg a ha q T hT;refine⟨T',l,?_,p1,lm,a1⟩;rw[key true q,Zf rfl,az,e1,Res.aj]; rfl)
 have hl:Q.length<=aM:=by
  have:=Xp List.length t2;rw[Zc,Zc] at this;rw[this];exact Xa (Qu _ _) hz
 refine⟨T',Q,?_,t1,t2,t3⟩;rw[jn,hi];simp only[Res.aj];rw[gC e];simp only[Res.aj];rw[Zf (show fits _=true from Zi (by rw[Zc]; exact hl))]
noncomputable def f9(v:Wlk)(t:Nd):Bool:=nA t==lst v
noncomputable def longer(st:List Nd)(V:List Wlk):List Wlk:=V.flatMap λv=>(st.filter (f9 v)).map λt=>v++[t]
theorem zc{st:List Nd}{V:List Wlk}(w:Wlk):w∈longer st V ↔ ∃v∈V,∃t∈st,nA t=lst v/\w=v++[t]:=by
 unfold longer f9;rw[List.mem_flatMap];constructor
 ·rintro⟨v,hv,h⟩;obtain⟨t,ht,rfl⟩:=ZB.mp h;obtain⟨h1,h2⟩:=QI.mp ht;exact⟨v,hv,t,h1,eq_of_beq h2,rfl⟩
 ·rintro⟨v,hv,t,ht,e,rfl⟩;exact⟨v,hv,ZB.mpr ⟨t,QI.mpr ⟨ht,Wt.mpr e⟩,rfl⟩⟩
theorem mF(st:List Nd):∀V:List Wlk,(longer st V).length<=V.length*st.length
 | []=>by unfold longer; simp
 | v::r=>by
  have ih:=mF st r;unfold longer at ih ⊢;rw[List.flatMap_cons,Zu,Zc,ZF,Nat.add_mul,Nat.one_mul];have:=Qu (f9 v) st;omega
noncomputable def sP:E:=.comp 2 (.bin .add (.v 3) (.lst (.cs (.v 5) .nl))) (.one 5) (.iSeq (.v 1)) (.cmp .eq (.ix (.v 5) (.c (.int 0))) (.ix (.ix (.v 3) (.neg (.c (.int 1)))) (.c (.int 1))))
theorem Ie{a b:Nat}{xs ys:WP}(ha:T[a]?=some (.lst xs))(hb:T[b]?=some (.lst ys))(hz:xs.length+ys.length<=1000000):opD .add (.loc a) (.loc b) T=.ok (.loc T.length) (T++[.lst (xs++ys)]):=by
 show aU a (λxs=>aU b λys=>guard (fits (xs.length+ys.length)) (alloc (.lst (xs++ys)))) T=_;unfold aU;rw[ha];show(match T[b]? with|some (.lst ds)=>_|_=>Res.bad)=_;rw[hb];show guard (fits (xs.length+ys.length)) (alloc (.lst (xs++ys))) T=_;rw[show fits (xs.length+ys.length)=true from Zi (by unfold aM; omega)]; rfl
theorem G6{cf:Str->List D->M D}{st:List Nd}{k:Nat}(hk:T[k]?=some (.lst (st.map tupI)))(hst:∀t∈st,bT l t)(hz:st.length<=1000){v:Wlk×Nat}(hv:dj l T v){x0 x2:Option D} :
  ∃(T':af) (Q:List (Wlk×Nat)),ev sub cf sP [x0,some (.loc k),x2,some (.loc v.2)] T=.ok (.loc T'.length) (T'++[.lst (Q.map λq=>.loc q.2)])/\T<+:T'/\Q.map (·.1)=(st.filter (f9 v.1)).map (λt=>v.1++[t])/\∀q∈Q,AtW T' q/\T.length<=q.2:=by
 obtain⟨u,_,hu,e2,a2⟩:=qZ hv.ne;refine vR (ks:=st) (f:=tupI) (p:=f9 v.1) (h:=λt=>v.1++[t]) (o:=some k) (raw:=st.map tupI) (ck (r_v rfl) (cL hk)) (λT' hT=>d_ (.inr ⟨k,rfl,bF hT hk⟩)) (λt ht T' hT=>?_) (λt ht _ T' hT=>?_) (by unfold aM; omega)
 ·have hv':T'[v.2]?=some (.lst (v.1.map tupI)):=hv.at'.pre hT;show evT sub cf _ _ T'=_;have:=aT (sub:=sub) (cf:=cf) (aX (o:=.eq) (σ:=[x0,some (.loc k),x2,some (.loc v.2),none,some (tupI t)]) (S:=T') (ao (r_v (i:=5) rfl) r_c (ow (hst t ht))) (ao (ao (r_v (i:=3) rfl) (kD (r_c (d:=.int 1))) (gY hv' a2)) (r_c (d:=.int 1)) (uF (hv.nd u hu))) (fX _ _ _));unfold f9;rw[e2];exact this
 ·have hv':T'[v.2]?=some (.lst (v.1.map tupI)):=hv.at'.pre hT;have hv2:(T'++[Cell.lst [tupI t]])[v.2]?=some (.lst (v.1.map tupI)):=bF (Zn _ _) hv';have hlen:=hv.len;have:=aP (sub:=sub) (cf:=cf) (o:=.add) (σ:=[x0,some (.loc k),x2,some (.loc v.2),none,some (tupI t)]) (S:=T') (r_v (i:=3) rfl) (bV (aa (r_v (i:=5) rfl) ai) rfl) (Ie hv2 (aJ _ _) (by rw[Zc]; simp; omega));refine⟨_,_,this,(Zn _ _).trans (Zn _ _),?_,?_⟩
  ·rw[Zu];have:=hT.length_le;omega
  ·show _[_]?=some (Cell.lst ((v.1++[t]).map tupI));rw[aJ,Z8]; rfl
theorem qg{T:af}{k:Nat}{q:Wlk×Nat}{c:Cell}(h:AtW T q)(hk:k≠q.2):AtW (T.set k c) q:=by
 show(T.set k c)[q.2]?=_;rw[ZZ hk]; exact h
theorem DF(hw:HW P){st:List Nd}{k m:Nat}{V:List (Wlk×Nat)}(hk:S[k]?=some (.lst (st.map tupI)))(hst:∀t∈st,bT l t)(hm:S[m]?=some (.lst (V.map λq=>.loc q.2)))(hV:∀q∈V,dj l S q)(hz:st.length<=1000)(hz2:V.length*st.length<=1000000) :
  ∃(T:af) (Q:List (Wlk×Nat)),ah sub P (n+1) "lengthened" [.loc m,.loc k] S=.ok (.loc S.length) T/\S<+:T/\T[S.length]?=some (.lst (Q.map λq=>.loc q.2))/\Q.map (·.1)=longer st (V.map (·.1))/\∀q∈Q,AtW T q/\S.length<q.2:=by
 have hml:m<S.length:=(Zh.mp hm).1
 obtain⟨σ',T',e,x3,Q,G,rfl,rfl,hQ,hA⟩:=dS (sub:=sub) (cf:=ah sub P n) (t:=.one 3) (it:=.iSeq (.v 0)) (b:=.ex (.me .extend (.v 2) (.cs sP .nl))) (σ:=[some (.loc m),some (.loc k),some (.loc S.length),none]) (S:=S++[.lst []]) (S1:=S++[.lst []]) (s:=⟨V.map λq=>.loc q.2,some m,V.map λq=>.loc q.2⟩)
  (λi σ T=>∃(x3:Option D) (Q:List (Wlk×Nat)) (G:af),σ=[some (.loc m),some (.loc k),some (.loc S.length),x3]/\T=S++.lst (Q.map λq=>.loc q.2)::G/\Q.map (·.1)=longer st ((V.take i).map (·.1))/\∀q∈Q,AtW T q/\S.length<q.2)
  (ck (r_v rfl) (cL (bF (Zn _ _) hm))) ⟨none,[],[],rfl,rfl,rfl,λ_ h=>by cases h⟩
  (λi σ T ⟨_,_,_,_,hT,_⟩=>by subst hT; exact d_ (.inr ⟨m,rfl,bF (Zn _ _) hm⟩))
  (λi hi σ T ⟨x3,Q,G,hσ,hT,hQ,hA⟩=>by
   subst hσ;have hi':i<V.length:=by simpa using hi
   have hit:(V.map λq=>D.loc q.2)[i]'hi=.loc (V[i]).2:=XC _;show ∃σ' T',aK sub (ah sub P n) (.one 3) _ ((V.map λq=>D.loc q.2)[i]'hi) _ _=_/\_;rw[hit];have hpre:S<+:T:=by subst hT; exact Zn _ _
   obtain⟨T1,Q1,e1,p1,q1,a1⟩:=G6 (sub:=sub) (cf:=ah sub P n) (l:=l) (x0:=some (.loc m)) (x2:=some (.loc S.length)) (bF hpre hk) hst hz ((hV _ (Z3 hi')).pre hpre);obtain⟨G1,rfl⟩:=p1;have hTl:S.length<T.length:=by subst hT; rw[Zu,ZF]; omega
   have hlst:T[S.length]?=some (.lst (Q.map λq=>.loc q.2)):=by subst hT; exact dg
   have hlst2:(T++G1++[Cell.lst (Q1.map λq=>.loc q.2)])[S.length]?=some (.lst (Q.map λq=>.loc q.2)):=bF ((Zn _ _).trans (Zn _ _)) hlst
   have n1:Q.length<=V.length*st.length:=by
    have h1:=Xp List.length hQ;rw[Zc] at h1;have h2:=mF st ((V.take i).map (·.1));rw[Zc,Xz] at h2;have h3:min i V.length*st.length<=V.length*st.length:=Nat.mul_le_mul_right _ (Nat.min_le_right _ _);omega
   have n2:Q1.length<=st.length:=by
    have h1:=Xp List.length q1;rw[Zc,Zc] at h1;have:=Qu (f9 (V[i]).1) st;omega
   have ex:=vf (S:=T++G1++[Cell.lst (Q1.map λq=>.loc q.2)]) hlst2 (aJ _ _) (by rw[Zc,Zc]; unfold aM; omega);refine⟨_,_,bW (cU (gg (l:=S.length) (r_v rfl) (aa e1 ai) ex (gE hlst))),some (.loc (V[i]).2),Q++Q1,(G++G1)++[Cell.lst (Q1.map λq=>.loc q.2)],rfl,?_,?_,?_⟩
   ·subst hT;rw[Zq,Zq,XA,jS,Z8,Zq]
   ·rw[Z8,hQ,q1,XN hi',Z8];unfold longer;rw[List.flatMap_append];simp
   ·intro q hq;rcases ZR.mp hq with hq|hq
    ·obtain⟨b1,b2⟩:=hA q hq;exact⟨qg (b1.pre ((Zn _ _).trans (Zn _ _))) (by omega),b2⟩
    ·obtain⟨b1,b2⟩:=a1 q hq;exact⟨qg (b1.pre (Zn _ _)) (by omega),by omega⟩)
 rw[Zc,ZO] at hQ;have body:exec sub (ah sub P n) kY.body (frame kY [.loc m,.loc k]) S=.ok (.rt (.loc S.length)) (S++.lst (Q.map λq=>.loc q.2)::G):=ak (aE (bV ai rfl)) (ak e (aB (r_v rfl)))
 by_cases hQ0:Q=[]
 ·subst hQ0;refine⟨S++[.lst []],[],x_call (ds:=[.loc m,.loc k]) hw.lengthened rfl body ?_,Zn _ _,aJ _ _,hQ,λ_ h=>by cases h⟩;exact jv (Zl _) (bB _ _) dg rfl
 ·refine⟨_,Q,x_call (ds:=[.loc m,.loc k]) hw.lengthened rfl body ?_,Zn _ _,dg,hQ,hA⟩;unfold leave;rw[Zf (bB _ _),Zg (by show ¬decide (S.length<S.length)=true; simp)];simp only[dg];rw[Zg];intro z;obtain⟨q,r,rfl⟩:=QE hQ0;have z:(decide (q.2<S.length)&&D.lows S.length (r.map λq=>.loc q.2))=true:=z;rw[ZA] at z;have:=Zs z.1;have:=(hA q Zk).2;omega
end
end RL

namespace RL
open PySem EV GO WK
noncomputable def mS:Fn:=⟨2,7,(.seq (.set (.one 2) (.call "needs" (.cs (.v 0) .nl)))
 (.seq (.set (.one 3) (.comp 2 (.lst (.cs (.v 8) .nl)) (.one 8) (.iSeq (.v 2)) .nl))
 (.seq (.forS (.one 4) (.iRng (.cs (.bi .len (.cs (.ix (.v 0) (.c (.int 2))) .nl)) .nl))
  (.seq (.set (.one 5) (.call "longest_walks" (.cs (.v 0) (.cs (.v 1) (.cs (.v 3) .nl)))))
 (.seq (.forS (.one 6) (.iDct (.v 5))
  (.ite (.and (.cmp .eq (.ix (.v 6) (.c (.int 0))) (.ix (.v 6) (.c (.int 1)))) (.cmp .gt (.call "surplus" (.cs (.v 0) (.cs (.v 1) (.cs (.dgv (.v 5) (.v 6)) .nl)))) (.c (.int 0))))
  (.ret (.dgv (.v 5) (.v 6)))
  .skip))
 (.set (.one 3) (.call "lengthened" (.cs (.bi .vals (.cs (.v 5) .nl)) (.cs (.v 2) .nl)))))))
 (.ret (.c .non)))))⟩
noncomputable def jW:EV.S:=.ite (.and (.cmp .eq (.ix (.v 6) (.c (.int 0))) (.ix (.v 6) (.c (.int 1)))) (.cmp .gt (.call "surplus" (.cs (.v 0) (.cs (.v 1) (.cs (.dgv (.v 5) (.v 6)) .nl)))) (.c (.int 0))))
  (.ret (.dgv (.v 5) (.v 6)))
  .skip
noncomputable def k7:EV.S:=.seq (.set (.one 5) (.call "longest_walks" (.cs (.v 0) (.cs (.v 1) (.cs (.v 3) .nl)))))
 (.seq (.forS (.one 6) (.iDct (.v 5)) jW)
 (.set (.one 3) (.call "lengthened" (.cs (.bi .vals (.cs (.v 5) .nl)) (.cs (.v 2) .nl)))))
theorem jg(t:Wx):∀ts:List (List Int),(bC t ts).length<=ts.length+1
 | []=>Zl _
 | u::r=>by
  unfold bC;split
  ·exact Qq _
  ·split
   ·exact Zl _
   ·have:=jg t r;rw[ZF,ZF]; omega
theorem ja:∀ts:List (List Int),(aN ts).length<=ts.length
 | []=>Zl _
 | t::r=>by
  have h1:=jg t (aN r);have h2:=ja r;show(bC t (aN r)).length<=r.length+1;omega
theorem gu(t x:Wx):∀ts:List (List Int),x∈bC t ts ↔ x=t\/x∈ts
 | []=>by unfold bC; simp
 | u::r=>by
  unfold bC;split
  ·rename_i h;subst h;constructor
   ·exact .inr
   ·rintro(rfl|h)
    ·exact Zk
    ·exact h
  ·split
   ·exact Zt
   ·rw[Zt,Zt,gu t x r];constructor
    ·rintro(h|h|h)
     ·exact .inr (.inl h)
     ·exact .inl h
     ·exact .inr (.inr h)
    ·rintro(h|h|h)
     ·exact .inr (.inl h)
     ·exact .inl h
     ·exact .inr (.inr h)
theorem sF(x:Wx):∀ts:List (List Int),x∈aN ts ↔ x∈ts
 | []=>Iff.rfl
 | t::r=>by
  show x∈bC t (aN r) ↔ _;rw[gu,sF x r,Zt]
noncomputable def aS(l:Lp):List Nd:=aN (aW 0 l.works)
theorem dG{l:Lp}(hl:l.WF):∀t∈aS l,bT l t:=λt ht=>Cq hl ((sF t _).mp ht)
theorem wB{l:Lp}(hl:l.WF)(h4:l.works.length<=4):(aS l).length<=12:=by
 have h1:=ja (aW 0 l.works)
 have h2:=nV l.works 0 λw hw=>by
  obtain⟨i,hi⟩:=ZS hw;exact(hl.works i w hi).some.2
 unfold aS;omega
section
variable{sub:Sub}{P:Prg}{n:Nat}{S T:af}{l:Lp}
theorem A_{α:Type}{en:α->List Int}{wf:α->Int}{Q:List α}{K:List (List Int×α)}(h:KOk en wf Q K):∀e∈K,∃x,aL K e.1=some x/\en x=e.1:=λe he=>by
 obtain⟨h1,h2⟩:=h.mem e he;obtain⟨x,hx,_⟩:=h.all _ h1;rw[<- h2] at hx;exact⟨x,hx,((h.mem _ (fF hx)).2).symm⟩
theorem sA(hw:HW P){g:Int}(hg:0<=g/\g<=1000){Q:List (Wlk×Nat)}{K:List (List Int×(Wlk×Nat))}{k:Nat}{x2 x3 x4:Option D}(hT:TabAt T k (K.map kv))(hK:KOk enQ (wfQ l g) Q K)(hQ:∀q∈Q,dj l T q){s:Src}(hs:aF s T=.ok () T) :
  ∀(E:List (List Int×(Wlk×Nat))) (x6:Option D),(∀e∈E,e∈K) ->
   (∃q∈Q,forL s (aK sub (ah sub P (n+2)) (.one 6) jW) (E.map λe=>tupI e.1) [some l.toD,some (.int g),x2,x3,x4,some (.loc k),x6] T=.ok (.rt (.loc q.2)) T/\dN q.1/\0<wfQ l g q) \/
   (∃x6',forL s (aK sub (ah sub P (n+2)) (.one 6) jW) (E.map λe=>tupI e.1) [some l.toD,some (.int g),x2,x3,x4,some (.loc k),x6] T=.ok (.nx [some l.toD,some (.int g),x2,x3,x4,some (.loc k),x6']) T/\∀e∈E,∀q,aL K e.1=some q->dN q.1->wfQ l g q<=0)
 | [],x6,_=>.inr ⟨x6,gk hs,λ_ h=>by cases h⟩
 | e::E,x6,hE=>by
  obtain⟨q,hq,he⟩:=A_ hK e (hE e Zk);have hqQ:=(hK.mem _ (fF hq)).1;have gq:=hQ q hqQ;have he:e.1=[fst q.1,lst q.1]:=he.symm
  have hget:aL (K.map kv) e.1=some (.loc q.2):=by
   rw[show aL (K.map kv) e.1=(aL K e.1).map λq=>D.loc q.2 from get_map (λq:Wlk×Nat=>D.loc q.2) e.1 K,hq]; rfl
  have d1:=wL hT hget;have s1:=m6 (sub:=sub) (n:=n) hw hg gq.at' gq.nd gq.len;have i0:ixD (tupI e.1) (.int 0) T=.ok (.int (fst q.1)) T:=by rw[he]; exact av rfl
  have i1:ixD (tupI e.1) (.int 1) T=.ok (.int (lst q.1)) T:=by rw[he]; exact av rfl
  have t1:evT sub (ah sub P (n+2)) (.cmp .eq (.ix (.v 6) (.c (.int 0))) (.ix (.v 6) (.c (.int 1)))) [some l.toD,some (.int g),x2,x3,x4,some (.loc k),some (tupI e.1)] T=.ok (fst q.1==lst q.1) T:=aT (aX (ao (r_v rfl) r_c i0) (ao (r_v rfl) r_c i1) (fX _ _ _));have t2:evT sub (ah sub P (n+2)) (.cmp .gt (.call "surplus" (.cs (.v 0) (.cs (.v 1) (.cs (.dgv (.v 5) (.v 6)) .nl)))) (.c (.int 0))) [some l.toD,some (.int g),x2,x3,x4,some (.loc k),some (tupI e.1)] T=.ok (decide (0<wfQ l g q)) T:=aT (aX (ay (aa (r_v rfl) (aa (r_v rfl) (aa (oV (r_v rfl) (r_v rfl) d1) ai))) s1) r_c (jq _ _ _))
  have go:((fst q.1==lst q.1)&&decide (0<wfQ l g q))=false->aK sub (ah sub P (n+2)) (.one 6) jW (tupI e.1) [some l.toD,some (.int g),x2,x3,x4,some (.loc k),x6] T=.ok (.nx [some l.toD,some (.int g),x2,x3,x4,some (.loc k),some (tupI e.1)]) T:=λhb=>by
   refine bW (aG ?_ aH)
   cases c:(fst q.1==lst q.1) with
   | false=>rw[c] at t1; exact kL t1
   | true =>
    rw[c] at t1 hb;rw[Bool.true_and] at hb;rw[hb] at t2;exact fm t1 t2
  by_cases hb:((fst q.1==lst q.1)&&decide (0<wfQ l g q))=true
  ·rw[ZA] at hb;rw[hb.1] at t1;rw[hb.2] at t2;refine .inl ⟨q,hqQ,?_,eq_of_beq hb.1,Zs hb.2⟩;exact f6 hs (bW (bw (fm t1 t2) (aB (oV (r_v rfl) (r_v rfl) d1))))
  ·have hb:((fst q.1==lst q.1)&&decide (0<wfQ l g q))=false:=by cases c:((fst q.1==lst q.1)&&decide (0<wfQ l g q)) with|true=>exact absurd c hb|false=>rfl
   rcases sA hw hg hT hK hQ hs E (some (tupI e.1)) λa ha=>hE a (Zm _ ha) with⟨y,hy,e1,e2,e3⟩|⟨x6',e1,e2⟩
   ·exact .inl ⟨y,hy,dh hs (go hb) e1,e2,e3⟩
   ·refine .inr ⟨x6',dh hs (go hb) e1,λa ha y hy hc=>?_⟩;rcases Zt.mp ha with rfl|ha
    ·rw[hq] at hy; cases hy;have hc:(fst q.1==lst q.1)=true:=Wt.mpr hc;rw[hc,Bool.true_and] at hb;have:=Wi hb;omega
    ·exact e2 a ha y hy hc
theorem xP{k:Nat}{K:List (List Int×(Wlk×Nat))}(hT:TabAt T k (K.map kv))(hz:K.length<=1000000):biD sub .vals [.loc k] T=.ok (.loc T.length) (T++[.lst ((K.map (·.2)).map λq=>.loc q.2)]):=by
 show bX k (λkvs=>guard (fits kvs.length) (alloc (.lst (kvs.map (·.2))))) T=_;rw[nX hT];rw[show fits (K.map kv).length=true from Zi (by rw[Zc]; unfold aM; omega)];show Res.ok (D.loc T.length) (T++[.lst ((K.map kv).map (·.2))])=_;rw[Xl,Xl]; rfl
theorem Gh{cf:Str->List D->M D}{σ:Sg}{a:E}{k:Nat}{K:List (List Int×(Wlk×Nat))}(ha:ev sub cf a σ (T++[.dct (K.map kv)])=.ok (.loc T.length) (T++[.dct (K.map kv)])):evI sub cf (.iDct a) σ (T++[.dct (K.map kv)])=.ok ⟨K.map λe=>tupI e.1,none,[]⟩ (T++[.fdc (K.map kv)]):=by
 show(ev sub cf a σ>>=λd=>iN d) (T++[.dct (K.map kv)])=_;rw[az,ha,Res.aj];unfold iN;simp only[aJ];rw[qE,Xl]; rfl
set_option genInjectivity false in
structure RSt(l:Lp)(g:Int)(S0 T:af)(m:Nat)(Q:List (Wlk×Nat)):Prop where
 best:f_ (a_ l) g (aS l) m (Q.map (·.1))
 at':∀q∈Q,AtW T q/\S0.length<=q.2
 len:Q.length<=12^m
theorem RSt.good{S0:af}{g:Int}{m:Nat}{Q:List (Wlk×Nat)}(hl:l.WF)(h:RSt l g S0 T m Q)(hm:m<=1000):∀q∈Q,dj l T q:=λq hq=>by
 obtain⟨h1,h2⟩:=h.best.mem q.1 (ZB.mpr ⟨q,hq,rfl⟩);exact⟨(h.at' q hq).1,h1.ne,λt ht=>dG hl t (h1.mem t ht),by omega⟩
theorem uX{m:Nat}(h:m<=5):12^m<=248832:=Xa (Nat.pow_le_pow_right (by decide) h) (by decide)
theorem Ei(hw:HW P)(hl:l.WF)(h4:l.works.length<=4){g:Int}(hg:0<=g/\g<=1000){S0:af}{m k:Nat}{Q:List (Wlk×Nat)}{x4 x5 x6:Option D}(hm:1<=m/\m<=4)(hR:RSt l g S0 T m Q)(hk:T[k]?=some (.lst (Q.map λq=>.loc q.2)))(h0:S0.length<T.length)(hp:S0<+:T)(hs:T[S0.length]?=some (.lst ((aS l).map tupI))) :
  (∃q T',exec sub (ah sub P (n+3)) k7 [some l.toD,some (.int g),some (.loc S0.length),some (.loc k),x4,x5,x6] T=.ok (.rt (.loc q.2)) T'/\S0<+:T'/\AtW T' q/\S0.length<=q.2/\Walk (aS l) q.1/\q.1.length=m/\dN q.1/\0<wt (a_ l) g q.1) \/
  (gT (a_ l) g (aS l) m/\∃T' k' Q' x5' x6',exec sub (ah sub P (n+3)) k7 [some l.toD,some (.int g),some (.loc S0.length),some (.loc k),x4,x5,x6] T=.ok (.nx [some l.toD,some (.int g),some (.loc S0.length),some (.loc k'),x4,x5',x6']) T'/\T<+:T'/\RSt l g S0 T' (m+1) Q'/\T'[k']?=some (.lst (Q'.map λq=>.loc q.2))):=by
 have gQ:=hR.good hl (by omega);have hQz:Q.length<=248832:=Xa hR.len (uX (by omega));have hst:=wB hl h4;have e1:=Gs (sub:=sub) (n:=n) hw hg hk gQ (by omega);have hK:KOk enQ (wfQ l g) Q (Q.foldl (cV enQ (wfQ l g)) []):=KOk.of Q;generalize hKe:Q.foldl (cV enQ (wfQ l g)) []=K at e1 hK;have hKz:=hK.len;have pre:T<+:T++[.fdc (K.map kv)]:=Zn _ _;have hT:TabAt (T++[.fdc (K.map kv)]) T.length (K.map kv):=.inr (aJ _ _);have a1:=aE (sub:=sub) (cf:=ah sub P (n+3)) (σ:=[some l.toD,some (.int g),some (.loc S0.length),some (.loc k),x4,x5,x6]) (i:=5) (S:=T) (ay (aa (r_v (i:=0) rfl) (aa (r_v (i:=1) rfl) (aa (r_v (i:=3) rfl) ai))) e1);have it:=Gh (sub:=sub) (cf:=ah sub P (n+3)) (σ:=[some l.toD,some (.int g),some (.loc S0.length),some (.loc k),x4,some (.loc T.length),x6]) (T:=T) (K:=K) (k:=0) (r_v (i:=5) rfl);rcases sA (sub:=sub) (n:=n+1) (x2:=some (.loc S0.length)) (x3:=some (.loc k)) (x4:=x4) hw hg hT hK (λq hq=>(gQ q hq).pre pre) (s:=⟨K.map λe=>tupI e.1,none,[]⟩) rfl K x6 (λ_ h=>h) with⟨q,hq,e2,c1,c2⟩|⟨x6',e2,c1⟩
 ·obtain⟨w1,w2⟩:=hR.best.mem q.1 (ZB.mpr ⟨q,hq,rfl⟩);exact .inl ⟨q,_,ak a1 (bO (bP it e2)),hp.trans pre,(hR.at' q hq).1.pre pre,(hR.at' q hq).2,w1,w2,c1,c2⟩
 ·refine .inr ⟨λw hw' hlw hc=>?_,?_⟩
  ·obtain⟨v,hv,he,hle⟩:=hR.best.all w hw' hlw;obtain⟨q,hq,rfl⟩:=ZB.mp hv;obtain⟨x,hx,hle2⟩:=hK.all q hq;have hxe:enQ x=enQ q:=((hK.mem _ (fF hx)).2).symm
   have hxc:dN x.1:=by
    obtain⟨z1,z2⟩:=p8 (hxe.trans he);show fst x.1=lst x.1;rw[z1,z2]; exact hc
   have:=c1 _ (fF hx) x hx hxc;have h5:wt (a_ l) g q.1<=wt (a_ l) g x.1:=hle2;have h6:wt (a_ l) g x.1<=0:=this;omega
  ·have gV:∀q∈K.map (·.2),dj l (T++[.fdc (K.map kv)]++[.lst ((K.map (·.2)).map λq=>.loc q.2)]) q:=λq hq=>by
    obtain⟨e,he,rfl⟩:=ZB.mp hq;exact((gQ _ (hK.mem e he).1).pre pre).pre (Zn _ _)
   obtain⟨T',Q',e3,p3,g3,m3,a3⟩:=DF (sub:=sub) (P:=P) (n:=n+2) (S:=T++[.fdc (K.map kv)]++[.lst ((K.map (·.2)).map λq=>.loc q.2)]) (l:=l) (st:=aS l) (k:=S0.length) (m:=(T++[Cell.fdc (K.map kv)]).length) (V:=K.map (·.2)) hw
    (bF (pre.trans (Zn _ _)) hs) (dG hl) (aJ _ _) gV (by omega) (by
     rw[Zc];have:K.length*(aS l).length<=12^m*12:=Nat.mul_le_mul (Xa hKz hR.len) hst;have h2:12^m*12<=248832:=by rw[<- Nat.pow_succ]; exact uX (by omega)
     omega)
   have hv:=xP (sub:=sub) (T:=T++[.fdc (K.map kv)]) (k:=T.length) (K:=K) hT (by omega);have a2:=aE (sub:=sub) (cf:=ah sub P (n+3)) (σ:=[some l.toD,some (.int g),some (.loc S0.length),some (.loc k),x4,some (.loc T.length),x6']) (i:=3) (S:=T++[.fdc (K.map kv)]) (ay (aa (aO (aa (r_v (i:=5) rfl) ai) hv) (aa (r_v (i:=2) rfl) ai)) e3);refine⟨T',_,Q',_,_,ak a1 (ak (bP it e2) a2),(pre.trans (Zn _ _)).trans p3,⟨?_,?_,?_⟩,g3⟩
   ·refine f_.next (V:=(K.map (·.2)).map (·.1)) (by omega) (λw hw'=>?_) (λw hw' hlw=>?_) (λw=>by rw[m3]; exact zc w)
    ·obtain⟨q,hq,rfl⟩:=ZB.mp hw';obtain⟨e,he,rfl⟩:=ZB.mp hq;exact hR.best.mem _ (ZB.mpr ⟨_,(hK.mem e he).1,rfl⟩)
    ·obtain⟨v,hv,he,hle⟩:=hR.best.all w hw' hlw;obtain⟨q,hq,rfl⟩:=ZB.mp hv;obtain⟨x,hx,hle2⟩:=hK.all q hq;have hxe:enQ x=enQ q:=((hK.mem _ (fF hx)).2).symm;refine⟨x.1,ZB.mpr ⟨x,ZB.mpr ⟨_,fF hx,rfl⟩,rfl⟩,hxe.trans he,?_⟩;have h5:wt (a_ l) g q.1<=wt (a_ l) g x.1:=hle2;omega
   ·intro q hq;obtain⟨b1,b2⟩:=a3 q hq;refine⟨b1,?_⟩;rw[Zu,Zu] at b2;omega
   ·have h1:=Xp List.length m3;rw[Zc] at h1;have h2:=mF (aS l) ((K.map (·.2)).map (·.1));rw[Zc,Zc] at h2;have:K.length*(aS l).length<=12^m*12:=Nat.mul_le_mul (Xa hKz hR.len) hst;rw[Nat.pow_succ];omega
theorem pS(hw:HW P)(hl:l.WF)(h4:l.works.length<=4){g:Int}(hg:0<=g/\g<=1000){S0:af}{raw:WP}{its0:WP}:∀(its:WP) (T:af) (m k:Nat) (Q:List (Wlk×Nat)) (x4 x5 x6:Option D),1<=m->m+its.length<=5->RSt l g S0 T m Q->T[k]?=some (.lst (Q.map λq=>.loc q.2))->S0.length<T.length->S0<+:T->T[S0.length]?=some (.lst ((aS l).map tupI))->(∀j,0<j->j<m->gT (a_ l) g (aS l) j) ->
  (∃q T',forL ⟨its0,none,raw⟩ (aK sub (ah sub P (n+3)) (.one 4) k7) its [some l.toD,some (.int g),some (.loc S0.length),some (.loc k),x4,x5,x6] T=.ok (.rt (.loc q.2)) T'/\S0<+:T'/\AtW T' q/\S0.length<=q.2/\Walk (aS l) q.1/\q.1.length<m+its.length/\dN q.1/\0<wt (a_ l) g q.1/\(q.1.map nA).Nodup) \/
  (∃σ' T',forL ⟨its0,none,raw⟩ (aK sub (ah sub P (n+3)) (.one 4) k7) its [some l.toD,some (.int g),some (.loc S0.length),some (.loc k),x4,x5,x6] T=.ok (.nx σ') T'/\S0<+:T'/\∀j,0<j->j<m+its.length->gT (a_ l) g (aS l) j)
 | [],T,m,k,Q,x4,x5,x6,h1,h2,hR,hk,h0,hp,hs,hf=>.inr ⟨_,T,gk rfl,hp,hf⟩
 | d::its,T,m,k,Q,x4,x5,x6,h1,h2,hR,hk,h0,hp,hs,hf=>by
  rw[ZF] at h2;rcases Ei (sub:=sub) (n:=n) (x4:=some d) (x5:=x5) (x6:=x6) hw hl h4 hg ⟨h1,by omega⟩ hR hk h0 hp hs with⟨q,T',e,p,a,b,w,wl,c,pos⟩|⟨fr,T',k',Q',x5',x6',e,p,hR',hk'⟩
  ·refine .inl ⟨q,T',f6 rfl (bW e),p,a,b,w,by rw[ZF]; omega,c,pos,xy w c pos λj j1 j2=>hf j j1 (by omega)⟩
  ·have:=pS hw hl h4 hg (raw:=raw) (its0:=its0) its T' (m+1) k' Q' (some d) x5' x6' (by omega) (by omega) hR' hk' (ZM h0 p.length_le) (hp.trans p) (bF p hs) (λj j1 j2=>by
    by_cases hj:j=m
    ·rw[hj]; exact fr
    ·exact hf j j1 (by omega))
   rw[ZF];rcases this with⟨q,T2,e2,r⟩|⟨σ2,T2,e2,r1,r2⟩
   ·refine .inl ⟨q,T2,dh rfl (bW e) e2,?_⟩;rw[show m+(its.length+1)=m+1+its.length by omega]; exact r
   ·refine .inr ⟨σ2,T2,dh rfl (bW e) e2,r1,?_⟩;rw[show m+(its.length+1)=m+1+its.length by omega]; exact r2
set_option genInjectivity false in
structure fk(l:Lp)(g:Int)(w:Wlk):Prop where
 walk:Walk (aS l) w
 len:w.length<=l.works.length
 closed:dN w
 pos:0<wt (a_ l) g w
 nodup:(w.map nA).Nodup
theorem xD(h:HB P)(hn:Has P "needs" fS)(hr:Has P "barring_ring" mS)(hw:HW P)(hl:l.WF)(h4:l.works.length<=4){g:Int}(hg:0<=g/\g<=1000) :
  (∃w,ah sub P (n+9) "barring_ring" [l.toD,.int g] S=.ok (.loc S.length) (S++[.lst (w.map tupI)])/\fk l g w) \/
  (ah sub P (n+9) "barring_ring" [l.toD,.int g] S=.ok .non S/\∀j,0<j->j<=l.works.length->gT (a_ l) g (aS l) j):=by
 have e1:=n5 (sub:=sub) (n:=n) (S:=S) h hn hl (by omega);have hst:=wB hl h4
 obtain⟨T',Q,e2,p2,m2,a2⟩:=vR (sub:=sub) (cf:=ah sub P (n+8)) (σ:=[some l.toD,some (.int g),some (.loc S.length),none,none,none,none]) (S:=S++[.lst ((aS l).map tupI)]) (k:=2) (i:=8) (el:=.lst (.cs (.v 8) .nl)) (it:=.iSeq (.v 2)) (tt:=.nl) (ks:=aS l) (f:=tupI) (p:=λ_=>true) (h:=λt=>[t]) (o:=some S.length) (raw:=(aS l).map tupI)
  (ck (r_v rfl) (cL (aJ _ _))) (λT hT=>d_ (.inr ⟨_,rfl,bF hT (aJ _ _)⟩)) (λt ht T hT=>rfl) (λt ht _ T hT=>⟨_,_,bV (aa (r_v rfl) ai) rfl,Zn _ _,hT.length_le,aJ _ _⟩) (by unfold aM; omega)
 have hp:S<+:T':=(Zn _ _).trans p2
 have hlen:S.length<T'.length:=by
  have:=p2.length_le;rw[Zu] at this;simp at this;omega
 have hf:(aS l).filter (λ_=>true)=aS l:=List.filter_eq_self.mpr λ_ _=>rfl
 rw[hf] at m2
 have hR:RSt l g S (T'++[.lst (Q.map λq=>.loc q.2)]) 1 Q:=⟨by rw[m2]; exact f_.one,λq hq=>⟨(a2 q hq).1.pre (Zn _ _),by
   have:=(a2 q hq).2;rw[Zu] at this;omega⟩,by
   have:=Xp List.length m2;rw[Zc,Zc] at this;omega⟩
 have hs:(T'++[Cell.lst (Q.map λq=>.loc q.2)])[S.length]?=some (.lst ((aS l).map tupI)):=bF (p2.trans (Zn _ _)) (aJ _ _)
 have hit:evI sub (ah sub P (n+8)) (.iRng (.cs (.bi .len (.cs (.ix (.v 0) (.c (.int 2))) .nl)) .nl)) [some l.toD,some (.int g),some (.loc S.length),some (.loc T'.length),none,none,none] (T'++[.lst (Q.map λq=>.loc q.2)])=.ok ⟨(List.range l.works.length).map λ(i:Nat)=>.int (i:Int),none,[]⟩ (T'++[.lst (Q.map λq=>.loc q.2)]) :=
  dM (aa (aO (aa (ao (r_v rfl) r_c (av rfl)) ai) dw) ai) (by rw[Zc]) (by omega) (λ_=>rfl)
 rcases pS (sub:=sub) (n:=n+5) (raw:=[]) (its0:=(List.range l.works.length).map λ(i:Nat)=>.int (i:Int)) hw hl h4 hg ((List.range l.works.length).map λ(i:Nat)=>.int (i:Int)) (T'++[.lst (Q.map λq=>.loc q.2)]) 1 T'.length Q none none none (by omega) (by rw[Zc,ZJ]; omega) hR (aJ _ _) (by rw[Zu]; omega) (hp.trans (Zn _ _)) hs (λj j1 j2=>by omega) with⟨q,T2,e3,r1,r2,r3,r4,r5,r6,r7,r8⟩|⟨σ2,T2,e3,r1,r2⟩
 ·rw[Zc,ZJ] at r5;refine .inl ⟨q.1,x_call (ds:=[l.toD,.int g]) hr rfl (ak (aE (ay (aa (r_v rfl) ai) e1)) (ak (aE e2) (bO (bP hit e3)))) (jv r3 ?_ r2 (lF _)),r4,by omega,r6,r7,r8⟩;obtain⟨G,rfl⟩:=r1;exact bB _ _
 ·rw[Zc,ZJ] at r2;refine .inr ⟨x_call (ds:=[l.toD,.int g]) hr rfl (ak (aE (ay (aa (r_v rfl) ai) e1)) (ak (aE e2) (ak (bP hit e3) (aB r_c)))) (bh rfl ?_),λj j1 j2=>r2 j j1 (by omega)⟩;obtain⟨G,rfl⟩:=r1;exact bB _ _
end
end RL

namespace WK
end WK
namespace RL
open PySem EV GO WK
noncomputable def nD:Fn:=⟨2,2,(.seq (.ex (.call "checked" (.cs (.v 0) .nl)))
 (.ret (.call "barring_ring" (.cs (.v 0) (.cs (.call "checked_gap" (.cs (.v 1) .nl)) .nl)))))⟩
set_option genInjectivity false in
structure HR0(P:Prg):Prop where
 needs:Has P "needs" fS
 gap:Has P "checked_gap" nS
 barring:Has P "barring_ring" mS
 walks:HW P
set_option genInjectivity false in
structure HR(P:Prg):Prop extends HR0 P where
 ring:Has P "ring" nD
 isneed:Has P "is_need" f_is_need
 isring:Has P "is_ring" f_is_ring
 isbar:Has P "is_bar" f_is_bar
section
variable{sub:Sub}{P:Prg}{n:Nat}{S T:af}{l:Lp}
theorem uH(h:HB P)(hr:HR0 P){g:Int}(h1:1<=g)(h2:g<=200):ah sub P (n+2) "checked_gap" [.int g] S=.ok (.int g) S :=
 x_call (ds:=[.int g]) hr.gap rfl (ak (aG (bE (bN (ay (aa (r_v rfl) (aa r_c (aa r_c ai))) (cD h.whole h1 h2)))) aH) (aB (r_v rfl))) (gm _ _)
theorem G7(h:HB P)(hr:HR0 P)(hq:Has P "ring" nD)(hl:l.WF)(h4:l.works.length<=4){g:Int}(h1:1<=g)(h2:g<=200) :
  (∃w,ah sub P (n+10) "ring" [l.toD,.int g] S=.ok (.loc S.length) (S++[.lst (w.map tupI)])/\fk l g w) \/
  (ah sub P (n+10) "ring" [l.toD,.int g] S=.ok .non S/\∀j,0<j->j<=l.works.length->gT (a_ l) g (aS l) j):=by
 have pre:∀{R:Res D},ah sub P (n+9) "barring_ring" [l.toD,.int g] S=R->∀{d S'},R=.ok d S'->∀{R2},leave S d S'=R2->ah sub P (n+10) "ring" [l.toD,.int g] S=R2:=λ{R} e {d S'} e2 {R2} e3 =>
  x_call (ds:=[l.toD,.int g]) hq rfl (ak (cU (ay (aa (r_v rfl) ai) (gX (n:=n+2) h hl))) (aB (ay (aa (r_v rfl) (aa (ay (aa (r_v rfl) ai) (uH (n:=n+7) h hr h1 h2)) ai)) (e.trans e2)))) e3
 rcases xD (sub:=sub) (n:=n) (S:=S) h hr.needs hr.barring hr.walks hl h4 (g:=g) ⟨by omega,by omega⟩ with⟨w,e,hb⟩|⟨e,hf⟩
 ·exact .inl ⟨w,pre e rfl (jv (Zl _) (bB _ _) (aJ _ _) (lF _)),hb⟩
 ·exact .inr ⟨pre e rfl (bh rfl ZO),hf⟩
end
end RL

namespace RL
open PySem EV GO WK
noncomputable def qp:Fn:=⟨2,2,(.ret (.bin .mul (.ix (.ix (.ix (.v 0) (.c (.int 1))) (.v 1)) (.c (.int 1))) (.bi .len (.cs (.comp 2 (.v 3) (.one 3) (.iSeq (.ix (.v 0) (.c (.int 2)))) (.cmp .eq (.ix (.v 3) (.c (.int 0))) (.v 1))) .nl))))⟩
noncomputable def uL:Fn:=⟨2,4,(.seq (.forS (.many [2,3]) (.iEnum (.ix (.v 0) (.c (.int 1))))
  (.ite (.cmp .gt (.call "crew_times" (.cs (.v 0) (.cs (.v 2) .nl))) (.bin .mul (.v 1) (.ix (.v 3) (.c (.int 0)))))
  (.ret (.v 2))
  .skip))
 (.ret (.c .non)))⟩
noncomputable def qo:Fn:=⟨2,2,(.seq (.ex (.call "checked" (.cs (.v 0) .nl)))
 (.ret (.call "barring_crew" (.cs (.v 0) (.cs (.call "checked_gap" (.cs (.v 1) .nl)) .nl)))))⟩
set_option genInjectivity false in
structure HC0(P:Prg):Prop where
 times:Has P "crew_times" qp
 barring:Has P "barring_crew" uL
 crowd:Has P "crowd" qo
set_option genInjectivity false in
structure HC(P:Prg):Prop extends HC0 P where
 up:Has P "rounded_up" f_rounded_up
 ringgap:Has P "ring_gap" f_ring_gap
 crewgap:Has P "crew_gap" f_crew_gap
section
variable{c:Sg->M Bool}{f:Sg->M Fl}{n:Nat}{σ σ':Sg}{S S1 S2:af}
end
section
variable{sub:Sub}{P:Prg}{n:Nat}{S T:af}{l:Lp}
end
end RL

namespace RL
open PySem EV GO WK
noncomputable def j_(l:Lp)(k:Nat):Nat:=(l.works.filter λw=>w.crew==k).length
noncomputable def oH(l:Lp)(k:Nat)(c:Nat×Nat):Int:=(c.2:Int)*(j_ l k:Int)
noncomputable def fV(l:Lp)(g:Int)(k:Nat)(c:Nat×Nat):Bool:=decide (g*(c.1:Int)<oH l k c)
noncomputable def bS(l:Lp)(g:Int):Nat->List (Nat×Nat)->Option Nat
 | _,[]=>none
 | k,c::r=>if fV l g k c then some k else bS l g (k+1) r
noncomputable def crD:Option Nat->D
 | some k=>.int (k:Int)
 | none=>.non
theorem xg{l:Lp}{g:Int}:∀{cs:List (Nat×Nat)} {k j:Nat},bS l g k cs=some j->∃i c,j=k+i/\cs[i]?=some c/\fV l g j c=true
 | [],_,_,e=>by cases e
 | d::r,k,j,e=>by
  unfold bS at e
  cases q:fV l g k d with
  | true=>rw[q] at e; cases e; exact⟨0,d,rfl,rfl,q⟩
  | false =>
   rw[q] at e;obtain⟨i,c,h1,h2,h3⟩:=xg (k:=k+1) e;exact⟨i+1,c,by omega,by simpa using h2,h3⟩
theorem AX(l:Lp)(k:Nat):(l.works.filterMap λw=>if(w.crew==k)=true then some w.toD else none).length=j_ l k:=by
 unfold j_;generalize l.works=ws
 induction ws with
 | nil=>rfl
 | cons w r ih =>
  by_cases z:(w.crew==k)=true
  ·rw[List.filterMap_cons_some (b:=w.toD) (by rw[Zf z]),QV (p:=λw:Wk=>w.crew==k) z,ZF,ZF,ih]
  ·rw[List.filterMap_cons_none (by rw[Zg z]),QU (p:=λw:Wk=>w.crew==k) z,ih]
section
variable{sub:Sub}{P:Prg}{n:Nat}{S T:af}{l:Lp}
theorem HU(hc:HC0 P)(hl:l.WF){k:Nat}{c:Nat×Nat}(hk:l.crews[k]?=some c):ah sub P (n+1) "crew_times" [l.toD,.int (k:Int)] S=.ok (.int (oH l k c)) S:=by
 have h8:=hl.nworks.2;have hm:=hl.crews c (ZD hk)
 have e:ev sub (ah sub P n) (.comp 2 (.v 3) (.one 3) (.iSeq (.ix (.v 0) (.c (.int 2)))) (.cmp .eq (.ix (.v 3) (.c (.int 0))) (.v 1))) [some l.toD,some (.int (k:Int))] S=.ok (.loc S.length) (S++[.lst (l.works.filterMap λw=>if w.crew==k then some w.toD else none)]) :=
  qm (ks:=l.works) (f:=Wk.toD) (g:=λw=>if w.crew==k then some w.toD else none) (o:=none) (raw:=l.works.map Wk.toD) rfl (ck (ao (r_v rfl) r_c (av rfl)) rfl) rfl (λw hw=>by
   have:=aT (sub:=sub) (cf:=ah sub P n) (aX (o:=.eq) (σ:=[some l.toD,some (.int (k:Int)),none,some w.toD]) (S:=S) (ao (r_v (i:=3) rfl) (r_c (d:=.int 0)) (av (d:=.int (w.crew:Int)) rfl)) (r_v (i:=1) rfl) (fX _ _ _));refine Eq.trans this ?_
   by_cases z:w.crew=k
   ·rw[z,XO,XO]; rfl
   ·rw[Xf.mpr (show((w.crew:Nat):Int)≠(k:Int) by omega),Xf.mpr z]; rfl) (λw hw d hd=>by
   by_cases z:(w.crew==k)=true
   ·rw[Zf z] at hd; cases hd; exact r_v rfl
   ·rw[Zg z] at hd; cases hd) (by unfold aM; omega)
 have e2:=AX l k;have e3:=uB (sub:=sub) (T:=S) (xs:=l.works.filterMap λw=>if w.crew==k then some w.toD else none);rw[e2] at e3;exact x_call (ds:=[l.toD,.int (k:Int)]) hc.times rfl (aB (aP (ao (ao (ao (r_v rfl) r_c (av rfl)) (r_v rfl) (av (lz hk))) r_c (av rfl)) (aO (aa e ai) e3) (fJ (by omega)))) (ic _ _ _)
noncomputable def n9:EV.S:=.ite (.cmp .gt (.call "crew_times" (.cs (.v 0) (.cs (.v 2) .nl))) (.bin .mul (.v 1) (.ix (.v 3) (.c (.int 0)))))
  (.ret (.v 2))
  .skip
theorem pL(hc:HC0 P)(hl:l.WF){g:Int}(hg:0<=g/\g<=1000){s:Src}(hs:aF s S=.ok () S):∀(cs:List (Nat×Nat)) (k:Nat) (x2 x3:Option D),(∀(i:Nat) c,cs[i]?=some c->l.crews[k+i]?=some c) ->
  (∃j,bS l g k cs=some j/\forL s (aK sub (ah sub P (n+1)) (.many [2,3]) n9) (num k (cs.map aZ)) [some l.toD,some (.int g),x2,x3] S=.ok (.rt (.int (j:Int))) S) \/
  (bS l g k cs=none/\∃σ',forL s (aK sub (ah sub P (n+1)) (.many [2,3]) n9) (num k (cs.map aZ)) [some l.toD,some (.int g),x2,x3] S=.ok (.nx σ') S)
 | [],k,x2,x3,_=>.inr ⟨rfl,_,gk hs⟩
 | c::r,k,x2,x3,h=>by
  have hk:l.crews[k]?=some c:=h 0 c rfl;have e1:=HU (sub:=sub) (n:=n) (S:=S) hc hl hk
  have t1:evT sub (ah sub P (n+1)) (.cmp .gt (.call "crew_times" (.cs (.v 0) (.cs (.v 2) .nl))) (.bin .mul (.v 1) (.ix (.v 3) (.c (.int 0))))) [some l.toD,some (.int g),some (.int (k:Int)),some (aZ c)] S=.ok (fV l g k c) S :=
   aT (aX (ay (aa (r_v rfl) (aa (r_v rfl) ai)) e1) (aP (r_v rfl) (ao (r_v rfl) r_c (av rfl)) (fJ (by omega))) (jq _ _ _))
  show(∃j,(if fV l g k c then some k else bS l g (k+1) r)=some j/\forL s _ (.tup [.int (k:Int),aZ c]::num (k+1) (r.map aZ)) _ S=_)\/((if fV l g k c then some k else bS l g (k+1) r)=none/\∃σ',forL s _ (.tup [.int (k:Int),aZ c]::num (k+1) (r.map aZ)) _ S=_)
  cases q:fV l g k c with
  | true =>
   rw[q] at t1;exact .inl ⟨k,rfl,f6 hs (dI rfl (bw t1 (aB (r_v rfl))))⟩
  | false =>
   rw[q] at t1;have go:=dI (sub:=sub) (cf:=ah sub P (n+1)) (is:=[2,3]) (u:=n9) (ds:=[.int (k:Int),aZ c]) (σ:=[some l.toD,some (.int g),x2,x3]) (S:=S) rfl (aG t1 aH);rcases pL hc hl hg hs r (k+1) (some (.int (k:Int))) (some (aZ c)) (λi d hd=>by rw[show k+1+i=k+(i+1) by omega]; exact h (i+1) d (by simpa using hd)) with⟨j,h1,h2⟩|⟨h1,σ',h2⟩
   ·exact .inl ⟨j,h1,dh hs go h2⟩
   ·exact .inr ⟨h1,σ',dh hs go h2⟩
theorem wH(hc:HC0 P)(hl:l.WF){g:Int}(h1:1<=g)(h2:g<=200):ah sub P (n+7) "barring_crew" [l.toD,.int g] S=.ok (crD (bS l g 0 l.crews)) S:=by
 have hit:evI sub (ah sub P (n+6)) (.iEnum (.ix (.v 0) (.c (.int 1)))) [some l.toD,some (.int g),none,none] S=.ok ⟨num 0 (l.crews.map aZ),none,l.crews.map aZ⟩ S:=by
  rw[qh,ao (r_v rfl) r_c (av rfl),Res.aj]; rfl
 rcases pL (sub:=sub) (n:=n+5) (S:=S) hc hl (g:=g) ⟨by omega,by omega⟩ (s:=⟨num 0 (l.crews.map aZ),none,l.crews.map aZ⟩) rfl l.crews 0 none none (λi c e=>by rw[Xq]; exact e) with⟨j,e1,e2⟩|⟨e1,σ',e2⟩
 ·rw[e1];exact x_call (ds:=[l.toD,.int g]) hc.barring rfl (bO (bP hit e2)) (gm _ _)
 ·rw[e1];exact x_call (ds:=[l.toD,.int g]) hc.barring rfl (ak (bP hit e2) (aB r_c)) (bh rfl ZO)
theorem Dj(h:HB P)(hr:HR0 P)(hc:HC0 P)(hl:l.WF){g:Int}(h1:1<=g)(h2:g<=200):ah sub P (n+8) "crowd" [l.toD,.int g] S=.ok (crD (bS l g 0 l.crews)) S:=by
 have bc:=wH (sub:=sub) (n:=n) (S:=S) hc hl h1 h2;refine x_call (ds:=[l.toD,.int g]) hc.crowd rfl (ak (cU (ay (aa (r_v rfl) ai) (gX (n:=n) h hl))) (aB (ay (aa (r_v rfl) (aa (ay (aa (r_v rfl) ai) (uH (n:=n+5) h hr h1 h2)) ai)) bc))) ?_
 cases bS l g 0 l.crews with
 | none=>exact bh rfl ZO
 | some k=>exact gm _ _
end
end RL

namespace RL
open PySem EV GO WK
noncomputable def en(m:WB)(i j:Nat):Int:=(m.getD i []).getD j 0
set_option genInjectivity false in
structure Mx(n:Nat)(m:WB):Prop where
 len:m.length=n
 row:∀r∈m,r.length=n
 diag:∀i,i<n->en m i i=0
 tri:∀i j k,i<n->j<n->k<n->en m i j+en m j k<=en m i k
theorem getD_in{α:Type}{xs:List α}{i:Nat}{d:α}(h:i<xs.length):xs.getD i d∈xs:=by
 rw[Zj,Zb h]; exact Z3 h
theorem getD_map'{α β:Type}{xs:List α}{f:α->β}{i:Nat}{d:α}{e:β}(h:i<xs.length):(xs.map f).getD i e=f (xs.getD i d):=by
 rw[Zj,Zj,ZG,Zb h]; rfl
noncomputable def gz(b:Wx)(v:Int)(r:Wx):List Int:=List.zipWith (λx y=>max x (v+y)) r b
noncomputable def dX(m:WB)(a b:Nat)(d:Int):List (List Int):=m.map λr=>gz (m.getD b []) (r.getD a 0+d) r
theorem Mx.rl{n:Nat}{m:WB}(h:Mx n m){i:Nat}(hi:i<n):(m.getD i []).length=n:=h.row _ (getD_in (by rw[h.len]; exact hi))
theorem Jh{f:Int->Int->Int}{r b:Wx}{j:Nat}(h1:j<r.length)(h2:j<b.length):(List.zipWith f r b).getD j 0=f (r.getD j 0) (b.getD j 0):=by
 simp only[Zj,List.getElem?_zipWith,Zb h1,Zb h2]; rfl
theorem gZ{n:Nat}{m:WB}(h:Mx n m){i j a b:Nat}{d:Int}(hi:i<n)(hj:j<n)(hb:b<n):en (dX m a b d) i j=max (en m i j) (en m i a+d+en m b j):=by
 unfold en dX;rw[getD_map' (d:=[]) (by rw[h.len]; exact hi)];exact Jh (by rw[h.rl hi]; exact hj) (by rw[h.rl hb]; exact hj)
theorem Mx.far{n:Nat}{m:WB}(h:Mx n m){a b:Nat}{d:Int}(ha:a<n)(hb:b<n)(hd:d+en m b a<=0):Mx n (dX m a b d):=by
 refine⟨by unfold dX; rw[Zc,h.len],λr hr=>?_,λi hi=>?_,λi j k hi hj hk=>?_⟩
 ·obtain⟨q,hq,rfl⟩:=ZB.mp hr;unfold gz;rw[List.length_zipWith,h.row q hq,h.rl hb,Wu]
 ·rw[gZ h hi hi hb,h.diag i hi];have:=h.tri b i a hb hi ha;omega
 ·rw[gZ h hi hj hb,gZ h hj hk hb,gZ h hi hk hb];have h1:=h.tri i j k hi hj hk;have h2:=h.tri i j a hi hj ha;have h3:=h.tri b j k hb hj hk;have h4:=h.tri b j a hb hj ha;omega
noncomputable def unb(n:Nat):List (List Int):=(List.range n).map λi=>(List.replicate n (-100000)).set i 0
theorem k8{n i j:Nat}(hi:i<n)(hj:j<n):en (unb n) i j=if i=j then 0 else -100000:=by
 unfold en unb;rw[getD_map' (d:=0) (by rw[ZJ]; exact hi),Zj (l:=List.range n),Wg hi,Zj];show(((List.replicate n (-100000)).set i 0)[j]?).getD 0=_;rw[Wp]
 by_cases e:i=j
 ·subst e; simp[hi]
 ·simp[e,hj]
theorem Mx.unb(n:Nat):Mx n (unb n):=by
 refine⟨by unfold RL.unb; rw[Zc,ZJ],λr hr=>?_,λi hi=>by rw[k8 hi hi,Zf rfl],λi j k hi hj hk=>?_⟩
 ·obtain⟨i,_,rfl⟩:=ZB.mp hr;rw[Xr,Xw]
 ·rw[k8 hi hj,k8 hj hk,k8 hi hk];split<;>split<;>split<;>omega
noncomputable def dist(lg:Int->Int)(g:Int)(t:Nd):Int:=lg (nA t)-nC t*g
theorem along{lg:Int->Int}{g:Int}{st:List Nd}{n:Nat}{m:WB}(h:Mx n m)(hs:∀t∈st,(nA t).toNat<n/\(nB t).toNat<n/\dist lg g t<=en m (nA t).toNat (nB t).toNat):∀{w:Wlk},Walk st w->wt lg g w<=en m (fst w).toNat (lst w).toNat/\(lst w).toNat<n
 | [],hw=>absurd rfl hw.ne
 | [t],hw=>by
  obtain⟨_,h2,h3⟩:=hs t (hw.mem t Zk)
  have e:wt lg g [t]=dist lg g t:=by
   unfold wt dH dB dist;rw[Int.mul_comm (nC t)];simp
  exact⟨by rw[e]; exact h3,h2⟩
 | t::u::r,hw=>by
  obtain⟨h1,h2,h3⟩:=hs t (hw.mem t Zk);obtain⟨i1,i2⟩:=along h hs (w:=u::r) ⟨by simp,λx hx=>hw.mem x (Zm _ hx),hw.chn.2⟩;have e:wt lg g (t::u::r)=wt lg g [t]+wt lg g (u::r):=fR lg g [t] (u::r)
  have e2:wt lg g [t]=dist lg g t:=by
   unfold wt dH dB dist;rw[Int.mul_comm (nC t)];simp
  have e3:nB t=fst (u::r):=hw.chn.1;have:=h.tri (nA t).toNat (nB t).toNat (lst (u::r)).toNat h1 h2 i2;rw[e3] at this h3;refine⟨?_,i2⟩;rw[e,e2,oz];show _<=en m (nA t).toNat _;omega
theorem Ic{l:Lp}(hl:l.WF){g:Int}{w:Wlk}(hb:fk l g w){m:WB}(h:Mx l.works.length m)(hs:∀t∈aS l,dist (a_ l) g t<=en m (nA t).toNat (nB t).toNat):False:=by
 obtain⟨h1,h2⟩:=along h (λt ht=>by
  obtain⟨_,_,z1,_,z2,_⟩:=t_ (dG hl t ht);exact⟨z1,z2,hs t ht⟩) hb.walk
 have hc:fst w=lst w:=hb.closed;rw[hc,h.diag _ h2] at h1;have:=hb.pos;omega
theorem rA{l:Lp}{g:Nat}{pl:List Nat}{t:Nd}(hn:bT l t)(h1:0<=dQ l g pl t):wt (a_ l) (g:Int) [t]<=((pl.getD (nB t).toNat 0:Nat):Int)-((pl.getD (nA t).toNat 0:Nat):Int):=by
 obtain⟨x,i,b,rfl,_⟩:=hn;have h1:0<=cM l g pl x i b:=h1;unfold cM at h1;show(a_ l (x:Int)+0)-(g:Int)*((b:Int)+0)<=((pl.getD (i:Int).toNat 0:Nat):Int)-((pl.getD (x:Int).toNat 0:Nat):Int);unfold a_;rw[ZQ,ZQ,Int.add_zero,Int.add_zero,Int.mul_comm];omega
theorem wM{l:Lp}{g:Nat}{pl:List Nat}:∀{w:Wlk},w≠[]->Chn w->(∀t∈w,bT l t)->(∀t∈w,0<=dQ l g pl t)->wt (a_ l) (g:Int) w<=((pl.getD (lst w).toNat 0:Nat):Int)-((pl.getD (fst w).toNat 0:Nat):Int)
 | [],h,_,_,_=>absurd rfl h
 | [t],_,_,hn,hw=>rA (hn t Zk) (hw t Zk)
 | t::u::r,_,hc,hn,hw=>by
  have i1:=rA (hn t Zk) (hw t Zk);have i2:=wM (w:=u::r) (by simp) hc.2 (λx hx=>hn x (Zm _ hx)) (λx hx=>hw x (Zm _ hx));have e:wt (a_ l) (g:Int) (t::u::r)=wt (a_ l) g [t]+wt (a_ l) g (u::r):=fR _ _ [t] (u::r);have e1:nB t=fst (u::r):=hc.1;rw[e1] at i1;rw[e,oz];show _<=_-((pl.getD (nA t).toNat 0:Nat):Int);omega
theorem ud{l:Lp}(hl:l.WF){g:Nat}{w:Wlk}(hb:fk l (g:Int) w)(pl:List Nat):∃t∈w,dQ l g pl t<0:=by
 refine QJ λz=>?_
 have:=wM (g:=g) (pl:=pl) hb.walk.ne hb.walk.chn (λt ht=>dG hl t (hb.walk.mem t ht)) λt ht=>by
  refine QJ λq=>z ⟨t,ht,by omega⟩
 have hc:fst w=lst w:=hb.closed;rw[hc] at this;have:=hb.pos;omega
theorem HH{l:Lp}(hl:l.WF){g:Nat}{w:Wlk}(hb:fk l (g:Int) w)(pl:List Nat):cS l g pl≠.non:=by
 obtain⟨t,ht,hw⟩:=ud hl hb pl;unfold cS;split
 ·exact λz=>by cases z
 ·rename_i q;have:=List.find?_eq_none.mp q t (hb.walk.mem t ht);exact absurd (Zi hw) this
theorem Fe{xs:Wx}{r:Nat}(h:r<xs.length):(bump xs r).sum=xs.sum+1:=by
 unfold bump
 induction xs generalizing r with
 | nil=>cases h
 | cons x q ih =>
  cases r with
  | zero=>simp; omega
  | succ r =>
   have:=ih (r:=r) (by simpa using h);simp at this ⊢;omega
theorem sR{g b:Nat}{xs:Wx}(hg:0<g)(hx:xs.length=g):∀m,(bH g b m xs).sum=xs.sum+(m:Int)
 | 0=>by show xs.sum=_; omega
 | m+1=>by
  rw[jJ,Fe (by rw[iH,hx]; exact Qy _ hg),sR hg hx m]; omega
theorem mH{g k bz:Nat}(hg:0<g):∀(pl:List Nat) (ws:List Wk) (xs:Wx),pl.length=ws.length->xs.length=g->(b5 g k bz (pl.zip ws) xs).sum=xs.sum+(bz:Int)*((ws.filter λw=>w.crew==k).length:Int)
 | [],[],xs,_,_=>by show xs.sum=_+_*((0:Nat):Int); omega
 | p::pl,w::ws,xs,h,hx=>by
  have h':pl.length=ws.length:=by simpa using h
  show(b5 g k bz (pl.zip ws) (if w.crew=k then bH g p bz xs else xs)).sum=_
  by_cases e:w.crew=k
  ·rw[Zf e,mH hg pl ws _ h' (by rw[iH,hx]),sR hg hx,QV (by simpa using e),ZF,Int.natCast_add,Int.mul_add];omega
  ·rw[Zg e,mH hg pl ws _ h' hx,QU (by simpa using e)]
theorem vX{m:Int}:∀{xs:Wx},(∀x∈xs,x<=m)->xs.sum<=(xs.length:Int)*m
 | [],_=>by simp
 | x::r,h=>by
  have h1:=vX λy hy=>h y (Zm _ hy)
  have h2:=h x Zk;rw[List.sum_cons,ZF,Int.natCast_add,Int.add_mul];omega
theorem qL{m:Int}:∀{xs:Wx} {k:Nat},b9 m k xs=none->∀x∈xs,x<=m
 | [],_,_,_,h=>by cases h
 | y::r,k,e,x,h=>by
  unfold b9 at e;split at e
  ·cases e
  ·rcases Zt.mp h with rfl|h
   ·omega
   ·exact qL e x h
theorem rT{f:Nat->Option Nat}:∀{ks:List Nat},cH f ks=none->∀k∈ks,f k=none
 | [],_,_,h=>by cases h
 | j::r,e,k,h=>by
  unfold cH at e;split at e
  ·cases e
  ·rename_i q;rcases Zt.mp h with rfl|h
   ·exact q
   ·exact rT e k h
theorem Av{l:Lp}{g:Nat}(hg:0<g){j:Nat}(hf:bS l (g:Int) 0 l.crews=some j){pl:List Nat}(hp:pl.length=l.works.length):cS l g pl≠.non:=by
 obtain⟨i,c,e,hc,ho⟩:=xg hf;rw[Xq] at e;subst e;unfold cS;split
 ·exact λz=>by cases z
 ·split
  ·exact λz=>by cases z
  ·rename_i q;have hi:=(Zh.mp hc).1;have q:=rT q j (Z0.mpr hi);have ec:l.crews.getD j (0,0)=c:=by rw[Zj,hc]; rfl
   unfold cE at q;rw[ec] at q;have h1:=vX (qL q);rw[oN,Xw,mH hg pl l.works _ hp (Xw ..)] at h1;have h2:=Zs ho;unfold oH j_ at h2;have h3:(List.replicate g (0:Int)).sum=0:=by simp
   omega
end RL

namespace RL
open PySem EV GO WK
noncomputable def sy:EV.S:=.seq (.set (.one 6) (.bin .add (.ix (.v 5) (.v 1)) (.v 3)))
 (.ex (.me .append (.v 4) (.cs (.comp 3 (.bi .max (.cs (.v 8) (.cs (.bin .add (.v 6) (.v 9)) .nl))) (.many [8,9]) (.iZip (.cs (.v 5) (.cs (.ix (.v 0) (.v 2)) .nl))) .nl) .nl)))
noncomputable def l_:Fn:=⟨4,7,(.seq (.ite (.cmp .le (.v 3) (.ix (.ix (.v 0) (.v 1)) (.v 2)))
  (.ret (.v 0))
  .skip)
 (.seq (.ite (.cmp .gt (.bin .add (.v 3) (.ix (.ix (.v 0) (.v 2)) (.v 1))) (.c (.int 0)))
  (.ret (.c .non))
  .skip)
 (.seq (.set (.one 4) (.lst .nl))
 (.seq (.forS (.one 5) (.iSeq (.v 0)) sy)
 (.ret (.v 4))))))⟩
noncomputable def qK:EV.S:=.seq (.set (.one 3) (.bin .mul (.lst (.cs (.neg (.c (.int 100000))) .nl)) (.v 0)))
 (.seq (.setIx (.v 3) (.v 2) (.c (.int 0)))
 (.ex (.me .append (.v 1) (.cs (.v 3) .nl))))
noncomputable def mU:Fn:=⟨1,4,(.seq (.set (.one 1) (.lst .nl))
 (.seq (.forS (.one 2) (.iRng (.cs (.v 0) .nl)) qK)
 (.ret (.v 1))))⟩
abbrev Rw:=List Int×Nat
def AtR(T:af)(q:Rw):Prop:=T[q.2]?=some (.lst (q.1.map .int))
noncomputable def locs(Q:List Rw):List D:=Q.map λq=>.loc q.2
set_option genInjectivity false in
structure MAt(T:af)(k:Nat)(Q:List Rw):Prop where
 top:T[k]?=some (.lst (locs Q))
 row:∀q∈Q,AtR T q
theorem MAt.pre{T T':af}{k:Nat}{Q:List Rw}(h:MAt T k Q)(p:T<+:T'):MAt T' k Q:=⟨bF p h.top,λq hq=>bF p (h.row q hq)⟩
noncomputable def mOf(Q:List Rw):List (List Int):=Q.map (·.1)
set_option genInjectivity false in
structure fL(S T:af)(R:List Rw)(G:af):Prop where
 eq:T=S++.lst (locs R)::G
 row:∀q∈R,AtR T q/\S.length<q.2
section
variable{sub:Sub}{P:Prg}{N n k a b:Nat}{d:Int}{S T G:af}{Q R:List Rw}
theorem fL.push{X:af}{row:Wx}{p:Nat}(h:fL S T R G)(hp:(T++X)[p]?=some (.lst (row.map .int)))(hl:T.length<=p)(hz:R.length<=1000000) :
  ∃T',meD .append (.loc S.length) [.loc p] (T++X)=.ok .non T'/\fL S T' (R++[(row,p)]) (G++X):=by
 obtain⟨rfl,hr⟩:=h;have e:=mJ (l:=S.length) (ds:=locs R) (d:=.loc p) (S:=(S++.lst (locs R)::G)++X) (bF (Zn _ _) dg) (by unfold locs aM; rw[Zc]; omega);rw[Zu,ZF] at hl;refine⟨_,e,by rw[Zq,XA,jS]; unfold locs; rw[Z8]; rfl,λq hq=>?_⟩;rcases ZR.mp hq with hq|hq
 ·obtain⟨h1,h2⟩:=hr q hq;refine⟨?_,h2⟩;show(List.set _ _ _)[q.2]?=_;rw[ZZ (by omega)];exact bF (Zn _ _) h1
 ·rw[ZY.mp hq];refine⟨?_,by show S.length<p; omega⟩;show(List.set _ _ _)[p]?=_;rw[ZZ (by omega)];exact hp
theorem fL.out(h:fL S T R G)(hr:R≠[]):leave S (.loc S.length) T=.ok (.loc S.length) T/\S<+:T/\MAt T S.length R:=by
 obtain⟨rfl,hR⟩:=h;refine⟨?_,Zn _ _,dg,λq hq=>(hR q hq).1⟩;unfold leave;rw[Zf (bB _ _),Zg (by show ¬decide (S.length<S.length)=true; simp)];simp only[dg];rw[Zg];intro z;obtain⟨q,r,rfl⟩:=QE hr;have z:(decide (q.2<S.length)&&D.lows S.length (r.map λq=>.loc q.2))=true:=z;rw[ZA] at z;have:=Zs z.1;have:=(hR q Zk).2;omega
theorem Dd{x y:Int}:biD sub .max [.int x,.int y] T=.ok (.int (max x y)) T:=by
 show Res.ok (D.int (if y>x then y else x)) T=_
 by_cases h:y>x
 ·rw[Zf h,Int.max_eq_right (by omega)]
 ·rw[Zg h,Int.max_eq_left (by omega)]
theorem Es{x:D}{A:af}{g:Nat}(hg:g<=1000):opD .mul (.loc A.length) (.int (g:Int)) (A++[.lst [x]])=.ok (.loc (A++[Cell.lst [x]]).length) ((A++[.lst [x]])++[.lst (List.replicate g x)]):=by
 show aU A.length (λxs=>guard (decide (-(2^63)<=(g:Int))&&decide ((g:Int)<2^63)&&fits (xs.length*(g:Int).toNat)) (alloc (.lst (List.replicate (g:Int).toNat xs).flatten))) (A++[.lst [x]])=_;unfold aU;rw[aJ];have e1:decide (-(2^63)<=(g:Int))=true:=Zi (by omega);have e2:decide ((g:Int)<2^63)=true:=Zi (by omega);have e3:fits ([x].length*(g:Int).toNat)=true:=oZ (by rw[ZQ]; show 1*g<=1000; omega);simp only[e1,e2,e3,Wl];show alloc (.lst (List.replicate (g:Int).toNat [x]).flatten) (A++[.lst [x]])=_;rw[ZQ,List.flatten_replicate_singleton]; rfl
theorem Cv(hu:Has P "unbounded" mU)(h1:1<=n)(h2:n<=1000):∃T R,ah sub P (N+1) "unbounded" [.int (n:Int)] S=.ok (.loc S.length) T/\S<+:T/\MAt T S.length R/\mOf R=unb n:=by
 obtain⟨σ',T',e,x2,x3,R,G,rfl,hN,hR⟩:=dS (sub:=sub) (cf:=ah sub P N) (t:=.one 2) (it:=.iRng (.cs (.v 0) .nl)) (b:=qK) (σ:=[some (.int (n:Int)),some (.loc S.length),none,none]) (S:=S++[.lst []]) (S1:=S++[.lst []]) (s:=⟨(List.range n).map λ(i:Nat)=>.int (i:Int),none,[]⟩)
  (λi σ T=>∃x2 x3 R G,σ=[some (.int (n:Int)),some (.loc S.length),x2,x3]/\fL S T R G/\mOf R=(unb n).take i)
  (dM (aa (r_v rfl) ai) rfl (by omega) λ_=>rfl) ⟨none,none,[],[],rfl,⟨rfl,λ_ h=>by cases h⟩,rfl⟩ (λ_ _ _ _=>rfl) (λi hi σ T ⟨x2,x3,R,G,hσ,hN,hR⟩=>by
   subst hσ;have hi':i<n:=by simpa using hi
   have hit:((List.range n).map λ(i:Nat)=>D.int (i:Int))[i]'hi=.int (i:Int):=by simp
   show ∃σ' T',aK sub (ah sub P N) _ _ (((List.range n).map λ(i:Nat)=>D.int (i:Int))[i]'hi) _ _=_/\_;rw[hit]
   have hz:R.length<=1000000:=by
    have:=Xp List.length hR;unfold mOf unb at this;rw[Zc,Xz,Zc,ZJ] at this;omega
   obtain⟨T',eT,hN'⟩:=hN.push (X:=[.lst [.int (-100000)]]++[.lst (((List.replicate n (-100000:Int)).set i 0).map .int)]) (p:=(T++[Cell.lst [.int (-100000)]]).length) (by rw[<- Zq]; exact aJ _ _) (by rw[Zu]; omega) hz;rw[<- Zq,List.map_set,List.map_replicate] at eT
   have hL:(D.loc S.length).cQ (T++[Cell.lst [.int (-100000)]]++[.lst ((List.replicate n (D.int (-100000))).set i (.int 0))])=true:=by
    obtain⟨rfl,_⟩:=hN;exact gE (bF ((Zn _ _).trans (Zn _ _)) dg)
   refine⟨_,_,bW (ak (aE (aP (bV (aa (kD r_c) ai) rfl) (r_v rfl) (Es h2))) (ak (uJ r_c (r_v rfl) (r_v rfl) (sj (by rw[Xw]; exact hi'))) (cU (gg (l:=S.length) (r_v rfl) (aa (r_v rfl) ai) eT hL)))),some (.int (i:Int)),some (.loc (T++[Cell.lst [.int (-100000)]]).length),_,_,rfl,hN',?_⟩
   have hu:(unb n)[i]?=some ((List.replicate n (-100000)).set i 0):=by
    unfold unb;rw[ZG,Wg hi']; rfl
   rw[List.take_succ,<- hR,hu];exact Z8)
 have hl:(unb n).length=n:=by unfold unb; rw[Zc,ZJ]
 rw[Zc,ZJ,List.take_of_length_le (by omega)] at hR
 obtain⟨o1,o2,o3⟩:=hN.out (by
  intro z;rw[z] at hR;rw[<- hR] at hl;simp[mOf] at hl;omega)
 exact⟨T',R,x_call (ds:=[.int (n:Int)]) hu rfl (ak (aE (bV ai rfl)) (ak e (aB (r_v rfl)))) o1,o2,o3,hR⟩
theorem sJ(hm:Mx n (mOf Q))(ha:a<n):∃q∈Q,q.1=(mOf Q).getD a []/\∀{T:af} {k:Nat},MAt T k Q->ixD (.loc k) (.int (a:Int)) T=.ok (.loc q.2) T:=by
 have hl:=hm.len;unfold mOf at hl;rw[Zc] at hl;have hq:Q[a]?=some (Q[a]'(by omega)):=Zb _;refine⟨_,Z3 _,?_,λh=>gY h.top (gD (by unfold locs; rw[ZG,hq]; rfl))⟩;unfold mOf;rw[Zj,ZG,hq]; rfl
theorem uQ{q:Rw}(hq:AtR T q)(hb:b<q.1.length):ixD (.loc q.2) (.int (b:Int)) T=.ok (.int (q.1.getD b 0)) T :=
 gY hq (gD (by rw[ZG,Zj,Zb hb]; rfl))
theorem wo(h:MAt T k Q)(hm:Mx n (mOf Q))(ha:a<n)(hb:b<n){cf:Str->List D->M D}{σ:Sg}{x y z:Nat}(hx:bq σ x T=.ok (.loc k) T)(hy:bq σ y T=.ok (.int (a:Int)) T)(hz:bq σ z T=.ok (.int (b:Int)) T):ev sub cf (.ix (.ix (.v x) (.v y)) (.v z)) σ T=.ok (.int (en (mOf Q) a b)) T:=by
 obtain⟨q,hq,e,hr⟩:=sJ hm ha;have:=uQ (h.row q hq) (b:=b) (by rw[e,hm.rl ha]; exact hb);rw[e] at this;exact ao (ao (r_v hx) (r_v hy) (hr h)) (r_v hz) this
noncomputable def gF(v:Int):D->D
 | .tup [.int x,.int y]=>.int (max x (v+y))
 | d=>d
theorem uE(v:Int):∀xs ys:List Int,(bG (xs.map .int) (ys.map .int)).map (gF v)=(gz ys v xs).map .int
 | [],_=>rfl
 | _::_,[]=>rfl
 | x::xs,y::ys=>Xp (D.int (max x (v+y)) :: ·) (uE v xs ys)
theorem qY:∀xs ys:List D,(bG xs ys).length<=xs.length
 | [],_=>Zl _
 | _::_,[]=>Xj _
 | _::r,_::s=>Qz (qY r s)
theorem Bu{cf:Str->List D->M D}{q p:Rw}{v:Int}{x1 x3 x4:Option D}(hq:AtR T q)(hp:AtR T p)(hz:q.1.length<=1000)(hi:ixD (.loc k) (.int (b:Int)) T=.ok (.loc p.2) T) :
  ev sub cf (.comp 3 (.bi .max (.cs (.v 8) (.cs (.bin .add (.v 6) (.v 9)) .nl))) (.many [8,9]) (.iZip (.cs (.v 5) (.cs (.ix (.v 0) (.v 2)) .nl))) .nl) [some (.loc k),x1,some (.int (b:Int)),x3,x4,some (.loc q.2),some (.int v)] T=.ok (.loc T.length) (T++[.lst ((gz p.1 v q.1).map .int)]):=by
 have e0:evI sub cf (.iZip (.cs (.v 5) (.cs (.ix (.v 0) (.v 2)) .nl))) [some (.loc k),x1,some (.int (b:Int)),x3,x4,some (.loc q.2),some (.int v)] T=.ok (@Src.mk (bG (q.1.map .int) (p.1.map .int)) (some q.2) (q.1.map .int) ⟨some p.2,p.1.map .int⟩) T:=by
  rw[uw,aa (r_v (i:=5) rfl) (aa (ao (r_v (i:=0) rfl) (r_v (i:=2) rfl) hi) ai),Res.aj];exact(EV.aj (cL hq)).trans ((EV.aj (cL hp)).trans rfl)
 have:=t8 (sub:=sub) (cf:=cf) (k:=3) (el:=.bi .max (.cs (.v 8) (.cs (.bin .add (.v 6) (.v 9)) .nl))) (is:=[8,9]) (g:=gF v) e0 ((EV.aj (nG (.inr ⟨_,rfl,hq⟩))).trans (nG (.inr ⟨_,rfl,hp⟩))) (λd hd=>by
  have hd:d∈bG (q.1.map .int) (p.1.map .int):=hd;rw[zip_map] at hd;obtain⟨⟨x,y⟩,_,rfl⟩:=ZB.mp hd;exact⟨_,rfl,rfl,aO (aa (r_v rfl) (aa (aP (r_v rfl) (r_v rfl) (cg _ _ _)) ai)) Dd⟩) (by
  have:=qY (q.1.map .int) (p.1.map .int);rw[Zc] at this;show(bG _ _).length<=aM;unfold aM;omega)
 rw[this];show Res.ok _ (T++[.lst ((bG (q.1.map .int) (p.1.map .int)).map (gF v))])=_;rw[uE]
theorem xT(hf:Has P "farther" l_)(hM:MAt S k Q)(hm:Mx n (mOf Q))(ha:a<n)(hb:b<n)(hn:n<=1000) :
  ah sub P (N+1) "farther" [.loc k,.int (a:Int),.int (b:Int),.int d] S=.ok .non S \/
  ∃T k' Q',ah sub P (N+1) "farther" [.loc k,.int (a:Int),.int (b:Int),.int d] S=.ok (.loc k') T/\S<+:T/\MAt T k' Q'/\Mx n (mOf Q')/\(∀i j,i<n->j<n->en (mOf Q) i j<=en (mOf Q') i j)/\d<=en (mOf Q') a b:=by
 have c1:evT sub (ah sub P N) (.cmp .le (.v 3) (.ix (.ix (.v 0) (.v 1)) (.v 2))) [some (.loc k),some (.int (a:Int)),some (.int (b:Int)),some (.int d),none,none,none] S=.ok (decide (d<=en (mOf Q) a b)) S:=aT (aX (r_v rfl) (wo hM hm ha hb rfl rfl rfl) (jY _ _ _))
 by_cases h1:d<=en (mOf Q) a b
 ·rw[Zi h1] at c1;refine .inr ⟨S,k,Q,x_call (ds:=[.loc k,.int (a:Int),.int (b:Int),.int d]) hf rfl (bO (bw c1 (aB (r_v rfl)))) ?_,Z4 _,hM,hm,λi j _ _=>QH _,h1⟩;unfold leave;rw[Zf ZO,Zf (show(D.loc k).low S.length=true from Zi (Zh.mp hM.top).1)]
 ·rw[Zw h1] at c1;have c2:evT sub (ah sub P N) (.cmp .gt (.bin .add (.v 3) (.ix (.ix (.v 0) (.v 2)) (.v 1))) (.c (.int 0))) [some (.loc k),some (.int (a:Int)),some (.int (b:Int)),some (.int d),none,none,none] S=.ok (decide (0<d+en (mOf Q) b a)) S:=aT (aX (aP (r_v rfl) (wo hM hm hb ha rfl rfl rfl) (cg _ _ _)) r_c (jq _ _ _))
  by_cases h2:0<d+en (mOf Q) b a
  ·rw[Zi h2] at c2;exact .inl (x_call (ds:=[.loc k,.int (a:Int),.int (b:Int),.int d]) hf rfl (ak (aG c1 aH) (bO (bw c2 (aB r_c)))) (bh rfl ZO))
  ·rw[Zw h2] at c2;obtain⟨p,hp,ep,hpi⟩:=sJ hm hb;have hl:Q.length=n:=by have:=hm.len; unfold mOf at this; rw[Zc] at this; exact this
   obtain⟨σ',T',e,x5,x6,R,G,rfl,hN,hR⟩:=dS (sub:=sub) (cf:=ah sub P N) (t:=.one 5) (it:=.iSeq (.v 0)) (b:=sy) (σ:=[some (.loc k),some (.int (a:Int)),some (.int (b:Int)),some (.int d),some (.loc S.length),none,none]) (S:=S++[.lst []]) (S1:=S++[.lst []]) (s:=⟨locs Q,some k,locs Q⟩)
    (λi σ T=>∃x5 x6 R G,σ=[some (.loc k),some (.int (a:Int)),some (.int (b:Int)),some (.int d),some (.loc S.length),x5,x6]/\fL S T R G/\mOf R=(dX (mOf Q) a b d).take i)
    (ck (r_v rfl) (cL (bF (Zn _ _) hM.top))) ⟨none,none,[],[],rfl,⟨rfl,λ_ h=>by cases h⟩,rfl⟩ (λi σ T ⟨_,_,_,_,_,hN,_⟩=>by
     obtain⟨rfl,_⟩:=hN;exact d_ (.inr ⟨_,rfl,bF (Zn _ _) hM.top⟩)) (λi hi σ T ⟨x5,x6,R,G,hσ,hN,hR⟩=>by
     subst hσ;have hi':i<Q.length:=by simpa [locs] using hi
     have hit:(locs Q)[i]'hi=.loc (Q[i]).2:=XC _;show ∃σ' T',aK sub (ah sub P N) _ _ ((locs Q)[i]'hi) _ _=_/\_;rw[hit];have hpre:S<+:T:=by obtain⟨rfl,_⟩:=hN; exact Zn _ _
     have hM':=hM.pre hpre;have hq:=hM'.row _ (Z3 hi');have hql:(Q[i]).1.length=n:=hm.row _ (ZB.mpr ⟨_,Z3 hi',rfl⟩);have er:=Bu (sub:=sub) (cf:=ah sub P N) (T:=T) (k:=k) (b:=b) (q:=Q[i]) (p:=p) (v:=(Q[i]).1.getD a 0+d) (x1:=some (.int (a:Int))) (x3:=some (.int d)) (x4:=some (.loc S.length)) hq (hM'.row p hp) (by omega) (hpi hM')
     have hz:R.length<=1000000:=by
      have:=Xp List.length hR;unfold mOf at this;rw[Zc,Xz] at this;omega
     obtain⟨T',eT,hN'⟩:=hN.push (X:=[.lst ((gz p.1 ((Q[i]).1.getD a 0+d) (Q[i]).1).map .int)]) (p:=T.length) (aJ _ _) (Zl _) hz
     have hL:(D.loc S.length).cQ T=true:=by
      obtain⟨rfl,_⟩:=hN;exact gE dg
     refine⟨_,_,bW (ak (aE (aP (ao (r_v rfl) (r_v rfl) (uQ hq (by omega))) (r_v rfl) (cg _ _ _))) (cU (gg (l:=S.length) (r_v rfl) (aa er ai) eT hL))),some (.loc (Q[i]).2),some (.int ((Q[i]).1.getD a 0+d)),_,_,rfl,hN',?_⟩
     have hu:(dX (mOf Q) a b d)[i]?=some (gz p.1 ((Q[i]).1.getD a 0+d) (Q[i]).1):=by
      rw[ep];unfold dX mOf;rw[ZG,ZG,Zb hi']; rfl
     rw[List.take_succ,<- hR,hu];exact Z8)
   have hfl:(dX (mOf Q) a b d).length=n:=by unfold dX mOf; rw[Zc,Zc,hl]
   have hln:(locs Q).length=n:=by unfold locs; rw[Zc,hl]
   have hR:mOf R=dX (mOf Q) a b d:=by rw[hR]; exact List.take_of_length_le (by rw[hfl]; exact Nat.le_of_eq hln.symm)
   obtain⟨o1,o2,o3⟩:=hN.out (by
    intro z;rw[z] at hR;rw[<- hR] at hfl;simp[mOf] at hfl;omega)
   refine .inr ⟨T',S.length,R,x_call (ds:=[.loc k,.int (a:Int),.int (b:Int),.int d]) hf rfl (ak (aG c1 aH) (ak (aG c2 aH) (ak (aE (bV ai rfl)) (ak e (aB (r_v rfl)))))) o1,o2,o3,by rw[hR]; exact hm.far ha hb (by omega),λi j hi hj=>?_,?_⟩
   ·rw[hR,gZ hm hi hj hb]; omega
   ·rw[hR,gZ hm ha hb hb,hm.diag a ha,hm.diag b hb]; omega
end
end RL

namespace RL
open PySem EV GO WK
noncomputable def kZ:EV.S:=.seq (.set (.one 2) (.call "farther" (.cs (.v 2) (.cs (.v 3) (.cs (.v 4) (.cs (.bin .sub (.ix (.ix (.ix (.v 0) (.c (.int 2))) (.v 3)) (.c (.int 1))) (.bin .mul (.v 5) (.v 1))) .nl))))))
 (.ite (.isN (.v 2))
  (.ret (.c .non))
  .skip)
noncomputable def uU:Fn:=⟨2,6,(.seq (.set (.one 2) (.call "unbounded" (.cs (.bi .len (.cs (.ix (.v 0) (.c (.int 2))) .nl)) .nl)))
 (.seq (.forS (.many [3,4,5]) (.iSeq (.call "needs" (.cs (.v 0) .nl))) kZ)
 (.ret (.v 2))))⟩
noncomputable def vY:Fn:=⟨2,5,(.seq (.set (.one 2) (.call "plainly" (.cs (.v 0) .nl)))
 (.seq (.ite (.cmp .ge (.v 1) (.ix (.v 2) (.c (.int 0))))
  (.ret (.ix (.v 2) (.c (.int 1))))
  .skip)
 (.seq (.set (.one 3) (.call "apart_by_needs" (.cs (.v 0) (.cs (.v 1) .nl))))
 (.seq (.ite (.or (.isN (.v 3)) (.notN (.call "barring_crew" (.cs (.v 0) (.cs (.v 1) .nl)))))
  (.ret (.c .non))
  .skip)
 .bot))))⟩
noncomputable def qO:Fn:=⟨2,2,(.seq (.ex (.call "checked" (.cs (.v 0) .nl)))
 (.ret (.call "found_plan" (.cs (.v 0) (.cs (.call "checked_gap" (.cs (.v 1) .nl)) .nl)))))⟩
set_option genInjectivity false in
structure HS(P:Prg):Prop where
 far:Has P "farther" l_
 unb:Has P "unbounded" mU
 apart:Has P "apart_by_needs" uU
 found:Has P "found_plan" vY
 aplan:Has P "a_plan" qO
 plainly:Has P "plainly" o9
section
variable{sub:Sub}{P:Prg}{n:Nat}{S T:af}{l:Lp}{g:Int}
theorem cN{cf:Str->List D->M D}{σ:Sg}{a:E}{x:D}{S S1:af}(h:ev sub cf a σ S=.ok x S1):evT sub cf (.isN a) σ S=.ok (decide (x=.non)) S1:=by rw[FD,h]; rfl
theorem sN(hs:HS P)(h8:l.works.length<=8){S0:af}{s:Src}(hst:∀T,S0<+:T->aF s T=.ok () T):∀(ts:List Nd) (T:af) (k:Nat) (Q:List Rw) (x3 x4 x5:Option D),(∀t∈ts,bT l t)->S0<+:T->MAt T k Q->Mx l.works.length (mOf Q) ->
  (∃T',forL s (aK sub (ah sub P (n+1)) (.many [3,4,5]) kZ) (ts.map tupI) [some l.toD,some (.int g),some (.loc k),x3,x4,x5] T=.ok (.rt .non) T'/\S0<+:T') \/
  ∃T' k' Q' y3 y4 y5,forL s (aK sub (ah sub P (n+1)) (.many [3,4,5]) kZ) (ts.map tupI) [some l.toD,some (.int g),some (.loc k),x3,x4,x5] T=.ok (.nx [some l.toD,some (.int g),some (.loc k'),y3,y4,y5]) T'/\S0<+:T'/\Mx l.works.length (mOf Q')/\(∀i j,i<l.works.length->j<l.works.length->en (mOf Q) i j<=en (mOf Q') i j)/\∀t∈ts,dist (a_ l) g t<=en (mOf Q') (nA t).toNat (nB t).toNat
 | [],T,k,Q,x3,x4,x5,_,hT,hM,hm=>.inr ⟨T,k,Q,x3,x4,x5,gk (hst T hT),hT,hm,λi j _ _=>QH _,λ_ h=>by cases h⟩
 | t::ts,T,k,Q,x3,x4,x5,hn,hT,hM,hm=>by
  obtain⟨x,i,b,rfl,hx,hi,hb,_⟩:=hn t Zk
  have ed:ev sub (ah sub P (n+1)) (.bin .sub (.ix (.ix (.ix (.v 0) (.c (.int 2))) (.v 3)) (.c (.int 1))) (.bin .mul (.v 5) (.v 1))) [some l.toD,some (.int g),some (.loc k),some (.int (x:Int)),some (.int (i:Int)),some (.int (b:Int))] T=.ok (.int (dist (a_ l) g [(x:Int),(i:Int),(b:Int)])) T :=
   aP (ao (ao (ao (r_v rfl) r_c (av rfl)) (r_v rfl) (av (jR hx))) r_c (av rfl)) (aP (r_v rfl) (r_v rfl) (fJ (by omega))) (eY _ _ _)
  rcases xT (sub:=sub) (N:=n) (d:=dist (a_ l) g [(x:Int),(i:Int),(b:Int)]) hs.far hM hm hx hi (by omega) with e|⟨T1,k1,Q1,e,p1,hM1,hm1,hle,hd⟩
  ·have es:=aE (sub:=sub) (cf:=ah sub P (n+1)) (i:=2) (ay (f:="farther") (aa (r_v (i:=2) rfl) (aa (r_v (i:=3) rfl) (aa (r_v (i:=4) rfl) (aa ed ai)))) e);exact .inl ⟨T,f6 (hst T hT) (dI rfl (ak es (bw (t_k (cN (x:=.non) (r_v rfl)) rfl) (aB r_c)))),hT⟩
  ·have es:=aE (sub:=sub) (cf:=ah sub P (n+1)) (i:=2) (ay (f:="farther") (aa (r_v (i:=2) rfl) (aa (r_v (i:=3) rfl) (aa (r_v (i:=4) rfl) (aa ed ai)))) e);have go:=dI (sub:=sub) (cf:=ah sub P (n+1)) (is:=[3,4,5]) (u:=kZ) (ds:=[.int (x:Int),.int (i:Int),.int (b:Int)]) (σ:=[some l.toD,some (.int g),some (.loc k),x3,x4,x5]) (S:=T) rfl (ak es (aG (t_k (cN (x:=.loc k1) (r_v rfl)) rfl) aH));rcases sN hs h8 hst ts T1 k1 Q1 (some (.int (x:Int))) (some (.int (i:Int))) (some (.int (b:Int))) (λu hu=>hn u (Zm _ hu)) (hT.trans p1) hM1 hm1 with⟨T',e2,p2⟩|⟨T',k',Q',y3,y4,y5,e2,p2,hm2,hle2,hd2⟩
   ·exact .inl ⟨T',dh (hst T hT) go e2,p2⟩
   ·refine .inr ⟨T',k',Q',y3,y4,y5,dh (hst T hT) go e2,p2,hm2,λa c ha hc=>Int.le_trans (hle a c ha hc) (hle2 a c ha hc),λu hu=>?_⟩;rcases Zt.mp hu with rfl|hu
    ·exact Int.le_trans hd (hle2 x i hx hi)
    ·exact hd2 u hu
theorem Ii{k:Nat}(hp:S<+:T):∃j T',leave S (.loc k) T=.ok (.loc j) T'/\S<+:T':=by
 obtain⟨G,rfl⟩:=hp;unfold leave;rw[Zf (bB _ _)]
 by_cases z:(D.loc k).low S.length=true
 ·rw[Zf z]; exact⟨_,_,rfl,Z4 _⟩
 ·rw[Zg z]
  cases q:(S++G)[k]? with
  | none=>exact⟨k,S++G,by simp only[q],Zn _ _⟩
  | some c =>
   by_cases y:c.low S.length=true
   ·exact⟨S.length,S++[c],by simp only[q,Zf y],Zn _ _⟩
   ·exact⟨k,S++G,by simp only[q,Zg y],Zn _ _⟩
theorem Fi(h:HB P)(hn:Has P "needs" fS)(hs:HS P)(hl:l.WF)(h6:l.works.length<=6) :
  ah sub P (n+9) "apart_by_needs" [l.toD,.int g] S=.ok .non S \/
  (∀w,¬fk l g w)/\∃k T,ah sub P (n+9) "apart_by_needs" [l.toD,.int g] S=.ok (.loc k) T/\S<+:T:=by
 obtain⟨T,R,e1,p1,hM,hR⟩:=Cv (sub:=sub) (N:=n+7) (S:=S) hs.unb hl.nworks.1 (by omega);have e2:=n5 (sub:=sub) (n:=n) (S:=T) h hn hl h6;have p2:T<+:T++[.lst ((aS l).map tupI)]:=Zn _ _;have hm:Mx l.works.length (mOf R):=by rw[hR]; exact Mx.unb _
 have s1:exec sub (ah sub P (n+8)) (.set (.one 2) (.call "unbounded" (.cs (.bi .len (.cs (.ix (.v 0) (.c (.int 2))) .nl)) .nl))) [some l.toD,some (.int g),none,none,none,none] S=.ok (.nx [some l.toD,some (.int g),some (.loc S.length),none,none,none]) T :=
  aE (ay (aa (aO (aa (ao (r_v rfl) r_c (av rfl)) ai) (by rw[dw,Zc])) ai) e1)
 have hi:evI sub (ah sub P (n+8)) (.iSeq (.call "needs" (.cs (.v 0) .nl))) [some l.toD,some (.int g),some (.loc S.length),none,none,none] T=.ok ⟨(aS l).map tupI,some T.length,(aS l).map tupI⟩ (T++[.lst ((aS l).map tupI)]) :=
  ck (ay (aa (r_v rfl) ai) e2) (cL (aJ _ _))
 rcases sN (sub:=sub) (n:=n+7) (g:=g) hs (by omega) (S0:=T++[.lst ((aS l).map tupI)]) (s:=⟨(aS l).map tupI,some T.length,(aS l).map tupI⟩) (λT' hT=>d_ (.inr ⟨_,rfl,bF hT (aJ _ _)⟩)) (aS l) _ S.length R none none none (dG hl) (Z4 _) (hM.pre p2) hm with⟨T',e3,p3⟩|⟨T',k',Q',y3,y4,y5,e3,p3,hm3,_,hd⟩
 ·refine .inl (x_call (ds:=[l.toD,.int g]) hs.apart rfl (ak s1 (bO (bP hi e3))) (bh rfl ?_));obtain⟨G,rfl⟩:=(p1.trans p2).trans p3;exact bB _ _
 ·obtain⟨j,T2,e4,p4⟩:=Ii (k:=k') ((p1.trans p2).trans p3);exact .inr ⟨λw hb=>Ic hl hb hm3 hd,j,T2,x_call (ds:=[l.toD,.int g]) hs.apart rfl (ak s1 (ak (bP hi e3) (aB (r_v rfl)))) e4,p4⟩
def iP(l:Lp)(g:Nat):Prop:=(∃w,fk l (g:Int) w)\/∃j,bS l (g:Int) 0 l.crews=some j
theorem iP.fault{g:Nat}(hl:l.WF)(hg:1<=g)(h:iP l g){pl:List Nat}(hp:pl.length=l.works.length):cS l g pl≠.non:=by
 rcases h with⟨w,hb⟩|⟨j,hj⟩
 ·exact HH hl hb pl
 ·exact Av hg hj hp
theorem Hq(h:HB P)(hp:HP P)(hc:HC0 P)(hs:HS P)(hl:l.WF)(h6:l.works.length<=6){g:Nat}(h1:1<=g)(h2:g<=200)(hb:iP l g):ah sub P (n+11) "a_plan" [l.toD,.int (g:Int)] S=.ok .non S:=by
 have hlt:¬(cC l 0 l.works:Nat)<=g:=λz=>hb.fault hl h1 (kO l l.works 0) (Er hl z)
 have e1:=yS (sub:=sub) (n:=n+1) (S:=S) h hs.plainly hl
 have c1:evT sub (ah sub P (n+9)) (.cmp .ge (.v 1) (.ix (.v 2) (.c (.int 0)))) [some l.toD,some (.int (g:Int)),some (.tup [.int ((cC l 0 l.works:Nat):Int),.tup ((bu l 0 l.works).map au)]),none,none] S=.ok false S:=by
  have:=aT (sub:=sub) (cf:=ah sub P (n+9)) (σ:=[some l.toD,some (.int (g:Int)),some (.tup [.int ((cC l 0 l.works:Nat):Int),.tup ((bu l 0 l.works).map au)]),none,none]) (S:=S) (aX (o:=.ge) (r_v (i:=1) rfl) (ao (r_v (i:=2) rfl) (r_c (d:=.int 0)) (av rfl)) (nM _ _ _));rw[Zw (by omega)] at this;exact this
 have fp:ah sub P (n+10) "found_plan" [l.toD,.int (g:Int)] S=.ok .non S:=by
  rcases Fi (sub:=sub) (n:=n) (S:=S) (g:=(g:Int)) h hp.needs hs hl h6 with e2|⟨hno,k,T,e2,p2⟩
  ·exact x_call (ds:=[l.toD,.int (g:Int)]) hs.found rfl (ak (aE (ay (aa (r_v rfl) ai) e1)) (ak (aG c1 aH) (ak (aE (ay (aa (r_v rfl) (aa (r_v rfl) ai)) e2)) (bO (bw (lZ (t_k (cN (x:=.non) (r_v rfl)) rfl)) (aB r_c)))))) (bh rfl ZO)
  ·obtain⟨j,hj⟩:=hb.resolve_left λ⟨w,hw⟩=>hno w hw
   have e3:=wH (sub:=sub) (n:=n+2) (S:=T) hc hl (g:=(g:Int)) (by omega) (by omega);rw[hj] at e3;refine x_call (ds:=[l.toD,.int (g:Int)]) hs.found rfl (ak (aE (ay (aa (r_v rfl) ai) e1)) (ak (aG c1 aH) (ak (aE (ay (aa (r_v rfl) (aa (r_v rfl) ai)) e2)) (bO (bw (cP (t_k (cN (x:=.loc k) (r_v rfl)) rfl) (t_k (fC (x:=.int (j:Int)) (ay (aa (r_v rfl) (aa (r_v rfl) ai)) e3)) rfl)) (aB r_c)))))) (bh rfl ?_);obtain⟨G,rfl⟩:=p2;exact bB _ _
 exact x_call (ds:=[l.toD,.int (g:Int)]) hs.aplan rfl (ak (cU (ay (aa (r_v rfl) ai) (gX (n:=n+3) h hl))) (aB (ay (aa (r_v rfl) (aa (ay (aa (r_v rfl) ai) (pX (n:=n+8) h hp h1 h2)) ai)) fp))) (bh rfl ZO)
end
end RL

namespace K09
open PySem EV RL GO WK
noncomputable def nO:Fn:=⟨4,4,(.ret (.bi .tuple (.cs (.comp 2 (.call "_law_mixed" (.cs (.v 0) (.cs (.bin .add (.v 1) (.v 5)) (.cs (.v 3) .nl)))) (.one 5) (.iRng (.cs (.v 2) .nl)) .nl) .nl)))⟩
noncomputable def nH:EV.S:=.seq (.set (.one 11) (.bin .add (.ix (.v 6) (.v 8)) (.ix (.ix (.ix (.v 1) (.c (.int 2))) (.v 8)) (.c (.int 1)))))
 (.ex (.me .append (.v 7) (.cs (.cmp .ge (.bin .add (.ix (.v 6) (.v 9)) (.bin .mul (.v 10) (.v 2))) (.v 11)) .nl)))
noncomputable def kh:EV.S:=.seq (.set (.one 6) (.call "_law_plan" (.cs (.v 0) (.cs (.bin .mul (.c (.int 9)) (.v 5)) (.cs (.bi .len (.cs (.ix (.v 1) (.c (.int 2))) .nl)) (.cs (.c (.int 40)) .nl))))))
 (.seq (.ite (.isN (.call "wrong" (.cs (.v 1) (.cs (.v 2) (.cs (.v 6) .nl)))))
  (.ret (.c (.bl false)))
  .skip)
 (.ite (.notN (.v 3))
  (.seq (.set (.one 7) (.lst .nl))
 (.seq (.forS (.many [8,9,10]) (.iSeq (.v 3))
  nH)
 (.ite (.cmp .cW (.c (.bl false)) (.v 7))
  (.ret (.c (.bl false)))
  .skip)))
  .skip))
noncomputable def qW:Fn:=⟨1,12,(.seq (.set (.one 1) (.call "_law_loop" (.cs (.v 0) (.cs (.c (.int 8)) (.cs (.c (.int 4)) .nl)))))
 (.seq (.set (.one 2) (.bin .add (.c (.int 1)) (.call "_law_mixed" (.cs (.v 0) (.cs (.c (.int 0)) (.cs (.c (.int 9)) .nl))))))
 (.seq (.set (.one 3) (.call "ring" (.cs (.v 1) (.cs (.v 2) .nl))))
 (.seq (.set (.one 4) (.call "crowd" (.cs (.v 1) (.cs (.v 2) .nl))))
 (.seq (.ite (.and (.isN (.v 3)) (.isN (.v 4)))
  (.ret (.c (.bl true)))
  .skip)
 (.seq (.ite (.notN (.call "a_plan" (.cs (.v 1) (.cs (.v 2) .nl))))
  (.ret (.c (.bl false)))
  .skip)
 (.seq (.forS (.one 5) (.iRng (.cs (.c (.int 6)) .nl))
  kh)
 (.ret (.c (.bl true))))))))))⟩
noncomputable def Pd:Prg:=[(("is_whole" : Str),oq),(("is_value" : Str),t9),(("is_row" : Str),jV),(("is_crew" : Str),v_),(("are_crews" : Str),sY),(("is_work_source" : Str),wV),(("is_source" : Str),qR),(("are_starts" : Str),sZ),(("is_work" : Str),tE),(("are_works" : Str),wu),(("are_outs" : Str),uz),(("is_loop" : Str),uW),(("checked" : Str),uO),(("needs" : Str),fS),(("checked_gap" : Str),nS),(("is_plan" : Str),rV),(("checked_plan" : Str),wU),(("waiting" : Str),iy),(("busy_machines" : Str),g7),(("crowded_rest" : Str),iY),(("fault" : Str),lS),(("wrong" : Str),vC),(("plainly" : Str),o9),(("longs_of" : Str),sV),(("backs_of" : Str),rB),(("surplus" : Str),pH),(("longest_walks" : Str),v8),(("lengthened" : Str),kY),(("barring_ring" : Str),mS),(("ring" : Str),nD),(("crew_times" : Str),qp),(("barring_crew" : Str),uL),(("crowd" : Str),qo),(("farther" : Str),l_),(("unbounded" : Str),mU),(("apart_by_needs" : Str),uU),(("found_plan" : Str),vY),(("a_plan" : Str),qO),(("_law_cell_at" : Str),vD),(("_law_mixed" : Str),qc),(("_law_source" : Str),uG),(("_law_work" : Str),vd),(("_law_loop" : Str),uo),(("_law_plan" : Str),nO),(("law" : Str),qW)]
theorem hB:HB Pd:=⟨rfl,rfl,rfl,rfl,rfl,rfl,rfl,rfl,rfl,rfl,rfl,rfl,rfl⟩
theorem hG:HG Pd:=⟨rfl,rfl,rfl,rfl,rfl⟩
theorem hH:HP Pd:=⟨rfl,rfl,rfl,rfl,rfl,rfl,rfl,rfl,rfl⟩
theorem hW:HW Pd:=⟨rfl,rfl,rfl,rfl,rfl⟩
theorem hR0:HR0 Pd:=⟨rfl,rfl,rfl,hW⟩
theorem hC:HC0 Pd:=⟨rfl,rfl,rfl⟩
theorem hS:HS Pd:=⟨rfl,rfl,rfl,rfl,rfl,rfl⟩
noncomputable def fK(mx:List Int->Int->Int->Int)(ns:Wx)(at':Int)(many:Nat)(top:Int):List Nat:=(List.range many).map λ(k:Nat)=>(mx ns (at' + (k:Int)) top).toNat
section
variable{sub:Sub}{P:Prg}{n:Nat}{S:af}{mx:List Int->Int->Int->Int}
theorem Eh(M:Mix P mx)(hp:Has P "_law_plan" nO)(ns:Wx){at' top:Int}{many:Nat}(hat:0<=at')(ht:0<top)(hm:many<=1000) :
  ah sub P (n+3) "_law_plan" [.fro (ns.map .int),.int at',.int (many:Int),.int top] S=.ok (.tup ((fK mx ns at' many top).map au)) S:=by
 have hc:=kX (sub:=sub) (cf:=ah sub P (n+2)) (σ:=[some (.fro (ns.map .int)),some (.int at'),some (.int (many:Int)),some (.int top)]) (S:=S) (S1:=S) (k:=2) (i:=5) (el:=.call "_law_mixed" (.cs (.v 0) (.cs (.bin .add (.v 1) (.v 5)) (.cs (.v 3) .nl)))) (it:=.iRng (.cs (.v 2) .nl))
  (ks:=List.range many) (f:=au) (g:=λk=>.int (mx ns (at' + (k:Int)) top)) (o:=none) (raw:=[]) (dM (aa (r_v rfl) ai) rfl (by omega) λ_=>rfl) rfl
  (λk _=>ay (aa (r_v rfl) (aa (aP (r_v rfl) (r_v rfl) (cg _ _ _)) (aa (r_v rfl) ai))) (M.ok ns (by omega) ht)) (by rw[ZJ]; unfold aM; omega)
 have e:((List.range many).map λ(k:Nat)=>D.int (mx ns (at' + (k:Int)) top))=(fK mx ns at' many top).map au:=by
  unfold fK;rw[Xl];refine List.map_congr_left λk _=>?_
  show _=D.int (((mx ns (at' + (k:Int)) top).toNat:Nat):Int);rw[toNat_cast (M.rng ns _ ht).1]
 rw[e] at hc;exact x_call (ds:=[.fro (ns.map .int),.int at',.int (many:Int),.int top]) hp rfl (aB (aO (aa hc ai) j6)) (bh (l0 _) (bB _ _))
end
theorem su{S:af}:∀{bs:List Bool},false∈bs->inL S (.bl false) (bs.map .bl)=some true
 | b::r,h=>by
  have hs:∃k,inL S (.bl false) (r.map .bl)=some k:=by
   clear h
   induction r with
   | nil=>exact⟨_,rfl⟩
   | cons c r ih =>
    obtain⟨k,e⟩:=ih;refine⟨(c==false)||k,?_⟩;show(match eqD deep S (.bl c) (.bl false),inL S (.bl false) (r.map .bl) with|some a,some b=>some (a||b)|_,_=>none)=_;rw[e]; rfl
  show(match eqD deep S (.bl b) (.bl false),inL S (.bl false) (r.map .bl) with|some a,some b=>some (a||b)|_,_=>none)=_
  cases b with
  | false =>
   obtain⟨k,e⟩:=hs;rw[e]; rfl
  | true =>
   rcases Zt.mp h with h|h
   ·cases h
   ·rw[su h]; rfl
theorem HK{T:af}{k:Nat}{bs:List Bool}(hk:T[k]?=some (.lst (bs.map .bl)))(h:false∈bs):cmD .cW (.bl false) (.loc k) T=.ok (.bl false) T:=by
 show(items (.loc k)>>=λys=>inA true (.bl false) ys) T=_;rw[az,fH hk];simp only[Res.aj];unfold inA;rw[su h]; rfl
variable{sub:Sub}{n:Nat}{l:Lp}
noncomputable def kept(l:Lp)(g:Nat)(pl:List Nat)(t:Nd):Bool:=decide (0<=dQ l g pl t)
theorem zx{cf:Str->List D->M D}{g m:Nat}{w:Wlk}{U:af}{pl:List Nat}{x0 x3 x4 x5 x8 x9 x10 x11:Option D}(hw:∀t∈w,bT l t)(hpl:pl.length=l.works.length)(hm:AtW U (w,m))(hz:w.length<=1000) :
  ∃y8 y9 y10 y11,exec sub cf (.forS (.many [8,9,10]) (.iSeq (.v 3)) nH) [x0,some l.toD,some (.int (g:Int)),some (.loc m),x4,x5,some (.tup (pl.map au)),some (.loc U.length),x8,x9,x10,x11] (U++[.lst []]) =
   .ok (.nx [x0,some l.toD,some (.int (g:Int)),some (.loc m),x4,x5,some (.tup (pl.map au)),some (.loc U.length),y8,y9,y10,y11]) (U++[.lst ((w.map (kept l g pl)).map .bl)]):=by
 obtain⟨σ',T',e,y8,y9,y10,y11,rfl,rfl⟩:=dS (sub:=sub) (cf:=cf) (t:=.many [8,9,10]) (it:=.iSeq (.v 3)) (b:=nH)
  (σ:=[x0,some l.toD,some (.int (g:Int)),some (.loc m),x4,x5,some (.tup (pl.map au)),some (.loc U.length),x8,x9,x10,x11]) (S:=U++[.lst []]) (S1:=U++[.lst []]) (s:=⟨w.map tupI,some m,w.map tupI⟩)
  (λi σ T=>∃y8 y9 y10 y11,σ=[x0,some l.toD,some (.int (g:Int)),some (.loc m),x4,x5,some (.tup (pl.map au)),some (.loc U.length),y8,y9,y10,y11]/\T=U++[.lst (((w.take i).map (kept l g pl)).map .bl)])
  (ck (r_v rfl) (cL (bF (Zn _ _) hm))) ⟨x8,x9,x10,x11,rfl,rfl⟩ (λi σ T ⟨_,_,_,_,_,hT⟩=>by subst hT; exact d_ (.inr ⟨_,rfl,bF (Zn _ _) hm⟩)) (λi hi σ T ⟨y8,y9,y10,y11,hσ,hT⟩=>by
   subst hσ; subst hT;have hi':i<w.length:=by simpa using hi
   have hit:(w.map tupI)[i]'hi=tupI w[i]:=XC _;show ∃σ' T',aK sub cf _ _ ((w.map tupI)[i]'hi) _ _=_/\_;rw[hit,XN hi'];generalize hw':w[i]=t;obtain⟨x,j,b,rfl,hx,hj,hb,_⟩:=hw t (by rw[<- hw']; exact Z3 _);have hz':(((w.take i).map (kept l g pl)).map D.bl).length<=1000000:=by rw[Zc,Zc,Xz]; omega
   have ek:decide ((((pl.getD x 0:Nat):Int)+(((l.works.getD x ⟨0,0,"",[],[]⟩).long:Nat):Int))<=((pl.getD j 0:Nat):Int)+(b:Int)*(g:Int))=kept l g pl [(x:Int),(j:Int),(b:Int)]:=by
    show _=decide (0<=cM l g pl x j b);unfold cM;exact decide_eq_decide.mpr (by omega)
   have ec:=aX (sub:=sub) (cf:=cf) (o:=.ge) (σ:=[x0,some l.toD,some (.int (g:Int)),some (.loc m),x4,x5,some (.tup (pl.map au)),some (.loc U.length),some (.int (x:Int)),some (.int (j:Int)),some (.int (b:Int)),some (.int (((pl.getD x 0:Nat):Int)+(((l.works.getD x ⟨0,0,"",[],[]⟩).long:Nat):Int)))]) (S:=U++[.lst (((w.take i).map (kept l g pl)).map .bl)])
    (aP (o:=.add) (ao (r_v (i:=6) rfl) (r_v (i:=9) rfl) (av (kJ (by omega)))) (aP (o:=.mul) (r_v (i:=10) rfl) (r_v (i:=2) rfl) (fJ (by omega))) (cg _ _ _)) (r_v (i:=11) rfl) (nM _ _ _)
   rw[ek] at ec;refine⟨_,_,dI rfl (ak (aE (aP (ao (r_v rfl) (r_v rfl) (av (kJ (by omega)))) (ao (ao (ao (r_v rfl) r_c (av rfl)) (r_v rfl) (av (jR hx))) r_c (av rfl)) (cg _ _ _))) (cU (gg (l:=U.length) (r_v rfl) (aa ec ai) (rq hz') (u7 _ _)))),_,_,_,_,rfl,?_⟩;rw[Z8,Z8]; rfl)
 rw[Zc,ZO] at e;exact⟨_,_,_,_,e⟩
def tD(l:Lp)(g:Int)(d:D)(T:af):Prop:=d=.non\/∃m w,d=.loc m/\AtW T (w,m)/\fk l g w
theorem turns{mx:List Int->Int->Int->Int}(M:Mix Pd mx)(ns:Wx)(hl:l.WF)(h6:l.works.length<=6){rd x4:D}{g:Nat}{T:af}(h1:1<=g)(h2:g<=200)(hrd:tD l (g:Int) rd T)(hb:iP l g) :
  ∃σ' U,exec sub (ah sub Pd (n+10)) (.forS (.one 5) (.iRng (.cs (.c (.int 6)) .nl)) kh)
   [some (.fro (ns.map .int)),some l.toD,some (.int (g:Int)),some rd,some x4,none,none,none,none,none,none,none] T=.ok (.nx σ') U:=by
 obtain⟨σ',U,e,_⟩:=dS (sub:=sub) (cf:=ah sub Pd (n+10)) (t:=.one 5) (it:=.iRng (.cs (.c (.int 6)) .nl)) (b:=kh)
  (σ:=[some (.fro (ns.map .int)),some l.toD,some (.int (g:Int)),some rd,some x4,none,none,none,none,none,none,none]) (S:=T) (S1:=T) (s:=⟨(List.range 6).map λ(i:Nat)=>.int (i:Int),none,[]⟩)
  (λi σ U=>T<+:U/\∃x5 x6 x7 x8 x9 x10 x11,σ=[some (.fro (ns.map .int)),some l.toD,some (.int (g:Int)),some rd,some x4,x5,x6,x7,x8,x9,x10,x11])
  (dM (aa r_c ai) rfl (by decide) (λ_=>rfl)) ⟨Z4 _,none,none,none,none,none,none,none,rfl⟩ (λ_ _ _ _=>rfl) (λi hi σ U ⟨hU,x5,x6,x7,x8,x9,x10,x11,hσ⟩=>by
   subst hσ;have hi':i<6:=by simpa using hi
   have hit:((List.range 6).map λ(i:Nat)=>D.int (i:Int))[i]'hi=.int (i:Int):=by simp
   show ∃σ' T',aK sub (ah sub Pd (n+10)) _ _ (((List.range 6).map λ(i:Nat)=>D.int (i:Int))[i]'hi) _ _=_/\_;rw[hit];have ep:=Eh (sub:=sub) (n:=n+7) (S:=U) M (show Has Pd "_law_plan" nO from rfl) ns (at':=9*(i:Int)) (top:=40) (many:=l.works.length) (by omega) (by decide) (by omega);have hpl:(fK mx ns (9*(i:Int)) l.works.length 40).length=l.works.length:=by unfold fK; rw[Zc,ZJ]
   have ht:∀t∈fK mx ns (9*(i:Int)) l.works.length 40,t<=999:=λt ht=>by
    obtain⟨k,_,rfl⟩:=ZB.mp ht;have:=M.rng ns (9*(i:Int)+(k:Int)) (show(0:Int)<40 by decide);omega
   generalize fK mx ns (9*(i:Int)) l.works.length 40=pl at ep hpl ht;have s1:=aE (sub:=sub) (cf:=ah sub Pd (n+10)) (σ:=[some (.fro (ns.map .int)),some l.toD,some (.int (g:Int)),some rd,some x4,some (.int (i:Int)),x6,x7,x8,x9,x10,x11]) (i:=6) (ay (f:="_law_plan") (aa (r_v (i:=0) rfl) (aa (aP (o:=.mul) (r_c (d:=.int 9)) (r_v (i:=5) rfl) (fJ (by omega))) (aa (aO (aa (ao (r_v (i:=1) rfl) (r_c (d:=.int 2)) (av rfl)) ai) (show biD sub .len [.tup (l.works.map Wk.toD)] U=.ok (.int ((l.works.length:Nat):Int)) U by rw[dw,Zc])) (aa (r_c (d:=.int 40)) ai)))) ep);have ew:=BF (sub:=sub) (n:=n) (S:=U) hB hH hl h6 h1 h2 hpl ht
   have t1:evT sub (ah sub Pd (n+10)) (.isN (.call "wrong" (.cs (.v 1) (.cs (.v 2) (.cs (.v 6) .nl))))) [some (.fro (ns.map .int)),some l.toD,some (.int (g:Int)),some rd,some x4,some (.int (i:Int)),some (.tup (pl.map au)),x7,x8,x9,x10,x11] U=.ok false U :=
    t_k (cN (ay (aa (r_v rfl) (aa (r_v rfl) (aa (r_v rfl) ai))) ew)) (Zw (hb.fault hl h1 hpl))
   rcases hrd with rfl|⟨m,w,rfl,hm,hw⟩
   ·exact⟨_,_,bW (ak s1 (ak (aG t1 aH) (aG (t_k (fC (x:=.non) (r_v rfl)) rfl) aH))),hU,_,_,_,_,_,_,_,rfl⟩
   ·have hm':=hm.pre hU;obtain⟨y8,y9,y10,y11,ek⟩:=zx (sub:=sub) (cf:=ah sub Pd (n+10)) (g:=g) (pl:=pl) (x0:=some (.fro (ns.map .int))) (x3:=none) (x4:=some x4) (x5:=some (.int (i:Int))) (x8:=x8) (x9:=x9) (x10:=x10) (x11:=x11) (λt ht=>dG hl t (hw.walk.mem t ht)) hpl hm' (by have:=hw.len; omega)
    have hf:false∈w.map (kept l g pl):=by
     obtain⟨t,ht,hlt⟩:=ud hl hw pl;exact ZB.mpr ⟨t,ht,Zw (by omega)⟩
    refine⟨_,_,bW (ak s1 (ak (aG t1 aH) (bw (t_k (fC (x:=.loc m) (r_v rfl)) rfl) (ak (aE (bV ai rfl)) (ak ek (aG (aT (aX r_c (r_v rfl) (HK (aJ _ _) hf))) aH)))))),hU.trans (Zn _ _),_,_,_,_,_,_,_,rfl⟩)
 exact⟨σ',U,e⟩
theorem main(ns:Wx)(h:ns.length<=63):∃S',ah (λ_ _=>false) Pd 30 "law" [.fro (ns.map .int)] []=.ok (.bl true) S':=by
 obtain⟨mx,M⟩:=Ih hG;have hl:=FF M ns (at':=8) (most:=4) (by decide) (by decide);have ed:=FL (sub:=λ_ _=>false) (n:=24) (S:=[]) hG M ns (at':=8) (most:=4) (by decide) (by decide) (by decide)
 have h4:(cO mx ns 8 4).works.length<=4:=by
  have:=M.rng ns (8+1) (show(0:Int)<4 by decide);simp only[cO,Zc,ZJ];omega
 generalize cO mx ns 8 4=l at hl ed h4;have hx:=M.rng ns 0 (show(0:Int)<9 by decide);obtain⟨g,hg⟩:∃g:Nat,(g:Int)=1+mx ns 0 9:=⟨(1+mx ns 0 9).toNat,by omega⟩
 have em:ev (λ_ _=>false) (ah (λ_ _=>false) Pd 29) (.bin .add (.c (.int 1)) (.call "_law_mixed" (.cs (.v 0) (.cs (.c (.int 0)) (.cs (.c (.int 9)) .nl))))) [some (.fro (ns.map .int)),some l.toD,none,none,none,none,none,none,none,none,none,none] []=.ok (.int (g:Int)) []:=by
  rw[hg];exact aP r_c (ay (aa (r_v rfl) (aa r_c (aa r_c ai))) (M.ok ns (by decide) (by decide))) (cg _ _ _)
 obtain⟨rd,T,er,hrd⟩:∃rd T,ah (λ_ _=>false) Pd 29 "ring" [l.toD,.int (g:Int)] []=.ok rd T/\tD l (g:Int) rd T:=by
  rcases G7 (sub:=λ_ _=>false) (n:=19) (S:=[]) hB hR0 rfl hl h4 (g:=(g:Int)) (by omega) (by omega) with⟨w,e,hb⟩|⟨e,_⟩
  ·exact⟨_,_,e,.inr ⟨_,w,rfl,(aJ [] _),hb⟩⟩
  ·exact⟨_,_,e,.inl rfl⟩
 have ec:=Dj (sub:=λ_ _=>false) (n:=21) (S:=T) hB hR0 hC hl (g:=(g:Int)) (by omega) (by omega)
 have pre:∀{RF},exec (λ_ _=>false) (ah (λ_ _=>false) Pd 29) (.seq (.ite (.and (.isN (.v 3)) (.isN (.v 4))) (.ret (.c (.bl true))) .skip) (.seq (.ite (.notN (.call "a_plan" (.cs (.v 1) (.cs (.v 2) .nl)))) (.ret (.c (.bl false))) .skip) (.seq (.forS (.one 5) (.iRng (.cs (.c (.int 6)) .nl)) kh) (.ret (.c (.bl true))))))
   [some (.fro (ns.map .int)),some l.toD,some (.int (g:Int)),some rd,some (crD (bS l (g:Int) 0 l.crews)),none,none,none,none,none,none,none] T=.ok (.rt (.bl true)) RF->∃S',ah (λ_ _=>false) Pd 30 "law" [.fro (ns.map .int)] []=.ok (.bl true) S':=λe =>
  ⟨[],x_call (ds:=[.fro (ns.map .int)]) (show Has Pd "law" qW from rfl) rfl (ak (aE (ay (aa (r_v rfl) (aa r_c (aa r_c ai))) ed)) (ak (aE em) (ak (aE (ay (aa (r_v rfl) (aa (r_v rfl) ai)) er)) (ak (aE (ay (aa (r_v rfl) (aa (r_v rfl) ai)) ec)) e)))) (bh rfl rfl)⟩
 by_cases hb:rd=.non/\bS l (g:Int) 0 l.crews=none
 ·obtain⟨rfl,h0⟩:=hb;rw[h0] at pre;exact pre (bO (bw (fm (t_k (cN (x:=.non) (r_v rfl)) rfl) (t_k (cN (x:=.non) (r_v rfl)) rfl)) (aB r_c)))
 ·have hbar:iP l g:=by
   rcases hrd with rfl|⟨m,w,_,_,hw⟩
   ·cases q:bS l (g:Int) 0 l.crews with
    | none=>exact absurd ⟨rfl,q⟩ hb
    | some j=>exact .inr ⟨j,q⟩
   ·exact .inl ⟨w,hw⟩
  have ea:=Hq (sub:=λ_ _=>false) (n:=18) (S:=T) hB hH hC hS hl (by omega) (g:=g) (by omega) (by omega) hbar;obtain⟨σ',U,et⟩:=turns (sub:=λ_ _=>false) (n:=19) M ns hl (by omega) (rd:=rd) (x4:=crD (bS l (g:Int) 0 l.crews)) (T:=T) (by omega) (by omega) hrd hbar
  have tn:evT (λ_ _=>false) (ah (λ_ _=>false) Pd 29) (.and (.isN (.v 3)) (.isN (.v 4))) [some (.fro (ns.map .int)),some l.toD,some (.int (g:Int)),some rd,some (crD (bS l (g:Int) 0 l.crews)),none,none,none,none,none,none,none] T=.ok false T:=by
   by_cases hr:rd=.non
   ·cases q:bS l (g:Int) 0 l.crews with
    | none=>exact absurd ⟨hr,q⟩ hb
    | some j=>exact fm (t_k (cN (r_v rfl)) (Zi hr)) (t_k (cN (x:=.int (j:Int)) (r_v rfl)) rfl)
   ·exact kL (t_k (cN (r_v rfl)) (Zw hr))
  exact pre (ak (aG tn aH) (ak (aG (t_k (fC (x:=.non) (ay (aa (r_v rfl) (aa (r_v rfl) ai)) ea)) rfl) aH) (ak et (aB r_c))))
end K09

namespace L2
open PySem PySem.Spec PyProof.Rows
section
variable{κ:Type}[DecidableEq κ]
noncomputable def b8(kvs:List (κ×V))(k:κ):Option V:=(kvs.find? λkv=>decide (kv.1=k)).map (·.2)
noncomputable def putK(kvs:List (κ×V))(k:κ)(v:V):List (κ×V) :=
 if(kvs.any λkv=>decide (kv.1=k))=true then kvs.map (λkv=>if kv.1=k then(kv.1,v) else kv) else kvs++[(k,v)]
theorem oK{p:κ×V}{r:List (κ×V)}{k:κ}(e:p.1=k):b8 (p::r) k=some p.2:=by simp[b8,ZP,e]
theorem mz{p:κ×V}{r:List (κ×V)}{k:κ}(e:¬p.1=k):b8 (p::r) k=b8 r k:=by simp[b8,ZP,e]
theorem vt(k:κ):∀kvs:List (κ×V),(kvs.any λkv=>decide (kv.1=k))=(b8 kvs k).isSome
 | []=>rfl
 | p::r=>by
  rw[X1]
  by_cases e:p.1=k
  ·simp only[oK e,Zi e,Bool.true_or,Option.isSome_some]
  ·rw[mz e,Zw e,Bool.false_or]; exact vt k r
theorem xq(kvs:List (κ×V))(k:κ)(v:V):(putK kvs k v).length<=kvs.length+1:=by
 unfold putK;split
 ·rw[Zc]; omega
 ·rw[Zu,ZF,X9]; omega
theorem dU.iC{o:Option V}{u:Option Value}(r:dU o u):o.isSome=u.isSome:=by
 cases o with
 | none=>cases u with
  | none=>rfl
  | some _=>exact(show False from r).elim
 | some _=>cases u with
  | none=>exact(show False from r).elim
  | some _=>rfl
theorem KV.val{kvs:List (κ×V)}{vs:List (κ×Value)}(r:KV kvs vs)(k:κ):dU (b8 kvs k) (valueAt vs k):=by
 unfold KV at r
 induction r with
 | nil=>exact True.intro
 | @cons p q ps qs h t ih =>
  obtain⟨h1,h2⟩:=h
  by_cases e:p.1=k
  ·have e':q.1=k:=h1.symm.trans e;have b:valueAt (q::qs) k=some q.2:=by simp[valueAt,ZP,e']
   rw[oK e,b]; exact h2
  ·have e':¬q.1=k:=λz=>e (h1.trans z)
   have b:valueAt (q::qs) k=valueAt qs k:=by simp[valueAt,ZP,e']
   rw[mz e,b]; exact ih
theorem KV.any{kvs:List (κ×V)}{vs:List (κ×Value)}(r:KV kvs vs)(k:κ):(kvs.any λkv=>decide (kv.1=k))=vs.any λkv=>decide (kv.1=k):=by
 unfold KV at r
 induction r with
 | nil=>rfl
 | cons h t ih=>rw[X1,X1,ih,h.1]
theorem KV.repl{kvs:List (κ×V)}{vs:List (κ×Value)}(r:KV kvs vs)(k:κ){y:V}{u:Value}(ry:RelV y u) :
  KV (kvs.map λkv=>if kv.1=k then(kv.1,y) else kv) (vs.map λkv=>if kv.1=k then(kv.1,u) else kv):=by
 unfold KV at r ⊢
 induction r with
 | nil=>exact .nil
 | @cons p q ps qs h t ih =>
  rw[ZK,ZK];refine .cons ?_ ih;obtain⟨h1,h2⟩:=h
  by_cases e:p.1=k
  ·rw[Zf e,Zf (h1.symm.trans e)]; exact⟨h1,ry⟩
  ·rw[Zg e,Zg (λz=>e (h1.trans z))]; exact⟨h1,h2⟩
theorem KV.put{kvs:List (κ×V)}{vs:List (κ×Value)}(r:KV kvs vs)(k:κ){y:V}{u:Value}(ry:RelV y u):KV (putK kvs k y) (stored vs k u):=by
 unfold putK stored;rw[r.any k]
 by_cases e:(vs.any λkv=>decide (kv.1=k))=true
 ·rw[Zf e,Zf e]; exact r.repl k ry
 ·rw[Zg e,Zg e]; exact Paired.snoc r ⟨rfl,ry⟩
theorem KV.length{kvs:List (κ×V)}{vs:List (κ×Value)}(r:KV kvs vs):kvs.length=vs.length:=Q5 r
end
theorem iJ{P:WC}{w:WG}{k:Key}{u:Value}(r:RelV (kV k) u):(bL P w).is k u=true:=by
 cases k with
 | inl i=>obtain⟨t,e⟩:=(show ∃t,u=Value.int i t from r); subst e; exact CB P w i t
 | inr x=>obtain⟨t,e⟩:=(show ∃t,u=Value.str x t from r); subst e; exact zq P w x t
theorem rR{P:WC}{w:WG}:∀{ks:List Key} {us:Wz},Vals (ks.map kV) us->ItemsAre (bL P w) ks us
 | [],_,r=>by rw[Qt] at r; cases r; exact .nil
 | k::ks,_,r=>by
  rw[ZK] at r
  cases r with
  | cons h t=>exact .cons (iJ h) (rR t)
abbrev KT(H:Hp):List (List Key×V)->List (List Key×Addr×Value)->Prop:=Paired λp q=>p.1=q.1/\H q.2.1=some (.tup (p.1.map kV))/\RelV p.2 q.2.2
theorem KT.val{H:Hp}{kvs:WO}{xs:List (List Key×Addr×Value)}(r:KT H kvs xs)(k:List Key):dU (b8 kvs k) ((atKey xs k).map (·.2)):=by
 induction r with
 | nil=>exact True.intro
 | @cons p q ps qs h t ih =>
  obtain⟨h1,_,h2⟩:=h
  by_cases e:p.1=k
  ·have e':q.1=k:=h1.symm.trans e;have b:atKey (q::qs) k=some q.2:=by simp[atKey,ZP,e']
   rw[oK e,b]; exact h2
  ·have e':¬q.1=k:=λz=>e (h1.trans z)
   have b:atKey (q::qs) k=atKey qs k:=by simp[atKey,ZP,e']
   rw[mz e,b]; exact ih
theorem KT.repl{H:Hp}{kvs:WO}{xs:List (List Key×Addr×Value)}(r:KT H kvs xs)(k:List Key){y:V}{u:Value}(ry:RelV y u) :
  KT H (kvs.map λkv=>if kv.1=k then(kv.1,y) else kv) (xs.map (putAt k u)):=by
 induction r with
 | nil=>exact .nil
 | @cons p q ps qs h t ih =>
  rw[ZK,ZK];refine .cons ?_ ih;obtain⟨h1,h2,h3⟩:=h;unfold putAt
  by_cases e:p.1=k
  ·rw[Zf e,Zf (h1.symm.trans e)]; exact⟨h1,h2,ry⟩
  ·rw[Zg e,Zg (λz=>e (h1.trans z))]; exact⟨h1,h2,h3⟩
theorem KT.put{H:Hp}{kvs:WO}{xs:List (List Key×Addr×Value)}(r:KT H kvs xs)(k:List Key){b:Addr}{y:V}{u:Value}(hb:H b=some (.tup (k.map kV)))(ry:RelV y u) :
  KT H (putK kvs k y) (storedH xs k b u):=by
 have e:(kvs.any λkv=>decide (kv.1=k))=(atKey xs k).isSome:=by
  rw[vt,(r.val k).iC,QY]
 unfold putK storedH;rw[e]
 by_cases q:(atKey xs k).isSome=true
 ·rw[Zf q,Zf q]; exact r.repl k ry
 ·rw[Zg q,Zg q]; exact Paired.snoc r ⟨rfl,hb,ry⟩
theorem KT.keeps{H H':Hp}{kvs:WO}{xs:List (List Key×Addr×Value)}(r:KT H kvs xs)(ht:∀b ys,H b=some (.tup ys)->H' b=some (.tup ys)):KT H' kvs xs :=
 Paired.lE r λ_ _ z=>⟨z.1,ht _ _ z.2.1,z.2.2⟩
section
variable{P:WC}{w:WG}{H:Hp}{h:Heap}{a:Addr}
theorem qv{u:HO}(ok:HOk P w H h)(e:Rd H a u):aY P w H h a u:=e.ok ok
theorem iX{kvs:List (Key×V)}(ok:HOk P w H h)(e:Rd H a (.dK kvs)):kvs.length<=sizeLine/\(a==sysModules)=false/\∃vs,KV kvs vs/\h.DictOf (bL P w) a vs :=
 show aY P w H h a (.dK kvs) from qv ok e
theorem Js{kvs:List (Key×V)}(ok:HOk P w H h)(e:H a=some (.dK kvs)):kvs.length<=sizeLine/\(a==sysModules)=false/\∃vs,KV kvs vs/\h.DictOf (bL P w) a vs:=iX ok (.inl e)
theorem jj{ks:List Key}(ok:HOk P w H h)(e:H a=some (.tup (ks.map kV))):(tupleKind (bL P w)).is h ks a:=by
 obtain⟨_,its,r,o,h1,h2,n,h3⟩:=(show aY P w H h a (.tup (ks.map kV)) from ok a _ e)
 exact⟨o,its.toArray,n,h1,h2,h3,by simpa using rR r⟩
theorem i6{kvs:WO}(ok:HOk P w H h)(e:Rd H a (.dT kvs)):kvs.length<=sizeLine/\(a==sysModules)=false /\
  ∃xs,KT H kvs xs/\h.DictOfH (tupleKind (bL P w)) a xs:=by
 obtain⟨z,y,xs,r,o,es,ep,h1,h2,h3,h4,h5⟩:=(show aY P w H h a (.dT kvs) from qv ok e)
 refine⟨z,y,xs,r,o,es,ep,h1,h2,h3,h4,λx hx=>?_,h5⟩
 have all:∀{l:WO} {m:List (List Key×Addr×Value)},KT H l m->∀x∈m,(tupleKind (bL P w)).is h x.1 x.2.1:=by
  intro l m q
  induction q with
  | nil=>intro x hx; exact nomatch hx
  | @cons p q ps qs hq t ih =>
   intro x hx;rcases Zt.mp hx with e|hx
   ·subst e;exact jj ok (by rw[<- hq.1]; exact hq.2.1)
   ·exact ih x hx
 exact all r x hx
theorem GP{kvs:WO}(ok:HOk P w H h)(e:H a=some (.dT kvs)):kvs.length<=sizeLine/\(a==sysModules)=false /\
  ∃xs,KT H kvs xs/\h.DictOfH (tupleKind (bL P w)) a xs:=i6 ok (.inl e)
end
noncomputable def fY(H:Hp)(a:Addr)(y:V)(r:Option V):Prop :=
 (∃kvs k,Rd H a (.dK kvs)/\y=kV k/\r=b8 kvs k)\/∃kvs k b,Rd H a (.dT kvs)/\y=.ref b/\H b=some (.tup (k.map kV))/\r=b8 kvs k
noncomputable def iU(H:Hp)(a:Addr)(y v:V)(H':Hp):Prop :=
 (∃kvs k,H a=some (.dK kvs)/\y=kV k/\kvs.length<sizeLine/\H'=upd H a (.dK (putK kvs k v))) \/
 ∃kvs k b,H a=some (.dT kvs)/\y=.ref b/\H b=some (.tup (k.map kV))/\kvs.length<sizeLine/\H'=upd H a (.dT (putK kvs k v))
theorem iU.t{H:Hp}{a b:Addr}{kvs:WO}{k:List Key}{v:V}(e:H a=some (.dT kvs))(eb:H b=some (.tup (k.map kV)))(hl:kvs.length<sizeLine) :
  iU H a (.ref b) v (upd H a (.dT (putK kvs k v))):=.inr ⟨kvs,k,b,e,rfl,eb,hl,rfl⟩
section
variable{X:Cx}{pins:Ww}{σ:St}{H:Hp}{s:WA}{a:Addr}{y v:V}{u r:Value}{o:Option V}{A:Around}{E:Wv}
theorem Inv.big(I:Inv X pins σ H s):sysModules<s.heap.objs.size:=by
 have h:mainGlobals<s.heap.objs.size:=(I.mod.glob.keeps I.bk).lt;exact Qv (by decide) h
theorem HM{Q:Wv}(hu:A.units+1<cLine)(I:Inv X pins σ H s)(g:fY H a y (some v))(ry:RelV y u)(h:∀w' s',Inv X pins σ H s'->RelV v w'->Q w' s') :
  wpAny (model X.prog X.w) A (getItem (.ref a) u) Q E s:=by
 rcases g with⟨kvs,k,e,ey,l⟩|⟨kvs,k,b,e,ey,eb,l⟩
 ·subst ey;obtain⟨z,hd,vs,rel,dd⟩:=iX I.hok e;obtain⟨w',hw,rw'⟩:=dU.some_of (v:=v) (o:=valueAt vs k) (by rw[l]; exact rel.val k);exact wpAny_getItem_of (iJ ry) dd.mapOf hw (h w' _ (I.tok _) rw')
 ·subst ey;cases(show u=Value.ref b from ry);obtain⟨z,hd,xs,rel,dd⟩:=i6 I.hok e;obtain⟨w',hw,rw'⟩:=dU.some_of (v:=v) (o:=(atKey xs k).map (·.2)) (by rw[l]; exact rel.val k);obtain⟨p,hp,hp2⟩:=ZC.mp hw;refine wpAny_getItem_heap (QP hu) (jj I.hok eb) dd hp ?_;rw[hp2];exact h w' _ (I.tok _) rw'
theorem Bk{Q:Wv}(hu:A.units+1<cLine)(I:Inv X pins σ H s)(g:fY H a y o)(ry:RelV y u)(h:∀s',Inv X pins σ H s'->Q (.bool o.isSome) s') :
  wpAny (model X.prog X.w) A (compareOp .In u (.ref a)) Q E s:=by
 rcases g with⟨kvs,k,e,ey,l⟩|⟨kvs,k,b,e,ey,eb,l⟩
 ·subst ey;obtain⟨z,hd,vs,rel,dd⟩:=iX I.hok e;refine wpAny_in_of (iJ ry) hd dd.mapOf ?_;rw[<- (rel.val k).iC,<- l];exact h _ (I.tok _)
 ·subst ey;cases(show u=Value.ref b from ry);obtain⟨z,hd,xs,rel,dd⟩:=i6 I.hok e;refine wpAny_in_heap (QP hu) (jj I.hok eb) hd dd ?_;have q:=(rel.val k).iC;rw[QY] at q;rw[<- q,<- l];exact h _ (I.tok _)
theorem Dh{Q:Wv}(hu:A.units+1<cLine)(I:Inv X pins σ H s)(g:fY H a y o)(ry:RelV y u)(h:∀s',Inv X pins σ H s'->Q (.bool (!o.isSome)) s') :
  wpAny (model X.prog X.w) A (compareOp .NotIn u (.ref a)) Q E s:=by
 rcases g with⟨kvs,k,e,ey,l⟩|⟨kvs,k,b,e,ey,eb,l⟩
 ·subst ey;obtain⟨z,hd,vs,rel,dd⟩:=iX I.hok e;refine wpAny_notIn_of (iJ ry) hd dd.mapOf ?_;rw[<- (rel.val k).iC,<- l];exact h _ (I.tok _)
 ·subst ey;cases(show u=Value.ref b from ry);obtain⟨z,hd,xs,rel,dd⟩:=i6 I.hok e;refine wpAny_notIn_heap (QP hu) (jj I.hok eb) hd dd ?_;have q:=(rel.val k).iC;rw[QY] at q;rw[<- q,<- l];exact h _ (I.tok _)
theorem ug{h':Heap}{t':Nat}{ob:HO}(I:Inv X pins σ H s)(mu:Mut (H a))(hs:Heap.SameBut a s.heap h')(he:∃q,h'.get? a=some q)(new:aY X.prog X.w (upd H a ob) h' a ob) :
  Inv X pins σ (upd H a ob) { s with heap:=h',toks:=t' } :=
 I.write (x:=a) (e:=a) mu (.inl rfl) (λb q hb z=>(hs.2 b hb).trans z) he new
theorem xN{P:WC}{w:WG}{H':Hp}{h':Heap}{kvs:List (Key×V)}{vs:List (Key×Value)}(z:kvs.length<=sizeLine)(hd:(a==sysModules)=false)(rel:KV kvs vs)(dd:h'.DictOf (bL P w) a vs) :
  aY P w H' h' a (.dK kvs):=⟨z,hd,vs,rel,dd⟩
theorem IU{H':Hp}{Q:Unit->Shared->Prop}(hu:A.units+1<cLine)(I:Inv X pins σ H s)(g:iU H a y v H')(ry:RelV y u)(rv:RelV v r)(h:∀s',Inv X pins σ H' s'->Q () s') :
  wpAny (model X.prog X.w) A (setItem (.ref a) u r) Q E s:=by
 rcases g with⟨kvs,k,e,ey,l,eH⟩|⟨kvs,k,b,e,ey,eb,l,eH⟩
 ·subst ey eH;obtain⟨z,hd,vs,rel,dd⟩:=Js I.hok e;have hz:vs.length<=sizeLine:=by rw[<- rel.length]; exact z
  have hl:(putK kvs k v).length<=sizeLine:=by have:=xq kvs k v; omega
  refine wpAny_setItem_pairs (hsz:=hz) (iJ ry) dd λh' dd' hs=>h _ ?_
  have he:∃q,h'.get? a=some q:=let⟨q,_,_,hq,_⟩:=dd'; ⟨q,hq⟩
  exact ug I (by rw[e]; exact True.intro) hs he (xN hl hd (rel.put k rv) dd')
 ·subst ey eH;cases(show u=Value.ref b from ry);obtain⟨z,hd,xs,rel,dd⟩:=GP I.hok e;have hz:xs.length<=sizeLine:=by rw[<- Q5 rel]; exact z
  have hl:(putK kvs k v).length<=sizeLine:=by have:=xq kvs k v; omega
  refine wpAny_setItem_heap (hsz:=hz) (QP hu) (jj I.hok eb) dd λh' dd' hs=>h _ ?_
  obtain⟨q,es,ep,hq,h2,h3,h4,_,h5⟩:=dd';refine ug I (by rw[e]; exact True.intro) hs ⟨q,hq⟩ ⟨hl,hd,_,(rel.put k eb rv).keeps λc ys ec=>?_,q,es,ep,hq,h2,h3,h4,h5⟩;rw[aC (ni ec e (λz=>nomatch z))];exact ec
end
section
variable{X:Cx}{pins:Ww}{σ:St}{H:Hp}{s:WA}{a:Addr}{kvs:List (Key×V)}{k:Key}{u:Value}{A:Around}{E:Wv}
end
def nY(i:Expr):Prop:=∀ov iv,subscripted i false ov iv=operate [ov,iv] (getItem ov iv)
theorem ym{prog:WC}{w:WG}{A:Around}{E:Wv}{s:WA}{env:Env}{value slice:Expr}{pos:Pos}{T id:String}{Q:Wv}
  (hl:typeLookup (.type T) "__getitem__" = pure (some (.builtin id))) (hs:nY slice)
  (h:wpAny (model prog w) A (eval value env) (λo s₁=>wpAny (model prog w) A (eval slice env) (λi s₂=>s₂.TypeIs o T/\wpAny (model prog w) A (getItem o i) Q E s₂) E s₁) E s) :
  wpAny (model prog w) A (eval (.Subscript value slice pos) env) Q E s:=by
 refine Subscript_ (XH h (λo s₁ h₁=>XH h₁ (λi s₂ h₂=>?_) λ_ _ x=>x) λ_ _ x=>x);obtain⟨hT,h₂⟩:=h₂;unfold subscriptTail;refine Za ?_;rw[getitemInPython_of_ne hT.not_modules];refine Za (wpAny_specialOf hT hl ?_)
 have fin:wpAny (model prog w) A (subscripted slice false o i) (λr s₃=>wpAny (model prog w) A (letTemporaryGo value o r>>=λ_=>pure r) Q E s₃) E s₂:=by
  rw[hs o i];exact wpAny_operating (XH h₂ (λr s₃ h₃=>Za (wpAny_letTemporaryGo (Ze h₃))) λ_ _ x=>x)
 first
  | exact Ze (Za fin)
  | exact Za (Ze (Za fin))
  | exact Za fin
theorem E9{X:Cx}{pins:Ww}{σ:St}{H:Hp}{s:WA}{a:Addr}{y:V}{o:Option V}(I:Inv X pins σ H s)(g:fY H a y o):s.TypeIs (.ref a) "dict":=by
 rcases g with⟨kvs,k,e,_,_⟩|⟨kvs,k,b,e,_,_,_⟩
 ·obtain⟨_,_,vs,_,dd⟩:=iX I.hok e;exact dd.typeIs
 ·obtain⟨_,_,xs,_,dd⟩:=i6 I.hok e;exact dd.typeIs
noncomputable def zh(td ty:TE):TE:=λσ H Q=>td σ H λx H1=>ty σ H1 λy H2=>∃a v,x=.ref a/\fY H2 a y (some v)/\Q v H2
noncomputable def Be(td ty tv:TE):TS:=λD σ H=>tv σ H λv H1=>td σ H1 λx H2=>ty σ H2 λy H3=>∃a H4,x=.ref a/\iU H3 a y v H4/\D.nx σ H4
section
variable{X:Cx}{o i e value:Expr}{pos pos' tpos:Pos}{td ty tv:TE}
theorem Ar(hu:X.A.units+1<cLine)(ho:PE X o td)(hi:PE X i ty)(hs:nY i):PE X (.Subscript o i pos) (zh td ty):=by
 intro pins s σ H Q I h;refine ym PySem.F.slot_dict_getitem.lookup hs (thn (ho pins s σ H _ I h) λu s1 ⟨x,H1,I1,rx,q1⟩=>thn (hi pins s1 σ H1 _ I1 q1) λiv s2 ⟨y,H2,I2,ry,a,v,ex,g,q2⟩=>?_);subst ex;obtain rfl:u=Value.ref a:=rx;exact⟨E9 I2 g,HM hu I2 g ry λw' s3 I3 rw'=>⟨v,H2,I3,rw',q2⟩⟩
theorem CV(hu:X.A.units+1<cLine)(ho:PE X o td)(hi:PE X i ty)(hv:PE X value tv)(hs:swapsWith value (some (.Subscript o i pos')) pos.line X.env=pure false) :
  PS X (.Assign [.Subscript o i pos'] value pos) (Be td ty tv):=by
 intro pins s σ H D I h;refine wpAny_Assign_Subscript (thn (hv pins s σ H _ I h) λr s1 ⟨v,H1,I1,rv,q1⟩=>thn (ho pins s1 σ H1 _ I1 q1) λu s2 ⟨x,H2,I2,rx,q2⟩=>thn (hi pins s2 σ H2 _ I2 q2) λiv s3 ⟨y,H3,I3,ry,a,H4,ex,g,q3⟩=>?_) hs;subst ex;obtain rfl:u=Value.ref a:=rx;exact IU hu I3 g ry rv λs4 I4=>⟨σ,H4,I4,q3⟩
end
theorem zS{P:WC}{w:WG}{H:Hp}(h:Heap)(hb:sysModules<h.objs.size):aY P w H (h.push { cls:=.type "dict",data:=.dict #[] }) h.objs.size (.dT []) :=
 ⟨Xj _,Xf.mpr (Ne.symm (ZI hb)),[],.nil,_,#[],0,Zv _ rfl,⟨rfl,rfl,rfl⟩,rfl,rfl,QS⟩
noncomputable def EA:TE:=λ_ H Q=>∀p,H p=none->Q (.ref p) (upd H p (.dT []))
section
variable{X:Cx}{pos:Pos}
theorem BI:PE X (.Dict [] [] pos) EA:=λpins s σ H Q I h =>
 wpAny_Dict_empty ⟨.ref s.heap.objs.size,_,I.laid (a:=s.heap.objs.size) (o:=.dT []) (t':=s.toks) (λ_ _ q=>Zd _ q) (Zl _) (zS s.heap I.big),rfl,h _ (I.hok.fresh (Zl _))⟩
end
end L2

namespace L2
open PySem PySem.Spec PyProof.Rows
section
variable{prog:WC}{w:WG}{A:Around}{R:Result->Shared->Prop}{s:WA}
theorem xM{elt target iter:Expr}{ifs:WM}{scope:Scope}{pos:Pos}{it acc:Value}{env:Env}(I:Nat->Shared->Prop)
  (turn:∀n s,I n s->wpAny (model prog w) A (pyNext it) (λr s₁=>match r with
   | none=>R (.ok .next) s₁
   | some v=>wpAny (model prog w) A (letOwnedTupleGo target it v) (λ_ s₁'=>wpAny (model prog w) A (assign target env v) (λ_ s₂ =>
     wpAny (model prog w) A (forIn ifs true λc r=>if r=true then do let ok <- isTrue c env (eval c env); pure (ForInStep.yield ok) else pure (ForInStep.yield r)) (λok s₃ =>
      if ok=true then wpAny (model prog w) A (eval elt env) (λx s₄ =>
       wpAny (model prog w) A (call (.builtin "list.append") [acc,x]) (λ_ s₅=>∃m,m<n/\I m s₅) (λ_ _=>False) s₄) (λ_ _=>False) s₃
      else ∃m,m<n/\I m s₃) (λ_ _=>False) s₂) (λ_ _=>False) s₁') (λ_ _=>False) s₁) (λ_ _=>False) s)
  (n:Nat) (h:I n s) :
  codeAny (model prog w) A (.compLoop (.ListComp elt [⟨target,iter,ifs,0⟩] scope pos) 0 it acc env) R s:=by
 refine codeAny_loop rfl I (λn s hI=>?_) n h;show wpAny _ A ((compTurn (.ListComp elt [⟨target,iter,ifs,0⟩] scope pos) 0 it acc env).onRaise (λx=>do noteFrame x env; theTreesLotGoes x)) _ _ s;refine wpAny_noted ?_;rw[compTurn_list];refine Za (wpAny_standAt (Za (XH (turn n s hI) (λr s₁ h₁=>?_) λ_ _ h'=>h'.elim)))
 cases r with
 | none=>exact Ze h₁
 | some v =>
  refine Za (XH h₁ (λ_ s₁' h₁'=>?_) λ_ _ h'=>h'.elim);refine Za (XH h₁' (λ_ s₂ h₂=>Za (XH h₂ (λok s₃ h₃=>?_) λ_ _ h'=>h'.elim)) λ_ _ h'=>h'.elim)
  cases ok with
  | false=>exact Ze ⟨rfl,h₃⟩
  | true =>
   exact Za (Za (XH h₃ (λx s₄ h₄=>Za (XH h₄ (λ_ s₅ h₅=>Ze (Ze ⟨rfl,h₅⟩)) λ_ _ h'=>h'.elim)) λ_ _ h'=>h'.elim))
end
theorem nW{env:Env}:∀(names:List (Str×NameKind)) (cs:List (Str×Addr)),(∀y∈names,y.2=.free->∃c,env.cells.lookup y.1=some c) ->
  (∀x c,cs.lookup x=some c->env.cells.lookup x=some c) ->
  ∃cl,(forIn names cs λ(p:Str×NameKind) (r:List (Str×Addr))=>if(p.2==NameKind.free)=true then(do let c <- cellOf env p.1; pure (ForInStep.yield ((p.1,c)::r))) else pure (ForInStep.yield r):Sem (List (Str×Addr)))=pure cl /\
   (∀x c,cl.lookup x=some c->env.cells.lookup x=some c)/\(∀x c,cs.lookup x=some c->cl.lookup x=some c)/\∀y∈names,y.2=.free->cl.lookup y.1=env.cells.lookup y.1
 | [],cs,_,hc=>⟨cs,rfl,hc,λ_ _ h=>h,λy hy=>absurd hy (by simp)⟩
 | (x,k)::r,cs,h,hc=>by
  have hr:∀y∈r,y.2=.free->∃c,env.cells.lookup y.1=some c:=λy hy=>h y (Zm _ hy)
  by_cases hk:k=.free
  ·subst hk;obtain⟨c,e⟩:=h (x,.free) Zk rfl
   have hc':∀z d,((x,c)::cs).lookup z=some d->env.cells.lookup z=some d:=λz d q=>by
    by_cases hz:z=x
    ·subst hz;rw[Qa] at q;cases q; exact e
    ·rw[Z5,show(z==x)=false from Xf.mpr hz] at q;exact hc z d q
   obtain⟨cl,e1,e2,e3,e4⟩:=nW r ((x,c)::cs) hr hc';refine⟨cl,?_,e2,λz d q=>?_,λy hy hf=>?_⟩
   ·rw[Wd];simp only[XO,Xx];unfold cellOf;rw[e];simp only[pure_bind];exact e1
   ·by_cases hz:z=x
    ·subst hz;have:=hc z d q;rw[e] at this;exact e3 z d (by rw[Qa]; exact this)
    ·exact e3 z d (by rw[Z5,show(z==x)=false from Xf.mpr hz]; exact q)
   ·rcases Zt.mp hy with z|z
    ·subst z;rw[e3 x c (Qa),e]
    ·exact e4 y z hf
  ·have hb:(k==NameKind.free)=false:=Xf.mpr hk;obtain⟨cl,e1,e2,e3,e4⟩:=nW r cs hr hc;refine⟨cl,?_,e2,e3,λy hy hf=>?_⟩
   ·rw[Wd];simp only[hb,Zx,ZT,pure_bind];exact e1
   ·rcases Zt.mp hy with z|z
    ·subst z; exact absurd hf hk
    ·exact e4 y z hf
theorem uN{env:Env}{scope:Scope}(h:∀y∈scope.names,y.2=.free->∃c,env.cells.lookup y.1=some c) :
  ∃cl,closureFor scope env=pure cl/\(∀x c,cl.lookup x=some c->env.cells.lookup x=some c)/\∀y∈scope.names,y.2=.free->cl.lookup y.1=env.cells.lookup y.1:=by
 obtain⟨cl,e1,e2,_,e4⟩:=nW (env:=env) scope.names [] h (λx c q=>by cases q);refine⟨cl,?_,e2,e4⟩;unfold closureFor;show((forIn scope.names ([]:List (Str×Addr)) λ(p:Str×NameKind) (r:List (Str×Addr))=>if(p.2==NameKind.free)=true then(do let c <- cellOf env p.1; pure (ForInStep.yield ((p.1,c)::r))) else pure (ForInStep.yield r):Sem (List (Str×Addr)))>>=λs=>pure s)=pure cl;rw[e1];rfl
noncomputable def aR(X:Cx)(scope:Scope)(cl:List (Str×Addr))(N':WI)(fp:WD)(s3:WA)(H3:Hp):Cx :=
 { X with N:=N',s₀:=s3,H₀:=H3,env:=compEnvC scope cl s3.heap.objs.size X.env,outer:=X.stack,stack:=X.stack,ex:=fp,fn:=λx=>decide (scope.names.lookup x=some .cell),pn:=[],xe:=λ_ _=>False }
noncomputable def PF(X:Cx)(ifs:WM)(t:TT):Prop :=
 ∀(pins:Ww) (s:WA) (σ:St) (H:Hp) (Q:Bool->Hp->Prop),Inv X pins σ H s->t σ H Q ->
  wpAny (model X.prog X.w) X.A (forIn ifs true λc r=>if r=true then do let ok <- isTrue c X.env (eval c X.env); pure (ForInStep.yield ok) else pure (ForInStep.yield r)) (TP X pins σ Q) X.xe s
theorem Bm{X:Cx}:PF X [] (λ_ H Q=>Q true H):=λ_ _ _ H _ I h=>wpAny_tests_nil ⟨H,I,h⟩
theorem B6{X:Cx}{c:Expr}{t:TT}(hc:PT X c t):PF X [c] t:=λpins s σ H Q I h=>wpAny_tests_one (hc pins s σ H Q I h)
noncomputable def nJ(k:Nat)(wi:TI)(g:TG)(tt:TT)(te:TE):TE:=λσ H Q=>wi σ H λJ H1=>∀l,H1 l=none->∃W:Nat->Nat->Hp->Prop,(∃m,W 0 m (upd H1 l (.lst [])))/\∀i m H,W i m H ->
 (J.stop i H/\Q (.ref l) H)\/(J.go i H/\∀x H',J.yld i H x H'->g x (σ++List.replicate k none) H' λσ2 H2=>(∀(j:Nat) v,(σ++List.replicate k none)[j]?=some (some v)->σ2[j]?=some (some v))/\tt σ2 H2 λb H3 =>
  if b=true then te σ2 H3 λy H4=>∃xs,H4 l=some (.lst xs)/\xs.length<sizeLine/\∃m',m'<m/\W (i+1) m' (upd H4 l (.lst (xs++[y]))) else ∃m',m'<m/\W (i+1) m' H3)
theorem kE:∀(names:List (Str×NameKind)) (n:Nat) (acc:List (Str×Addr)),cellsFrom n names acc=cellsFrom n names []++acc
 | [],_,_=>rfl
 | (x,k)::r,n,acc=>by
  unfold cellsFrom;split
  ·rw[kE r (n+1) ((x,n)::acc),kE r (n+1) [(x,n)],Zq]; rfl
  ·exact kE r n acc
theorem ou{x:Str}{c:Addr}:∀(names:List (Str×NameKind)) (n:Nat) (acc:List (Str×Addr)),(x,c)∈cellsFrom n names acc->(x,NameKind.cell)∈names\/(x,c)∈acc
 | [],_,_,h=>.inr h
 | (y,k)::r,n,acc,h=>by
  unfold cellsFrom at h;split at h
  ·rename_i hk;rcases ou r (n+1) _ h with z|z
   ·exact .inl (Zm _ z)
   ·rcases Zt.mp z with e|e
    ·cases e;rw[Wt.mp hk];exact .inl Zk
    ·exact .inr e
  ·rcases ou r n acc h with z|z
   ·exact .inl (Zm _ z)
   ·exact .inr z
theorem kN{α:Type}:∀{l:List (Str×α)} {x:Str} {a:α},(l.map (·.1)).Nodup->(x,a)∈l->l.lookup x=some a
 | (y,b)::r,x,a,nd,h=>by
  obtain⟨n1,n2⟩:=Xk.mp nd;rcases Zt.mp h with e|e
  ·cases e; exact Qa
  ·have hne:x≠y:=λz=>n1 (ZB.mpr ⟨(x,a),e,z⟩)
   rw[Z5,Xf.mpr hne];exact kN n2 e
theorem ng{scope:Scope}{n:Nat}{cl:List (Str×Addr)}(nd:(scope.names.map (·.1)).Nodup)(x:Str):(scope.names.lookup x=some .cell/\∃c,(cellsFrom n scope.names cl).lookup x=some c/\(x,c)∈cellsFrom n scope.names [])\/(scope.names.lookup x≠some .cell/\(cellsFrom n scope.names cl).lookup x=cl.lookup x):=by
 rw[kE]
 by_cases h:scope.names.lookup x=some .cell
 ·refine .inl ⟨h,?_⟩;obtain⟨c,e⟩:=oG (n:=n) h;exact⟨c,by rw[List.lookup_append,e]; rfl,mem_of_lookup e⟩
 ·refine .inr ⟨h,?_⟩
  cases e:(cellsFrom n scope.names []).lookup x with
  | none=>rw[List.lookup_append,e]; rfl
  | some c =>
   rcases ou _ _ _ (mem_of_lookup e) with z|z
   ·exact absurd (kN nd z) h
   ·cases z
theorem C9{M:Model}{A:Around}{E:Wv}{s:WA}{scope:Scope}{cl:List (Str×Addr)}{g:Addr}{env:Env}{qual:Str}{Q:Env->Shared->Prop}
  (hQ:Q { scope:=scope,locals:=s.heap.objs.size,globals:=g,cells:=cellsFrom (s.heap.objs.size+1) scope.names cl,qual:=qual,func:=none,code:=env.code,frame:=env.frame,builtins:=env.builtins } { s with heap:=pushCells (s.heap.push { cls:=.type "dict",data:=.dict #[] }) scope.names }) :
  wpAny M A (newFunctionEnv scope g cl [] qual none .none (some env)) Q E s:=by
 simp only[newFunctionEnv,Option.isSome_some,Xx];refine Za (wpAny_alloc ?_);refine Za (wpAny_layCells _ (λname kind cells=>by cases hkc:kind==NameKind.cell<;>simp[hkc]) _ _ _ _ ?_);rw[show({ s with heap:=s.heap.push { cls:=.type "dict",data:=.dict #[] } }:Shared).heap.objs.size=s.heap.objs.size+1 from Z1 ..];refine Za ?_;rw[Wh];exact Ze (Ze hQ)
set_option genInjectivity false in
structure fh(X:Cx)(scope:Scope)(N':WI)(k:Nat):Prop where
 fr:∀y∈scope.names,y.2=.free->X.env.kindOf y.1=some .cell\/X.env.kindOf y.1=some .free
 nd:(scope.names.map (·.1)).Nodup
 kind:scope.kind=.function
 names:∀y∈scope.names,y.2=.local->scope.names.lookup y.1=some .local
 len:N'.length=X.N.length+k
 old:∀(i:Nat) (x:Str),i<X.N.length->N'[i]?=some x->Vis (relabel scope X.env) x->X.N[i]?=some x/\(x,NameKind.free)∈scope.names/\(relabel scope X.env).names.lookup x≠some .local
section
variable{X:Cx}{scope:Scope}{N':WI}{k:Nat}{cl:List (Str×Addr)}{pins:Ww}{σ:St}{H:Hp}{s3 s4:WA}{fp:WD}
theorem Hl(C:fh X scope N' k)(hc:X.calm=true)(I:Inv X pins σ H s3)(hf:∀b∈fp,cI X pins H b)(hfl:∀b∈fp,b<s3.heap.objs.size)(hcl1:∀x c,cl.lookup x=some c->X.env.cells.lookup x=some c)
  (hcl2:∀y∈scope.names,y.2=.free->cl.lookup y.1=X.env.cells.lookup y.1) {cl':List (Str×Addr)} (hcl':cl'=cellsFrom (s3.heap.objs.size+1) scope.names cl) (h':Heap) (hns:h'.Ns s3.heap.objs.size λ_=>none) (hk:∀b o,s3.heap.get? b=some o->h'.get? b=some o) (hown:CellsOk h' (s3.heap.objs.size+1) (cellsFrom (s3.heap.objs.size+1) scope.names [])) :
  Inv (aR X scope cl' N' fp s3 H) [] (σ++List.replicate k none) H { s3 with heap:=h' }:=by
 have fpold:∀b∈fp,∀o,X.base.get? b≠some o:=λb hb o e=>by
  rcases(hf b hb).2.2.2.1 with z|z
  ·exact I.ok.noex b o e z
  ·exact absurd (ZM (Zp (I.ok.bs b o e).1) z) (Xe _)
 have own:∀x c,cl'.lookup x=some c->(scope.names.lookup x=some .cell/\(x,c)∈cellsFrom (s3.heap.objs.size+1) scope.names []/\s3.heap.objs.size<c/\h'.IsCell c none)\/(scope.names.lookup x≠some .cell/\cl.lookup x=some c):=λx c e=>by
  rw[hcl'] at e;rcases ng (n:=s3.heap.objs.size+1) (cl:=cl) C.nd x with⟨h1,c',e1,e2⟩|⟨h1,e1⟩
  ·rw[e1] at e; cases e;have:=hown.empty x c e2;exact .inl ⟨h1,e2,this.2,this.1⟩
  ·rw[e1] at e; exact .inr ⟨h1,e⟩
 have fre:∀y∈scope.names,y.2=.free->cl'.lookup y.1=X.env.cells.lookup y.1:=λy hy hf=>by
  rw[hcl'];rcases ng (n:=s3.heap.objs.size+1) (cl:=cl) C.nd y.1 with⟨h1,_⟩|⟨_,e1⟩
  ·have:=kN C.nd (show(y.1,y.2)∈scope.names from hy);rw[h1,hf] at this; cases this
  ·rw[e1]; exact hcl2 y hy hf
 have ncl:∀x c,cl.lookup x=some c->c<s3.heap.objs.size:=λx c e=>by
  obtain⟨v,o,ho,_⟩:=I.cell x c (hcl1 x c e);exact Zp ho
 have ok:(aR X scope cl' N' fp s3 H).Ok:=by
  refine⟨I.ok.mod,C.kind,I.ok.glob,I.ok.blt,Zl _,λx y c h1 h2=>?_,λx hx=>?_,λx c hfn e=>?_,I.ok.hd,I.ok.frames,.inl rfl,λb hb=>?_,I.bs,Xa I.ok.bsz I.sz,λb o e hb=>fpold b hb o e,λb hb hb2=>?_,I.stack,I.oX⟩
  ·rcases own x c h1 with⟨a1,a2,a3,a4⟩|⟨a1,a2⟩
   ·rcases own y c h2 with⟨b1,b2,b3,b4⟩|⟨b1,b2⟩
    ·exact name_of_addr hown.apart a2 b2
    ·exact absurd (ncl y c b2) (Nat.lt_asymm a3)
   ·rcases own y c h2 with⟨b1,b2,b3,b4⟩|⟨b1,b2⟩
    ·exact absurd (ncl x c a2) (Nat.lt_asymm b3)
    ·exact I.ok.inj x y c (hcl1 x c a2) (hcl1 y c b2)
  ·have hx':(relabel scope X.env).names.lookup x=some .cell\/(relabel scope X.env).names.lookup x=some .free:=hx
   have:(x,NameKind.free)∈scope.names\/(x,NameKind.cell)∈scope.names:=by
    have all:∀(ns:List (Str×NameKind)),((ns.map λ(n,k)=>if(k==.free&&X.env.scope.kind==.function&&X.env.kindOf n==some .cell) then(n,NameKind.cell) else(n,k)).lookup x=some .cell\/(ns.map λ(n,k)=>if(k==.free&&X.env.scope.kind==.function&&X.env.kindOf n==some .cell) then(n,NameKind.cell) else(n,k)).lookup x=some .free)->(x,NameKind.free)∈ns\/(x,NameKind.cell)∈ns:=by
     intro ns
     induction ns with
     | nil=>intro h; rcases h with h|h<;>simp at h
     | cons y r ih =>
      intro h;obtain⟨n,kd⟩:=y;have hr:=ih;simp only[ZK] at h
      by_cases hxn:x=n
      ·subst hxn
       by_cases hkf:kd=.free
       ·subst hkf; exact .inl Zk
       ·have hb:(kd==NameKind.free)=false:=Xf.mpr hkf;simp only[hb,Bool.false_and,Zx,ZT,Qa] at h;rcases h with h|h
        ·rw[Zy h]; exact .inr Zk
        ·exact absurd (Zy h) hkf
      ·have hb:(x==n)=false:=Xf.mpr hxn;refine(hr ?_).imp (Zm _) (Zm _)
       by_cases hcnd:(kd==NameKind.free&&X.env.scope.kind==.function&&X.env.kindOf n==some .cell)=true
       ·simp only[Zf hcnd,Z5,hb] at h;exact h
       ·simp only[Zg hcnd,Z5,hb] at h;exact h
    exact all scope.names hx'
   rcases this with this|this
   ·obtain⟨c,e⟩:=I.ok.has x (C.fr _ this rfl);exact⟨c,(fre _ this rfl).trans e⟩
   ·rcases ng (n:=s3.heap.objs.size+1) (cl:=cl) C.nd x with⟨h1,c',e1,e2⟩|⟨h1,_⟩
    ·exact⟨c',by show cl'.lookup x=_; rw[hcl']; exact e1⟩
    ·exact absurd (kN C.nd this) h1
  ·rcases own x c e with⟨a1,a2,a3,a4⟩|⟨a1,a2⟩
   ·exact Qi a3
   ·exact absurd (Zs hfn) a1
  ·obtain⟨f0,f1,f2,f3,f4,f5⟩:=hf b hb;refine⟨?_,λx c e=>?_⟩
   rotate_left
   ·rcases own x c e with⟨a1,a2,a3,a4⟩|⟨a1,a2⟩
    ·exact λz=>absurd (hfl b hb) (by rw[<- z]; exact Nat.lt_asymm a3)
    ·exact f4 x c (hcl1 x c a2)
   intro z;have hz:b=s3.heap.objs.size:=z;exact absurd (hfl b hb) (by rw[hz]; exact Xe _)
  ·obtain⟨f0,f1,f2,f3,f4,f5⟩:=hf b hb;rcases Zt.mp (I.oR b hb2) with z|z
   ·exact f1 z
   ·exact f2 z
 refine⟨ok,rfl,I.bare,Un.kept hk,⟨λ_=>none,hns,λi x v e1 e2 e3=>?_⟩,λx c e=>?_,I.hok.fresh (Zl _),λx c e=>?_,λp hp=>absurd (show p∈([]:List (Addr×Obj)) from hp) (by simp),I.hok.kept hk,?_⟩
 ·have hi:i<σ.length:=by
   by_cases hi:i<σ.length
   ·exact hi
   ·rw[ZN (by omega),XL] at e2;split at e2<;>cases e2
  rw[ZE hi] at e2;obtain⟨o1,o2,o3⟩:=C.old i x (by rw[<- I.len]; exact hi) e1 e3;obtain⟨m,hn,hl⟩:=I.loc;have hkk:=C.fr _ o2 rfl;obtain⟨u,r,l⟩:=hl i x v o1 e2 (by rcases hkk with q|q; exact .inr (.inl q); exact .inr (.inr q));refine⟨u,r,?_⟩;rcases l with⟨q,_⟩|⟨q,c,e,z⟩
  ·rcases hkk with q'|q'<;>(rw[q] at q'; cases q')
  ·refine .inr ⟨?_,c,(fre _ o2 rfl).trans e,?_⟩
   ·rcases e3 with e3|e3|e3
    ·exact absurd e3 o3
    ·exact .inl e3
    ·exact .inr e3
   ·obtain⟨o,ho,hd⟩:=z;exact⟨o,hk _ _ ho,hd⟩
 ·rcases own x c e with⟨a1,a2,a3,a4⟩|⟨a1,a2⟩
  ·exact⟨none,a4⟩
  ·obtain⟨v,o,ho,hd⟩:=I.cell x c (hcl1 x c a2);exact⟨v,o,hk _ _ ho,hd⟩
 ·rcases own x c e with⟨a1,a2,a3,a4⟩|⟨a1,a2⟩
  ·exact I.hok.fresh (Qi a3)
  ·exact I.freeC x c (hcl1 x c a2)
 ·show(σ++List.replicate k none).length=N'.length;rw[Zu,Xw,I.len,C.len]
theorem u5{elt iter tg:Expr}{ifs:WM}{pos:Pos}{g:TG}{tt:TT}{te:TE}{it:Addr}{tn:Nat->Heap->Prop}{J:It}{s2:WA}{Q:VK}{E:Wv}(C:fh X scope N' k)(hc:X.calm=true)
  (hg:∀cl fp s3 H3,PG (aR X scope cl N' fp s3 H3) tg g) (htt:∀cl fp s3 H3,PF (aR X scope cl N' fp s3 H3) ifs tt) (hte:∀cl fp s3 H3,PE (aR X scope cl N' fp s3 H3) elt te)
  (hcl1:∀x c,cl.lookup x=some c->X.env.cells.lookup x=some c) (hcl2:∀y∈scope.names,y.2=.free->cl.lookup y.1=X.env.cells.lookup y.1)
  (I2:Inv X pins σ H s2) (T:Turn X.prog X.w X.K tg J fp it tn) (st2:tn 0 s2.heap) (f2:∀b∈fp,cI X pins H b)
  (h2:∀l,H l=none->∃W:Nat->Nat->Hp->Prop,(∃m,W 0 m (upd H l (.lst [])))/\∀i m H,W i m H ->
   (J.stop i H/\Q (.ref l) H)\/(J.go i H/\∀x H',J.yld i H x H'->g x (σ++List.replicate k none) H' λσ2 H2=>(∀(j:Nat) v,(σ++List.replicate k none)[j]?=some (some v)->σ2[j]?=some (some v))/\tt σ2 H2 λb H3 =>
    if b=true then te σ2 H3 λy H4=>∃xs,H4 l=some (.lst xs)/\xs.length<sizeLine/\∃m',m'<m/\W (i+1) m' (upd H4 l (.lst (xs++[y]))) else ∃m',m'<m/\W (i+1) m' H3))
  {R:Value->Addr->Result->Shared->Prop} (hR:∀l c H' s' m,Inv X pins σ H' s'->Q (.ref l) H'->s'.heap.Ns c m->cI X pins H' c->R (.ref l) c (.ok .next) s') :
  wpAny (model X.prog X.w) X.A (newList []) (λacc s₃=>wpAny (model X.prog X.w) X.A (newFunctionEnv scope X.env.globals cl [] X.env.qual none .none (some X.env)) (λcenv s₄ =>
   codeAny (model X.prog X.w) X.A (.compStart (.ListComp elt [⟨tg,iter,ifs,0⟩] scope pos) 0 (.ref it) acc { cenv with scope:=relabel scope X.env }) (R acc cenv.locals) s₄) E s₃) E s2:=by
 refine Xb ?_;have hl0:H s2.heap.objs.size=none:=I2.hok.fresh (Zl _);obtain⟨W,⟨m0,w0⟩,turn⟩:=h2 s2.heap.objs.size hl0
 have I3:Inv X pins σ (upd H s2.heap.objs.size (.lst [])) { s2 with heap:=s2.heap.push { cls:=.type "list",data:=.seq ([]:List Value).toArray } } :=
  I2.laid (t':=s2.toks) (λb u e=>Zd _ e) (Zl _) ⟨by show 0<=_; omega,[],0,.nil,Zv _ rfl⟩
 have obj2:∀b∈fp,∃o,s2.heap.get? b=some o/\∀v,o.data≠.cell v:=T.obj _ _ st2;have lt2:∀b∈fp,b<s2.heap.objs.size:=λb hb=>let⟨o,e,_⟩:=obj2 b hb; Zp e
 have f3:∀b∈fp,cI X pins (upd H s2.heap.objs.size (.lst [])) b:=λb hb=>⟨by rw[aC (ZI (lt2 b hb))]; exact(f2 b hb).1,(f2 b hb).2⟩
 generalize hs3:({ s2 with heap:=s2.heap.push { cls:=.type "list",data:=.seq ([]:List Value).toArray } }:Shared)=s3 at I3 ⊢;have st3:tn 0 s3.heap:=T.keep _ _ _ st2 λb hb o e=>by rw[<- hs3]; exact Zd _ e
 generalize hH3:upd H s2.heap.objs.size (.lst [])=H3 at I3 w0 f3;generalize s2.heap.objs.size=l at turn ⊢ w0;clear hs3 hH3;have obj3:∀b∈fp,∃o,s3.heap.get? b=some o/\∀v,o.data≠.cell v:=T.obj _ _ st3;have lt3:∀b∈fp,b<s3.heap.objs.size:=λb hb=>let⟨o,e,_⟩:=obj3 b hb; Zp e
 refine C9 ?_;have hown:=cellsFrom_ok scope.names (s3.heap.push { cls:=.type "dict",data:=.dict #[] }) (s3.heap.objs.size+1) [] ⟨λ_ _ hm=>(nomatch hm),List.Pairwise.nil⟩ (by rw[Z1]; exact Zl _);rw[Z1] at hown;have hns₁:(pushCells (s3.heap.push { cls:=.type "dict",data:=.dict #[] }) scope.names).Ns s3.heap.objs.size λ_=>none:=(Heap.Ns.new s3.heap (.type "dict")).keeps (pushCells_keeps _ _)
 have hk1:∀b o,s3.heap.get? b=some o->(pushCells (s3.heap.push { cls:=.type "dict",data:=.dict #[] }) scope.names).get? b=some o:=λb o e=>pushCells_keeps _ _ b o (Zd _ e)
 generalize hcl':cellsFrom (s3.heap.objs.size+1) scope.names cl=cl';generalize pushCells (s3.heap.push { cls:=.type "dict",data:=.dict #[] }) scope.names=h₁ at hown hns₁ hk1;have I4:Inv (aR X scope cl' N' fp s3 H3) [] (σ++List.replicate k none) H3 { s3 with heap:=h₁ }:=Hl C hc I3 f3 lt3 hcl1 hcl2 hcl'.symm h₁ hns₁ hk1 hown;have st4:tn 0 h₁:=T.keep _ _ _ st3 λb _ o e=>hk1 b o e
 have stat:∀{H':Hp},(∀b∈fp,H' b=none)->∀b∈fp,cI (aR X scope cl' N' fp s3 H3) [] H' b:=λ{H'} hn b hb =>
  ⟨hn b hb,(I4.ok.exf b hb).1,I4.ok.exfs b hb,.inl hb,(I4.ok.exf b hb).2,λp hp=>absurd (show p∈([]:List (Addr×Obj)) from hp) (by simp)⟩
 have loop:∀s4:Shared,s4={ s3 with heap:=h₁ } ->
   codeAny (model X.prog X.w) X.A (.compLoop (.ListComp elt [⟨tg,iter,ifs,0⟩] scope pos) 0 (.ref it) (.ref l) (compEnvC scope cl' s3.heap.objs.size X.env)) (R (.ref l) s3.heap.objs.size) s4:=by
  rintro s4 rfl;refine xM (env:=(aR X scope cl' N' fp s3 H3).env) (λn s'=>∃i H',Inv (aR X scope cl' N' fp s3 H3) [] (σ++List.replicate k none) H' s'/\tn i s'.heap/\(∀b∈fp,H' b=none)/\W i n H') ?_ m0 ⟨0,H3,I4,st4,λb hb=>(f3 b hb).1,w0⟩;rintro n s5 ⟨i,H5,I5,st5,fr5,w5⟩;rcases turn i n H5 w5 with⟨stop,qn⟩|⟨go,step⟩
  ·refine thn (T.done (aR X scope cl' N' fp s3 H3) rfl rfl rfl hc i [] s5 _ H5 _ I5 (stat fr5) st5 stop) λr s6 ⟨hr,I6⟩=>?_
   subst hr;obtain⟨m,hnm,_⟩:=I6.loc;have I7:Inv X pins σ H5 s6:=I3.CI (ch:=fp) I6.os I6.base I6.hok I6.bare λb hb=>⟨(f3 b hb).2.2.2.1,(f3 b hb).2.1,(f3 b hb).2.2.2.2.1,(f3 b hb).2.2.2.2.2⟩
   exact hR l _ H5 s6 m I7 qn hnm (I3.fZ (Zl _) I6.free)
  ·refine thn (T.item (aR X scope cl' N' fp s3 H3) rfl rfl rfl hc i [] s5 _ H5 _ I5 (stat fr5) st5 go) λr s6 ⟨u,hr,h6⟩=>?_
   subst hr;refine thn h6 λ_ s7 ⟨x,H7,I7,r7,y7,st7,fr7⟩=>?_
   have I7':=I7.pinned (stat fr7) (T.obj _ _ st7);refine thn (hg cl' fp s3 H3 _ s7 _ H7 x u _ I7' r7 (step x H7 y7)) λ_ s8 ⟨σ8,H8,I8,w8,q8⟩=>?_
   refine thn (htt cl' fp s3 H3 _ s8 σ8 H8 _ I8 q8) λb s9 ⟨H9,I9,q9⟩=>?_
   have again:∀{H':Hp} {s':WA},Inv (aR X scope cl' N' fp s3 H3) ([]++iK fp s7.heap) σ8 H' s'->(∃m',m'<n/\W (i+1) m' H') ->
     ∃m,m<n/\∃i H',Inv (aR X scope cl' N' fp s3 H3) [] (σ++List.replicate k none) H' s'/\tn i s'.heap/\(∀b∈fp,H' b=none)/\W i m H':=λ{H' s'} I' ⟨m',hm,w'⟩=>by
    refine⟨m',hm,i+1,H',(I'.kH).weak (by rw[I'.len]; exact I4.len) w8,T.keep _ _ _ st7 λb hb o e=>(I'.pin (b,o) (Z6 _ (Z6 _ (kU hb e)))).1,λb hb=>?_,w'⟩;obtain⟨o,e,d⟩:=T.obj _ _ st7 b hb;exact(I'.pin (b,o) (Z6 _ (Z6 _ (kU hb e)))).2.1
   cases b with
   | false=>exact again I9 (by simpa using q9)
   | true =>
    rw[Zf rfl];rw[Zf rfl] at q9;refine thn (hte cl' fp s3 H3 _ s9 σ8 H9 _ I9 q9) λy s10 ⟨yv,H10,I10,r10,xs,hl10,hz,q10⟩=>?_
    refine thn (sD (X:=aR X scope cl' N' fp s3 H3) _ s10 σ8 H10 (.ref l) [yv] (.ref l) [y] (λ_ H'=>∃m',m'<n/\W (i+1) m' H') I10 rfl (.cons r10 .nil) ⟨l,xs,yv,rfl,rfl,hl10,hz,q10⟩) λ_ s11 ⟨_,H11,I11,_,q11⟩=>again I11 q11
 exact codeAny_compStart_list (loop _ rfl) (T.self _ 0 _ _ _ st4 (loop _ rfl))
theorem IZ{elt iter tg:Expr}{ifs:WM}{pos:Pos}{wi:TI}{g:TG}{tt:TT}{te:TE}(C:fh X scope N' k)(hc:X.calm=true)(hi:PI X tg iter wi)
  (hg:∀cl fp s3 H3,PG (aR X scope cl N' fp s3 H3) tg g) (htt:∀cl fp s3 H3,PF (aR X scope cl N' fp s3 H3) ifs tt) (hte:∀cl fp s3 H3,PE (aR X scope cl N' fp s3 H3) elt te)
  (hs:∀x,foldedSetIterable iter X.env x=pure x:=by intro _; rfl):PE X (.ListComp elt [⟨tg,iter,ifs,0⟩] scope pos) (nJ k wi g tt te):=by
 intro pins s σ H Q I h;rw[eval_ListComp];obtain⟨cl,e1,e2,e3⟩:=uN (env:=X.env) (scope:=scope) λy hy hf=>I.ok.has y.1 (C.fr y hy hf)
 refine wpAny_comprehension_free (use:=none) rfl hs e1 C.kind C.names (thn (hi pins s σ H _ I h) λv s1 h1=>thn h1 λitv s2 h2=>?_);obtain⟨it,fp,tn,J,H2,e,I2,T,st2,f2,h2⟩:=h2;subst e;refine u5 (R:=λacc c=>compPost (model X.prog X.w) X.A X.xe none (EP X pins σ Q) acc c) C hc hg htt hte e2 e3 I2 T st2 f2 h2 λl c H' s' m I' q hn fc=>?_
 obtain⟨f0,f1,f2,f3,f4,f5⟩:=fc;exact⟨m,hn,λh' hsb=>⟨.ref l,H',I'.turned (t':=s'.toks) (λb o hb e=>(hsb.2 b hb).trans e) f0 f1 f3 f4 f5,rfl,q⟩⟩
theorem Gg{elt iter tg:Expr}{ifs:WM}{pos:Pos}{wi:TI}{g:TG}{tt:TT}{te:TE}{j:Nat}{y:Str}{py spos:Pos}(C:fh X scope N' k)(hc:X.calm=true)(hi:PI X tg iter wi)
  (hg:∀cl fp s3 H3,PG (aR X scope cl N' fp s3 H3) tg g) (htt:∀cl fp s3 H3,PF (aR X scope cl N' fp s3 H3) ifs tt) (hte:∀cl fp s3 H3,PE (aR X scope cl N' fp s3 H3) elt te)
  (hN:X.N.Nodup) (hj:X.N[j]?=some y) (hy:X.env.scope.names.lookup y=some .local)
  (hsw:swapsWith (.ListComp elt [⟨tg,iter,ifs,0⟩] scope pos) (some (.Name y py)) spos.line X.env=pure true)
  (hs:∀x,foldedSetIterable iter X.env x=pure x:=by intro _; rfl):PS X (.Assign [.Name y py] (.ListComp elt [⟨tg,iter,ifs,0⟩] scope pos) spos) (lB (nJ k wi g tt te) (jr j)):=by
 intro pins s σ H D I h;rw[exec_Assign_Name_used _ _ _ _ hsw];refine Za (wpAny_standAt (Za ?_));show wpAny _ X.A (do let _ <- comprehension (.ListComp elt [⟨tg,iter,ifs,0⟩] scope pos) scope X.env _ (newList []) false (eval iter X.env) (some (assign (.Name y py) X.env))) _ _ s;obtain⟨cl,e1,e2,e3⟩:=uN (env:=X.env) (scope:=scope) λy hy hf=>I.ok.has y.1 (C.fr y hy hf)
 refine Za (XH (wpAny_comprehension_free (use:=some (assign (.Name y py) X.env)) (Q:=λ_ s'=>SP X pins D .next s') rfl hs e1 C.kind C.names
  (thn (hi pins s σ H _ I h) λv s1 h1=>thn h1 λitv s2 h2=>?_)) (λ_ s' hq=>Ze (Ze hq)) λ_ _ e=>e)
 obtain⟨it,fp,tn,J,H2,e,I2,T,st2,f2,h2⟩:=h2;subst e;refine u5 (Q:=λx H1=>jr j x σ H1 D.nx) (R:=λacc c=>compPost (model X.prog X.w) X.A X.xe (some (assign (.Name y py) X.env)) (λ_ s'=>SP X pins D .next s') acc c) C hc hg htt hte e2 e3 I2 T st2 f2 h2 λl c H' s' m I' q hn fc=>?_
 obtain⟨f0,f1,f2,f3,f4,f5⟩:=fc;show wpAny _ X.A (assign (.Name y py) X.env (.ref l)) _ _ _;refine wpAny_assign_Name (vN I' hN hj (.inl hy) (v:=.ref l) rfl (λs'' I'' ch=>?_) (.inr hy));obtain⟨a,hsb,ha⟩:=ch
 have hac:c≠a:=by
  rcases ha with z|z
  ·rw[z]; exact f1
  ·exact λw=>f4 y a z w.symm
 refine⟨m,hn.sameBut hsb hac,λh' hsb2=>⟨_,H',I''.turned (t':=s''.toks) (λb o hb e=>(hsb2.2 b hb).trans e) f0 f1 f3 f4 f5,q⟩⟩
end
end L2

namespace EV
open PySem PySem.Spec PyProof.Rows L2
theorem Paired.get{α β:Type}{F:α->β->Prop}:∀{xs:List α} {ys:List β} {i:Nat} {x:α},Paired F xs ys->xs[i]?=some x->∃y,ys[i]?=some y/\F x y
 | _,_,_,_,.nil,e=>by simp at e
 | _,_,0,_,.cons r _,e=>by simp at e; subst e; exact⟨_,rfl,r⟩
 | _,_,i+1,x,.cons _ t,e=>by
  obtain⟨u,h1,h2⟩:=Paired.get (i:=i) (x:=x) t (by simpa using e);exact⟨u,by simpa using h1,h2⟩
theorem Paired.get'{α β:Type}{F:α->β->Prop}{xs:List α}{ys:List β}{i:Nat}{y:β}(p:Paired F xs ys)(e:ys[i]?=some y):∃x,xs[i]?=some x/\F x y:=by
 have hl:=p.length;have hi:i<xs.length:=by rw[hl]; exact(Zh.mp e).1
 obtain⟨y',e',f⟩:=Paired.get p (Zb hi);rw[e] at e'; cases e';exact⟨_,Zb hi,f⟩
theorem Paired.step{α β:Type}{F:α->β->Prop}{ds:List α}{vs:List β}{n:Nat}(h:Paired F ds vs)(hl:ds.length=n+1):∃d r v q,ds=d::r/\vs=v::q/\F d v/\Paired F r q/\r.length=n:=by
 cases h with
 | nil=>cases hl
 | cons f t=>exact⟨_,_,_,_,rfl,rfl,f,t,Nat.succ.inj hl⟩
theorem Paired.last{α β:Type}{F:α->β->Prop}{ds:List α}{vs:List β}(h:Paired F ds vs)(hl:ds.length=0):ds=[]/\vs=[]:=by
 cases h with
 | nil=>exact⟨rfl,rfl⟩
 | cons f t=>cases hl
theorem Paired.app{α β:Type}{F:α->β->Prop}:∀{a c:List α} {b d:List β},Paired F a b->Paired F c d->Paired F (a++c) (b++d)
 | _,_,_,_,.nil,s=>s
 | _,_,_,_,.cons r t,s=>.cons r (Paired.app t s)
theorem Paired.imp{α β:Type}{F G:α->β->Prop}(f:∀a b,F a b->G a b):∀{l₁:List α} {l₂:List β},Paired F l₁ l₂->Paired G l₁ l₂
 | _,_,.nil=>.nil
 | _,_,.cons r t=>.cons (f _ _ r) (Paired.imp f t)
theorem Paired.rep{α β:Type}{F:α->β->Prop}{a:List α}{b:List β}(h:Paired F a b):∀k:Nat,Paired F (List.replicate k a).flatten (List.replicate k b).flatten
 | 0=>.nil
 | k+1=>by
  simp only[Xv,Qd];exact Paired.app h (Paired.rep h k)
theorem Paired.of_get{α β:Type}{F:α->β->Prop}:∀{xs:List α} {ys:List β},xs.length=ys.length->(∀(i:Nat) x y,xs[i]?=some x->ys[i]?=some y->F x y)->Paired F xs ys
 | [],[],_,_=>.nil
 | [],_::_,h,_=>by simp at h
 | _::_,[],h,_=>by simp at h
 | x::xs,y::ys,h,f=>.cons (f 0 x y rfl rfl) (Paired.of_get (by simpa using h) λi a b e1 e2=>f (i+1) a b (by simpa using e1) (by simpa using e2))
set_option genInjectivity false in
structure Gx where
 K:PySem.W.Frag
def Fro(K:Wy)(H:Hp)(a:Addr)(xs:WN):Prop:=(∃o,H a=some (.frz o (.lst xs)))\/∀H:Hp,SqL K H a xs
theorem Fro.sq{K:Wy}{H:Hp}{a:Addr}{xs:WN}(h:Fro K H a xs):SqL K H a xs:=by
 rcases h with⟨o,h⟩|h
 ·exact .inl (.inr ⟨o,h⟩)
 ·exact h H
set_option genInjectivity false in
set_option genInjectivity false in
inductive Rep(Γ:Gx)(ι:WD)(H:Hp):D->V->Prop
 | non:Rep Γ ι H .non .non
 | bl (b:Bool):Rep Γ ι H (.bl b) (.bl b)
 | int (i:Int):Rep Γ ι H (.int i) (.int i)
 | str (x:Str):Rep Γ ι H (.str x) (.str x)
 | tup {ds:WP} {a:Addr} {xs:WN}:SqT Γ.K H a xs->ds.length=xs.length->(∀(i:Nat) d v,ds[i]?=some d->xs[i]?=some v->Rep Γ ι H d v)->(∀k,allInts ds=some k->H a=some (.tup xs))->Rep Γ ι H (.tup ds) (.ref a)
 | fro {ds:WP} {a:Addr} {xs:WN}:Fro Γ.K H a xs->ds.length=xs.length->(∀(i:Nat) d v,ds[i]?=some d->xs[i]?=some v->Rep Γ ι H d v)->Rep Γ ι H (.fro ds) (.ref a)
 | loc {l:Nat} {a:Addr}:ι[l]?=some a->Rep Γ ι H (.loc l) (.ref a)
abbrev aA(Γ:Gx)(ι:WD)(H:Hp):List D->List V->Prop:=Paired (Rep Γ ι H)
theorem Rep.wZ{Γ:Gx}{ι:WD}{H:Hp}{ds:WP}{a:Addr}{xs:WN}(h:SqT Γ.K H a xs)(p:aA Γ ι H ds xs)(hk:∀k,allInts ds=some k->H a=some (.tup xs)):Rep Γ ι H (.tup ds) (.ref a) :=
 .tup h p.length (λi d v e1 e2=>by
  obtain⟨y,e,f⟩:=Paired.get p e1;rw[e2] at e; cases e; exact f) hk
theorem Rep.i9{Γ:Gx}{ι:WD}{H:Hp}{ds:WP}{a:Addr}{xs:WN}(h:H a=some (.tup xs))(p:aA Γ ι H ds xs):Rep Γ ι H (.tup ds) (.ref a):=.wZ (.of h) p λ_ _=>h
theorem Rep.fW{Γ:Gx}{ι:WD}{H:Hp}{ds:WP}{v:V}(h:Rep Γ ι H (.fro ds) v):∃a xs,v=.ref a/\Fro Γ.K H a xs/\aA Γ ι H ds xs:=by
 cases h with
 | fro h1 h2 h3=>exact⟨_,_,rfl,h1,Paired.of_get h2 h3⟩
theorem Rep.cy{Γ:Gx}{ι:WD}{H:Hp}{ds:WP}{v:V}(h:Rep Γ ι H (.tup ds) v):∃a xs,v=.ref a/\SqT Γ.K H a xs/\aA Γ ι H ds xs:=by
 cases h with
 | tup h1 h2 h3 _=>exact⟨_,_,rfl,h1,Paired.of_get h2 h3⟩
set_option genInjectivity false in
structure Ext(ι ι':WD)(H H':Hp):Prop where
 pre:ι<+:ι'
 tup:∀a xs,H a=some (.tup xs)->H' a=some (.tup xs)
 frz:∀a o u,H a=some (.frz o u)->H' a=some (.frz o u)
 oth:∀a o,H a=some o->a∉ι->H' a=some o
 fresh:∀a∈ι',a∉ι->H a=none
section
variable{ι ι1 ι2:WD}{H H1 H2:Hp}
theorem Ext.refl:Ext ι ι H H:=⟨Z4 _,λ_ _ h=>h,λ_ _ _ h=>h,λ_ _ h _=>h,λ_ h n=>absurd h n⟩
theorem Ext.trans(a:Ext ι ι1 H H1)(b:Ext ι1 ι2 H1 H2):Ext ι ι2 H H2 where
 pre:=a.pre.trans b.pre
 tup:=λx xs h=>b.tup x xs (a.tup x xs h)
 frz:=λx o u h=>b.frz x o u (a.frz x o u h)
 oth:=λx o h n=>b.oth x o (a.oth x o h n) λm=>by
  have:=a.fresh x m n;rw[h] at this; cases this
 fresh:=λx m n=>by
  by_cases h1:x∈ι1
  ·exact a.fresh x h1 n
  ·have:=b.fresh x m h1
   cases q:H x with
   | none=>rfl
   | some o=>rw[a.oth x o q n] at this; cases this
theorem Ext.laid{p:Addr}{o:HO}(hp:H p=none):Ext ι ι H (upd H p o) :=
 ⟨Z4 _,λa xs h=>by rw[aC (br h hp)]; exact h,λa o u h=>by rw[aC (br h hp)]; exact h,λa o h _=>by rw[aC (br h hp)]; exact h,λ_ h n=>absurd h n⟩
theorem Ext.more{p:Addr}{o:HO}(hp:H p=none):Ext ι (ι++[p]) H (upd H p o) :=
 ⟨Zn _ _,λa xs h=>by rw[aC (br h hp)]; exact h,λa o u h=>by rw[aC (br h hp)]; exact h,λa o h _=>by rw[aC (br h hp)]; exact h,λa h n=>by
  rcases ZR.mp h with z|z
  ·exact absurd z n
  ·have:a=p:=by simpa using z
   rw[this]; exact hp⟩
theorem gh{α:Type}{xs ys:List α}(h:xs<+:ys){i:Nat}{x:α}(e:xs[i]?=some x):ys[i]?=some x:=by
 obtain⟨t,rfl⟩:=h;rw[ZE (Zh.mp e).1];exact e
end
section
variable{Γ:Gx}{ι ι1:WD}{H H1:Hp}
theorem Ext.sqT(e:Ext ι ι1 H H1){a:Addr}{xs:WN}(h:SqT Γ.K H a xs):SqT Γ.K H1 a xs:=by
 rcases h with(h|⟨o,h⟩)|h
 ·exact .inl (.inl (e.tup _ _ h))
 ·exact .inl (.inr ⟨o,e.frz _ _ _ h⟩)
 ·exact .inr h
theorem Ext.fro(e:Ext ι ι1 H H1){a:Addr}{xs:WN}(h:Fro Γ.K H a xs):Fro Γ.K H1 a xs:=by
 rcases h with⟨o,h⟩|h
 ·exact .inl ⟨o,e.frz _ _ _ h⟩
 ·exact .inr h
theorem Rep.ext(e:Ext ι ι1 H H1){d:D}{v:V}(h:Rep Γ ι H d v):Rep Γ ι1 H1 d v:=by
 induction h with
 | non=>exact .non
 | bl b=>exact .bl b
 | int i=>exact .int i
 | str x=>exact .str x
 | tup h1 h2 h3 h4 ih=>exact .tup (e.sqT h1) h2 ih λk q=>e.tup _ _ (h4 k q)
 | fro h1 h2 h3 ih=>exact .fro (e.fro h1) h2 ih
 | loc h=>exact .loc (gh e.pre h)
theorem aA.ext(e:Ext ι ι1 H H1){ds:WP}{vs:WN}(h:aA Γ ι H ds vs):aA Γ ι1 H1 ds vs:=Paired.imp (λ_ _ r=>Rep.ext e r) h
end
abbrev aI(Γ:Gx)(ι:WD)(H:Hp):List (List Int×D)->List (List Key×V)->Prop:=Paired λp q=>q.1=p.1.map Sum.inl/\Rep Γ ι H p.2 q.2
noncomputable def jZ(Γ:Gx)(ι:WD)(H:Hp)(a:Addr):Cell->Prop
 | .lst ds=>∃xs,H a=some (.lst xs)/\aA Γ ι H ds xs
 | .dct kvs=>∃xs,H a=some (.dT xs)/\aI Γ ι H kvs xs
 | .fdc kvs=>∃xs,(∃o,H a=some (.frz o (.dT xs)))/\aI Γ ι H kvs xs
set_option genInjectivity false in
structure aq(Γ:Gx)(ι:WD)(H:Hp)(S:af):Prop where
 len:ι.length=S.length
 nd:ι.Nodup
 cell:∀(l:Nat) c,S[l]?=some c->∃a,ι[l]?=some a/\jZ Γ ι H a c
set_option genInjectivity false in
structure bf(Γ:Gx)(ι:WD)(H:Hp)(σ:L2.St)(σd:Sg):Prop where
 len:σ.length=σd.length
 var:∀(i:Nat) d,σd[i]?=some (some d)->∃v,σ[i]?=some (some v)/\Rep Γ ι H d v
theorem bf.ext{Γ:Gx}{ι ι1:WD}{H H1:Hp}{σ:L2.St}{σd:Sg}(e:Ext ι ι1 H H1)(h:bf Γ ι H σ σd):bf Γ ι1 H1 σ σd :=
 ⟨h.len,λi d q=>let⟨v,a,b⟩:=h.var i d q; ⟨v,a,b.ext e⟩⟩
abbrev XW:=Str->af->List Addr->Hp->Prop
def Out{α:Type}(Γ:Gx)(xw:XW)(ι:WD)(H:Hp)(r:Res α)(k:α->af->List Addr->Hp->Prop):Prop:=match r with
 | .ok a S'=>∀ι' H',Ext ι ι' H H'->aq Γ ι' H' S'->k a S' ι' H'
 | .exc c S'=>∀ι' H',Ext ι ι' H H'->aq Γ ι' H' S'->xw c S' ι' H'
 | .bad=>False
section
variable{Γ:Gx}{xw:XW}{ι ι1:WD}{H H1:Hp}{α β:Type}
theorem Out.step{r:Res α}{k:α->af->List Addr->Hp->Prop}(h:Out Γ xw ι H r k)(e:Ext ι ι1 H H1):Out Γ xw ι1 H1 r k:=by
 cases r with
 | ok a S'=>exact λι' H' e' s'=>h ι' H' (e.trans e') s'
 | exc c S'=>exact λι' H' e' s'=>h ι' H' (e.trans e') s'
 | bad=>exact h
theorem Out.mono{r:Res α}{k k':α->af->List Addr->Hp->Prop}(h:Out Γ xw ι H r k)(f:∀a S' ι' H',Ext ι ι' H H'->aq Γ ι' H' S'->k a S' ι' H'->k' a S' ι' H'):Out Γ xw ι H r k':=by
 cases r with
 | ok a S'=>exact λι' H' e' s'=>f _ _ _ _ e' s' (h ι' H' e' s')
 | exc c S'=>exact h
 | bad=>exact h
theorem Out.bind{m:M α}{f:α->M β}{S:af}{k:β->af->List Addr->Hp->Prop}(h:Out Γ xw ι H ((m>>=f) S) k) :
  Out Γ xw ι H (m S) (λa S' ι' H'=>aq Γ ι' H' S'/\Ext ι ι' H H'/\Out Γ xw ι' H' (f a S') k):=by
 rw[cT] at h
 cases q:m S with
 | ok a S'=>rw[q] at h; exact λι' H' e' s'=>⟨s',e',Out.step h e'⟩
 | exc c S'=>rw[q] at h; exact h
 | bad=>rw[q] at h; exact h
theorem Out.here{a:α}{S:af}{k:α->af->List Addr->Hp->Prop}(h:Out Γ xw ι H (.ok a S) k)(s:aq Γ ι H S):k a S ι H:=h ι H .refl s
theorem Out.quiet{m:M α}{S:af}{k:α->af->List Addr->Hp->Prop}(h:Out Γ xw ι H (quiet m S) k)(xw':XW):Out Γ xw' ι H (m S) k:=by
 unfold EV.quiet at h
 cases q:m S with
 | ok a S'=>rw[q] at h; exact h
 | exc c S'=>rw[q] at h; exact h.elim
 | bad=>rw[q] at h; exact h.elim
end
noncomputable def tM(Γ:Gx)(xw:XW)(m:Sg->M D):TE:=λσ H Q=>∃σd ι S,bf Γ ι H σ σd/\aq Γ ι H S/\Out Γ xw ι H (m σd S) λd _ ι' H'=>∀v,Rep Γ ι' H' d v->Q v H'
noncomputable def tMT(Γ:Gx)(xw:XW)(m:Sg->M Bool):TT:=λσ H Q=>∃σd ι S,bf Γ ι H σ σd/\aq Γ ι H S/\Out Γ xw ι H (m σd S) λb _ _ H'=>Q b H'
noncomputable def tMA(Γ:Gx)(xw:XW)(m:Sg->M (List D)):TA:=λσ H Q=>∃σd ι S,bf Γ ι H σ σd/\aq Γ ι H S/\Out Γ xw ι H (m σd S) λds _ ι' H'=>∀vs,aA Γ ι' H' ds vs->Q vs H'
theorem PE.imp{X:Cx}{e:Expr}{t t':TE}(h:PE X e t)(f:∀σ H Q,t' σ H Q->t σ H Q):PE X e t':=λpins s σ H Q I q=>h pins s σ H Q I (f σ H Q q)
theorem PT.imp{X:Cx}{e:Expr}{t t':TT}(h:PT X e t)(f:∀σ H Q,t' σ H Q->t σ H Q):PT X e t':=λpins s σ H Q I q=>h pins s σ H Q I (f σ H Q q)
theorem PW.imp{X:Cx}{e:Expr}{t t':TT}(h:PW X e t)(f:∀σ H Q,t' σ H Q->t σ H Q):PW X e t':=λw pins s σ H Q I q=>h w pins s σ H Q I (f σ H Q q)
theorem PA.imp{X:Cx}{e:WM}{t t':TA}(h:PA X e t)(f:∀σ H Q,t' σ H Q->t σ H Q):PA X e t':=λp pins s σ H Q I q=>h p pins s σ H Q I (f σ H Q q)
theorem PS.imp{X:Cx}{e:Stmt}{t t':TS}(h:PS X e t)(f:∀D σ H,t' D σ H->t D σ H):PS X e t':=λpins s σ H D I q=>h pins s σ H D I (f D σ H q)
theorem PSs.imp{X:Cx}{e:List Stmt}{t t':TS}(h:PSs X e t)(f:∀D σ H,t' D σ H->t D σ H):PSs X e t':=λpins s σ H D I q=>h pins s σ H D I (f D σ H q)
section
variable{Γ:Gx}{xw:XW}{σ:L2.St}{H:Hp}
def uR(Γ:Gx)(xw:XW)(f:D->M D)(x:V)(H:Hp)(Q:VK):Prop:=∃ι S dx,aq Γ ι H S/\Rep Γ ι H dx x/\Out Γ xw ι H (f dx S) λd _ ι' H'=>∀v,Rep Γ ι' H' d v->Q v H'
noncomputable def bg(Γ:Gx)(xw:XW)(f:D->D->M D)(x y:V)(H:Hp)(Q:VK):Prop :=
 ∃ι S dx dy,aq Γ ι H S/\Rep Γ ι H dx x/\Rep Γ ι H dy y/\Out Γ xw ι H (f dx dy S) λd _ ι' H'=>∀v,Rep Γ ι' H' d v->Q v H'
def d7(Γ:Gx)(xw:XW)(f:List D->M D)(xs:WN)(H:Hp)(Q:VK):Prop:=∃ι S ds,aq Γ ι H S/\aA Γ ι H ds xs/\Out Γ xw ι H (f ds S) λd _ ι' H'=>∀v,Rep Γ ι' H' d v->Q v H'
theorem C0{ma:Sg->M D}{f:D->M D}{Q:VK}(h:tM Γ xw (λσ=>ma σ>>=f) σ H Q):tM Γ xw ma σ H λx H1=>uR Γ xw f x H1 Q:=by
 obtain⟨σd,ι,S,he,hs,ho⟩:=h;exact⟨σd,ι,S,he,hs,ho.bind.mono λd S' ι' H' _ _ ⟨s',e',o'⟩ v r=>⟨ι',S',d,s',r,o'⟩⟩
theorem lP{ma mb:Sg->M D}{f:D->D->M D}{Q:VK}(h:tM Γ xw (λσ=>ma σ>>=λx=>mb σ>>=λy=>f x y) σ H Q) :
  tM Γ xw ma σ H λx H1=>tM Γ xw mb σ H1 λy H2=>bg Γ xw f x y H2 Q:=by
 obtain⟨σd,ι,S,he,hs,ho⟩:=h;exact⟨σd,ι,S,he,hs,ho.bind.mono λd S' ι' H' _ _ ⟨s',e',o'⟩ v r=>⟨σd,ι',S',he.ext e',s',o'.bind.mono λd2 S2 ι2 H2 _ _ ⟨s2,e2,o2⟩ v2 r2=>⟨ι2,S2,d,d2,s2,r.ext e2,r2,o2⟩⟩⟩
theorem wW{ma:Sg->M (List D)}{f:List D->M D}{Q:VK}(h:tM Γ xw (λσ=>ma σ>>=f) σ H Q):tMA Γ xw ma σ H λxs H1=>d7 Γ xw f xs H1 Q:=by
 obtain⟨σd,ι,S,he,hs,ho⟩:=h;exact⟨σd,ι,S,he,hs,ho.bind.mono λd S' ι' H' _ _ ⟨s',e',o'⟩ v r=>⟨ι',S',d,s',r,o'⟩⟩
end
end EV

namespace EV
open PySem PySem.Spec PyProof.Rows L2
open PySem.SeqAt (EqAt RcAt)
section
variable{X:Cx}{Γ:Gx}{xw:XW}{pins:Ww}{σ:L2.St}{H:Hp}{s:WA}{ι:WD}{S:af}
theorem aq.list(hS:aq Γ ι H S){d:D}{v:V}{ds:WP}(r:Rep Γ ι H d v)(h:asL S d=some ds):∃a xs,v=.ref a/\SqL Γ.K H a xs/\aA Γ ι H ds xs:=by
 cases d with
 | loc l =>
  cases r with
  | loc q =>
   have h':listAt S l=some ds:=h;unfold listAt at h';split at h'
   ·rename_i es e;cases h';obtain⟨a,ha,xs,hx,r⟩:=hS.cell l _ e;rw[q] at ha; cases ha;exact⟨_,xs,rfl,.of hx,r⟩
   ·cases h'
 | fro es =>
  cases h;obtain⟨a,xs,rfl,hf,rs⟩:=r.fW;exact⟨a,xs,rfl,hf.sq,rs⟩
 | _=>cases h
theorem aq.lst(hS:aq Γ ι H S){l:Nat}{ds:WP}(h:S[l]?=some (.lst ds)):∃a xs,ι[l]?=some a/\H a=some (.lst xs)/\aA Γ ι H ds xs:=by
 obtain⟨a,ha,xs,hx,r⟩:=hS.cell l _ h;exact⟨a,xs,ha,hx,r⟩
theorem vm{l:Nat}:items (.loc l) S=match listAt S l with|some ds=>.ok ds S|none=>.bad:=rfl
theorem gB{α:Type}:∀{xs:List α} {i j:Nat} {x:α},xs.Nodup->xs[i]?=some x->xs[j]?=some x->i=j
 | [],_,_,_,_,h,_=>by simp at h
 | y::r,0,0,_,_,_,_=>rfl
 | y::r,0,j+1,x,nd,h1,h2=>by
  simp at h1 h2;subst h1;exact absurd (ZD h2) (Xk.mp nd).1
 | y::r,i+1,0,x,nd,h1,h2=>by
  simp at h1 h2;subst h2;exact absurd (ZD h1) (Xk.mp nd).1
 | y::r,i+1,j+1,x,nd,h1,h2=>by
  exact Xp (· + 1) (gB (i:=i) (j:=j) (Xk.mp nd).2 (by simpa using h1) (by simpa using h2))
theorem g6{f:D->D->Option Bool}:∀{xs ys:WP} {k:Bool},cu f xs ys=some k->∃e:Nat->Bool,(∀(j:Nat) x y,xs[j]?=some x->ys[j]?=some y->f x y=some (e j))/\k=(List.range (min xs.length ys.length)).all e
 | [],ys,k,h=>⟨λ_=>true,λj x y e1 e2=>by simp at e1,by simp only[cu] at h; cases h; simp⟩
 | _::_,[],k,h=>⟨λ_=>true,λj x y e1 e2=>by simp at e2,by simp only[cu] at h; cases h; simp⟩
 | x::xs,y::ys,k,h=>by
  simp only[cu] at h;split at h
  ·rename_i a b e1 e2;cases h;obtain⟨e,he,hk⟩:=g6 e2;refine⟨λj=>match j with|0=>a|j+1=>e j,λj u v q1 q2=>?_,?_⟩
   ·cases j with
    | zero=>simp at q1 q2; subst q1; subst q2; exact e1
    | succ j=>exact he j u v (by simpa using q1) (by simpa using q2)
   ·rw[show min (x::xs).length (y::ys).length=min xs.length ys.length+1 by simp only[ZF]; omega,List.range_succ_eq_map,Wm,List.all_map];rw[hk];rfl
  ·cases h
theorem Rep.kK{d1 d2:D}{x:V}(q1:Rep Γ ι H d1 x)(q2:Rep Γ ι H d2 x)(e:d1.kd=.flat):d2.kd=.flat:=by
 have h1:yR x=true:=by cases q1<;>first|rfl|cases e
 cases q2<;>first|rfl|cases h1
theorem Rep.A0{d1 d2:D}{x:V}(q1:Rep Γ ι H d1 x)(q2:Rep Γ ι H d2 x)(e:d1.kd=.flat):d1=d2:=by
 cases q1<;>first|(cases e; done)|(cases q2; rfl)
theorem C1{d:D}{k:Bool}(h:jT d d=some k):k=true:=by
 cases d<;>first|(cases h; done)|exact(Zy h).symm|exact(Zy h).symm.trans (XO _)
theorem yi(hK:Γ.K=X.K)(I:Inv X pins σ H s)(hS:aq Γ ι H S):∀(m:Nat) (d1 d2:D) (k:Bool) (x:V),eqD m S d1 d2=some k->Rep Γ ι H d1 x->Rep Γ ι H d2 x->k=true:=by
 obtain⟨K⟩:=Γ;have hK':K=X.K:=hK;subst hK'
 have all:∀(m:Nat),(∀(d1 d2:D) (k:Bool) (x:V),eqD m S d1 d2=some k->Rep ⟨X.K⟩ ι H d1 x->Rep ⟨X.K⟩ ι H d2 x->k=true) ->
   ∀(ds es:WP) (xs:WN) (r:Bool),aA ⟨X.K⟩ ι H ds xs->aA ⟨X.K⟩ ι H es xs->cu (eqD m S) ds es=some r->r=true:=by
  intro m ihm ds es xs r p1 p2 hr;obtain⟨e,he,hk2⟩:=g6 hr;have l1:=p1.length;have l2:=p2.length;rw[hk2,Xn];intro j hj;rw[Z0] at hj;have hj1:j<ds.length:=by omega
  have hj2:j<es.length:=by omega
  obtain⟨y1,a1,a2⟩:=Paired.get p1 (Zb hj1);obtain⟨y2,a3,a4⟩:=Paired.get p2 (Zb hj2);rw[a1] at a3; cases a3;exact ihm _ _ _ y1 (he j _ _ (Zb hj1) (Zb hj2)) a2 a4
 intro m
 induction m with
 | zero=>intro d1 d2 k x h; simp[eqD] at h
 | succ m ihm =>
  intro d1 d2 k x h q1 q2;have hall:=all m ihm
  have tl:∀{es:WP} {a:Addr} {d:D},(∃xs,SqT X.K H a xs)->∀{z},asL S d=some z->Rep ⟨X.K⟩ ι H d (.ref a)->False:=λ{es a d} ht {z} hz hr=>by
   obtain⟨xs,ht⟩:=ht;obtain⟨b,ys,e,sb,_⟩:=hS.list hr hz;cases e;obtain⟨its,_,pl,_⟩:=I.list sb;obtain⟨its2,_,pt,_⟩:=I.tuple ht;exact absurd rfl (SeqAt.ne_of_list_tuple pl.isList pt)
  cases e1:d1.kd<;>cases e2:d2.kd<;>simp only[eqD,e1,e2] at h
  ·have e:=Rep.A0 q1 q2 e1;rw[<- e] at h;exact C1 h
  ·rw[Rep.kK q1 q2 e1] at e2; cases e2
  ·rw[Rep.kK q1 q2 e1] at e2; cases e2
  ·cases h
  ·rw[Rep.kK q2 q1 e2] at e1; cases e1
  ·cases d1<;>first|(cases e1; done)|skip;cases d2<;>first|(cases e2; done)|skip;obtain⟨a,xs,rfl,t1,p1⟩:=q1.cy;obtain⟨b,ys,eb,t2,p2⟩:=q2.cy;cases eb;have e:xs=ys:=I.jF t1 t2;subst e;simp only[ZC] at h;obtain⟨r,hr,hk⟩:=h;have hl:(D.its (D.tup _)).length=(D.its (D.tup _)).length:=(p1.length).trans p2.length.symm;rw[<- hk,hall _ _ xs r p1 p2 hr,hl]; simp
  ·simp only[ZC] at h;obtain⟨z,hz,_⟩:=h;cases d1<;>first|(cases e1; done)|skip;obtain⟨a,xs,rfl,t1,p1⟩:=q1.cy;exact(tl (es:=[]) ⟨xs,t1⟩ hz q2).elim
  ·cases h
  ·rw[Rep.kK q2 q1 e2] at e1; cases e1
  ·simp only[ZC] at h;obtain⟨z,hz,_⟩:=h;cases d2<;>first|(cases e2; done)|skip;obtain⟨a,xs,rfl,t1,p1⟩:=q2.cy;exact(tl (es:=[]) ⟨xs,t1⟩ hz q1).elim
  ·split at h
   ·rename_i ds es hd he;obtain⟨a,xs,rfl,s1,p1⟩:=hS.list q1 hd;obtain⟨b,ys,eb,s2,p2⟩:=hS.list q2 he;cases eb;have e:xs=ys:=I.jK s1 s2;subst e;rw[Zf (p1.length.trans p2.length.symm)] at h;exact hall _ _ xs k p1 p2 h
   ·cases h
  ·cases h
  ·cases h
  ·cases h
  ·cases h
  ·cases h
theorem zE{A:Around}{d1 d2:D}{k:Bool}{x1 x2:V}{u1 u2:Value}(h:jT d1 d2=some k)(r1:Rep Γ ι H d1 x1)(r2:Rep Γ ι H d2 x2)(v1:RelV x1 u1)(v2:RelV x2 u2)(e1:d1.kd=.flat)(e2:d2.kd=.flat):RcAt A s u1 u2 k/\EqAt A s u1 u2 k:=by
 cases r1<;>first|(cases e1; done)|skip
 all_goals (cases r2<;>first|(cases e2; done)|skip)
 ·cases v1; cases v2; cases Zy h; exact⟨RcAt.none_none,EqAt.same _⟩
 ·cases v1; cases v2; cases Zy h; exact⟨.none_bool _,.none_bool _⟩
 ·cases v1; obtain⟨t,rfl⟩:=v2; cases Zy h; exact⟨.none_int _ t,.none_int _ t⟩
 ·cases v1; obtain⟨t,rfl⟩:=v2; cases Zy h; exact⟨.none_str _ t,.none_str _ t⟩
 ·cases v1; cases v2; cases Zy h; exact⟨.bool_none _,.bool_none _⟩
 ·cases v1; cases v2; cases Zy h; exact⟨.bool_bool _ _,.bool_bool _ _⟩
 ·cases v1; obtain⟨t,rfl⟩:=v2; cases Zy h; exact⟨.bool_int _ _ t,.bool_int _ _ t⟩
 ·cases v1; obtain⟨t,rfl⟩:=v2; cases Zy h; exact⟨.bool_str _ _ t,.bool_str _ _ t⟩
 ·obtain⟨ta,rfl⟩:=v1; cases v2; cases Zy h; exact⟨.int_none _ ta,.int_none _ ta⟩
 ·obtain⟨ta,rfl⟩:=v1; cases v2; cases Zy h; exact⟨.int_bool _ ta _,.int_bool _ ta _⟩
 ·obtain⟨ta,rfl⟩:=v1; obtain⟨t,rfl⟩:=v2; cases Zy h; exact⟨.int_int _ ta _ t,.int_int _ ta _ t⟩
 ·obtain⟨ta,rfl⟩:=v1; obtain⟨t,rfl⟩:=v2; cases Zy h; exact⟨.int_str _ ta _ t,.int_str _ ta _ t⟩
 ·obtain⟨ta,rfl⟩:=v1; cases v2; cases Zy h; exact⟨.str_none _ ta,.str_none _ ta⟩
 ·obtain⟨ta,rfl⟩:=v1; cases v2; cases Zy h; exact⟨.str_bool _ ta _,.str_bool _ ta _⟩
 ·obtain⟨ta,rfl⟩:=v1; obtain⟨t,rfl⟩:=v2; cases Zy h; exact⟨.str_int _ ta _ t,.str_int _ ta _ t⟩
 ·obtain⟨ta,rfl⟩:=v1; obtain⟨t,rfl⟩:=v2; cases Zy h; exact⟨.str_str _ ta _ t,.str_str _ ta _ t⟩
theorem oM(hK:Γ.K=X.K)(I:Inv X pins σ H s)(hS:aq Γ ι H S):∀(n:Nat) (A:Around) (d1 d2:D) (k:Bool) (x1 x2:V) (u1 u2:Value),eqD n S d1 d2=some k->Rep Γ ι H d1 x1->Rep Γ ι H d2 x2->RelV x1 u1->RelV x2 u2->A.units+n<cLine ->
  RcAt A s u1 u2 k/\EqAt A s u1 u2 k:=by
 have same:=yi hK I hS;obtain⟨K⟩:=Γ;have hK':K=X.K:=hK;subst hK';intro n
 induction n with
 | zero=>intro A d1 d2 k x1 x2 u1 u2 h; simp[eqD] at h
 | succ n ih =>
  intro A d1 d2 k x1 x2 u1 u2 h r1 r2 v1 v2 hu;have hu0:A.units<cLine:=by omega
  have hu1:A.in1.units+n<cLine:=by show A.units+1+n<cLine; omega
  have h0:=h
  have each:∀{ds es:WP} {xs ys:WN} {its1 its2:Wz} {e:Nat->Bool},aA ⟨X.K⟩ ι H ds xs->aA ⟨X.K⟩ ι H es ys->Vals xs its1->Vals ys its2 ->
    (∀(j:Nat) x y,ds[j]?=some x->es[j]?=some y->eqD n S x y=some (e j))->∀(j:Nat) (h1:j<its1.toArray.size) (h2:j<its2.toArray.size),EqAt A.in1 s its1.toArray[j] its2.toArray[j] (e j):=by
   intro ds es xs ys its1 its2 e rp1 rp2 rv1 rv2 he j h1 h2;rw[Zo] at h1 h2;have l1:=rp1.length;have l2:=rp2.length;have l3:=rv1.length;have l4:=rv2.length;have j1:j<ds.length:=by omega
   have j2:j<es.length:=by omega
   obtain⟨y1,a1,a2⟩:=Paired.get rp1 (Zb j1);obtain⟨y2,a3,a4⟩:=Paired.get rp2 (Zb j2);obtain⟨w1,z1,z2⟩:=rv1.get a1;obtain⟨w2,z3,z4⟩:=rv2.get a3;have:=(ih A.in1 ds[j] es[j] (e j) y1 y2 w1 w2 (he j _ _ (Zb j1) (Zb j2)) a2 a4 z2 z4 hu1).2
   have q1:its1.toArray[j]'(by rw[Zo]; exact h1)=w1:=by
    have:its1[j]?=some its1[j]:=Zb h1;rw[z1] at this; cases this; rfl
   have q2:its2.toArray[j]'(by rw[Zo]; exact h2)=w2:=by
    have:its2[j]?=some its2[j]:=Zb h2;rw[z3] at this; cases this; rfl
   rw[q1,q2]; exact this
  have lst:∀{d:D} {x:V} {u:Value} {zs:WP},Rep ⟨X.K⟩ ι H d x->RelV x u->asL S d=some zs->∃a xs its,x=.ref a/\u=.ref a/\aA ⟨X.K⟩ ι H zs xs/\Vals xs its/\s.heap.IsList a its.toArray:=λ{d x u zs} r rv hz=>by
   obtain⟨b,ys,e,sb,rp⟩:=hS.list r hz;subst e;cases rv;obtain⟨its,rv,p,_⟩:=I.list sb;exact⟨b,ys,its,rfl,rfl,rp,rv,p.isList⟩
  have tpl:∀{ds:WP} {x:V} {u:Value},Rep ⟨X.K⟩ ι H (.tup ds) x->RelV x u->∃a xs its,x=.ref a/\u=.ref a/\aA ⟨X.K⟩ ι H ds xs/\Vals xs its/\s.heap.IsTuple a its.toArray:=λ{ds x u} r rv=>by
   obtain⟨a,xs,e,t,p⟩:=r.cy;subst e;cases rv;obtain⟨its,rv,p2,_⟩:=I.tuple t;exact⟨a,xs,its,rfl,rfl,p,rv,p2⟩
  cases e1:d1.kd<;>cases e2:d2.kd<;>simp only[eqD,e1,e2] at h
  ·exact zE h r1 r2 v1 v2 e1 e2
  ·cases h;cases d2<;>first|(cases e2; done)|skip;obtain⟨a,xs,its,rfl,rfl,_,_,p⟩:=tpl r2 v2;cases r1<;>first|(cases e1; done)|skip
   ·cases v1; exact⟨.none_tuple p hu0,.none_tuple p hu0⟩
   ·cases v1; exact⟨.bool_tuple _ p hu0,.bool_tuple _ p hu0⟩
   ·obtain⟨ta,rfl⟩:=v1; exact⟨.int_tuple _ ta p hu0,.int_tuple _ ta p hu0⟩
   ·obtain⟨ta,rfl⟩:=v1; exact⟨.str_tuple _ ta p hu0,.str_tuple _ ta p hu0⟩
  ·simp only[ZC] at h;obtain⟨z,hz,rfl⟩:=h;obtain⟨a,xs,its,rfl,rfl,_,_,p⟩:=lst r2 v2 hz;cases r1<;>first|(cases e1; done)|skip
   ·cases v1; exact⟨.none_list p hu0,.none_list p hu0⟩
   ·cases v1; exact⟨.bool_list _ p hu0,.bool_list _ p hu0⟩
   ·obtain⟨ta,rfl⟩:=v1; exact⟨.int_list _ ta p hu0,.int_list _ ta p hu0⟩
   ·obtain⟨ta,rfl⟩:=v1; exact⟨.str_list _ ta p hu0,.str_list _ ta p hu0⟩
  ·cases h
  ·cases h;cases d1<;>first|(cases e1; done)|skip;obtain⟨a,xs,its,rfl,rfl,_,_,p⟩:=tpl r1 v1;cases r2<;>first|(cases e2; done)|skip
   ·cases v2; exact⟨.tuple_none p hu0,.tuple_none p hu0⟩
   ·cases v2; exact⟨.tuple_bool _ p hu0,.tuple_bool _ p hu0⟩
   ·obtain⟨ta,rfl⟩:=v2; exact⟨.tuple_int _ ta p hu0,.tuple_int _ ta p hu0⟩
   ·obtain⟨ta,rfl⟩:=v2; exact⟨.tuple_str _ ta p hu0,.tuple_str _ ta p hu0⟩
  ·cases d1<;>first|(cases e1; done)|skip;cases d2<;>first|(cases e2; done)|skip;obtain⟨a,xs,its1,rfl,rfl,rp1,rv1,p1⟩:=tpl r1 v1;obtain⟨b,ys,its2,rfl,rfl,rp2,rv2,p2⟩:=tpl r2 v2;simp only[ZC] at h;obtain⟨r,hr,hk⟩:=h;obtain⟨e,he,hk2⟩:=g6 hr
   have rc:RcAt A s (.ref a) (.ref b) k:=by
    have:=RcAt.tuples (A:=A) (e:=e) p1 p2 hu0 (each rp1 rp2 rv1 rv2 he);rw[Zo,Zo,<- rv1.length,<- rv2.length,<- rp1.length,<- rp2.length] at this;rw[<- hk,hk2]; exact this
   refine⟨rc,?_⟩
   by_cases hab:a=b
   ·subst hab;rw[same _ _ _ k _ h0 r1 r2]; exact EqAt.same _
   ·exact .of_refs hab rc
  ·simp only[ZC] at h;obtain⟨z,hz,rfl⟩:=h;cases d1<;>first|(cases e1; done)|skip;obtain⟨a,xs,its1,rfl,rfl,rp1,rv1,p1⟩:=tpl r1 v1;obtain⟨b,ys,its2,rfl,rfl,rp2,rv2,p2⟩:=lst r2 v2 hz;exact⟨.tuple_list p1 p2 hu0,.tuple_list p1 p2 hu0⟩
  ·cases h
  ·simp only[ZC] at h;obtain⟨z,hz,rfl⟩:=h;obtain⟨a,xs,its,rfl,rfl,_,_,p⟩:=lst r1 v1 hz;cases r2<;>first|(cases e2; done)|skip
   ·cases v2; exact⟨.list_none p hu0,.list_none p hu0⟩
   ·cases v2; exact⟨.list_bool _ p hu0,.list_bool _ p hu0⟩
   ·obtain⟨ta,rfl⟩:=v2; exact⟨.list_int _ ta p hu0,.list_int _ ta p hu0⟩
   ·obtain⟨ta,rfl⟩:=v2; exact⟨.list_str _ ta p hu0,.list_str _ ta p hu0⟩
  ·simp only[ZC] at h;obtain⟨z,hz,rfl⟩:=h;cases d2<;>first|(cases e2; done)|skip;obtain⟨a,xs,its1,rfl,rfl,rp1,rv1,p1⟩:=tpl r2 v2;obtain⟨b,ys,its2,rfl,rfl,rp2,rv2,p2⟩:=lst r1 v1 hz;exact⟨.list_tuple p2 p1 hu0,.list_tuple p2 p1 hu0⟩
  ·split at h
   ·rename_i ds es hd he;obtain⟨a,xs,its1,rfl,rfl,rp1,rv1,p1⟩:=lst r1 v1 hd;obtain⟨b,ys,its2,rfl,rfl,rp2,rv2,p2⟩:=lst r2 v2 he;have e1:its1.toArray.size=ds.length:=by rw[Zo,<- rv1.length,<- rp1.length]
    have e2:its2.toArray.size=es.length:=by rw[Zo,<- rv2.length,<- rp2.length]
    have rc:RcAt A s (.ref a) (.ref b) k:=by
     by_cases hlen:ds.length=es.length
     ·rw[Zf hlen] at h;obtain⟨e,he',hk2⟩:=g6 h;have:=RcAt.lists (A:=A) (e:=e) p1 p2 (by omega) hu0 (each rp1 rp2 rv1 rv2 he');rw[e1] at this; rw[hk2,<- hlen,Wu]; exact this
     ·rw[Zg hlen] at h;cases h;exact RcAt.lists_lengths p1 p2 (by rw[e1,e2]; simpa using hlen) hu0
    refine⟨rc,?_⟩
    by_cases hab:a=b
    ·subst hab;rw[same _ _ _ k _ h0 r1 r2]; exact EqAt.same _
    ·exact .of_refs hab rc
   ·cases h
  ·cases h
  ·cases h
  ·cases h
  ·cases h
  ·cases h
end
end EV

namespace HT
open PySem PyProof.Rows
section
variable{prog:WC}{w:WG}{A:Around}{E:Wv}{s:WA}
end
end HT
namespace EV
open PySem PySem.Spec PyProof.Rows L2
open PySem.SeqAt (EqAt RcAt)
section
variable{X:Cx}{Γ:Gx}{xw:XW}{pins:Ww}{σ:L2.St}{H:Hp}{s:WA}{ι:WD}{S:af}
theorem aq.new(hS:aq Γ ι H S){p:Addr}(hp:H p=none):p∉ι:=λm=>by
 obtain⟨l,e⟩:=ZS m;have hl:l<S.length:=by rw[<- hS.len]; exact(Zh.mp e).1
 obtain⟨a,ha,c⟩:=hS.cell l S[l] (Zb hl);rw[e] at ha; cases ha
 cases q:S[l] with
 | lst ds=>rw[q] at c; obtain⟨xs,hx,_⟩:=c; rw[hp] at hx; cases hx
 | dct kvs=>rw[q] at c; obtain⟨xs,hx,_⟩:=c; rw[hp] at hx; cases hx
 | fdc kvs=>rw[q] at c; obtain⟨xs,⟨o,hx⟩,_⟩:=c; rw[hp] at hx; cases hx
theorem jZ.ext{ι1:WD}{H1:Hp}(e:Ext ι ι1 H H1){a:Addr}{c:Cell}(h:jZ Γ ι H a c)(hl:∀o,H a=some o->H1 a=some o):jZ Γ ι1 H1 a c:=by
 cases c with
 | lst ds=>obtain⟨xs,hx,r⟩:=h; exact⟨xs,hl _ hx,aA.ext e r⟩
 | dct kvs=>obtain⟨xs,hx,r⟩:=h; exact⟨xs,hl _ hx,Paired.imp (λ_ _ q=>⟨q.1,q.2.ext e⟩) r⟩
 | fdc kvs=>obtain⟨xs,⟨o,hx⟩,r⟩:=h; exact⟨xs,⟨o,hl _ hx⟩,Paired.imp (λ_ _ q=>⟨q.1,q.2.ext e⟩) r⟩
theorem aq.more(hS:aq Γ ι H S){p:Addr}(hp:H p=none){ds:WP}{xs:WN}(r:aA Γ ι H ds xs):aq Γ (ι++[p]) (upd H p (.lst xs)) (S++[.lst ds]):=by
 have e:Ext ι (ι++[p]) H (upd H p (.lst xs)):=Ext.more hp;refine⟨by simp[hS.len],QZ.mpr ⟨hS.nd,by simp,?_⟩,λl c h=>?_⟩
 ·intro a ha b hb;have:b=p:=by simpa using hb
  subst this;exact λz=>hS.new hp (z▸ha)
 ·by_cases hl:l<S.length
  ·rw[ZE hl] at h;obtain⟨a,ha,c1⟩:=hS.cell l c h;exact⟨a,gh e.pre ha,c1.ext e λys hy=>by rw[aC (br hy hp)]; exact hy⟩
  ·rw[ZN (by omega)] at h
   have hl2:l-S.length=0:=by
    have:=(Zh.mp h).1;simp at this; omega
   rw[hl2] at h;have h':(Cell.lst ds)=c:=by simpa using h
   subst h';have e1:l=ι.length:=by rw[hS.len]; omega
   subst e1;exact⟨p,by simp,xs,bZ,aA.ext e r⟩
theorem aq.laid(hS:aq Γ ι H S){p:Addr}(hp:H p=none)(o:HO):aq Γ ι (upd H p o) S :=
 ⟨hS.len,hS.nd,λl c h=>let⟨a,ha,c1⟩:=hS.cell l c h; ⟨a,ha,c1.ext (Ext.laid hp) λys hy=>by rw[aC (br hy hp)]; exact hy⟩⟩
theorem Out.alloc{Q:VK}{ds:WP}{xs:WN}{p:Addr}(ho:Out Γ xw ι H (alloc (.lst ds) S) λd _ ι' H'=>∀v,Rep Γ ι' H' d v->Q v H')(hS:aq Γ ι H S)(hp:H p=none)(r:aA Γ ι H ds xs):Q (.ref p) (upd H p (.lst xs)) :=
 ho (ι++[p]) _ (Ext.more hp) (hS.more hp r) _ (.loc (by rw[<- hS.len]; simp))
theorem Out.tup{Q:VK}{ds:WP}{xs:WN}{p:Addr}(ho:Out Γ xw ι H (.ok (.tup ds) S) λd _ ι' H'=>∀v,Rep Γ ι' H' d v->Q v H')(hS:aq Γ ι H S)(hp:H p=none)(r:aA Γ ι H ds xs):Q (.ref p) (upd H p (.tup xs)) :=
 ho ι _ (Ext.laid hp) (hS.laid hp _) _ (.i9 bZ (aA.ext (Ext.laid hp) r))
theorem Out.val{Q:VK}{d:D}{v:V}(ho:Out Γ xw ι H (.ok d S) λd _ ι' H'=>∀v,Rep Γ ι' H' d v->Q v H')(hS:aq Γ ι H S)(r:Rep Γ ι H d v):Q v H:=ho.here hS v r
theorem Out.guard{α:Type}{b:Bool}{m:M α}{k:α->af->List Addr->Hp->Prop}(h:Out Γ xw ι H (EV.guard b m S) k):b=true/\Out Γ xw ι H (m S) k:=by
 cases b with
 | true=>exact⟨rfl,h⟩
 | false=>exact h.elim
theorem gG{n:Nat}(h:fits n=true):n<=sizeLine:=Zs h
theorem wz{n:Nat}(h:fG n=true):n<sizeLine:=Zs h
theorem Out.opt{α β:Type}{o:Option α}{f:α->M β}{k:β->af->List Addr->Hp->Prop}(h:Out Γ xw ι H ((EV.opt o>>=f) S) k):∃a,o=some a/\Out Γ xw ι H (f a S) k:=by
 cases o with
 | none=>exact h.elim
 | some a=>exact⟨a,rfl,h⟩
theorem Out.aU{l:Nat}{f:List D->M D}{k:D->af->List Addr->Hp->Prop}(h:Out Γ xw ι H (EV.aU l f S) k):∃ds,S[l]?=some (.lst ds)/\Out Γ xw ι H (f ds S) k:=by
 have e:EV.aU l f S=match S[l]? with|some (.lst ds)=>f ds S|_=>.bad:=rfl
 rw[e] at h
 cases q:S[l]? with
 | none=>rw[q] at h; exact h.elim
 | some c =>
  rw[q] at h
  cases c with
  | lst ds=>exact⟨ds,rfl,h⟩
  | dct kvs=>exact h.elim
  | fdc kvs=>exact h.elim
theorem GZ(hK:Γ.K=X.K):OpR X (binaryOp .Add) (bg Γ xw (opD .add)):=by
 intro pins s σ H x y v u Q I rx ry h;obtain⟨ι,S,dx,dy,hS,r1,r2,ho⟩:=h
 cases dx with
 | int i =>
  cases dy with
  | int j=>cases r1; cases r2; exact BP pins s σ H _ _ v u Q I rx ry ⟨i,j,rfl,rfl,Out.val ho hS (.int _)⟩
  | _=>exact ho.elim
 | loc l =>
  cases dy with
  | loc m =>
   obtain⟨ds,e1,ho⟩:=Out.aU ho;obtain⟨es,e2,ho⟩:=Out.aU ho;obtain⟨hz,ho⟩:=Out.guard ho;obtain⟨a,xs,ha,hx,p1⟩:=hS.lst e1;obtain⟨b,ys,hb,hy,p2⟩:=hS.lst e2
   cases r1 with
   | loc q1 =>
    cases r2 with
    | loc q2 =>
     rw[ha] at q1; cases q1;rw[hb] at q2; cases q2;exact xQ pins s σ H _ _ v u Q I rx ry ⟨a,b,xs,ys,rfl,rfl,hx,hy,by rw[<- p1.length,<- p2.length]; exact gG hz,λp hp=>Out.alloc ho hS hp (Paired.app p1 p2)⟩
  | _=>exact ho.elim
 | _=>exact ho.elim
theorem GX:OpR X (binaryOp .Sub) (bg Γ xw (opD .sub)):=by
 intro pins s σ H x y v u Q I rx ry h;obtain⟨ι,S,dx,dy,hS,r1,r2,ho⟩:=h
 cases dx with
 | int i =>
  cases dy with
  | int j=>cases r1; cases r2; exact Hy pins s σ H _ _ v u Q I rx ry ⟨i,j,rfl,rfl,Out.val ho hS (.int _)⟩
  | _=>exact ho.elim
 | _=>exact ho.elim
theorem Hw(hK:Γ.K=X.K):OpR X (binaryOp .Mult) (bg Γ xw (opD .mul)):=by
 intro pins s σ H x y v u Q I rx ry h;obtain⟨ι,S,dx,dy,hS,r1,r2,ho⟩:=h
 cases dx with
 | int i =>
  cases dy with
  | int j =>
   cases r1; cases r2;obtain⟨hz,ho⟩:=Out.guard ho;refine xu pins s σ H _ _ v u Q I rx ry ⟨i,j,rfl,rfl,?_,Out.val ho hS (.int _)⟩;rcases Bool.or_eq_true_iff.mp hz with hz|hz
   ·exact .inl (Zs hz)
   ·exact .inr (Zs hz)
  | _=>exact ho.elim
 | loc l =>
  cases dy with
  | int j =>
   obtain⟨ds,hl,ho⟩:=Out.aU ho;obtain⟨a,xs,ha,hx,p1⟩:=hS.lst hl;cases r2
   cases r1 with
   | loc q =>
    rw[ha] at q; cases q;obtain⟨hz,ho⟩:=Out.guard ho;rw[ZA,ZA] at hz;exact EU pins s σ H _ _ v u Q I rx ry ⟨a,j,xs,rfl,rfl,hx,Zs hz.1.1,Zs hz.1.2,by rw[<- p1.length]; exact gG hz.2,λp hp=>Out.alloc ho hS hp (Paired.rep p1 _)⟩
  | _=>exact ho.elim
 | _=>exact ho.elim
theorem IK:OpR X (binaryOp .FloorDiv) (bg Γ xw (opD .fdiv)):=by
 intro pins s σ H x y v u Q I rx ry h;obtain⟨ι,S,dx,dy,hS,r1,r2,ho⟩:=h
 cases dx with
 | int i =>
  cases dy with
  | int j =>
   cases r1; cases r2;obtain⟨hz,ho⟩:=Out.guard ho;rw[ZA] at hz;exact DH pins s σ H _ _ v u Q I rx ry ⟨i,j,rfl,rfl,⟨Zs hz.1,Zs hz.2⟩,Out.val ho hS (.int _)⟩
  | _=>exact ho.elim
 | _=>exact ho.elim
theorem zL:OpR X (binaryOp .Mod) (bg Γ xw (opD .mod)):=by
 intro pins s σ H x y v u Q I rx ry h;obtain⟨ι,S,dx,dy,hS,r1,r2,ho⟩:=h
 cases dx with
 | int i =>
  cases dy with
  | int j =>
   cases r1; cases r2;obtain⟨hz,ho⟩:=Out.guard ho;exact Bo pins s σ H _ _ v u Q I rx ry ⟨i,j,rfl,rfl,Zs hz,Out.val ho hS (.int _)⟩
  | _=>exact ho.elim
 | _=>exact ho.elim
theorem jM{op:CmpOp}{p:Int->Int->Bool}(h0:OpR X (compareOp op) (rI0 λi j=>.bl (p i j))):OpR X (compareOp op) (bg Γ xw (gr p)):=by
 intro pins s σ H x y v u Q I rx ry h;obtain⟨ι,S,dx,dy,hS,r1,r2,ho⟩:=h
 cases dx with
 | int i =>
  cases dy with
  | int j=>cases r1; cases r2; exact h0 pins s σ H _ _ v u Q I rx ry ⟨i,j,rfl,rfl,Out.val ho hS (.bl _)⟩
  | _=>exact ho.elim
 | _=>exact ho.elim
theorem C5:OpR X (compareOp .Lt) (bg Γ xw (cmD .lt)):=jM E7
theorem Ao:OpR X (compareOp .LtE) (bg Γ xw (cmD .le)):=jM Hu
theorem zm:OpR X (compareOp .Gt) (bg Γ xw (cmD .gt)):=jM IV
theorem DZ:OpR X (compareOp .GtE) (bg Γ xw (cmD .ge)):=jM GL
theorem wA{dx dy:D}{f:Bool->M D}{k:D->af->List Addr->Hp->Prop}(ho:Out Γ xw ι H ((eqM dx dy>>=f) S) k):∃b,eqD deep S dx dy=some b/\Out Γ xw ι H (f b S) k:=by
 rw[cT] at ho;unfold eqM at ho
 cases q:eqD deep S dx dy with
 | none=>rw[q] at ho; exact ho.elim
 | some b=>rw[q] at ho; exact⟨b,rfl,ho⟩
theorem s_eq(hK:Γ.K=X.K)(hu:X.A.units+64<cLine):OpR X (compareOp .Eq) (bg Γ xw (cmD .eq)):=by
 intro pins s σ H x y v u Q I rx ry h;obtain⟨ι,S,dx,dy,hS,r1,r2,ho⟩:=h;obtain⟨k,q,ho⟩:=wA ho;have:=(oM hK I hS deep X.A dx dy k x y v u q r1 r2 rx ry (by unfold deep; omega)).1;exact this X.prog X.w X.xe _ ⟨.bl k,H,I,rfl,Out.val ho hS (.bl _)⟩
end
end EV

namespace NEQ
open PySem PySem.SeqAt
open AutoSeq1 (wpAny_loadPart')
open MeetsSeq MeetsSeq2 MeetsSeq3 SeqRoads2
theorem Jc(p q:Addr)(us ws:WJ)(n1 n2:Nat)(d1 d2:Option Addr)(z1 z2:Array (Option Value))(hlen:us.size=ws.size)(same:Nat->Bool)(left:Nat) :
  ∀at_:Nat,us.size-at_=left->Meets (Builtin.«list.__eq__.loop» ⟨[.ref p,.ref q,rawInt at_,rawInt 3],[]⟩)
   (λA R st=>st.heap.get? p=some { cls:=.type "list",dict:=d1,data:=.seq us n1,slots:=z1 }/\st.heap.get? q=some { cls:=.type "list",dict:=d2,data:=.seq ws n2,slots:=z2 } /\
    (∀j (h1:j<us.size) (h2:j<ws.size),EqAt A.in1 st us[j] ws[j] (same j))/\R (.ok (.ret (.bool (!((List.range us.size).drop at_).all same)))) st):=by
 induction left with
 | zero =>
  intro at_ hk prog w A R st hyp;obtain⟨hp,g,dr,tk,os⟩:=st;obtain⟨hl,hb,he,fin⟩:=hyp
  wp_walk using wpAny_loadPart' hl,wpAny_loadPart' hb
  have no1:us[((at_:Nat):Int).toNat]?=none:=by simp; omega
  have no2:ws[((at_:Nat):Int).toNat]?=none:=by simp; omega
  have nil:(List.range us.size).drop at_=[]:=by simp; omega
  rw[nil] at fin;rw[no1,no2]
  wp_walk using wpAny_loadPart' hl,wpAny_loadPart' hb
  show R (.ok (.ret (.bool (us.size != ws.size)))) _;rw[hlen];simpa using fin
 | succ left ih =>
  intro at_ hk prog w A R st hyp;obtain⟨hp,g,dr,tk,os⟩:=st;obtain⟨hl,hb,he,fin⟩:=hyp
  wp_walk using wpAny_loadPart' hl,wpAny_loadPart' hb
  have lt1:at_<us.size:=by omega
  have lt2:at_<ws.size:=by omega
  have yes1:us[((at_:Nat):Int).toNat]?=some us[at_]:=by simp[lt1]
  have yes2:ws[((at_:Nat):Int).toNat]?=some ws[at_]:=by simp[lt2]
  have cons:(List.range us.size).drop at_=at_::(List.range us.size).drop (at_+1):=by simp[Xo,lt1]
  have up:((at_:Int)+1)=((at_+1:Nat):Int):=by push_cast; rfl
  rw[cons,Wm] at fin;rw[yes1,yes2];refine Za (he at_ lt1 lt2 prog w _ _ ?_)
  cases ev:same at_ with
  | true =>
   rw[ev] at fin
   wp_walk
   rw[up]
   exact⟨QF plain_eq_loop _,XX entry_eq_loop (by
    rw[XI plain_eq_loop _];exact ih (at_+1) (by omega) prog w A R _ ⟨hl,hb,he,by simpa using fin⟩)⟩
  | false =>
   rw[ev] at fin
   wp_walk using wpAny_loadPart' hl,wpAny_loadPart' hb
   rw[yes1,yes2]
   wp_walk
   simpa using fin
theorem zV(p q:Addr)(us ws:WJ)(n1 n2:Nat)(d1 d2:Option Addr)(z1 z2:Array (Option Value))(hlen:us.size=ws.size)(same:Nat->Bool) :
  Meets (Builtin.«list.__ne__» ⟨[.ref p,.ref q],[]⟩)
   (λA R st=>st.heap.get? p=some { cls:=.type "list",dict:=d1,data:=.seq us n1,slots:=z1 }/\st.heap.get? q=some { cls:=.type "list",dict:=d2,data:=.seq ws n2,slots:=z2 } /\
    (∀j (h1:j<us.size) (h2:j<ws.size),EqAt A.in1 st us[j] ws[j] (same j))/\R (.ok (.ret (.bool (!(List.range us.size).all same)))) st):=by
 intro prog w A R st hyp;obtain⟨hp,g,dr,tk,os⟩:=st;obtain⟨hl,hb,he,fin⟩:=hyp;have f3:=AutoSeq1.sub_list_list;have hne:¬(us.size != ws.size)=true:=by simp[hlen]
 wp_walk using wpAny_loadPart' hl,wpAny_loadPart' hb
 exact⟨QF plain_eq_loop _,XX entry_eq_loop (by
  rw[XI plain_eq_loop _];exact Jc p q us ws n1 n2 d1 d2 z1 z2 hlen same _ 0 rfl prog w A R _ ⟨hl,hb,he,by simpa using fin⟩)⟩
theorem Ir(p q:Addr)(us ws:WJ)(n1 n2:Nat)(d1 d2:Option Addr)(z1 z2:Array (Option Value))(hlen:(us.size != ws.size)=true) :
  Meets (Builtin.«list.__ne__» ⟨[.ref p,.ref q],[]⟩)
   (λ_ R st=>st.heap.get? p=some { cls:=.type "list",dict:=d1,data:=.seq us n1,slots:=z1 }/\st.heap.get? q=some { cls:=.type "list",dict:=d2,data:=.seq ws n2,slots:=z2 } /\
    R (.ok (.ret (.bool true))) st) :=
 .of_wp λprog w A R st hyp=>by
  obtain⟨hp,g,dr,tk,os⟩:=st;obtain⟨hl,hb,fin⟩:=hyp;have f3:=AutoSeq1.sub_list_list
  wp_walk using wpAny_loadPart' hl,wpAny_loadPart' hb
  exact⟨_,rfl,fin⟩
theorem DN(p q:Addr)(us ws:WJ)(n1 n2:Nat)(d1 d2:Option Addr)(z1 z2:Array (Option Value))(same:Nat->Bool) :
  Meets (Builtin.«tuple.__ne__» ⟨[.ref p,.ref q],[]⟩)
   (λA R st=>st.heap.get? p=some { cls:=.type "tuple",dict:=d1,data:=.seq us n1,slots:=z1 }/\st.heap.get? q=some { cls:=.type "tuple",dict:=d2,data:=.seq ws n2,slots:=z2 } /\
    (∀j (h1:j<us.size) (h2:j<ws.size),EqAt A.in1 st us[j] ws[j] (same j)) /\
    R (.ok (.ret (.bool (!((List.range (min us.size ws.size)).all same&&us.size==ws.size))))) st) :=
 .of_wp λprog w A R st hyp=>by
  obtain⟨hp,g,dr,tk,os⟩:=st;obtain⟨hl,hb,he,fin⟩:=hyp;have f2:=AutoSeq1.sub_tuple_tuple;have zl:(us.toList.zip ws.toList).length=min us.size ws.size:=by simp
  wp_walk using wpAny_loadPart' hl,wpAny_loadPart' hb,QA _ (λmore b s'=>b.1=none/\s'=⟨hp,g,dr,tk,os⟩/\∃i,more=(us.toList.zip ws.toList).drop i /\
   R (.ok (.ret (.bool (!(((List.range (min us.size ws.size)).drop i).all same&&us.size==ws.size))))) ⟨hp,g,dr,tk,os⟩) _
  case turn =>
   rintro⟨y,x⟩ more b s' ⟨hb',rfl,i,hz,hR⟩
   have lt:i<(us.toList.zip ws.toList).length:=by
    rcases Nat.lt_or_ge i (us.toList.zip ws.toList).length with h'|h'
    ·exact h'
    ·rw[List.drop_of_length_le h'] at hz; cases hz
   have hm:i<min us.size ws.size:=zl▸lt;have h1:i<us.size:=ZM hm (Nat.min_le_left _ _);have h2:i<ws.size:=ZM hm (Nat.min_le_right _ _);rw[Xo lt] at hz;injection hz with pair hmore;have hy:y=us[i]:=by have:=Xp Prod.fst pair; simpa using this
   have hx:x=ws[i]:=by have:=Xp Prod.snd pair; simpa using this
   subst hy hx;have cons:(List.range (min us.size ws.size)).drop i=i::(List.range (min us.size ws.size)).drop (i+1):=by simp[Xo,hm]
   rw[cons,Wm] at hR;refine Za (he i h1 h2 prog w _ _ ?_)
   cases ev:same i with
   | true =>
    rw[ev] at hR
    wp_walk
    exact⟨rfl,rfl,i+1,hmore,by simpa using hR⟩
   | false =>
    rw[ev] at hR
    wp_walk
    exact⟨_,rfl,by simpa using hR⟩
  case fin =>
   rintro⟨b1,b2⟩ s' ⟨hb',rfl,i,hz,hR⟩;simp only at hb';subst hb'
   have ge:min us.size ws.size<=i:=by
    rcases Nat.lt_or_ge i (us.toList.zip ws.toList).length with h'|h'
    ·rw[Xo h'] at hz; cases hz
    ·exact zl▸h'
   rw[List.drop_of_length_le (by simpa using ge)] at hR
   wp_walk
   exact⟨_,rfl,by simpa [Builtin.Tuple.tupleCompareSizes,bne] using hR⟩
  case h =>
   exact⟨rfl,rfl,0,rfl,by simpa using fin⟩
section
variable{prog:WC}{w:WG}{A:Around}{E:Wv}{s:WA}
theorem xK{l b:Addr}{us ws:WJ}{same:Nat->Bool}{Q:Wv}(hl:s.heap.IsList l us)(hb:s.heap.IsList b ws)(hlen:us.size=ws.size)(hu:A.units<cLine)
  (he:∀j (h1:j<us.size) (h2:j<ws.size),EqAt A.in1 s us[j] ws[j] (same j)) (h:Q (.bool (!(List.range us.size).all same)) s):wpAny (model prog w) A (compareOp .NotEq (.ref l) (.ref b)) Q E s:=by
 obtain⟨⟨c1,d1,t1,z1⟩,o1,k1,n1,e1⟩:=id hl;obtain⟨⟨c2,d2,t2,z2⟩,o2,k2,n2,e2⟩:=id hb;simp only at k1 e1 k2 e2;subst k1 e1 k2 e2;exact Q4 (op:=.NotEq) ⟨_,o1,rfl⟩ ⟨_,o2,rfl⟩ F.slot_list_ne F.entry_list_ne (F.args_list_ne_2 _ _) (zV l b us ws n1 n2 d1 d2 z1 z2 hlen same) ⟨o1,o2,he,⟨(λx=>nomatch x),h⟩⟩ hu
theorem G0{l b:Addr}{us ws:WJ}{Q:Wv}(hl:s.heap.IsList l us)(hb:s.heap.IsList b ws)(hlen:(us.size != ws.size)=true)(hu:A.units<cLine)
  (h:Q (.bool true) s):wpAny (model prog w) A (compareOp .NotEq (.ref l) (.ref b)) Q E s:=by
 obtain⟨⟨c1,d1,t1,z1⟩,o1,k1,n1,e1⟩:=id hl;obtain⟨⟨c2,d2,t2,z2⟩,o2,k2,n2,e2⟩:=id hb;simp only at k1 e1 k2 e2;subst k1 e1 k2 e2;exact Q4 (op:=.NotEq) ⟨_,o1,rfl⟩ ⟨_,o2,rfl⟩ F.slot_list_ne F.entry_list_ne (F.args_list_ne_2 _ _) (Ir l b us ws n1 n2 d1 d2 z1 z2 hlen) ⟨o1,o2,⟨(λx=>nomatch x),h⟩⟩ hu
theorem A1{l b:Addr}{us ws:WJ}{same:Nat->Bool}{Q:Wv}(hl:s.heap.IsTuple l us)(hb:s.heap.IsTuple b ws)(hu:A.units<cLine)
  (he:∀j (h1:j<us.size) (h2:j<ws.size),EqAt A.in1 s us[j] ws[j] (same j)) (h:Q (.bool (!((List.range (min us.size ws.size)).all same&&us.size==ws.size))) s):wpAny (model prog w) A (compareOp .NotEq (.ref l) (.ref b)) Q E s:=by
 obtain⟨⟨c1,d1,t1,z1⟩,o1,k1,n1,e1⟩:=id hl;obtain⟨⟨c2,d2,t2,z2⟩,o2,k2,n2,e2⟩:=id hb;simp only at k1 e1 k2 e2;subst k1 e1 k2 e2;exact Q4 (op:=.NotEq) ⟨_,o1,rfl⟩ ⟨_,o2,rfl⟩ F.slot_tuple_ne F.entry_tuple_ne (F.args_tuple_ne_2 _ _) (DN l b us ws n1 n2 d1 d2 z1 z2 same) ⟨o1,o2,he,⟨(λx=>nomatch x),h⟩⟩ hu
end
end NEQ

namespace EV
open PySem PySem.Spec PyProof.Rows L2
open PySem.SeqAt (EqAt RcAt)
section
variable{X:Cx}{Γ:Gx}{xw:XW}{pins:Ww}{σ:L2.St}{H:Hp}{s:WA}{ι:WD}{S:af}
theorem rP(hK:Γ.K=X.K)(I:Inv X pins σ H s)(hS:aq Γ ι H S){n:Nat}{A:Around}(hu:A.units+n<cLine){ds es:WP}{xs ys:WN}{its1 its2:Wz}{e:Nat->Bool}(rp1:aA Γ ι H ds xs)(rp2:aA Γ ι H es ys)
  (rv1:Vals xs its1) (rv2:Vals ys its2) (he:∀(j:Nat) x y,ds[j]?=some x->es[j]?=some y->eqD n S x y=some (e j)) (j:Nat) (h1:j<its1.toArray.size) (h2:j<its2.toArray.size):EqAt A s its1.toArray[j] its2.toArray[j] (e j):=by
 rw[Zo] at h1 h2;have l1:=rp1.length;have l2:=rp2.length;have l3:=rv1.length;have l4:=rv2.length;have j1:j<ds.length:=by omega
 have j2:j<es.length:=by omega
 obtain⟨y1,a1,a2⟩:=Paired.get rp1 (Zb j1);obtain⟨y2,a3,a4⟩:=Paired.get rp2 (Zb j2);obtain⟨w1,z1,z2⟩:=rv1.get a1;obtain⟨w2,z3,z4⟩:=rv2.get a3;have:=(oM hK I hS n A ds[j] es[j] (e j) y1 y2 w1 w2 (he j _ _ (Zb j1) (Zb j2)) a2 a4 z2 z4 hu).2
 have q1:its1.toArray[j]'(by rw[Zo]; exact h1)=w1:=by
  have:its1[j]?=some its1[j]:=Zb h1;rw[z1] at this; cases this; rfl
 have q2:its2.toArray[j]'(by rw[Zo]; exact h2)=w2:=by
  have:its2[j]?=some its2[j]:=Zb h2;rw[z3] at this; cases this; rfl
 rw[q1,q2]; exact this
theorem IF(n:Nat)(S:af)(xs ys:WP):eqD (n+1) S (.tup xs) (.tup ys)=(cu (eqD n S) xs ys).map λr=>r&&(xs.length==ys.length):=rfl
theorem yy(n:Nat)(S:af)(a b:D)(h1:a.kd=.list)(h2:b.kd=.list):eqD (n+1) S a b=match asL S a,asL S b with
  | some xs,some ys=>if xs.length=ys.length then cu (eqD n S) xs ys else some false
  | _,_=>none:=by simp only[eqD,h1,h2]<;>rfl
theorem ER{a b:D}(h:iw a b=true):(a.kd=.flat/\b.kd=.flat)\/(a.kd=.tup/\b.kd=.tup)\/(a.kd=.list/\b.kd=.list)\/(∃xs y,a=.tup xs/\b=.str y)\/∃xs i,a=.tup xs/\b=.int i:=by
 cases a<;>cases b<;>first|exact .inl ⟨rfl,rfl⟩|exact .inr (.inl ⟨rfl,rfl⟩)|exact .inr (.inr (.inl ⟨rfl,rfl⟩))|exact .inr (.inr (.inr (.inl ⟨_,_,rfl,rfl⟩)))|exact .inr (.inr (.inr (.inr ⟨_,_,rfl,rfl⟩)))|cases h
theorem Dq{S:af}{a b:D}(e1:a.kd=.flat)(e2:b.kd=.flat):eqD deep S a b=jT a b:=by
 show eqD (11+1) S a b=_;simp only[eqD,e1,e2]
theorem B0{S:af}{a b:D}{x y:V}{k:Bool}(hn:iw a b=true)(q:eqD deep S a b=some k)(r1:Rep Γ ι H a x)(r2:Rep Γ ι H b y)(e1:a.kd=.flat)(e2:b.kd=.flat):vg x y=true/\(decide (x=y))=k:=by
 rw[Dq e1 e2] at q;clear S;cases r1<;>first|(cases e1; done)|skip
 all_goals (cases r2<;>first|(cases e2; done)|(cases hn; done)|skip)
 all_goals (refine⟨rfl,?_⟩; cases Zy q; first|rfl|(rw[show(decide _:Bool)=_ from nu]; done)|(rw[show(decide _:Bool)=_ from nu])|rw[tG]|rw[wY]|simp)
theorem E4(hK:Γ.K=X.K)(hu:X.A.units+64<cLine):OpR X (compareOp .NotEq) (bg Γ xw (cmD .ne)):=by
 intro pins s σ H x y v u Q I rx ry h;obtain⟨ι,S,dx,dy,hS,r1,r2,ho⟩:=h;obtain⟨hn,ho⟩:=Out.guard ho;obtain⟨k,q,ho⟩:=wA ho;have fin:Q (.bl (!k)) H:=Out.val ho hS (.bl _);have hu0:X.A.units<cLine:=by omega
 have hd:deep=11+1:=rfl;rcases ER hn with⟨e1,e2⟩|⟨e1,e2⟩|⟨e1,e2⟩|⟨xs0,y0,rfl,rfl⟩|⟨xs0,i0,rfl,rfl⟩
 ·obtain⟨z1,z2⟩:=B0 hn q r1 r2 e1 e2;exact HQ pins s σ H _ _ v u Q I rx ry ⟨z1,by rw[z2]; exact fin⟩
 ·-- tuples
  cases dx<;>first|(cases e1; done)|skip;cases dy<;>first|(cases e2; done)|skip;obtain⟨a,xs,rfl,t1,p1⟩:=r1.cy;obtain⟨b,ys,rfl,t2,p2⟩:=r2.cy;cases rx;cases ry;rw[hK] at t1 t2;obtain⟨its1,rv1,pt1,_⟩:=I.tuple t1;obtain⟨its2,rv2,pt2,_⟩:=I.tuple t2;rw[hd,IF,ZC] at q;obtain⟨r,hr,hk⟩:=q;obtain⟨e,he,hk2⟩:=g6 hr;refine NEQ.A1 (same:=e) pt1 pt2 hu0 (rP hK I hS (by show X.A.units+1+11<_; omega) p1 p2 rv1 rv2 he) ?_;rw[Zo,Zo,<- rv1.length,<- rv2.length,<- p1.length,<- p2.length,<- hk2,hk];exact⟨.bl (!k),H,I,rfl,fin⟩
 ·-- lists
  rw[hd,yy _ _ _ _ e1 e2] at q;split at q
  ·rename_i ds es h1 h2;obtain⟨a,xs,rfl,s1,p1⟩:=hS.list r1 h1;obtain⟨b,ys,rfl,s2,p2⟩:=hS.list r2 h2;cases rx;cases ry;rw[hK] at s1 s2;obtain⟨its1,rv1,pl1,_⟩:=I.list s1;obtain⟨its2,rv2,pl2,_⟩:=I.list s2;have z1:its1.toArray.size=ds.length:=by rw[Zo,<- rv1.length,<- p1.length]
   have z2:its2.toArray.size=es.length:=by rw[Zo,<- rv2.length,<- p2.length]
   by_cases hlen:ds.length=es.length
   ·rw[Zf hlen] at q;obtain⟨e,he,hk2⟩:=g6 q;refine NEQ.xK (same:=e) pl1.isList pl2.isList (by omega) hu0 (rP hK I hS (by show X.A.units+1+11<_; omega) p1 p2 rv1 rv2 he) ?_;rw[z1,show(List.range ds.length).all e=k by rw[hk2,<- hlen,Wu]];exact⟨.bl (!k),H,I,rfl,fin⟩
   ·rw[Zg hlen] at q;cases q;exact NEQ.G0 pl1.isList pl2.isList (by rw[z1,z2]; simpa using hlen) hu0 ⟨.bl true,H,I,rfl,fin⟩
  ·cases q
 ·-- a tuple and a text
  cases(show some false=some k from q);obtain⟨a,xs,rfl,t1,p1⟩:=r1.cy;cases r2;cases rx;obtain⟨tk,rfl⟩:=(show ∃tk,u=Value.str y0 tk from ry)
  rw[hK] at t1;obtain⟨its1,rv1,pt1,_⟩:=I.tuple t1;exact PySem.SeqAt.RcNeAt.tuple_str y0 tk pt1 hu0 _ _ _ _ ⟨.bl true,H,I,rfl,fin⟩
 ·-- a tuple and an int
  cases(show some false=some k from q);obtain⟨a,xs,rfl,t1,p1⟩:=r1.cy;cases r2;cases rx;obtain⟨tk,rfl⟩:=(show ∃tk,u=Value.int i0 tk from ry)
  rw[hK] at t1;obtain⟨its1,rv1,pt1,_⟩:=I.tuple t1;exact PySem.SeqAt.RcNeAt.tuple_int i0 tk pt1 hu0 _ _ _ _ ⟨.bl true,H,I,rfl,fin⟩
theorem Rep.inj(hK:Γ.K=X.K)(I:Inv X pins σ H s)(hS:aq Γ ι H S){d:D}{v:V}(r:Rep Γ ι H d v):∀{d':D},Rep Γ ι H d' v->d=d':=by
 obtain⟨K⟩:=Γ;have hK':K=X.K:=hK;subst hK'
 have tl:∀{a:Addr} {xs ys:WN},SqT X.K H a xs->SqL X.K H a ys->False:=λ{a xs ys} ht hl=>by
  obtain⟨its,_,pl,_⟩:=I.list hl;obtain⟨its2,_,pt,_⟩:=I.tuple ht;exact absurd rfl (SeqAt.ne_of_list_tuple pl.isList pt)
 have td:∀{a:Addr} {xs:WN} {kvs:WO},SqT X.K H a xs->H a=some (.dT kvs)->False:=λ{a xs kvs} ht hd=>by
  obtain⟨its2,_,⟨o,e1,_,n,e2⟩,_⟩:=I.tuple ht;obtain⟨_,_,_,_,o',es,ep,h1,_,h2,_⟩:=(show aY X.prog X.w H s.heap a (.dT kvs) from I.hok a _ hd)
  rw[e1] at h1; cases h1;rw[e2] at h2; cases h2
 have tf:∀{a:Addr} {xs:WN} {o:Obj} {kvs:WO},SqT X.K H a xs->H a=some (.frz o (.dT kvs))->False:=λ{a xs o kvs} ht hd=>by
  obtain⟨its2,_,⟨o1,e1,_,n,e2⟩,_⟩:=I.tuple ht;obtain⟨g1,_,_,_,_,o',es,ep,h1,_,h2,_⟩:=(show s.heap.get? a=some o/\aY X.prog X.w H s.heap a (.dT kvs) from I.hok a _ hd)
  rw[e1] at h1; cases h1;rw[e2] at h2; cases h2
 have tll:∀{l:Nat} {a:Addr} {xs:WN},SqT X.K H a xs->((∃ys,H a=some (.lst ys))\/(∃ys,H a=some (.dT ys))\/∃o ys,H a=some (.frz o (.dT ys)))->False:=λ{l a xs} ht h=>by
  rcases h with⟨ys,hy⟩|⟨ys,hy⟩|⟨o,ys,hy⟩
  ·exact tl ht (.of hy)
  ·exact td ht hy
  ·exact tf ht hy
 have ll:∀{l:Nat} {a:Addr},ι[l]?=some a->(∃xs,H a=some (.lst xs))\/(∃xs,H a=some (.dT xs))\/∃o xs,H a=some (.frz o (.dT xs)):=λ{l a} q=>by
  have hl:l<S.length:=by rw[<- hS.len]; exact(Zh.mp q).1
  obtain⟨b,hb,c⟩:=hS.cell l S[l] (Zb hl);rw[q] at hb; cases hb
  cases e:S[l] with
  | lst ds=>rw[e] at c; obtain⟨xs,hx,_⟩:=c; exact .inl ⟨xs,hx⟩
  | dct kvs=>rw[e] at c; obtain⟨xs,hx,_⟩:=c; exact .inr (.inl ⟨xs,hx⟩)
  | fdc kvs=>rw[e] at c; obtain⟨xs,⟨o,hx⟩,_⟩:=c; exact .inr (.inr ⟨o,xs,hx⟩)
 have fl:∀{l:Nat} {a:Addr} {xs:WN},Fro X.K H a xs->ι[l]?=some a->False:=λ{l a xs} hf q=>by
  obtain⟨ob,hy,hno⟩:∃ob,H a=some ob/\∀o us,ob≠.frz o (.lst us):=by
   rcases ll q with⟨ys,hy⟩|⟨ys,hy⟩|⟨o',ys,hy⟩
   ·exact⟨_,hy,λ_ _ z=>by cases z⟩
   ·exact⟨_,hy,λ_ _ z=>by cases z⟩
   ·exact⟨_,hy,λ_ _ z=>by cases z⟩
  rcases hf with⟨o,hf⟩|hf
  ·rw[hy] at hf; exact hno _ _ (Zy hf)
  ·rcases hf (λ_=>none) with(z|⟨_,z⟩)|z
   ·cases z
   ·cases z
   ·obtain⟨o,_,_,hk,_⟩:=z;have hb:X.base.get? a=some o:=I.ok.mod.kin a o hk;have:=(I.bs a o hb).2;rw[hy] at this; cases this
 induction r with
 | non=>intro d' r'; cases r'; rfl
 | bl b=>intro d' r'; cases r'; rfl
 | int i=>intro d' r'; cases r'; rfl
 | str x=>intro d' r'; cases r'; rfl
 | @tup ds a xs t1 l1 p1 k1 ih =>
  intro d' r'
  cases r' with
  | @tup es _ ys t2 l2 p2 _ =>
   have e:xs=ys:=I.jF t1 t2;subst e;congr 1;refine QX λj=>?_
   by_cases hj:j<ds.length
   ·have h1:=Zb hj;have h2:es[j]?=some es[j]:=Zb (by omega);have h3:xs[j]?=some xs[j]:=Zb (by omega);rw[h1,h2,ih j _ _ h1 h3 (p2 j _ _ h2 h3)]
   ·rw[XS (by omega),XS (by omega)]
  | fro f2 _ _=>exact(tl t1 f2.sq).elim
  | loc q=>exact(tll (l:=0) t1 (ll q)).elim
 | @fro ds a xs f1 l1 p1 ih =>
  intro d' r'
  cases r' with
  | tup t2 _ _ _=>exact(tl t2 f1.sq).elim
  | @fro es _ ys f2 l2 p2 =>
   have e:xs=ys:=I.jK f1.sq f2.sq;subst e;congr 1;refine QX λj=>?_
   by_cases hj:j<ds.length
   ·have h1:=Zb hj;have h2:es[j]?=some es[j]:=Zb (by omega);have h3:xs[j]?=some xs[j]:=Zb (by omega);rw[h1,h2,ih j _ _ h1 h3 (p2 j _ _ h2 h3)]
   ·rw[XS (by omega),XS (by omega)]
  | loc q=>exact(fl f1 q).elim
 | @loc l a q =>
  intro d' r'
  cases r' with
  | tup t2 _ _ _=>exact(tll (l:=0) t2 (ll q)).elim
  | fro f2 _ _=>exact(fl f2 q).elim
  | loc q'=>rw[gB hS.nd q q']
theorem vn{x:D}:∀{ys:WP} {k:Bool},inL S x ys=some k->(∀y∈ys,eqD deep S y x=some ((eqD deep S y x).getD false))/\k=ys.any λy=>(eqD deep S y x).getD false
 | [],k,h=>⟨λy hy=>absurd hy (by simp),by cases h; rfl⟩
 | y::ys,k,h=>by
  simp only[inL] at h;split at h
  ·rename_i a b e1 e2;cases h;obtain⟨he,hk⟩:=vn e2;refine⟨λz hz=>?_,?_⟩
   ·rcases Zt.mp hz with rfl|hz
    ·simp[e1]
    ·exact he z hz
   ·rw[X1,<- hk]; simp[e1]
  ·cases h
theorem jC(hK:Γ.K=X.K)(I:Inv X pins σ H s)(hS:aq Γ ι H S){A:Around}(hu:A.units+deep<cLine){dx:D}{x:V}{v:Value}(r1:Rep Γ ι H dx x)(rx:RelV x v){ds:WP}{xs:WN}{its:Wz}{k:Bool}(h:inL S dx ds=some k)
  (p:aA Γ ι H ds xs) (rv:Vals xs its):∃e:Value->Bool,(∀y,y∈its.toArray->EqAt A s y v (e y))/\its.toArray.any e=k:=by
 classical
 obtain⟨h1,h2⟩:=vn h
 have key:∀(d:D) (w:V) (u:Value),d∈ds->Rep Γ ι H d w->RelV w u->∀(d':D) (w':V),Rep Γ ι H d' w'->RelV w' u->d'=d:=λd w u _ r q d' w' r' q'=>by
  have e:w'=w:=q'.inj q;subst e;exact(Rep.inj hK I hS r' r)
 refine⟨λu=>decide (∃d w,d∈ds/\Rep Γ ι H d w/\RelV w u/\(eqD deep S d dx).getD false=true),λu hu'=>?_,?_⟩
 ·have hm:u∈its:=by simpa using hu'
  obtain⟨j,hj⟩:=ZS hm;obtain⟨w,hw,q⟩:=Paired.get' rv hj;obtain⟨d,hd,r⟩:=Paired.get' p hw;have hd':=ZD hd;have e:=(oM hK I hS deep A d dx _ w x u v (h1 d hd') r r1 q rx hu).2
  have:decide (∃d w,d∈ds/\Rep Γ ι H d w/\RelV w u/\(eqD deep S d dx).getD false=true)=(eqD deep S d dx).getD false:=by
   cases z:(eqD deep S d dx).getD false with
   | true=>exact Zi ⟨d,w,hd',r,q,z⟩
   | false =>
    refine Zw ?_;rintro⟨d',w',_,r',q',z'⟩;rw[key d w u hd' r q d' w' r' q',z] at z';cases z'
  show EqAt A s u v (decide (∃d w,d∈ds/\Rep Γ ι H d w/\RelV w u/\(eqD deep S d dx).getD false=true));rw[this]; exact e
 ·rw[h2];rw[Qm];simp only[Array.any_eq_true',List.any_eq_true,decide_eq_true_eq];constructor
  ·rintro⟨u,hu',d,w,hd,r,q,z⟩;exact⟨d,hd,z⟩
  ·rintro⟨d,hd,z⟩;obtain⟨j,hj⟩:=ZS hd;obtain⟨w,hw,r⟩:=Paired.get p hj;obtain⟨u,hu',q⟩:=rv.get hw;exact⟨u,by simpa using ZD hu',d,w,hd,r,q,z⟩
theorem i_(d:D)(S:af):(∃ds,items d S=.ok ds S)\/items d S=.bad:=by
 cases d with
 | tup ds=>exact .inl ⟨ds,rfl⟩
 | fro ds=>exact .inl ⟨ds,rfl⟩
 | loc l =>
  rw[vm]
  cases listAt S l with
  | none=>exact .inr rfl
  | some ds=>exact .inl ⟨ds,rfl⟩
 | _=>exact .inr rfl
theorem Out.items{α:Type}{d:D}{f:List D->M α}{k:α->af->List Addr->Hp->Prop}(ho:Out Γ xw ι H ((EV.items d>>=f) S) k):∃ds,EV.items d S=.ok ds S/\Out Γ xw ι H (f ds S) k:=by
 rcases i_ d S with⟨ds,e⟩|e
 ·rw[aj e] at ho; exact⟨ds,e,ho⟩
 ·rw[aV e] at ho; exact ho.elim
theorem Out.vI{α:Type}{o:Option α}{k:α->af->List Addr->Hp->Prop}(ho:Out Γ xw ι H (EV.opt o S) k):∃a,o=some a/\Out Γ xw ι H (.ok a S) k:=by
 cases o with
 | none=>exact ho.elim
 | some a=>exact⟨a,rfl,ho⟩
theorem sd{neg:Bool}{a b:D}{k:D->af->List Addr->Hp->Prop}(ho:Out Γ xw ι H (inM neg a b S) k):∃ds c,items b S=.ok ds S/\inL S a ds=some c/\Out Γ xw ι H (.ok (.bl (c != neg)) S) k:=by
 obtain⟨ds,e,ho⟩:=Out.items ho;unfold inA at ho
 cases q:inL S a ds with
 | none=>rw[q] at ho; exact ho.elim
 | some c=>rw[q] at ho; exact⟨ds,c,e,q,ho⟩
theorem cX(hS:aq Γ ι H S){d:D}{v:V}{ds:WP}{S':af}(r:Rep Γ ι H d v)(h:items d S=.ok ds S'):S'=S/\∃a xs,v=.ref a/\(SqL Γ.K H a xs\/SqT Γ.K H a xs)/\aA Γ ι H ds xs/\(∀l,d=.loc l->SqL Γ.K H a xs):=by
 cases d with
 | tup es=>cases h; obtain⟨a,xs,e,t,p⟩:=r.cy; exact⟨rfl,a,xs,e,.inr t,p,λl e=>by cases e⟩
 | fro es=>cases h; obtain⟨a,xs,e,f,p⟩:=r.fW; exact⟨rfl,a,xs,e,.inl f.sq,p,λl e=>by cases e⟩
 | loc l =>
  have h':(match listAt S l with|some ds=>Res.ok ds S|none=>.bad)=.ok ds S':=h
  cases q:listAt S l with
  | none=>rw[q] at h'; cases h'
  | some es =>
   rw[q] at h';cases h';obtain⟨a,xs,e,t,p⟩:=hS.list r (show asL S (.loc l)=some ds from q);exact⟨rfl,a,xs,e,.inl t,p,λ_ _=>t⟩
 | _=>cases h
theorem Iq(hK:Γ.K=X.K)(hu:X.A.units+64<cLine):OpR X (compareOp .In) (bg Γ xw (inM false)):=by
 intro pins s σ H x y v u Q I rx ry h;obtain⟨ι,S,dx,dy,hS,r1,r2,ho⟩:=h;obtain⟨ds,c,h1,h2,ho⟩:=sd ho;have fin:Q (.bl c) H:=by have:=Out.val ho hS (.bl _); simpa using this
 obtain⟨_,a,xs,rfl,sq,p,_⟩:=cX hS r2 h1;cases ry;rw[hK] at sq;rcases sq with sq|sq
 ·obtain⟨its,rv,pl,_⟩:=I.list sq;obtain⟨e,he,hk⟩:=jC hK I hS (A:=X.A.in1) (by show X.A.units+1+12<cLine; omega) r1 rx h2 p rv;exact SeqAt.in_listAt e pl.isList he (by rw[hk]; exact⟨.bl c,H,I,rfl,fin⟩)
 ·obtain⟨its,rv,pl,_⟩:=I.tuple sq;obtain⟨e,he,hk⟩:=jC hK I hS (A:=X.A.in1) (by show X.A.units+1+12<cLine; omega) r1 rx h2 p rv;exact SeqAt.in_tupleAt e pl he (by rw[hk]; exact⟨.bl c,H,I,rfl,fin⟩)
theorem E6(hK:Γ.K=X.K)(hu:X.A.units+64<cLine):OpR X (compareOp .NotIn) (bg Γ xw (inM true)):=by
 intro pins s σ H x y v u Q I rx ry h;obtain⟨ι,S,dx,dy,hS,r1,r2,ho⟩:=h;obtain⟨ds,c,h1,h2,ho⟩:=sd ho;have fin:Q (.bl (!c)) H:=by have:=Out.val ho hS (.bl _); simpa using this
 obtain⟨_,a,xs,rfl,sq,p,_⟩:=cX hS r2 h1;cases ry;rw[hK] at sq;rcases sq with sq|sq
 ·obtain⟨its,rv,pl,_⟩:=I.list sq;obtain⟨e,he,hk⟩:=jC hK I hS (A:=X.A.in1) (by show X.A.units+1+12<cLine; omega) r1 rx h2 p rv;exact SeqAt.notIn_listAt e pl.isList he (by rw[hk]; exact⟨.bl (!c),H,I,rfl,fin⟩)
 ·obtain⟨its,rv,pl,_⟩:=I.tuple sq;obtain⟨e,he,hk⟩:=jC hK I hS (A:=X.A.in1) (by show X.A.units+1+12<cLine; omega) r1 rx h2 p rv;exact SeqAt.notIn_tupleAt e pl he (by rw[hk]; exact⟨.bl (!c),H,I,rfl,fin⟩)
theorem Jr(hK:Γ.K=X.K):wC X (λx H Q=>∃ι S d,aq Γ ι H S/\Rep Γ ι H d x/\Out Γ xw ι H (truth d S) λb _ _ H'=>Q b H'):=by
 intro pins s σ H x v Q I rx h;obtain⟨ι,S,d,hS,r,ho⟩:=h;refine EG pins s σ H x v Q I rx ?_
 cases d with
 | bl b=>cases r; exact⟨b,rfl,ho.here hS⟩
 | non=>cases r; exact⟨false,rfl,ho.here hS⟩
 | int i=>cases r; exact⟨_,rfl,ho.here hS⟩
 | tup ds =>
  obtain⟨a,xs,rfl,t,p⟩:=r.cy;rw[hK] at t;refine⟨!ds.isEmpty,.inr (.inl ⟨xs,t,?_⟩),ho.here hS⟩;cases p<;>rfl
 | fro ds =>
  obtain⟨a,xs,rfl,t,p⟩:=r.fW;have t:=t.sq;rw[hK] at t;refine⟨!ds.isEmpty,.inl ⟨xs,t,?_⟩,ho.here hS⟩;cases p<;>rfl
 | loc l =>
  obtain⟨ds,q,ho'⟩:=Out.items ho;obtain⟨_,a,xs,rfl,_,p,t⟩:=cX hS r q
  ·have t:=t l rfl;rw[hK] at t;refine⟨!ds.isEmpty,.inl ⟨xs,t,?_⟩,ho'.here hS⟩;cases p<;>rfl
 | _=>exact ho.elim
theorem Il{ds:WP}{xs:WN}{i:Int}{d:D}(p:aA Γ ι H ds xs)(h:EV.atI ds i=some d):∃v,L2.atI xs i=some v/\Rep Γ ι H d v:=by
 unfold EV.atI at h
 cases e:EV.ixN ds.length i with
 | none=>rw[e] at h; cases h
 | some j =>
  rw[e] at h;obtain⟨v,hv,r⟩:=Paired.get p h;refine⟨v,?_,r⟩;have e':L2.ixN xs.length i=some j:=by rw[<- p.length]; exact e
  unfold L2.atI;rw[e'];exact hv
theorem BN(hK:Γ.K=X.K):IxR X (bg Γ xw ixD):=by
 intro value slice pins s σ H x y v u Q I rx ry h hsub;obtain⟨ι,S,dx,dy,hS,r1,r2,ho⟩:=h
 cases dy with
 | int j =>
  cases r2;obtain⟨ds,q,ho'⟩:=Out.items ho;obtain⟨d,q2,ho'⟩:=Out.vI ho';obtain⟨_,a,xs,rfl,sq,p,_⟩:=cX hS r1 q
  ·rw[hK] at sq
   ·obtain⟨w,hw,rw'⟩:=Il p q2;have fin:=Out.val ho' hS rw';rcases sq with sq|sq
    ·exact DO value slice pins s σ H _ _ v u Q I rx ry ⟨a,xs,j,w,rfl,rfl,sq,hw,fin⟩ hsub
    ·exact xB value slice pins s σ H _ _ v u Q I rx ry ⟨a,xs,j,w,rfl,rfl,sq,hw,fin⟩ hsub
 | _=>exact ho.elim
end
end EV

namespace EV
open PySem PySem.Spec PyProof.Rows L2
theorem ints_map:∀{ds:WP} {is:Wx},allInts ds=some is->ds=is.map D.int
 | [],is,h=>by cases h; rfl
 | d::r,is,h=>by
  cases d with
  | int i =>
   simp only[allInts,ZC] at h;obtain⟨js,e,rfl⟩:=h;rw[ints_map e]; rfl
  | _=>cases h
theorem qD:∀{ds:WP} {is:List Bool},dZ ds=some is->ds=is.map D.bl
 | [],is,h=>by cases h; rfl
 | d::r,is,h=>by
  cases d with
  | bl i =>
   simp only[dZ,ZC] at h;obtain⟨js,e,rfl⟩:=h;rw[qD e]; rfl
  | _=>cases h
theorem jE{Γ:Gx}{ι:WD}{H:Hp}:∀{is:Wx} {xs:WN},aA Γ ι H (is.map D.int) xs->xs=is.map V.int
 | [],_,.nil=>rfl
 | i::r,_,.cons (b:=y) h t=>by
  cases h;rw[jE t]; rfl
theorem t7{Γ:Gx}{ι:WD}{H:Hp}:∀{is:List Bool} {xs:WN},aA Γ ι H (is.map D.bl) xs->xs=is.map V.bl
 | [],_,.nil=>rfl
 | i::r,_,.cons (b:=y) h t=>by
  cases h;rw[t7 t]; rfl
theorem k_{Γ:Gx}{ι:WD}{H:Hp}:∀(is:Wx),aA Γ ι H (is.map D.int) (is.map V.int)
 | []=>.nil
 | i::r=>.cons (.int i) (k_ r)
theorem wc:∀t:List Int,allInts (t.map D.int)=some t
 | []=>rfl
 | a::r=>by show(allInts (r.map D.int)).map (a :: ·)=_; rw[wc r]; rfl
theorem Rep.trk{Γ:Gx}{ι:WD}{H:Hp}{t:Wx}{v:V}(r:Rep Γ ι H (.tup (t.map D.int)) v):∃c,v=.ref c/\H c=some (.tup (t.map V.int)):=by
 cases r with
 | tup h1 h2 h3 h4=>exact⟨_,rfl,by rw[<- jE (Paired.of_get h2 h3)]; exact h4 t (wc t)⟩
theorem vL(is:Wx):∀k,preSum (λi=>is.getD i 0) k=(is.take k).sum
 | 0=>by simp[preSum]
 | k+1=>by
  rw[preSum,vL is k,List.take_add_one,List.sum_append];congr 1;rw[Zj];cases is[k]?<;>simp
theorem range_all(bs:List Bool):(List.range bs.length).all (λi=>bs.getD i false)=bs.all id:=by
 rw[Qm,Xn,Xn];constructor
 ·intro h b hb;obtain⟨i,e⟩:=ZS hb;have:=h i (by rw[Z0]; exact(Zh.mp e).1);rw[Zj,e] at this;exact this
 ·intro h i hi;rw[Z0] at hi;rw[Zj,Zb hi];exact h _ (Z3 hi)
theorem qt:∀(r:Wx) (i:Int),i<=r.foldl max i/\∀a∈r,a<=r.foldl max i
 | [],i=>⟨QH _,λa h=>absurd h (by simp)⟩
 | b::r,i=>by
  obtain⟨h1,h2⟩:=qt r (max i b);simp only[Q8];refine⟨by omega,λa ha=>?_⟩;rcases Zt.mp ha with rfl|ha
  ·omega
  ·exact h2 a ha
theorem qy:∀(r:Wx) (i:Int),r.foldl max i=i\/r.foldl max i∈r
 | [],i=>.inl rfl
 | b::r,i=>by
  simp only[Q8];rcases qy r (max i b) with h|h
  ·rw[h]
   by_cases hb:b<=i
   ·exact .inl (by omega)
   ·exact .inr (by rw[show max i b=b by omega]; exact Zk)
  ·exact .inr (Zm _ h)
section
variable{X:Cx}{Γ:Gx}{xw:XW}{pins:Ww}{σ:L2.St}{H:Hp}{s:WA}{ι:WD}{S:af}{sub:Sub}
theorem jy{b:Bi}{xs:WN}{Q:VK}(hb:b.isR=false)(hb2:∀a c S,bi2 b a c S=.bad)(h:d7 Γ xw (biD sub b) xs H Q) :
  ∃ι S a x,xs=[x]/\aq Γ ι H S/\Rep Γ ι H a x/\Out Γ xw ι H (bi1 sub b a S) λd _ ι' H'=>∀v,Rep Γ ι' H' d v->Q v H':=by
 obtain⟨ι,S,ds,hS,r,ho⟩:=h;unfold biD at ho;rw[hb] at ho
 match ds,r with
 | [],.nil=>exact ho.elim
 | [a],.cons (b:=x) ra .nil=>exact⟨ι,S,a,x,rfl,hS,ra,ho⟩
 | [a,c],_ =>
  have ho':Out Γ xw ι H (bi2 b a c S) _:=ho;rw[hb2] at ho';exact ho'.elim
 | _::_::_::_,_=>exact ho.elim
theorem o7(hK:Γ.K=X.K)(I:Inv X pins σ H s){a:Addr}{xs:WN}(sq:SqL Γ.K H a xs\/SqT Γ.K H a xs):∃its:List Value,Vals xs its/\∀(A:Around) (E:Wv) (Q:Wv),A.handled=none ->
  (∀(I0:Addr) (fp:WD) (St:Nat->Heap->Prop) (s2:WA),Walks X.prog X.w A I0 fp [I0] its.toArray.size (λi v=>its.toArray[i]?=some v) St->St 0 s2.heap->(∀b∈fp,b<s2.heap.objs.size) ->
   (∀h' tk,(∀b o,b ∉ [I0]->s2.heap.get? b=some o->h'.get? b=some o)->Inv X pins σ H { s2 with heap:=h',toks:=tk })->Q (.ref I0) s2)->wpAny (model X.prog X.w) A (pyIter (.ref a)) Q E s:=by
 rw[hK] at sq;rcases sq with sq|sq
 ·obtain⟨its,rv,pl,_⟩:=I.list sq;refine⟨its,rv,λA E Q hh hQ=>Q0 pl.isList ?_⟩;obtain⟨o,ho,_⟩:=id pl.isList;have hlt:=Zp ho;refine hQ s.heap.objs.size _ _ _ (Walks.list hh _ a (ZI hlt) its.toArray) ⟨⟨_,Zv _ rfl,rfl,rfl⟩,pl.isList.at λo e=>Zd _ e⟩ (λb hb=>?_) λh' tk hk=>?_
  ·rw[Z1];rcases Zt.mp hb with rfl|hb
   ·exact X2 _
   ·have:b=a:=by simpa using hb
    subst this; exact X0 hlt
  ·exact I.kept λb u e=>hk b u (by simpa using ZI (Zp e)) (Zd _ e)
 ·obtain⟨its,rv,pl,_⟩:=I.tuple sq;refine⟨its,rv,λA E Q hh hQ=>X6 (show s.heap.IsTuple a its.toArray from pl) ?_⟩;obtain⟨o,ho,hc,hd⟩:=id pl;have hlt:=Zp ho;refine hQ s.heap.objs.size _ _ _ (Walks.tuple hh _ a (ZI hlt) its.toArray) ⟨⟨_,Zv _ rfl,rfl,rfl⟩,⟨o,Zd _ ho,hc,hd⟩⟩ (λb hb=>?_) λh' tk hk=>?_
  ·rw[Z1];rcases Zt.mp hb with rfl|hb
   ·exact X2 _
   ·have:b=a:=by simpa using hb
    subst this; exact X0 hlt
  ·exact I.kept λb u e=>hk b u (by simpa using ZI (Zp e)) (Zd _ e)
theorem mP{is:Wx}{its:Wz}(rv:Vals (is.map V.int) its){i:Nat}{v:Value}(h:its.toArray[i]?=some v):∃t,v=.int (is.getD i 0) t:=by
 have h':its[i]?=some v:=by simpa using h
 obtain⟨x,hx,r⟩:=Paired.get' rv h';rw[ZG,ZC] at hx;obtain⟨j,hj,rfl⟩:=hx;obtain⟨t,rfl⟩:=r;exact⟨t,by rw[Zj,hj]; rfl⟩
theorem xY{is:List Bool}{its:Wz}(rv:Vals (is.map V.bl) its){i:Nat}{v:Value}(h:its.toArray[i]?=some v):v=.bool (is.getD i false):=by
 have h':its[i]?=some v:=by simpa using h
 obtain⟨x,hx,r⟩:=Paired.get' rv h';rw[ZG,ZC] at hx;obtain⟨j,hj,rfl⟩:=hx;cases r;rw[Zj,hj]; rfl
theorem yj(hK:Γ.K=X.K):cG X (.builtin "len") (d7 Γ xw (biD sub .len)):=by
 intro pins s σ H xs us Q I rs h;obtain⟨ι,S,a,x,rfl,hS,r,ho⟩:=jy rfl (λ_ _ _=>rfl) h;obtain⟨ds,q,ho⟩:=Out.items ho;obtain⟨_,p,ys,rfl,sq,rp,_⟩:=cX hS r q;rw[hK] at sq;refine yf pins s σ H _ us Q I rs ⟨p,ys,rfl,sq,?_⟩;rw[<- rp.length];exact Out.val ho hS (.int _)
theorem ET(hK:Γ.K=X.K)(hc:X.calm=true):cG X (.builtin "all") (d7 Γ xw (biD sub .all)):=by
 intro pins s σ H xs us Q I rs h;obtain⟨ι,S,a,x,rfl,hS,r,ho⟩:=jy rfl (λ_ _ _=>rfl) h;obtain⟨ds,q,ho⟩:=Out.items ho;obtain⟨bs,q2,ho⟩:=Out.opt ho;obtain⟨_,p,ys,rfl,sq,rp,_⟩:=cX hS r q;rw[qD q2] at rp;have e:=t7 rp;subst e;obtain⟨u,rfl,ru⟩:=rs.one;cases ru;obtain⟨its,rv,wk⟩:=o7 hK I sq;refine call_all_walk (wk X.A.in1 _ _ (I.ok.hd hc) λI0 fp St s2 W st fl inv=>⟨I0,fp,[I0],_,_,St,λi=>bs.getD i false,rfl,W,st,λi v s' Q' E' hv hq=>?_,λh' tk hk=>?_⟩)
 ·rw[xY rv hv]; exact Xi hq
 ·have hl:its.toArray.size=bs.length:=by rw[Zo,<- rv.length,Zc]
  rw[hl,range_all];exact⟨.bl _,H,inv h' tk hk,rfl,Out.val ho hS (.bl _)⟩
theorem G4(hK:Γ.K=X.K)(hc:X.calm=true):cG X (.builtin "sum") (d7 Γ xw (biD sub .sum)):=by
 intro pins s σ H xs us Q I rs h;obtain⟨ι,S,a,x,rfl,hS,r,ho⟩:=jy rfl (λ_ _ _=>rfl) h;obtain⟨ds,q,ho⟩:=Out.items ho;obtain⟨is,q2,ho⟩:=Out.opt ho;obtain⟨_,p,ys,rfl,sq,rp,_⟩:=cX hS r q;rw[ints_map q2] at rp;have e:=jE rp;subst e;obtain⟨u,rfl,ru⟩:=rs.one;cases ru;obtain⟨its,rv,wk⟩:=o7 hK I sq;refine call_sum_walkG (wk X.A.in1 _ _ (I.ok.hd hc) λI0 fp St s2 W st fl inv=>⟨I0,fp,[I0],_,_,St,λi=>is.getD i 0,rfl,W,st,fl,λi v hv=>mP rv hv,λh' tk t' hk=>?_⟩);have hl:its.toArray.size=is.length:=by rw[Zo,<- rv.length,Zc]
 rw[hl,vL,ZO];exact⟨.int _,H,inv h' tk hk,⟨_,rfl⟩,Out.val ho hS (.int _)⟩
end
end EV

namespace EV
open PySem PySem.Spec PyProof.Rows L2
section
variable{X:Cx}{Γ:Gx}{xw:XW}{pins:Ww}{σ:L2.St}{H:Hp}{s:WA}{ι:WD}{S:af}{sub:Sub}
theorem Gj{b:Bi}{xs:WN}{Q:VK}(hb:b.isR=false)(h:d7 Γ xw (biD sub b) xs H Q) :
  (∃ι S a x,xs=[x]/\aq Γ ι H S/\Rep Γ ι H a x/\Out Γ xw ι H (bi1 sub b a S) λd _ ι' H'=>∀v,Rep Γ ι' H' d v->Q v H') \/
  (∃ι S a c x y,xs=[x,y]/\aq Γ ι H S/\Rep Γ ι H a x/\Rep Γ ι H c y/\Out Γ xw ι H (bi2 b a c S) λd _ ι' H'=>∀v,Rep Γ ι' H' d v->Q v H'):=by
 obtain⟨ι,S,ds,hS,r,ho⟩:=h;unfold biD at ho;rw[hb] at ho
 have hl:ds.length=1\/ds.length=2\/ds=[]\/∃a c e q,ds=a::c::e::q:=by
  rcases ds with _|⟨a,_|⟨c,_|⟨e,q⟩⟩⟩
  ·exact .inr (.inr (.inl rfl))
  ·exact .inl rfl
  ·exact .inr (.inl rfl)
  ·exact .inr (.inr (.inr ⟨_,_,_,_,rfl⟩))
 rcases hl with hl|hl|rfl|⟨_,_,_,_,rfl⟩
 ·obtain⟨a,_,x,_,rfl,rfl,ra,r,hl⟩:=Paired.step r hl;obtain⟨rfl,rfl⟩:=Paired.last r hl;exact .inl ⟨ι,S,a,x,rfl,hS,ra,ho⟩
 ·obtain⟨a,_,x,_,rfl,rfl,ra,r,hl⟩:=Paired.step r hl;obtain⟨c,_,y,_,rfl,rfl,rc,r,hl⟩:=Paired.step r hl;obtain⟨rfl,rfl⟩:=Paired.last r hl;exact .inr ⟨ι,S,a,c,x,y,rfl,hS,ra,rc,ho⟩
 ·exact ho.elim
 ·exact ho.elim
theorem Ak{is:Wx}{i:Int}{r:Wx}(h:is=i::r){M:Int}(hm:M∈is)(hle:∀a∈is,a<=M):M=r.foldl max i:=by
 subst h;obtain⟨h1,h2⟩:=qt r i
 have e1:M<=r.foldl max i:=by
  rcases Zt.mp hm with rfl|hm
  ·exact h1
  ·exact h2 M hm
 have e2:r.foldl max i<=M:=by
  rcases qy r i with h|h
  ·rw[h]; exact hle i Zk
  ·exact hle _ (Zm _ h)
 omega
theorem getD_in{is:Wx}{j:Nat}(h:j<is.length):is.getD j 0∈is:=by
 rw[Zj,Zb h];exact Z3 h
theorem yE(hK:Γ.K=X.K)(hc:X.calm=true):cG X (.builtin "max") (d7 Γ xw (biD sub .max)):=by
 intro pins s σ H xs us Q I rs h;rcases Gj rfl h with⟨ι,S,a,x,rfl,hS,r,ho⟩|⟨ι,S,a,c,x,y,rfl,hS,r1,r2,ho⟩
 ·obtain⟨ds,q,ho⟩:=Out.items ho;obtain⟨is,q2,ho⟩:=Out.opt ho;obtain⟨_,p,ys,rfl,sq,rp,_⟩:=cX hS r q;rw[ints_map q2] at rp;have e:=jE rp;subst e;obtain⟨u,rfl,ru⟩:=rs.one;cases ru
  cases hi:is with
  | nil=>rw[hi] at ho; exact ho.elim
  | cons i0 r0 =>
   rw[hi] at ho;have fin:Q (.int (r0.foldl max i0)) H:=Out.val ho hS (.int _);obtain⟨its,rv,wk⟩:=o7 hK I sq;have hl:its.toArray.size=is.length:=by rw[Zo,<- rv.length,Zc]
   refine call_max_walk (wk X.A.in1 _ _ (I.ok.hd hc) λI0 fp St s2 W st fl inv=>⟨I0,fp,[I0],_,_,St,λi j=>decide (is.getD i 0>is.getD j 0),rfl,W,st,fl,by rw[hl,hi]; simp,CmpOf.ints_gt (λi=>is.getD i 0) λi v hv=>mP rv hv,λv h' tk hv hk=>?_⟩);obtain⟨t,rfl⟩:=mP rv hv;obtain⟨h1,h2⟩:=argBest_gt (λi=>is.getD i 0) (its.toArray.size-1);have hpos:0<is.length:=by rw[hi]; simp
   have e:is.getD (argBest (λi j=>decide (is.getD i 0>is.getD j 0)) (its.toArray.size-1)) 0=r0.foldl max i0:=Ak hi (getD_in (by omega)) λb hb=>by
    obtain⟨j,ej⟩:=ZS hb;have hj:=(Zh.mp ej).1;have:=h2 j (by omega);rw[show is.getD j 0=b by rw[Zj,ej]; rfl] at this;exact this
   rw[e];exact⟨.int _,H,inv h' tk hk,⟨_,rfl⟩,fin⟩
 ·cases a with
  | int i =>
   cases c with
   | int j=>cases r1; cases r2; exact Ht hc pins s σ H _ us Q I rs ⟨i,j,rfl,Out.val ho hS (.int _)⟩
   | _=>exact ho.elim
  | _=>exact ho.elim
theorem yQ(hS:aq Γ ι H S){d:D}{v:V}{ds:WP}{S':af}(r:Rep Γ ι H d v)(h:cB d S=.ok ds S'):S'=S/\∃a xs,v=.ref a/\SqL Γ.K H a xs/\aA Γ ι H ds xs:=by
 cases d with
 | fro es=>cases h; obtain⟨a,xs,e,f,p⟩:=r.fW; exact⟨rfl,a,xs,e,f.sq,p⟩
 | loc l=>obtain⟨e,a,xs,e2,_,p,t⟩:=cX hS r (show items (.loc l) S=.ok ds S' from h); exact⟨e,a,xs,e2,t l rfl,p⟩
 | _=>cases h
theorem Ed(d:D)(S:af):(∃ds,cB d S=.ok ds S)\/cB d S=.bad:=by
 cases d with
 | fro ds=>exact .inl ⟨ds,rfl⟩
 | loc l=>exact i_ (.loc l) S
 | _=>exact .inr rfl
theorem Out.cB{α:Type}{d:D}{f:List D->M α}{k:α->af->List Addr->Hp->Prop}(ho:Out Γ xw ι H ((EV.cB d>>=f) S) k):∃ds,EV.cB d S=.ok ds S/\Out Γ xw ι H (f ds S) k:=by
 rcases Ed d S with⟨ds,e⟩|e
 ·rw[aj e] at ho; exact⟨ds,e,ho⟩
 ·rw[aV e] at ho; exact ho.elim
theorem IE(hK:Γ.K=X.K):cG X (.type "tuple") (d7 Γ xw (biD sub .tuple)):=by
 intro pins s σ H xs us Q I rs h;obtain⟨ι,S,a,x,rfl,hS,r,ho⟩:=jy rfl (λ_ _ _=>rfl) h;obtain⟨ds,q,ho2⟩:=Out.items ho;have r0:=r;obtain⟨_,p,ys,rfl,sq,rp,hloc⟩:=cX hS r q;rw[hK] at sq
 cases a with
 | tup es =>
  cases q;obtain⟨b,xs,e,t,_⟩:=r0.cy;cases e;rw[hK] at t;exact mD pins s σ H _ us Q I rs ⟨p,xs,rfl,.inr ⟨t,Out.val ho2 hS r0⟩⟩
 | fro es =>
  cases q;obtain⟨b,xs,e,t,rp2⟩:=r0.fW;cases e;have t:=t.sq;rw[hK] at t;exact mD pins s σ H _ us Q I rs ⟨p,xs,rfl,.inl ⟨t,λl hl=>Out.tup ho2 hS hl rp2⟩⟩
 | loc l =>
  have t:=hloc l rfl;rw[hK] at t;exact mD pins s σ H _ us Q I rs ⟨p,ys,rfl,.inl ⟨t,λl hl=>Out.tup ho2 hS hl rp⟩⟩
 | _=>cases q
noncomputable def Ty.name:Ty->Option String
 | .int=>some "int" | .bool=>some "bool" | .str=>some "str" | .list=>some "list" | .tuple=>some "tuple" | .dict=>some "dict" | .cls _=>none
theorem DB(hK:Γ.K=X.K)(I:Inv X pins σ H s)(hS:aq Γ ι H S){t:Ty}{T:String}(ht:t.name=some T){d:D}{x:V}{v:Value}(r:Rep Γ ι H d x)(rx:RelV x v){k:Bool}(h:cF sub S d t=some k){A:Around}{E:Wv}{Q:Wv}
  (hq:∀tk,Q (.bool k) { s with toks:=tk }):wpAny (model X.prog X.w) A (call (.builtin "isinstance") [v,.type T]) Q E s:=by
 have seqL:∀{a:Addr} {xs:WN},SqL X.K H a xs->∀{b:Bool},PySem.W.kitOne X.K (.type "list") (.type T)=some b->(∀tk,Q (.bool b) { s with toks:=tk })->wpAny (model X.prog X.w) A (call (.builtin "isinstance") [.ref a,.type T]) Q E s:=λ{a xs} sq {b} e hq=>by
  obtain⟨its,_,pl,_⟩:=I.list sq;obtain⟨o,h1,h2,_⟩:=pl.isList;exact Qo PySem.W.kitx_list I.kIn ⟨o,h1,h2⟩ e (λz=>nomatch z) hq
 have e0:∀{t:Ty} {T:String} {k:Bool},t.name=some T->cF sub S .non t=some k->PySem.W.kitOne X.K (.type "NoneType") (.type T)=some k:=λ{t T k} h1 h2=>by cases t<;>cases h1<;>cases h2<;>rfl
 have e1:∀{t:Ty} {T:String} {k b:Bool},t.name=some T->cF sub S (.bl b) t=some k->PySem.W.kitOne X.K (.type "bool") (.type T)=some k:=λ{t T k b} h1 h2=>by cases t<;>cases h1<;>cases h2<;>rfl
 have e2:∀{t:Ty} {T:String} {k:Bool} {b:Int},t.name=some T->cF sub S (.int b) t=some k->PySem.W.kitOne X.K (.type "int") (.type T)=some k:=λ{t T k b} h1 h2=>by cases t<;>cases h1<;>cases h2<;>rfl
 have e3:∀{t:Ty} {T:String} {k:Bool} {b:Str},t.name=some T->cF sub S (.str b) t=some k->PySem.W.kitOne X.K (.type "str") (.type T)=some k:=λ{t T k b} h1 h2=>by cases t<;>cases h1<;>cases h2<;>rfl
 have e4:∀{t:Ty} {T:String} {k:Bool} {b:WP},t.name=some T->cF sub S (.tup b) t=some k->PySem.W.kitOne X.K (.type "tuple") (.type T)=some k:=λ{t T k b} h1 h2=>by cases t<;>cases h1<;>cases h2<;>rfl
 have e5:∀{t:Ty} {T:String} {k:Bool} {b:WP},t.name=some T->cF sub S (.fro b) t=some k->PySem.W.kitOne X.K (.type "list") (.type T)=some k:=λ{t T k b} h1 h2=>by cases t<;>cases h1<;>cases h2<;>rfl
 cases d with
 | non=>cases r; cases rx; exact Qo PySem.W.kitx_none I.kIn True.intro (e0 ht h) (λz=>nomatch z) hq
 | bl b=>cases r; cases rx; exact Qo PySem.W.kitx_bool I.kIn True.intro (e1 ht h) (λz=>nomatch z) hq
 | int b=>cases r; obtain⟨tk,rfl⟩:=rx; exact Qo PySem.W.kitx_int I.kIn True.intro (e2 ht h) (λz=>nomatch z) hq
 | str b=>cases r; obtain⟨tk,rfl⟩:=rx; exact Qo PySem.W.kitx_str I.kIn True.intro (e3 ht h) (λz=>nomatch z) hq
 | tup ds =>
  obtain⟨a,xs,rfl,sq,_⟩:=r.cy;cases rx;rw[hK] at sq;obtain⟨its,_,pl,_⟩:=I.tuple sq;obtain⟨o,h1,h2,_⟩:=pl;exact Qo PySem.W.kitx_tuple I.kIn ⟨o,h1,h2⟩ (e4 ht h) (λz=>nomatch z) hq
 | fro ds =>
  obtain⟨a,xs,rfl,sq,_⟩:=r.fW;cases rx;have sq:=sq.sq;rw[hK] at sq;exact seqL sq (e5 ht h) hq
 | loc l =>
  cases r with
  | loc ql =>
   cases rx
   have e6:∀{t:Ty} {T:String} {k:Bool},t.name=some T->cF sub S (.loc l) t=some k->(∃ds,S[l]?=some (.lst ds))/\PySem.W.kitOne X.K (.type "list") (.type T)=some k:=λ{t T k} h1 h2=>by
    simp only[cF] at h2
    cases q:S[l]? with
    | none=>rw[q] at h2; cases t<;>cases h1<;>cases h2
    | some c =>
     rw[q] at h2
     cases c with
     | lst ds=>exact⟨⟨ds,rfl⟩,by cases t<;>cases h1<;>cases h2<;>rfl⟩
     | _=>cases t<;>cases h1<;>cases h2
   obtain⟨⟨ds,q⟩,e⟩:=e6 ht h;obtain⟨a,xs,ha,hx,_⟩:=hS.lst q;rw[ql] at ha; cases ha;exact seqL (.of hx) e hq
 | exn c=>cases r
end
end EV

namespace ENM
open PySem PyProof.Rows
open AutoSeq1 (wpAny_loadPart')
section
variable{prog:WC}{w:WG}{A:Around}{E:Wv}{s:WA}
theorem A4{it t:Addr}{k:Nat}{us:WJ}{u:Value}{Q:Wv}(hit:s.heap.IsTupleIter it t k)(ht:s.heap.IsTuple t us)(hu:us[k]?=some u)
  (fin:∀h',h'.IsTupleIter it t (k+1)->Heap.SameBut it s.heap h'->Q u { s with heap:=h' }):wpAny (model prog w) A (Builtin.SmallTypes.nextOf (.ref it)) Q E s:=by
 obtain⟨ob,hob,hcl,hda⟩:=id hit;obtain⟨ot,hot,_,nt,hdt⟩:=ht;unfold Builtin.SmallTypes.nextOf;refine Za (ZW (name:=Str.ofString "__next__") hit.typeIs Qb (ZU Qb hit.typeIs F.entry_tuple_iterator_next ?_ (F.args_tuple_iterator_next_1 _)));show wpAny _ _ (field (.ref it) 0>>=_) _ _ s;refine Za (Z9 hob hda (x:=.ref t) rfl ?_);show wpAny _ _ (if(Value.ref t==Value.none)=true then _ else _) _ _ s;rw[Zg (show ¬((Value.ref t==Value.none)=true) from Zz)];show wpAny _ _ (field (.ref it) 1>>=_) _ _ s;refine Za (Z9 hob hda (x:=.int k 0) rfl ?_);show wpAny _ _ (seqItems? (.ref t)>>=_) _ _ s;refine Za (XJ hot hdt ?_);simp only[ZQ,hu];refine Za (Qh hob hda (by simp) (Ze ⟨u,rfl,Ze (fin _ ?_ (Xg ..))⟩));refine⟨_,Z7 _ hob (Qw (XU hda _)),(Q2 ..).trans hcl,?_⟩;rw[XU hda];simp[rawInt]
theorem yM{it t:Addr}{k:Nat}{us:WJ}{Q:Wv}(calm:A.handled=none)(hit:s.heap.IsTupleIter it t k)(ht:s.heap.IsTuple t us)(hu:us[k]?=none)
  (fin:∀h' e,Heap.ExtBut it s.heap h'->(∃o,h'.get? e=some o/\o.cls=.type "StopIteration")->E (.ref e) { s with heap:=h' }):wpAny (model prog w) A (Builtin.SmallTypes.nextOf (.ref it)) Q E s:=by
 obtain⟨ob,hob,hcl,hda⟩:=id hit;obtain⟨ot,hot,_,nt,hdt⟩:=ht;unfold Builtin.SmallTypes.nextOf;refine Za (ZW (name:=Str.ofString "__next__") hit.typeIs Qb (ZU Qb hit.typeIs F.entry_tuple_iterator_next ?_ (F.args_tuple_iterator_next_1 _)));show wpAny _ _ (field (.ref it) 0>>=_) _ _ s;refine Za (Z9 hob hda (x:=.ref t) rfl ?_);show wpAny _ _ (if(Value.ref t==Value.none)=true then _ else _) _ _ s;rw[Zg (show ¬((Value.ref t==Value.none)=true) from Zz)];show wpAny _ _ (field (.ref it) 1>>=_) _ _ s;refine Za (Z9 hob hda (x:=.int k 0) rfl ?_);show wpAny _ _ (seqItems? (.ref t)>>=_) _ _ s;refine Za (XJ hot hdt ?_);simp only[ZQ,hu];refine Za (QB (Za (Qh hob hda (by simp) ?_)));show wpAny _ _ (newExc (.type "StopIteration") []>>=_) _ _ _;refine Za ?_;simp only[newExc,newTuple];refine Za (Xb ?_ (by size_fits));refine Za (m:=firstArgMember _ _) (Qg (a:=Value.none) (by first|rfl|(simp only[firstArgMember]; rfl)) ?_);refine Xb ?_ (by size_fits);simp only[raiseNew];refine Za (wpAny_handled ?_);first|rw[show A.in1.handled=none from calm]|rw[calm]
 refine Za (Ze (wpAny_throw ?_));exact fin _ _ (((Xg ..).extBut.push _).push _) ⟨_,Zv _ rfl,rfl⟩
def Inn(tup:Bool)(h:Heap)(it a:Addr)(k:Nat):Prop:=match tup with
 | true=>h.IsTupleIter it a k
 | false=>h.IsListIter it a k
def Seq(tup:Bool)(h:Heap)(a:Addr)(us:WJ):Prop:=match tup with
 | true=>h.IsTuple a us
 | false=>h.IsList a us
theorem Inn.keep{tup:Bool}{h h':Heap}{it a:Addr}{k:Nat}(x:Inn tup h it a k)(e:∀o,h.get? it=some o->h'.get? it=some o):Inn tup h' it a k:=by
 cases tup with
 | true=>obtain⟨o,ho,r⟩:=(show h.IsTupleIter it a k from x); exact⟨o,e _ ho,r⟩
 | false=>obtain⟨o,ho,r⟩:=(show h.IsListIter it a k from x); exact⟨o,e _ ho,r⟩
theorem Inn.there{tup:Bool}{h:Heap}{it a:Addr}{k:Nat}(x:Inn tup h it a k):∃o,h.get? it=some o/\∀v,o.data≠.cell v:=by
 cases tup with
 | true=>obtain⟨o,ho,_,hd⟩:=(show h.IsTupleIter it a k from x); exact⟨o,ho,λv z=>by rw[hd] at z; cases z⟩
 | false=>obtain⟨o,ho,_,hd⟩:=(show h.IsListIter it a k from x); exact⟨o,ho,λv z=>by rw[hd] at z; cases z⟩
theorem kQ{tup:Bool}{it a:Addr}{k:Nat}{us:WJ}{u:Value}{Q:Wv}(hit:Inn tup s.heap it a k)(hs:Seq tup s.heap a us)(hu:us[k]?=some u)
  (fin:∀h',Inn tup h' it a (k+1)->Heap.SameBut it s.heap h'->Q u { s with heap:=h' }):wpAny (model prog w) A (Builtin.SmallTypes.nextOf (.ref it)) Q E s:=by
 cases tup with
 | true=>exact A4 hit hs hu fin
 | false=>exact wpAny_nextOf_list_item hit hs hu fin
theorem l6{tup:Bool}{it a:Addr}{k:Nat}{us:WJ}{Q:Wv}(calm:A.handled=none)(hit:Inn tup s.heap it a k)(hs:Seq tup s.heap a us)(hu:us[k]?=none)
  (fin:∀h' e,Heap.ExtBut it s.heap h'->(∃o,h'.get? e=some o/\o.cls=.type "StopIteration")->E (.ref e) { s with heap:=h' }):wpAny (model prog w) A (Builtin.SmallTypes.nextOf (.ref it)) Q E s:=by
 cases tup with
 | true=>exact yM calm hit hs hu fin
 | false=>exact wpAny_nextOf_list_end calm hit hs hu fin
theorem F8{tup:Bool}{en it a:Addr}{k:Nat}{us:WJ}{u old:Value}{Q:Option Value->Shared->Prop}(he:IsEnum s.heap en it k old)(hit:Inn tup s.heap it a k)(hs:Seq tup s.heap a us)(hu:us[k]?=some u)(hne:en≠it)
  (fin:∀h',IsEnumOut h' en it ((k:Int)+1) u s.heap.objs.size->Inn tup h' it a (k+1)->h'.get? s.heap.objs.size=some { cls:=.type "tuple",data:=.seq #[.int k s.toks,u] }->h'.objs.size=s.heap.objs.size+1 ->
   (∀b o,b≠en->b≠it->s.heap.get? b=some o->h'.get? b=some o)->Q (some (.ref s.heap.objs.size)) { s with heap:=h',toks:=s.toks+1 }):wpAny (model prog w) A (pyNext (.ref en)) Q E s:=by
 have hT:s.TypeIs (.ref en) "enumerate":=⟨_,he,rfl⟩
 unfold pyNext;refine Za (XG (ZW (name:=Str.ofString "__next__") hT Qx (ZU Qx hT F.entry_enumerate_next ?_ (F.args_enumerate_next_1 _))));obtain⟨hp,g,dr,tk,os⟩:=s;show wpAny _ _ (field (.ref en) 2>>=_) _ _ _;refine Za (Z9 he rfl (x:=.ref it) rfl ?_);refine Za (kQ hit hs hu λh1 hit1 sb1=>?_);replace sb1:Heap.SameBut it hp h1:=sb1;have he1:IsEnum h1 en it k old:=(sb1.2 en hne).trans he;show wpAny _ _ (field (.ref en) 3>>=_) _ _ ⟨h1,g,dr,tk,os⟩;refine Za (Z9 he1 rfl (x:=rawInt k) rfl ?_);show wpAny _ _ (field (.ref en) 4>>=_) _ _ ⟨h1,g,dr,tk,os⟩;refine Za (Z9 he1 rfl (x:=.none) rfl ?_);show wpAny _ _ (mkInt k>>=_) _ _ ⟨h1,g,dr,tk,os⟩;refine Za (wpAny_mkInt ?_);show wpAny _ _ (setField (.ref en) 3 (rawInt ((k:Int)+1))>>=_) _ _ ⟨h1,g,dr,tk+1,os⟩;refine Za (Xd he1 (by simp) λh2 he2 sb2=>?_);replace sb2:Heap.SameBut en h1 h2:=sb2;replace he2:IsEnum h2 en it ((k:Int)+1) old:=he2;show wpAny _ _ (setField (.ref en) 4 .none>>=_) _ _ ⟨h2,g,dr,tk+1,os⟩;refine Za (Xd he2 (by simp) λh3 he3 sb3=>?_);replace sb3:Heap.SameBut en h2 h3:=sb3;replace he3:IsEnum h3 en it ((k:Int)+1) old:=he3;show wpAny _ _ (newTuple [.int k tk,u]>>=_) _ _ ⟨h3,g,dr,tk+1,os⟩;refine Za (wpAny_newTuple ?_);have he4:IsEnum (h3.push { cls:=.type "tuple",data:=.seq #[.int k tk,u] }) en it ((k:Int)+1) old:=Zd _ he3;generalize eh4:h3.push { cls:=.type "tuple",data:=.seq #[.int k tk,u] }=h4 at he4;have sz3:h3.objs.size=hp.objs.size:=by rw[sb3.1,sb2.1,sb1.1]
 have enlt:en<hp.objs.size:=Zp he;have tp4:h4.get? hp.objs.size=some { cls:=.type "tuple",data:=.seq #[.int k tk,u] }:=by rw[<- eh4,<- sz3]; exact Zv _ rfl
 have sz4:h4.objs.size=hp.objs.size+1:=by rw[<- eh4,Z1,sz3]
 have kp4:∀b o,b≠en->b≠it->hp.get? b=some o->h4.get? b=some o:=λb o hbe hbi hb=>by
  rw[<- eh4]; exact Zd _ (sb3.extBut b o hbe (sb2.extBut b o hbe (sb1.extBut b o hbi hb)))
 have hit4:Inn tup h4 it a (k+1):=hit1.keep λo e=>by
  rw[<- eh4]; exact Zd _ (sb3.extBut _ o (Ne.symm hne) (sb2.extBut _ o (Ne.symm hne) e))
 show wpAny _ _ (Builtin.SmallTypes.ownedTupleIsFree (.ref en)>>=_) _ _ ⟨h4,g,dr,tk+1,os⟩;rw[sz3];clear eh4 he3 sb3 he2 sb2 he1 sb1 hit1 sz3 h3 h2 h1;refine Za ?_;unfold Builtin.SmallTypes.ownedTupleIsFree;refine Za (Z9 he4 rfl (x:=.none) rfl (Ze ?_));simp only[Xx];refine Za (QB ?_);refine Za (Z9 he4 rfl (x:=old) rfl ?_);refine Za (Xd he4 (by simp) λh5 he5 sb5=>?_);replace sb5:Heap.SameBut en h4 h5:=sb5;replace he5:IsEnum h5 en it ((k:Int)+1) u:=he5;show wpAny _ _ (Builtin.SmallTypes.ownedTupleHandOut (.ref en) (.ref hp.objs.size)>>=_) _ _ ⟨h5,g,dr,tk+1,os⟩;refine Za ?_;unfold Builtin.SmallTypes.ownedTupleHandOut;refine Za (Xd he5 (by simp) λh6 he6 sb6=>?_);replace sb6:Heap.SameBut en h5 h6:=sb6;replace he6:IsEnumOut h6 en it ((k:Int)+1) u hp.objs.size:=he6;refine Xd he6 (by simp) λh7 he7 sb7=>?_
 replace sb7:Heap.SameBut en h6 h7:=sb7;replace he7:IsEnumOut h7 en it ((k:Int)+1) u hp.objs.size:=he7;have up:∀b o,b≠en->h4.get? b=some o->h7.get? b=some o:=λb o hbe hb=>sb7.extBut b o hbe (sb6.extBut b o hbe (sb5.extBut b o hbe hb))
 refine Za (wpAny_letGo (Ze ⟨_,rfl,Ze (fin h7 he7 (hit4.keep λo e=>up _ o (Ne.symm hne) e) (up _ _ (Xy enlt) tp4) ?_ λb o hbe hbi hb=>up b o hbe (kp4 b o hbe hbi hb))⟩));rw[sb7.1,sb6.1,sb5.1,sz4]
theorem Ip{tup:Bool}{en it a:Addr}{k:Nat}{us:WJ}{old:Value}{Q:Option Value->Shared->Prop}(calm:A.handled=none)(he:IsEnum s.heap en it k old)(hit:Inn tup s.heap it a k)(hs:Seq tup s.heap a us)(hu:us[k]?=none)
  (fin:∀h',Heap.ExtBut it s.heap h'->Q none { s with heap:=h' }):wpAny (model prog w) A (pyNext (.ref en)) Q E s:=by
 have hT:s.TypeIs (.ref en) "enumerate":=⟨_,he,rfl⟩
 unfold pyNext;refine Za (XG (ZW (name:=Str.ofString "__next__") hT Qx (ZU Qx hT F.entry_enumerate_next ?_ (F.args_enumerate_next_1 _))));show wpAny _ _ (field (.ref en) 2>>=_) _ _ _;refine Za (Z9 he rfl (x:=.ref it) rfl ?_);refine Za (l6 calm hit hs hu λh' x ext hx=>?_);obtain⟨o,ho,hc⟩:=hx;refine Za (Qk (T:="StopIteration") (b:=true) ⟨o,ho,hc⟩ QT ?_);exact Ze (fin _ ext)
theorem Dn(t:Addr)(us:WJ)(n:Nat)(dd:Option Addr)(sl:Array (Option Value)) :
  Meets (Builtin.«enumerate.__new__» ⟨[.type "enumerate",.ref t],[]⟩) (λ_ R s=>s.heap.get? t=some { cls:=.type "tuple",dict:=dd,data:=.seq us n,slots:=sl } /\
   R (.ok (.ret (.ref (s.heap.push { cls:=.type "tuple_iterator",data:=.fields #[.ref t,.int 0 0] }).objs.size)))
    { s with heap:=(s.heap.push { cls:=.type "tuple_iterator",data:=.fields #[.ref t,.int 0 0] }).push { cls:=.type "enumerate",data:=.fields #[.none,.bool false,.ref s.heap.objs.size,rawInt 0,.none,.none] } }) :=
 .of_wp λprog w A R s h=>by
  obtain⟨hp,g,d,tk,os⟩:=s;obtain⟨ht,h⟩:=h;have hsub:=sub_enumerate;have hT:Heap.IsTuple (Shared.heap ⟨hp,g,d,tk,os⟩) t us:=⟨_,ht,rfl,n,rfl⟩
  wp_walk using wpAny_loadPart' ht
  refine wpAny_stack_any λst=>Ze ?_
  split
  ·rename_i c _ _ _ _ _;cases(c==Value.type "enumerate")
   ·wp_walk using wpAny_loadPart' ht,X6 hT
    exact⟨_,rfl,h⟩
   ·wp_walk using wpAny_loadPart' ht,X6 hT
    exact⟨_,rfl,h⟩
  ·wp_walk using wpAny_loadPart' ht,X6 hT
   exact⟨_,rfl,h⟩
theorem Bp{t:Addr}{us:WJ}{Q:Wv}(hT:s.heap.IsTuple t us)
  (h:∀h',IsEnum h' (s.heap.objs.size+1) s.heap.objs.size 0 .none->h'.IsTupleIter s.heap.objs.size t 0->h'.objs.size=s.heap.objs.size+2->(∀b o,s.heap.get? b=some o->h'.get? b=some o)->Q (.ref (s.heap.objs.size+1)) { s with heap:=h' }) :
  wpAny (model prog w) A (call (.type "enumerate") [.ref t]) Q E s:=by
 obtain⟨⟨c,dd,dt,sl⟩,ht,hc,n,hd⟩:=hT;replace hc:c=.type "tuple":=hc;replace hd:dt=.seq us n:=hd;subst hc hd;refine callType_new F.called_enumerate (by decide) (F.typeCall_enumerate_1 _) (F.newCall_enumerate_1 _) (λobj=>F.args_object_init_2 obj _) F.entry_enumerate_new (Dn t us n dd sl) ⟨ht,?_⟩;have sz:(s.heap.push { cls:=.type "tuple_iterator",data:=.fields #[.ref t,.int 0 0] }).objs.size=s.heap.objs.size+1:=Z1 ..;show _/\_;rw[sz]
 have he:IsEnum ((s.heap.push { cls:=.type "tuple_iterator",data:=.fields #[.ref t,.int 0 0] }).push { cls:=.type "enumerate",data:=.fields #[.none,.bool false,.ref s.heap.objs.size,rawInt 0,.none,.none] }) (s.heap.objs.size+1) s.heap.objs.size 0 .none:=by
  have:=Zv (s.heap.push { cls:=.type "tuple_iterator",data:=.fields #[.ref t,.int 0 0] }) (o:={ cls:=.type "enumerate",data:=.fields #[.none,.bool false,.ref s.heap.objs.size,rawInt 0,.none,.none] }) rfl;rw[sz] at this; exact this
 exact⟨⟨_,he,rfl⟩,h _ he ⟨_,Zd _ (Zv _ rfl),rfl,rfl⟩ (by rw[Z1,sz]) λb o x=>Zd _ (Zd _ x)⟩
theorem Bj{tup:Bool}{a:Addr}{us:WJ}{Q:Wv}(hs:Seq tup s.heap a us)
  (h:∀h',IsEnum h' (s.heap.objs.size+1) s.heap.objs.size 0 .none->Inn tup h' s.heap.objs.size a 0->h'.objs.size=s.heap.objs.size+2->(∀b o,s.heap.get? b=some o->h'.get? b=some o)->Q (.ref (s.heap.objs.size+1)) { s with heap:=h' }) :
  wpAny (model prog w) A (call (.type "enumerate") [.ref a]) Q E s:=by
 cases tup with
 | true=>exact Bp hs h
 | false=>exact call_enumerate_list hs h
end
end ENM
namespace L2
open PySem PySem.Spec PyProof.Rows ENM
def SqB(K:Wy)(H:Hp)(tup:Bool)(a:Addr)(xs:WN):Prop:=match tup with
 | true=>SqT K H a xs
 | false=>SqL K H a xs
noncomputable def Ite(K:Wy)(tup:Bool)(a:Addr):It :=
 ⟨λi H=>∃xs x,SqB K H tup a xs/\xs[i]?=some x,λi H x H'=>∃y p,(∀xs,SqB K H tup a xs->xs[i]?=some y)/\H p=none/\H'=upd H p (.tup [.int i,y])/\x=.ref p,λi H=>∃xs,SqB K H tup a xs/\xs.length<=i⟩
theorem Inv.eu{X:Cx}{pins:Ww}{σ:L2.St}{H:Hp}{s:WA}(I:Inv X pins σ H s){tup:Bool}{a:Addr}{xs:WN}(h:SqB X.K H tup a xs):∃its:List Value,Vals xs its/\Seq tup s.heap a its.toArray:=by
 cases tup with
 | true=>obtain⟨its,rv,p,_⟩:=I.tuple h; exact⟨its,rv,p⟩
 | false=>obtain⟨its,rv,p,_⟩:=I.list h; exact⟨its,rv,p.isList⟩
theorem Inv.n6{X:Cx}{pins:Ww}{σ:L2.St}{H:Hp}{s:WA}(I:Inv X pins σ H s){tup:Bool}{a:Addr}{xs ys:WN}(h:SqB X.K H tup a xs)(h':SqB X.K H tup a ys):xs=ys:=by
 cases tup with
 | true=>exact I.jF h h'
 | false=>exact I.jK h h'
theorem Bt{P:WC}{w:WG}{K:Wy}{elts:WM}{k1:Nat}{tp:Pos}(tup:Bool)(a en it:Addr)(hne:en≠it) :
  Turn P w K (.Tuple elts k1 tp) (Ite K tup a) [en,it] en (λi h=>(∃old,IsEnum h en it i old)/\Inn tup h it a i) where
 mem:=by simp
 obj:=λi h st b hb=>by
  obtain⟨⟨old,he⟩,hi⟩:=st;rcases Zt.mp hb with rfl|hb
  ·exact⟨_,he,λv z=>by
    have z':Data.fields _=Data.cell v:=z;cases z'⟩
  ·have e:b=it:=by simpa using hb
   subst e; exact hi.there
 keep:=λi h h' st k=>by
  obtain⟨⟨old,he⟩,hi⟩:=st;exact⟨⟨old,k en (by simp) _ he⟩,hi.keep λo e=>k it (by simp) o e⟩
 item:=by
  intro X hP hw hK hc i pins s σ H E I hf st hg;subst hP hw hK;obtain⟨⟨old,he⟩,hi⟩:=st;obtain⟨xs,x,hq,hx⟩:=hg;obtain⟨its,rv,hs⟩:=I.eu hq;obtain⟨u,hu,ru⟩:=rv.get hx;obtain⟨f0,f1,f2,f3,f4,f5⟩:=hf en (by simp);obtain⟨g0,g1,g2,g3,g4,g5⟩:=hf it (by simp);refine F8 he hi hs (u:=u) (by simpa using hu) hne λh' ho hi' ht hz hk=>?_
  refine⟨_,rfl,wpAny_letOwnedTupleGo_enum ho λh2 he2 sb2=>?_⟩;replace sb2:Heap.SameBut en h' h2:=sb2;have elt:en<s.heap.objs.size:=Zp he;have hp:H s.heap.objs.size=none:=I.hok.fresh (Zl _);have ilt:it<s.heap.objs.size:=by obtain⟨o,e,_⟩:=hi.there; exact Zp e
  have kept:∀b o,b≠en->b≠it->s.heap.get? b=some o->h2.get? b=some o:=λb o h1 h3 e=>sb2.extBut b o h1 (hk b o h1 h3 e)
  have tp2:h2.get? s.heap.objs.size=some { cls:=.type "tuple",data:=.seq #[.int i s.toks,u] }:=sb2.extBut _ _ (Xy elt) ht
  have I2:Inv X pins σ (upd H s.heap.objs.size (.tup [.int i,x])) { s with heap:=h2,toks:=s.toks+1 }:=by
   refine I.step (g':=s.gens) (d':=s.drawn) (ch:=[en,it]) (λb hb=>?_) (λb o _ _ hc e _=>kept b o (λz=>hc (by simp[z])) (λz=>hc (by simp[z])) e)
    (λb o _ _ hc e _=>⟨o.slots,kept b o (λz=>hc (by simp[z])) (λz=>hc (by simp[z])) e⟩) (λb o _ e n=>by rw[aC (ZI (Zp e))]; exact n)
    (λb o hc e=>⟨o,kept b o (λz=>hc (by simp[z])) (λz=>hc (by simp[z])) e⟩) (λb ys q=>by rw[aC (br q hp)]; exact q) (λb o u q=>by rw[aC (br q hp)]; exact q)
    (λb ps q=>⟨#[],by rw[aC (br q hp),q]; simp⟩) (λm hm=>?_) ?_ I.bare
   ·rcases Zt.mp hb with rfl|hb
    ·exact⟨f3,f1,f4,f5⟩
    ·have e:b=it:=by simpa using hb
     subst e; exact⟨g3,g1,g4,g5⟩
   ·obtain⟨o,es,ep,ho',r⟩:=hm;exact⟨o,es,ep,kept _ o (Ne.symm f1) (Ne.symm g1) ho',r⟩
   ·intro b o q
    by_cases hb:b=s.heap.objs.size
    ·subst hb;rw[bZ] at q;cases q;exact⟨by show 2<=sizeLine; decide,[.int i s.toks,u],.cons ⟨_,rfl⟩ (.cons ru .nil),_,tp2,rfl,_,rfl⟩
    ·rw[aC hb] at q;have hb1:b≠en:=λz=>by rw[z,f0] at q; cases q
     have hb2:b≠it:=λz=>by rw[z,g0] at q; cases q
     refine(I.hok b o q).stay (λc v hc e=>?_) (λc q=>by rw[aC (br q hp)]; exact q) λc ys q=>by rw[aC (br q hp)]; exact q
     rcases hc with rfl|hc
     ·exact kept _ v hb1 hb2 e
     ·exact kept c v (λz=>by rw[z,f0] at hc; cases hc) (λz=>by rw[z,g0] at hc; cases hc) e
  refine⟨.ref s.heap.objs.size,upd H s.heap.objs.size (.tup [.int i,x]),I2,rfl,⟨x,_,λys hy=>by rw[I.n6 hy hq]; exact hx,hp,rfl,rfl⟩,⟨⟨u,by simpa using he2⟩,hi'.keep λo e=>sb2.extBut _ o (Ne.symm hne) e⟩,λb hb=>?_⟩;rcases Zt.mp hb with rfl|hb
  ·rw[aC (ZI elt)]; exact f0
  ·have e:b=it:=by simpa using hb
   subst e; rw[aC (ZI ilt)]; exact g0
 done:=by
  intro X hP hw hK hc i pins s σ H E I hf st hg;subst hP hw hK;obtain⟨⟨old,he⟩,hi⟩:=st;obtain⟨xs,hq,hx⟩:=hg;obtain⟨its,rv,hs⟩:=I.eu hq;obtain⟨g0,g1,g2,g3,g4,g5⟩:=hf it (by simp);have hl:=rv.length;exact Ip (I.ok.hd hc) he hi hs (by simp; omega) λh' eb=>⟨rfl,I.turned (t':=s.toks) (λb o hb e=>eb b o hb e) g0 g1 g3 g4 g5⟩
 self:=λ_ _ _ _ _ st h=>by
  obtain⟨⟨old,he⟩,_⟩:=st;exact wpAny_pyIter_enum he h
section
variable{X:Cx}
noncomputable def xE(K:Wy)(ta:TA):TI:=λσ H R=>ta σ H λvs H1=>∃tup a,vs=[.ref a]/\(∃xs,SqB K H1 tup a xs)/\R (Ite K tup a) H1
theorem F7{e:Expr}{ta:TA}{p pos:Pos}{elts:WM}{k1:Nat}{tp:Pos}(hg:Gl X "enumerate")(hm:X.mg "enumerate" = none)(hv:bootBuiltins "enumerate" = some (.type "enumerate"))(ha:PA X [e] ta)(hs:starEach [e] X.env=[(false,eval e X.env)]) :
  PI X (.Tuple elts k1 tp) (.Call (.Name "enumerate" p) [e] [] pos) (xE X.K ta):=by
 intro pins s σ H R I h;refine Call_ (ef I hg hm hv (Xs (thn (ha pos pins s σ H _ I h) λus s1 ⟨vs,H1,I1,r1,q1⟩=>?_) hs rfl));obtain⟨tup,a,e,⟨xs,hq⟩,q⟩:=q1;subst e
 cases r1 with
 | cons r rr =>
  cases rr;cases r;obtain⟨its,rv,hsq⟩:=I1.eu hq;refine Bj hsq λh' he hi hz hk=>?_
  refine wpAny_pyIter_enum he ?_;have fr:∀b,s1.heap.objs.size<=b->cI X pins H1 b:=λb hb=>I1.fZ hb (I1.hok.fresh hb)
  refine⟨s1.heap.objs.size+1,[s1.heap.objs.size+1,s1.heap.objs.size],_,_,H1,rfl,I1.kept (t':=s1.toks) hk,Bt tup a _ _ (Xy (X2 _)),⟨⟨.none,he⟩,hi⟩,λb hb=>?_,q⟩;rcases Zt.mp hb with rfl|hb
  ·exact fr _ (Qq _)
  ·have e:b=s1.heap.objs.size:=by simpa using hb
   subst e; exact fr _ (Zl _)
end
end L2

namespace EV
open PySem PySem.Spec PyProof.Rows L2
section
variable{X:Cx}{Γ:Gx}{xw:XW}{a b c:Expr}{ma mb mc:Sg->M D}{pos:Pos}
theorem xJ{i:Nat}{x:Str}(hN:X.N[i]?=some x)(hv:Vis X.env.scope x)(hd:(x==("__debug__" : Str))=false)(hcd:(x==("__classdict__" : Str))=false):PE X (.Name x pos) (tM Γ xw λσ=>bq σ i) :=
 PE.imp (z8 hN hv hd hcd) λσ H Q h=>by
  obtain⟨σd,ι,S,he,hs,ho⟩:=h;have ho:Out Γ xw ι H (bq σd i S) λd _ ι' H'=>∀v,Rep Γ ι' H' d v->Q v H':=ho
  cases q:σd[i]? with
  | none=>rw[show bq σd i S=.bad by unfold bq; rw[q]; rfl] at ho; exact ho.elim
  | some o =>
   cases o with
   | none=>rw[show bq σd i S=.bad by unfold bq; rw[q]; rfl] at ho; exact ho.elim
   | some d =>
    rw[show bq σd i S=.ok d S by unfold bq; rw[q]; rfl] at ho;obtain⟨v,hv,r⟩:=he.var i d q;exact⟨v,hv,ho.here hs v r⟩
theorem iQ{e:Expr}{d:D}{v:V}(h:PE X e (tC v))(r:∀ι H,Rep Γ ι H d v):PE X e (tM Γ xw λ_=>pure d) :=
 PE.imp h λσ H Q h=>by
  obtain⟨σd,ι,S,he,hs,ho⟩:=h;exact ho.here hs v (r _ _)
theorem Bh{op:Operator}{f:D->D->M D}(ho:OpR X (binaryOp op) (bg Γ xw f))(ha:PE X a (tM Γ xw ma))(hb:PE X b (tM Γ xw mb)):PE X (.BinOp a op b pos) (tM Γ xw λσ=>ma σ>>=λx=>mb σ>>=λy=>f x y) :=
 PE.imp (FJ ho ha hb) λ_ _ _ h=>lP h
theorem A8{op:CmpOp}{f:D->D->M D}(ho:OpR X (compareOp op) (bg Γ xw f))(ha:PE X a (tM Γ xw ma))(hb:PE X b (tM Γ xw mb))(hm:behindInMarks op b=false):PE X (.Compare a [op] [b] pos) (tM Γ xw λσ=>ma σ>>=λx=>mb σ>>=λy=>f x y) :=
 PE.imp (EJ ho ha hb hm) λ_ _ _ h=>lP h
theorem Bx{rest:WM}(ha:PE X a (tM Γ xw ma))(hb:PE X (.BoolOp .And (b::rest) pos) (tM Γ xw mb)):PE X (.BoolOp .And (a::b::rest) pos) (tM Γ xw λσ=>ma σ>>=λx=>match x with|.bl true=>mb σ|.bl false=>pure (.bl false)|_=>bad) :=
 PE.imp (Ga ha hb) λσ H Q h=>by
  obtain⟨σd,ι,S,he,hs,ho⟩:=h;refine⟨σd,ι,S,he,hs,ho.bind.mono λd S' ι' H' _ _ ⟨s',e',o'⟩ v r=>?_⟩
  cases d with
  | bl k =>
   cases r;refine⟨k,rfl,?_⟩
   cases k with
   | true=>rw[Zf rfl]; exact⟨σd,ι',S',he.ext e',s',o'⟩
   | false=>rw[Zg Zz]; exact o'.here s' _ (.bl _)
  | _=>exact o'.elim
theorem AU{rest:WM}(ha:PE X a (tM Γ xw ma))(hb:PE X (.BoolOp .Or (b::rest) pos) (tM Γ xw mb)):PE X (.BoolOp .Or (a::b::rest) pos) (tM Γ xw λσ=>ma σ>>=λx=>match x with|.bl true=>pure (.bl true)|.bl false=>mb σ|_=>bad) :=
 PE.imp (Jm ha hb) λσ H Q h=>by
  obtain⟨σd,ι,S,he,hs,ho⟩:=h;refine⟨σd,ι,S,he,hs,ho.bind.mono λd S' ι' H' _ _ ⟨s',e',o'⟩ v r=>?_⟩
  cases d with
  | bl k =>
   cases r;refine⟨k,rfl,?_⟩
   cases k with
   | false=>rw[Zg Zz]; exact⟨σd,ι',S',he.ext e',s',o'⟩
   | true=>rw[Zf rfl]; exact o'.here s' _ (.bl _)
  | _=>exact o'.elim
theorem Fw(ha:PE X a (tM Γ xw ma)):PE X (.UnaryOp .Not a pos) (tM Γ xw λσ=>ma σ>>=λx=>match x with|.bl b=>pure (.bl (!b))|_=>bad) :=
 PE.imp (CS ha) λσ H Q h=>by
  obtain⟨σd,ι,S,he,hs,ho⟩:=h;refine⟨σd,ι,S,he,hs,ho.bind.mono λd S' ι' H' _ _ ⟨s',e',o'⟩ v r=>?_⟩
  cases d with
  | bl k=>cases r; exact⟨k,rfl,o'.here s' _ (.bl _)⟩
  | _=>exact o'.elim
theorem Iw(ha:PE X a (tM Γ xw ma)):PE X (.UnaryOp .USub a pos) (tM Γ xw λσ=>ma σ>>=λx=>match x with|.int i=>pure (.int (-i))|_=>bad) :=
 PE.imp (FE DX ha) λσ H Q h=>by
  obtain⟨σd,ι,S,he,hs,ho⟩:=h;refine⟨σd,ι,S,he,hs,ho.bind.mono λd S' ι' H' _ _ ⟨s',e',o'⟩ v r=>?_⟩
  cases d with
  | int k=>cases r; exact⟨k,rfl,o'.here s' _ (.int _)⟩
  | _=>exact o'.elim
theorem jz{ι:WD}{H:Hp}{d:D}{v:V}(r:Rep Γ ι H d v):decide (v=.non)=decide (d=.non):=by
 cases r<;>simp
theorem GK{j pos'}(ha:PE X a (tM Γ xw ma)):PE X (.Compare a [.Is] [.Constant .none j pos'] pos) (tM Γ xw λσ=>ma σ>>=λx=>pure (.bl (decide (x=.non)))) :=
 PE.imp (tH (uY ha)) λσ H Q h=>by
  obtain⟨σd,ι,S,he,hs,ho⟩:=h;refine⟨σd,ι,S,he,hs,ho.bind.mono λd S' ι' H' _ _ ⟨s',e',o'⟩ v r=>?_⟩;show Q (.bl (decide (v=.non))) H';rw[jz r]; exact o'.here s' _ (.bl _)
theorem zC{j pos'}(ha:PE X a (tM Γ xw ma)):PE X (.Compare a [.IsNot] [.Constant .none j pos'] pos) (tM Γ xw λσ=>ma σ>>=λx=>pure (.bl (!decide (x=.non)))) :=
 PE.imp (tH (w_ ha)) λσ H Q h=>by
  obtain⟨σd,ι,S,he,hs,ho⟩:=h;refine⟨σd,ι,S,he,hs,ho.bind.mono λd S' ι' H' _ _ ⟨s',e',o'⟩ v r=>?_⟩;show Q (.bl (!decide (v=.non))) H';rw[jz r]; exact o'.here s' _ (.bl _)
theorem Hv{op op':CmpOp}{f f':D->D->M D}(ho:OpR X (compareOp op) (bg Γ xw f))(ho':OpR X (compareOp op') (bg Γ xw f'))(ha:PE X a (tM Γ xw ma))(hb:PE X b (tM Γ xw mb))(hc:PE X c (tM Γ xw mc))(hm:lastMarks [op,op'] [b,c]=false) :
  PE X (.Compare a [op,op'] [b,c] pos) (tM Γ xw λσ=>ma σ>>=λx=>mb σ>>=λy=>f x y>>=λr=>match r with|.bl true=>mc σ>>=λz=>f' y z|.bl false=>pure (.bl false)|_=>bad) :=
 PE.imp (Hr ho ho' ha hb hc hm) λσ H Q h=>by
  obtain⟨σd,ι,S,he,hs,ho⟩:=h;refine⟨σd,ι,S,he,hs,ho.bind.mono λd S' ι' H' _ _ ⟨s',e',o'⟩ v r=>⟨σd,ι',S',he.ext e',s',o'.bind.mono λd2 S2 ι2 H2 _ _ ⟨s2,e2,o2⟩ v2 r2=>⟨ι2,S2,d,d2,s2,r.ext e2,r2,o2.bind.mono λd3 S3 ι3 H3 _ _ ⟨s3,e3,o3⟩ v3 r3=>?_⟩⟩⟩
  cases d3 with
  | bl k =>
   cases r3;refine⟨k,rfl,?_⟩
   cases k with
   | true =>
    rw[Zf rfl];exact⟨σd,ι3,S3,(he.ext (e'.trans e2)).ext e3,s3,o3.bind.mono λd4 S4 ι4 H4 _ _ ⟨s4,e4,o4⟩ v4 r4=>⟨ι4,S4,d2,d4,s4,(r2.ext e3).ext e4,r4,o4⟩⟩
   | false=>rw[Zg Zz]; exact o3.here s3 _ (.bl _)
  | _=>exact o3.elim
theorem IG{e:Expr}{m:Sg->M D}(hK:Γ.K=X.K)(h:PE X e (tM Γ xw m))(he:∀whole,isTrue e X.env whole=(do let v <- whole; standAt e.pos; holding [v] (truthy v))):PT X e (tMT Γ xw λσ=>m σ>>=truth):=by
 intro pins s σ H Q I hw;obtain⟨σd,ι,S,hE,hs,ho⟩:=hw;refine isTrue_plain (thn (h pins s σ H (λx H'=>∃ι S d,aq Γ ι H' S/\Rep Γ ι H' d x/\Out Γ xw ι H' (truth d S) λb _ _ H'=>Q b H') I ⟨σd,ι,S,hE,hs,ho.bind.mono λd S' ι' H' _ _ ⟨s',e',o'⟩ v r=>⟨ι',S',d,s',r,o'⟩⟩) λv s1 ⟨x,H1,I1,r1,q1⟩=>?_) (he _);exact Jr hK pins s1 σ H1 x v Q I1 r1 q1
theorem GI{op:CmpOp}{f:D->D->M D}(hbl:∀x y S d S',f x y S=.ok d S'->∃k,d=.bl k)(ho:OpR X (compareOp op) (bg Γ xw f))(ha:PE X a (tM Γ xw ma))(hb:PE X b (tM Γ xw mb))(hm:behindInMarks op b=false) :
  PT X (.Compare a [op] [b] pos) (tMT Γ xw λσ=>ma σ>>=λx=>mb σ>>=λy=>f x y>>=λr=>truth r) :=
 PT.imp (yb ho ha hb hm) λσ H Q h=>by
  obtain⟨σd,ι,S,he,hs,ho⟩:=h;refine⟨σd,ι,S,he,hs,ho.bind.mono λd S' ι' H' _ _ ⟨s',e',o'⟩ v r=>⟨σd,ι',S',he.ext e',s',o'.bind.mono λd2 S2 ι2 H2 _ _ ⟨s2,e2,o2⟩ v2 r2=>⟨ι2,S2,d,d2,s2,r.ext e2,r2,?_⟩⟩⟩
  cases q:f d d2 S2 with
  | bad=>rw[aV q] at o2; exact o2.elim
  | exc c S3=>rw[cY q] at o2; exact o2
  | ok d3 S3 =>
   rw[aj q] at o2;obtain⟨k,rfl⟩:=hbl _ _ _ _ _ q;intro ι3 H3 e3 s3 v3 r3;cases r3;exact⟨k,rfl,(o2.step e3).here s3⟩
theorem CP{op op':CmpOp}{f f':D->D->M D}(hbl:∀x y S d S',f x y S=.ok d S'->∃k,d=.bl k)(hbl':∀x y S d S',f' x y S=.ok d S'->∃k,d=.bl k)(ho:OpR X (compareOp op) (bg Γ xw f))(ho':OpR X (compareOp op') (bg Γ xw f'))(ha:PE X a (tM Γ xw ma))(hb:PE X b (tM Γ xw mb))(hc:PE X c (tM Γ xw mc))(hm:lastMarks [op,op'] [b,c]=false) :
  PT X (.Compare a [op,op'] [b,c] pos) (tMT Γ xw λσ=>ma σ>>=λx=>mb σ>>=λy=>f x y>>=λr=>truth r>>=λk=>if k=true then mc σ>>=λz=>f' y z>>=λq=>truth q else pure false) :=
 PT.imp (CW ho ho' ha hb hc hm) λσ H Q h=>by
  obtain⟨σd,ι,S,he,hs,ho⟩:=h;refine⟨σd,ι,S,he,hs,ho.bind.mono λd S' ι' H' _ _ ⟨s',e',o'⟩ v r=>⟨σd,ι',S',he.ext e',s',o'.bind.mono λd2 S2 ι2 H2 _ _ ⟨s2,e2,o2⟩ v2 r2=>⟨ι2,S2,d,d2,s2,r.ext e2,r2,?_⟩⟩⟩
  cases q:f d d2 S2 with
  | bad=>rw[aV q] at o2; exact o2.elim
  | exc c S3=>rw[cY q] at o2; exact o2
  | ok d3 S3 =>
   rw[aj q] at o2;obtain⟨k,rfl⟩:=hbl _ _ _ _ _ q;intro ι3 H3 e3 s3 v3 r3;cases r3;refine⟨k,rfl,?_⟩;have o3:=o2.step e3
   cases k with
   | false=>rw[Zg Zz]; exact⟨false,rfl,o3.here s3⟩
   | true =>
    rw[Zf rfl];have o3:Out Γ xw ι3 H3 ((mc σd>>=λz=>f' d2 z>>=λq=>truth q) S3) _:=o3;refine⟨σd,ι3,S3,(he.ext (e'.trans e2)).ext e3,s3,o3.bind.mono λd4 S4 ι4 H4 _ _ ⟨s4,e4,o4⟩ v4 r4=>⟨ι4,S4,d2,d4,s4,(r2.ext e3).ext e4,r4,?_⟩⟩
    cases q4:f' d2 d4 S4 with
    | bad=>rw[aV q4] at o4; exact o4.elim
    | exc c S5=>rw[cY q4] at o4; exact o4
    | ok d5 S5 =>
     rw[aj q4] at o4;obtain⟨k5,rfl⟩:=hbl' _ _ _ _ _ q4;intro ι5 H5 e5 s5 v5 r5;cases r5;exact⟨k5,rfl,(o4.step e5).here s5⟩
theorem cN{j pos'}(ha:PE X a (tM Γ xw ma)):PT X (.Compare a [.Is] [.Constant .none j pos'] pos) (tMT Γ xw λσ=>ma σ>>=λx=>pure (decide (x=.non))) :=
 PT.imp (tV (uY ha)) λσ H Q h=>by
  obtain⟨σd,ι,S,he,hs,ho⟩:=h;refine⟨σd,ι,S,he,hs,ho.bind.mono λd S' ι' H' _ _ ⟨s',e',o'⟩ v r=>⟨_,rfl,?_⟩⟩;rw[jz r]; exact o'.here s'
theorem fC{j pos'}(ha:PE X a (tM Γ xw ma)):PT X (.Compare a [.IsNot] [.Constant .none j pos'] pos) (tMT Γ xw λσ=>ma σ>>=λx=>pure (!decide (x=.non))) :=
 PT.imp (tV (w_ ha)) λσ H Q h=>by
  obtain⟨σd,ι,S,he,hs,ho⟩:=h;refine⟨σd,ι,S,he,hs,ho.bind.mono λd S' ι' H' _ _ ⟨s',e',o'⟩ v r=>⟨_,rfl,?_⟩⟩;rw[jz r]; exact o'.here s'
variable{na nb:Sg->M Bool}
theorem v7{rest:WM}(ha:PT X a (tMT Γ xw na))(hb:PW X (.BoolOp .And (b::rest) pos) (tMT Γ xw nb)):PW X (.BoolOp .And (a::b::rest) pos) (tMT Γ xw λσ=>na σ>>=λk=>if k=true then nb σ else pure false) :=
 PW.imp (A9 ha hb) λσ H Q h=>by
  obtain⟨σd,ι,S,he,hs,ho⟩:=h;refine⟨σd,ι,S,he,hs,ho.bind.mono λk S' ι' H' _ _ ⟨s',e',o'⟩=>?_⟩
  cases k with
  | true=>rw[Zf rfl]; exact⟨σd,ι',S',he.ext e',s',o'⟩
  | false=>rw[Zg Zz]; exact o'.here s'
theorem tF{rest:WM}(ha:PT X a (tMT Γ xw na))(hb:PW X (.BoolOp .Or (b::rest) pos) (tMT Γ xw nb)):PW X (.BoolOp .Or (a::b::rest) pos) (tMT Γ xw λσ=>na σ>>=λk=>if k=true then pure true else nb σ) :=
 PW.imp (AY ha hb) λσ H Q h=>by
  obtain⟨σd,ι,S,he,hs,ho⟩:=h;refine⟨σd,ι,S,he,hs,ho.bind.mono λk S' ι' H' _ _ ⟨s',e',o'⟩=>?_⟩
  cases k with
  | false=>rw[Zg Zz]; exact⟨σd,ι',S',he.ext e',s',o'⟩
  | true=>rw[Zf rfl]; exact o'.here s'
theorem Dr(ha:PT X a (tMT Γ xw na)):PT X (.UnaryOp .Not a pos) (tMT Γ xw λσ=>na σ>>=λk=>pure (!k)) :=
 PT.imp (AF ha) λσ H Q h=>by
  obtain⟨σd,ι,S,he,hs,ho⟩:=h;exact⟨σd,ι,S,he,hs,ho.bind.mono λk S' ι' H' _ _ ⟨s',e',o'⟩=>o'.here s'⟩
theorem yJ(hc:PT X c (tMT Γ xw na))(ha:PE X a (tM Γ xw ma))(hb:PE X b (tM Γ xw mb)):PE X (.IfExp c a b pos) (tM Γ xw λσ=>na σ>>=λk=>if k=true then ma σ else mb σ) :=
 PE.imp (BV hc ha hb) λσ H Q h=>by
  obtain⟨σd,ι,S,he,hs,ho⟩:=h;refine⟨σd,ι,S,he,hs,ho.bind.mono λk S' ι' H' _ _ ⟨s',e',o'⟩=>?_⟩
  cases k with
  | true=>rw[Zf rfl]; exact⟨σd,ι',S',he.ext e',s',o'⟩
  | false=>rw[Zg Zz]; exact⟨σd,ι',S',he.ext e',s',o'⟩
theorem CJ:PA X [] (tMA Γ xw λ_=>pure []) :=
 PA.imp lX λσ H Q h=>by
  obtain⟨σd,ι,S,he,hs,ho⟩:=h;exact ho.here hs [] .nil
theorem CN{es:WM}{m:Sg->M (List D)}(ha:PE X a (tM Γ xw ma))(hr:PA X es (tMA Γ xw m))(hs:starEach (a::es) X.env=(false,eval a X.env)::starEach es X.env):PA X (a::es) (tMA Γ xw λσ=>ma σ>>=λx=>m σ>>=λxs=>pure (x::xs)) :=
 PA.imp (jX ha hr hs) λσ H Q h=>by
  obtain⟨σd,ι,S,he,hs,ho⟩:=h;exact⟨σd,ι,S,he,hs,ho.bind.mono λd S' ι' H' _ _ ⟨s',e',o'⟩ v r=>⟨σd,ι',S',he.ext e',s',o'.bind.mono λds S2 ι2 H2 _ _ ⟨s2,e2,o2⟩ vs rs=>o2.here s2 _ (.cons (r.ext e2) rs)⟩⟩
theorem xx{es:WM}{k:Nat}{m:Sg->M (List D)}(h:PA X es (tMA Γ xw m)):PE X (.Tuple es k pos) (tM Γ xw λσ=>m σ>>=λds=>guard (fits ds.length) (pure (.tup ds))) :=
 PE.imp (EY h) λσ H Q h=>by
  obtain⟨σd,ι,S,he,hs,ho⟩:=h;refine⟨σd,ι,S,he,hs,ho.bind.mono λds S' ι' H' _ _ ⟨s',e',o'⟩ vs rs=>?_⟩;obtain⟨hz,o'⟩:=Out.guard o';exact⟨by rw[<- rs.length]; exact gG hz,λp hp=>Out.tup o' s' hp rs⟩
theorem Cn{es:WM}{m:Sg->M (List D)}(h:PA X es (tMA Γ xw m)):PE X (.List es pos) (tM Γ xw λσ=>m σ>>=λds=>guard (fits ds.length) (alloc (.lst ds))) :=
 PE.imp (BQ h) λσ H Q h=>by
  obtain⟨σd,ι,S,he,hs,ho⟩:=h;refine⟨σd,ι,S,he,hs,ho.bind.mono λds S' ι' H' _ _ ⟨s',e',o'⟩ vs rs=>?_⟩;obtain⟨hz,o'⟩:=Out.guard o';exact⟨by rw[<- rs.length]; exact gG hz,λp hp=>Out.alloc o' s' hp rs⟩
theorem Az(hK:Γ.K=X.K)(ha:PE X a (tM Γ xw ma))(hb:PE X b (tM Γ xw mb))(hs:oO b):PE X (.Subscript a b pos) (tM Γ xw λσ=>ma σ>>=λx=>mb σ>>=λy=>ixD x y) :=
 PE.imp (Jk (BN hK) ha hb hs) λ_ _ _ h=>lP h
theorem j7{id:String}{x:Str}{p:Pos}{es:WM}{m:Sg->M (List D)}{f:List D->M D}(hc:cG X (.builtin id) (d7 Γ xw f))(hg:Gl X x)(hm:X.mg x=none)(hv:bootBuiltins x=some (.builtin id))(ha:PA X (a::es) (tMA Γ xw m))(hn:x≠"__name__")(hdb:(x==("__debug__" : Str))=false)
  (he:starEach (a::es) X.env=(false,eval a X.env)::starEach es X.env) (hpl:(backTo pos (starEach es X.env)).any (·.1)=false):PE X (.Call (.Name x p) (a::es) [] pos) (tM Γ xw λσ=>m σ>>=f) :=
 PE.imp (wG hc hg hm hv ha hn hdb he hpl) λ_ _ _ h=>wW h
theorem zz{T:String}{x:Str}{p:Pos}{es:WM}{m:Sg->M (List D)}{f:List D->M D}(hc:cG X (.type T) (d7 Γ xw f))(hg:Gl X x)(hm:X.mg x=none)(hv:bootBuiltins x=some (.type T))(ha:PA X (a::es) (tMA Γ xw m))(hn:x≠"__name__")(hdb:(x==("__debug__" : Str))=false)
  (he:starEach (a::es) X.env=(false,eval a X.env)::starEach es X.env) (hpl:(backTo pos (starEach es X.env)).any (·.1)=false):PE X (.Call (.Name x p) (a::es) [] pos) (tM Γ xw λσ=>m σ>>=f) :=
 PE.imp (C7 hc hg hm hv ha hn hdb he hpl) λ_ _ _ h=>wW h
theorem yp{sub:Sub}{t:Ty}{T:String}{x y:Str}{p p':Pos}(hK:Γ.K=X.K)(ht:t.name=some T)(hg:Gl X x)(hm:X.mg x=none)(hv:bootBuiltins x=some (.builtin "isinstance"))(hg':Gl X y)(hm':X.mg y=none)(hv':bootBuiltins y=some (.type T))(ha:PE X a (tM Γ xw ma))
  (hn:x≠"__name__") (hdb:(x==("__debug__" : Str))=false) (hn':y≠"__name__") (hdb':(y==("__debug__" : Str))=false) (hst:starEach [a,.Name y p'] X.env=(false,eval a X.env)::starEach [.Name y p'] X.env) :
  PE X (.Call (.Name x p) [a,.Name y p'] [] pos) (tM Γ xw λσ=>ma σ>>=λd=>iL sub t d):=by
 have hy:PE X (.Name y p') (tC (.ty T)):=yq hg' hm' hv' rfl hn' hdb'
 have hc:cG X (.builtin "isinstance") (λxs H Q=>∃x,xs=[x,.ty T]/\uR Γ xw (iL sub t) x H Q):=by
  intro pins s σ H xs us Q I rs h;obtain⟨x,rfl,ι,S,d,hS,r,ho⟩:=h;obtain⟨u1,u2,rfl,r1,r2⟩:=rs.two;cases r2;unfold iL at ho
  cases q:cF sub S d t with
  | none=>rw[q] at ho; exact ho.elim
  | some k =>
   rw[q] at ho;exact DB hK I hS ht r r1 q λtk=>⟨.bl k,H,I.tok _,rfl,Out.val ho hS (.bl _)⟩
 refine PE.imp (wG hc hg hm hv (jX ha (jX hy lX rfl) hst) hn hdb hst rfl) λσ H Q h=>?_
 obtain⟨σd,ι,S,he,hs,ho⟩:=h;exact⟨σd,ι,S,he,hs,ho.bind.mono λd S' ι' H' _ _ ⟨s',e',o'⟩ v r=>⟨v,rfl,ι',S',d,s',r,o'⟩⟩
end
end EV

namespace EV
open PySem PySem.Spec PyProof.Rows L2
section
variable{X:Cx}{Γ:Gx}{xw:XW}{ι ι':WD}{H H':Hp}{S:af}{σ:L2.St}
theorem Rep.move(hp:ι<+:ι')(ht:∀a xs,H a=some (.tup xs)->H' a=some (.tup xs))(hf:∀a o u,H a=some (.frz o u)->H' a=some (.frz o u)){d:D}{v:V}(h:Rep Γ ι H d v):Rep Γ ι' H' d v:=by
 induction h with
 | non=>exact .non
 | bl b=>exact .bl b
 | int i=>exact .int i
 | str x=>exact .str x
 | tup h1 h2 h3 h4 ih =>
  refine .tup ?_ h2 ih λk q=>ht _ _ (h4 k q)
  rcases h1 with(h|⟨o,h⟩)|h
  ·exact .inl (.inl (ht _ _ h))
  ·exact .inl (.inr ⟨o,hf _ _ _ h⟩)
  ·exact .inr h
 | fro h1 h2 h3 ih =>
  refine .fro ?_ h2 ih;rcases h1 with⟨o,h⟩|h
  ·exact .inl ⟨o,hf _ _ _ h⟩
  ·exact .inr h
 | loc h=>exact .loc (gh hp h)
theorem wO{a:Addr}{xs ys:WN}(h:H a=some (.lst xs)):∀b zs,H b=some (.tup zs)->upd H a (.lst ys) b=some (.tup zs):=λb zs e=>by
 rw[aC (ni e h (by intro z; cases z))]; exact e
theorem vO{a:Addr}{xs ys:WN}(h:H a=some (.lst xs)):∀b o u,H b=some (.frz o u)->upd H a (.lst ys) b=some (.frz o u):=λb o u e=>by
 rw[aC (ni e h (by intro z; cases z))]; exact e
theorem Rep.write{a:Addr}{xs ys:WN}(h:H a=some (.lst xs)){d:D}{v:V}(r:Rep Γ ι H d v):Rep Γ ι (upd H a (.lst ys)) d v:=r.move (Z4 _) (wO h) (vO h)
theorem aA.write{a:Addr}{xs ys:WN}(h:H a=some (.lst xs)){ds:WP}{vs:WN}(r:aA Γ ι H ds vs):aA Γ ι (upd H a (.lst ys)) ds vs:=Paired.imp (λ_ _ r=>Rep.write h r) r
theorem bf.write{a:Addr}{xs ys:WN}(h:H a=some (.lst xs)){σd:Sg}(e:bf Γ ι H σ σd):bf Γ ι (upd H a (.lst ys)) σ σd:=⟨e.len,λi d q=>let⟨v,e1,r⟩:=e.var i d q; ⟨v,e1,r.write h⟩⟩
theorem Ext.write{a:Addr}{xs ys:WN}(h:H a=some (.lst xs))(hm:a∈ι):Ext ι ι H (upd H a (.lst ys)) :=
 ⟨Z4 _,wO h,vO h,λb o e n=>by rw[aC (λz=>n (by rw[z]; exact hm))]; exact e,λ_ h n=>absurd h n⟩
theorem aq.write(hS:aq Γ ι H S){l:Nat}{a:Addr}{xs ys:WN}{es ds:WP}(hl:S[l]?=some (.lst es))(ha:ι[l]?=some a)(h:H a=some (.lst xs))(r:aA Γ ι H ds ys):aq Γ ι (upd H a (.lst ys)) (S.set l (.lst ds)):=by
 refine⟨by rw[Xr]; exact hS.len,hS.nd,λm c hm=>?_⟩
 by_cases e:m=l
 ·subst e;rw[Xm (Zh.mp hl).1] at hm;cases hm;exact⟨a,ha,ys,bZ,aA.write h r⟩
 ·rw[ZZ (Ne.symm e)] at hm;obtain⟨b,hb,c1⟩:=hS.cell m c hm;have hne:b≠a:=λz=>e (gB hS.nd hb (z▸ha))
  refine⟨b,hb,?_⟩
  cases c with
  | lst zs=>obtain⟨ws,hw,rw'⟩:=c1; exact⟨ws,by rw[aC hne]; exact hw,aA.write h rw'⟩
  | dct kvs=>obtain⟨ws,hw,rw'⟩:=c1; exact⟨ws,by rw[aC hne]; exact hw,Paired.imp (λ_ _ q=>⟨q.1,Rep.write h q.2⟩) rw'⟩
  | fdc kvs=>obtain⟨ws,⟨o,hw⟩,rw'⟩:=c1; exact⟨ws,⟨o,by rw[aC hne]; exact hw⟩,Paired.imp (λ_ _ q=>⟨q.1,Rep.write h q.2⟩) rw'⟩
theorem aq.other(hS:aq Γ ι H S){a:Addr}{xs ys:WN}(h:H a=some (.lst xs))(hn:a∉ι):aq Γ ι (upd H a (.lst ys)) S :=
 ⟨hS.len,hS.nd,λm c hm=>by
  obtain⟨b,hb,c1⟩:=hS.cell m c hm;have hne:b≠a:=λz=>hn (z▸ZD hb)
  refine⟨b,hb,?_⟩
  cases c with
  | lst zs=>obtain⟨ws,hw,rw'⟩:=c1; exact⟨ws,by rw[aC hne]; exact hw,aA.write h rw'⟩
  | dct kvs=>obtain⟨ws,hw,rw'⟩:=c1; exact⟨ws,by rw[aC hne]; exact hw,Paired.imp (λ_ _ q=>⟨q.1,Rep.write h q.2⟩) rw'⟩
  | fdc kvs=>obtain⟨ws,⟨o,hw⟩,rw'⟩:=c1; exact⟨ws,⟨o,by rw[aC hne]; exact hw⟩,Paired.imp (λ_ _ q=>⟨q.1,Rep.write h q.2⟩) rw'⟩⟩
theorem bf.set{σd:Sg}(e:bf Γ ι H σ σd)(i:Nat){d:D}{v:V}(r:Rep Γ ι H d v):bf Γ ι H (σ.set i (some v)) (σd.set i (some d)):=by
 refine⟨by rw[Xr,Xr]; exact e.len,λj d' h=>?_⟩
 by_cases hij:j=i
 ·subst hij
  have hj:j<σd.length:=by
   have:=(Zh.mp h).1;rw[Xr] at this; exact this
  rw[Xm hj] at h;cases h;exact⟨v,by rw[Xm (by rw[e.len]; exact hj)],r⟩
 ·rw[ZZ (Ne.symm hij)] at h;obtain⟨w,hw,rw'⟩:=e.var j d' h;exact⟨w,by rw[ZZ (Ne.symm hij)]; exact hw,rw'⟩
theorem bf.more{σd:Sg}(e:bf Γ ι H σ σd)(k:Nat):bf Γ ι H (σ++List.replicate k none) (σd++List.replicate k none):=by
 refine⟨by simp[e.len],λj d h=>?_⟩
 by_cases hj:j<σd.length
 ·rw[ZE hj] at h;obtain⟨w,hw,r⟩:=e.var j d h;exact⟨w,by rw[ZE (by rw[e.len]; exact hj)]; exact hw,r⟩
 ·rw[ZN (by omega),XL] at h;split at h<;>cases h
theorem CF:MtR X "list.append" (λx xs H Q=>∃ι S dx ds,aq Γ ι H S/\Rep Γ ι H dx x/\aA Γ ι H ds xs/\Out Γ xw ι H (meD .append dx ds S) λd _ ι' H'=>∀v,Rep Γ ι' H' d v->Q v H'):=by
 intro pins s σ H x xs v us Q I rx rs h;obtain⟨ι,S,dx,ds,hS,r1,r2,ho⟩:=h
 match ds,r2 with
 | [],_=>exact ho.elim
 | _::_::_,_=>exact ho.elim
 | [d],.cons (b:=y) rd .nil =>
  cases dx with
  | loc l =>
   obtain⟨es,e,ho⟩:=Out.aU ho;obtain⟨hz,ho⟩:=Out.guard ho;obtain⟨a,ws,ha,hx,p⟩:=hS.lst e
   cases r1 with
   | loc q =>
    rw[ha] at q; cases q;refine sD pins s σ H _ _ v us Q I rx rs ⟨a,ws,y,rfl,rfl,hx,by rw[<- p.length]; exact wz hz,?_⟩;exact ho ι _ (Ext.write hx (ZD ha)) (hS.write e ha hx (Paired.app p (.cons rd .nil))) _ .non
  | _=>exact ho.elim
theorem DR:MtR X "list.extend" (λx xs H Q=>∃ι S dx ds,aq Γ ι H S/\Rep Γ ι H dx x/\aA Γ ι H ds xs/\Out Γ xw ι H (meD .extend dx ds S) λd _ ι' H'=>∀v,Rep Γ ι' H' d v->Q v H'):=by
 intro pins s σ H x xs v us Q I rx rs h;obtain⟨ι,S,dx,ds,hS,r1,r2,ho⟩:=h
 match ds,r2 with
 | [],_=>exact ho.elim
 | _::_::_,_=>exact ho.elim
 | [d],.cons (b:=y) rd .nil =>
  cases dx with
  | loc l =>
   cases d with
   | loc m =>
    obtain⟨es,e,ho⟩:=Out.aU ho;obtain⟨fs,e2,ho⟩:=Out.aU ho;obtain⟨hz,ho⟩:=Out.guard ho;obtain⟨a,ws,ha,hx,p⟩:=hS.lst e;obtain⟨b,zs,hb,hy,p2⟩:=hS.lst e2
    cases r1 with
    | loc q =>
     cases rd with
     | loc q2 =>
      rw[ha] at q; cases q;rw[hb] at q2; cases q2;refine Hh pins s σ H _ _ v us Q I rx rs ⟨a,b,ws,zs,rfl,rfl,hx,hy,by rw[<- p.length,<- p2.length]; exact gG hz,?_⟩;exact ho ι _ (Ext.write hx (ZD ha)) (hS.write e ha hx (Paired.app p p2)) _ .non
   | _=>exact ho.elim
  | _=>exact ho.elim
theorem FN{o a:Expr}{es:WM}{me:Me}{name:Str}{apos cpos:Pos}{id:String}{mo:Sg->M D}{m:Sg->M (List D)}(hK:Γ.K=X.K)(pa:PlainAttrs "list")(slot:Slot "list" name id)(hty:typeOf (.builtin id)=pure (.type "method_descriptor"))
  (hm:MtR X id (λx xs H Q=>∃ι S dx ds,aq Γ ι H S/\Rep Γ ι H dx x/\aA Γ ι H ds xs/\Out Γ xw ι H (meD me dx ds S) λd _ ι' H'=>∀v,Rep Γ ι' H' d v->Q v H')) (ho:PE X o (tM Γ xw mo)) (ha:PA X (a::es) (tMA Γ xw m))
  (hbase:attributeBase o name X.env (eval o X.env)=eval o X.env)
  (hfew:((backTo cpos (starEach (a::es) X.env)).all (λx=>!x.1)&&(backToKw cpos (keywordEach [] X.env)).all (λx=>x.1.isSome)&&decide ((a::es).length+([]:List Keyword).length+(if([]:List Keyword).isEmpty then 0 else 1)<30))=true)
  (hline:(apos.endLine==cpos.line)=true) (hs:starEach (a::es) X.env=(false,eval a X.env)::starEach es X.env) (hplain:(backTo cpos (starEach es X.env)).any (·.1)=false) :
  PE X (.Call (.Attribute o name apos) (a::es) [] cpos) (tM Γ xw λσ=>mo σ>>=λx=>ly x (m σ>>=λds=>meD me x ds)) :=
 PE.imp (BS pa slot hty hm ho ha hbase hfew hline hs hplain) λσ H Q h=>by
  obtain⟨σd,ι,S,he,hs,ho⟩:=h;refine⟨σd,ι,S,he,hs,ho.bind.mono λd S' ι' H' _ _ ⟨s',e',o'⟩ v r=>?_⟩;obtain⟨hl,o'⟩:=Out.guard (b:=d.cQ S') o'
  cases d with
  | loc l =>
   have r0:=r
   cases r with
   | loc q =>
    have hlt:l<S'.length:=by rw[<- s'.len]; exact(Zh.mp q).1
    obtain⟨b,hb,c⟩:=s'.cell l S'[l] (Zb hlt);rw[q] at hb; cases hb
    cases e:S'[l] with
    | lst ds =>
     rw[e] at c;obtain⟨xs,hx,_⟩:=c;refine⟨.inl ⟨rfl,xs,.of hx⟩,σd,ι',S',he.ext e',s',o'.bind.mono λds S2 ι2 H2 _ _ ⟨s2,e2,o2⟩ vs rs=>⟨ι2,S2,.loc l,ds,s2,r0.ext e2,rs,o2⟩⟩
    | dct kvs =>
     have:S'[l]?=some (.dct kvs):=by rw[Zb hlt,e]
     have hl:(match S'[l]? with|some (.lst _)=>true|_=>false)=true:=hl;rw[this] at hl; cases hl
    | fdc kvs =>
     have:S'[l]?=some (.fdc kvs):=by rw[Zb hlt,e]
     have hl:(match S'[l]? with|some (.lst _)=>true|_=>false)=true:=hl;rw[this] at hl; cases hl
  | _=>exact absurd hl Zz
end
end EV

namespace EV
open PySem PySem.Spec PyProof.Rows L2
def mL(Γ:Gx)(src:Src)(J:It)(ι0:WD)(H0:Hp):Prop:=∀ι H S,Ext ι0 ι H0 H->aq Γ ι H S->aF src S=.ok () S ->
 (∀(i:Nat) d,src.its[i]?=some d->J.go i H/\∀x H',J.yld i H x H'->Ext ι ι H H'/\aq Γ ι H' S/\Rep Γ ι H' d x)/\J.stop src.its.length H
noncomputable def tMI(Γ:Gx)(xw:XW)(m:Sg->M Src):TI:=λσ H R=>∃σd ι S,bf Γ ι H σ σd/\aq Γ ι H S/\Out Γ xw ι H (m σd S) λsrc _ ι' H'=>∀J,mL Γ src J ι' H'->R J H'
theorem oJ(l:Option Nat)(raw:WP)(S:af):stl l raw S=.ok () S\/stl l raw S=.bad:=by
 unfold stl
 cases l with
 | none=>exact .inl rfl
 | some l =>
  dsimp only
  cases listAt S l with
  | none=>exact .inr rfl
  | some ds =>
   by_cases h:ds=raw
   ·exact .inl (by simp only[h,decide_true]; rfl)
   ·exact .inr (by simp only[h,decide_false]; rfl)
theorem kW(s:Src)(S:af):aF s S=.ok () S\/aF s S=.bad:=by
 unfold aF;rcases oJ s.l s.raw S with e|e
 ·rw[aj e]; exact oJ _ _ _
 ·exact .inr (aV e)
theorem jU{s:Src}{S:af}(h:aF s S=.ok () S):stl s.l s.raw S=.ok () S/\stl s.z.l s.z.raw S=.ok () S:=by
 unfold aF at h;rcases oJ s.l s.raw S with e|e
 ·rw[aj e] at h; exact⟨e,h⟩
 ·rw[aV e] at h; cases h
section
variable{X:Cx}{Γ:Gx}{xw:XW}{tg a:Expr}{ma:Sg->M D}{pos:Pos}
theorem PI.imp{iter:Expr}{t t':TI}(h:PI X tg iter t)(f:∀σ H R,t' σ H R->t σ H R):PI X tg iter t':=λpins s σ H R I q=>h pins s σ H R I (f σ H R q)
noncomputable def iSq(K:Wy)(tl:TE):TI:=λσ H R=>tl σ H λx H1=>∃a,x=.ref a/\(((∃xs,SqL K H1 a xs)/\R (Itl K a) H1)\/((∃xs,SqT K H1 a xs)/\R (Itt K a) H1))
theorem Fg{l:Expr}{tl:TE}(hl:PE X l tl):PI X tg l (iSq X.K tl):=by
 intro pins s σ H R I h;refine thn (hl pins s σ H _ I h) λv s1 ⟨x,H1,I1,r1,q1⟩=>?_
 obtain⟨a,e,q1⟩:=q1;subst e;cases r1;rcases q1 with⟨⟨xs,hq⟩,q⟩|⟨⟨xs,hq⟩,q⟩
 ·have hc:PE X l (λσ H Q=>True->True->tl σ H Q):=λpins s σ H Q I h=>hl pins s σ H Q I (h trivial trivial)
  obtain⟨its,rv,p,hz⟩:=I1.list hq;refine Q0 p.isList ?_;refine⟨s1.heap.objs.size,[s1.heap.objs.size],_,_,H1,rfl,I1.kept (t':=s1.toks) λb o e=>Zd _ e,IA a _,⟨_,Zv _ rfl,rfl,rfl⟩,λb hb=>?_,q⟩;have e:b=s1.heap.objs.size:=by simpa using hb
  subst e;exact I1.fZ (Zl _) (I1.hok.fresh (Zl _))
 ·obtain⟨its,rv,p,hz⟩:=I1.tuple hq;refine X6 (show s1.heap.IsTuple a its.toArray from p) ?_;refine⟨s1.heap.objs.size,[s1.heap.objs.size],_,_,H1,rfl,I1.kept (t':=s1.toks) λb o e=>Zd _ e,De a _,⟨_,Zv _ rfl,rfl,rfl⟩,λb hb=>?_,q⟩;have e:b=s1.heap.objs.size:=by simpa using hb
  subst e;exact I1.fZ (Zl _) (I1.hok.fresh (Zl _))
theorem kq{ι:WD}{H:Hp}{S:af}{d:D}{v:V}{src:Src}{S':af}(hS:aq Γ ι H S)(r:Rep Γ ι H d v)(h:srcOf d S=.ok src S'):S'=S/\src.its=src.raw/\∃a tup,v=.ref a/\(∃xs,SqB Γ.K H tup a xs) /\
  ∀ι1 H1 S1,Ext ι ι1 H H1->aq Γ ι1 H1 S1->stl src.l src.raw S1=.ok () S1->∃xs,SqB Γ.K H1 tup a xs/\aA Γ ι1 H1 src.raw xs:=by
 cases d with
 | tup ds =>
  cases h;obtain⟨a,xs,e,t,p⟩:=r.cy;exact⟨rfl,rfl,a,true,e,⟨xs,t⟩,λι1 H1 S1 e1 _ _=>⟨xs,e1.sqT t,aA.ext e1 p⟩⟩
 | fro ds =>
  cases h;obtain⟨a,xs,e,t,p⟩:=r.fW;exact⟨rfl,rfl,a,false,e,⟨xs,t.sq⟩,λι1 H1 S1 e1 _ _=>⟨xs,(e1.fro t).sq,aA.ext e1 p⟩⟩
 | loc l =>
  have h:(items (.loc l)>>=λds=>pure (⟨ds,some l,ds⟩:Src)) S=.ok src S':=h;rcases i_ (.loc l) S with⟨ds,e⟩|e
  ·rw[aj e] at h;cases h;obtain⟨_,a,xs,e2,_,p,t⟩:=cX hS r e;subst e2
   have hl:listAt S l=some ds:=by
    rw[vm] at e
    cases q:listAt S l with
    | none=>rw[q] at e; cases e
    | some es=>rw[q] at e; cases e; rfl
   refine⟨rfl,rfl,a,false,rfl,⟨xs,t l rfl⟩,λι1 H1 S1 e1 s1 st=>?_⟩
   ·have hl1:listAt S1 l=some ds:=by
     unfold stl at st;dsimp only at st
     cases q:listAt S1 l with
     | none=>rw[q] at st; cases st
     | some es =>
      rw[q] at st
      by_cases h:es=ds
      ·rw[h]
      ·simp only[h,decide_false] at st; cases st
    obtain⟨b,ys,e3,sb,p1⟩:=s1.list (r.ext e1) (show asL S1 (.loc l)=some ds from hl1);cases e3;exact⟨ys,sb,p1⟩
  ·rw[aV e] at h; cases h
 | _=>cases h
theorem kr(d:D)(S:af):(∃src,srcOf d S=.ok src S)\/srcOf d S=.bad:=by
 cases d with
 | tup ds=>exact .inl ⟨_,rfl⟩
 | fro ds=>exact .inl ⟨_,rfl⟩
 | loc l =>
  show(∃src,(items (.loc l)>>=λds=>pure (⟨ds,some l,ds⟩:Src)) S=.ok src S)\/(items (.loc l)>>=λds=>pure (⟨ds,some l,ds⟩:Src)) S=.bad;rcases i_ (.loc l) S with⟨ds,e⟩|e
  ·rw[aj e]; exact .inl ⟨_,rfl⟩
  ·rw[aV e]; exact .inr rfl
 | _=>exact .inr rfl
theorem BR(hK:Γ.K=X.K)(ha:PE X a (tM Γ xw ma)):PI X tg a (tMI Γ xw λσ=>ma σ>>=srcOf) :=
 PI.imp (Fg ha) λσ H R h=>by
  obtain⟨σd,ι,S,he,hs,ho⟩:=h;refine⟨σd,ι,S,he,hs,ho.bind.mono λd S' ι' H' _ _ ⟨s',e',o'⟩ v r=>?_⟩;rcases kr d S' with⟨src,q⟩|q
  ·rw[q] at o';obtain⟨_,e1,a,tup,rfl,⟨xs,sq⟩,hall⟩:=kq s' r q;refine⟨a,rfl,?_⟩;have fin:=o'.here s'
   cases tup with
   | true =>
    refine .inr ⟨⟨xs,by rw[<- hK]; exact sq⟩,fin _ λι1 H1 S1 e2 s1 st1=>?_⟩;obtain⟨ys,sq1,p1⟩:=hall ι1 H1 S1 e2 s1 (jU st1).1;have sq1:SqT X.K H1 a ys:=by rw[<- hK]; exact sq1
    rw[e1];refine⟨λi d hd=>?_,ys,sq1,by rw[p1.length]; exact Zl _⟩;obtain⟨y,hy,r1⟩:=Paired.get p1 hd
    exact⟨⟨ys,y,sq1,hy⟩,λx H' ⟨e3,hx⟩=>by
     subst e3;have:=hx ys sq1;rw[hy] at this; cases this;exact⟨.refl,s1,r1⟩⟩
   | false =>
    refine .inl ⟨⟨xs,by rw[<- hK]; exact sq⟩,fin _ λι1 H1 S1 e2 s1 st1=>?_⟩;obtain⟨ys,sq1,p1⟩:=hall ι1 H1 S1 e2 s1 (jU st1).1;have sq1:SqL X.K H1 a ys:=by rw[<- hK]; exact sq1
    rw[e1];refine⟨λi d hd=>?_,ys,sq1,by rw[p1.length]; exact Zl _⟩;obtain⟨y,hy,r1⟩:=Paired.get p1 hd
    exact⟨⟨ys,y,sq1,hy⟩,λx H' ⟨e3,hx⟩=>by
     subst e3;have:=hx ys sq1;rw[hy] at this; cases this;exact⟨.refl,s1,r1⟩⟩
  ·rw[q] at o'; exact o'.elim
theorem qT:∀{ds:WP} {k i:Nat} {d:D},(num k ds)[i]?=some d->∃e,ds[i]?=some e/\d=.tup [.int ((k+i:Nat):Int),e]
 | [],k,i,d,h=>by simp[num] at h
 | x::r,k,0,d,h=>by simp[num] at h; exact⟨x,rfl,by rw[<- h]; simp⟩
 | x::r,k,i+1,d,h=>by
  have h:(num (k+1) r)[i]?=some d:=by simpa [num] using h
  obtain⟨e,h1,h2⟩:=qT h;exact⟨e,by simpa using h1,by rw[h2]; congr 3; omega⟩
theorem wR:∀(ds:WP) (k:Nat),(num k ds).length=ds.length
 | [],_=>rfl
 | _::r,k=>by simp[num,wR r]
theorem xU{p:Pos}{elts:WM}{k1:Nat}{tp:Pos}(hK:Γ.K=X.K)(hg:Gl X "enumerate")(hm:X.mg "enumerate" = none)(hv:bootBuiltins "enumerate" = some (.type "enumerate"))(ha:PE X a (tM Γ xw ma))(hs:starEach [a] X.env=[(false,eval a X.env)]) :
  PI X (.Tuple elts k1 tp) (.Call (.Name "enumerate" p) [a] [] pos) (tMI Γ xw λσ=>ma σ>>=λd=>srcOf d>>=λs=>pure { s with its:=num 0 s.its }) :=
 PI.imp (F7 hg hm hv (jX ha lX (by rw[hs]; rfl)) hs) λσ H R h=>by
  obtain⟨σd,ι,S,he,hs,ho⟩:=h;refine⟨σd,ι,S,he,hs,ho.bind.mono λd S' ι' H' _ _ ⟨s',e',o'⟩ v r=>?_⟩;rcases kr d S' with⟨src,q⟩|q
  ·rw[aj q] at o';obtain⟨_,e1,a,tup,rfl,⟨xs,sq⟩,hall⟩:=kq s' r q;have fin:=o'.here s';refine⟨tup,a,rfl,⟨xs,by rw[<- hK]; exact sq⟩,fin _ λι1 H1 S1 e2 s1 st1=>?_⟩;obtain⟨ys,sq1,p1⟩:=hall ι1 H1 S1 e2 s1 (jU st1).1;have sq1:SqB X.K H1 tup a ys:=by rw[<- hK]; exact sq1
   refine⟨λi d hd=>?_,ys,sq1,by show ys.length<=(num 0 src.its).length; rw[wR,e1,p1.length]; exact Zl _⟩;obtain⟨e,he',rfl⟩:=qT hd;rw[e1] at he';obtain⟨y,hy,r1⟩:=Paired.get p1 he';refine⟨⟨ys,y,sq1,hy⟩,?_⟩;rintro x H' ⟨z,p,hz,hp,rfl,rfl⟩;have hz:=hz ys sq1;rw[hy] at hz; cases hz;refine⟨Ext.laid hp,s1.laid hp _,.i9 bZ (.cons ?_ (.cons (r1.ext (Ext.laid hp)) .nil))⟩;rw[Xq]; exact .int _
  ·rw[aV q] at o'; exact o'.elim
theorem E2(lo hi:Int):rng lo hi 1=(List.range (hi-lo).toNat).map λ(k:Nat)=>lo+k:=by
 unfold rng;rw[Zf (by decide)];have:(hi-lo+1-1)/1=hi-lo:=by rw[Int.ediv_one]; omega
 rw[this];simp
theorem Ep{n i k:Nat}(h:(List.range n)[i]?=some k):k=i/\i<n:=by
 obtain⟨h1,h2⟩:=Zh.mp h;rw[List.getElem_range] at h2;rw[ZJ] at h1;exact⟨h2.symm,h1⟩
theorem Jj{ι:WD}{H:Hp}(lo hi:Int):mL Γ ⟨(rng lo hi 1).map .int,none,[]⟩ (Itr lo (hi-lo).toNat) ι H:=λι1 H1 S1 e s1 st=>by
 rw[E2,Xl];refine⟨λi d hd=>?_,by show(hi-lo).toNat<=_; simp⟩;have hd:((List.range (hi-lo).toNat).map (D.int∘λ(k:Nat)=>lo+k))[i]?=some d:=hd;rw[ZG,ZC] at hd;obtain⟨k,hk,rfl⟩:=hd;obtain⟨rfl,hlt⟩:=Ep hk;exact⟨hlt,λx H' ⟨e1,e2⟩=>by subst e1; subst e2; exact⟨.refl,s1,.int _⟩⟩
theorem GH{i:Int}(h:near i=true):-(2^62)<=i/\i<2^62:=Zs h
variable{b c:Expr}{m:Sg->M (List D)}{p:Pos}
theorem Out.monoE{α:Type}{r:Res α}{ι:WD}{H:Hp}{k k':α->af->List Addr->Hp->Prop}(h:Out Γ xw ι H r k)(f:∀a S' ι' H',r=.ok a S'->Ext ι ι' H H'->aq Γ ι' H' S'->k a S' ι' H'->k' a S' ι' H'):Out Γ xw ι H r k':=by
 cases r with
 | ok a S'=>exact λι' H' e' s'=>f _ _ _ _ rfl e' s' (h ι' H' e' s')
 | exc c S'=>exact h
 | bad=>exact h
theorem Bb(hg:Gl X "range")(hm:X.mg "range" = none)(ha:PA X [a] (tMA Γ xw m))(hs:starEach [a] X.env=[(false,eval a X.env)])(hlen:∀σ S ds S',m σ S=.ok ds S'->ds.length=1) :
  PI X tg (.Call (.Name "range" p) [a] [] pos) (tMI Γ xw λσ=>m σ>>=λds=>opt (e9 ds)>>=λis=>pure ⟨is.map .int,none,[]⟩) :=
 PI.imp (EE hg hm ha hs) λσ H R h=>by
  obtain⟨σd,ι,S,he,hs,ho⟩:=h;refine⟨σd,ι,S,he,hs,Out.monoE ho.bind λds S' ι' H' eq _ _ ⟨s',e',o'⟩ vs rs=>?_⟩;have hl:=hlen _ _ _ _ eq;obtain⟨is,q,o'⟩:=Out.opt o';have fin:=o'.here s';obtain⟨d,_,_,_,rfl,rfl,r,rs,hl⟩:=Paired.step rs hl;obtain⟨rfl,rfl⟩:=Paired.last rs hl
  (
   cases r with
   | int j =>
    simp only[e9] at q;split at q
    ·rename_i hn;cases q;have hn:=GH hn;refine⟨j,rfl,hn.1,hn.2,fin _ ?_⟩;have:=Jj (Γ:=Γ) (ι:=ι') (H:=H') 0 j;rw[Int.sub_zero] at this;exact this
    ·cases q
   | _=>cases q)
noncomputable def tMG(Γ:Gx)(t:Tg):TG:=λv σ H Q=>∃σd ι S d σd',bf Γ ι H σ σd/\aq Γ ι H S/\Rep Γ ι H d v/\aQ t d σd S=.ok σd' S/\∀σ',bf Γ ι H σ' σd'->(∀j,t.has j=false->σ'[j]?=σ[j]?)->Q σ' H
theorem PG.imp{target:Expr}{t t':TG}(h:PG X target t)(f:∀v σ H Q,t' v σ H Q->t v σ H Q):PG X target t':=λpins s σ H v u Q I r q=>h pins s σ H v u Q I r (f v σ H Q q)
theorem Et{i:Nat}{x:Str}(hN:X.N.Nodup)(hi:X.N[i]?=some x)(hx:Loc X.env.scope x)(hf:X.fn x=true\/X.env.scope.names.lookup x=some .local):PG X (.Name x pos) (tMG Γ (.one i)) :=
 PG.imp (sE hN hi hx hf) λv σ H Q h=>by
  obtain⟨σd,ι,S,d,σd',he,hs,r,hb,q⟩:=h;cases hb;exact q _ (he.set i r) λj hj=>by rw[ZZ (by intro z; subst z; simp[Tg.has] at hj)]
noncomputable def l7:List Nat->TGs
 | []=>qk
 | i::r=>qi (jr i) (l7 r)
noncomputable def jI(X:Cx):List Expr->List Nat->Prop:=Paired λe i=>∃x p,e=.Name x p/\X.N[i]?=some x/\Loc X.env.scope x/\(X.fn x=true\/X.env.scope.names.lookup x=some .local)
theorem p_(hN:X.N.Nodup):∀{es:WM} {is:List Nat},jI X es is->PGs X es (l7 is)
 | _,_,.nil=>IL
 | _,_,.cons ⟨x,p,e,h1,h2,h3⟩ r=>by
  subst e;exact CU (sE hN h1 h2 h3) (p_ hN r) rfl
theorem l8:∀{es:WM} {is:List Nat},jI X es is->(assignEach es X.env).length=is.length/\(assignEach es X.env).findIdx? (·.1)=none
 | _,_,.nil=>⟨rfl,rfl⟩
 | _,_,.cons ⟨x,p,e,h1,h2,h3⟩ r=>by
  subst e;obtain⟨a,b⟩:=l8 r;refine⟨Xp (· + 1) a,?_⟩;show List.findIdx? (·.1) ((false,_)::assignEach _ X.env)=none;rw[List.findIdx?_cons];simp only[Zx,ZT];rw[b]; rfl
theorem tW{ι:WD}{H:Hp}{Q:L2.St->Hp->Prop}:∀{is:List Nat} {ds:WP} {xs:WN} {σ:L2.St} {σd:Sg},ds.length=is.length->aA Γ ι H ds xs->bf Γ ι H σ σd->(∀σ',bf Γ ι H σ' (cj is ds σd)->(∀j,is.contains j=false->σ'[j]?=σ[j]?)->Q σ' H)->l7 is xs σ H Q
 | [],[],_,σ,σd,_,.nil,he,q=>⟨rfl,q _ he λ_ _=>rfl⟩
 | i::is,d::ds,_,σ,σd,hl,.cons (b:=v) r rr,he,q=>⟨v,_,rfl,tW (by simpa using hl) rr (he.set i r) λσ' h' hl'=>q σ' h' λj hj=>by
   rw[List.contains_cons,Bool.or_eq_false_iff] at hj;rw[hl' j hj.2,ZZ (by intro z; subst z; simp at hj)]⟩
 | [],_::_,_,_,_,hl,_,_,_=>by simp at hl
 | _::_,[],_,_,_,hl,_,_,_=>by simp at hl
theorem Ad{es:WM}{is:List Nat}{k:Nat}(hK:Γ.K=X.K)(hc:X.calm=true)(hN:X.N.Nodup)(hn:jI X es is):PG X (.Tuple es k pos) (tMG Γ (.many is)) :=
 PG.imp (Cg hc (p_ hN hn) (l8 hn).1 (l8 hn).2) λv σ H Q h=>by
  obtain⟨σd,ι,S,d,σd',he,hs,r,hb,q⟩:=h
  cases d with
  | tup ds =>
   obtain⟨a,xs,rfl,t,p⟩:=r.cy;have hb:guard (decide (ds.length=is.length)) (pure (cj is ds σd):M Sg) S=.ok σd' S:=hb
   by_cases hl:ds.length=is.length
   ·rw[show decide (ds.length=is.length)=true from Zi hl] at hb;cases hb;exact⟨a,xs,rfl,by rw[<- hK]; exact t,by rw[<- p.length]; exact hl,tW hl p he q⟩
   ·rw[show decide (ds.length=is.length)=false from Zw hl] at hb;cases hb
  | _=>cases hb
theorem pA(t:Tg)(d:D)(σ:Sg)(S:af):(∃σ',aQ t d σ S=.ok σ' S/\σ'.length=σ.length)\/aQ t d σ S=.bad:=by
 have hlen:∀(is:List Nat) (ds:WP) (σ:Sg),(cj is ds σ).length=σ.length:=by
  intro is
  induction is with
  | nil=>intro ds σ; cases ds<;>rfl
  | cons i r ih=>intro ds σ; cases ds with
   | nil=>rfl
   | cons d ds=>show(cj r ds (σ.set i (some d))).length=_; rw[ih,Xr]
 cases t with
 | one i=>exact .inl ⟨_,rfl,by rw[Xr]⟩
 | many is =>
  cases d with
  | tup ds =>
   show(∃σ',guard (decide (ds.length=is.length)) (pure (cj is ds σ):M Sg) S=.ok σ' S/\_)\/guard (decide (ds.length=is.length)) (pure (cj is ds σ):M Sg) S=.bad
   by_cases hl:ds.length=is.length
   ·rw[show decide (ds.length=is.length)=true from Zi hl];exact .inl ⟨_,rfl,hlen _ _ _⟩
   ·rw[show decide (ds.length=is.length)=false from Zw hl];exact .inr rfl
  | _=>exact .inr rfl
theorem Out.aQ{α:Type}{t:Tg}{d:D}{σd:Sg}{ι:WD}{H:Hp}{S:af}{f:Sg->M α}{k:α->af->List Addr->Hp->Prop}(ho:Out Γ xw ι H ((EV.aQ t d σd>>=f) S) k):∃σd',EV.aQ t d σd S=.ok σd' S/\σd'.length=σd.length/\Out Γ xw ι H (f σd' S) k:=by
 rcases pA t d σd S with⟨σ',e,l⟩|e
 ·rw[aj e] at ho; exact⟨σ',e,l,ho⟩
 ·rw[aV e] at ho; exact ho.elim
end
end EV

namespace ENM
open PySem PyProof.Rows
open AutoSeq1 (wpAny_loadPart')
theorem Seq.keep{tup:Bool}{h h':Heap}{a:Addr}{us:WJ}(x:Seq tup h a us)(e:∀o,h.get? a=some o->h'.get? a=some o):Seq tup h' a us:=by
 cases tup with
 | true=>obtain⟨o,ho,r⟩:=(show h.IsTuple a us from x); exact⟨o,e _ ho,r⟩
 | false=>obtain⟨o,ho,r⟩:=(show h.IsList a us from x); exact⟨o,e _ ho,r⟩
section
variable{prog:WC}{w:WG}{A:Around}{E:Wv}{s:WA}
variable{ta tb:Bool}{c pI pO i j a b:Addr}{m n:Nat}{us vs:WJ}{u v old1 old2:Value}
theorem Bs{Q:Wv}(ap:ZipApart c pI pO i j a b)(hc:IsZip s.heap c pI pO .none)(hI:IsPair s.heap pI (.ref i) (.ref j))(hO:IsPair s.heap pO old1 old2)
  (h1:Inn ta s.heap i a m) (h2:Inn tb s.heap j b n) (s1:Seq ta s.heap a us) (s2:Seq tb s.heap b vs) (hu:us[m]?=some u) (hv:vs[n]?=some v)
  (fin:∀h',IsZip h' c pI pO (rawInt s.heap.objs.size)->IsPair h' pO u v->Inn ta h' i a (m+1)->Inn tb h' j b (n+1)->IsPair h' s.heap.objs.size u v->h'.objs.size=s.heap.objs.size+1 ->
   (∀d o,d≠c->d≠pO->d≠i->d≠j->s.heap.get? d=some o->h'.get? d=some o)->Q (.ref s.heap.objs.size) { s with heap:=h' }) :
  wpAny (model prog w) A (Builtin.«zip.__next__» ⟨[.ref c],[]⟩) (λe z=>∃r,e=.done (.ret r)/\Q r z) E s:=by
 show wpAny _ _ (field (.ref c) 2>>=_) _ _ s;refine Za (Z9 hc rfl (x:=.bool false) rfl ?_);show wpAny _ _ (field (.ref c) 3>>=_) _ _ s;refine Za (Z9 hc rfl (x:=.ref pI) rfl ?_);refine Za (XJ hI rfl ?_);show wpAny _ _ (Builtin.SmallTypes.ownedTupleIsFree (.ref c)>>=_) _ _ s;refine Za ?_;unfold Builtin.SmallTypes.ownedTupleIsFree;refine Za (Z9 hc rfl (x:=.none) rfl (Ze ?_));simp only[Xx];refine Za (QB (Za (Z9 hc rfl (x:=.ref pO) rfl ?_)));refine Za (Xd hc (by simp) λf1 c1 e1=>?_);replace c1:IsZip f1 c pI pO .ellipsis:=c1;refine Za ?_;simp only[List.zipIdx_cons,List.zipIdx_nil,Wd,Wh];refine Za (Za (wpAny_onRaise (show wpAny _ _ (Builtin.SmallTypes.nextOf (.ref i)>>=_) _ _ _ from ?_)));refine Za (kQ (s:={ s with heap:=f1 }) (h1.keep λo z=>e1.extBut _ o ap.i1z z) (s1.keep λo z=>e1.extBut _ o ap.l1z z) hu λf2 k2 e2=>Ze ?_);replace e2:Heap.SameBut i f1 f2:=e2;have O2:IsPair f2 pO old1 old2:=e2.extBut _ _ ap.TOi1 (e1.extBut _ _ ap.TOz hO);refine Za (XJ O2 rfl (Za (We O2 λf3 O3 e3=>?_)));replace O3:IsPair f3 pO u old2:=O3;replace e3:Heap.SameBut pO f2 f3:=e3;refine Za (wpAny_letGo (Ze (Za (Za (wpAny_onRaise (show wpAny _ _ (Builtin.SmallTypes.nextOf (.ref j)>>=_) _ _ _ from ?_))))));refine Za (kQ (s:={ s with heap:=f3 }) (h2.keep λo z=>e3.extBut _ o ap.TOi2.symm (e2.extBut _ o ap.i12.symm (e1.extBut _ o ap.i2z z))) (s2.keep λo z=>e3.extBut _ o ap.l2TO (e2.extBut _ o ap.l2i1 (e1.extBut _ o ap.l2z z))) hv λf4 k4 e4=>Ze ?_);replace e4:Heap.SameBut j f3 f4:=e4;have O4:IsPair f4 pO u old2:=e4.extBut _ _ ap.TOi2 O3;refine Za (XJ O4 rfl (Za (We O4 λf5 O5 e5=>?_)));replace O5:IsPair f5 pO u v:=O5;replace e5:Heap.SameBut pO f4 f5:=e5;refine Za (wpAny_letGo (Ze (Ze (Za (XJ O5 rfl (Za (wpAny_newTuple ?_)))))));have sz:f5.objs.size=s.heap.objs.size:=by rw[e5.1,e4.1,e3.1,e2.1]; exact e1.1
 have c5:IsZip f5 c pI pO .ellipsis:=e5.extBut _ _ ap.TOz.symm (e4.extBut _ _ ap.i2z.symm (e3.extBut _ _ ap.TOz.symm (e2.extBut _ _ ap.i1z.symm c1)));have k5:∀d o,d≠c->d≠pO->d≠i->d≠j->s.heap.get? d=some o->f5.get? d=some o:=λd o d1 d2 d3 d4 z=>e5.extBut _ _ d2 (e4.extBut _ _ d4 (e3.extBut _ _ d2 (e2.extBut _ _ d3 (e1.extBut _ _ d1 z))))
 have I5:Inn ta f5 i a (m+1):=k2.keep λo z=>e5.extBut _ o ap.TOi1.symm (e4.extBut _ o ap.i12 (e3.extBut _ o ap.TOi1.symm z))
 have J5:Inn tb f5 j b (n+1):=k4.keep λo z=>e5.extBut _ o ap.TOi2.symm z
 have clt:c<f5.objs.size:=Zp c5;show wpAny _ _ (Builtin.SmallTypes.ownedTupleHandOut (.ref c) (.ref f5.objs.size)>>=_) _ _ _;refine Za ?_;unfold Builtin.SmallTypes.ownedTupleHandOut;have c6:IsZip (f5.push { cls:=.type "tuple",data:=.seq #[u,v] }) c pI pO .ellipsis:=Zd _ c5;refine Za (Xd c6 (by simp) λf7 c7 e7=>?_);replace c7:IsZip f7 c pI pO (rawInt f5.objs.size):=c7;refine Xd c7 (by simp) λf8 c8 e8=>?_
 replace c8:IsZip f8 c pI pO (rawInt f5.objs.size):=c8;replace e7:Heap.SameBut c (f5.push { cls:=.type "tuple",data:=.seq #[u,v] }) f7:=e7;replace e8:Heap.SameBut c f7 f8:=e8;have up:∀d o,d≠c->f5.get? d=some o->f8.get? d=some o:=λd o dc z=>e8.extBut _ _ dc (e7.extBut _ _ dc (Zd _ z))
 have T8:IsPair f8 f5.objs.size u v:=e8.extBut _ _ (Xy clt) (e7.extBut _ _ (Xy clt) (Zv _ rfl));have s8:f8.objs.size=f5.objs.size+1:=by rw[e8.1,e7.1,Z1]
 rw[sz] at c8 T8 s8;refine Ze ⟨_,rfl,(show Q (.ref f5.objs.size) _ from ?_)⟩;rw[sz];exact fin f8 c8 (up _ _ ap.TOz O5) (I5.keep λo z=>up _ o ap.i1z z) (J5.keep λo z=>up _ o ap.i2z z) T8 s8 λd o d1 d2 d3 d4 z=>up d o d1 (k5 d o d1 d2 d3 d4 z)
theorem zb{Q:Fin->Shared->Prop}(calm:A.handled=none)(ap:ZipApart c pI pO i j a b)(hc:IsZip s.heap c pI pO .none)(hI:IsPair s.heap pI (.ref i) (.ref j))(hO:IsPair s.heap pO old1 old2)
  (h1:Inn ta s.heap i a m) (h2:Inn tb s.heap j b n) (s1:Seq ta s.heap a us) (s2:Seq tb s.heap b vs) (he:us[m]?=none\/vs[n]?=none)
  (fin:∀h' e,(∀d o,d≠c->d≠pO->d≠i->d≠j->s.heap.get? d=some o->h'.get? d=some o)->(∃o,h'.get? e=some o/\o.cls=.type "StopIteration")->E (.ref e) { s with heap:=h' }) :
  wpAny (model prog w) A (Builtin.«zip.__next__» ⟨[.ref c],[]⟩) Q E s:=by
 show wpAny _ _ (field (.ref c) 2>>=_) _ _ s;refine Za (Z9 hc rfl (x:=.bool false) rfl ?_);show wpAny _ _ (field (.ref c) 3>>=_) _ _ s;refine Za (Z9 hc rfl (x:=.ref pI) rfl ?_);refine Za (XJ hI rfl ?_);show wpAny _ _ (Builtin.SmallTypes.ownedTupleIsFree (.ref c)>>=_) _ _ s;refine Za ?_;unfold Builtin.SmallTypes.ownedTupleIsFree;refine Za (Z9 hc rfl (x:=.none) rfl (Ze ?_));simp only[Xx];refine Za (QB (Za (Z9 hc rfl (x:=.ref pO) rfl ?_)));refine Za (Xd hc (by simp) λf1 c1 e1=>?_);replace c1:IsZip f1 c pI pO .ellipsis:=c1;refine Za ?_;simp only[List.zipIdx_cons,List.zipIdx_nil,Wd,Wh];refine Za (Za (wpAny_onRaise (show wpAny _ _ (Builtin.SmallTypes.nextOf (.ref i)>>=_) _ _ _ from ?_)));have g1:Inn ta f1 i a m:=h1.keep λo z=>e1.extBut _ o ap.i1z z
 have q1:Seq ta f1 a us:=s1.keep λo z=>e1.extBut _ o ap.l1z z
 cases hu:us[m]? with
 | none =>
  refine Za (l6 (s:={ s with heap:=f1 }) calm g1 q1 hu λf2 e e2 ⟨oe,w1,w2⟩=>?_);replace e2:Heap.ExtBut i f1 f2:=e2;have c2:IsZip f2 c pI pO .ellipsis:=e2 _ _ ap.i1z.symm c1;have ne:e≠c:=λz=>by rw[z] at w1; rw[c2] at w1; cases w1; simp at w2
  refine Xd c2 (by simp) λf3 _ e3=>fin f3 e (λd o d1 _ d3 _ z=>e3.extBut _ _ d1 (e2 _ _ d3 (e1.extBut _ _ d1 z))) ⟨oe,e3.extBut _ _ ne w1,w2⟩
 | some u =>
  have hv:vs[n]?=none:=he.resolve_left λz=>by rw[hu] at z; cases z
  refine Za (kQ (s:={ s with heap:=f1 }) g1 q1 hu λf2 k2 e2=>Ze ?_);replace e2:Heap.SameBut i f1 f2:=e2;have O2:IsPair f2 pO old1 old2:=e2.extBut _ _ ap.TOi1 (e1.extBut _ _ ap.TOz hO);refine Za (XJ O2 rfl (Za (We O2 λf3 O3 e3=>?_)));replace e3:Heap.SameBut pO f2 f3:=e3;refine Za (wpAny_letGo (Ze (Za (Za (wpAny_onRaise (show wpAny _ _ (Builtin.SmallTypes.nextOf (.ref j)>>=_) _ _ _ from ?_))))));refine Za (l6 (s:={ s with heap:=f3 }) calm (h2.keep λo z=>e3.extBut _ o ap.TOi2.symm (e2.extBut _ o ap.i12.symm (e1.extBut _ o ap.i2z z))) (s2.keep λo z=>e3.extBut _ o ap.l2TO (e2.extBut _ o ap.l2i1 (e1.extBut _ o ap.l2z z))) hv λf4 e e4 ⟨oe,w1,w2⟩=>?_);replace e4:Heap.ExtBut j f3 f4:=e4;have c4:IsZip f4 c pI pO .ellipsis:=e4 _ _ ap.i2z.symm (e3.extBut _ _ ap.TOz.symm (e2.extBut _ _ ap.i1z.symm c1));have ne:e≠c:=λz=>by rw[z] at w1; rw[c4] at w1; cases w1; simp at w2
  refine Xd c4 (by simp) λf5 _ e5=>fin f5 e (λd o d1 d2 d3 d4 z=>e5.extBut _ _ d1 (e4 _ _ d4 (e3.extBut _ _ d2 (e2.extBut _ _ d3 (e1.extBut _ _ d1 z))))) ⟨oe,e5.extBut _ _ ne w1,w2⟩
theorem BY{Q:Option Value->Shared->Prop}(ap:ZipApart c pI pO i j a b)(hc:IsZip s.heap c pI pO .none)(hI:IsPair s.heap pI (.ref i) (.ref j))(hO:IsPair s.heap pO old1 old2)
  (h1:Inn ta s.heap i a m) (h2:Inn tb s.heap j b n) (s1:Seq ta s.heap a us) (s2:Seq tb s.heap b vs) (hu:us[m]?=some u) (hv:vs[n]?=some v)
  (fin:∀h',IsZip h' c pI pO (rawInt s.heap.objs.size)->IsPair h' pO u v->Inn ta h' i a (m+1)->Inn tb h' j b (n+1)->IsPair h' s.heap.objs.size u v->h'.objs.size=s.heap.objs.size+1 ->
   (∀d o,d≠c->d≠pO->d≠i->d≠j->s.heap.get? d=some o->h'.get? d=some o)->Q (some (.ref s.heap.objs.size)) { s with heap:=h' }) :
  wpAny (model prog w) A (pyNext (.ref c)) Q E s:=by
 have ty:s.TypeIs (.ref c) "zip":=⟨_,hc,rfl⟩
 unfold pyNext
 exact Za (XG (ZW (name:=Str.ofString "__next__") ty Wf (ZU Wf ty F.entry_zip_next
  (Bs ap hc hI hO h1 h2 s1 s2 hu hv λh' x1 x2 x3 x4 x5 x6 x7=>Ze (fin h' x1 x2 x3 x4 x5 x6 x7)) (F.args_zip_next_1 _))))
theorem Cj{Q:Option Value->Shared->Prop}(calm:A.handled=none)(ap:ZipApart c pI pO i j a b)(hc:IsZip s.heap c pI pO .none)(hI:IsPair s.heap pI (.ref i) (.ref j))(hO:IsPair s.heap pO old1 old2)
  (h1:Inn ta s.heap i a m) (h2:Inn tb s.heap j b n) (s1:Seq ta s.heap a us) (s2:Seq tb s.heap b vs) (he:us[m]?=none\/vs[n]?=none)
  (fin:∀h',(∀d o,d≠c->d≠pO->d≠i->d≠j->s.heap.get? d=some o->h'.get? d=some o)->Q none { s with heap:=h' }):wpAny (model prog w) A (pyNext (.ref c)) Q E s:=by
 have ty:s.TypeIs (.ref c) "zip":=⟨_,hc,rfl⟩
 unfold pyNext
 refine Za (XG (ZW (name:=Str.ofString "__next__") ty Wf (ZU Wf ty F.entry_zip_next
  (zb calm ap hc hI hO h1 h2 s1 s2 he λh' e hk ⟨o,w1,w2⟩=>?_) (F.args_zip_next_1 _))))
 refine Za (Qk (T:="StopIteration") (b:=true) ⟨o,w1,w2⟩ QT (Ze (fin _ hk)))
noncomputable def itN:Bool->String
 | true=>"tuple_iterator"
 | false=>"list_iterator"
abbrev itO(t:Bool)(x:Addr):Obj:={ cls:=.type (itN t),data:=.fields #[.ref x,.int 0 0] }
theorem vG{t:Bool}{x:Addr}{ws:WJ}{Q:Wv}(h:Seq t s.heap x ws)(q:Q (.ref s.heap.objs.size) { s with heap:=s.heap.push (itO t x) }):wpAny (model prog w) A (pyIter (.ref x)) Q E s:=by
 cases t with
 | true=>exact X6 h q
 | false=>exact Q0 h q
theorem pT(t:Bool)(h:Heap)(x:Addr):Inn t (h.push (itO t x)) h.objs.size x 0:=by
 cases t with
 | true=>exact⟨_,Zv _ rfl,rfl,rfl⟩
 | false=>exact⟨_,Zv _ rfl,rfl,rfl⟩
abbrev zp2(ta tb:Bool)(h:Heap)(a b:Addr):Heap:=(h.push (itO ta a)).push (itO tb b)
abbrev zp3(ta tb:Bool)(h:Heap)(a b:Addr):Heap:=(zp2 ta tb h a b).push { cls:=.type "tuple",data:=.seq #[.ref h.objs.size,.ref (h.push (itO ta a)).objs.size] }
abbrev zp4(ta tb:Bool)(h:Heap)(a b:Addr):Heap:=(zp3 ta tb h a b).push { cls:=.type "tuple",data:=.seq #[.none,.none] }
abbrev zp5(ta tb:Bool)(h:Heap)(a b:Addr):Heap:=(zp4 ta tb h a b).push { cls:=.type "zip",data:=.fields #[.none,.bool false,.bool false,.ref (zp2 ta tb h a b).objs.size,.ref (zp3 ta tb h a b).objs.size] }
theorem yX(ta tb:Bool)(a b:Addr)(us vs:WJ) :
  Meets (Builtin.«zip.__new__» ⟨[.type "zip",.ref a,.ref b],[]⟩) (λ_ R s=>Seq ta s.heap a us/\Seq tb s.heap b vs/\R (.ok (.ret (.ref (zp4 ta tb s.heap a b).objs.size))) { s with heap:=zp5 ta tb s.heap a b }) :=
 .of_wp λprog w A R s h=>by
  obtain⟨hp,g,d,tk,os⟩:=s;obtain⟨s1,s2,h⟩:=h;have ks:=sub_zip;have i1:∀{Q:Wv} {A E},Q (.ref hp.objs.size) ⟨hp.push (itO ta a),g,d,tk,os⟩->wpAny (model prog w) A (pyIter (.ref a)) Q E ⟨hp,g,d,tk,os⟩:=λq=>vG (s:=⟨hp,g,d,tk,os⟩) s1 q
  have i2:∀{Q:Wv} {A E},Q (.ref (hp.push (itO ta a)).objs.size) ⟨zp2 ta tb hp a b,g,d,tk,os⟩->wpAny (model prog w) A (pyIter (.ref b)) Q E ⟨hp.push (itO ta a),g,d,tk,os⟩:=λq=>vG (s:=⟨hp.push (itO ta a),g,d,tk,os⟩) (s2.keep λo e=>Zd _ e) q
  wp_walk using i1,i2
  exact⟨_,rfl,h⟩
theorem D7{Q:Wv}(s1:Seq ta s.heap a us)(s2:Seq tb s.heap b vs)
  (q:∀h',IsZip h' (s.heap.objs.size+4) (s.heap.objs.size+2) (s.heap.objs.size+3) .none->IsPair h' (s.heap.objs.size+2) (.ref s.heap.objs.size) (.ref (s.heap.objs.size+1))->IsPair h' (s.heap.objs.size+3) .none .none ->
   Inn ta h' s.heap.objs.size a 0->Inn tb h' (s.heap.objs.size+1) b 0->(∀d o,s.heap.get? d=some o->h'.get? d=some o)->Q (.ref (s.heap.objs.size+4)) { s with heap:=h' }) :
  wpAny (model prog w) A (call (.type "zip") [.ref a,.ref b]) Q E s:=by
 refine callType_new F.called_zip (by decide) (F.typeCall_zip_2 _ _) (F.newCall_zip_2 _ _) (λx=>F.args_object_init_3 x _ _) F.entry_zip_new (yX ta tb a b us vs) ⟨s1,s2,?_⟩;have n1:(s.heap.push (itO ta a)).objs.size=s.heap.objs.size+1:=Z1 ..;have n2:(zp2 ta tb s.heap a b).objs.size=s.heap.objs.size+2:=by rw[Z1,n1]
 have n3:(zp3 ta tb s.heap a b).objs.size=s.heap.objs.size+3:=by rw[Z1,n2]
 have n4:(zp4 ta tb s.heap a b).objs.size=s.heap.objs.size+4:=by rw[Z1,n3]
 have x5:(zp5 ta tb s.heap a b).get? (zp4 ta tb s.heap a b).objs.size=some _:=Zv _ rfl;have x4:(zp5 ta tb s.heap a b).get? (zp3 ta tb s.heap a b).objs.size=some _:=Zd _ (Zv _ rfl);have x3:(zp5 ta tb s.heap a b).get? (zp2 ta tb s.heap a b).objs.size=some _:=Zd _ (Zd _ (Zv _ rfl));have x2:Inn tb (zp5 ta tb s.heap a b) (s.heap.push (itO ta a)).objs.size b 0:=(pT tb (s.heap.push (itO ta a)) b).keep λo e=>Zd _ (Zd _ (Zd _ e))
 have x1:Inn ta (zp5 ta tb s.heap a b) s.heap.objs.size a 0:=(pT ta s.heap a).keep λo e=>Zd _ (Zd _ (Zd _ (Zd _ e)))
 show _/\_;rw[n2,n3,n4] at x5;rw[n1,n2] at x3;rw[n3] at x4;rw[n1] at x2;rw[n4];exact⟨⟨_,x5,rfl⟩,q _ x5 x3 x4 x1 x2 λd o e=>Zd _ (Zd _ (Zd _ (Zd _ (Zd _ e))))⟩
end
end ENM
namespace L2
open PySem PySem.Spec PyProof.Rows ENM
noncomputable def Itz(K:Wy)(ta tb:Bool)(a b:Addr):It :=
 ⟨λi H=>∃xs ys x y,SqB K H ta a xs/\SqB K H tb b ys/\xs[i]?=some x/\ys[i]?=some y,
  λi H x H'=>∃u v p,(∀xs,SqB K H ta a xs->xs[i]?=some u)/\(∀ys,SqB K H tb b ys->ys[i]?=some v)/\H p=none/\H'=upd H p (.tup [u,v])/\x=.ref p,
  λi H=>∃xs ys,SqB K H ta a xs/\SqB K H tb b ys/\(xs.length<=i\/ys.length<=i)⟩
theorem B4{P:WC}{w:WG}{K:Wy}{elts:WM}{k1:Nat}{tp:Pos}(ta tb:Bool){a b c pI pO it jt:Addr}(ap:ZipApart c pI pO it jt a b) :
  Turn P w K (.Tuple elts k1 tp) (Itz K ta tb a b) [c,pI,pO,it,jt] c (λi h=>IsZip h c pI pO .none/\IsPair h pI (.ref it) (.ref jt)/\(∃x y,IsPair h pO x y)/\Inn ta h it a i/\Inn tb h jt b i) where
 mem:=by simp
 obj:=λi h ⟨z1,z2,⟨x,y,z3⟩,z4,z5⟩ d hd=>by
  simp only[Zt,QC,or_false] at hd;rcases hd with rfl|rfl|rfl|rfl|rfl
  ·exact⟨_,z1,λv z=>by
    have z':Data.fields _=Data.cell v:=z;cases z'⟩
  ·exact⟨_,z2,λv z=>by
    have z':Data.seq _ _=Data.cell v:=z;cases z'⟩
  ·exact⟨_,z3,λv z=>by
    have z':Data.seq _ _=Data.cell v:=z;cases z'⟩
  ·exact z4.there
  ·exact z5.there
 keep:=λi h h' ⟨z1,z2,⟨x,y,z3⟩,z4,z5⟩ k =>
  ⟨k c (by simp) _ z1,k pI (by simp) _ z2,⟨x,y,k pO (by simp) _ z3⟩,z4.keep λo e=>k it (by simp) o e,z5.keep λo e=>k jt (by simp) o e⟩
 item:=by
  intro X hP hw hK hc i pins s σ H E I hf st hg;subst hP hw hK;obtain⟨z1,z2,⟨x0,y0,z3⟩,z4,z5⟩:=st;obtain⟨xs,ys,x,y,sq1,sq2,hx,hy⟩:=hg;obtain⟨its,rv,hs⟩:=I.eu sq1;obtain⟨jts,rw',hs2⟩:=I.eu sq2;obtain⟨u,hu,ru⟩:=rv.get hx;obtain⟨v,hv,rv'⟩:=rw'.get hy;refine BY ap z1 z2 z3 z4 z5 hs hs2 (u:=u) (v:=v) (by simpa using hu) (by simpa using hv) λh' a1 a2 a3 a4 a5 a6 hk=>?_
  refine⟨_,rfl,wpAny_letOwnedTupleGo_zip a1 λh2 he2 sb2=>?_⟩;replace sb2:Heap.SameBut c h' h2:=sb2;have clt:c<s.heap.objs.size:=Zp z1;have hp:H s.heap.objs.size=none:=I.hok.fresh (Zl _)
  have kept:∀d o,d ∉ [c,pO,it,jt]->s.heap.get? d=some o->h2.get? d=some o:=λd o hd e =>
   sb2.extBut d o (λz=>hd (by simp[z])) (hk d o (λz=>hd (by simp[z])) (λz=>hd (by simp[z])) (λz=>hd (by simp[z])) (λz=>hd (by simp[z])) e)
  have sub:∀d∈[c,pO,it,jt],d∈[c,pI,pO,it,jt]:=λd hd=>by
   simp only[Zt,QC,or_false] at hd ⊢;rcases hd with h|h|h|h
   ·exact .inl h
   ·exact .inr (.inr (.inl h))
   ·exact .inr (.inr (.inr (.inl h)))
   ·exact .inr (.inr (.inr (.inr h)))
  have tp2:h2.get? s.heap.objs.size=some { cls:=.type "tuple",data:=.seq #[u,v] }:=sb2.extBut _ _ (Xy clt) a5
  have hn:∀d o,H d=some o->d ∉ [c,pO,it,jt]:=λd o q hd=>by
   have:=(hf d (sub d hd)).1;rw[q] at this; cases this
  have I2:Inv X pins σ (upd H s.heap.objs.size (.tup [x,y])) { s with heap:=h2 }:=by
   refine I.step (t':=s.toks) (g':=s.gens) (d':=s.drawn) (ch:=[c,pO,it,jt]) (λd hd=>?_) (λd o _ _ hc e _=>kept d o hc e)
    (λd o _ _ hc e _=>⟨o.slots,kept d o hc e⟩) (λd o _ e n=>by rw[aC (ZI (Zp e))]; exact n)
    (λd o hc e=>⟨o,kept d o hc e⟩) (λd ys q=>by rw[aC (br q hp)]; exact q) (λd o u q=>by rw[aC (br q hp)]; exact q)
    (λd ps q=>⟨#[],by rw[aC (br q hp),q]; simp⟩) (λm hm=>?_) ?_ I.bare
   ·obtain⟨f0,f1,f2,f3,f4,f5⟩:=hf d (sub d hd);exact⟨f3,f1,f4,f5⟩
   ·obtain⟨o,es,ep,ho',r⟩:=hm;exact⟨o,es,ep,kept _ o (λhd=>(hf _ (sub _ hd)).2.1 rfl) ho',r⟩
   ·intro d o q
    by_cases hd:d=s.heap.objs.size
    ·subst hd;rw[bZ] at q;cases q;exact⟨by show 2<=sizeLine; decide,[u,v],.cons ru (.cons rv' .nil),_,tp2,rfl,_,rfl⟩
    ·rw[aC hd] at q;refine(I.hok d o q).stay (λe w hc e1=>?_) (λe q=>by rw[aC (br q hp)]; exact q) λe ys q=>by rw[aC (br q hp)]; exact q
     rcases hc with rfl|hc
     ·exact kept _ w (hn _ _ q) e1
     ·exact kept e w (hn _ _ hc) e1
  refine⟨.ref s.heap.objs.size,upd H s.heap.objs.size (.tup [x,y]),I2,rfl,⟨x,y,_,λws hw=>by rw[I.n6 hw sq1]; exact hx,λws hw=>by rw[I.n6 hw sq2]; exact hy,hp,rfl,rfl⟩,
   ⟨he2,sb2.extBut _ _ ap.TIz (hk _ _ ap.TIz ap.TITO ap.TIi1 ap.TIi2 z2),⟨u,v,sb2.extBut _ _ ap.TOz a2⟩,a3.keep λo e=>sb2.extBut _ o ap.i1z e,a4.keep λo e=>sb2.extBut _ o ap.i2z e⟩,λd hd=>?_⟩
  have f0:=(hf d hd).1
  by_cases e:d=s.heap.objs.size
  ·exfalso;subst e;simp only[Zt,QC,or_false] at hd;rcases hd with h|h|h|h|h
   ·exact absurd (Zp z1) (by rw[<- h]; exact Xe _)
   ·exact absurd (Zp z2) (by rw[<- h]; exact Xe _)
   ·exact absurd (Zp z3) (by rw[<- h]; exact Xe _)
   ·obtain⟨o,e,_⟩:=z4.there; exact absurd (Zp e) (by rw[<- h]; exact Xe _)
   ·obtain⟨o,e,_⟩:=z5.there; exact absurd (Zp e) (by rw[<- h]; exact Xe _)
  ·rw[aC e]; exact f0
 done:=by
  intro X hP hw hK hc i pins s σ H E I hf st hg;subst hP hw hK;obtain⟨z1,z2,⟨x0,y0,z3⟩,z4,z5⟩:=st;obtain⟨xs,ys,sq1,sq2,hx⟩:=hg;obtain⟨its,rv,hs⟩:=I.eu sq1;obtain⟨jts,rw',hs2⟩:=I.eu sq2;have l1:=rv.length;have l2:=rw'.length;refine Cj (I.ok.hd hc) ap z1 z2 z3 z4 z5 hs hs2 ?_ λh' hk=>?_
  ·rcases hx with h|h
   ·exact .inl (by simp; omega)
   ·exact .inr (by simp; omega)
  ·have sub:∀d∈[c,pO,it,jt],d∈[c,pI,pO,it,jt]:=λd hd=>by
    simp only[Zt,QC,or_false] at hd ⊢;rcases hd with h|h|h|h
    ·exact .inl h
    ·exact .inr (.inr (.inl h))
    ·exact .inr (.inr (.inr (.inl h)))
    ·exact .inr (.inr (.inr (.inr h)))
   have kept:∀d o,d ∉ [c,pO,it,jt]->s.heap.get? d=some o->h'.get? d=some o:=λd o hd e =>
    hk d o (λz=>hd (by simp[z])) (λz=>hd (by simp[z])) (λz=>hd (by simp[z])) (λz=>hd (by simp[z])) e
   have hn:∀d o,H d=some o->d ∉ [c,pO,it,jt]:=λd o q hd=>by
    have:=(hf d (sub d hd)).1;rw[q] at this; cases this
   refine⟨rfl,I.step (t':=s.toks) (g':=s.gens) (d':=s.drawn) (ch:=[c,pO,it,jt]) (λd hd=>?_) (λd o _ _ hc e _=>kept d o hc e) (λd o _ _ hc e _=>⟨o.slots,kept d o hc e⟩) (λ_ _ _ _ n=>n)
    (λd o hc e=>⟨o,kept d o hc e⟩) (λ_ _ e=>e) (λ_ _ _ e=>e) (λd ps e=>⟨#[],by rw[e]; simp⟩) (λm hm=>?_) (λd o q=>?_) I.bare⟩
   ·obtain⟨f0,f1,f2,f3,f4,f5⟩:=hf d (sub d hd);exact⟨f3,f1,f4,f5⟩
   ·obtain⟨o,es,ep,ho',r⟩:=hm;exact⟨o,es,ep,kept _ o (λhd=>(hf _ (sub _ hd)).2.1 rfl) ho',r⟩
   ·refine(I.hok d o q).stay (λe w hc e1=>?_) (λ_ q=>q) λ_ _ q=>q
    rcases hc with rfl|hc
    ·exact kept _ w (hn _ _ q) e1
    ·exact kept e w (hn _ _ hc) e1
 self:=λ_ _ _ _ _ st h=>wpAny_pyIter_zip st.1 h
section
variable{X:Cx}
noncomputable def iZp(K:Wy)(ta:TA):TI:=λσ H R=>ta σ H λvs H1=>∃t1 t2 a b,vs=[.ref a,.ref b]/\(∃xs,SqB K H1 t1 a xs)/\(∃ys,SqB K H1 t2 b ys)/\R (Itz K t1 t2 a b) H1
theorem Seq.lt{tup:Bool}{h:Heap}{a:Addr}{us:WJ}(x:Seq tup h a us):a<h.objs.size:=by
 cases tup with
 | true=>obtain⟨o,ho,_⟩:=(show h.IsTuple a us from x); exact Zp ho
 | false=>obtain⟨o,ho,_⟩:=(show h.IsList a us from x); exact Zp ho
theorem yU{e f:Expr}{ta:TA}{p pos:Pos}{elts:WM}{k1:Nat}{tp:Pos}(hg:Gl X "zip")(hm:X.mg "zip" = none)(hv:bootBuiltins "zip" = some (.type "zip"))(ha:PA X [e,f] ta)(hs:starEach [e,f] X.env=(false,eval e X.env)::starEach [f] X.env)(hpl:(backTo pos (starEach [f] X.env)).any (·.1)=false) :
  PI X (.Tuple elts k1 tp) (.Call (.Name "zip" p) [e,f] [] pos) (iZp X.K ta):=by
 intro pins s σ H R I h;refine Call_ (ef I hg hm hv (Xs (thn (ha pos pins s σ H _ I h) λus s1 ⟨vs,H1,I1,r1,q1⟩=>?_) hs hpl));obtain⟨t1,t2,a,b,e,⟨xs,hq⟩,⟨ys,hq2⟩,q⟩:=q1;subst e;obtain⟨u1,u2,rfl,r1,r2⟩:=r1.two;cases r1;cases r2;obtain⟨its,rv,sq1⟩:=I1.eu hq;obtain⟨jts,rw',sq2⟩:=I1.eu hq2;have la:=Seq.lt sq1;have lb:=Seq.lt sq2;refine D7 sq1 sq2 λh' x1 x2 x3 x4 x5 hk=>?_
 refine wpAny_pyIter_zip x1 ?_;have fr:∀d,s1.heap.objs.size<=d->cI X pins H1 d:=λd hd=>I1.fZ hd (I1.hok.fresh hd)
 have gt:∀n k:Nat,k<n->n≠k:=λn k h=>Xy h
 have ap:ZipApart (s1.heap.objs.size+4) (s1.heap.objs.size+2) (s1.heap.objs.size+3) s1.heap.objs.size (s1.heap.objs.size+1) a b:=by
  constructor<;>first
   | (refine(gt _ _ ?_).symm; omega)
   | (refine gt _ _ ?_; omega)
   | exact ZI (ZM la (XD _ _))
   | exact ZI (ZM lb (XD _ _))
 refine⟨s1.heap.objs.size+4,_,_,_,H1,rfl,I1.kept (t':=s1.toks) hk,B4 t1 t2 ap,⟨x1,x2,⟨_,_,x3⟩,x4,x5⟩,λd hd=>fr d ?_,q⟩;simp only[Zt,QC,or_false] at hd;rcases hd with rfl|rfl|rfl|rfl|rfl
 ·exact XD _ _
 ·exact XD _ _
 ·exact XD _ _
 ·exact Zl _
 ·exact Qq _
end
end L2

namespace EV
open PySem PySem.Spec PyProof.Rows L2
theorem pV:∀{xs ys:WP} {i:Nat} {d:D},(bG xs ys)[i]?=some d->∃x y,xs[i]?=some x/\ys[i]?=some y/\d=.tup [x,y]
 | [],_,i,d,h=>by simp[bG] at h
 | _::_,[],i,d,h=>by simp[bG] at h
 | x::r,y::q,0,d,h=>by simp[bG] at h; exact⟨x,y,rfl,rfl,h.symm⟩
 | x::r,y::q,i+1,d,h=>by
  have h:(bG r q)[i]?=some d:=by simpa [bG] using h
  obtain⟨a,b,h1,h2,h3⟩:=pV h;exact⟨a,b,by simpa using h1,by simpa using h2,h3⟩
theorem rQ:∀(xs ys:WP),xs.length<=(bG xs ys).length\/ys.length<=(bG xs ys).length
 | [],_=>.inl (Xj _)
 | _::_,[]=>.inr (Xj _)
 | x::r,y::q=>(rQ r q).imp (λh=>Qz h) λh=>Qz h
theorem Bf(ds:WP)(S:af):(∃x y s t,ds=[x,y]/\srcOf x S=.ok s S/\srcOf y S=.ok t S/\fO ds S=.ok (gO s t) S)\/fO ds S=.bad:=by
 unfold fO;split
 ·rename_i x y;rcases kr x S with⟨s,e⟩|e
  ·rw[aj e];rcases kr y S with⟨t,q⟩|q
   ·rw[aj q]; exact .inl ⟨x,y,s,t,rfl,e,q,rfl⟩
   ·rw[aV q]; exact .inr rfl
  ·rw[aV e]; exact .inr rfl
 ·exact .inr rfl
theorem Ew(s t:Src):(gO s t).its=bG s.its t.its:=by
 unfold gO;split<;>rfl
theorem FQ{s t:Src}{S:af}(h:aF (gO s t) S=.ok () S):stl s.l s.raw S=.ok () S/\stl t.l t.raw S=.ok () S:=by
 unfold gO at h;split at h
 ·rename_i h1 h2;rw[h1,h2]; exact⟨rfl,rfl⟩
 ·exact jU h
theorem CQ{Γ:Gx}{ι:WD}{H:Hp}{x y:D}{vs:WN}(r:aA Γ ι H [x,y] vs):∃v1 v2,vs=[v1,v2]/\Rep Γ ι H x v1/\Rep Γ ι H y v2:=by
 cases r with
 | cons r1 r =>
  cases r with
  | cons r2 r=>cases r; exact⟨_,_,rfl,r1,r2⟩
section
variable{X:Cx}{Γ:Gx}{xw:XW}{a b:Expr}{m:Sg->M (List D)}{pos:Pos}
theorem HY{p:Pos}{elts:WM}{k1:Nat}{tp:Pos}(hK:Γ.K=X.K)(hg:Gl X "zip")(hm:X.mg "zip" = none)(ha:PA X [a,b] (tMA Γ xw m))(hs:starEach [a,b] X.env=(false,eval a X.env)::starEach [b] X.env)(hpl:(backTo pos (starEach [b] X.env)).any (·.1)=false) :
  PI X (.Tuple elts k1 tp) (.Call (.Name "zip" p) [a,b] [] pos) (tMI Γ xw λσ=>m σ>>=λds=>fO ds) :=
 PI.imp (yU hg hm boot_zip ha hs hpl) λσ H R h=>by
  obtain⟨σd,ι,S,he,hs,ho⟩:=h;refine⟨σd,ι,S,he,hs,ho.bind.mono λds S' ι' H' _ _ ⟨s',e',o'⟩ vs r=>?_⟩;rcases Bf ds S' with⟨x,y,s,t,rfl,q1,q2,q⟩|q
  ·rw[q] at o';obtain⟨v1,v2,rfl,r1,r2⟩:=CQ r;obtain⟨_,i1,a,ta,rfl,⟨us,sq1⟩,hall1⟩:=kq s' r1 q1;obtain⟨_,i2,b,tb,rfl,⟨ws,sq2⟩,hall2⟩:=kq s' r2 q2;have fin:=o'.here s';refine⟨ta,tb,a,b,rfl,⟨us,by rw[<- hK]; exact sq1⟩,⟨ws,by rw[<- hK]; exact sq2⟩,fin _ λι1 H1 S1 e2 s1 st1=>?_⟩;obtain⟨z1,z2⟩:=FQ st1;obtain⟨us',sq3,p3⟩:=hall1 ι1 H1 S1 e2 s1 z1;obtain⟨ws',sq4,p4⟩:=hall2 ι1 H1 S1 e2 s1 z2;have q3:SqB X.K H1 ta a us':=by rw[<- hK]; exact sq3
   have q4:SqB X.K H1 tb b ws':=by rw[<- hK]; exact sq4
   rw[Ew,i1,i2];refine⟨λi d hd=>?_,us',ws',q3,q4,?_⟩
   ·obtain⟨x,y,hx,hy,rfl⟩:=pV hd;obtain⟨x',hx',rx⟩:=Paired.get p3 hx;obtain⟨y',hy',ry⟩:=Paired.get p4 hy;refine⟨⟨us',ws',x',y',q3,q4,hx',hy'⟩,?_⟩;rintro z H' ⟨u,v,p,h1,h2,hp,rfl,rfl⟩;have h1:=h1 us' q3;have h2:=h2 ws' q4;rw[hx'] at h1; cases h1;rw[hy'] at h2; cases h2;exact⟨Ext.laid hp,s1.laid hp _,.i9 bZ (.cons (rx.ext (Ext.laid hp)) (.cons (ry.ext (Ext.laid hp)) .nil))⟩
   ·rw[<- p3.length,<- p4.length];exact rQ _ _
  ·rw[q] at o'; exact o'.elim
end
end EV

namespace EV
open PySem PySem.Spec PyProof.Rows L2
noncomputable def XF:XW:=λ_ _ _ _=>False
section
variable{Γ:Gx}{xw:XW}{ι ι':WD}{H H':Hp}{S:af}{σ:L2.St}
theorem aq.take(hS:aq Γ ι H S){l:Addr}{xs:WN}{ds:WP}(hn:l∉ι)(h:H l=some (.lst xs))(r:aA Γ ι H ds xs):aq Γ (ι++[l]) H (S++[.lst ds]):=by
 have mv:∀{d:D} {v:V},Rep Γ ι H d v->Rep Γ (ι++[l]) H d v:=λr=>r.move (Zn _ _) (λ_ _ e=>e) λ_ _ _ e=>e
 refine⟨by simp[hS.len],QZ.mpr ⟨hS.nd,by simp,?_⟩,λm c hm=>?_⟩
 ·intro a ha b hb;have:b=l:=by simpa using hb
  subst this;exact λz=>hn (z▸ha)
 ·by_cases hl:m<S.length
  ·rw[ZE hl] at hm;obtain⟨a,ha,c1⟩:=hS.cell m c hm;refine⟨a,gh (Zn _ _) ha,?_⟩
   cases c with
   | lst zs=>obtain⟨ws,hw,rw'⟩:=c1; exact⟨ws,hw,Paired.imp (λ_ _ r=>mv r) rw'⟩
   | dct kvs=>obtain⟨ws,hw,rw'⟩:=c1; exact⟨ws,hw,Paired.imp (λ_ _ q=>⟨q.1,mv q.2⟩) rw'⟩
   | fdc kvs=>obtain⟨ws,hw,rw'⟩:=c1; exact⟨ws,hw,Paired.imp (λ_ _ q=>⟨q.1,mv q.2⟩) rw'⟩
  ·rw[ZN (by omega)] at hm
   have hl2:m-S.length=0:=by
    have:=(Zh.mp hm).1;simp at this; omega
   rw[hl2] at hm;have h':(Cell.lst ds)=c:=by simpa using hm
   subst h';have e1:m=ι.length:=by rw[hS.len]; omega
   subst e1;exact⟨l,by simp,xs,h,Paired.imp (λ_ _ r=>mv r) r⟩
theorem Ext.past(e:Ext ι ι' H H'){l:Addr}{ys:WN}(hl:H l=none):Ext ι ι' H (upd H' l (.lst ys)) :=
 ⟨e.pre,λa xs h=>by rw[aC (br h hl)]; exact e.tup a xs h,λa o u h=>by rw[aC (br h hl)]; exact e.frz a o u h,λa o h n=>by rw[aC (br h hl)]; exact e.oth a o h n,e.fresh⟩
theorem Ext.cW(e:Ext ι ι' H H'){l:Addr}{o:HO}(h:H l=some o)(hn:l∉ι):H' l=some o/\l∉ι':=⟨e.oth l o h hn,λm=>by have:=e.fresh l m hn; rw[h] at this; cases this⟩
theorem Jp{src:Src}{f:D->M (Option D)}{post:WP}{S2:af}(h:bD src f [] S=.ok post S2):aF src S=.ok () S/\post=[]/\S2=S:=by
 have h:(aF src>>=λ_=>pure []) S=.ok post S2:=h;rcases kW src S with e|e
 ·rw[aj e] at h; cases h; exact⟨e,rfl,rfl⟩
 ·rw[aV e] at h; cases h
theorem Eu{src:Src}{f:D->M (Option D)}{d:D}{rest post:WP}{S2:af}(h:bD src f (d::rest) S=.ok post S2) :
  aF src S=.ok () S/\∃y S3 post',f d S=.ok y S3/\bD src f rest S3=.ok post' S2/\post=(match y with|some y=>y::post'|none=>post'):=by
 have h:(aF src>>=λ_=>f d>>=λy=>bD src f rest>>=λys=>pure (match y with|some y=>y::ys|none=>ys)) S=.ok post S2:=h;rcases kW src S with e|e
 ·rw[aj e] at h
  cases q:f d S with
  | bad=>rw[aV q] at h; cases h
  | exc c S3=>rw[cY q] at h; cases h
  | ok y S3 =>
   rw[aj q] at h
   cases q2:bD src f rest S3 with
   | bad=>rw[aV q2] at h; cases h
   | exc c S4=>rw[cY q2] at h; cases h
   | ok ys S4=>rw[aj q2] at h; cases h; exact⟨e,y,S3,ys,rfl,q2,rfl⟩
 ·rw[aV e] at h; cases h
end
section
variable{X:Cx}{Γ:Gx}{xw:XW}{scope:Scope}{N':WI}{k:Nat}{elt iter tg:Expr}{ifs:WM}{pos:Pos}{mi:Sg->M Src}{t:Tg}{nt:Sg->M Bool}{me:Sg->M D}
noncomputable def jL(k:Nat)(mi:Sg->M Src)(t:Tg)(nt:Sg->M Bool)(me:Sg->M D):Sg->M D:=λσ=>mi σ>>=λs =>
 quiet (bD s (λd=>aQ t d (σ++List.replicate k none)>>=λσ'=>nt σ'>>=λb=>if b=true then me σ'>>=λy=>pure (some y) else pure none) s.its)>>=λys=>guard (fits ys.length) (alloc (.lst ys))
theorem tK(hslot:∀j,j<X.N.length->t.has j=false){σ:L2.St}(hσ:σ.length=X.N.length){H:Hp}{Q:VK}(h:tM Γ xw (jL k mi t nt me) σ H Q):nJ k (tMI Γ xw mi) (tMG Γ t) (tMT Γ XF nt) (tM Γ XF me) σ H Q:=by
 obtain⟨σd,ι,S,hE,hS,ho⟩:=h;refine⟨σd,ι,S,hE,hS,ho.bind.mono λsrc S1 ι1 H1 _ _ ⟨s1,e1,o1⟩ J hJ l hl=>?_⟩;generalize hf:(λd=>aQ t d (σd++List.replicate k none)>>=λσ'=>nt σ'>>=λb=>if b=true then me σ'>>=λy=>pure (some y) else pure none)=f at o1
 cases q:bD src f src.its S1 with
 | bad=>rw[aV (show quiet (bD src f src.its) S1=.bad by unfold quiet; rw[q])] at o1; exact o1.elim
 | exc c S2=>rw[aV (show quiet (bD src f src.its) S1=.bad by unfold quiet; rw[q])] at o1; exact o1.elim
 | ok ys S2 =>
  rw[aj (show quiet (bD src f src.its) S1=.ok ys S2 by unfold quiet; rw[q])] at o1;obtain⟨hz,o1⟩:=Out.guard o1;have hz:=gG hz
  refine⟨λi m H=>∃ι' S' pre post xs,i<=src.its.length/\m=src.its.length-i/\Ext ι1 ι' H1 H/\aq Γ ι' H S'/\l∉ι'/\H l=some (.lst xs)/\aA Γ ι' H pre xs/\bD src f (src.its.drop i) S'=.ok post S2/\ys=pre++post/\bf Γ ι' H σ σd,
   ⟨src.its.length,ι1,S1,[],ys,[],Xj _,rfl,Ext.laid hl,s1.laid hl _,s1.new hl,bZ,.nil,q,rfl,(hE.ext e1).ext (Ext.laid hl)⟩,?_⟩
  rintro i m H ⟨ι',S',pre,post,xs,hi,rfl,eH,sH,ln,hH,rp,hc,hys,eE⟩
  by_cases hlt:i<src.its.length
  ·rw[Xo hlt] at hc;obtain⟨st,y,S3,post',hfd,hc',hpost⟩:=Eu hc;obtain⟨jgo,jyld⟩:=(hJ ι' H S' eH sH st).1 i src.its[i] (Zb hlt);refine .inr ⟨jgo,λx H' yl=>?_⟩;obtain⟨eX,sX,rX⟩:=jyld x H' yl;obtain⟨hH',_⟩:=eX.cW hH ln;rw[<- hf] at hfd;have hfd:(aQ t src.its[i] (σd++List.replicate k none)>>=λσ'=>nt σ'>>=λb=>if b=true then me σ'>>=λy=>pure (some y) else pure none) S'=.ok y S3:=hfd
   obtain⟨σd',hb⟩:∃σd',aQ t src.its[i] (σd++List.replicate k none) S'=.ok σd' S':=by
    rcases pA t src.its[i] (σd++List.replicate k none) S' with⟨σd',hb,_⟩|hb
    ·exact⟨σd',hb⟩
    ·rw[aV hb] at hfd; cases hfd
   rw[aj hb] at hfd;refine⟨σd++List.replicate k none,ι',S',src.its[i],σd',(eE.ext eX).more k,sX,rX,hb,λσ' hE' hK=>⟨λj v hj=>?_,?_⟩⟩
   ·rw[hK j (hslot j ?_)]; exact hj
    by_cases hjl:j<σ.length
    ·omega
    ·rw[ZN (by omega),XL] at hj;split at hj<;>cases hj
   ·cases qn:nt σd' S' with
    | bad=>rw[aV qn] at hfd; cases hfd
    | exc c S4=>rw[cY qn] at hfd; cases hfd
    | ok b S4 =>
     rw[aj qn] at hfd;refine⟨σd',ι',S',hE',sX,?_⟩;rw[qn];intro ι3 H3 e3 s3;obtain⟨hH3,ln3⟩:=e3.cW hH' ln;have eA:Ext ι1 ι3 H1 H3:=(eH.trans eX).trans e3
     cases b with
     | false =>
      rw[Zg Zz] at hfd ⊢;cases hfd;exact⟨src.its.length-(i+1),by omega,ι3,_,pre,post',xs,hlt,rfl,eA,s3,ln3,hH3,aA.ext e3 (aA.ext eX rp),hc',by rw[hys,hpost],(eE.ext eX).ext e3⟩
     | true =>
      rw[Zf rfl] at hfd ⊢;refine⟨σd',ι3,S4,hE'.ext e3,s3,?_⟩
      cases qe:me σd' S4 with
      | bad=>rw[aV qe] at hfd; cases hfd
      | exc c S5=>rw[cY qe] at hfd; cases hfd
      | ok yd S5 =>
       rw[aj qe] at hfd;cases hfd;intro ι4 H4 e4 s4 v rv;obtain⟨hH4,ln4⟩:=e4.cW hH3 ln3;have rp4:aA Γ ι4 H4 pre xs:=aA.ext e4 (aA.ext e3 (aA.ext eX rp));refine⟨xs,hH4,?_,src.its.length-(i+1),by omega,ι4,_,pre++[yd],post',xs++[v],hlt,rfl,(eA.trans e4).past hl,s4.other hH4 ln4,ln4,bZ,aA.write hH4 (Paired.app rp4 (.cons rv .nil)),hc',by rw[hys,hpost]; simp,(((eE.ext eX).ext e3).ext e4).write hH4⟩;have:=rp4.length;rw[hys,hpost,Zu,ZF] at hz;omega
  ·have ei:i=src.its.length:=by omega
   subst ei;rw[List.drop_length] at hc;obtain⟨st,rfl,rfl⟩:=Jp hc;refine .inl ⟨(hJ ι' H S2 eH sH st).2,?_⟩;rw[XV] at hys;subst hys;refine o1 (ι'++[l]) H ⟨eH.pre.trans (Zn _ _),eH.tup,eH.frz,eH.oth,λa ha hn=>?_⟩ (sH.take ln hH rp) _ (.loc (by rw[<- sH.len]; simp));rcases ZR.mp ha with z|z
   ·exact eH.fresh a z hn
   ·have:a=l:=by simpa using z
    rw[this]; exact hl
theorem Aq(C:fh X scope N' k)(hc:X.calm=true)(hslot:∀j,j<X.N.length->t.has j=false)(hi:PI X tg iter (tMI Γ xw mi))(hg:∀cl fp s3 H3,PG (aR X scope cl N' fp s3 H3) tg (tMG Γ t))(htt:∀cl fp s3 H3,PF (aR X scope cl N' fp s3 H3) ifs (tMT Γ XF nt))(hte:∀cl fp s3 H3,PE (aR X scope cl N' fp s3 H3) elt (tM Γ XF me))
  (hs:∀x,foldedSetIterable iter X.env x=pure x):PE X (.ListComp elt [⟨tg,iter,ifs,0⟩] scope pos) (tM Γ xw (jL k mi t nt me)):=by
 intro pins s σ H Q I h;exact IZ C hc hi hg htt hte hs pins s σ H Q I (tK hslot I.len h)
noncomputable def FlK(Γ:Gx)(D:Ends):Fl->af->List Addr->Hp->Prop
 | .nx σ',_,ι',H'=>∀σv,bf Γ ι' H' σv σ'->D.nx σv H'
 | .rt d,_,ι',H'=>∀v,Rep Γ ι' H' d v->D.rt v H'
 | .bk σ',_,ι',H'=>∀σv,bf Γ ι' H' σv σ'->D.bk σv H'
 | .ct σ',_,ι',H'=>∀σv,bf Γ ι' H' σv σ'->D.ct σv H'
noncomputable def tMS(Γ:Gx)(xw:XW)(m:Sg->M Fl):TS:=λD σ H=>∃σd ι S,bf Γ ι H σ σd/\aq Γ ι H S/\Out Γ xw ι H (m σd S) (FlK Γ D)
variable{e:Expr}{ma:Sg->M D}{na:Sg->M Bool}{ms ms2:Sg->M Fl}{st:Stmt}{sts sts2:List Stmt}
theorem IC(he:PE X e (tM Γ xw ma)):PS X (.Return (some e) pos) (tMS Γ xw λσ=>ma σ>>=λd=>pure (.rt d)) :=
 PS.imp (Ci he) λD σ H h=>by
  obtain⟨σd,ι,S,hE,hs,ho⟩:=h;exact⟨σd,ι,S,hE,hs,ho.bind.mono λd S' ι' H' _ _ ⟨s',e',o'⟩ v r=>o'.here s' v r⟩
theorem Iz:PS X (.Return none pos) (tMS Γ xw λ_=>pure (.rt .non)) :=
 PS.imp FT λD σ H h=>by
  obtain⟨σd,ι,S,hE,hs,ho⟩:=h;exact ho.here hs _ .non
theorem CG(he:PE X e (tM Γ xw ma))(hs:swapsWith e none pos.line X.env=pure false):PS X (.Expr e pos) (tMS Γ xw λσ=>ma σ>>=λ_=>pure (.nx σ)) :=
 PS.imp (D5 he hs) λD σ H h=>by
  obtain⟨σd,ι,S,hE,hs,ho⟩:=h;exact⟨σd,ι,S,hE,hs,ho.bind.mono λd S' ι' H' _ _ ⟨s',e',o'⟩ v r=>o'.here s' _ (hE.ext e')⟩
theorem I_:PS X (.Pass pos) (tMS Γ xw λσ=>pure (.nx σ)) :=
 PS.imp IW λD σ H h=>by
  obtain⟨σd,ι,S,hE,hs,ho⟩:=h;exact ho.here hs _ hE
theorem Jg{x j p2}:PS X (.Expr (.Constant (.str x) j p2) pos) (tMS Γ xw λσ=>pure (.nx σ)) :=
 PS.imp CM λD σ H h=>by
  obtain⟨σd,ι,S,hE,hs,ho⟩:=h;exact ho.here hs _ hE
theorem B_{D:Ends}{σ:L2.St}{H:Hp}(h:tMS Γ xw (λσ=>ma σ>>=λd=>aQ t d σ>>=λσ'=>pure (.nx σ')) D σ H):lB (tM Γ xw ma) (tMG Γ t) D σ H:=by
 obtain⟨σd,ι,S,hE,hs,ho⟩:=h;refine⟨σd,ι,S,hE,hs,ho.bind.mono λd S' ι' H' _ _ ⟨s',e',o'⟩ v r=>?_⟩;obtain⟨σd',hb,_,o'⟩:=Out.aQ o';exact⟨σd,ι',S',d,σd',hE.ext e',s',r,hb,λσ' hE' _=>o'.here s' _ hE'⟩
theorem mG(he:PE X e (tM Γ xw ma))(hg:PG X tg (tMG Γ t))(hs:swapsWithSole [tg] e pos.line X.env=pure false)(hw:swappedStores [tg] e X.env=pure none)(h1:(assignEach [tg] X.env).map (·.2)=[assign tg X.env]) :
  PS X (.Assign [tg] e pos) (tMS Γ xw λσ=>ma σ>>=λd=>aQ t d σ>>=λσ'=>pure (.nx σ')):=PS.imp (tw he hg hs hw h1) λD σ H h=>B_ h
theorem xC{j:Nat}{y:Str}{py spos:Pos}(C:fh X scope N' k)(hc:X.calm=true)(hslot:∀j,j<X.N.length->t.has j=false)(hi:PI X tg iter (tMI Γ xw mi))(hg:∀cl fp s3 H3,PG (aR X scope cl N' fp s3 H3) tg (tMG Γ t))(htt:∀cl fp s3 H3,PF (aR X scope cl N' fp s3 H3) ifs (tMT Γ XF nt))(hte:∀cl fp s3 H3,PE (aR X scope cl N' fp s3 H3) elt (tM Γ XF me))
  (hN:X.N.Nodup) (hj:X.N[j]?=some y) (hy:X.env.scope.names.lookup y=some .local) (hsw:swapsWith (.ListComp elt [⟨tg,iter,ifs,0⟩] scope pos) (some (.Name y py)) spos.line X.env=pure true) (hs:∀x,foldedSetIterable iter X.env x=pure x) :
  PS X (.Assign [.Name y py] (.ListComp elt [⟨tg,iter,ifs,0⟩] scope pos) spos) (tMS Γ xw λσ=>jL k mi t nt me σ>>=λd=>aQ (.one j) d σ>>=λσ'=>pure (.nx σ')):=by
 intro pins s σ H D I h;refine Gg C hc hi hg htt hte hN hj hy hsw hs pins s σ H D I ?_
 have h1:tM Γ xw (jL k mi t nt me) σ H (λx H1=>jr j x σ H1 D.nx):=by
  obtain⟨σd,ι,S,hE,hS,ho⟩:=h;refine⟨σd,ι,S,hE,hS,ho.bind.mono λd S' ι' H' _ _ ⟨s',e',o'⟩ v r=>?_⟩;exact o'.here s' _ ((hE.ext e').set j r)
 exact tK hslot I.len h1
theorem FH{c:Expr}(hc:PT X c (tMT Γ xw na))(ha:PSs X sts (tMS Γ xw ms))(hb:PSs X sts2 (tMS Γ xw ms2)):PS X (.If c sts sts2 pos) (tMS Γ xw λσ=>na σ>>=λk=>if k=true then ms σ else ms2 σ) :=
 PS.imp (Df hc ha hb) λD σ H h=>by
  obtain⟨σd,ι,S,hE,hs,ho⟩:=h;refine⟨σd,ι,S,hE,hs,ho.bind.mono λk S' ι' H' _ _ ⟨s',e',o'⟩=>?_⟩
  cases k with
  | true=>rw[Zf rfl]; exact⟨σd,ι',S',hE.ext e',s',o'⟩
  | false=>rw[Zg Zz]; exact⟨σd,ι',S',hE.ext e',s',o'⟩
theorem Eb:PSs X [] (tMS Γ xw λσ=>pure (.nx σ)) :=
 PSs.imp II λD σ H h=>by
  obtain⟨σd,ι,S,hE,hs,ho⟩:=h;exact ho.here hs _ hE
theorem EL(h1:PS X st (tMS Γ xw ms)):PSs X [st] (tMS Γ xw ms):=ye h1
theorem xW(h1:PS X st (tMS Γ xw ms))(h2:PSs X sts (tMS Γ xw ms2)):PSs X (st::sts) (tMS Γ xw λσ=>ms σ>>=λf=>match f with|.nx σ'=>ms2 σ'|f=>pure f) :=
 PSs.imp (B9 h1 h2) λD σ H h=>by
  obtain⟨σd,ι,S,hE,hs,ho⟩:=h;refine⟨σd,ι,S,hE,hs,ho.bind.mono λf S' ι' H' _ _ ⟨s',e',o'⟩=>?_⟩
  cases f with
  | nx σ'=>exact λσv hv=>⟨σ',ι',S',hv,s',o'⟩
  | rt d=>exact λv r=>o'.here s' v r
  | bk σ'=>exact λσv hv=>o'.here s' σv hv
  | ct σ'=>exact λσv hv=>o'.here s' σv hv
end
end EV

namespace EV
open PySem PySem.Spec PyProof.Rows L2
section
variable{X:Cx}{Γ:Gx}{xw:XW}{iter tg c:Expr}{pos:Pos}{mi:Sg->M Src}{t:Tg}{mb:Sg->M Fl}{na:Sg->M Bool}{body:List Stmt}
theorem zT{wi:TI}{g:TG}{tb:TS}(hc:X.calm=true)(hi:PI X tg iter wi)(hg:PG X.nox tg g)(hb:PSs X.nox body tb)
  (hs:∀x,foldedSetIterable iter X.env x=pure x):PS X (.For tg iter body [] pos) (vq wi g tb):=by
 intro pins s σ H D I h;have nv:∀{α:Type} {t:Sem α} {Q Q':α->Shared->Prop} {E':Wv} {s:WA},wpAny (model X.prog X.w) X.A t Q (λ_ _=>False) s->(∀a s,Q a s->Q' a s)->wpAny (model X.prog X.w) X.A t Q' E' s:=λh hQ=>XH h hQ λ_ _ z=>z.elim
 refine wpAny_For (thn (hi pins s σ H _ I h) λv s1 h1=>thn h1 λitv s2 h2=>?_) hs;obtain⟨it,fp,tn,J,H2,e,I2,T,st2,f2,W,⟨m0,w0⟩,turn⟩:=h2;subst e;have stat:∀{H':Hp},(∀b∈fp,H' b=none)->∀b∈fp,cI X pins H' b:=λhn b hb=>⟨hn b hb,(f2 b hb).2⟩
 refine codeAny_forLoop_any (λn s'=>∃i σ' H',Inv X pins σ' H' s'/\tn i s'.heap/\(∀b∈fp,H' b=none)/\W i n σ' H') ?_ m0 ⟨0,σ,H2,I2,st2,λb hb=>(f2 b hb).1,w0⟩;rintro n s3 ⟨i,σ3,H3,I3,st3,fr3,w3⟩;rcases turn i n σ3 H3 w3 with⟨stop,qn⟩|⟨go,N,hN,step⟩
 ·refine nv (T.done X rfl rfl rfl hc i pins s3 σ3 H3 _ I3 (stat fr3) st3 stop) λr s4 ⟨hr,I4⟩=>?_
  subst hr;exact wpAny_execs_nil ⟨σ3,H3,I4,qn⟩
 ·refine nv (T.item X rfl rfl rfl hc i pins s3 σ3 H3 _ I3 (stat fr3) st3 go) λr s4 ⟨u,hr,h4⟩=>?_
  subst hr;refine nv h4 λ_ s5 ⟨x,H5,I5,r5,y5,st5,fr5⟩=>?_
  have I5':=I5.pinned (stat fr5) (T.obj _ _ st5);refine nv (hg _ s5 σ3 H5 x u _ (I5'.eg _) r5 (step x H5 y5)) λ_ s6 ⟨σ6,H6,I6,q6⟩=>?_
  refine nv (hb _ s6 σ6 H6 _ I6 q6) λf s7 q7=>?_
  have again:∀{σ7:L2.St} {H7:Hp},Inv X (pins++iK fp s5.heap) σ7 H7 s7->N σ7 H7->∃m,m<n/\∃i σ' H',Inv X pins σ' H' s7/\tn i s7.heap/\(∀b∈fp,H' b=none)/\W i m σ' H':=λ{σ7 H7} I7 n7=>by
   obtain⟨m',hm,w7⟩:=hN σ7 H7 n7;refine⟨m',hm,i+1,σ7,H7,I7.kH,T.keep _ _ _ st5 λb hb o e=>(I7.pin (b,o) (Z6 _ (Z6 _ (kU hb e)))).1,λb hb=>?_,w7⟩;obtain⟨o,e,d⟩:=T.obj _ _ st5 b hb;exact(I7.pin (b,o) (Z6 _ (Z6 _ (kU hb e)))).2.1
  cases f with
  | next=>obtain⟨σ7,H7,I7,n7⟩:=q7; exact again I7.gJ n7
  | cont=>obtain⟨σ7,H7,I7,n7⟩:=q7; exact again I7.gJ n7
  | brk=>obtain⟨σ7,H7,I7,q7⟩:=q7; exact⟨σ7,H7,I7.gJ.kH,q7⟩
  | ret v=>obtain⟨x7,σ7,H7,I7,r7,q7⟩:=q7; exact⟨x7,σ7,H7,I7.gJ.kH,r7,q7⟩
theorem AO{D:Ends}{σ:L2.St}{H:Hp}(h:tMS Γ xw (λσ=>mi σ>>=λs=>quiet (forL s (λd σ=>aQ t d σ>>=λσ'=>mb σ') s.its σ)) D σ H):vq (tMI Γ xw mi) (tMG Γ t) (tMS Γ XF mb) D σ H:=by
 obtain⟨σd,ι,S,hE,hS,ho⟩:=h;refine⟨σd,ι,S,hE,hS,ho.bind.mono λsrc S1 ι1 H1 _ _ ⟨s1,e1,o1⟩ J hJ=>?_⟩;have o1:=Out.quiet o1 XF;generalize hf:(λd σ=>aQ t d σ>>=λσ'=>mb σ')=f at o1;generalize hR:forL src f src.its σd S1=R0 at o1
 refine⟨λi m σ H=>∃ι' S' σd',i<=src.its.length/\m=src.its.length-i/\Ext ι1 ι' H1 H/\aq Γ ι' H S'/\bf Γ ι' H σ σd'/\forL src f (src.its.drop i) σd' S'=R0,
  ⟨src.its.length,ι1,S1,σd,Xj _,rfl,.refl,s1,hE.ext e1,hR⟩,?_⟩
 rintro i m σ H ⟨ι',S',σd',hi,rfl,eH,sH,eE,hc⟩
 by_cases hlt:i<src.its.length
 ·rw[Xo hlt] at hc;have hc:(aF src>>=λ_=>f src.its[i] σd'>>=λfl=>match fl with|.nx σ'=>forL src f (src.its.drop (i+1)) σ'|.ct σ'=>forL src f (src.its.drop (i+1)) σ'|.bk σ'=>pure (.nx σ')|.rt d=>pure (.rt d)) S'=R0:=hc;rcases kW src S' with st|st
  ·rw[aj st] at hc;obtain⟨jgo,jyld⟩:=(hJ ι' H S' eH sH st).1 i src.its[i] (Zb hlt);refine .inr ⟨jgo,λσ' H'=>∃m',m'<src.its.length-i/\∃ι' S' σd',i+1<=src.its.length/\m'=src.its.length-(i+1)/\Ext ι1 ι' H1 H'/\aq Γ ι' H' S'/\bf Γ ι' H' σ' σd'/\forL src f (src.its.drop (i+1)) σd' S'=R0,λσ' H' h=>h,λx H' yl=>?_⟩;obtain⟨eX,sX,rX⟩:=jyld x H' yl;have hfd:f src.its[i] σd' S'=(aQ t src.its[i] σd'>>=λσ'=>mb σ') S':=by rw[<- hf]
   rcases pA t src.its[i] σd' S' with⟨σd2,hb,_⟩|hb
   ·rw[aj hb] at hfd;refine⟨σd',ι',S',src.its[i],σd2,eE.ext eX,sX,rX,hb,λσ2 hE2 _=>⟨σd2,ι',S',hE2,sX,?_⟩⟩;have eA:=eH.trans eX
    cases qb:mb σd2 S' with
    | bad=>rw[qb] at hfd; rw[aV hfd] at hc; rw[<- hc] at o1; exact o1.elim
    | exc c S3=>rw[qb] at hfd; rw[cY hfd] at hc; rw[<- hc] at o1; exact λι3 H3 e3 s3=>o1 ι3 H3 (eA.trans e3) s3
    | ok fl S3 =>
     rw[qb] at hfd;rw[aj hfd] at hc;intro ι3 H3 e3 s3
     cases fl with
     | nx σ'=>exact λσv hv=>⟨src.its.length-(i+1),by omega,ι3,S3,σ',hlt,rfl,eA.trans e3,s3,hv,hc⟩
     | ct σ'=>exact λσv hv=>⟨src.its.length-(i+1),by omega,ι3,S3,σ',hlt,rfl,eA.trans e3,s3,hv,hc⟩
     | bk σ'=>rw[<- hc] at o1; exact λσv hv=>o1 ι3 H3 (eA.trans e3) s3 σv hv
     | rt d=>rw[<- hc] at o1; exact λv r=>o1 ι3 H3 (eA.trans e3) s3 v r
   ·rw[aV hb] at hfd; rw[aV hfd] at hc; rw[<- hc] at o1; exact o1.elim
  ·rw[aV st] at hc; rw[<- hc] at o1; exact o1.elim
 ·have ei:i=src.its.length:=by omega
  subst ei;rw[List.drop_length] at hc;have hc:(aF src>>=λ_=>pure (.nx σd')) S'=R0:=hc;rcases kW src S' with st|st
  ·rw[aj st] at hc;rw[<- hc] at o1;exact .inl ⟨(hJ ι' H S' eH sH st).2,o1 ι' H eH sH σ eE⟩
  ·rw[aV st] at hc; rw[<- hc] at o1; exact o1.elim
theorem yN(hcalm:X.calm=true)(hi:PI X tg iter (tMI Γ xw mi))(hg:PG X.nox tg (tMG Γ t))(hb:PSs X.nox body (tMS Γ XF mb))(hs:∀x,foldedSetIterable iter X.env x=pure x) :
  PS X (.For tg iter body [] pos) (tMS Γ xw λσ=>mi σ>>=λs=>quiet (forL s (λd σ=>aQ t d σ>>=λσ'=>mb σ') s.its σ)) :=
 PS.imp (zT hcalm hi hg hb hs) λD σ H h=>AO h
end
section
variable{Γ:Gx}{ι ι':WD}{H H':Hp}{S S':af}
theorem fP:∀{ds:WP} {n:Nat},D.lows n ds=true ↔ ∀(i:Nat) d,ds[i]?=some d->d.low n=true
 | [],n=>⟨λ_ i d h=>by simp at h,λ_=>rfl⟩
 | d::r,n=>by
  simp only[D.lows,ZA];constructor
  ·rintro⟨h1,h2⟩ i e h
   cases i with
   | zero=>simp at h; subst h; exact h1
   | succ i=>exact fP.mp h2 i e (by simpa using h)
  ·intro h;exact⟨h 0 d rfl,fP.mpr λi e q=>h (i+1) e (by simpa using q)⟩
theorem Rep.low{d:D}{v:V}(r:Rep Γ ι H d v):d.low ι.length=true:=by
 induction r with
 | tup h1 h2 h3 h4 ih =>
  show D.lows _ _=true;refine fP.mpr λi d e=>?_
  have hi:i<_:=(Zh.mp e).1;exact ih i d _ e (Zb (by omega))
 | fro h1 h2 h3 ih =>
  show D.lows _ _=true;refine fP.mpr λi d e=>?_
  have hi:i<_:=(Zh.mp e).1;exact ih i d _ e (Zb (by omega))
 | loc h=>exact Zi (Zh.mp h).1
 | _=>rfl
theorem Rep.cut(hp:ι<+:ι'){d:D}{v:V}(r:Rep Γ ι' H d v)(hl:d.low ι.length=true):Rep Γ ι H d v:=by
 induction r with
 | non=>exact .non
 | bl b=>exact .bl b
 | int i=>exact .int i
 | str x=>exact .str x
 | tup h1 h2 h3 h4 ih=>exact .tup h1 h2 (λi d v e1 e2=>ih i d v e1 e2 (fP.mp hl i d e1)) h4
 | fro h1 h2 h3 ih=>exact .fro h1 h2 λi d v e1 e2=>ih i d v e1 e2 (fP.mp hl i d e1)
 | @loc l a h =>
  have hlt:l<ι.length:=Zs hl;obtain⟨t,rfl⟩:=hp;rw[ZE hlt] at h;exact .loc h
theorem aA.low{ds:WP}{vs:WN}(r:aA Γ ι H ds vs):D.lows ι.length ds=true:=fP.mpr λi d e=>let⟨_,_,r'⟩:=Paired.get r e; r'.low
theorem aA.cut(hp:ι<+:ι'):∀{ds:WP} {vs:WN},aA Γ ι' H ds vs->D.lows ι.length ds=true->aA Γ ι H ds vs
 | _,_,.nil,_=>.nil
 | _,_,.cons r t,h=>by
  rw[D.lows,ZA] at h;exact .cons (r.cut hp h.1) (aA.cut hp t h.2)
theorem aI.cut(hp:ι<+:ι'):∀{kvs:WQ} {xs ys:WO} {H0:Hp},aI Γ ι' H kvs xs->aI Γ ι H0 kvs ys->aI Γ ι H kvs xs
 | _,_,_,_,.nil,_=>.nil
 | _,_,_,_,.cons r t,.cons r0 t0=>.cons ⟨r.1,r.2.cut hp r0.2.low⟩ (aI.cut hp t t0)
theorem Ext.back(e:Ext ι ι' H H'):Ext ι ι H H':=⟨Z4 _,e.tup,e.frz,e.oth,λ_ h n=>absurd h n⟩
theorem aq.back(e:Ext ι ι' H H')(h0:aq Γ ι H S)(h1:aq Γ ι' H' S')(ht:S'.take S.length=S):aq Γ ι H' S:=by
 refine⟨h0.len,h0.nd,λl c hc=>?_⟩;have hl:l<S.length:=(Zh.mp hc).1;have hc':S'[l]?=some c:=by rw[<- ht,QN hl] at hc; exact hc
 obtain⟨a,ha,c1⟩:=h1.cell l c hc';obtain⟨b,hb,c0⟩:=h0.cell l c hc;have:=gh e.pre hb;rw[ha] at this; cases this;refine⟨a,hb,?_⟩
 cases c with
 | lst ds=>obtain⟨xs,hx,r⟩:=c1; obtain⟨ys,_,r0⟩:=c0; exact⟨xs,hx,aA.cut e.pre r r0.low⟩
 | dct kvs=>obtain⟨xs,hx,r⟩:=c1; obtain⟨ys,_,r0⟩:=c0; exact⟨xs,hx,aI.cut e.pre r r0⟩
 | fdc kvs=>obtain⟨xs,hx,r⟩:=c1; obtain⟨ys,_,r0⟩:=c0; exact⟨xs,hx,aI.cut e.pre r r0⟩
theorem p5{xw:XW}{d:D}{v:V}{Q:VK}(h0:aq Γ ι H S)(e:Ext ι ι' H H')(h1:aq Γ ι' H' S')(r:Rep Γ ι' H' d v)(ho:Out Γ xw ι H (leave S d S') λd _ ι' H'=>∀v,Rep Γ ι' H' d v->Q v H'):Q v H':=by
 unfold leave at ho
 by_cases ht:S'.take S.length=S
 ·rw[Zf ht] at ho
  by_cases hl:d.low S.length=true
  ·rw[Zf hl] at ho;exact ho ι H' e.back (aq.back e h0 h1 ht) v (r.cut e.pre (by rw[h0.len]; exact hl))
  ·rw[Zg hl] at ho;have dflt:Out Γ xw ι H (.ok d S') (λd _ ι' H'=>∀v,Rep Γ ι' H' d v->Q v H')->Q v H':=λho=>ho ι' H' e h1 v r
   cases d with
   | loc l =>
    dsimp only at ho
    cases q:S'[l]? with
    | none=>rw[q] at ho; exact dflt ho
    | some c =>
     rw[q] at ho;dsimp only at ho
     by_cases hc:c.low S.length=true
     ·rw[Zf hc] at ho
      cases r with
      | @loc _ a hla =>
       have hge:¬l<S.length:=λz=>hl (Zi z)
       have hna:a∉ι:=λz=>by
        obtain⟨j,hj⟩:=ZS z;have hj1:=(Zh.mp hj).1;have:=gB h1.nd hla (gh e.pre hj);rw[h0.len] at hj1;omega
       have hHa:H a=none:=e.fresh a (ZD hla) hna;have pre2:ι<+:ι++[a]:=Zn _ _;refine ho (ι++[a]) H' ⟨pre2,e.tup,e.frz,e.oth,λb hb hn=>?_⟩ ?_ _ (.loc (by rw[<- h0.len]; simp))
       ·rcases ZR.mp hb with z|z
        ·exact absurd z hn
        ·have:b=a:=by simpa using z
         rw[this]; exact hHa
       ·have hb:=aq.back e h0 h1 ht;obtain⟨b,hb2,c1⟩:=h1.cell l c q;rw[hla] at hb2; cases hb2
        cases c with
        | lst ds =>
         obtain⟨xs,hx,rr⟩:=c1;exact hb.take hna hx (aA.cut e.pre rr (by rw[h0.len]; exact hc))
        | dct kvs=>cases hc
        | fdc kvs=>cases hc
     ·rw[Zg hc] at ho; exact dflt ho
   | _=>exact dflt ho
 ·rw[Zg ht] at ho;exact ho ι' H' e h1 v r
end
end EV

namespace EV
open PySem PySem.Spec PyProof.Rows L2
section
variable{X:Cx}{Γ:Gx}{xw:XW}{pins:Ww}{σ:L2.St}{H:Hp}{s:WA}{ι:WD}{S:af}
theorem sO(k:Wx):(k.map V.int)=(k.map (Sum.inl:Int->Key)).map kV:=by
 rw[Xl]; rfl
theorem om:∀{a b:Wx},a.map (Sum.inl:Int->Key)=b.map Sum.inl->a=b
 | [],[],_=>rfl
 | [],_::_,h=>by cases h
 | _::_,[],h=>by cases h
 | a::r,b::q,h=>by
  obtain⟨h1,h2⟩:=Q6 h;rw[Sum.inl.inj h1,om h2]
theorem o_(a b:Wx):decide (a.map (Sum.inl:Int->Key)=b.map Sum.inl)=decide (a=b):=by
 by_cases h:a=b
 ·rw[Zi h,Zi (by rw[h])]
 ·rw[Zw h,Zw λe=>h (om e)]
theorem aI.get{k:Wx}:∀{kvs:WQ} {xs:WO} {d:D},aI Γ ι H kvs xs->b6 kvs k=some d->∃v,b8 xs (k.map Sum.inl)=some v/\Rep Γ ι H d v
 | _,_,d,.nil,h=>by cases h
 | p::r,q::t,d,.cons e u,h=>by
  unfold b6 at h;unfold b8;rw[ZP] at h ⊢;rw[e.1,o_]
  cases c:decide (p.1=k) with
  | true =>
   rw[c] at h;cases h;exact⟨q.2,rfl,e.2⟩
  | false =>
   rw[c] at h;exact aI.get u h
theorem aI.any(k:Wx):∀{kvs:WQ} {xs:WO},aI Γ ι H kvs xs->(xs.any λkv=>decide (kv.1=k.map Sum.inl))=kvs.any λkv=>decide (kv.1=k)
 | _,_,.nil=>rfl
 | p::r,q::t,.cons e u=>by
  rw[X1,X1,aI.any k u,e.1,o_]
theorem aI.repl(k:Wx){d:D}{v:V}(rv:Rep Γ ι H d v):∀{kvs:WQ} {xs:WO},aI Γ ι H kvs xs->aI Γ ι H (kvs.map λkv=>if kv.1=k then(kv.1,d) else kv) (xs.map λkv=>if kv.1=k.map Sum.inl then(kv.1,v) else kv)
 | _,_,.nil=>.nil
 | p::r,q::t,.cons e u=>by
  rw[ZK,ZK];refine .cons ?_ (aI.repl k rv u)
  by_cases h:p.1=k
  ·rw[Zf h,Zf (by rw[e.1,h])];exact⟨e.1,rv⟩
  ·rw[Zg h,Zg λz=>h (om (by rw[<- e.1,z]))];exact e
theorem aI.snoc{k:Wx}{d:D}{v:V}(rv:Rep Γ ι H d v):∀{kvs:WQ} {xs:WO},aI Γ ι H kvs xs->aI Γ ι H (kvs++[(k,d)]) (xs++[(k.map Sum.inl,v)])
 | _,_,.nil=>.cons ⟨rfl,rv⟩ .nil
 | _::_,_::_,.cons e u=>.cons e (aI.snoc rv u)
theorem aI.put{k:Wx}{d:D}{v:V}(rv:Rep Γ ι H d v){kvs:WQ}{xs:WO}(r:aI Γ ι H kvs xs):aI Γ ι H (iF kvs k d) (putK xs (k.map Sum.inl) v):=by
 unfold iF putK;rw[aI.any k r];split
 ·exact aI.repl k rv r
 ·exact aI.snoc rv r
theorem uC{a:Addr}{xs ys:WO}(h:H a=some (.dT xs)):∀b zs,H b=some (.tup zs)->upd H a (.dT ys) b=some (.tup zs):=λb zs e=>by
 rw[aC]; exact e;rintro rfl; rw[h] at e; cases e
theorem rF{a:Addr}{xs ys:WO}(h:H a=some (.dT xs)):∀b o u,H b=some (.frz o u)->upd H a (.dT ys) b=some (.frz o u):=λb o u e=>by
 rw[aC]; exact e;rintro rfl; rw[h] at e; cases e
theorem Rep.fj{a:Addr}{xs ys:WO}(h:H a=some (.dT xs)){d:D}{v:V}(r:Rep Γ ι H d v):Rep Γ ι (upd H a (.dT ys)) d v:=r.move (Z4 _) (uC h) (rF h)
theorem aq.dct(hS:aq Γ ι H S){l:Nat}{kvs:WQ}(h:S[l]?=some (.dct kvs)):∃a xs,ι[l]?=some a/\H a=some (.dT xs)/\aI Γ ι H kvs xs:=by
 obtain⟨a,ha,xs,hx,r⟩:=hS.cell l _ h;exact⟨a,xs,ha,hx,r⟩
theorem aq.fj(hS:aq Γ ι H S){l:Nat}{a:Addr}{xs ys:WO}{es kvs:WQ}(hl:S[l]?=some (.dct es))(ha:ι[l]?=some a)(h:H a=some (.dT xs))(r:aI Γ ι H kvs ys):aq Γ ι (upd H a (.dT ys)) (S.set l (.dct kvs)):=by
 refine⟨by rw[Xr]; exact hS.len,hS.nd,λm c hm=>?_⟩
 by_cases e:m=l
 ·subst e;rw[Xm (Zh.mp hl).1] at hm;cases hm;exact⟨a,ha,ys,bZ,Paired.imp (λ_ _ q=>⟨q.1,Rep.fj h q.2⟩) r⟩
 ·rw[ZZ (Ne.symm e)] at hm;obtain⟨b,hb,c1⟩:=hS.cell m c hm;have hne:b≠a:=λz=>e (gB hS.nd hb (z▸ha))
  refine⟨b,hb,?_⟩
  cases c with
  | lst zs=>obtain⟨ws,hw,rw'⟩:=c1; exact⟨ws,by rw[aC hne]; exact hw,Paired.imp (λ_ _ q=>Rep.fj h q) rw'⟩
  | dct kvs=>obtain⟨ws,hw,rw'⟩:=c1; exact⟨ws,by rw[aC hne]; exact hw,Paired.imp (λ_ _ q=>⟨q.1,Rep.fj h q.2⟩) rw'⟩
  | fdc kvs=>obtain⟨ws,⟨o,hw⟩,rw'⟩:=c1; exact⟨ws,⟨o,by rw[aC hne]; exact hw⟩,Paired.imp (λ_ _ q=>⟨q.1,Rep.fj h q.2⟩) rw'⟩
theorem Ext.fj{a:Addr}{xs ys:WO}(h:H a=some (.dT xs))(hm:a∈ι):Ext ι ι H (upd H a (.dT ys)) :=
 ⟨Z4 _,uC h,rF h,λb o e n=>by
  have hne:b≠a:=λz=>n (by rw[z]; exact hm)
  rw[aC hne]; exact e,λ_ h n=>absurd h n⟩
theorem aq.Im(hS:aq Γ ι H S){p:Addr}(hp:H p=none):aq Γ (ι++[p]) (upd H p (.dT [])) (S++[.dct []]):=by
 have e:Ext ι (ι++[p]) H (upd H p (.dT [])):=Ext.more hp;refine⟨by simp[hS.len],QZ.mpr ⟨hS.nd,by simp,?_⟩,λl c h=>?_⟩
 ·intro a ha b hb;have:b=p:=by simpa using hb
  subst this;exact λz=>hS.new hp (z▸ha)
 ·by_cases hl:l<S.length
  ·rw[ZE hl] at h;obtain⟨a,ha,c1⟩:=hS.cell l c h;exact⟨a,gh e.pre ha,c1.ext e λys hy=>by rw[aC (br hy hp)]; exact hy⟩
  ·rw[ZN (by omega)] at h
   have hl2:l-S.length=0:=by
    have:=(Zh.mp h).1;simp at this; omega
   rw[hl2] at h;have h':(Cell.dct [])=c:=by simpa using h
   subst h';exact⟨p,by rw[ZN (by rw[hS.len]; omega),hS.len,hl2]; rfl,[],bZ,.nil⟩
theorem AN{pos:Pos}:PE X (.Dict [] [] pos) (tM Γ xw λ_=>alloc (.dct [])) :=
 PE.imp BI λσ H Q h=>by
  obtain⟨σd,ι,S,he,hs,ho⟩:=h;exact λp hp=>ho (ι++[p]) _ (Ext.more hp) (hs.Im hp) _ (.loc (by rw[<- hs.len]; simp))
theorem Out.fE{l:Nat}{f:List (List Int×D)->M D}{k:D->af->List Addr->Hp->Prop}(h:Out Γ xw ι H (EV.fE l f S) k):∃kvs,S[l]?=some (.dct kvs)/\Out Γ xw ι H (f kvs S) k:=by
 have e:EV.fE l f S=match S[l]? with|some (.dct kvs)=>f kvs S|_=>.bad:=rfl
 rw[e] at h
 cases q:S[l]? with
 | none=>rw[q] at h; exact h.elim
 | some c =>
  rw[q] at h
  cases c with
  | dct kvs=>exact⟨kvs,rfl,h⟩
  | lst ds=>exact h.elim
  | fdc kvs=>exact h.elim
end
end EV

namespace L2
open PySem PySem.Spec PyProof.Rows
def bI(h:Heap)(d:Addr)(es:Array DictEntry)(ep:Nat):Prop:=∃o,h.get? d=some o/\o.ExactDict/\o.data=.dict es ep
section
variable{prog:WC}{w:WG}{A:Around}{E:Wv}{s:WA}{d it:Addr}{es:Array DictEntry}{ep i:Nat}
theorem bI.typeIs(x:bI s.heap d es ep):s.TypeIs (.ref d) "dict":=by
 obtain⟨o,ho,hx,_⟩:=x;exact⟨o,ho,hx.1⟩
theorem Hx{Q:Wv}(hd:(d==sysModules)=false)(hm:bI s.heap d es ep)
  (hQ:Q (.ref s.heap.objs.size) { s with heap:=s.heap.push { cls:=.type "dict_keyiterator",data:=.fields #[.ref d,.int 0 0,.int es.size 0,.int ep 0] } }):wpAny (model prog w) A (pyIter (.ref d)) Q E s:=by
 have hT:=hm.typeIs;obtain⟨o,ho,hx,hdat⟩:=hm;refine Q3 hT F.slot_dict_iter (ZU F.slot_dict_iter hT F.entry_dict_iter ?_ (F.args_dict_iter_1 _));have hs:Builtin.Dict.showsAll d=pure ():=by unfold Builtin.Dict.showsAll; rw[Zg (by rw[hd]; exact Zz)]
 refine Za (Za (wpAny_notOrdered_dict hT (Ze ?_)));show wpAny _ _ (Builtin.Dict.showsAll d>>=_) _ _ s;rw[hs];refine Za (Ze (Za (wpAny_dictEntries ho hdat (Za (wpAny_dictEpoch ho hdat ?_)))));exact Za (Xb (Ze ⟨_,rfl,"dict_keyiterator",_,⟨_,Zv _ rfl,rfl⟩,F.slot_dict_keyiterator_next.lookup,hQ⟩))
open PySem.W (Looks)
theorem s_{M:Model}{h:Heap}{a:Addr}{o:Obj}{vs:WJ}(ho:h.get? a=some o)(hd:o.data=.fields vs):Looks M h (fieldsOf (.ref a)) vs:=λA Q E s k q=>wpAny_fieldsOf (k _ _ ho) hd q
theorem uA{M:Model}{h:Heap}(x:bI h d es ep):Looks M h (dictEntries d) es:=λA Q E s k q=>let⟨o,ho,_,hd⟩:=x; wpAny_dictEntries (k _ _ ho) hd q
theorem u6{M:Model}{h:Heap}(x:bI h d es ep):Looks M h (dictEpoch d) ep:=λA Q E s k q=>let⟨o,ho,_,hd⟩:=x; wpAny_dictEpoch (k _ _ ho) hd q
theorem qf{nm:String}{A':Around}{R:Fin->Shared->Prop}{E':Wv}{x:Value}(o:Obj)(ho:s.heap.get? it=some o)(hd:o.data=.fields #[.ref d,.int i 0,.int es.size 0,.int ep 0])(hm:bI s.heap d es ep)(hi:i<es.size)
  (hB:nm = "dict_keyiterator"/\x=es[i].key\/nm = "dict_valueiterator"/\x=es[i].val)
  (LN:∀h':Heap,(∃o',h'.get? it=some o'/\o'.cls=o.cls)->Looks (model prog w) h' (typeNameOfWhole (.ref it)) nm)
  (LO:∀(h':Heap) (types:List String),(∃o',h'.get? it=some o'/\o'.cls=o.cls)->Looks (model prog w) h' (Builtin.Dict_items.isOneOf (.ref it) types) (types.any λt=>[Value.type nm,Value.type "object"].contains (.type t)))
  (hQ:R (.done (.ret x)) { s with heap:=s.heap.update it (Obj.mapFields (·.setIfInBounds 1 (rawInt ((i:Int)+1)))) }) :
  (nm = "dict_keyiterator"->wpAny (model prog w) A' (Builtin.«dict_keyiterator.__next__» ⟨[.ref it],[]⟩) R E' s)/\(nm = "dict_valueiterator"->wpAny (model prog w) A' (Builtin.«dict_valueiterator.__next__» ⟨[.ref it],[]⟩) R E' s):=by
 have L1:=s_ (M:=model prog w) ho hd;have L2:=uA (M:=model prog w) hm;have L3:=u6 (M:=model prog w) hm;have L4:=LN s.heap ⟨o,ho,rfl⟩;have L5:=λty=>LO s.heap ty ⟨o,ho,rfl⟩
 have L6:=λty=>LO (s.heap.update it (Obj.mapFields (·.setIfInBounds 1 (rawInt ((i:Int)+1))))) ty ⟨_,Z7 _ ho (Qw (XU hd _)),Q2 ..⟩
 obtain⟨h0,g,dr,tk,os⟩:=s;have h0':¬((i:Int)<0):=by omega
 refine⟨λhn=>?_,λhn=>?_⟩<;>subst hn
 all_goals
  refine Za (Ze (Za (Za (Za (L4.at (Ze (Za (L1.at ?_))))))));simp only[show Builtin.Dict_items.ownsTuple "dict_keyiterator" = false from by decide,show Builtin.Dict_items.ownsTuple "dict_valueiterator" = false from by decide,Zx,ZT];show wpAny _ _ (if(Value.ref d==Value.none)=true then _ else _) _ _ _;rw[Zg (show ¬((Value.ref d==Value.none)=true) from Zz)];refine Za (Ze (Za (L2.at ?_)));rw[Zg (by simp)];refine Za (Ze (Za (L3.at ?_)));rw[Zg (by simp)];refine Ze ?_;simp only[h0',ZT,ZQ,Zr hi];refine Za (Za (L4.at (Ze (Za ((L5 _).at ?_)))));refine Za (Qh ho hd (by simp[show Builtin.Dict_items.ownsTuple "dict_keyiterator" = false from by decide,show Builtin.Dict_items.ownsTuple "dict_valueiterator" = false from by decide]) ?_);refine Za (XE ?_);rcases hB with⟨hb,rfl⟩|⟨hb,rfl⟩
  all_goals first|exact absurd hb (by decide)|exact Za ((L6 _).at (Ze (Ze hQ)))|exact Za ((L6 _).at (Za ((L6 _).at (Ze (Ze hQ)))))
theorem wN{nm:String}{A':Around}{R:Fin->Shared->Prop}{E':Wv}(hh:A'.handled=none)(o:Obj)(ho:s.heap.get? it=some o)(hd:o.data=.fields #[.ref d,.int i 0,.int es.size 0,.int ep 0])(hm:bI s.heap d es ep)(hi:es.size<=i)
  (LN:Looks (model prog w) s.heap (typeNameOfWhole (.ref it)) nm)
  (hQ:∀e h',Heap.ExtBut it s.heap h'->({ s with heap:=h' }:Shared).TypeIs e "StopIteration"->E' e { s with heap:=h' }) :
  (nm = "dict_keyiterator"->wpAny (model prog w) A' (Builtin.«dict_keyiterator.__next__» ⟨[.ref it],[]⟩) R E' s)/\(nm = "dict_valueiterator"->wpAny (model prog w) A' (Builtin.«dict_valueiterator.__next__» ⟨[.ref it],[]⟩) R E' s):=by
 have L1:=s_ (M:=model prog w) ho hd;have L2:=uA (M:=model prog w) hm;have L3:=u6 (M:=model prog w) hm;obtain⟨h0,g,dr,tk,os⟩:=s;have h0':¬((i:Int)<0):=by omega
 refine⟨λhn=>?_,λhn=>?_⟩<;>subst hn
 all_goals
  refine Za (Ze (Za (Za (Za (LN.at (Ze (Za (L1.at ?_))))))));simp only[show Builtin.Dict_items.ownsTuple "dict_keyiterator" = false from by decide,show Builtin.Dict_items.ownsTuple "dict_valueiterator" = false from by decide,Zx,ZT];show wpAny _ _ (if(Value.ref d==Value.none)=true then _ else _) _ _ _;rw[Zg (show ¬((Value.ref d==Value.none)=true) from Zz)];refine Za (Ze (Za (L2.at ?_)));rw[Zg (by simp)];refine Za (Ze (Za (L3.at ?_)));rw[Zg (by simp)];refine Ze ?_;simp only[h0',ZT,ZQ,X5 hi];refine Za (Za (LN.at (Ze ?_)));refine Za (Qh ho hd (by simp[show Builtin.Dict_items.ownsTuple "dict_keyiterator" = false from by decide,show Builtin.Dict_items.ownsTuple "dict_valueiterator" = false from by decide]) ?_);refine Za ?_;simp only[newExc,newTuple];refine Za (Xb ?_ (by size_fits));refine Za (m:=firstArgMember _ _) (Qg (a:=Value.none) (by first|rfl|(simp only[firstArgMember]; rfl)) ?_);refine Xb ?_ (by size_fits);simp only[raiseNew];refine Za (wpAny_handled ?_);rw[hh];exact Za (Ze (wpAny_throw (hQ (.ref _) _ (((Xg ..).extBut.push _).push _) ⟨_,Zv _ rfl,rfl⟩)))
theorem GB{Q:Option Value->Shared->Prop}(hit:s.heap.IsKeyIter it d i es.size ep)(hm:bI s.heap d es ep)(hi:i<es.size)
  (hQ:∀h',h'.IsKeyIter it d (i+1) es.size ep->Heap.SameBut it s.heap h'->Q (some es[i].key) { s with heap:=h' }):wpAny (model prog w) A (pyNext (.ref it)) Q E s:=by
 obtain⟨o,ho,hc,hd⟩:=id hit;unfold pyNext
 refine Za (XG (ZW (name:=Str.ofString "__next__") hit.typeIs X3
  (ZU X3 hit.typeIs F.entry_dict_keyiterator_next ?_ (F.args_dict_keyiterator_next_1 _))))
 refine(qf (nm:="dict_keyiterator") o ho hd hm hi (.inl ⟨rfl,rfl⟩) (λh' ⟨o',g1,g2⟩ A Q E s k q=>wpAny_typeNameOfWhole_keyiter ⟨o',k _ _ g1,g2.trans hc⟩ q) (λh' ty ⟨o',g1,g2⟩ A Q E s k q=>wpAny_isOneOf_keyiter ⟨o',k _ _ g1,g2.trans hc⟩ q) ?_).1 rfl;exact⟨_,rfl,Ze (hQ _ ⟨_,Z7 _ ho (Qw (XU hd _)),(Q2 ..).trans hc,by rw[XU hd]; simp[rawInt]⟩ (Xg ..))⟩
theorem Ai{Q:Option Value->Shared->Prop}(hh:A.handled=none)(hit:s.heap.IsKeyIter it d i es.size ep)(hm:bI s.heap d es ep)(hi:es.size<=i)
  (hQ:∀h',Heap.ExtBut it s.heap h'->Q none { s with heap:=h' }):wpAny (model prog w) A (pyNext (.ref it)) Q E s:=by
 obtain⟨o,ho,hc,hd⟩:=id hit;unfold pyNext
 refine Za (XG (ZW (name:=Str.ofString "__next__") hit.typeIs X3
  (ZU X3 hit.typeIs F.entry_dict_keyiterator_next ?_ (F.args_dict_keyiterator_next_1 _))))
 refine(wN (nm:="dict_keyiterator") (show A.in1.handled=none from hh) o ho hd hm hi (λA Q E s k q=>wpAny_typeNameOfWhole_keyiter ⟨o,k _ _ ho,hc⟩ q) λe h' eb ht=>?_).1 rfl;refine Za (Qk (T:="StopIteration") (b:=true) ht QT ?_);exact Ze (hQ _ eb)
theorem FZ{Q:Option Value->Shared->Prop}(hit:s.heap.IsValIter it d i es.size ep)(hm:bI s.heap d es ep)(hi:i<es.size)
  (hQ:∀h',h'.IsValIter it d (i+1) es.size ep->Heap.SameBut it s.heap h'->Q (some es[i].val) { s with heap:=h' }):wpAny (model prog w) A (pyNext (.ref it)) Q E s:=by
 obtain⟨o,ho,hc,hd⟩:=id hit;unfold pyNext
 refine Za (XG (ZW (name:=Str.ofString "__next__") hit.typeIs XY
  (ZU XY hit.typeIs F.entry_dict_valueiterator_next ?_ (F.args_dict_valueiterator_next_1 _))))
 refine(qf (nm:="dict_valueiterator") o ho hd hm hi (.inr ⟨rfl,rfl⟩) (λh' ⟨o',g1,g2⟩ A Q E s k q=>wpAny_typeNameOfWhole_valiter ⟨o',k _ _ g1,g2.trans hc⟩ q) (λh' ty ⟨o',g1,g2⟩ A Q E s k q=>wpAny_isOneOf_valiter ⟨o',k _ _ g1,g2.trans hc⟩ q) ?_).2 rfl;exact⟨_,rfl,Ze (hQ _ ⟨_,Z7 _ ho (Qw (XU hd _)),(Q2 ..).trans hc,by rw[XU hd]; simp[rawInt]⟩ (Xg ..))⟩
theorem zQ{Q:Option Value->Shared->Prop}(hh:A.handled=none)(hit:s.heap.IsValIter it d i es.size ep)(hm:bI s.heap d es ep)(hi:es.size<=i)
  (hQ:∀h',Heap.ExtBut it s.heap h'->Q none { s with heap:=h' }):wpAny (model prog w) A (pyNext (.ref it)) Q E s:=by
 obtain⟨o,ho,hc,hd⟩:=id hit;unfold pyNext
 refine Za (XG (ZW (name:=Str.ofString "__next__") hit.typeIs XY
  (ZU XY hit.typeIs F.entry_dict_valueiterator_next ?_ (F.args_dict_valueiterator_next_1 _))))
 refine(wN (nm:="dict_valueiterator") (show A.in1.handled=none from hh) o ho hd hm hi (λA Q E s k q=>wpAny_typeNameOfWhole_valiter ⟨o,k _ _ ho,hc⟩ q) λe h' eb ht=>?_).2 rfl;refine Za (Qk (T:="StopIteration") (b:=true) ht QT ?_);exact Ze (hQ _ eb)
theorem BG{v:Addr}{Q:Wv}(hv:s.heap.IsValuesView v d)(hm:bI s.heap d es ep)
  (hQ:Q (.ref s.heap.objs.size) { s with heap:=s.heap.push { cls:=.type "dict_valueiterator",data:=.fields #[.ref d,.int 0 0,.int es.size 0,.int ep 0] } }):wpAny (model prog w) A (pyIter (.ref v)) Q E s:=by
 obtain⟨ov,hov,hcv,hdv⟩:=id hv;obtain⟨o,ho,hx,hdat⟩:=hm;refine Q3 hv.typeIs F.slot_dict_values_iter (ZU F.slot_dict_values_iter hv.typeIs F.entry_dict_values_iter ?_ (F.args_dict_values_iter_1 _));refine Za (Ze (Za (Za (Z9 hov hdv (x:=.ref d) rfl (Ze ?_)))));refine Za (Za (wpAny_dictEntries ho hdat (Za (wpAny_dictEpoch ho hdat ?_))));simp only[show Builtin.Dict_items.ownsTuple "dict_valueiterator" = false from by decide,Zx,ZT];exact Xb (Ze ⟨_,rfl,"dict_valueiterator",_,⟨_,Zv _ rfl,rfl⟩,F.slot_dict_valueiterator_next.lookup,hQ⟩)
end
end L2

namespace L2
open PySem PySem.Spec PyProof.Rows
theorem pF{α β:Type}{R:α->β->Prop}:∀{as:List α} {bs:List β} {i:Nat} {a:α},Paired R as bs->as[i]?=some a->∃b,bs[i]?=some b/\R a b
 | _,_,_,_,.nil,e=>by simp at e
 | _,_,0,_,.cons r _,e=>by simp at e; subst e; exact⟨_,rfl,r⟩
 | _,_,i+1,a,.cons _ t,e=>by
  obtain⟨b,h1,h2⟩:=pF (i:=i) (a:=a) t (by simpa using e);exact⟨b,by simpa using h1,h2⟩
section
variable{X:Cx}{pins:Ww}{σ:St}{H:Hp}{s:WA}{a:Addr}{xs:WO}
theorem lu{P:WC}{w:WG}{h:Heap}(ok:aY P w H h a (.dT xs)):xs.length<=sizeLine/\(a==sysModules)=false/\∃ys o es ep,KT H xs ys/\h.get? a=some o/\o.ExactDict/\o.data=.dict es ep/\es.toList=ys.map (entryOfKey (tupleKind (bL P w))):=by
 obtain⟨z,y,ys,r,o,es,ep,h1,h2,h3,h4,_⟩:=ok;exact⟨z,y,ys,o,es,ep,r,h1,h2,h3,h4⟩
theorem k6{P:WC}{w:WG}{ys:List (List Key×Addr×Value)}{es:Array DictEntry}(r:KT H xs ys)(e:es.toList=ys.map (entryOfKey (tupleKind (bL P w)))):es.size=xs.length:=by
 rw[<- ZH,e,Zc]; exact(Q5 r).symm
theorem we{P:WC}{w:WG}{ys:List (List Key×Addr×Value)}{es:Array DictEntry}(r:KT H xs ys)(e:es.toList=ys.map (entryOfKey (tupleKind (bL P w)))){i:Nat}(hi:i<es.size) :
  ∃k v b u,xs[i]?=some (k,v)/\H b=some (.tup (k.map kV))/\RelV v u/\es[i].key=.ref b/\es[i].val=u:=by
 have hi':i<xs.length:=by rw[<- k6 r e]; exact hi
 obtain⟨q,hq,h1,h2,h3⟩:=pF r (Zb hi');have he:es.toList[i]?=some (entryOfKey (tupleKind (bL P w)) q):=by rw[e,ZG,hq]; rfl
 have he2:es[i]=entryOfKey (tupleKind (bL P w)) q:=by
  rw[ZX,Zr hi] at he;exact Zy he
 exact⟨xs[i].1,xs[i].2,q.2.1,q.2.2,Zb hi',h2,h3,by rw[he2]; rfl,by rw[he2]; rfl⟩
noncomputable def Itd(o:Obj)(a:Addr)(xs:WO):It :=
 ⟨λi H=>i<xs.length/\H a=some (.frz o (.dT xs)),λi H x H'=>H'=H/\∃k v b,xs[i]?=some (k,v)/\x=.ref b/\H b=some (.tup (k.map kV)),λi H=>xs.length<=i/\H a=some (.frz o (.dT xs))⟩
theorem vU{P:WC}{w:WG}{h:Heap}{o:Obj}{es:Array DictEntry}{ep:Nat}(ok:HOk P w H h)(e:H a=some (.frz o (.dT xs)))(hx:o.ExactDict)(hd:o.data=.dict es ep):bI h a es ep/\∃ys,KT H xs ys/\es.toList=ys.map (entryOfKey (tupleKind (bL P w))):=by
 obtain⟨g1,g2⟩:=(show h.get? a=some o/\aY P w H h a (.dT xs) from ok a _ e)
 obtain⟨_,_,ys,o',es',ep',r,h1,h2,h3,h4⟩:=lu g2;rw[g1] at h1; cases h1;rw[hd] at h3; cases h3;exact⟨⟨o,g1,hx,hd⟩,ys,r,h4⟩
theorem Bg{P:WC}{w:WG}{K:Wy}{tg:Expr}(a it:Addr)(xs:WO){o:Obj}{es:Array DictEntry}{ep:Nat}(hx:o.ExactDict)(hd:o.data=.dict es ep):Turn P w K tg (Itd o a xs) [it] it (λi h=>h.IsKeyIter it a i es.size ep) where
 mem:=by simp
 obj:=λi h st b hb=>by
  have e:b=it:=by simpa using hb
  subst e;obtain⟨o,e,c,d⟩:=st;exact⟨o,e,λv z=>by rw[d] at z; cases z⟩
 keep:=λi h h' st k=>st.at λo e=>k it (by simp) o e
 item:=by
  intro X hP hw hK hc i pins s σ H E I hf st hg;subst hP hw hK;obtain⟨hi,hq⟩:=hg;obtain⟨rd,ys,r,he⟩:=vU I.hok hq hx hd;have hi':i<es.size:=by rw[k6 r he]; exact hi
  obtain⟨k,v,b,u,g1,g2,g3,g4,g5⟩:=we r he hi';obtain⟨f0,f1,f2,f3,f4,f5⟩:=hf it (by simp);refine GB st rd hi' λh' st' sb=>?_
  have I1:Inv X pins σ H { s with heap:=h' }:=I.turned (t':=s.toks) (λb o hb e=>(sb.2 b hb).trans e) f0 f1 f3 f4 f5;obtain⟨oi,e,c,dd⟩:=id st';rw[g4];exact⟨.ref b,rfl,jD (s:={ s with heap:=h' }) e c dd (by decide) ⟨.ref b,H,I1,rfl,⟨rfl,k,v,b,g1,rfl,g2⟩,st',λb hb=>(hf b hb).1⟩⟩
 done:=by
  intro X hP hw hK hc i pins s σ H E I hf st hg;subst hP hw hK;obtain⟨hi,hq⟩:=hg;obtain⟨rd,ys,r,he⟩:=vU I.hok hq hx hd;obtain⟨f0,f1,f2,f3,f4,f5⟩:=hf it (by simp);exact Ai (I.ok.hd hc) st rd (by rw[k6 r he]; exact hi) λh' eb=>⟨rfl,I.turned (t':=s.toks) (λb o hb e=>eb b o hb e) f0 f1 f3 f4 f5⟩
 self:=λ_ _ _ _ _ st h=>wpAny_pyIter_keyiter st h
theorem Inv.g_(I:Inv X pins σ H s)(e:H a=some (.dT xs)){o:Obj}(ho:s.heap.get? a=some o):Inv X pins σ (upd H a (.frz o (.dT xs))) s:=by
 have ok:aY X.prog X.w H s.heap a (.dT xs):=I.hok a _ e;refine I.write (x:=a) (e:=a) (o:=.frz o (.dT xs)) (h':=s.heap) (t':=s.toks) (by rw[e]; trivial) (.inl rfl) (λ_ _ _ q=>q) ⟨o,ho⟩ ⟨ho,?_⟩;obtain⟨z,y,ys,r,rest⟩:=ok;refine⟨z,y,ys,KT.keeps r λb zs q=>?_,rest⟩;rw[aC]; exact q;rintro rfl; rw[e] at q; cases q
noncomputable def iD(tl:TE):TI:=λσ H R=>tl σ H λx H1=>∃a xs,x=.ref a/\((H1 a=some (.dT xs)/\∀o,R (Itd o a xs) (upd H1 a (.frz o (.dT xs))))\/∃o,H1 a=some (.frz o (.dT xs))/\R (Itd o a xs) H1)
theorem BJ{tg l:Expr}{tl:TE}(hl:PE X l tl):PI X tg l (iD tl):=by
 intro pins s σ H R I h;refine thn (hl pins s σ H _ I h) λv s1 ⟨x,H1,I1,r1,q1⟩=>?_
 obtain⟨a,xs,e,q1⟩:=q1;subst e;cases r1
 have fin:∀{H2:Hp} {o:Obj},Inv X pins σ H2 s1->H2 a=some (.frz o (.dT xs))->R (Itd o a xs) H2->wpAny (model X.prog X.w) X.A (pyIter (.ref a)) (PIE X pins σ tg R) X.xe s1:=λ{H2 o} I2 h2 q=>by
  obtain⟨g1,g2⟩:=(show s1.heap.get? a=some o/\aY X.prog X.w H2 s1.heap a (.dT xs) from I2.hok a _ h2)
  obtain⟨_,hsys,ys,o',es,ep,r,h1,hx,hd,h4⟩:=lu g2;rw[g1] at h1; cases h1;refine Hx hsys ⟨o,g1,hx,hd⟩ ?_;refine⟨s1.heap.objs.size,[s1.heap.objs.size],_,_,H2,rfl,I2.kept (t':=s1.toks) λb o e=>Zd _ e,Bg a _ xs hx hd,⟨_,Zv _ rfl,rfl,rfl⟩,λb hb=>?_,q⟩;have e:b=s1.heap.objs.size:=by simpa using hb
  subst e;exact I2.fZ (Zl _) (I2.hok.fresh (Zl _))
 rcases q1 with⟨e,q⟩|⟨o,e,q⟩
 ·obtain⟨_,_,ys,o,es,ep,r,h1,_⟩:=lu (show aY X.prog X.w H1 s1.heap a (.dT xs) from I1.hok a _ e);exact fin (I1.g_ e h1) bZ (q o)
 ·exact fin I1 e q
end
end L2

namespace L2
open PySem PySem.Spec PyProof.Rows PySem.W
section
variable{prog:WC}{w:WG}{A:Around}{E:Wv}{s:WA}{d r:Addr}{es:Array DictEntry}{ep:Nat}
theorem DT{Q:Wv}(hd:(d==sysModules)=false)(hm:bI s.heap d es ep)
  (hQ:Q (.ref s.heap.objs.size) { s with heap:=s.heap.push { cls:=.type "dict_values",data:=.fields #[.ref d] } }):wpAny (model prog w) A (call (.builtin "dict.values") [.ref d]) Q E s:=by
 have hT:=hm.typeIs;refine ZU PySem.F.slot_dict_values hT PySem.F.entry_dict_values ?_ (PySem.F.args_dict_values_1 _);refine Za ?_;unfold Builtin.Dict.noArgs;refine Za (wpAny_notOrdered_dict hT ?_);show wpAny _ _ (pure d) _ _ s;refine Ze ?_;show wpAny _ _ (Builtin.Dict.showsAll d>>=_) _ _ s;unfold Builtin.Dict.showsAll;rw[Zg (by rw[hd]; exact Zz)];refine Za (Ze ?_);exact Za (Xb (Ze ⟨_,rfl,hQ⟩))
theorem bI.at{h h':Heap}(x:bI h d es ep)(k:∀o,h.get? d=some o->h'.get? d=some o):bI h' d es ep:=let⟨o,e,y⟩:=x; ⟨o,k o e,y⟩
theorem C6(hh:A.handled=none)(I d:Addr)(hne:d≠I)(es:Array DictEntry)(ep:Nat) :
  Walks prog w A I [I,d] [I] es.size (λi v=>∃h:i<es.size,v=es[i].val) (λi h=>h.IsValIter I d i es.size ep/\bI h d es ep) where
 sub:=λb hb=>by simp at hb; simp[hb]
 frame:=λ_ _ _ st hk=>⟨st.1.at λo e=>hk I (by simp) o e,st.2.at λo e=>hk d (by simp) o e⟩
 item:=λi s Q E hi st hQ=>FZ st.1 st.2 hi λh' hit' hs'=>hQ _ h' s.toks ⟨hi,rfl⟩ ⟨hit',st.2.at λo e=>hs'.extBut d o hne e⟩ λb o hb e=>hs'.extBut b o (λh=>hb (by simp[h])) e
 done:=λs Q E st hQ=>zQ hh st.1 st.2 (Zl _) λh' he'=>hQ h' s.toks λb o hb e=>he' b o (λh=>hb (by simp[h])) e
 self:=λ_ _ _ _ st hQ=>wpAny_pyIter_valiter st.1 hQ
theorem CZ:KdlSrc prog w "dict_values" r d es.size (λi v=>∃h:i<es.size,v=es[i].val) (λh=>h.IsValuesView r d/\bI h d es ep) where
 type:=λ_ hm=>hm.1.typeIs
 there:=λ_ hm=>⟨let⟨_,ho,_⟩:=hm.1; Zp ho,let⟨_,ho,_⟩:=hm.2; Zp ho⟩
 keep:=λ_ _ hm hk=>⟨let⟨o,ho,x⟩:=hm.1; ⟨o,hk r (.inl rfl) o ho,x⟩,hm.2.at λo e=>hk d (.inr rfl) o e⟩
 notList:=by decide
 notTuple:=by decide
 hint:=λ_ _ _ _ hm hq=>kdl_hint_values hm.1.typeIs hq
 iter:=λ_ _ hh hm=>⟨_,_,(λ_ _ hq=>BG hm.1 hm.2 hq),C6 hh _ d (ZI (let⟨_,ho,_⟩:=hm.2; Zp ho)) es ep,⟨⟨_,Zv _ rfl,rfl,rfl⟩,hm.2.at λo e=>Zd _ e⟩⟩
end
noncomputable def xV(to:TE):TE:=λσ H Q=>to σ H λx H1=>∃a xs,x=.ref a/\(H1 a=some (.dT xs)\/∃o,H1 a=some (.frz o (.dT xs)))/\∀p,H1 p=none->Q (.ref p) (upd H1 p (.lst (xs.map (·.2))))
theorem Paired.uv{α β:Type}{R:α->β->Prop}:∀{xs:List α} {ys:List β},xs.length=ys.length->(∀(i:Nat) x y,xs[i]?=some x->ys[i]?=some y->R x y)->Paired R xs ys
 | [],[],_,_=>.nil
 | [],_::_,h,_=>by simp at h
 | _::_,[],h,_=>by simp at h
 | x::xs,y::ys,h,f=>.cons (f 0 x y rfl rfl) (Paired.uv (by simpa using h) λi a b e1 e2=>f (i+1) a b (by simpa using e1) (by simpa using e2))
section
variable{X:Cx}{x:Str}{p pos cpos apos:Pos}{o:Expr}{to:TE}
theorem EX(hc:X.calm=true)(hg:Gl X x)(hm:X.mg x=none)(hv:bootBuiltins x=some (.type "list"))(ho:PE X o to)(hn:x≠"__name__")(hdb:(x==("__debug__" : Str))=false)
  (hbase:attributeBase o "values" X.env (eval o X.env)=eval o X.env) (hline:(apos.endLine==cpos.line)=true) :
  PE X (.Call (.Name x p) [.Call (.Attribute o "values" apos) [] [] cpos] [] pos) (xV to):=by
 intro pins s σ H Q I h;refine XQ (ef I hg hm hv ?_ hn hdb);refine Xs (e:=.Call (.Attribute o "values" apos) [] [] cpos) (rest:=[]) ?_ rfl rfl;refine QM ?_;refine wpAny_Call_method0_late hbase hline (thn (ho pins s σ H _ I h) λu s1 ⟨y,H1,I1,ry,a,xs,ey,hd,q1⟩=>?_);subst ey;obtain rfl:u=Value.ref a:=ry
 have ok:aY X.prog X.w H1 s1.heap a (.dT xs):=by
  rcases hd with e|⟨ob,e⟩
  ·exact I1.hok a _ e
  ·exact(show s1.heap.get? a=some ob/\aY X.prog X.w H1 s1.heap a (.dT xs) from I1.hok a _ e).2
 obtain⟨hz,hsys,ys,ob,es,ep,kt,h1,hx,hdt,h4⟩:=lu ok;have rd:bI s1.heap a es ep:=⟨ob,h1,hx,hdt⟩
 refine⟨"dict","dict.values",PySem.F.plainAttrs_dict,PySem.F.slot_dict_values,PySem.F.type_dict_values,rd.typeIs,λb q=>?_,?_⟩
 ·cases q;exact⟨ob,h1,hx.2.1⟩
 ·refine Calls.callWith_builtin rfl (PySem.evalArgs_none ?_);refine DT hsys rd ?_;refine QW ?_;have hsz:=k6 kt h4;refine kdl_call (CZ (es:=es) (ep:=ep)) (I1.ok.hd hc) ⟨⟨_,Zv _ rfl,rfl,rfl⟩,rd.at λo e=>Zd _ e⟩ (by rw[hsz]; exact hz) λh' tk acc' c' hk hD hacc=>?_
  have kp:∀b o,s1.heap.get? b=some o->h'.get? b=some o:=λb o e=>hk b o (Zd _ e)
  have hle:s1.heap.objs.size<=(s1.heap.push { cls:=.type "dict_values",data:=.fields #[.ref a] }).objs.size:=by rw[Z1]; exact Qq _
  have vals:Vals (xs.map (·.2)) acc'.toList:=by
   refine Paired.uv (by rw[Zc]; exact hsz.symm.trans (hacc.1.symm.trans ZH.symm)) λi v u e1 e2=>?_
   rw[ZX] at e2;obtain⟨hi,rfl⟩:=hacc.2 i u e2;obtain⟨k,v',b,u',g1,_,g3,_,g5⟩:=we kt h4 hi;rw[ZG,g1] at e1;cases e1;rw[g5]; exact g3
  refine⟨.ref _,_,I1.laid (h':=h') (t':=tk) (o:=.lst (xs.map (·.2))) kp hle ⟨by rw[Zc]; exact hz,acc'.toList,c',vals,by rw[Array.toArray_toList]; exact hD⟩,rfl,q1 _ (I1.hok.fresh hle)⟩
end
end L2
namespace L2
open PySem PySem.Spec PyProof.Rows
section
variable{X:Cx}{x y:Str}{p p' pos pos':Pos}{a:Expr}{ta:TE}
end
end L2

namespace EV
open PySem PySem.Spec PyProof.Rows L2
section
variable{X:Cx}{Γ:Gx}{xw:XW}{pins:Ww}{σ:L2.St}{H:Hp}{s:WA}{ι:WD}{S:af}
theorem aq.tab(hS:aq Γ ι H S){l:Nat}{kvs:WQ}(h:S[l]?=some (.dct kvs)\/S[l]?=some (.fdc kvs)):∃a xs,ι[l]?=some a/\(H a=some (.dT xs)\/∃o,H a=some (.frz o (.dT xs)))/\aI Γ ι H kvs xs:=by
 rcases h with h|h
 ·obtain⟨a,ha,xs,hx,r⟩:=hS.cell l _ h;exact⟨a,xs,ha,.inl hx,r⟩
 ·obtain⟨a,ha,xs,hx,r⟩:=hS.cell l _ h;exact⟨a,xs,ha,.inr hx,r⟩
theorem Out.bX{l:Nat}{f:List (List Int×D)->M D}{k:D->af->List Addr->Hp->Prop}(h:Out Γ xw ι H (EV.bX l f S) k):∃kvs,(S[l]?=some (.dct kvs)\/S[l]?=some (.fdc kvs))/\Out Γ xw ι H (f kvs S) k:=by
 have e:EV.bX l f S=match S[l]? with|some (.dct kvs)=>f kvs S|some (.fdc kvs)=>f kvs S|_=>.bad:=rfl
 rw[e] at h
 cases q:S[l]? with
 | none=>rw[q] at h; exact h.elim
 | some c =>
  rw[q] at h
  cases c with
  | dct kvs=>exact⟨kvs,.inl rfl,h⟩
  | fdc kvs=>exact⟨kvs,.inr rfl,h⟩
  | lst ds=>exact h.elim
theorem Rep.key{ds:WP}{k:Wx}{v:V}(r:Rep Γ ι H (.tup ds) v)(q:allInts ds=some k):∃b,v=.ref b/\H b=some (.tup ((k.map (Sum.inl:Int->Key)).map kV)):=by
 rw[ints_map q] at r;obtain⟨b,e,h⟩:=r.trk;exact⟨b,e,by rw[<- sO]; exact h⟩
theorem aI.none{k:Wx}:∀{kvs:WQ} {xs:WO},aI Γ ι H kvs xs->b6 kvs k=none->b8 xs (k.map Sum.inl)=none
 | _,_,.nil,_=>rfl
 | p::r,q::t,.cons e u,h=>by
  unfold b6 at h;unfold b8;rw[ZP] at h ⊢;rw[e.1,o_]
  cases c:decide (p.1=k) with
  | true=>rw[c] at h; cases h
  | false=>rw[c] at h; exact aI.none u h
theorem aI.some(k:Wx){kvs:WQ}{xs:WO}(r:aI Γ ι H kvs xs):(b8 xs (k.map Sum.inl)).isSome=(b6 kvs k).isSome:=by
 cases q:b6 kvs k with
 | none=>rw[aI.none r q]; rfl
 | some d=>obtain⟨v,e,_⟩:=aI.get r q; rw[e]; rfl
theorem qB{a b:Addr}{xs:WO}{k:List Key}(e:H a=some (.dT xs)\/∃o,H a=some (.frz o (.dT xs)))(eb:H b=some (.tup (k.map kV))):fY H a (.ref b) (b8 xs k):=.inr ⟨xs,k,b,e,rfl,eb,rfl⟩
theorem zO{o i:Expr}{pos:Pos}{mo mi:Sg->M D}(hu:X.A.units+1<cLine)(ho:PE X o (tM Γ xw mo))(hi:PE X i (tM Γ xw mi))(hs:nY i):PE X (.Subscript o i pos) (tM Γ xw λσ=>mo σ>>=λx=>mi σ>>=λy=>ie x y) :=
 PE.imp (Ar hu ho hi hs) λσ H Q h=>by
  obtain⟨σd,ι,S,he,hs,ho⟩:=h;refine⟨σd,ι,S,he,hs,ho.bind.mono λd S1 ι1 H1 _ _ ⟨s1,e1,o1⟩ x rx=>?_⟩;refine⟨σd,ι1,S1,he.ext e1,s1,o1.bind.mono λd2 S2 ι2 H2 _ _ ⟨s2,e2,o2⟩ y ry=>?_⟩;have rx:=rx.ext e2
  cases d with
  | loc l =>
   cases d2 with
   | tup ds =>
    obtain⟨k,q,o2⟩:=Out.opt o2;obtain⟨kvs,q2,o2⟩:=Out.bX o2;obtain⟨d3,q3,o2⟩:=Out.vI o2;obtain⟨b,rfl,hb⟩:=ry.key q
    cases rx with
    | @loc _ a hl =>
     obtain⟨a',xs,ha,hx,dr⟩:=s2.tab q2;rw[hl] at ha; cases ha;obtain⟨v,hv,rv⟩:=aI.get dr q3;exact⟨a,v,rfl,by rw[<- hv]; exact qB hx hb,o2.here s2 v rv⟩
   | _=>exact o2.elim
  | _=>exact o2.elim
theorem sL{neg:Bool}{x y d:D}{S S':af}(h:kP neg x y S=.ok d S'):∃k,d=.bl k:=by
 cases x with
 | tup ds =>
  cases y with
  | loc l =>
   have h:(opt (allInts ds)>>=λk=>bX l λkvs=>pure (.bl ((b6 kvs k).isSome != neg))) S=.ok d S':=h
   cases q:allInts ds with
   | none=>rw[q] at h; cases h
   | some k =>
    rw[q] at h;have h:bX l (λkvs=>pure (.bl ((b6 kvs k).isSome != neg))) S=.ok d S':=h;unfold bX at h
    cases q2:S[l]? with
    | none=>rw[q2] at h; cases h
    | some c =>
     rw[q2] at h
     cases c with
     | lst ds=>cases h
     | dct kvs=>cases h; exact⟨_,rfl⟩
     | fdc kvs=>cases h; exact⟨_,rfl⟩
  | _=>cases h
 | _=>cases h
theorem tU{neg:Bool}{dx dy:D}{x y:V}{Q:VK}(hS:aq Γ ι H S)(r1:Rep Γ ι H dx x)(r2:Rep Γ ι H dy y)(ho:Out Γ xw ι H (kP neg dx dy S) λd _ ι' H'=>∀v,Rep Γ ι' H' d v->Q v H') :
  ∃a o,y=.ref a/\fY H a x o/\Q (.bl (o.isSome != neg)) H:=by
 cases dx with
 | tup ds =>
  cases dy with
  | loc l =>
   obtain⟨k,q,ho⟩:=Out.opt ho;obtain⟨kvs,q2,ho⟩:=Out.bX ho;obtain⟨b,rfl,hb⟩:=r1.key q
   cases r2 with
   | @loc _ a hl =>
    obtain⟨a',xs,ha,hx,dr⟩:=hS.tab q2;rw[hl] at ha; cases ha;refine⟨a,_,rfl,qB hx hb,?_⟩;rw[aI.some k dr];exact Out.val ho hS (.bl _)
  | _=>exact ho.elim
 | _=>exact ho.elim
theorem B7(hu:X.A.units+1<cLine):OpR X (compareOp .In) (bg Γ xw (cmD .din)):=by
 intro pins s σ H x y v u Q I rx ry h;obtain⟨ι,S,dx,dy,hS,r1,r2,ho⟩:=h;obtain⟨a,o,rfl,g,q⟩:=tU hS r1 r2 ho;obtain rfl:u=Value.ref a:=ry;refine Bk hu I g rx λs3 I3=>⟨.bl o.isSome,H,I3,rfl,?_⟩
 cases o<;>exact q
theorem EK(hu:X.A.units+1<cLine):OpR X (compareOp .NotIn) (bg Γ xw (cmD .dnin)):=by
 intro pins s σ H x y v u Q I rx ry h;obtain⟨ι,S,dx,dy,hS,r1,r2,ho⟩:=h;obtain⟨a,o,rfl,g,q⟩:=tU hS r1 r2 ho;obtain rfl:u=Value.ref a:=ry;refine Dh hu I g rx λs3 I3=>⟨.bl (!o.isSome),H,I3,rfl,?_⟩
 cases o<;>exact q
theorem AJ{o i e:Expr}{pos p:Pos}{mo mi me:Sg->M D}(hu:X.A.units+1<cLine)(he:PE X e (tM Γ xw me))(ho:PE X o (tM Γ xw mo))(hi:PE X i (tM Γ xw mi))
  (hw:swapsWith e (some (.Subscript o i p)) pos.line X.env=pure false) :
  PS X (.Assign [.Subscript o i p] e pos) (tMS Γ xw λσ=>me σ>>=λd=>mo σ>>=λa=>mi σ>>=λk=>ir a k d>>=λ_=>pure (.nx σ)):=by
 refine PS.imp (CV hu ho hi he hw) λD σ H h=>?_
 obtain⟨σd,ι,S,hE,hs,ho⟩:=h;refine⟨σd,ι,S,hE,hs,ho.bind.mono λd S1 ι1 H1 _ _ ⟨s1,e1,o1⟩ v rv=>?_⟩;refine⟨σd,ι1,S1,hE.ext e1,s1,o1.bind.mono λa S2 ι2 H2 _ _ ⟨s2,e2,o2⟩ ov ro=>?_⟩;refine⟨σd,ι2,S2,(hE.ext e1).ext e2,s2,o2.bind.mono λky S3 ι3 H3 _ _ ⟨s3,e3,o3⟩ kv rk=>?_⟩;have o3:=o3.bind
 cases ky with
 | tup ds =>
  cases a with
  | loc l =>
   obtain⟨k,q,o3⟩:=Out.opt o3;obtain⟨kvs,q2,o3⟩:=Out.fE o3;obtain⟨hz2,o3⟩:=Out.guard o3;obtain⟨b,rfl,hb⟩:=rk.key q;have ro:=ro.ext e3
   cases ro with
   | @loc _ a hl =>
    obtain⟨a',xs,ha,hx,dr⟩:=s3.dct q2;rw[hl] at ha; cases ha;have rv2:=(rv.ext e2).ext e3;refine⟨a,_,rfl,iU.t hx hb ?_,?_⟩
    ·have:kvs.length=xs.length:=dr.length;rw[<- this];exact wz hz2
    ·have ew:=Ext.fj (ys:=putK xs (k.map Sum.inl) v) hx (ZD hl);obtain⟨s5,e5,o5⟩:=o3 ι3 _ ew (s3.fj q2 hl hx (aI.put rv2 dr));exact o5.here s5 _ ((((hE.ext e1).ext e2).ext e3).ext ew)
  | _=>exact o3.elim
 | _=>exact o3.elim
theorem tX{a b:Addr}{xs:WO}{o:Obj}{u:HO}(h:H a=some (.dT xs))(e:H b=some u)(hu:u≠.dT xs):upd H a (.frz o (.dT xs)) b=some u:=by
 rw[aC]
 ·exact e
 ·intro z;rw[z,h] at e;exact hu (Zy e).symm
theorem Ext.g_{a:Addr}{xs:WO}{o:Obj}(h:H a=some (.dT xs))(hm:a∈ι):Ext ι ι H (upd H a (.frz o (.dT xs))) where
 pre:=Z4 _
 tup:=λb zs e=>tX h e (λz=>by cases z)
 frz:=λb o u e=>tX h e (λz=>by cases z)
 oth:=λb o e n=>by rw[aC (λz=>n (by rw[z]; exact hm))]; exact e
 fresh:=λ_ h n=>absurd h n
theorem aq.g_(hS:aq Γ ι H S){l:Nat}{a:Addr}{xs:WO}{kvs:WQ}{o:Obj}(hl:S[l]?=some (.dct kvs))(ha:ι[l]?=some a)(h:H a=some (.dT xs))(r:aI Γ ι H kvs xs):aq Γ ι (upd H a (.frz o (.dT xs))) (S.set l (.fdc kvs)):=by
 have e:=Ext.g_ (o:=o) h (ZD ha);refine⟨by rw[Xr]; exact hS.len,hS.nd,λm c hm=>?_⟩
 by_cases em:m=l
 ·subst em;rw[Xm (Zh.mp hl).1] at hm;cases hm;exact⟨a,ha,xs,⟨o,bZ⟩,Paired.imp (λ_ _ q=>⟨q.1,q.2.ext e⟩) r⟩
 ·rw[ZZ (Ne.symm em)] at hm;obtain⟨b,hb,c1⟩:=hS.cell m c hm;have hne:b≠a:=λz=>em (gB hS.nd hb (z▸ha))
  exact⟨b,hb,c1.ext e λo ho=>by rw[aC hne]; exact ho⟩
theorem uZ{a:Addr}{xs:WO}{kvs:WQ}{o:Obj}(h:H a=some (.frz o (.dT xs)))(r:aI Γ ι H kvs xs):mL Γ ⟨kvs.map λkv=>.tup (kv.1.map .int),none,[]⟩ (Itd o a xs) ι H:=λι1 H1 S1 e s1 st=>by
 have h1:=e.frz _ _ _ h;refine⟨λi d hd=>?_,by rw[Zc,r.length]; exact Zl _,h1⟩;have hd:(kvs.map λkv=>D.tup (kv.1.map .int))[i]?=some d:=hd;rw[ZG,ZC] at hd;obtain⟨p,hp,rfl⟩:=hd;obtain⟨q,hq,e1,_⟩:=Paired.get r hp;refine⟨⟨(Zh.mp hq).1,h1⟩,?_⟩;rintro x H' ⟨rfl,k,v,b,g1,rfl,g2⟩;rw[hq] at g1; cases g1;have e1:k=p.1.map Sum.inl:=e1;rw[e1,<- sO] at g2;exact⟨.refl,s1,.i9 g2 (k_ _)⟩
theorem yo{tg a:Expr}{ma:Sg->M D}(ha:PE X a (tM Γ xw ma)):PI X tg a (tMI Γ xw λσ=>ma σ>>=λd=>iN d) :=
 PI.imp (BJ ha) λσ H R h=>by
  obtain⟨σd,ι,S,he,hs,ho⟩:=h;refine⟨σd,ι,S,he,hs,ho.bind.mono λd S' ι' H' _ _ ⟨s',e',o'⟩ v r=>?_⟩
  cases d with
  | loc l =>
   have e:iN (.loc l) S'=match S'[l]? with
    | some (.dct kvs)=>.ok ⟨kvs.map λkv=>.tup (kv.1.map .int),none,[]⟩ (S'.set l (.fdc kvs))
    | some (.fdc kvs)=>.ok ⟨kvs.map λkv=>.tup (kv.1.map .int),none,[]⟩ S'
    | _=>.bad:=rfl
   rw[e] at o'
   cases r with
   | @loc _ a hl =>
    cases q:S'[l]? with
    | none=>rw[q] at o'; exact o'.elim
    | some c =>
     rw[q] at o'
     cases c with
     | lst ds=>exact o'.elim
     | dct kvs =>
      obtain⟨a',xs,ha',hx,dr⟩:=s'.dct q;rw[hl] at ha'; cases ha';refine⟨a,xs,rfl,.inl ⟨hx,λo=>?_⟩⟩;have ek:=Ext.g_ (o:=o) hx (ZD hl);exact o' ι' _ ek (s'.g_ q hl hx dr) _ (uZ bZ (Paired.imp (λ_ _ q=>⟨q.1,q.2.ext ek⟩) dr))
     | fdc kvs =>
      obtain⟨a',ha',xs,⟨o,hx⟩,dr⟩:=s'.cell l _ q;rw[hl] at ha'; cases ha';exact⟨a,xs,rfl,.inr ⟨o,hx,o' ι' _ .refl s' _ (uZ hx dr)⟩⟩
  | _=>exact o'.elim
theorem aI.vals:∀{kvs:WQ} {xs:WO},aI Γ ι H kvs xs->aA Γ ι H (kvs.map (·.2)) (xs.map (·.2))
 | _,_,.nil=>.nil
 | _::_,_::_,.cons e u=>.cons e.2 (aI.vals u)
theorem zd{sub:Sub}{x:Str}{p pos cpos apos:Pos}{o:Expr}{mo:Sg->M D}(hc:X.calm=true)(hg:Gl X x)(hm:X.mg x=none)(hv:bootBuiltins x=some (.type "list"))(ho:PE X o (tM Γ xw mo))(hnm:∃y q,o=.Name y q)(hline:(apos.endLine==cpos.line)=true)(hn:x≠"__name__")(hdb:(x==("__debug__" : Str))=false) :
  PE X (.Call (.Name x p) [.Call (.Attribute o "values" apos) [] [] cpos] [] pos) (tM Γ xw λσ=>mo σ>>=λd=>bi1 sub .vals d) :=
 PE.imp (EX hc hg hm hv ho hn hdb (by obtain⟨y,q,rfl⟩:=hnm; rfl) hline) λσ H Q h=>by
  obtain⟨σd,ι,S,he,hs,ho⟩:=h;refine⟨σd,ι,S,he,hs,ho.bind.mono λd S' ι' H' _ _ ⟨s',e',o'⟩ v r=>?_⟩;have o':Out Γ xw ι' H' (vH d S') λd _ ι' H'=>∀v,Rep Γ ι' H' d v->Q v H':=o'
  cases d with
  | loc l =>
   obtain⟨kvs,q,o'⟩:=Out.bX o';obtain⟨hz,o'⟩:=Out.guard o'
   cases r with
   | @loc _ a hl =>
    obtain⟨a',xs,ha',hx,dr⟩:=s'.tab q;rw[hl] at ha'; cases ha';exact⟨a,xs,rfl,hx,λp hp=>Out.alloc o' s' hp (aI.vals dr)⟩
  | _=>exact o'.elim
end
end EV

namespace L2
open PySem PySem.Spec PyProof.Rows
set_option genInjectivity false in
structure Xc(B:Heap)(stack:List Env)(e:Addr)(h:Heap):Prop where
 stays:B.StaysIn h
 new:B.get? e=none
 frames:h.FunFrames B stack
def Cov(B:Heap)(stack:List Env)(s:WA)(H':Hp)(h:Heap):Prop:=∀b o,h.get? b=some o->(H' b≠none\/∃o',s.heap.get? b=some o')->b∉frs stack->B.get? b=some o
noncomputable def CXg(st:Heap->Heap->Addr->Addr->Prop)(P:WC)(w:WG):CXT:=λstack H s E v s' =>
 ∃e C B H',v=.ref e/\s'.os=s.os/\AllBare s'.gens/\Un (frs stack) [] H H' s.heap s'.heap/\HOk P w H' s'.heap/\Xc B stack e s'.heap/\st B s'.heap e C/\Cov B stack s H' s'.heap/\E (.ref C) none H'
def stF(_:Heap)(h:Heap)(e C:Addr):Prop:=∃t,h.get? e=some { cls:=.ref C,data:=.fields #[.ref t,.none,.none,.none,.bool false,.none] }
def stT(B:Heap)(h:Heap)(e C:Addr):Prop:=∃a0,h.TracedW B e (.ref C) a0
abbrev CXe(P:WC)(w:WG):CXT:=CXg stT P w
abbrev CXr(P:WC)(w:WG):CXT:=CXg stF P w
theorem Hs{P:WC}{w:WG}{H:Hp}{h:Heap}{b:Addr}{ob:HO}(ok:HOk P w H h)(q:H b=some ob):∃o,h.get? b=some o:=by
 have x:=ok b ob q;clear q ok
 induction ob with
 | lst xs=>obtain⟨_,_,_,_,e⟩:=x; exact⟨_,e⟩
 | tup xs=>obtain⟨_,_,_,_,e,_⟩:=x; exact⟨_,e⟩
 | dK kvs=>obtain⟨_,_,_,_,_,_,_,e,_⟩:=x; exact⟨_,e⟩
 | dT kvs=>obtain⟨_,_,_,_,_,_,_,e,_⟩:=x; exact⟨_,e⟩
 | set S n=>obtain⟨_,_,_,_,e,_⟩:=x; exact⟨_,e⟩
 | ins C dx fs=>obtain⟨_,_,_,e,_⟩:=x; exact⟨_,e⟩
 | own y=>exact x
 | xd fs=>obtain⟨_,⟨_,_,_,e,_⟩,_⟩:=x; exact⟨_,e⟩
 | rng lo hi=>obtain⟨_,_,_,e⟩:=x; exact⟨_,e⟩
 | frz o u ih=>exact⟨o,x.1⟩
 | tbl ps=>exact⟨_,x⟩
 | met f y=>exact⟨_,x⟩
 | ext φ=>exact x.2.1
section
variable{P:WC}{w:WG}{B h h':Heap}{stack:List Env}{e C:Addr}{s:WA}{H H':Hp}
theorem GJ(hf:∀b∈frs stack,∃o,s.heap.get? b=some o/\H b=none)(u:Un (frs stack) [] H H' s.heap h)(ok:HOk P w H' h)(fr:h.FunFrames B stack)(cv:Cov B stack s H' h)(sb:B.StaysIn h')(up:h.UpToSlots h') :
  Un (frs stack) [] H H' s.heap h'/\HOk P w H' h'/\Cov B stack s H' h':=by
 have nf:∀{b:Addr},H' b≠none->b∉frs stack:=λ{b} hb m=>by
  obtain⟨o,e1,e2⟩:=hf b m;exact hb (u.free b o e1 e2 (by simp))
 have old:∀{b:Addr} {o:Obj},h.get? b=some o->(H' b≠none\/∃o',s.heap.get? b=some o')->b∉frs stack->h'.get? b=some o:=λ{b o} e1 e2 e3=>sb b o (cv b o e1 e2 e3)
 have fram:∀{b:Addr} {o:Obj},b∈frs stack->h.get? b=some o->∃sl,h'.get? b=some { o with slots:=sl }:=λ{b o} m e1=>by
  obtain⟨_,o',e2,hd⟩:=fr.mem m;rw[e1] at e2; cases e2;exact up b o e1 hd
 refine⟨⟨λb o e n hb _=>?_,λb o e n hb _=>?_,u.free,λb o e _=>?_,u.tups,u.frzs,u.tbls⟩,λa o ea=>?_,λb o e1 e2 e3=>?_⟩
 ·exact old (u.keep b o e n hb (by simp)) (.inr ⟨o,e⟩) hb
 ·obtain⟨sl,e1⟩:=u.slot b o e n hb (by simp);obtain⟨sl2,e2⟩:=fram hb e1;exact⟨sl2,e2⟩
 ·obtain⟨o1,e1⟩:=u.there b o e (by simp)
  by_cases hb:b∈frs stack
  ·obtain⟨sl,e2⟩:=fram hb e1;exact⟨_,e2⟩
  ·exact⟨o1,old e1 (.inr ⟨o,e⟩) hb⟩
 ·refine(ok a o ea).stay (λb v hb q=>?_) (λ_ q=>q) λ_ _ q=>q
  have hne:H' b≠none:=by
   rcases hb with rfl|hb
   ·rw[ea]; exact λz=>by cases z
   ·rw[hb]; exact λz=>by cases z
  exact old q (.inl hne) (nf hne)
 ·-- what is there now was there
  have:∃o1,h.get? b=some o1:=by
   rcases e2 with z|⟨o2,z⟩
   ·cases q:H' b with
    | none=>exact absurd q z
    | some ob=>exact Hs ok q
   ·exact u.there b o2 z (by simp)
  obtain⟨o1,e4⟩:=this;have e5:=cv b o1 e4 e2 e3;have e6:=sb b o1 e5;rw[e1] at e6; cases e6;exact e5
end
section
variable{CX:CXT}{P:WC}{w:WG}{K:Wy}{mg:WE}{base:Heap}{N:WI}{qual:Str}{scope:Scope}{f:Addr}{cd:Value}{A:Around}{outer:List Env}{s:WA}{H:Hp}{E E':XK}
theorem qA{X:Cx}{pins:Ww}{σ:St}{H:Hp}{s:WA}(I:Inv X pins σ H s):∀b∈frs X.stack,∃o,s.heap.get? b=some o/\H b=none:=λb hb=>by
 obtain⟨_,o,e,_⟩:=I.stack.mem hb;exact⟨o,e,I.oX b hb⟩
theorem rZ{st:Heap->Heap->Addr->Addr->Prop}(hst:∀B h e C,st B h e C->stF B h e C\/stT B h e C)(hE:∀C H,E' (.ref C) none H->E (.ref C) none H){pins:Ww}{σ:St}{H1:Hp}{s1:WA}{v:Value}{s':WA}(hA:A.frames=some outer)
  (I:Inv (cK (CXe P w) P w K mg base N qual scope f cd A outer s H E) pins σ H1 s1) (hx:CXg st P w (cK (CXe P w) P w K mg base N qual scope f cd A outer s H E).stack H1 s1 E' v s'):(cK (CXe P w) P w K mg base N qual scope f cd A outer s H E).xe v s':=by
 obtain⟨e,C,B,H',rfl,h1,h2,u,ok,xc,hs,cv,hE'⟩:=hx;have hstk:(cK (CXe P w) P w K mg base N qual scope f cd A outer s H E).stack=envOfC qual scope s.heap.objs.size f cd::outer:=rfl;have hfr:(A.deeper (envOfC qual scope s.heap.objs.size f cd)).frames=some (envOfC qual scope s.heap.objs.size f cd::outer):=Around.frames_deeper hA;have hf:(envOfC qual scope s.heap.objs.size f cd).frame=some s.heap.objs.size:=rfl
 have fin:∀(h'':Heap) (a0:Value),Heap.LeftW B (envOfC qual scope s.heap.objs.size f cd::outer) e (.ref C) a0 s'.heap h''->CXe P w outer H s E (.ref e) { s' with heap:=h'' }:=λh'' a0 hL=>by
  obtain⟨k1,k2,k3,k4⟩:=hL;obtain⟨u2,ok2,cv2⟩:=GJ (qA I) u ok xc.frames cv k1 k4;have nL:∀{b:Addr} {o:Obj},s.heap.get? b=some o->b≠s.heap.objs.size:=λ{b o} q=>ZI (Zp q)
  have mem:∀{b:Addr},b∈frs (envOfC qual scope s.heap.objs.size f cd::outer) ↔ b=s.heap.objs.size\/b∈frs outer:=λ{b}=>by
   unfold frs;rw[Xu,hf];exact Zt
  have ub:Un (frs outer) [] H H1 s.heap s1.heap:=I.base;refine⟨e,C,B,H',rfl,h1.trans I.os,h2,⟨λb o q n hb _=>?_,λb o q n hb _=>?_,λb o q n _=>?_,λb o q _=>?_,λb xs q=>?_,λb o u q=>?_,λb ps q=>?_⟩,ok2,⟨k1,xc.new,k2.2.2⟩,⟨a0,k3⟩,λb o q1 q2 q3=>?_,hE _ _ hE'⟩
  ·exact u2.keep b o (ub.keep b o q n hb (by simp)) (ub.free b o q n (by simp)) (λz=>(mem.mp z).elim (nL q) hb) (by simp)
  ·obtain⟨sl,q1⟩:=ub.slot b o q n hb (by simp);obtain⟨sl2,q2⟩:=u2.slot b _ q1 (ub.free b o q n (by simp)) (mem.mpr (.inr hb)) (by simp);exact⟨sl2,q2⟩
  ·obtain⟨o1,q1⟩:=ub.there b o q (by simp);exact u2.free b o1 q1 (ub.free b o q n (by simp)) (by simp)
  ·obtain⟨o1,q1⟩:=ub.there b o q (by simp);exact u2.there b o1 q1 (by simp)
  ·exact u2.tups b xs (ub.tups b xs q)
  ·exact u2.frzs b o u (ub.frzs b o u q)
  ·obtain⟨m1,q1⟩:=ub.tbls b ps q;obtain⟨m2,q2⟩:=u2.tbls b _ q1;exact⟨m1++m2,by rw[<- Array.append_assoc]; exact q2⟩
  ·have hfree:H' s.heap.objs.size=none:=by
    obtain⟨oL,eL,hL⟩:=qA I s.heap.objs.size (mem.mpr (.inl rfl));exact u2.free _ oL eL hL (by simp)
   refine cv2 b o q1 ?_ λz=>?_
   ·rcases q2 with z|⟨o',z⟩
    ·exact .inl z
    ·exact .inr (ub.there b o' z (by simp))
   ·rcases mem.mp z with z|z
    ·rcases q2 with y|⟨o',y⟩
     ·rw[z] at y; exact y hfree
     ·exact nL y z
    ·exact q3 z
 show wpAny (model P w) (A.deeper (envOfC qual scope s.heap.objs.size f cd)) (leaving (envOfC qual scope s.heap.objs.size f cd) (.ref e)) (λ_ s''=>CXe P w outer H s E (.ref e) s'') (λe' s''=>CXe P w outer H s E e' s'') s';rcases hst _ _ _ _ hs with⟨t,he⟩|⟨a0,ht⟩
 ·exact wpAny_leaving_firstW hfr xc.frames hf he xc.stays xc.new rfl (a0:=.ref t) rfl rfl λh'' hL=>fin h'' _ hL
 ·exact wpAny_leaving_nextW hfr xc.frames hf ht xc.stays xc.new λh'' hL=>fin h'' _ hL
end
end L2

namespace L2
open PySem PySem.Spec PySem.Calls PyProof.Rows
open PySem.W (Looks)
open PySem.Builtin PySem.Builtin.ObjectAttr PySem.Builtin.Getset_descriptor
set_option genInjectivity false in
structure Hg(K:Wy)(C:Addr):Prop where
 ga:PySem.W.findIn K (.ref C) "__getattribute__" = some (some (.builtin "BaseException.__getattribute__"))
 gt:PySem.W.findIn K (.ref C) "__getattr__" = some none
 cl:PySem.W.findIn K (.ref C) "__class__" = some (some (.builtin "object.__class__"))
 gn:PySem.W.specialIn K (.builtin "object.__class__") "__get__" = some (some (.builtin "getset_descriptor.__get__"))
 tk:PySem.W.takesIn K (.builtin "object.__class__")=some true
 mo:PySem.W.mroIn K C (.type "object")=some true
 mb:PySem.W.mroIn K C (.type "BaseException")=some true
 is:(PySem.W.clsIn K C).isSome=true
section
variable{K:Wy}{prog:WC}{w:WG}{A:Around}{E:Wv}{s:WA}{a C:Addr}
end
section
variable{X:Cx}{i:Nat}{C:Addr}
end
end L2

namespace EV
open PySem
set_option genInjectivity false in
inductive GE where|fn|val (d:D)|cls
set_option genInjectivity false in
structure TC where
 sc:Scope
 N:List Str
 inF:Str->Bool
 top:Bool
 gt:List (Str×GE)
noncomputable def idx:List Str->Str->Option Nat
 | [],_=>none
 | y::r,x=>if y=x then some 0 else(idx r x).map (· + 1)
noncomputable def fT(sc:Scope)(x:Str):Bool:=match sc.names.lookup x with
 | some .local=>true
 | some .cell=>true
 | some .free=>true
 | _=>false
noncomputable def eV(c:TC)(x:Str):Bool:=match c.sc.names.lookup x with
 | some .local=>true
 | some .cell=>c.inF x
 | _=>false
noncomputable def glB(c:TC)(x:Str):Bool:=decide (c.sc.names.lookup x=some .globalImplicit)
noncomputable def eG(x:Str):Bool:=!(x==("__debug__" : Str))&&!(x==("__classdict__" : Str))
noncomputable def op2:Operator->Option Op2
 | .Add=>some .add
 | .Sub=>some .sub
 | .Mult=>some .mul
 | .FloorDiv=>some .fdiv
 | .Mod=>some .mod
 | _=>none
noncomputable def cmO:CmpOp->Option Cm
 | .Lt=>some .lt
 | .LtE=>some .le
 | .Gt=>some .gt
 | .GtE=>some .ge
 | .Eq=>some .eq
 | .NotEq=>some .ne
 | .In=>some .isin
 | .NotIn=>some .cW
 | _=>none
noncomputable def gy:PySem.Expr->Bool
 | .Name x _=>decide (x = "kept")
 | _=>false
noncomputable def Gr:CmpOp->Option Cm
 | .In=>some .din
 | .NotIn=>some .dnin
 | _=>none
noncomputable def JA:PySem.Expr->Bool
 | .Name x _=>decide (x = "word")||(decide (x = "_law_text_here")||decide (x = "DIGITS"))
 | _=>false
noncomputable def l5(op:CmpOp)(b:WL):Option Cm:=if gy b then Gr op else cmO op
noncomputable def JD(x:Str):Option Tm:=if x = "join" then some .join else if x = "split" then some .split else if x = "startswith" then some .starts else if x = "partition" then some .part else none
noncomputable def xm:Const->Option E
 | .none=>some (.c .non)
 | .bool b=>some (.c (.bl b))
 | .int i=>some (.c (.int i))
 | .str s=>some (.c (.str s))
 | _=>none
noncomputable def lN(c:TC)(x:Str):Option E :=
 if eG x then
  if fT c.sc x then(idx c.N x).map .v
  else if glB c x then match c.gt.lookup x with
   | some (.val d)=>some (.c d)
   | _=>none
  else none
 else none
noncomputable def ez(c:TC)(x:Str):Bool:=glB c x&&(c.gt.lookup x).isNone
noncomputable def lK(x:Str):Option Bi :=
 if x = "len" then some .len else if x = "all" then some .all else if x = "sum" then some .sum
 else if x = "max" then some .max else if x = "tuple" then some .tuple else none
noncomputable def nT(x:Str):Option Ty :=
 if x = "int" then some .int else if x = "bool" then some .bool else if x = "str" then some .str else if x = "list" then some .list else if x = "tuple" then some .tuple else if x = "dict" then some .dict else none
noncomputable def nU(x:Str):Option Me:=if x = "append" then some .append else if x = "extend" then some .extend else none
noncomputable def bM(f:PySem.Expr->Option E):List PySem.Expr->Option E
 | []=>some .nl
 | e::r=>match f e,bM f r with
  | some a,some b=>some (.cs a b)
  | _,_=>none
noncomputable def trO(f:PySem.Expr->Option E):Option PySem.Expr->Option E
 | none=>some .nl
 | some e=>match f e with
  | some .nl=>none
  | o=>o
noncomputable def gb(c:TC):List PySem.Expr->Option (List Nat)
 | []=>some []
 | .Name x _::r=>if eV c x then match idx c.N x,gb c r with
   | some i,some is=>some (i::is)
   | _,_=>none
  else none
 | _=>none
noncomputable def jb(c:TC):PySem.Expr->Option Tg
 | .Name x _=>if eV c x then(idx c.N x).map .one else none
 | .Tuple es _ _=>(gb c es).map .many
 | _=>none
noncomputable def isTup:PySem.Expr->Bool
 | .Tuple _ _ _=>true
 | _=>false
noncomputable def lV(c:TC)(x:Str):Bool:=ez c x&&decide (x = "range")
noncomputable def lR(c:TC)(x:Str):Bool:=ez c x&&decide (x = "enumerate")
noncomputable def nP(c:TC)(x:Str):Bool:=ez c x&&decide (x = "zip")
noncomputable def pair(es:WM):Bool:=decide (es.length=2)
noncomputable def few(es:WM):Bool:=decide (es.length=1)
noncomputable def oE:PySem.Expr->Bool
 | .Set _ _ _=>false
 | _=>true
noncomputable def trI(f:PySem.Expr->Option E)(c:TC)(tg:WL)(e:WL):Option E :=
 if oE e then match e with
  | .Call (.Name x _) args [] _ =>
   if lV c x then(if few args then(bM f args).map .iRng else none)
   else if lR c x then match isTup tg,args with
    | true,[a]=>(f a).map .iEnum
    | _,_=>none
   else if nP c x then(if isTup tg&&pair args then(bM f args).map .iZip else none)
   else(f e).map .iSeq
  | _=>if gy e then(f e).map .iDct else(f e).map .iSeq
 else none
noncomputable def mangle(x:Str):Str:=⟨#[0]++x.cps⟩
noncomputable def jw(scope sc:Scope):Scope :=
 { scope with names:=scope.names.map λ(n,k)=>if(k==.free&&sc.kind==.function&&sc.names.lookup n==some .cell) then(n,.cell) else(n,k) }
noncomputable def isFree(scope:Scope)(x:Str):Bool:=scope.names.any λy=>decide (y.1=x)&&decide (y.2=.free)
noncomputable def own(scope:Scope):List Str:=(scope.names.filter λy=>decide (y.2=.local)||decide (y.2=.cell)).map (·.1)
noncomputable def gx(scope:Scope)(x:Str):Str:=if isFree scope x then x else mangle x
noncomputable def inComp(c:TC)(scope:Scope):TC:={ c with sc:=jw scope c.sc,N:=c.N.map (gx scope)++own scope,inF:=λx=>decide (scope.names.lookup x=some .cell),top:=false }
noncomputable def gA:List Str->Bool
 | []=>true
 | x::r=>!(r.any λy=>decide (y=x))&&gA r
noncomputable def mq(c:TC)(scope:Scope):Bool :=
 scope.names.all (λy=>!decide (y.2=.free)||(match c.sc.names.lookup y.1 with|some .cell=>true|some .free=>true|_=>false)) &&
 gA (scope.names.map (·.1))&&decide (scope.kind=.function) &&
 scope.names.all (λy=>!decide (y.2=.local)||decide (scope.names.lookup y.1=some .local)) &&
 gA (c.N.map (gx scope)++own scope) &&
 c.N.all (λx=>if isFree scope x then !decide ((jw scope c.sc).names.lookup x=some .local) else !fT (jw scope c.sc) (mangle x))
noncomputable def Tg.qP(n:Nat):Tg->Bool
 | .one i=>decide (n<=i)
 | .many is=>is.all λi=>decide (n<=i)
noncomputable def oF:PySem.Expr->Bool
 | .Call _ [] [] _=>false
 | _=>true
noncomputable def two(es:WM):Bool:=decide (es.length=1)||decide (es.length=2)
noncomputable def wX(c:TC)(x:Str):Bool:=ez c x&&decide (x = "set")
noncomputable def JN(c:TC)(x:Str):Bool:=ez c x&&decide (x = "dict")
noncomputable def Gk:List PySem.Expr->Bool
 | [_]=>true
 | _=>false
noncomputable def nI(c:TC)(x:Str):List PySem.Expr->Option (Bi×List PySem.Expr)
 | [.Call (.Name r _) ra [] _]=>if decide (x = "sorted")&&wX c r&&Gk ra then some (.sortedSet,ra) else none
 | [.Call (.Attribute o name apos) [] [] cpos]=>if decide (x = "list")&&gy o&&decide (name = "values")&&(apos.endLine==cpos.line) then some (.vals,[o]) else none
 | _=>none
noncomputable def mO:CmpOp->Option Bool
 | .Is=>some true
 | .IsNot=>some false
 | _=>none
noncomputable def rE:PySem.Expr->Bool
 | .Constant k _ _=>(match k with
  | .none=>true
  | _=>false)
 | _=>false
noncomputable def JH:PySem.Expr->Bool
 | .Constant k _ _=>(match k with
  | .bool _=>true
  | _=>false)
 | _=>false
noncomputable def JM:PySem.Expr->Bool
 | .UnaryOp .USub (.Constant k _ _) _=>(match k with
  | .int i=>decide (i=1)
  | _=>false)
 | _=>false
noncomputable def oh:PySem.Expr->Bool
 | .Constant k _ _=>(match k with
  | .str _=>true
  | _=>false)
 | _=>false
noncomputable def JF:List PySem.Expr->Bool
 | [e]=>oh e
 | _=>false
noncomputable def JI(f:PySem.Expr->Option E)(a':E):Option PySem.Expr->Option PySem.Expr->Option E
 | none,some h=>(f h).map (λh'=>.bi .tTo (.cs a' (.cs h' .nl)))
 | some l,none=>(f l).map (λl'=>.bi .tFrom (.cs a' (.cs l' .nl)))
 | _,_=>none
noncomputable def rg:PySem.Expr->Bool
 | .Slice _ _ _ _=>false
 | .Tuple _ _ _=>false
 | _=>true
noncomputable def isFn(c:TC)(x:Str):Bool:=match c.gt.lookup x with
 | some .fn=>true
 | _=>false
noncomputable def fnNames(c:TC):List PySem.Expr->Option (List Str)
 | []=>some []
 | .Name x _::r=>if(eG x&&glB c x)&&isFn c x then(fnNames c r).map (x :: ·) else none
 | _=>none
noncomputable def trE:Nat->TC->PySem.Expr->Option E
 | 0,_,_=>none
 | n+1,c,e=>match e with
  | .Name x _=>lN c x
  | .Constant k _ _=>xm k
  | .BinOp a op b _=>match op2 op,trE n c a,trE n c b with
   | some o,some a',some b'=>some (.bin o a' b')
   | _,_,_=>none
  | .UnaryOp op a _=>match op,trE n c a with
   | .Not,some a'=>some (.not a')
   | .USub,some a'=>some (.neg a')
   | _,_=>none
  | .BoolOp op vs p=>match vs with
   | []=>none
   | [a]=>trE n c a
   | a::b::r=>match op,trE n c a,trE n c (.BoolOp op (b::r) p) with
    | .And,some a',some b'=>some (.and a' b')
    | .Or,some a',some b'=>some (.or a' b')
    | _,_,_=>none
  | .IfExp t a b _=>match trE n c t,trE n c a,trE n c b with
   | some t',some a',some b'=>some (.ite t' a' b')
   | _,_,_=>none
  | .Compare a ops cs _=>match ops,cs with
   | [op],[b]=>match mO op with
    | some k=>if rE b then(trE n c a).map (λx=>bif k then .isN x else .notN x) else none
    | none=>match l5 op b,trE n c a,trE n c b,behindInMarks op b with
     | some o,some a',some b',false=>some (.cmp o a' b')
     | _,_,_,_=>none
   | [op,op'],[b,d]=>match cmO op,cmO op',trE n c a,trE n c b,trE n c d,lastMarks [op,op'] [b,d] with
    | some o,some o',some a',some b',some d',false=>some (.chn o o' a' b' d')
    | _,_,_,_,_,_=>none
   | _,_=>none
  | .Tuple es _ _=>(bM (trE n c) es).map .tup
  | .List es _=>(bM (trE n c) es).map .lst
  | .Dict ks vs _=>match ks,vs with
   | [],[]=>some .dnew
   | _,_=>none
  | .Subscript a i _=>match i with
   | .Slice _ _ none _=>none
   | .Slice _ _ (some _) _=>none
   | .Tuple es _ _=>none
   | i=>match trE n c a,trE n c i with
    | some a',some i'=>if gy a then some (.dgv a' i') else some (.ix a' i')
    | _,_=>none
  | .Call f args kws cpos=>match f,kws with
   | .Name x _,[] =>
    if eG x&&glB c x then match c.gt.lookup x with
     | some .fn=>(bM (trE n c) args).map (.call x)
     | some _=>none
     | none =>
      if x = "isinstance" then match args with
       | [a,.Name y _]=>if eG y&&ez c y then match nT y,trE n c a with
         | some t,some a'=>some (.bi (.inst t) (.cs a' .nl))
         | _,_=>none
        else none
       | _=>none
      else match nI c x args with
       | some (b,ra)=>(bM (trE n c) ra).map (.bi b)
       | none=>match args with
        | []=>none
        | a::r=>match lK x,bM (trE n c) (a::r) with
         | some b,some es=>some (.bi b es)
         | _,_=>none
    else none
   | .Attribute o name apos,[]=>match args with
    | []=>none
    | a::r=>if oF o&&(apos.endLine==cpos.line)&&decide (args.length<20) then match nU name,trE n c o,bM (trE n c) (a::r) with
      | some m,some o',some es=>some (.me m o' es)
      | _,_,_=>none
     else none
   | _,_=>none
  | .ListComp elt gens scope _=>match gens with
   | [⟨tg,iter,ifs,asy⟩]=>if asy=0&&mq c scope then
     match trI (trE n c) c tg iter,jb (inComp c scope) tg,trE n (inComp c scope) elt,(match ifs with|[]=>some .nl|[t]=>trO (trE n (inComp c scope)) (some t)|_=>none) with
     | some it,some t,some el,some tt=>if t.qP c.N.length then some (.comp (own scope).length el t it tt) else none
     | _,_,_,_=>none
    else none
   | _=>none
  | _=>none
noncomputable def gM:PySem.Expr->Bool
 | .ListComp _ _ _ _=>false
 | .SetComp _ _ _ _=>false
 | .DictComp _ _ _ _ _=>false
 | _=>true
noncomputable def vA:PySem.Expr->PySem.Expr->Bool
 | .Name _ _,_=>true
 | .Tuple _ _ _,v=>!isTup v&&gM v
 | _,_=>false
noncomputable def cZ(f:Stmt->Option S):List Stmt->Option S
 | []=>some .skip
 | [s]=>match f s with
  | some a=>some a
  | none=>some .bot
 | s::r=>match f s with
  | some a=>(cZ f r).map (.seq a)
  | none=>some .bot
noncomputable def lT:PySem.Expr->Option S
 | .Call (.Name x _) _ _ _=>some (.rais x)
 | _=>none
noncomputable def l9(f:PySem.Expr->Option E)(e:WL):PySem.Expr->Option S
 | .Subscript o (.Tuple es _ _) _=>none
 | .Subscript o i _=>if gM e&&rg i then match f o,f i,f e with
   | some a,some b,some d=>if gy o then some (.dsv a b d) else some (.setIx a b d)
   | _,_,_=>none
  else none
 | _=>none
noncomputable def six:List Str:=["NoLoop","NoGap","NoPlan","NoBoxes","NoInputs","NoRounds"]
noncomputable def xA(k d:Str):Bool:=(decide (k∈six)&&(decide (d∈six)&&!decide (k=d)))||(decide (k = "NoText")&&decide (d = "NoLoop"))
noncomputable def trS(m:Nat):Nat->TC->Stmt->Option S
 | 0,_,_=>none
 | n+1,c,s=>match s with
  | .Return none _=>some .retN
  | .Return (some e) _=>(trE m c e).map .ret
  | .Expr e _=>if oh e then some .skip else if gM e then(trE m c e).map .ex else none
  | .Pass _=>some .skip
  | .Assign ts e _=>match ts with
   | [tg]=>if vA tg e then match jb c tg,trE m c e with
     | some t,some e'=>some (.set t e')
     | _,_=>none
    else l9 (trE m c) e tg
   | _=>none
  | .If t a b _=>match trE m c t,cZ (trS m n c) a,cZ (trS m n c) b with
   | some t',some a',some b'=>some (.ite t' a' b')
   | _,_,_=>none
  | .For tg it body els _=>match els,jb c tg,trI (trE m c) c tg it,cZ (trS m n c) body with
   | [],some t,some i,some b=>some (.forS t i b)
   | _,_,_,_=>none
  | .Raise (some e) none _=>lT e
  | _=>none
noncomputable def depth:Nat:=60
noncomputable def argNames(a:Arguments):List Str:=a.args.map (·.arg)
noncomputable def jx(a:Arguments):Bool:=a.posonlyargs.isEmpty&&a.vararg.isNone&&a.kwonlyargs.isEmpty&&a.kw_defaults.isEmpty&&a.kwarg.isNone&&a.defaults.isEmpty
noncomputable def namesOf(a:Arguments)(sc:Scope):List Str:=argNames a++(sc.names.filter λy=>(decide (y.2=.local)||decide (y.2=.cell))&&!((argNames a).any λx=>decide (x=y.1))).map (·.1)
noncomputable def gf(gt:List (Str×GE))(a:Arguments)(sc:Scope):TC:=⟨sc,namesOf a sc,λ_=>true,true,gt⟩
noncomputable def c_(a:Arguments)(sc:Scope):Bool :=
 jx a&&decide (sc.kind=.function)&&!sc.isCoroutine&&!sc.isGenerator&&gA (namesOf a sc)&&(argNames a).all (λx=>match sc.names.lookup x with|some .local=>true|some .cell=>true|_=>false)&&sc.names.all λy=>!decide (y.2=.free)
noncomputable def trF(gt:List (Str×GE)):Stmt->Option Fn
 | .FunctionDef _ a body _ _ _ sc _ _ _=>if c_ a sc then(cZ (trS depth depth (gf gt a sc)) body).map λb=>⟨(argNames a).length,(namesOf a sc).length,b⟩ else none
 | _=>none
end EV

namespace EV
open PySem PySem.Spec PyProof.Rows L2
theorem iO:∀{l:WI} {x:Str} {i:Nat},idx l x=some i->l[i]?=some x
 | [],_,_,h=>by cases h
 | y::r,x,i,h=>by
  unfold idx at h
  by_cases e:y=x
  ·rw[Zf e] at h; cases h; subst e; rfl
  ·rw[Zg e] at h
   cases q:idx r x with
   | none=>rw[q] at h; cases h
   | some j=>rw[q] at h; cases h; show r[j]?=some x; exact iO q
theorem kC:∀{l:WI},gA l=true->l.Nodup
 | [],_=>QS
 | x::r,h=>by
  rw[gA,ZA] at h;refine Xk.mpr ⟨λm=>?_,kC h.2⟩;have:(r.any λy=>decide (y=x))=true:=List.any_eq_true.mpr ⟨x,m,Zi rfl⟩;rw[this] at h; exact absurd h.1 (by simp)
theorem Af{sc:Scope}{x:Str}(h:fT sc x=true):Vis sc x:=by
 unfold fT at h;unfold Vis
 cases q:sc.names.lookup x with
 | none=>rw[q] at h; cases h
 | some k=>rw[q] at h; cases k<;>first|exact .inl rfl|exact .inr (.inl rfl)|exact .inr (.inr rfl)|cases h
theorem FA{sc:Scope}{x:Str}(h:Vis sc x):fT sc x=true:=by
 unfold fT;rcases h with h|h|h<;>rw[h]
theorem ua{x:Str}(h:eG x=true):(x==("__debug__" : Str))=false/\(x==("__classdict__" : Str))=false:=by
 unfold eG at h;rw[ZA] at h;exact⟨by simpa using h.1,by simpa using h.2⟩
set_option genInjectivity false in
structure Cok(c:TC)(X:Cx):Prop where
 sc:X.env.scope=c.sc
 N:X.N=c.N
 nd:X.N.Nodup
 kind:c.sc.kind=.function
 fn:∀x,c.inF x=true->X.fn x=true
 stk:c.top=true->X.stack=X.env::X.outer/\X.env.frame=some X.env.locals
theorem Cok.gl{c:TC}{X:Cx}(C:Cok c X){x:Str}(h:glB c x=true):Gl X x:=by
 show X.env.scope.names.lookup x=_;rw[C.sc]; exact Zs h
theorem Cok.loc{c:TC}{X:Cx}(C:Cok c X){x:Str}(h:eV c x=true):L2.Loc X.env.scope x/\(X.fn x=true\/X.env.scope.names.lookup x=some .local):=by
 unfold eV at h;unfold L2.Loc;rw[C.sc]
 cases q:c.sc.names.lookup x with
 | none=>rw[q] at h; cases h
 | some k =>
  rw[q] at h
  cases k with
  | «local»=>exact⟨.inl rfl,.inr rfl⟩
  | cell=>exact⟨.inr rfl,.inl (C.fn x h)⟩
  | _=>cases h
theorem HN{scope:Scope}{env:Env}:relabel scope env=jw scope env.scope:=rfl
noncomputable def eO:List Str:=["len","all","any","sum","min","max","sorted","abs","list","tuple","int","bool","str","dict","range","enumerate","isinstance","set","zip","ValueError"]
section
variable(Γ:Gx)(W:XW->Prop)(CX:CXT)(EW:XW->XK)
noncomputable def spF(g:List D->M D)(n:Nat):Sp:=λvs H Q E=>vs.length=n/\∃xw,W xw/\E=EW xw/\∃ι S ds,aq Γ ι H S/\aA Γ ι H ds vs/\Out Γ xw ι H (g ds S) λd _ ι' H'=>∀v,Rep Γ ι' H' d v->Q v H'
noncomputable def EWx(K:Wy):XW->XK:=λxw cls _ H'=>∃c C,cls=.ref C/\PySem.W.nsIn K mainGlobals c=some (some (.ref C))/\∃S ι,xw c S ι H'
theorem ewF{K:Wy}{cls:Value}{o:Option Addr}{H:Hp}(h:EWx K XF cls o H):False:=by
 obtain⟨_,_,_,_,_,_,z⟩:=h;exact z
def ClsAt(K:Wy)(x:Str):Prop:=∃C newId initId B bmB,PySem.W.nsIn K mainGlobals x=some (some (.ref C))/\PySem.W.excIn K C bmB newId=true/\ExcBaseFacts B newId initId bmB/\PySem.W.kitOne K (.ref C) (.type "ValueError")=some true /\
 (∃L,PySem.W.nsIn K mainGlobals "LapError" = some (some (.ref L))/\PySem.W.kitOne K (.ref C) (.ref L)=some true) /\
 (∀d P,xA x d=true->PySem.W.nsIn K mainGlobals d=some (some (.ref P))->Hg K C/\PySem.W.kitOne K (.ref C) (.ref P)=some false)
set_option genInjectivity false in
structure Fam(gt:List (Str×GE))(cf:Str->List D->M D)(X:Cx)(xw:XW):Prop where
 hK:Γ.K=X.K
 calm:X.calm=true
 un:X.A.units+64<cLine
 blt:∀x∈eO,gt.lookup x=none->X.mg x=none
 val:∀x d,gt.lookup x=some (.val d)->∃u v,X.mg x=some u/\RelV v u/\∀ι H,Rep Γ ι H d v
 fn:∀x,gt.lookup x=some .fn->∃k f fd ps,e_ X.prog X.w X.K X.mg X.base CX k f fd ps (spF Γ W EW (cf x) ps.length)/\bY k X.A/\X.mg x=some (.ref f)/\PySem.W.keepIn X.K (.ref f)=true/\Binds X.K fd ps []/\∀ds S,ds.length≠ps.length->cf x ds S=.bad
 pass:Passes CX X (EW xw)
 rp:Passes (CXr X.prog X.w) X (EW xw)
 cls:∀x,gt.lookup x=some .cls->ClsAt X.K x/\∀C,PySem.W.nsIn X.K mainGlobals x=some (some (.ref C))->X.mg x=some (.ref C)
 cx:CX=CXe X.prog X.w
 ew:EW=EWx X.K
 wt:∀xw,W xw
end
section
variable{Γ:Gx}{W:XW->Prop}{CX:CXT}{EW:XW->XK}{gt:List (Str×GE)}{cf:Str->List D->M D}{X:Cx}{xw:XW}
theorem Fam.noR(F:Fam Γ W CX EW gt cf X xw){st:Heap->Heap->Addr->Addr->Prop}{outer:List Env}{H:Hp}{s:WA}{e:Value}{s':WA}(h:CXg st X.prog X.w outer H s (EW XF) e s'):False:=by
 obtain⟨_,_,_,_,_,_,_,_,_,_,_,_,z⟩:=h;rw[F.ew] at z;exact ewF z
theorem Fam.noF(F:Fam Γ W CX EW gt cf X xw){outer:List Env}{H:Hp}{s:WA}{e:Value}{s':WA}(h:CX outer H s (EW XF) e s'):False:=by
 rw[F.cx] at h;exact F.noR h
theorem Fam.ok(F:Fam Γ W CX EW gt cf X xw):W xw:=F.wt xw
theorem Fam.nox(F:Fam Γ W CX EW gt cf X xw):Fam Γ W CX EW gt cf X.nox XF :=
 ⟨F.hK,F.calm,F.un,F.blt,F.val,F.fn,λ_ _ _ _ _ _ _ h=>(F.noF h).elim,λ_ _ _ _ _ _ _ h=>(F.noR h).elim,F.cls,F.cx,F.ew,F.wt⟩
theorem Fam.comp(F:Fam Γ W CX EW gt cf X xw)(scope:Scope)(cl:List (Str×Addr))(N':WI)(fp:WD)(s3:WA)(H3:Hp):Fam Γ W CX EW gt cf (aR X scope cl N' fp s3 H3) XF :=
 ⟨F.hK,F.calm,F.un,F.blt,F.val,F.fn,λ_ _ _ _ _ _ _ h=>(F.noF h).elim,λ_ _ _ _ _ _ _ h=>(F.noR h).elim,F.cls,F.cx,F.ew,F.wt⟩
theorem Cok.nox{c:TC}(C:Cok c X):Cok c X.nox:=⟨C.sc,C.N,C.nd,C.kind,C.fn,C.stk⟩
end
theorem Au{scope:Scope}{x:Str}(h:isFree scope x=true):(x,NameKind.free)∈scope.names:=by
 obtain⟨⟨n,k⟩,m,e⟩:=List.any_eq_true.mp h;rw[ZA] at e;obtain⟨e1,e2⟩:=e;have e1:n=x:=Zs e1;have e2:k=.free:=Zs e2;subst e1; subst e2; exact m
theorem Fq{c:TC}{X:Cx}{scope:Scope}(C:Cok c X)(h:mq c scope=true):fh X scope (inComp c scope).N (own scope).length /\
  ∀cl fp s3 H3,Cok (inComp c scope) (aR X scope cl (inComp c scope).N fp s3 H3):=by
 unfold mq at h;simp only[ZA] at h;obtain⟨⟨⟨⟨⟨h1,h2⟩,h3⟩,h4⟩,h5⟩,h6⟩:=h;rw[Xn] at h1 h4 h6;have hrel:relabel scope X.env=jw scope c.sc:=by rw[HN,C.sc]
 refine⟨⟨λy hy hf=>?_,kC h2,Zs h3,λy hy hl=>?_,?_,λi x hi hx hv=>?_⟩,λcl fp s3 H3=>⟨hrel,rfl,kC h5,?_,λ_ h=>h,λz=>by cases z⟩⟩
 ·have:=h1 y hy;rw[Bool.or_eq_true] at this;rcases this with z|z
  ·rw[hf] at z; simp at z
  ·show X.env.scope.names.lookup y.1=_\/X.env.scope.names.lookup y.1=_;rw[C.sc]
   cases q:c.sc.names.lookup y.1 with
   | none=>rw[q] at z; cases z
   | some k=>rw[q] at z; cases k<;>first|exact .inl rfl|exact .inr rfl|cases z
 ·have:=h4 y hy;rw[Bool.or_eq_true] at this;rcases this with z|z
  ·rw[hl] at z; simp at z
  ·exact Zs z
 ·show(c.N.map (gx scope)++own scope).length=_;rw[Zu,Zc,C.N]
 ·have hx:(c.N.map (gx scope)++own scope)[i]?=some x:=hx;have hi':i<c.N.length:=by rw[<- C.N]; exact hi
  rw[ZE (by rw[Zc]; exact hi'),ZG,Zb hi'] at hx;have hx:gx scope c.N[i]=x:=Zy hx;have hm:=h6 c.N[i] (Z3 hi');rw[hrel] at hv ⊢;unfold gx at hx
  by_cases hf:isFree scope c.N[i]=true
  ·rw[Zf hf] at hx hm;subst hx;refine⟨by rw[C.N]; exact Zb hi',Au hf,λz=>?_⟩;rw[z] at hm; simp at hm
  ·rw[Zg hf] at hx hm;subst hx;rw[FA hv] at hm; simp at hm
 ·exact Zs h3
end EV

namespace TB
open PySem PySem.SetTable
noncomputable def adv(mask:Nat)(p:Probe):Probe :=
 if p.more>0 then{ p with j:=p.j+1,more:=p.more-1 } else
 { p with j:=(leap mask p.i p.perturb).1,more:=runEnd mask (leap mask p.i p.perturb).1-(leap mask p.i p.perturb).1,i:=(leap mask p.i p.perturb).1,perturb:=(leap mask p.i p.perturb).2 }
theorem vS(t:SetTable)(p:Probe):t.advance p=adv t.mask p:=rfl
noncomputable def bs(mask:Nat)(b:Nat×Nat):Probe:={ j:=b.1,more:=runEnd mask b.1-b.1,i:=b.1,perturb:=b.2,dummy:=none }
noncomputable def st(mask:Nat)(h:Int):Nat->Probe
 | 0=>bs mask (bits h%(mask+1),bits h)
 | k+1=>adv mask (st mask h k)
noncomputable def pos(mask:Nat)(h:Int)(k:Nat):Nat:=(st mask h k).j
noncomputable def dD(mask:Nat):Nat->Probe->Probe
 | 0,p=>p
 | n+1,p=>dD mask n (adv mask p)
theorem lM(mask:Nat):∀(a b:Nat) (p:Probe),dD mask (a+b) p=dD mask b (dD mask a p)
 | 0,b,p=>by rw[Xq]; rfl
 | a+1,b,p=>by rw[Nat.add_right_comm]; exact lM mask a b (adv mask p)
theorem kG(mask:Nat)(h:Int):∀(n k:Nat),dD mask n (st mask h k)=st mask h (k+n)
 | 0,k=>rfl
 | n+1,k=>by
  show dD mask n (st mask h (k+1))=_;rw[kG mask h n (k+1),show k+1+n=k+(n+1) by omega]
theorem pB(mask:Nat)(h:Int):∀k,(st mask h k).dummy=none
 | 0=>rfl
 | k+1=>by
  show(adv mask (st mask h k)).dummy=none;unfold adv;split<;>exact pB mask h k
set_option genInjectivity false in
structure Ok(mask:Nat)(p:Probe):Prop where
 i:p.i<=mask
 q:p.perturb<2^64
 m:p.more<=9
 j:p.j+p.more=runEnd mask p.i
 d:p.dummy=none
theorem wJ(mask i:Nat):runEnd mask i-i<=9:=by unfold runEnd; split<;>omega
theorem mh(mask i:Nat):i<=runEnd mask i:=by unfold runEnd; split<;>omega
theorem w6{mask i:Nat}(h:i<=mask):runEnd mask i<=mask:=by unfold runEnd; split<;>omega
theorem pR{mask:Nat}{b:Nat×Nat}(h1:b.1<=mask)(h2:b.2<2^64):Ok mask (bs mask b) :=
 ⟨h1,h2,wJ mask b.1,Nat.add_sub_cancel' (mh mask b.1),rfl⟩
theorem qH{mask i q:Nat}(h:q<2^64):(leap mask i q).1<=mask/\(leap mask i q).2<2^64:=by
 refine⟨QK.mp (Qy _ (Qj mask)),?_⟩;show q/32<_;omega
theorem Am{mask:Nat}{p:Probe}(h:Ok mask p):Ok mask (adv mask p):=by
 unfold adv;split
 ·rename_i hm;exact⟨h.i,h.q,by show p.more-1<=9; have:=h.m; omega,by show p.j+1+(p.more-1)=runEnd mask p.i; have:=h.j; omega,h.d⟩
 ·have:=qH (mask:=mask) (i:=p.i) h.q;exact⟨this.1,this.2,wJ _ _,Nat.add_sub_cancel' (mh _ _),h.d⟩
theorem p6(h:Int):bits h<2^64:=by
 unfold bits;have h1:=Wa h (show(2^64:Int)≠0 by decide);have h2:=QO h (show(0:Int)<2^64 by decide);omega
theorem dG(mask:Nat)(h:Int):∀k,Ok mask (st mask h k)
 | 0=>pR (QK.mp (Qy _ (Qj mask))) (p6 h)
 | k+1=>Am (dG mask h k)
theorem E1(mask:Nat)(h:Int)(k:Nat):pos mask h k<=mask:=by
 have o:=dG mask h k;have:=w6 o.i;have:=o.j;unfold pos; omega
theorem mw(mask:Nat):∀(a:Nat) (p:Probe),a<=p.more->dD mask a p={ p with j:=p.j+a,more:=p.more-a }
 | 0,p,_=>rfl
 | a+1,p,h=>by
  have e:adv mask p={ p with j:=p.j+1,more:=p.more-1 }:=by unfold adv; rw[Zf (by omega)]
  show dD mask a (adv mask p)=_;rw[e,mw mask a _ (by show a<=p.more-1; omega)];show({ p with j:=p.j+1+a,more:=p.more-1-a }:Probe)=_;congr 1<;>omega
theorem nF{mask:Nat}{p:Probe}(h:p.dummy=none):dD mask (p.more+1) p=bs mask (leap mask p.i p.perturb):=by
 rw[lM,mw mask p.more p (Zl _)];show adv mask { p with j:=p.j+p.more,more:=p.more-p.more }=_;unfold adv;rw[Zg (by show ¬p.more-p.more>0; omega)];unfold bs;rw[<- h]
noncomputable def cz(mask:Nat):Nat->Nat×Nat->Nat×Nat
 | 0,b=>b
 | n+1,b=>cz mask n (leap mask b.1 b.2)
theorem blocks{mask:Nat}:∀(n:Nat) (p:Probe),Ok mask p->∃c,c<=10*(n+1)/\dD mask c p=bs mask (cz mask (n+1) (p.i,p.perturb))
 | 0,p,h=>⟨p.more+1,by have:=h.m; omega,nF h.d⟩
 | n+1,p,h=>by
  have hb:=qH (mask:=mask) (i:=p.i) h.q;obtain⟨c,hc,e⟩:=blocks n (bs mask (leap mask p.i p.perturb)) (pR hb.1 hb.2);refine⟨p.more+1+c,by have:=h.m; omega,?_⟩;rw[lM,nF h.d,e];rfl
theorem rK(mask:Nat):∀(n:Nat) (b:Nat×Nat),(cz mask n b).2=b.2/32^n
 | 0,b=>(Nat.div_one _).symm
 | n+1,b=>by
  show(cz mask n (leap mask b.1 b.2)).2=_;rw[rK mask n];show b.2/32/32^n=_;rw[Nat.div_div_eq_div_mul,Nat.pow_succ,Nat.mul_comm]
theorem sM(mask:Nat):∀(a b:Nat) (x:Nat×Nat),cz mask (a+b) x=cz mask b (cz mask a x)
 | 0,b,x=>by rw[Xq]; rfl
 | a+1,b,x=>by rw[Nat.add_right_comm]; exact sM mask a b _
theorem sQ{mask:Nat}:∀(n:Nat) (b:Nat×Nat),b.1<=mask->(cz mask n b).1<=mask
 | 0,b,h=>h
 | n+1,b,_=>sQ n _ (QK.mp (Qy _ (Qj mask)))
noncomputable def ju(mask:Nat):Nat->Nat->List Nat
 | 0,_=>[]
 | n+1,i=>i::ju mask n ((i*5+1)%(mask+1))
theorem o6{mask:Nat}:∀(n i j:Nat),j∈ju mask n i->∃m,m<n/\(cz mask m (i,0)).1=j
 | 0,i,j,h=>by simp[ju] at h
 | n+1,i,j,h=>by
  rcases Zt.mp h with rfl|h
  ·exact⟨0,by omega,rfl⟩
  ·obtain⟨m,hm,e⟩:=o6 n _ j h;refine⟨m+1,by omega,?_⟩;have e2:leap mask i 0=((i*5+1)%(mask+1),0):=by unfold leap; rw[Nat.zero_div,Nat.add_zero]
   rw[<- e,<- e2];rfl
theorem Bq:∀i<8,∀j<8,j∈ju 7 8 i:=by decide +kernel
theorem Ab:∀i<32,∀j<32,j∈ju 31 32 i:=by decide +kernel
def Msk(mask:Nat):Prop:=mask=7\/mask=31
theorem round{mask:Nat}(hm:Msk mask){i j:Nat}(hi:i<=mask)(hj:j<=mask):∃m,m<=mask/\(cz mask m (i,0)).1=j:=by
 rcases hm with rfl|rfl
 ·obtain⟨m,h,e⟩:=o6 _ _ _ (Bq i (by omega) j (by omega)); exact⟨m,by omega,e⟩
 ·obtain⟨m,h,e⟩:=o6 _ _ _ (Ab i (by omega) j (by omega)); exact⟨m,by omega,e⟩
theorem reach{mask:Nat}(hm:Msk mask){i q j:Nat}(hi:i<=mask)(hq:q<2^64)(hj:j<=mask):∃n,12<=n/\n<=12+mask/\(cz mask (n+1) (i,q)).1=j:=by
 have h0:(cz mask 13 (i,q)).2=0:=by
  rw[rK];exact Nat.div_eq_of_lt (Qv hq (by decide))
 obtain⟨m,h1,e⟩:=round hm (sQ 13 (i,q) hi) hj;refine⟨12+m,by omega,by omega,?_⟩;rw[show 12+m+1=13+m by omega,sM];rw[show cz mask 13 (i,q)=((cz mask 13 (i,q)).1,0) from Prod.ext rfl h0];exact e
theorem cover{mask:Nat}(hm:Msk mask)(h:Int)(k:Nat){j:Nat}(hj:j<=mask):∃d,d<10*turns mask/\pos mask h (k+d)=j:=by
 have o:=dG mask h k;obtain⟨n,h1,h2,e⟩:=reach hm o.i o.q hj;obtain⟨c,hc,e2⟩:=blocks n (st mask h k) o;refine⟨c,by unfold turns; omega,?_⟩;rw[kG] at e2;unfold pos;rw[e2];exact e
end TB

namespace TB
open PySem PySem.SetTable
def Srt(xs:Array Nat):Prop:=∀(i i' v v':Nat),xs[i]?=some v->xs[i']?=some v'->i<i'->v<v'
theorem mE{xs:Array Nat}(hs:Srt xs)(j:Nat):∀(fuel lo hi:Nat),lo<=hi->hi<=xs.size->hi-lo<=fuel->(∀(i v:Nat),xs[i]?=some v->i<lo->v<j)->(∀(i v:Nat),xs[i]?=some v->hi<=i->j<=v) ->
  below.go xs j fuel lo hi<=xs.size/\(∀(i v:Nat),xs[i]?=some v->i<below.go xs j fuel lo hi->v<j)/\∀(i v:Nat),xs[i]?=some v->below.go xs j fuel lo hi<=i->j<=v
 | 0,lo,hi,h1,h2,h3,h4,h5=>by
  have e:lo=hi:=by omega
  subst e;exact⟨h2,h4,h5⟩
 | fuel+1,lo,hi,h1,h2,h3,h4,h5=>by
  by_cases hl:lo<hi
  ·have ego:below.go xs j (fuel+1) lo hi=if xs.getD ((lo+hi)/2) j<j then below.go xs j fuel ((lo+hi)/2+1) hi else below.go xs j fuel lo ((lo+hi)/2):=by
    conv=>lhs; unfold below.go
    rw[Zf hl]
   have hm:(lo+hi)/2<xs.size:=by omega
   have hg:xs[(lo+hi)/2]?=some xs[(lo+hi)/2]:=Zr hm;have hd:xs.getD ((lo+hi)/2) j=xs[(lo+hi)/2]:=by rw[Xh,hg]; rfl
   rw[ego,hd]
   by_cases hv:xs[(lo+hi)/2]<j
   ·rw[Zf hv];refine mE hs j fuel ((lo+hi)/2+1) hi (by omega) h2 (by omega) (λi v e hi'=>?_) h5
    by_cases z:i=(lo+hi)/2
    ·subst z; rw[hg] at e; cases e; exact hv
    ·exact Qv (hs i _ v _ e hg (by omega)) hv
   ·rw[Zg hv];refine mE hs j fuel lo ((lo+hi)/2) (by omega) (by omega) (by omega) h4 λi v e hi'=>?_
    by_cases z:i=(lo+hi)/2
    ·subst z; rw[hg] at e; cases e; omega
    ·have:=hs _ i _ v hg e (by omega); omega
  ·have ego:below.go xs j (fuel+1) lo hi=lo:=by
    conv=>lhs; unfold below.go
    rw[Zg hl]
   have e:lo=hi:=by omega
   subst e;rw[ego];exact⟨h2,h4,h5⟩
theorem m_{xs:Array Nat}(hs:Srt xs)(j:Nat):below xs j<=xs.size/\(∀(i v:Nat),xs[i]?=some v->i<below xs j->v<j)/\∀(i v:Nat),xs[i]?=some v->below xs j<=i->j<=v :=
 mE hs j xs.size 0 xs.size (Xj _) (Zl _) (by omega) (λi v _ h=>by omega) λi v e h=>by
  have:=(ZV.mp e).1; omega
def NotIn(xs:Array Nat)(j:Nat):Prop:=∀i:Nat,xs[i]?≠some j
theorem below_at{xs:Array Nat}(hs:Srt xs){i j:Nat}(e:xs[i]?=some j):below xs j=i:=by
 obtain⟨h1,h2,h3⟩:=m_ hs j;have hi:=(ZV.mp e).1;rcases Wr (below xs j) i with z|z|z
 ·have hg:xs[below xs j]?=some xs[below xs j]:=Zr (by omega);have:=h3 _ _ hg (Zl _);have:=hs _ i _ j hg e z;omega
 ·exact z
 ·have:=h2 i j e z; omega
theorem jA{t:SetTable}(hs:Srt t.place){i j:Nat}(e:t.place[i]?=some j):t.slot j=.live i:=by
 unfold slot;rw[below_at hs e];simp only[e,XO,Xx]
theorem yH{t:SetTable}(hd:t.dummies=#[]){j:Nat}(h:NotIn t.place j):t.slot j=.empty:=by
 unfold slot
 have h1:(t.place[below t.place j]?==some j)=false:=by
  cases q:t.place[below t.place j]?==some j with
  | false=>rfl
  | true=>exact absurd (by simpa using q) (h _)
 simp only[h1,Zx,ZT];rw[hd];rfl
theorem nj{t:SetTable}{f:Nat->Int}{h:Int}:∀(d k fuel:Nat),d<fuel->(∀k',k<=k'->k'<k+d->∃i,t.slot (pos t.mask h k')=.live i/\f i≠h) ->
  probe.go t f h fuel (st t.mask h k)=probe.go t f h (fuel-d) (st t.mask h (k+d))
 | 0,k,fuel,_,_=>rfl
 | d+1,k,0,hf,_=>by omega
 | d+1,k,fuel+1,hf,hw=>by
  obtain⟨i,e,hne⟩:=hw k (Zl _) (by omega);have e:t.slot (st t.mask h k).j=.live i:=e
  conv=>lhs; unfold probe.go
  simp only[e];rw[Zg (by simpa using hne),vS];show probe.go t f h fuel (st t.mask h (k+1))=_;rw[nj d (k+1) fuel (by omega) λk' h1 h2=>hw k' (by omega) (by omega),show fuel+1-(d+1)=fuel-d by omega,show k+1+d=k+(d+1) by omega]
theorem Du{t:SetTable}{f:Nat->Int}{h:Int}{d k:Nat}(hd:d<10*turns t.mask)(hw:∀k',k<=k'->k'<k+d->∃i,t.slot (pos t.mask h k')=.live i/\f i≠h)(he:t.slot (pos t.mask h (k+d))=.empty) :
  t.probe f h (st t.mask h k)=some (.empty (pos t.mask h (k+d)) none):=by
 unfold probe;rw[nj d k _ hd hw];obtain⟨m,hm⟩:∃m,10*turns t.mask-d=m+1:=⟨10*turns t.mask-d-1,by omega⟩
 rw[hm];unfold probe.go;have he:t.slot (st t.mask h (k+d)).j=.empty:=he;simp only[he,pB];rfl
theorem F4{t:SetTable}{f:Nat->Int}{h:Int}{d k i:Nat}(hd:d<10*turns t.mask)(hw:∀k',k<=k'->k'<k+d->∃i,t.slot (pos t.mask h k')=.live i/\f i≠h)(he:t.slot (pos t.mask h (k+d))=.live i)(hi:f i=h) :
  t.probe f h (st t.mask h k)=some (.candidate (pos t.mask h (k+d)) i (st t.mask h (k+d+1))):=by
 unfold probe;rw[nj d k _ hd hw];obtain⟨m,hm⟩:∃m,10*turns t.mask-d=m+1:=⟨10*turns t.mask-d-1,by omega⟩
 rw[hm];unfold probe.go;have he:t.slot (st t.mask h (k+d)).j=.live i:=he;simp only[he];rw[Zf (by simpa using hi),vS];rfl
set_option genInjectivity false in
structure Good{α:Type}(t:SetTable)(es:Array (Int×α)):Prop where
 dum:t.dummies=#[]
 len:t.place.size=es.size
 srt:Srt t.place
 top:∀(i s:Nat),t.place[i]?=some s->s<=t.mask
 msk:Msk t.mask
 way:∀(i s:Nat) e,t.place[i]?=some s->es[i]?=some e->∃k,pos t.mask e.1 k=s/\∀k',k'<k->∃i':Nat,t.place[i']?=some (pos t.mask e.1 k')
variable{α:Type}{t:SetTable}{es:Array (Int×α)}
theorem B8{xs:Array Nat}(hs:Srt xs){mask:Nat}(ht:∀(i s:Nat),xs[i]?=some s->s<=mask)(hl:xs.size<=mask):∃j,j<=mask/\NotIn xs j:=by
 have hnd:xs.toList.Nodup:=by
  refine Qf.mpr λi i' h1 h2 hlt e=>?_
  rw[ZH] at h1 h2;have:=hs i i' _ _ (Zr h1) (Zr h2) hlt;rw[XZ,XZ] at e;omega
 by_cases h:∃j,j<=mask/\NotIn xs j
 ·exact h
 ·exfalso
  have hsub:List.range (mask+1) ⊆ xs.toList:=λj hj=>by
   have hj:j<=mask:=by have:=Z0.mp hj; omega
   by_cases q:NotIn xs j
   ·exact absurd ⟨j,hj,q⟩ h
   ·unfold NotIn at q;simp only[ne_eq,Classical.not_forall,Classical.not_not] at q;obtain⟨i,e⟩:=q;rw[<- ZX] at e;exact ZD e
  have:=(List.nodup_range (n:=mask+1)).length_le_of_subset hsub;rw[ZJ,ZH] at this;omega
end TB

namespace TB
open PySem PySem.SetTable
variable{α:Type}{t:SetTable}{es:Array (Int×α)}
theorem least{P:Nat->Prop}:∀(n:Nat),P n->∃m,m<=n/\P m/\∀k,k<m->¬P k:=by
 intro n
 induction n using Nat.strongRecOn with
 | ind n ih =>
  intro h
  by_cases q:∃k,k<n/\P k
  ·obtain⟨k,hk,hp⟩:=q;obtain⟨m,h1,h2,h3⟩:=ih k hk hp;exact⟨m,by omega,h2,h3⟩
  ·exact⟨n,Zl _,h,λk hk hp=>q ⟨k,hk,hp⟩⟩
set_option genInjectivity false in
structure End(t:SetTable)(h:Int)(K:Nat):Prop where
 lt:K<10*turns t.mask
 free:NotIn t.place (pos t.mask h K)
 full:∀k,k<K->∃i:Nat,t.place[i]?=some (pos t.mask h k)
theorem ze(g:Good t es)(hl:es.size<=t.mask)(h:Int):∃K,End t h K:=by
 obtain⟨j,hj,hn⟩:=B8 g.srt g.top (g.len▸hl);obtain⟨d,hd,e⟩:=cover g.msk h 0 hj;rw[Xq] at e;obtain⟨K,h1,h2,h3⟩:=least (P:=λk=>NotIn t.place (pos t.mask h k)) d (by show NotIn t.place _; rw[e]; exact hn);refine⟨K,by omega,h2,λk hk=>?_⟩;have:=h3 k hk;unfold NotIn at this;simp only[ne_eq,Classical.not_forall,Classical.not_not] at this;exact this
theorem As(g:Good t es){h:Int}{K:Nat}(E:End t h K){i:Nat}{e:Int×α}(he:es[i]?=some e)(hh:e.1=h):∃k,k<K/\t.place[i]?=some (pos t.mask h k):=by
 have hi:=(ZV.mp he).1;have hi':i<t.place.size:=g.len▸hi;have hp:t.place[i]?=some t.place[i]:=Zr hi';obtain⟨k,e1,e2⟩:=g.way i _ e hp he;rw[hh] at e1 e2;refine⟨k,?_,by rw[hp,<- e1]⟩;rcases Wr k K with z|z|z
 ·exact z
 ·subst z; exact absurd (e1▸hp) (E.free i)
 ·obtain⟨i',q⟩:=e2 K z; exact absurd q (E.free i')
theorem yV(g:Good t es){h:Int}{K:Nat}(E:End t h K){f:Nat->Int}{k:Nat}(hk:k<=K) :
  t.probe f h (st t.mask h k)=some (.empty (pos t.mask h K) none)/\(∀(m i:Nat),k<=m->m<K->t.place[i]?=some (pos t.mask h m)->f i≠h) \/
  ∃m i,k<=m/\m<K/\t.place[i]?=some (pos t.mask h m)/\f i=h/\t.slot (pos t.mask h m)=.live i/\t.probe f h (st t.mask h k)=some (.candidate (pos t.mask h m) i (st t.mask h (m+1)))/\∀(m' i':Nat),k<=m'->m'<m->t.place[i']?=some (pos t.mask h m')->f i'≠h:=by
 by_cases q:∃m,k<=m/\m<K/\∃i:Nat,t.place[i]?=some (pos t.mask h m)/\f i=h
 ·obtain⟨m0,q⟩:=q;obtain⟨m,_,⟨h1,h2,i,h3,h4⟩,h5⟩:=least (P:=λm=>k<=m/\m<K/\∃i:Nat,t.place[i]?=some (pos t.mask h m)/\f i=h) m0 q;have hne:∀(m' i':Nat),k<=m'->m'<m->t.place[i']?=some (pos t.mask h m')->f i'≠h:=λm' i' a b c d=>h5 m' b ⟨a,by omega,i',c,d⟩
  refine .inr ⟨m,i,h1,h2,h3,h4,jA g.srt h3,?_,hne⟩
  have:=F4 (t:=t) (f:=f) (h:=h) (d:=m-k) (k:=k) (i:=i) (by have:=E.lt; omega) (λk' a b=>by
   obtain⟨i',e⟩:=E.full k' (by omega);exact⟨i',jA g.srt e,hne k' i' a (by omega) e⟩) (by rw[show k+(m-k)=m by omega]; exact jA g.srt h3) h4
  rw[show k+(m-k)=m by omega] at this;exact this
 ·have hne:∀(m i:Nat),k<=m->m<K->t.place[i]?=some (pos t.mask h m)->f i≠h:=λm i a b c d=>q ⟨m,a,b,i,c,d⟩
  refine .inl ⟨?_,hne⟩
  have:=Du (t:=t) (f:=f) (h:=h) (d:=K-k) (k:=k) (by have:=E.lt; omega) (λk' a b=>by
   obtain⟨i',e⟩:=E.full k' (by omega);exact⟨i',jA g.srt e,hne k' i' a (by omega) e⟩) (by rw[show k+(K-k)=K by omega]; exact yH g.dum E.free)
  rw[show k+(K-k)=K by omega] at this;exact this
theorem g8{β:Type}(xs:Array β){p:Nat}(hp:p<=xs.size)(x:β)(i:Nat):(insertAt xs p x)[i]?=if i<p then xs[i]? else if i=p then some x else xs[i-1]?:=by
 rw[<- ZX,SetTable.toList_insertAt];have hl:(xs.toList.take p).length=p:=by rw[Xz,ZH]; omega
 by_cases h1:i<p
 ·rw[Zf h1];rw[ZE (by omega),QN h1,ZX]
 ·rw[Zg h1];rw[ZN (by omega),hl]
  by_cases h2:i=p
  ·subst h2; rw[Zf rfl,Wb]; rfl
  ·rw[Zg h2];obtain⟨m,rfl⟩:∃m,i=p+1+m:=⟨i-p-1,by omega⟩
   rw[show p+1+m-p=m+1 by omega,show p+1+m-1=p+m by omega];show(xs.toList.drop p)[m]?=_;rw[List.getElem?_drop,ZX]
theorem oW{β:Type}(xs:Array β)(p:Nat)(x:β):(insertAt xs p x).size=xs.size+1:=by
 have:=(SetTable.insertAt_perm xs p x).length_eq;rw[ZH,ZH,Array.size_push] at this;exact this
theorem ED(j:Nat):has #[] j=false:=rfl
theorem Jl(g:Good t es){h:Int}{K:Nat}(E:End t h K)(x:α):Good (t.put (pos t.mask h K)).1 (insertAt es (t.put (pos t.mask h K)).2 (h,x)):=by
 obtain⟨s1,s2,s3⟩:=m_ g.srt (pos t.mask h K);generalize hj:pos t.mask h K=j at s1 s2 s3;have hfree:NotIn t.place j:=hj▸E.free;generalize hp:below t.place j=p at s1 s2 s3;have e1:(t.put j).1.place=insertAt t.place p j:=by unfold put; rw[hp]
 have e2:(t.put j).2=p:=by unfold put; rw[hp]
 have e3:(t.put j).1.mask=t.mask:=rfl
 have e4:(t.put j).1.dummies=#[]:=by
  show(if has t.dummies j then eraseAt t.dummies (below t.dummies j) else t.dummies)=#[];rw[g.dum,ED]; rfl
 have s1':p<=es.size:=g.len▸s1
 have up:∀(i s:Nat),t.place[i]?=some s->∃i':Nat,(insertAt t.place p j)[i']?=some s:=λi s e=>by
  by_cases z:i<p
  ·exact⟨i,by rw[g8 _ s1,Zf z]; exact e⟩
  ·exact⟨i+1,by rw[g8 _ s1,Zg (by omega),Zg (by omega)]; exact e⟩
 refine⟨e4,by rw[e1,e2,oW,oW,g.len],?_,?_,by rw[e3]; exact g.msk,?_⟩
 ·rw[e1];intro i i' v v' a b hlt;rw[g8 _ s1] at a b
  by_cases z:i<p
  ·rw[Zf z] at a
   by_cases z':i'<p
   ·rw[Zf z'] at b; exact g.srt i i' v v' a b hlt
   ·rw[Zg z'] at b
    by_cases w:i'=p
    ·rw[Zf w] at b; cases b; exact s2 i v a z
    ·rw[Zg w] at b; exact g.srt i _ v v' a b (by omega)
  ·rw[Zg z] at a;rw[Zg (by omega),Zg (by omega)] at b
   by_cases w:i=p
   ·rw[Zf w] at a;cases a;have h1:=s3 _ v' b (by omega);have h2:v'≠j:=λq=>hfree _ (q▸b)
    omega
   ·rw[Zg w] at a;exact g.srt _ _ v v' a b (by omega)
 ·rw[e1,e3];intro i s a;rw[g8 _ s1] at a
  by_cases z:i<p
  ·rw[Zf z] at a; exact g.top i s a
  ·rw[Zg z] at a
   by_cases w:i=p
   ·rw[Zf w] at a; cases a; rw[<- hj]; exact E1 _ _ _
   ·rw[Zg w] at a; exact g.top _ s a
 ·rw[e1,e2,e3];intro i s e a b;rw[g8 _ s1] at a;rw[g8 _ s1'] at b
  have old:∀(m s:Nat) e,t.place[m]?=some s->es[m]?=some e->∃k,pos t.mask e.1 k=s/\∀k',k'<k->∃i':Nat,(insertAt t.place p j)[i']?=some (pos t.mask e.1 k'):=λm s e a b=>by
   obtain⟨k,q1,q2⟩:=g.way m s e a b;exact⟨k,q1,λk' hk'=>let⟨i',q⟩:=q2 k' hk'; up i' _ q⟩
  by_cases z:i<p
  ·rw[Zf z] at a b; exact old i s e a b
  ·rw[Zg z] at a b
   by_cases w:i=p
   ·rw[Zf w] at a b;cases a; cases b;exact⟨K,hj,λk' hk'=>let⟨i',q⟩:=E.full k' hk'; up i' _ q⟩
   ·rw[Zg w] at a b; exact old _ s e a b
end TB

namespace TB
open PySem PySem.SetTable
def Occ(owner:Array (Option Nat))(j:Nat):Prop:=∃i:Nat,owner[j]?=some (some i)
theorem mZ{mask:Nat}{h:Int}{c:Nat}{b:Nat×Nat}(e:st mask h c=bs mask b){a:Nat}(ha:b.1+a<=runEnd mask b.1):pos mask h (c+a)=b.1+a:=by
 unfold pos;rw[<- kG,e,mw mask a (bs mask b) (by show a<=runEnd mask b.1-b.1; omega)];rfl
theorem C3{mask:Nat}{h:Int}{c:Nat}{b:Nat×Nat}(e:st mask h c=bs mask b):st mask h (c+(runEnd mask b.1-b.1+1))=bs mask (leap mask b.1 b.2):=by
 rw[<- kG,e];exact nF (p:=bs mask b) rfl
theorem rD{owner:Array (Option Nat)}{j:Nat}(hj:j<owner.size)(h:(owner.getD j (some 0)).isNone=false):Occ owner j:=by
 have hg:owner[j]?=some owner[j]:=Zr hj;rw[Xh,hg] at h;show ∃i:Nat,owner[j]?=some (some i);rw[hg]
 cases q:owner[j] with
 | none=>rw[q] at h; cases h
 | some i=>exact⟨i,rfl⟩
theorem IB{owner:Array (Option Nat)}{j:Nat}(hj:j<owner.size)(h:(owner.getD j (some 0)).isNone=true):owner[j]?=some none:=by
 have hg:owner[j]?=some owner[j]:=Zr hj;rw[Xh,hg] at h;rw[hg]
 cases q:owner[j] with
 | none=>rfl
 | some i=>rw[q] at h; cases h
theorem uP{mask:Nat}{owner:Array (Option Nat)}(hs:owner.size=mask+1){h:Int}{j0:Nat}(hf:owner[j0]?=some none):∀(fuel n:Nat) (b:Nat×Nat) (c:Nat),b.1<=mask->st mask h c=bs mask b->(∀k,k<c->Occ owner (pos mask h k))->(cz mask n b).1=j0->n<fuel ->
  ∃K,layClean.free mask owner fuel b.1 b.2=some (pos mask h K)/\owner[pos mask h K]?=some none/\∀k,k<K->Occ owner (pos mask h k)
 | 0,n,b,c,_,_,_,_,hn=>by omega
 | fuel+1,n,b,c,hb,e,ho,hl,hn=>by
  have hr:=w6 hb;have hge:=mh mask b.1
  cases q:(List.range (runEnd mask b.1+1-b.1)).find? (λk=>(owner.getD (b.1+k) (some 0)).isNone) with
  | some a =>
   obtain⟨h1,h2,h3⟩:=List.find?_range_eq_some.mp q;have h2:=Z0.mp h2;have hp:=mZ e (a:=a) (by omega);refine⟨c+a,?_,?_,λk hk=>?_⟩
   ·unfold layClean.free;rw[q,hp]
   ·rw[hp]; exact IB (by omega) h1
   ·by_cases z:k<c
    ·exact ho k z
    ·obtain⟨m,rfl⟩:∃m,k=c+m:=⟨k-c,by omega⟩
     rw[mZ e (a:=m) (by omega)];exact rD (by omega) (by simpa using h3 m (by omega))
  | none =>
   have h3:=List.find?_range_eq_none.mp q;have occ:∀a,b.1+a<=runEnd mask b.1->Occ owner (b.1+a):=λa ha=>rD (by omega) (by simpa using h3 a (by omega))
   cases n with
   | zero =>
    exfalso;obtain⟨i,w⟩:=occ 0 (by omega);have hl:b.1=j0:=hl;rw[Nat.add_zero,hl,hf] at w;cases w
   | succ n =>
    have hle:(leap mask b.1 b.2).1<=mask:=QK.mp (Qy _ (Qj mask))
    obtain⟨K,r1,r2,r3⟩:=uP hs hf fuel n (leap mask b.1 b.2) (c+(runEnd mask b.1-b.1+1)) hle (C3 e) (λk hk=>by
     by_cases z:k<c
     ·exact ho k z
     ·obtain⟨m,rfl⟩:∃m,k=c+m:=⟨k-c,by omega⟩
      rw[mZ e (a:=m) (by omega)];exact occ m (by omega)) hl (by omega)
    refine⟨K,?_,r2,r3⟩;unfold layClean.free;rw[q];exact r1
theorem zw{mask:Nat}(hm:Msk mask){owner:Array (Option Nat)}(hs:owner.size=mask+1){j0:Nat}(hf:owner[j0]?=some none)(h:Int) :
  ∃K,layClean.free mask owner (turns mask) (bits h%(mask+1)) (bits h)=some (pos mask h K)/\owner[pos mask h K]?=some none/\∀k,k<K->Occ owner (pos mask h k):=by
 have hj:j0<=mask:=by have:=(ZV.mp hf).1; omega
 have hi:bits h%(mask+1)<=mask:=QK.mp (Qy _ (Qj mask));obtain⟨n,h1,h2,e⟩:=reach hm hi (p6 h) hj;exact uP hs hf (turns mask) (n+1) (bits h%(mask+1),bits h) 0 hi rfl (λk hk=>by omega) e (by unfold turns; omega)
set_option genInjectivity false in
structure Own(mask:Nat)(hs:Wx)(owner:Array (Option Nat)):Prop where
 size:owner.size=mask+1
 lt:∀(j i:Nat),owner[j]?=some (some i)->i<hs.length
 ex:∀i:Nat,i<hs.length->∃j:Nat,owner[j]?=some (some i)
 inj:∀(j j' i:Nat),owner[j]?=some (some i)->owner[j']?=some (some i)->j=j'
 way:∀(j i:Nat) h,owner[j]?=some (some i)->hs[i]?=some h->∃K,pos mask h K=j/\∀k,k<K->Occ owner (pos mask h k)
theorem Ff(mask:Nat):Own mask [] (Array.replicate (mask+1) none):=by
 have no:∀(j i:Nat),(Array.replicate (mask+1) (none:Option Nat))[j]?≠some (some i):=λj i e=>by
  rw[Array.getElem?_replicate] at e;split at e<;>cases e
 exact⟨Array.size_replicate,λj i e=>absurd e (no j i),λi h=>absurd h (Nat.not_lt_zero i),λj _ i e=>absurd e (no j i),λj i _ e=>absurd e (no j i)⟩
theorem EH{mask:Nat}{hs:Wx}{owner:Array (Option Nat)}(o:Own mask hs owner)(hl:hs.length<=mask):∃j:Nat,owner[j]?=some none:=by
 by_cases q:∃j:Nat,owner[j]?=some none
 ·exact q
 ·exfalso
  have all:∀j,j<mask+1->∃i:Nat,owner[j]?=some (some i):=λj hj=>by
   have hj':j<owner.size:=by rw[o.size]; exact hj
   have hg:owner[j]?=some owner[j]:=Zr hj'
   cases w:owner[j] with
   | none=>exact absurd ⟨j,by rw[hg,w]⟩ q
   | some i=>exact⟨i,by rw[hg,w]⟩
  let g:Nat->Nat:=λj=>((owner[j]?).getD none).getD 0
  have hg:∀j i:Nat,owner[j]?=some (some i)->g j=i:=λj i e=>by show((owner[j]?).getD none).getD 0=i; rw[e]; rfl
  have hnd:((List.range (mask+1)).map g).Nodup:=by
   refine Ws.mpr (List.Pairwise.imp_of_mem (λ{a b} ha hb hab=>?_) (List.nodup_range (n:=mask+1)));obtain⟨i,e⟩:=all a (Z0.mp ha);obtain⟨i',e'⟩:=all b (Z0.mp hb);rw[hg a i e,hg b i' e'];intro z;subst z;exact hab (o.inj a b i e e')
  have hsub:(List.range (mask+1)).map g ⊆ List.range hs.length:=λx hx=>by
   obtain⟨j,hj,rfl⟩:=ZB.mp hx;obtain⟨i,e⟩:=all j (Z0.mp hj);rw[hg j i e];exact Z0.mpr (o.lt j i e)
  have:=hnd.length_le_of_subset hsub;rw[Zc,ZJ,ZJ] at this;omega
theorem Ca{mask:Nat}(hm:Msk mask){hs:Wx}{owner:Array (Option Nat)}(o:Own mask hs owner)(hl:hs.length<=mask)(h:Int) :
  ∃j,layClean.free mask owner (turns mask) (bits h%(mask+1)) (bits h)=some j/\Own mask (hs++[h]) (owner.setIfInBounds j (some hs.length)):=by
 obtain⟨j0,hf⟩:=EH o hl;obtain⟨K,e1,e2,e3⟩:=zw hm o.size hf h;generalize hj:pos mask h K=j at e1 e2;have hjl:j<owner.size:=(ZV.mp e2).1
 have get:∀x:Nat,(owner.setIfInBounds j (some hs.length))[x]?=if x=j then some (some hs.length) else owner[x]?:=λx=>by
  rw[Array.getElem?_setIfInBounds]
  by_cases z:j=x
  ·subst z; rw[Zf rfl,Zf hjl,Zf rfl]
  ·rw[Zg z,Zg (λq=>z q.symm)]
 have keep:∀x:Nat,Occ owner x->Occ (owner.setIfInBounds j (some hs.length)) x:=λx ⟨i,w⟩=>⟨i,by
  rw[get,Zg (λq=>by subst q; rw[e2] at w; cases w)]; exact w⟩
 refine⟨j,e1,?_,?_,?_,?_,?_⟩
 ·rw[Array.size_setIfInBounds]; exact o.size
 ·intro x i w;rw[get] at w;rw[Zu,XR];split at w
  ·cases w; omega
  ·have:=o.lt x i w; omega
 ·intro i hi;rw[Zu,XR] at hi
  by_cases z:i=hs.length
  ·subst z; exact⟨j,by rw[get,Zf rfl]⟩
  ·obtain⟨x,w⟩:=o.ex i (by omega);exact⟨x,by rw[get,Zg (λq=>by subst q; rw[e2] at w; cases w)]; exact w⟩
 ·intro x x' i w w';rw[get] at w w'
  by_cases z:x=j
  ·by_cases z':x'=j
   ·rw[z,z']
   ·rw[Zf z] at w; rw[Zg z'] at w';cases w;have:=o.lt x' _ w'; omega
  ·rw[Zg z] at w
   by_cases z':x'=j
   ·rw[Zf z'] at w';cases w';have:=o.lt x _ w; omega
   ·rw[Zg z'] at w'; exact o.inj x x' i w w'
 ·intro x i h' w hh;rw[get] at w
  by_cases z:x=j
  ·rw[Zf z] at w;cases w;rw[ZN (Zl _),Wb] at hh;cases hh;exact⟨K,by rw[hj,z],λk hk=>keep _ (e3 k hk)⟩
  ·rw[Zg z] at w;rw[ZE (o.lt x i w)] at hh;obtain⟨K',r1,r2⟩:=o.way x i h' w hh;exact⟨K',r1,λk hk=>keep _ (r2 k hk)⟩
theorem wg{mask:Nat}(hm:Msk mask):∀(rest done:Wx) (owner:Array (Option Nat)),Own mask done owner->done.length+rest.length<=mask+1 ->
  ∃o',(rest.foldl (λ(acc:Option (Array (Option Nat)×Nat)) h=>do let(owner,k) <- acc; let j <- layClean.free mask owner (turns mask) (bits h%(mask+1)) (bits h); pure (owner.setIfInBounds j (some k),k+1)) (some (owner,done.length)))=some (o',(done++rest).length)/\Own mask (done++rest) o'
 | [],done,owner,o,_=>⟨owner,by rw[XV]; rfl,by rw[XV]; exact o⟩
 | h::rest,done,owner,o,hl=>by
  rw[ZF] at hl;obtain⟨j,e,o2⟩:=Ca hm o (by omega) h;obtain⟨o',e',o3⟩:=wg hm rest (done++[h]) _ o2 (by rw[Zu,XR]; omega);rw[Zq] at e' o3;refine⟨o',?_,o3⟩;rw[Q8];rw[Zu,XR] at e'
  have:(do let(owner,k) <- some (owner,done.length); let j <- layClean.free mask owner (turns mask) (bits h%(mask+1)) (bits h); pure (owner.setIfInBounds j (some k),k+1))=some (owner.setIfInBounds j (some done.length),done.length+1):=by
   show(layClean.free mask owner (turns mask) (bits h%(mask+1)) (bits h)).bind (λj=>some (owner.setIfInBounds j (some done.length),done.length+1))=_;rw[e]; rfl
  rw[this];exact e'
theorem BB{mask:Nat}(hm:Msk mask)(hs:Array Int)(hl:hs.size<=mask+1):∃o',layClean mask hs=some o'/\Own mask hs.toList o':=by
 obtain⟨o',e,o⟩:=wg hm hs.toList [] _ (Ff mask) (by rw[X9,ZH]; omega);rw[X8] at e o;refine⟨o',?_,o⟩;unfold layClean;rw[<- Array.foldl_toList];rw[X9] at e;rw[e];rfl
end TB

namespace TB
open PySem PySem.SetTable
variable{α:Type}{es:Array (Int×α)}
theorem uI:∀{l:List Nat},(∀i∈l,i<es.size)->(l.filterMap (es[·]?)).length=l.length/\∀m:Nat,(l.filterMap (es[·]?))[m]?=l[m]?.bind (es[·]?)
 | [],_=>⟨rfl,λm=>by simp⟩
 | i::l,h=>by
  have hi:=h i Zk;obtain⟨h1,h2⟩:=uI (l:=l) λx hx=>h x (Zm _ hx)
  have e:es[i]?=some es[i]:=Zr hi;rw[Xu,e];refine⟨by rw[ZF,ZF,h1],λm=>?_⟩
  cases m with
  | zero=>rw[List.getElem?_cons_zero,List.getElem?_cons_zero]; exact e.symm
  | succ m=>rw[List.getElem?_cons_succ,List.getElem?_cons_succ]; exact h2 m
noncomputable def bK(mask:Nat)(owner:Array (Option Nat)):List (Nat×Nat):=(List.range (mask+1)).filterMap λj=>(owner.getD j none).map (j,·)
theorem Hi{mask:Nat}{owner:Array (Option Nat)}(hs:owner.size=mask+1)(j i:Nat):(j,i)∈bK mask owner ↔ owner[j]?=some (some i):=by
 unfold bK;rw[QL];constructor
 ·rintro⟨x,hx,e⟩;have hx:x<owner.size:=by rw[hs]; exact Z0.mp hx
  have hg:owner[x]?=some owner[x]:=Zr hx;rw[Xh,hg] at e
  cases q:owner[x] with
  | none=>rw[q] at e; cases e
  | some y =>
   rw[q] at e;have e:(x,y)=(j,i):=by simpa using e
   cases e;rw[hg,q]
 ·intro e;have hj:j<owner.size:=(ZV.mp e).1;refine⟨j,Z0.mpr (by omega),?_⟩;rw[Xh,e]; rfl
theorem G_(mask:Nat)(owner:Array (Option Nat)):(bK mask owner).Pairwise λa b=>a.1<b.1:=by
 refine List.Pairwise.filterMap _ (λa a' hlt b hb b' hb'=>?_) List.pairwise_lt_range
 cases q:owner.getD a none with
 | none=>rw[q] at hb; cases hb
 | some y =>
  cases q':owner.getD a' none with
  | none=>rw[q'] at hb'; cases hb'
  | some y' =>
   rw[q] at hb; rw[q'] at hb';have hb:(a,y)=b:=by simpa using hb
   have hb':(a',y')=b':=by simpa using hb'
   subst hb; subst hb';exact hlt
theorem AW{l l':List Nat}(h:l.Nodup)(h':l'.Nodup)(hm:∀a,a∈l ↔ a∈l'):l.Perm l':=by
 rw[List.perm_iff_count];intro a;rw[h.count,h'.count]
 by_cases q:a∈l
 ·rw[Zf q,Zf ((hm a).mp q)]
 ·rw[Zg q,Zg (λz=>q ((hm a).mpr z))]
theorem AH{mask:Nat}(hm:Msk mask)(es:Array (Int×α))(hl:es.size<=mask+1)(finger moves:Nat)(led plain:Bool) :
  ∃t' order,laid mask finger moves led plain (es.map (·.1))=some (t',order)/\Good t' (order.filterMap (es[·]?))/\(order.filterMap (es[·]?)).size=es.size/\(order.filterMap (es[·]?)).toList.Perm es.toList /\
   t'={ mask:=mask,place:=t'.place,dummies:=#[],finger:=finger,led:=led,moves:=moves,plain:=plain }:=by
 obtain⟨owner,e,o⟩:=BB hm (es.map (·.1)) (by rw[Array.size_map]; exact hl);have hlen:(es.map (·.1)).toList.length=es.size:=by rw[ZH,Array.size_map]
 have hm':=Hi o.size;have hlt:=G_ mask owner
 have hi:∀i∈(bK mask owner).map (·.2),i<es.size:=λi hi=>by
  obtain⟨⟨j,i'⟩,h1,rfl⟩:=ZB.mp hi;have:=o.lt j i' ((hm' j i').mp h1);rw[hlen] at this;exact this
 obtain⟨f1,f2⟩:=uI (es:=es) hi
 have hnd:((bK mask owner).map (·.2)).Nodup:=by
  refine Ws.mpr (List.Pairwise.imp_of_mem (λ{a b} ha hb hab=>?_) hlt);obtain⟨j,i⟩:=a;obtain⟨j',i'⟩:=b;intro z;have z:i=i':=z;subst z;have:=o.inj j j' i ((hm' j i).mp ha) ((hm' j' i).mp hb);subst this;exact absurd hab (Xe _)
 have hperm:((bK mask owner).map (·.2)).Perm (List.range es.size):=AW hnd List.nodup_range λa=>by
  constructor
  ·intro h; exact Z0.mpr (hi a h)
  ·intro h;obtain⟨j,w⟩:=o.ex a (by rw[hlen]; exact Z0.mp h);exact ZB.mpr ⟨(j,a),(hm' j a).mpr w,rfl⟩
 have hfm:(((bK mask owner).map (·.2)).toArray.filterMap (es[·]?)).toList=((bK mask owner).map (·.2)).filterMap (es[·]?):=by rw[Array.toList_filterMap]
 have hget:∀m:Nat,(((bK mask owner).map (·.2)).toArray.filterMap (es[·]?))[m]?=((bK mask owner).map (·.2))[m]?.bind (es[·]?):=λm=>by rw[<- ZX,hfm,f2]
 have hsize:(((bK mask owner).map (·.2)).toArray.filterMap (es[·]?)).size=es.size:=by
  rw[<- ZH,hfm,f1,hperm.length_eq,ZJ]
 refine⟨_,_,by unfold laid; rw[e]; rfl,?_,hsize,?_,rfl⟩
 ·have pget:∀m:Nat,((bK mask owner).map (·.1)).toArray[m]?=(bK mask owner)[m]?.map (·.1):=λm=>by rw[List.getElem?_toArray,ZG]
  refine⟨rfl,?_,?_,?_,hm,?_⟩
  ·show((bK mask owner).map (·.1)).toArray.size=_;rw[hsize,Zo,Zc];have:=hperm.length_eq;rw[Zc,ZJ] at this;exact this
  ·intro i i' v v' a b hlt';have a:((bK mask owner).map (·.1)).toArray[i]?=some v:=a;have b:((bK mask owner).map (·.1)).toArray[i']?=some v':=b;rw[pget] at a b;obtain⟨x,hx,rfl⟩:=ZC.mp a;obtain⟨y,hy,rfl⟩:=ZC.mp b;obtain⟨h1,e1⟩:=Zh.mp hx;obtain⟨h2,e2⟩:=Zh.mp hy;have:=Qf.mp hlt i i' h1 h2 hlt';rw[e1,e2] at this;exact this
  ·intro i s a;have a:((bK mask owner).map (·.1)).toArray[i]?=some s:=a;rw[pget] at a;obtain⟨⟨j,k⟩,hx,rfl⟩:=ZC.mp a;have:=(ZV.mp ((hm' j k).mp (ZD hx))).1;have:=o.size;show j<=mask;omega
  ·intro i s e' a b;have a:((bK mask owner).map (·.1)).toArray[i]?=some s:=a;have b:(((bK mask owner).map (·.2)).toArray.filterMap (es[·]?))[i]?=some e':=b;rw[pget] at a;obtain⟨⟨j,k⟩,hx,rfl⟩:=ZC.mp a;rw[hget,ZG,hx] at b;have b:es[k]?=some e':=b;have hown:=(hm' j k).mp (ZD hx);have hh:(es.map (·.1)).toList[k]?=some e'.1:=by rw[ZX,Array.getElem?_map,b]; rfl
   obtain⟨K,r1,r2⟩:=o.way j k e'.1 hown hh;refine⟨K,r1,λk' hk'=>?_⟩;obtain⟨i2,w⟩:=r2 k' hk';obtain⟨m,hm2⟩:=ZS ((hm' _ i2).mpr w);exact⟨m,by show((bK mask owner).map (·.1)).toArray[m]?=_; rw[pget,hm2]; rfl⟩
 ·rw[hfm];have:=hperm.filterMap (es[·]?);rw[filterMap_getElem?_range] at this;exact this
end TB

namespace TB
open PySem PySem.SetTable
section
variable{prog:WC}{w:WG}{A:Around}{E:Wv}{s:WA}
abbrev TK(prog:WC)(w:WG)(h:Heap)(ks:Wx)(b:Addr):Prop:=IsTupleKey (intKind prog w) h ks b
noncomputable def hsh(prog:WC)(w:WG)(ks:Wx):Int:=tupleKeyHash (intKind prog w) ks
set_option genInjectivity false in
structure El(prog:WC)(w:WG)(h:Heap)(e:Int×Value)(ks:Wx):Prop where
 hash:e.1=hsh prog w ks
 ref:∃b,e.2=.ref b/\TK prog w h ks b
theorem r9{ks:Wx}{vs:Wz}(h:ItemsAre (intKind prog w) ks vs):∀v∈vs,∃i t,v=Value.int i t:=by
 induction h with
 | nil=>intro v hv; cases hv
 | cons h1 _ ih =>
  intro v hv;rcases Zt.mp hv with rfl|hv
  ·obtain⟨t,e⟩:=Qr h1; exact⟨_,t,e⟩
  ·exact ih v hv
theorem vE(n:Nat){ks:Wx}{b:Addr}{Q:Bool->Shared->Prop}(hk:TK prog w s.heap ks b)(h:Q false s):wpAny (model prog w) A (ofAClassStatement (n+1) (.ref b)) Q E s:=by
 obtain⟨o,items,m,ho,hc,hd,hi⟩:=hk;unfold ofAClassStatement;refine Za (wpAny_typeOf_ref ho ?_);rw[hc];refine Za (Ze ?_);simp only[Qc,Zx,ZT];refine Za (XJ ho hd ?_);refine Za ?_;show wpAny _ _ (forIn items _ _) _ _ s;rw[<- Array.forIn_toList];refine QA _ (λrest r z=>r.1=none/\z=s/\∀v∈rest,∃i t,v=Value.int i t) _ ?_ ?_ _ _ ⟨rfl,rfl,r9 hi⟩
 ·rintro v rest r z ⟨hr,rfl,hall⟩;obtain⟨i,t,rfl⟩:=hall v Zk;have e:ofAClassStatement n (Value.int i t)=pure false:=by cases n<;>rfl
  rw[e];refine Za (Ze ?_);exact Ze ⟨rfl,rfl,λu hu=>hall u (Zm _ hu)⟩
 ·rintro⟨r1,r2⟩ z ⟨hr,rfl,_⟩;have hr:r1=none:=hr;subst hr;exact Ze h
theorem BL{ks:Wx}{b:Addr}{ys:Wz}{Q:Bool->Shared->Prop}(hk:TK prog w s.heap ks b)(hy:∀y∈ys,∃js c,y=Value.ref c/\TK prog w s.heap js c)(h:Q false s):wpAny (model prog w) A (searchCouldBeSeen (.ref b) ys) Q E s:=by
 unfold searchCouldBeSeen;refine Za (QA _ (λrest r z=>r.1=none/\z=s/\∀y∈rest,∃js c,y=Value.ref c/\TK prog w s.heap js c) _ ?_ ?_ _ _ ⟨rfl,rfl,hy⟩)
 ·rintro y rest r z ⟨hr,rfl,hall⟩;obtain⟨js,c,rfl,hc⟩:=hall y Zk;have hrest:∀y∈rest,∃js c,y=Value.ref c/\TK prog w z.heap js c:=λu hu=>hall u (Zm _ hu)
  dsimp only;split
  ·exact Ze ⟨rfl,rfl,hrest⟩
  ·refine Za (wpAny_eqIsQuiet_tuple hk ?_);simp only[Qc,Zx,ZT];refine Za (wpAny_eqIsQuiet_tuple hc ?_);simp only[Qc,Zx,ZT];refine Za (vE 7 hk ?_);simp only[Zx,ZT];refine Za (vE 7 hc ?_);simp only[Zx,ZT];exact Ze ⟨rfl,rfl,hrest⟩
 ·rintro⟨r1,r2⟩ z ⟨hr,rfl,_⟩;have hr:r1=none:=hr;subst hr;exact Ze h
def j3(prog:WC)(w:WG)(h:Heap)(es:WH)(L:WB):Prop:=L.length=es.size/\∀(i:Nat) e ks,es[i]?=some e->L[i]?=some ks->El prog w h e ks
theorem j3.get{h:Heap}{es:WH}{L:WB}(k:j3 prog w h es L){i:Nat}{e:Int×Value}(he:es[i]?=some e):∃ks,L[i]?=some ks/\El prog w h e ks:=by
 have hi:=(ZV.mp he).1;have hi':i<L.length:=by rw[k.1]; exact hi
 have hl:L[i]?=some L[i]:=Zb hi';exact⟨_,hl,k.2 i e _ he hl⟩
theorem fQ{t:SetTable}{es:WH}(g:Good t es)(hl:es.size<=t.mask):t.fits es.size=true:=by
 unfold SetTable.fits SetTable.fill;rw[g.dum,g.len];simp only[XO,Bool.true_and,decide_eq_true_eq];exact hl
theorem Dk{mask:Nat}(h:Msk mask):(mask%2==0)=false:=by rcases h with rfl|rfl<;>rfl
theorem rO{t:SetTable}{f f':Nat->Int}{h:Int}{p:SetTable.Probe}{r:Option SetTable.Met}(e:t.probe f h p=r)(hf:∀i,f' i=f i):t.probe f' h p=r:=by rw[show f'=f from funext hf]; exact e
theorem Ct{a c:Addr}{o:Obj}{es:WH}{ep:Nat}{t:SetTable}{L:WB}{ks:Wx}{Q:SetFound->Shared->Prop}(hu:A.units<cLine)
  (ho:s.heap.get? a=some o) (hd:o.data=.set es ep t) (g:Good t es) (hl:es.size<=t.mask) (K:j3 prog w s.heap es L) (hk:TK prog w s.heap ks c) {M:Nat} (EN:End t (hsh prog w ks) M)
  (h1:ks∈L->Q (.there none) s) (h2:ks∉L->Q (.free (pos t.mask (hsh prog w ks) M) false) s) :
  ∀(n fuel k:Nat) (stand:Option SetTable.Probe),M-k=n->n<fuel->k<=M->stand.getD (t.probeStart (hsh prog w ks))=st t.mask (hsh prog w ks) k ->
   (∀(m i:Nat),m<k->t.place[i]?=some (pos t.mask (hsh prog w ks) m)->L[i]?≠some ks) ->
   wpAny (model prog w) A (setSearchFrom a (.ref c) (hsh prog w ks) true fuel stand) Q E s:=by
 intro n
 induction n using Nat.strongRecOn with
 | ind n ih =>
  intro fuel k stand hn hf hkM hst hprev;obtain⟨fuel,rfl⟩:∃f,fuel=f+1:=⟨fuel-1,by omega⟩
  have hfit:=fQ g hl;unfold setSearchFrom;refine Za (XM ho hd hfit ?_);dsimp only;have hgw:t.gaveWay=false:=Dk g.msk;rw[hgw];simp only[Zx,ZT];rw[hst];have hsto:∀(i:Nat) e,es[i]?=some e->(es[i]?.map (·.1)).getD 0=e.1:=λi e he=>by rw[he]; rfl
  rcases yV g EN (f:=λi=>(es[i]?.map (·.1)).getD 0) hkM with⟨hp,hne⟩|⟨m,i,hkm,hmM,hpi,hfi,hslot,hp,hne⟩
  ·rw[rO hp]
   rotate_left
   ·exact λi=>rfl
   refine Ze (h2 λhmem=>?_);obtain⟨i,hi⟩:=ZS hmem;have hi':i<es.size:=by rw[<- K.1]; exact(Zh.mp hi).1
   have he:es[i]?=some es[i]:=Zr hi';have hel:=K.2 i _ ks he hi;obtain⟨m,hm,hpl⟩:=As g EN he hel.hash
   by_cases z:m<k
   ·exact hprev m i z hpl hi
   ·exact hne m i (by omega) hm hpl ((hsto i _ he).trans hel.hash)
  ·rw[rO hp]
   rotate_left
   ·exact λi=>rfl
   dsimp only;have hi':i<es.size:=by rw[<- g.len]; exact(ZV.mp hpi).1
   have he:es[i]?=some es[i]:=Zr hi';obtain⟨js,hjs,hel⟩:=K.get he;obtain⟨b,hb,hkb⟩:=hel.ref
   have hstored:∀y∈(es.filter (·.1==hsh prog w ks)).toList.map (·.2),∃js c,y=Value.ref c/\TK prog w s.heap js c:=λy hy=>by
    obtain⟨e,h3,rfl⟩:=ZB.mp hy
    have h3:e∈es:=by
     rw[Array.toList_filter] at h3;exact Array.mem_def.mpr (QI.mp h3).1
    obtain⟨i',hi'⟩:=Array.getElem?_of_mem h3;obtain⟨js',_,hel'⟩:=K.get hi';obtain⟨b',q1,q2⟩:=hel'.ref;exact⟨js',b',q1,q2⟩
   have rest:wpAny (model prog w) A (do
     let some (_,y):=es[i]?|unsupported "internal:set-entry"
     let equal <- holding [y] (eqBool y (.ref c))
     let(es',_,t') <- setState a
     if true&&equal then return .there none
     let some same:=t'.sameMemory t.moves t.mask|unsupported "set.changed-during-lookup:is-the-new-block-at-the-old-address"
     let aF <- match (if same then t'.slot (pos t.mask (hsh prog w ks) m) else .empty) with
      | .live i'=>match es'[i']? with
       | some (_,y')=>do pure (if <- isSame y' y then some i' else none)
       | none=>pure none
      | _=>pure none
     match aF with
     | none=>rule "set.search.anew"; setSearchFrom a (.ref c) (hsh prog w ks) true fuel none
     | some i'=>if equal then return .there (some i') else setSearchFrom a (.ref c) (hsh prog w ks) true fuel (some (st t.mask (hsh prog w ks) (m+1)))) Q E s:=by
    rw[he];rcases hE:es[i] with⟨eh,ev⟩
    rw[hE] at hb;have hb:ev=.ref b:=hb;subst hb;dsimp only;refine Za (XE (wpAny_eqBool_tuple hu hkb hk ?_));refine Za (XM ho hd hfit ?_);dsimp only
    by_cases hq:js=ks
    ·subst hq;rw[Zi rfl];simp only[Wl,Xx];exact Ze (h1 (ZD hjs))
    ·rw[Zw hq];simp only[Bool.and_false,Zx,ZT];have hsm:t.sameMemory t.moves t.mask=some true:=by unfold SetTable.sameMemory; simp only[XO,Xx]
     rw[hsm];simp only[Xx];rw[hslot];dsimp only;rw[he,hE];dsimp only;refine Za (wpAny_isSame_ref_self (Za (Ze ?_)));simp only[Xx];refine ih (M-(m+1)) (by omega) fuel (m+1) _ rfl (by omega) (by omega) rfl λm' i' hm' hpl=>?_
     by_cases z:m'<k
     ·exact hprev m' i' z hpl
     ·by_cases z2:m'=m
      ·subst z2
       have:i'=i:=by
        have r1:=below_at g.srt hpl;have r2:=below_at g.srt hpi;omega
       subst this;rw[hjs];intro q;cases q;exact hq rfl
      ·intro q;have hi2:i'<es.size:=by rw[<- g.len]; exact(ZV.mp hpl).1
       have he2:es[i']?=some es[i']:=Zr hi2;exact hne m' i' (by omega) (by omega) hpl ((hsto i' _ he2).trans (K.2 i' _ ks he2 q).hash)
   cases hled:t.led with
   | true =>
    simp only[Qc,Zx,ZT];exact rest
   | false =>
    simp only[Bool.not_false,Xx];refine Za (BL hk hstored ?_);simp only[Zx,ZT];exact rest
end
end TB

namespace TB
open PySem PySem.SetTable
section
variable{prog:WC}{w:WG}{A:Around}{E:Wv}{s:WA}
set_option genInjectivity false in
inductive Els(prog:WC)(w:WG)(h:Heap):List (Int×Value)->List (List Int)->Prop
 | nil:Els prog w h [] []
 | cons {e:Int×Value} {ks:Wx} {l:List (Int×Value)} {L:WB}:El prog w h e ks->Els prog w h l L->Els prog w h (e::l) (ks::L)
variable{h:Heap}
theorem Els.length:∀{l:List (Int×Value)} {L:WB},Els prog w h l L->L.length=l.length
 | _,_,.nil=>rfl
 | _,_,.cons _ r=>by rw[ZF,ZF,r.length]
theorem Els.get:∀{l:List (Int×Value)} {L:WB},Els prog w h l L->∀(i:Nat) e ks,l[i]?=some e->L[i]?=some ks->El prog w h e ks
 | _,_,.nil,i,e,ks,a,_=>by simp at a
 | _,_,.cons q r,0,e,ks,a,b=>by cases a; cases b; exact q
 | _,_,.cons q r,i+1,e,ks,a,b=>r.get i e ks a b
theorem Els.keys{es:WH}{L:WB}(x:Els prog w h es.toList L):j3 prog w h es L :=
 ⟨by rw[x.length,ZH],λi e ks a b=>x.get i e ks (by rw[ZX]; exact a) b⟩
theorem Els.perm{l l':List (Int×Value)}(p:l.Perm l'):∀{L:WB},Els prog w h l' L->∃L',Els prog w h l L'/\L'.Perm L:=by
 induction p with
 | nil=>intro L x; cases x; exact⟨[],.nil,.nil⟩
 | cons e _ ih=>intro L x; cases x with|cons q r=>obtain⟨L',a,b⟩:=ih r; exact⟨_,.cons q a,b.cons _⟩
 | swap e e' l=>intro L x; cases x with|cons q r=>cases r with|cons q' r'=>exact⟨_,.cons q' (.cons q r'),.swap ..⟩
 | trans _ _ ih1 ih2 =>
  intro L x;obtain⟨L1,a1,b1⟩:=ih2 x;obtain⟨L2,a2,b2⟩:=ih1 a1;exact⟨L2,a2,b2.trans b1⟩
theorem Els.snoc:∀{l:List (Int×Value)} {L:WB} {e:Int×Value} {ks:Wx},Els prog w h l L->El prog w h e ks->Els prog w h (l++[e]) (L++[ks])
 | _,_,_,_,.nil,q=>.cons q .nil
 | _,_,_,_,.cons a r,q=>.cons a (r.snoc q)
theorem Els.mono{h':Heap}(f:∀ks b,TK prog w h ks b->TK prog w h' ks b):∀{l:List (Int×Value)} {L:WB},Els prog w h l L->Els prog w h' l L
 | _,_,.nil=>.nil
 | _,_,.cons ⟨a,b,c,d⟩ r=>.cons ⟨a,b,c,f _ _ d⟩ (r.mono f)
theorem rW{a b:Addr}{h':Heap}{ks:Wx}{o:Obj}{es:WH}{ep:Nat}{t:SetTable}(ho:h.get? a=some o)(hd:o.data=.set es ep t)(q:Heap.SameBut a h h')(x:TK prog w h ks b):TK prog w h' ks b:=by
 obtain⟨ob,items,n,x1,x2,x3,x4⟩:=x;refine⟨ob,items,n,(q.2 b λz=>?_).trans x1,x2,x3,x4⟩;subst z;rw[ho] at x1;cases x1;rw[hd] at x3;cases x3
noncomputable def byT(w:WG):Bool:=w.params.followText "set-order"
def bU(prog:WC)(w:WG)(lim:Addr->Prop)(h:Heap)(a:Addr)(L:WB):Prop:=∃o es ep t,h.get? a=some o/\o.ExactSet/\o.data=.set es ep t/\Good t es/\(t.plain=true/\t.led=!byT w)/\es.size*5<t.mask*3/\Els prog w h es.toList L/\L.Nodup /\
 ∀e∈es.toList,∀b,e.2=.ref b->lim b
theorem IP{ks:Wx}{c:Addr}{Q:Bool->Shared->Prop}(hk:TK prog w s.heap ks c)(q:Q true s):wpAny (model prog w) A (hashByValue 8 (.ref c)) Q E s:=by
 have hT:=hk.typeIs;obtain⟨o,items,m,ho,hc,hd,hi⟩:=hk;unfold hashByValue;refine Za (wpAny_specialOf hT F.slot_tuple_hash.lookup ?_);show wpAny _ _ (seqItems? (.ref c)>>=_) _ _ s;refine Za (XJ ho hd ?_);refine Za ?_;show wpAny _ _ (forIn items _ _) _ _ s;rw[<- Array.forIn_toList];refine QA _ (λrest r z=>r.1=none/\z=s/\∀v∈rest,∃i t,v=Value.int i t) _ ?_ ?_ _ _ ⟨rfl,rfl,r9 hi⟩
 ·rintro v rest r z ⟨hr,rfl,hall⟩;obtain⟨i,t,rfl⟩:=hall v Zk;have e:∀n,hashByValue n (Value.int i t)=pure true:=λn=>by cases n<;>rfl
  rw[e];refine Za (Ze ?_);exact Ze ⟨rfl,rfl,λu hu=>hall u (Zm _ hu)⟩
 ·rintro⟨r1,r2⟩ z ⟨hr,rfl,_⟩;have hr:r1=none:=hr;subst hr;exact Ze q
theorem ya{mask:Nat}(hm:Msk mask):10*turns mask<100000:=by rcases hm with rfl|rfl<;>decide
theorem uf{a:Addr}{o:Obj}{es:WH}{ep:Nat}{t:SetTable}(ho:h.get? a=some o)(hd:o.data=.set es ep t)(es':WH)(t':SetTable) :
  (h.update a (Obj.putSet es' t')).get? a=some { o with data:=.set es' (ep+1) t' }:=by
 have q:=Z7 (Obj.putSet es' t') ho (by rw[putSet_of es' t' hd]; rfl);rw[putSet_of es' t' hd] at q;exact q
theorem Ae{a c:Addr}{L:WB}{ks:Wx}{Q:Bool->Shared->Prop}(hu:A.units<cLine){lim:Addr->Prop}(hs:bU prog w lim s.heap a L)(hn:L.length<=17)(hk:TK prog w s.heap ks c)(hc:lim c)
  (q:∀r h' L',Heap.SameBut a s.heap h'->bU prog w lim h' a L'->(∀x,x∈L' ↔ x∈L\/x=ks)->L'.length<=L.length+1->Q r { s with heap:=h' }) :
  wpAny (model prog w) A (setAddHashed a (.ref c) (hsh prog w ks)) Q E s:=by
 obtain⟨o,es,ep,t,ho,hex,hd,g,hpl,hsz,hels,hnd,hlim⟩:=hs;have hlen:L.length=es.size:=by rw[hels.length,ZH]
 have hl:es.size<=t.mask:=by rcases g.msk with z|z<;>omega
 have hfit:=fQ g hl;obtain⟨M,EN⟩:=ze g hl (hsh prog w ks);have hts:=ya g.msk;have hML:=EN.lt;unfold setAddHashed setAddHashedIn;refine XE (Za (XM ho hd hfit ?_));dsimp only;have hbs:byScan (.ref c) es=false:=rfl;rw[hbs];simp only[Zx,ZT];unfold setSearch;refine Za (Ct hu ho hd g hl hels.keys hk EN (λhm=>?_) (λhm=>?_) M 100000 0 none (Nat.sub_zero M) (by omega) (Xj _) rfl (λm i hm=>absurd hm (Nat.not_lt_zero m)))
 ·have e:s={ s with heap:=s.heap }:=by cases s; rfl
  rw[e];exact Ze (q _ s.heap L (Heap.SameBut.refl a s.heap) ⟨o,es,ep,t,ho,hex,hd,g,hpl,hsz,hels,hnd,hlim⟩ (λx=>⟨.inl,λz=>z.elim id λz=>z▸hm⟩) (Qq _))
 dsimp only;refine Za (XM ho hd hfit ?_);dsimp only;have g1:=Jl g EN (Value.ref c);generalize hp:t.put (pos t.mask (hsh prog w ks) M)=TP at g1;have hmask:TP.1.mask=t.mask:=by rw[<- hp]; rfl
 have hplain:TP.1.plain=true:=by rw[<- hp]; exact hpl.1
 have hled:TP.1.led=!byT w:=by rw[<- hp]; exact hpl.2
 obtain⟨t1,p⟩:=TP;have hmask:t1.mask=t.mask:=hmask;have hplain:t1.plain=true:=hplain;have hled:t1.led=!byT w:=hled;have g1:Good t1 (insertAt es p (hsh prog w ks,.ref c)):=g1;dsimp only;rw[hplain];simp only[Xx];refine Za (IP hk ?_);simp only[Xx];have hperm:=SetTable.insertAt_perm es p (hsh prog w ks,Value.ref c);rw[Array.toList_push] at hperm;have hz1:(insertAt es p (hsh prog w ks,Value.ref c)).size=es.size+1:=oW _ _ _;obtain⟨L1,x1,y1⟩:=Els.perm hperm (hels.snoc (e:=(hsh prog w ks,Value.ref c)) ⟨rfl,c,rfl,hk⟩);have hL1:L1.length=L.length+1:=by rw[y1.length_eq,Zu,XR]
 have hnd1:L1.Nodup:=y1.nodup_iff.mpr (QZ.mpr ⟨hnd,by simp,λx hx y hy=>by rw[ZY.mp hy]; intro z; exact hm (z▸hx)⟩);have hm1:∀x,x∈L1 ↔ x∈L\/x=ks:=λx=>by rw[y1.mem_iff,ZR,ZY]
 have hlim1:∀e∈(insertAt es p (hsh prog w ks,Value.ref c)).toList,∀b,e.2=.ref b->lim b:=λe he b hb=>by
  rcases ZR.mp (hperm.mem_iff.mp he) with z|z
  ·exact hlim e z b hb
  ·rw[ZY.mp z] at hb; cases hb; exact hc
 generalize insertAt es p (hsh prog w ks,Value.ref c)=es1 at g1 hz1 x1 hlim1;have hline:∀n:Nat,n<=100->n<=sizeLine:=λn h=>by rw[Qp]; omega
 have ho1:=uf (h:=s.heap) ho hd es1 t1;have sb1:=Xg s.heap a (Obj.putSet es1 t1);refine Za (wpAny_storeSet_of ho hd ?_ (hline _ (by omega)));have hl1:es1.size<=t1.mask:=by rw[hmask]; rcases g.msk with z|z<;>omega
 have hfill:t1.fill=es1.size:=by unfold SetTable.fill; rw[g1.dum,g1.len]; rfl
 have x1':=x1.mono λks b z=>rW ho hd sb1 z
 by_cases hfull:t1.tooFull=true
 ·rw[hfull];simp only[Bool.not_false,Wl,Xx];have hfull:t1.fill*5 ≥ t1.mask*3:=Zs hfull;rw[hfill,hmask,hz1] at hfull;have h4:es.size=4:=by rcases g.msk with z|z<;>omega
  unfold setRelay;refine Za ?_;refine Za (XM ho1 rfl (fQ g1 hl1) ?_);dsimp only;have hw:SetTable.grown (es.size+1)=20:=by rw[h4]; rfl
  rw[hw];have h32:SetTable.sizeAbove 20=32:=by decide
  have hno:¬(SetTable.sizeAbove 20>sizeLine):=by rw[h32,Qp]; omega
  rw[Zg hno];obtain⟨t2,order,e2,g2,z2,p2,f2⟩:=AH (mask:=31) (.inr rfl) es1 (by omega) t1.finger (t1.movedTo 31) t1.led t1.plain;have hrel:t1.relaid (es1.map (·.1)) 20=some (t2,order):=by unfold SetTable.relaid; rw[h32]; exact e2
  have hplain2:t2.plain=true:=by rw[f2]; exact hplain
  have hled2:t2.led=!byT w:=by rw[f2]; exact hled
  have hmask2:t2.mask=31:=by rw[f2]
  rw[show(es1.map λx=>x.1)=es1.map (·.1) from rfl,hrel];obtain⟨L2,x2,y2⟩:=Els.perm p2 x1';generalize hes2:order.filterMap (es1[·]?)=es2 at g2 z2 p2 x2;have ho2:=uf ho1 rfl es2 t2;have sb2:=Xg (s.heap.update a (Obj.putSet es1 t1)) a (Obj.putSet es2 t2);refine Za (Qg (a:=(es2,t2)) ?_ ?_)
  ·show(ite _ _ _:Sem (Array (Int×Value)×SetTable))=_;refine(Zg ?_).trans ?_
   ·rw[hes2,z2]; simp
   ·rw[hes2]
  ·refine wpAny_storeSet_of ho1 rfl ?_ (hline _ (by show es2.size<=100; omega));refine Ze (q _ _ L2 (sb1.trans sb2) ⟨_,es2,_,t2,ho2,hex,rfl,g2,⟨hplain2,hled2⟩,by omega,x2.mono λks b z=>rW ho1 rfl sb2 z,y2.nodup_iff.mpr hnd1,λe he=>hlim1 e (p2.mem_iff.mp he)⟩ (λx=>by rw[y2.mem_iff,hm1]) (by rw[y2.length_eq]; omega))
 ·have hfull':t1.tooFull=false:=by simpa using hfull
  rw[hfull'];simp only[Bool.and_false,Zx,ZT];have hnf:¬(t1.fill*5 ≥ t1.mask*3):=λz=>hfull (Zi z)
  rw[hfill] at hnf;exact Ze (q _ _ L1 sb1 ⟨_,es1,ep+1,t1,ho1,hex,rfl,g1,⟨hplain,hled⟩,by omega,x1',hnd1,hlim1⟩ hm1 (by omega))
theorem bU.keep{lim:Addr->Prop}{a:Addr}{h':Heap}{L:WB}(x:bU prog w lim h a L)(k:∀b o,lim b\/b=a->h.get? b=some o->h'.get? b=some o):bU prog w lim h' a L:=by
 obtain⟨o,es,ep,t,ho,hex,hd,g,hpl,hsz,hels,hnd,hlim⟩:=x;refine⟨o,es,ep,t,k a o (.inr rfl) ho,hex,hd,g,hpl,hsz,?_,hnd,hlim⟩
 have all:∀(l:List (Int×Value)) (L:WB),(∀e∈l,∀b,e.2=.ref b->lim b)->Els prog w h l L->Els prog w h' l L:=by
  intro l L hl q
  induction q with
  | nil=>exact .nil
  | @cons e ks l L q r ih =>
   obtain⟨q1,b,q2,ob,items,n,x1,x2⟩:=q;exact .cons ⟨q1,b,q2,ob,items,n,k b ob (.inl (hl e Zk b q2)) x1,x2⟩ (ih λe' he'=>hl e' (Zm _ he'))
 exact all _ _ hlim hels
theorem FO(finger moves:Nat)(led:Bool):Good (.fresh finger moves led) (#[]:Array (Int×Value)) :=
 ⟨rfl,rfl,λi _ v _ e=>by simp[SetTable.fresh] at e,λi v e=>by simp[SetTable.fresh] at e,.inl rfl,λi v _ e=>by simp[SetTable.fresh] at e⟩
theorem bU.new{lim:Addr->Prop}{a:Addr}(ho:h.get? a=some { cls:=.type "set",dict:=none,data:=.set #[] 0 (.fresh 0 0 (!byT w)) }):bU prog w lim h a [] :=
 ⟨_,#[],0,_,ho,⟨rfl,rfl,rfl⟩,rfl,FO 0 0 _,⟨rfl,rfl⟩,(show 0*5<7*3 by decide),.nil,QS,λe he=>by simp at he⟩
end
end TB

namespace TB
open PySem PyProof.Rows
noncomputable def aD:List Int->List Int->Bool
 | [],[]=>false
 | [],_::_=>true
 | _::_,[]=>false
 | a::r,b::q=>if a=b then aD r q else decide (a<b)
section
variable{prog:WC}{w:WG}{A:Around}{E:Wv}{s:WA}
theorem BW{k:Bool}{a b:Int}{t u:Tok}{Q:Bool->Shared->Prop}(q:Q (decide (a<b)) s):wpAny (model prog w) A (oneLt' k (.int a t) (.int b u)) Q E s:=by
 cases k with
 | true=>exact oneLt_int q
 | false =>
  rw[oneLt'_eq];simp only[Zx,ZT];exact Za (wpAny_lt_int (Xi q))
theorem DU(k:Bool)(x y:Value):keyLt' (tuples' k) x y=(do
  let xs <- Builtin.List.listItems x; let ys <- Builtin.List.listItems y
  for ((p,q),i) in (xs.toList.zip ys.toList).zipIdx do
   if !(<- eqBool p q) then return <- oneLt' (k&&i==0) p q
  return xs.size<ys.size):=rfl
theorem Gv{k:Bool}{ks js:Wx}{x y:Addr}{Q:Bool->Shared->Prop}(hx:TK prog w s.heap ks x)(hy:TK prog w s.heap js y)(q:Q (aD ks js) s):wpAny (model prog w) A (keyLt' (tuples' k) (.ref x) (.ref y)) Q E s:=by
 obtain⟨ox,xs,nx,hox,_,hdx,hix⟩:=hx;obtain⟨oy,ys,ny,hoy,_,hdy,hiy⟩:=hy;rw[DU];refine Za (listItems_at hox hdx (Za (listItems_at hoy hdy (Za ?_))))
 refine QA _ (λrest r z=>r.1=none/\z=s/\∃ks' js' xs' ys' n,rest=(xs'.zip ys').zipIdx n/\ItemsAre (intKind prog w) ks' xs'/\ItemsAre (intKind prog w) js' ys'/\aD ks' js'=aD ks js/\decide (xs'.length<ys'.length)=decide (xs.size<ys.size)) _ ?_ ?_ _ _
  ⟨rfl,rfl,ks,js,xs.toList,ys.toList,0,rfl,hix,hiy,rfl,by rw[ZH,ZH]⟩
 ·rintro⟨⟨u,v⟩,i⟩ rest r z ⟨hr,rfl,ks',js',xs',ys',n,hz,h1,h2,hl,hs⟩
  cases h1 with
  | nil=>simp at hz
  | @cons a u' ks2 xs2 ha h1 =>
   cases h2 with
   | nil=>simp at hz
   | @cons b v' js2 ys2 hb h2 =>
    simp only[List.zip_cons_cons,List.zipIdx_cons,List.cons.injEq,Prod.mk.injEq] at hz;obtain⟨⟨⟨rfl,rfl⟩,rfl⟩,rfl⟩:=hz;refine Za ((intKind prog w).eqBool ha hb ?_);obtain⟨t,rfl⟩:=Qr ha;obtain⟨t',rfl⟩:=Qr hb
    by_cases e:a=b
    ·subst e;rw[Zi rfl];simp only[Qc,Zx,ZT];refine Ze ⟨rfl,rfl,ks2,js2,xs2,ys2,i+1,rfl,h1,h2,?_,?_⟩
     ·rw[<- hl,aD,Zf rfl]
     ·rw[<- hs]; simp
    ·rw[Zw e];simp only[Bool.not_false,Xx];have e2:aD ks js=decide (a<b):=by rw[<- hl,aD,Zg e]
     rw[e2] at q;exact Za (BW (Ze (Ze q)))
 ·rintro⟨r1,r2⟩ z ⟨hr,rfl,ks',js',xs',ys',n,hz,h1,h2,hl,hs⟩;have hr:r1=none:=hr;subst hr
  have e:aD ks js=decide (xs.size<ys.size):=by
   rw[<- hl,<- hs]
   cases h1 with
   | nil=>cases h2 with
    | nil=>rfl
    | cons _ _=>rfl
   | cons _ _=>cases h2 with
    | nil=>rfl
    | cons _ _=>simp at hz
  rw[e] at q;exact Ze q
theorem F9{ks:Wx}{c:Addr}{Q:Option Value->Shared->Prop}(hk:TK prog w s.heap ks c)(hne:ks≠[])(q:∀i t,Q (some (.int i t)) s):wpAny (model prog w) A (firstOfTuple' (.ref c)) Q E s:=by
 obtain⟨o,items,n,ho,hc,hd,hi⟩:=hk;show wpAny _ _ (typeOf (.ref c)>>=_) _ _ s;refine Za (wpAny_typeOf_ref ho ?_);rw[hc];rw[Zg (by simp)];refine Za (listItems_at ho hd (Ze ?_))
 cases hv:items.toList with
 | nil=>rw[hv] at hi; cases hi; exact absurd rfl hne
 | cons v r =>
  rw[hv] at hi
  cases hi with
  | @cons k _ _ _ h1 _ =>
   obtain⟨t,rfl⟩:=Qr h1;have e:items[0]?=some (Value.int k t):=by rw[<- ZX,hv]; rfl
   rw[e];exact q _ _
theorem tQ:∀{vs:Wz} {Q:List (Option Value)->Shared->Prop},(∀v∈vs,∃ks c,v=.ref c/\TK prog w s.heap ks c/\ks≠[])->(∀l:List (Int×Tok),l.length=vs.length->Q (l.map λp=>some (.int p.1 p.2)) s) ->
  wpAny (model prog w) A (vs.mapM firstOfTuple') Q E s
 | [],Q,_,q=>by
  rw[List.mapM_nil];exact Ze (q [] rfl)
 | v::vs,Q,hv,q=>by
  obtain⟨ks,c,rfl,hk,hne⟩:=hv v Zk;rw[List.mapM_cons];refine Za (F9 hk hne λi t=>Za (tQ (vs:=vs) (λu hu=>hv u (Zm _ hu)) λl hl=>Ze ?_));exact q ((i,t)::l) (by rw[ZF,ZF,hl])
theorem qU:∀l:List (Int×Tok),(l.map λp=>Value.int p.1 p.2).mapM typeOf=(pure (l.map λ_=>Value.type "int"):Sem (List Value))
 | []=>by simp
 | p::l=>by
  rw[ZK,List.mapM_cons,qU l];show(pure (Value.type "int")>>=λb=>pure _>>=λbs=>pure (b::bs))=_;simp
theorem yK{vs:Wz}{Q:SortKind->Shared->Prop}(hne:vs≠[])(hv:∀v∈vs,∃ks c,v=.ref c/\TK prog w s.heap ks c/\ks≠[])(q:Q (tuples' true) s):wpAny (model prog w) A (keyKind' vs.toArray) Q E s:=by
 rw[keyKind'_eq,List.mapM_toArray];refine Za ?_;rw[map_eq_pure_bind];refine Za (tQ hv λl hl=>Ze ?_);rw[Zf (by simp)];refine Za (QB ?_);have e:((l.map λp=>some (Value.int p.1 p.2)).toArray.filterMap id)=(l.map λp=>Value.int p.1 p.2).toArray:=by simp
 rw[e,oneTypeOnly'_eq,List.mapM_toArray,qU];simp only[map_pure,pure_bind];obtain⟨p,r,rfl⟩:∃p r,l=p::r:=QE λz=>hne (List.length_eq_zero_iff.mp (by rw[<- hl,z]; rfl))
 have h0:(List.map (λ_=>Value.type "int") (p::r)).toArray[0]?=some (Value.type "int"):=rfl
 have ha:((List.map (λ_=>Value.type "int") (p::r)).toArray.all λx=>x==Value.type "int")=true:=by
  rw[List.all_toArray,List.all_map,Xn]; intro _ _; rfl
 rw[h0];simp only[ha,Xx,pure_bind];exact Ze q
end
end TB

namespace TB
open PySem PyProof.Rows
theorem lex_irrefl:∀a,aD a a=false
 | []=>rfl
 | a::r=>by rw[aD,Zf rfl,lex_irrefl r]
theorem lex_trans:∀a b c,aD a b=true->aD b c=true->aD a c=true
 | [],[],c,h,_=>by cases h
 | [],_::_,[],_,h=>by cases h
 | [],_::_,_::_,_,_=>rfl
 | _::_,[],_,h,_=>by cases h
 | _::_,_::_,[],_,h=>by cases h
 | a::r,b::q,c::p,h1,h2=>by
  rw[aD] at h1 h2 ⊢
  by_cases e1:a=b
  ·subst e1;rw[Zf rfl] at h1
   by_cases e2:a=c
   ·subst e2; rw[Zf rfl] at h2 ⊢; exact lex_trans r q p h1 h2
   ·rw[Zg e2] at h2 ⊢; exact h2
  ·rw[Zg e1] at h1;have h1:=Zs h1
   by_cases e2:b=c
   ·subst e2; rw[Zg e1]; exact Zi h1
   ·rw[Zg e2] at h2;have h2:=Zs h2;rw[Zg (by omega)]; exact Zi (by omega)
theorem j8:∀a b,aD a b=false->aD b a=false->a=b
 | [],[],_,_=>rfl
 | [],_::_,h,_=>by cases h
 | _::_,[],_,h=>by cases h
 | a::r,b::q,h1,h2=>by
  rw[aD] at h1 h2
  by_cases e:a=b
  ·subst e; rw[Zf rfl] at h1 h2; rw[j8 r q h1 h2]
  ·rw[Zg e] at h1; rw[Zg (Ne.symm e)] at h2;have h1:=Wi h1;have h2:=Wi h2;omega
theorem Aw(a b c:Wx)(h:aD a c=true):aD a b=true\/aD b c=true:=by
 cases h1:aD a b with
 | true=>exact .inl rfl
 | false =>
  cases h2:aD b a with
  | true=>exact .inr (lex_trans b a c h2 h)
  | false=>rw[<- j8 a b h1 h2]; exact .inr h
noncomputable def kT(key:Value->List Int):PyProof.Rows.KeyKind:={ α:=List Int,blt:=aD,irrefl:=lex_irrefl,trans:=lex_trans,negTrans:=Aw,total:=j8,keyOf:=λv=>some (key v),dflt:=[] }
noncomputable def at'(key:Value->List Int)(xs:Array Keyed)(i:Nat):List Int:=KK (kT key) xs i
theorem iA{key:Value->List Int}{xs:Array Keyed}{i:Nat}{p:Keyed}(h:xs[i]?=some p):at' key xs i=key p.1:=by unfold at' KK; rw[h]; rfl
set_option genInjectivity false in
structure Bas(key:Value->List Int)(a0:Array Keyed)(z:SortSt):Prop where
 perm:(arrOf z).Perm a0
 kind:kindOf z=tuples' true
 fail:failedOf z=none
 pend:pendingOf z=#[]
def Diff(key:Value->List Int)(xs:Array Keyed):Prop:=(xs.toList.map λp=>key p.1).Nodup
theorem Diff.perm{key:Value->List Int}{xs ys:Array Keyed}(p:xs.Perm ys)(d:Diff key ys):Diff key xs:=(((QG.mp p).map _).nodup_iff).mpr d
theorem Diff.ne{key:Value->List Int}{xs:Array Keyed}(d:Diff key xs){i j:Nat}(hi:i<xs.size)(hj:j<xs.size)(hij:i≠j):at' key xs i≠at' key xs j:=by
 intro e;have ei:xs[i]?=some xs[i]:=Zr hi;have ej:xs[j]?=some xs[j]:=Zr hj;rw[iA ei,iA ej] at e;have hl:(xs.toList.map λp=>key p.1).length=xs.size:=by rw[Zc,ZH]
 have gi:(xs.toList.map λp=>key p.1)[i]'(by omega)=key xs[i].1:=by rw[XC,XZ]
 have gj:(xs.toList.map λp=>key p.1)[j]'(by omega)=key xs[j].1:=by rw[XC,XZ]
 have:=Qf.mp d;rcases Nat.lt_or_gt_of_ne hij with z|z
 ·exact this i j (by omega) (by omega) z (by rw[gi,gj]; exact e)
 ·exact this j i (by omega) (by omega) z (by rw[gi,gj]; exact e.symm)
theorem Diff.or{key:Value->List Int}{xs:Array Keyed}(d:Diff key xs){i j:Nat}(hi:i<xs.size)(hj:j<xs.size)(hij:i≠j)(h:aD (at' key xs i) (at' key xs j)=false):aD (at' key xs j) (at' key xs i)=true:=by
 cases q:aD (at' key xs j) (at' key xs i) with
 | true=>rfl
 | false=>exact absurd (j8 _ _ h q) (d.ne hi hj hij)
def Up(key:Value->List Int)(xs:Array Keyed)(n:Nat):Prop:=∀i j,i<j->j<n->aD (at' key xs i) (at' key xs j)=true
def Down(key:Value->List Int)(xs:Array Keyed)(n:Nat):Prop:=∀i j,i<j->j<n->aD (at' key xs j) (at' key xs i)=true
theorem Up.more{key:Value->List Int}{xs:Array Keyed}{n:Nat}(u:Up key xs n)(hn:1<=n)(h:aD (at' key xs (n-1)) (at' key xs n)=true):Up key xs (n+1):=λi j hij hj=>by
 by_cases z:j<n
 ·exact u i j hij z
 ·obtain rfl:j=n:=by omega
  by_cases y:i=j-1
  ·subst y; exact h
  ·exact lex_trans _ _ _ (u i (j-1) (by omega) (by omega)) h
theorem Down.more{key:Value->List Int}{xs:Array Keyed}{n:Nat}(u:Down key xs n)(hn:1<=n)(h:aD (at' key xs n) (at' key xs (n-1))=true):Down key xs (n+1):=λi j hij hj=>by
 by_cases z:j<n
 ·exact u i j hij z
 ·obtain rfl:j=n:=by omega
  by_cases y:i=j-1
  ·subst y; exact h
  ·exact lex_trans _ _ _ h (u i (j-1) (by omega) (by omega))
section
variable{prog:WC}{w:WG}{A:Around}{E:Wv}{s:WA}{a0:Array Keyed}{key:Value->List Int}
def Cmp(prog:WC)(w:WG)(A:Around)(s:WA)(key:Value->List Int)(a0:Array Keyed):Prop:=∀(E:Wv) (x y:Keyed) (Q:Bool->Shared->Prop),x∈a0.toList->y∈a0.toList->Q (aD (key x.1) (key y.1)) s->wpAny (model prog w) A (keyLt' (tuples' true) x.1 y.1) Q E s
theorem jm{z:SortSt}{i j:Nat}{Q:Option Bool->SortSt->Prop}(C:Cmp prog w A s key a0)(B:Bas key a0 z)(hi:i<a0.size)(hj:j<a0.size)(q:Q (some (aD (at' key (arrOf z) i) (at' key (arrOf z) j))) z) :
  wpS (model prog w) A E s (ltAt' i j) Q z:=by
 have sz:=B.perm.size_eq;have hi':i<(arrOf z).size:=by omega
 have hj':j<(arrOf z).size:=by omega
 have ei:(arrOf z)[i]?=some (arrOf z)[i]:=Zr hi';have ej:(arrOf z)[j]?=some (arrOf z)[j]:=Zr hj';have mem:∀(k:Nat) (hk:k<(arrOf z).size),(arrOf z)[k]∈a0.toList:=λk hk=>(QG.mp B.perm).mem_iff.mp (by simp)
 rw[iA ei,iA ej] at q;rw[ltAt'_eq];refine Z2 (wpS_get (Z2 ?_)); rw[elem'_eq,ei];refine Xt (Z2 ?_); rw[elem'_eq,ej];refine Xt ?_; rw[lt'_eq];refine Z2 (wpS_get (Z2 ?_)); rw[B.kind];exact wpS_lift (XG (C _ _ _ _ (mem i hi') (mem j hj') ⟨rfl,Xt q⟩))
theorem vP{z:SortSt}{a n:Nat}{Q:AscSt->SortSt->Prop}(C:Cmp prog w A s key a0)(B:Bas key a0 z)(D:Diff key a0)(hn:n<=a0.size)(ha:1<=a)(han:a<=n)(u:Up key (arrOf z) a)
  (q:∀m,a<=m->m<=n->Up key (arrOf z) m->(m=n\/aD (at' key (arrOf z) m) (at' key (arrOf z) (m-1))=true)->Q (none,m) z):wpS (model prog w) A E s (ascLoop a n) Q z:=by
 have sz:=B.perm.size_eq;have D':=D.perm B.perm;unfold ascLoop;refine QQ (λx c y=>y=z/\c=(none,x)/\Up key (arrOf z) x) (λx c y h1 h2=>?_) (λc y=>?_) ⟨rfl,rfl,u⟩
 ·rintro⟨rfl,rfl,ux⟩;refine Z2 (jm C B (by omega) (by omega) ?_)
  cases hb:aD (at' key (arrOf y) x) (at' key (arrOf y) (x-1)) with
  | true=>exact Xt (q x h1 (by omega) ux (.inr hb))
  | false=>exact Xt ⟨rfl,rfl,ux.more (by omega) (D'.or (by omega) (by omega) (by omega) hb)⟩
 ·rintro⟨rfl,rfl,ux⟩;rw[show max a n=n by omega] at ux ⊢;exact q n han (Zl n) ux (.inl rfl)
theorem Io{z:SortSt}{a n:Nat}{Q:DescSt->SortSt->Prop}(C:Cmp prog w A s key a0)(B:Bas key a0 z)(D:Diff key a0)(hn:n<=a0.size)(ha:1<=a)(han:a<=n)(u:Down key (arrOf z) a)
  (q:∀m,a<=m->m<=n->Down key (arrOf z) m->Q (none,m,0) z):wpS (model prog w) A E s (descLoop a n) Q z:=by
 have sz:=B.perm.size_eq;have D':=D.perm B.perm;unfold descLoop;refine QQ (λx c y=>y=z/\c=(none,x,0)/\Down key (arrOf z) x) (λx c y h1 h2=>?_) (λc y=>?_) ⟨rfl,rfl,u⟩
 ·rintro⟨rfl,rfl,ux⟩;dsimp only;refine Z2 (jm C B (by omega) (by omega) ?_)
  cases hb:aD (at' key (arrOf y) x) (at' key (arrOf y) (x-1)) with
  | true=>exact Xt ⟨rfl,rfl,ux.more (by omega) hb⟩
  | false =>
   refine Z2 (jm C B (by omega) (by omega) ?_);rw[D'.or (by omega) (by omega) (by omega) hb];exact Xt (q x h1 (by omega) ux)
 ·rintro⟨rfl,rfl,ux⟩;rw[show max a n=n by omega] at ux ⊢;exact q n han (Zl n) ux
theorem Bas.put{z:SortSt}(B:Bas key a0 z){xs:Array Keyed}(p:xs.Perm (arrOf z)):Bas key a0 (setArr z xs):=⟨p.trans B.perm,B.kind,B.fail,B.pend⟩
theorem EF{z:SortSt}{m n:Nat}{Q:Option Nat->SortSt->Prop}(C:Cmp prog w A s key a0)(B:Bas key a0 z)(D:Diff key a0)(hn:n<=a0.size)(hm:1<=m)(hmn:m<=n)(u:Down key (arrOf z) m)
  (q:∀k y,Bas key a0 y->1<=k->k<=n->Up key (arrOf y) k->Q (some k) y):wpS (model prog w) A E s (tail3 m n) Q z:=by
 have sz:=B.perm.size_eq;unfold tail3;refine Z2 (wpS_reverse ?_);have B':Bas key a0 (setArr z (mirror (arrOf z) 0 m ((m-0)/2))):=B.put (mirror_perm _ _ _ _);have hz:m<=(arrOf z).size:=by omega
 refine Z2 (vP C B' D hn hm hmn (λi j hij hj=>?_) λk h1 h2 h3 _=>Xt (q k _ B' (by omega) h2 h3));show aD (KK (kT key) (mirror (arrOf z) 0 m ((m-0)/2)) i) (KK (kT key) (mirror (arrOf z) 0 m ((m-0)/2)) j)=true;rw[KK_mirror hz,KK_mirror hz,Zf ⟨Xj _,by omega⟩,Zf ⟨Xj _,hj⟩];exact u _ _ (by omega) (by omega)
theorem D4{z:SortSt}{n:Nat}{Q:Option Nat->SortSt->Prop}(C:Cmp prog w A s key a0)(B:Bas key a0 z)(D:Diff key a0)(hn:n<=a0.size)(h1:1<=n)
  (q:∀k y,Bas key a0 y->1<=k->k<=n->Up key (arrOf y) k->Q (some k) y):wpS (model prog w) A E s (countRun' 0 n) Q z:=by
 rw[countRun0_eq];refine Z2 (vP C B D hn (Zl 1) h1 (λi j a b=>by omega) λm hm1 hm2 um hor=>?_);dsimp only
 by_cases e:m=n
 ·rw[Zf (by simpa using e)]; exact Xt (q m z B hm1 hm2 um)
 rw[Zg (by simpa using e)];have hlt:=hor.resolve_left e
 by_cases g:m>1
 ·rw[Zf g];refine Z2 (jm C B (by omega) (by omega) ?_);rw[um 0 (m-1) (by omega) (by omega)];exact Xt (q m z B hm1 hm2 um)
 ·rw[Zg g];obtain rfl:m=1:=by omega
  unfold descPart;refine Z2 (wpS_lift (QB ⟨rfl,Z2 ?_⟩));refine Io C B D hn (by decide) (by omega) (λi j a b=>?_) λk k1 k2 k3=>?_
  ·obtain rfl:i=0:=by omega
   obtain rfl:j=1:=by omega
   exact hlt
  ·show wpS _ _ _ _ (tail3 k n) Q z;exact EF C B D hn (by omega) k2 k3 q
end
end TB

namespace TB
open PySem PyProof.Rows
section
variable{prog:WC}{w:WG}{A:Around}{E:Wv}{s:WA}{a0:Array Keyed}{key:Value->List Int}
theorem HJ{z:SortSt}{k l:Nat}(hk:k<(arrOf z).size)(hl:l<=k)(u:Up key (arrOf z) k)(lo:∀i,i<l->aD (at' key (arrOf z) i) (at' key (arrOf z) k)=true)(hi:∀i,l<=i->i<k->aD (at' key (arrOf z) k) (at' key (arrOf z) i)=true) :
  Up key (bubble (arrOf z) k (k-l)) (k+1):=λi j hij hj=>by
 show aD (KK (kT key) (bubble (arrOf z) k (k-l)) i) (KK (kT key) (bubble (arrOf z) k (k-l)) j)=true;rw[KK_bubble hk (by omega),KK_bubble hk (by omega),show k-(k-l)=l by omega];have u:∀i j,i<j->j<k->aD (KK (kT key) (arrOf z) i) (KK (kT key) (arrOf z) j)=true:=u;have lo:∀i,i<l->aD (KK (kT key) (arrOf z) i) (KK (kT key) (arrOf z) k)=true:=lo;have hi:∀i,l<=i->i<k->aD (KK (kT key) (arrOf z) k) (KK (kT key) (arrOf z) i)=true:=hi
 repeat' split
 all_goals first
  | (exfalso; omega)
  | exact lo _ (by omega)
  | exact hi _ (by omega) (by omega)
  | exact u _ _ (by omega) (by omega)
theorem zu{z:SortSt}{n ok:Nat}{Q:Bool->SortSt->Prop}(C:Cmp prog w A s key a0)(B:Bas key a0 z)(D:Diff key a0)(hn:n<=a0.size)(hok:ok<=n)(u:Up key (arrOf z) ok)
  (q:∀y,Bas key a0 y->Up key (arrOf y) n->Q true y):wpS (model prog w) A E s (binarySort' 0 n ok) Q z:=by
 rw[binarySort'_eq]; simp only[Xq];refine Z2 (wpS_mono (QQ (λx c y=>c=(none,())/\Bas key a0 y/\Up key (arrOf y) (min x n)) (Q:=λc y=>c=(none,())/\Bas key a0 y/\Up key (arrOf y) n) (λk c y h1 h2=>?_) (λc y=>?_) ⟨rfl,B,λi j a b=>?_⟩) λc y=>?_)
 ·rintro⟨rfl,By,uy⟩;rw[show min k n=k by omega] at uy;have sz:=By.perm.size_eq;have Dy:=D.perm By.perm
  refine Z2 (wpS_mono (QQ (λx c y'=>y'=y/\∃l r,c=(none,l,r)/\l<=r/\r<=k/\r-l<=k-x/\(∀i,i<l->aD (at' key (arrOf y) i) (at' key (arrOf y) k)=true)/\∀i,r<=i->i<k->aD (at' key (arrOf y) k) (at' key (arrOf y) i)=true)
   (Q:=λc y'=>y'=y/\∃l r,c=(none,l,r)/\l<=k/\(∀i,i<l->aD (at' key (arrOf y) i) (at' key (arrOf y) k)=true)/\∀i,l<=i->i<k->aD (at' key (arrOf y) k) (at' key (arrOf y) i)=true) (λx c y' g1 g2=>?_) (λc y'=>?_) ⟨rfl,0,k,rfl,by omega,by omega,by omega,λi a=>by omega,λi a b=>by omega⟩) λc y'=>?_)
  ·rintro⟨rfl,l,r,rfl,e1,e2,e3,e4,e5⟩;dsimp only
   by_cases g:l ≥ r
   ·rw[Zf g];obtain rfl:l=r:=by omega
    exact Xt ⟨rfl,l,l,rfl,e2,e4,e5⟩
   rw[Zg g];refine Z2 (jm C By (by omega) (by omega) ?_)
   cases hb:aD (at' key (arrOf y') k) (at' key (arrOf y') ((l+r)/2)) with
   | true =>
    refine Xt ⟨rfl,l,(l+r)/2,rfl,by omega,by omega,by omega,e4,λi a b=>?_⟩
    by_cases e:i=(l+r)/2
    ·subst e; exact hb
    ·exact lex_trans _ _ _ hb (uy _ _ (by omega) b)
   | false =>
    have hb':=Dy.or (by omega) (by omega) (by omega) hb;refine Xt ⟨rfl,(l+r)/2+1,r,rfl,by omega,by omega,by omega,λi a=>?_,e5⟩
    by_cases e:i=(l+r)/2
    ·subst e; exact hb'
    ·exact lex_trans _ _ _ (uy i _ (by omega) (by omega)) hb'
  ·rintro⟨rfl,l,r,rfl,e1,e2,e3,e4,e5⟩;obtain rfl:l=r:=by omega
   exact⟨rfl,l,l,rfl,e2,e4,e5⟩
  ·rintro⟨rfl,l,r,rfl,e2,e4,e5⟩;refine Z2 (show wpS _ _ _ _ (moveDown' k l) _ y' from ?_);rw[moveDown'_eq];refine wpS_modify (Xt ⟨rfl,By.put (bubble_perm _ _ _),?_⟩);rw[show min (k+1) n=k+1 by omega];exact HJ (by omega) e2 uy e4 e5
 ·rintro⟨rfl,By,uy⟩;rw[show min (max (max ok 1) n) n=n by omega] at uy;exact⟨rfl,By,uy⟩
 ·exact u i j a (by omega)
 ·rintro⟨rfl,By,uy⟩;exact Xt (q y By uy)
def Fin'(key:Value->List Int)(a0:Array Keyed)(z:SortSt):Prop:=(arrOf z).Perm a0/\failedOf z=none/\pendingOf z=#[(0,a0.size,0)]/\Up key (arrOf z) a0.size
theorem Bas.fin{z:SortSt}(B:Bas key a0 z)(u:Up key (arrOf z) a0.size):Fin' key a0 (setPending z ((pendingOf z).push (0,a0.size,0))):=⟨B.perm,B.fail,by show(pendingOf z).push _=_; rw[B.pend]; rfl,u⟩
theorem GW{z:SortSt}{Q:Unit->SortSt->Prop}(C:Cmp prog w A s key a0)(B:Bas key a0 z)(D:Diff key a0)(h2:2<=a0.size)(h6:a0.size<64)(q:∀y,(arrOf y).Perm a0->failedOf y=none->Up key (arrOf y) a0.size->Q () y) :
  wpS (model prog w) A E s sortRuns' Q z:=by
 rw[sortRuns'_eq];refine Z2 (wpS_get ?_);dsimp only
 have hm:minRun' a0.size a0.size 0=a0.size:=by
  obtain⟨f,e⟩:∃f,a0.size=f+1:=⟨a0.size-1,by omega⟩
  conv=>lhs; arg 1; rw[e]
  rw[minRun'_succ,Zf h6]; rfl
 simp only[B.perm.size_eq,hm];refine Z2 (wpS_mono (QQ (λx c y=>(x=0/\c=(none,0)/\Bas key a0 y)\/(1<=x/\c=(none,a0.size)/\Fin' key a0 y)) (Q:=λc y=>c=(none,a0.size)/\Fin' key a0 y) (λx c y _ h1=>?_) (λc y=>?_) (.inl ⟨rfl,rfl,B⟩)) λc y=>?_)
 ·have last:∀y:SortSt,Bas key a0 y->Up key (arrOf y) a0.size->(pendingOf y).back?=none:=λy By _=>by rw[By.pend]; rfl
  rintro(⟨rfl,rfl,By⟩|⟨_,rfl,Fy⟩)
  ·dsimp only;rw[Zg (by omega)]; simp only[Nat.sub_zero,Wu,Xq];refine Z2 (D4 C By D (Zl _) (by omega) λm y2 B2 m1 m2 u2=>?_);dsimp only
   by_cases e:m<a0.size
   ·rw[Zf e];refine Z2 (wpS_lift (QB ⟨rfl,Z2 (zu C B2 D (Zl _) m2 u2 λy3 B3 u3=>?_)⟩));simp only[Qc,Zx,ZT];refine Z2 (wpS_get ?_); rw[last y3 B3 u3];exact Z2 (wpS_modify (Xt (.inr ⟨by omega,rfl,B3.fin u3⟩)))
   ·rw[Zg e];obtain rfl:m=a0.size:=by omega
    refine Z2 (wpS_get ?_); rw[last y2 B2 u2];exact Z2 (wpS_modify (Xt (.inr ⟨by omega,rfl,B2.fin u2⟩)))
  ·dsimp only;rw[Zf (Zl _)]; exact Xt ⟨rfl,Fy⟩
 ·rintro(⟨h,_,_⟩|⟨_,h,Fy⟩)
  ·omega
  ·exact⟨h,Fy⟩
 ·rintro⟨rfl,Fy⟩;dsimp only;refine Z2 (wpS_mono (QQ (λ_ c y'=>y'=y/\c=(none,())) (Q:=λc y'=>y'=y/\c=(none,())) (λx c y' _ _=>?_) (λ_ _ h=>h) ⟨rfl,rfl⟩) λc y'=>?_)
  ·rintro⟨rfl,rfl⟩;refine Z2 (wpS_get ?_); rw[Zf (by rw[Fy.2.2.1]; exact Zl 1)];exact Xt ⟨rfl,rfl⟩
  ·rintro⟨rfl,rfl⟩;exact Xt (q _ Fy.1 Fy.2.1 Fy.2.2.2)
end
end TB

namespace TB
open PySem PySem.SetTable
theorem gW:Slot "set_iterator" "__next__" "set_iterator.__next__" :=
 .of (owner:="set_iterator") (n:="__next__") (by rw[typeLookup_type,builtinLookup_eq_fast]; kernel_rfl) (by decide +kernel) (by decide +kernel) (by decide +kernel) (.inl (by decide +kernel)) (by rw[isSubtype_type]; kernel_rfl)
theorem tN:Slot "set_iterator" "__iter__" "set_iterator.__iter__" :=
 .of (owner:="set_iterator") (n:="__iter__") (by rw[typeLookup_type,builtinLookup_eq_fast]; kernel_rfl) (by decide +kernel) (by decide +kernel) (by decide +kernel) (.inl (by decide +kernel)) (by rw[isSubtype_type]; kernel_rfl)
theorem uc:entryFor table "set_iterator.__next__" = some Builtin.«set_iterator.__next__»:=entryFor_of_fast (by kernel_rfl)
theorem CT:entryFor table "set_iterator.__iter__" = some Builtin.«dict_keyiterator.__iter__»:=entryFor_alias (id':="dict_keyiterator.__iter__") (by kernel_rfl) rfl (by decide +kernel) (by kernel_rfl)
theorem rH(a:Value):argsOk "set_iterator.__next__" ⟨[a],[]⟩:=by unfold argsOk; kernel_rfl
theorem Gd(a:Value):argsOk "set_iterator.__iter__" ⟨[a],[]⟩:=by unfold argsOk; kernel_rfl
theorem Dc:entryFor table "set.__iter__" = some Builtin.«frozenset.__iter__»:=entryFor_alias (id':="frozenset.__iter__") (by kernel_rfl) rfl (by decide +kernel) (by kernel_rfl)
end TB

namespace TB
open PySem PySem.SetTable
theorem IX{α:Type}{l:List α}{i:Nat}(h:i<l.length):(l[i]::l.eraseIdx i).Perm l:=by
 rw[List.eraseIdx_eq_take_drop_succ];refine List.perm_middle.symm.trans ?_;rw[<- Xo h,List.take_append_drop]
theorem rC{α:Type}(next:Nat->Nat):∀(n k:Nat) (left:List α) (out:Array α),left.length=n->(pickOrder.go next n k left out).toList.Perm (out.toList++left)
 | 0,k,left,out,h=>by
  obtain rfl:=List.length_eq_zero_iff.mp h;unfold pickOrder.go;rw[XV]
 | n+1,k,left,out,h=>by
  have hi:next k%left.length<left.length:=Qy _ (by omega);unfold pickOrder.go;rw[Zb hi];refine(rC next n (k+1) _ _ (by rw[List.length_eraseIdx_of_lt hi]; omega)).trans ?_;rw[Array.toList_push,Zq];exact(IX hi).append_left _
theorem CY{α:Type}(next:Nat->Nat)(xs:Array α):(pickOrder next xs).toList.Perm xs.toList:=rC next xs.size 0 xs.toList #[] (ZH)
noncomputable def b7(w:WG)(S:Addr)(ep:Nat)(es:WH):Array (Int×Value):=if byT w=true then pickOrder (w.params.setOrder S ep) es else es
theorem mR(w:WG)(S:Addr)(ep:Nat)(es:WH):(b7 w S ep es).toList.Perm es.toList:=by
 unfold b7;split
 ·exact CY _ _
 ·exact .refl _
theorem je(w:WG)(S:Addr)(ep:Nat)(es:WH):(b7 w S ep es).size=es.size:=by
 rw[<- ZH,(mR w S ep es).length_eq,ZH]
noncomputable def slotAt(w:WG)(t:SetTable):Nat->Nat
 | 0=>0
 | i+1=>if byT w=true then 0 else t.place.getD i 0+1
noncomputable def lU(w:WG)(S:Addr)(es:WH)(ep:Nat)(t:SetTable)(i:Nat)(d:Option Addr)(sl:Array (Option Value)):Obj :=
 { cls:=.type "set_iterator",dict:=d,data:=.fields #[rawInt (slotAt w t i),rawInt i,.ref S,rawInt es.size,rawInt ep],slots:=sl }
section
variable{prog:WC}{w:WG}{A:Around}{E:Wv}{s:WA}{I S:Addr}{o:Obj}{es:WH}{ep:Nat}{t:SetTable}
set_option genInjectivity false in
structure Fix(w:WG)(o:Obj)(es:WH)(ep:Nat)(t:SetTable):Prop where
 data:o.data=.set es ep t
 good:Good t es
 plain:t.plain=true
 led:t.led=!byT w
 fit:es.size<=t.mask
theorem zJ(g:Good t es){i:Nat}(hi:i<=es.size)(hb:byT w=false):below t.place (slotAt w t i)=i:=by
 have hsp:=m_ g.srt (slotAt w t i)
 cases i with
 | zero =>
  obtain⟨h1,h2,h3⟩:=hsp;rcases Nat.eq_zero_or_pos (below t.place (slotAt w t 0)) with z|z
  ·exact z
  ·have hlt:0<t.place.size:=by omega
   exact absurd (h2 0 _ (Zr hlt) z) (Nat.not_lt_zero _)
 | succ i =>
  have hlt:i<t.place.size:=by rw[g.len]; omega
  have hg:t.place[i]?=some t.place[i]:=Zr hlt
  have e:slotAt w t (i+1)=t.place[i]+1:=by
   show(if byT w=true then 0 else t.place.getD i 0+1)=_;rw[hb,Zg Zz,Xh,hg]; rfl
  rw[e] at hsp ⊢;obtain⟨h1,h2,h3⟩:=hsp;rcases Wr (below t.place (t.place[i]+1)) (i+1) with z|z|z
  ·have:=h3 i _ hg (by omega); omega
  ·exact z
  ·have hlt2:i+1<t.place.size:=by omega
   have hg2:t.place[i+1]?=some t.place[i+1]:=Zr hlt2;have a:=h2 (i+1) _ hg2 z;have b:=g.srt i (i+1) _ _ hg hg2 (X2 i);omega
theorem rf{i:Nat}{Q:Option (Value×Nat)->Shared->Prop}(ho:s.heap.get? S=some o)(X:Fix w o es ep t)(hi:i<=es.size)
  (q:Q (((b7 w S ep es)[i]?).map λe=>(e.2,slotAt w t (i+1))) s):wpAny (model prog w) A (setNext S (slotAt w t i) i ep) Q E s:=by
 have hf:=fQ X.good X.fit;unfold setNext setsByText;refine Za (XM ho X.data hf (Za (Za (QD (Ze ?_)))));dsimp only;have hbt:(model prog w).w.params.followText "set-order" = byT w:=rfl
 cases hb:byT w with
 | true =>
  rw[hbt,hb];simp only[Xx,Qs,Zx,ZT];unfold setWalk setsByText;refine Za (Za (XM ho X.data hf (Za (Za (QD (Ze ?_))))));dsimp only;rw[hbt,hb];simp only[Xx];refine Za (QD (Ze (Ze ?_)));have e:b7 w S ep es=pickOrder (w.params.setOrder S ep) es:=by unfold b7; rw[hb]; rfl
  have e2:slotAt w t i=slotAt w t (i+1):=by cases i<;>(unfold slotAt; simp[hb])
  rw[e] at q;rw[e2];exact q
 | false =>
  rw[hbt,hb];simp only[Zx,ZT];rw[Zg]
  rotate_left
  ·show ¬((!t.plain&&decide (es.size>1))=true);rw[X.plain]; simp
  refine Za (Qg (a:=()) (show(if(!t.led&&!es.isEmpty)=true then _ else pure ())=pure () by rw[X.led,hb]; rfl) (Ze ?_));rw[zJ X.good hi hb];have e:b7 w S ep es=es:=by unfold b7; rw[hb]; rfl
  rw[e] at q
  by_cases hlt:i<es.size
  ·have he:es[i]?=some es[i]:=Zr hlt;have hl2:i<t.place.size:=by rw[X.good.len]; exact hlt
   have hp:t.place[i]?=some t.place[i]:=Zr hl2
   have e3:slotAt w t (i+1)=t.place[i]+1:=by
    show(if byT w=true then 0 else t.place.getD i 0+1)=_;rw[hb,Zg Zz,Xh,hp]; rfl
   rw[he,e3] at q;rw[he,hp];exact q
  ·have he:es[i]?=none:=X5 (by omega);rw[he] at q;rw[he];exact q
end
end TB

namespace TB
open PySem PySem.SetTable
section
variable{prog:WC}{w:WG}{A:Around}{E:Wv}{s:WA}{I S:Addr}{o:Obj}{es:WH}{ep:Nat}{t:SetTable}
def AtI(w:WG)(S:Addr)(es:WH)(ep:Nat)(t:SetTable)(h:Heap)(I:Addr)(i:Nat):Prop:=∃d sl,h.get? I=some (lU w S es ep t i d sl)
theorem AtI.type{i:Nat}(x:AtI w S es ep t s.heap I i):s.TypeIs (.ref I) "set_iterator":=let⟨_,_,e⟩:=x; ⟨_,e,rfl⟩
theorem Aj{i:Nat}{Q:Option Value->Shared->Prop}(x:AtI w S es ep t s.heap I i)(ho:s.heap.get? S=some o)(X:Fix w o es ep t)(hIS:S≠I){e:Int×Value}(he:(b7 w S ep es)[i]?=some e)
  (q:∀h',AtI w S es ep t h' I (i+1)->Heap.SameBut I s.heap h'->Q (some e.2) { s with heap:=h' }):wpAny (model prog w) A (pyNext (.ref I)) Q E s:=by
 have hT:=x.type;obtain⟨d,sl,hi⟩:=x;have hlt:i<es.size:=by rw[<- je w S ep es]; exact(ZV.mp he).1
 unfold pyNext;refine Za (XG (ZW (name:=Str.ofString "__next__") hT gW (ZU gW hT uc ?_ (rH _))));unfold Builtin.«set_iterator.__next__»;refine Za (m:=slotArgs "__next__" 0 _) (Qg (a:=(.ref I,[])) rfl ?_);refine Za (wpAny_fieldsOf hi rfl ?_);dsimp only;refine Za (wpAny_setEntries_of ho X.data (fQ X.good X.fit) ?_);rw[show(((es.size:Int))!=(es.size:Int))=false from Qs _];simp only[Zx,ZT];rw[show rawInt (slotAt w t i)=Value.int (slotAt w t i) 0 from rfl];dsimp only;rw[ZQ,ZQ,ZQ];refine Za (rf ho X (Qi hlt) ?_);rw[he];dsimp only[Option.map];refine Za (Qh hi rfl (by simp) ?_);have h1:=Z7 (h:=s.heap) (Obj.mapFields (·.setIfInBounds 0 (rawInt (slotAt w t (i+1))))) hi rfl;refine Za (Qh h1 rfl (by simp) (Ze ⟨e.2,rfl,Ze (q _ ⟨d,sl,?_⟩ ?_)⟩))
 ·rw[Z7 _ h1 rfl];rfl
 ·exact(Xg s.heap I _).trans (Xg _ I _)
theorem ID{i:Nat}{Q:Option Value->Shared->Prop}(hh:A.handled=none)(x:AtI w S es ep t s.heap I i)(ho:s.heap.get? S=some o)(X:Fix w o es ep t)(hi0:i=es.size)
  (q:∀h',Heap.ExtBut I s.heap h'->Q none { s with heap:=h' }):wpAny (model prog w) A (pyNext (.ref I)) Q E s:=by
 have hT:=x.type;obtain⟨d,sl,hi⟩:=x;have he:(b7 w S ep es)[i]?=none:=X5 (by rw[je]; omega);unfold pyNext;refine Za (XG (ZW (name:=Str.ofString "__next__") hT gW (ZU gW hT uc ?_ (rH _))));unfold Builtin.«set_iterator.__next__»;refine Za (m:=slotArgs "__next__" 0 _) (Qg (a:=(.ref I,[])) rfl ?_);refine Za (wpAny_fieldsOf hi rfl ?_);dsimp only;refine Za (wpAny_setEntries_of ho X.data (fQ X.good X.fit) ?_);rw[show(((es.size:Int))!=(es.size:Int))=false from Qs _];simp only[Zx,ZT];rw[show rawInt (slotAt w t i)=Value.int (slotAt w t i) 0 from rfl];dsimp only;rw[ZQ,ZQ,ZQ];refine Za (rf ho X (Nat.le_of_eq hi0) ?_);rw[he];dsimp only[Option.map];refine Za (Qh hi rfl (by simp) (Za ?_)); simp only[newExc,newTuple];refine Za (Xb (Za (m:=firstArgMember _ _) (Qg (a:=Value.none) (by first|rfl|(simp only[firstArgMember]; rfl)) (Xb ?_ (by size_fits)))) (by size_fits)); simp only[raiseNew];refine Za (wpAny_handled ?_); rw[show A.in1.handled=none from hh];refine Za (Ze (wpAny_throw ?_));refine Za (Qk (T:="StopIteration") (b:=true) ⟨_,Zv _ rfl,rfl⟩ QT (Ze (q _ ?_)));exact((Xg s.heap I _).extBut.push _).push _
theorem Fx{i:Nat}{Q:Wv}(x:AtI w S es ep t s.heap I i)(q:Q (.ref I) s):wpAny (model prog w) A (pyIter (.ref I)) Q E s :=
 Q3 x.type tN (ZU tN x.type CT (show wpAny _ _ (ret (.ref I)) _ _ s from Ze ⟨_,rfl,"set_iterator",_,x.type,gW.lookup,q⟩) (Gd _))
theorem HE(hh:A.handled=none)(X:Fix w o es ep t)(hIS:S≠I) :
  Walks prog w A I [I,S] [I] es.size (λi v=>∃e,(b7 w S ep es)[i]?=some e/\v=e.2) (λi h=>AtI w S es ep t h I i/\h.get? S=some o) where
 sub:=λb hb=>by rw[ZY.mp hb]; exact Zk
 frame:=λi h h' ⟨⟨d,sl,a⟩,b⟩ k=>⟨⟨d,sl,k I Zk _ a⟩,k S (Zm _ Zk) _ b⟩
 item:=λi s Q E hi ⟨a,b⟩ k=>by
  have hw:i<(b7 w S ep es).size:=by rw[je]; exact hi
  exact Aj a b X hIS (Zr hw) λh' x sb=>k _ h' s.toks ⟨_,Zr hw,rfl⟩ ⟨x,(sb.2 S hIS).trans b⟩ λc oc hc ec=>(sb.2 c λz=>hc (by rw[z]; exact Zk)).trans ec
 done:=λs Q E ⟨a,b⟩ k=>ID hh a b X rfl λh' eb=>k h' s.toks λc oc hc ec=>eb c oc (λz=>hc (by rw[z]; exact Zk)) ec
 self:=λi s Q E ⟨a,b⟩ k=>Fx a k
theorem xS{Q:Wv}(ho:s.heap.get? S=some o)(hex:o.ExactSet)(X:Fix w o es ep t)
  (q:∀h',h'=s.heap.push (lU w S es ep t 0 none #[])->Q (.ref s.heap.objs.size) { s with heap:=h' }):wpAny (model prog w) A (pyIter (.ref S)) Q E s:=by
 have hT:s.TypeIs (.ref S) "set":=⟨o,ho,hex.1⟩
 have hf:=fQ X.good X.fit;refine Q3 hT F.slot_set_iter (ZU F.slot_set_iter hT Dc ?_ (F.args_set_iter_1 _));unfold Builtin.«frozenset.__iter__»;refine Za (m:=Builtin.Frozenset.slot0 "__iter__" _) (Qg (a:=S) rfl ?_);unfold Builtin.Frozenset.sizeOf;refine Za (Za (wpAny_setEntries_of ho X.data hf (Ze ?_)));unfold setDrawn setsByText;refine Za (Za (XM ho X.data hf (Za (Za (QD (Ze (Ze ?_)))))));dsimp only;have hdr:∀b:Bool,(b&&(!t.plain&&decide (es.size>1)))=false:=λb=>by rw[X.plain]; cases b<;>rfl
 rw[Zg]
 rotate_left
 ·show ¬((!_&&(!t.plain&&decide (es.size>1)))=true);rw[hdr]; exact Zz
 refine Za (Ze ?_);refine Za (wpAny_setEpoch_of ho X.data hf ?_);refine Za (Xb (Ze ⟨_,rfl,"set_iterator",_,⟨_,Zv _ rfl,rfl⟩,gW.lookup,?_⟩));exact q _ rfl
end
end TB

namespace TB
open PySem PySem.SetTable
theorem IY:splitId "set.__len__" = some ("set","__len__"):=by decide +kernel
section
variable{prog:WC}{w:WG}{A:Around}{E:Wv}{s:WA}{S:Addr}{o:Obj}{es:WH}{ep:Nat}{t:SetTable}
theorem Fd{Q:Bool->Shared->Prop}(hT:s.TypeIs (.ref S) "set")(q:Q false s):wpAny (model prog w) A (Builtin.List.listLengthHint (.ref S)) Q E s:=by
 unfold Builtin.List.listLengthHint;refine Za (wpAny_specialOf hT F.slot_set_len.lookup ?_);dsimp only;rw[IY];dsimp only;refine Za (Qk hT sub_set_self ?_);simp only[Qc,Zx,ZT];rw[Zf]
 rotate_left
 ·show(_:Bool)=true;decide +kernel
 refine Za (wpAny_typeOf hT ?_);exact Ze q
theorem FY{Q:List Value->Shared->Prop}(hh:A.handled=none)(ho:s.heap.get? S=some o)(hex:o.ExactSet)(X:Fix w o es ep t)
  (q:∀h' tk,s.heap.objs.size<h'.objs.size->(∀b oc,b<s.heap.objs.size->s.heap.get? b=some oc->h'.get? b=some oc)->Q ((b7 w S ep es).toList.map (·.2)) { s with heap:=h',toks:=tk }):wpAny (model prog w) A (collect (.ref S)) Q E s:=by
 have hSl:S<s.heap.objs.size:=Zp ho;unfold collect;refine Za (wpAny_runValue (XX F.entry_proto_collect ?_)); rw[XI F.plain_proto_collect _];refine Za (show wpAny _ A.in1 (newList []) _ _ s from Xb ?_);refine Ze ⟨QF F.plain_list_iadd _,XX F.entry_list_iadd ?_⟩; rw[XI F.plain_list_iadd _];generalize hob:({ cls:=.type "list",data:=.seq ([]:List Value).toArray }:Obj)=ob;have g1:(s.heap.push ob).get? S=some o:=Zd _ ho;have gL:(s.heap.push ob).get? s.heap.objs.size=some ob:=Zv _ (by rw[<- hob]; rfl);have hT:Shared.TypeIs { s with heap:=s.heap.push ob } (.ref S) "set":=⟨o,g1,hex.1⟩
 show wpAny _ A.in1 (Builtin.List.listExtendWith (.ref s.heap.objs.size) (.ref S) (.ref s.heap.objs.size)) _ _ { s with heap:=s.heap.push ob };unfold Builtin.List.listExtendWith;refine Za (wpAny_typeOf hT ?_)
 have n1:Builtin.List.listSameRef (.ref s.heap.objs.size) (.ref S)=false:=by
  show(s.heap.objs.size==S)=false;exact Qn (Xy hSl)
 rw[n1,show(Value.type "set"==Value.type "list")=false by decide,show(Value.type "set"==Value.type "tuple")=false by decide];simp only[Bool.or_false,Zx,ZT];refine Za (xS (s:={ s with heap:=s.heap.push ob }) g1 hex X λh2 e2=>?_);have k2:∀b oc,(s.heap.push ob).get? b=some oc->h2.get? b=some oc:=λb oc e=>by rw[e2]; exact Zd _ e
 refine Za (XE (Fd (s:={ s with heap:=h2 }) ⟨o,k2 _ _ g1,hex.1⟩ ?_));rw[Zf]
 rotate_left
 ·show(_:Bool)=true;decide +kernel
 refine Za (QB ?_);have sz:(s.heap.push ob).objs.size=s.heap.objs.size+1:=Z1 _ _;have gI:h2.get? (s.heap.push ob).objs.size=some (lU w S es ep t 0 none #[]):=by rw[e2]; exact Zv _ rfl
 have gL2:h2.get? s.heap.objs.size=some { cls:=.type "list",data:=.seq ([]:List Value).toArray }:=by rw[hob]; exact k2 _ _ gL
 refine Za (show wpAny _ A.in1 (updateSeq s.heap.objs.size (·.push .none)>>=λ_=>updateSeq s.heap.objs.size (·.pop)) _ _ _ from ?_);refine Za (wpAny_updateSeq gL2 rfl ?_);have gL3:=Z7 (Obj.mapSeq (·.push Value.none)) gL2 rfl;refine wpAny_updateSeq gL3 rfl ?_;have gL4:=Z7 (Obj.mapSeq (·.pop)) gL3 rfl
 have k4:∀b oc,b≠s.heap.objs.size->h2.get? b=some oc->((h2.update s.heap.objs.size (Obj.mapSeq (·.push Value.none))).update s.heap.objs.size (Obj.mapSeq (·.pop))).get? b=some oc :=
  λb oc hb e=>(X4 _ _ (Ne.symm hb)).trans ((X4 _ _ (Ne.symm hb)).trans e)
 generalize ((h2.update s.heap.objs.size (Obj.mapSeq (·.push Value.none))).update s.heap.objs.size (Obj.mapSeq (·.pop)))=h4 at gL4 k4;have hSI:S≠(s.heap.push ob).objs.size:=by rw[sz]; exact ZI (X0 hSl)
 have hh2:A.in1.in1.handled=none:=by simpa using hh
 have hh1:A.in1.handled=none:=by simpa using hh
 have hLf:s.heap.objs.size ∉ [(s.heap.push ob).objs.size,S]:=λz=>by
  rcases Zt.mp z with z|z
  ·rw[sz] at z; exact absurd z (ZI (X2 _))
  ·exact absurd (ZY.mp z) (Xy hSl)
 have hn:es.size<=sizeLine:=by rw[Qp]; have:=X.fit; rcases X.good.msk with z|z<;>omega
 refine Ze ⟨QF F.plain_extend_loop _,codeAny_extend_loopS (HE (I:=(s.heap.push ob).objs.size) hh1 X hSI).toS hn _ hLf _ es.size 0 _ _ _ rfl (Xj _)
  ⟨⟨_,_,k4 _ _ (by rw[sz]; exact Xy (X2 _)) gI⟩,k4 S _ (ZI hSl) (k2 _ _ g1)⟩ gL4 (ItemsOf.nil _) λz acc c hm hz hacc=>?_⟩
 obtain⟨h',g',d',tk',os'⟩:=z;obtain rfl:g'=s.gens:=hm.gens;obtain rfl:d'=s.drawn:=hm.drawn;obtain rfl:os'=s.os:=hm.os;refine Za (wpAny_load hz (Ze ?_))
 have hacc':acc.toList=(b7 w S ep es).toList.map (·.2):=by
  refine QX λj=>?_
  rw[ZX,ZG,ZX]
  by_cases hj:j<es.size
  ·have hj2:j<acc.size:=by rw[hacc.1]; exact hj
   have ha:acc[j]?=some acc[j]:=Zr hj2;obtain⟨e,q1,q2⟩:=hacc.2 j _ ha;rw[ha,q1,q2]; rfl
  ·rw[X5 (by rw[hacc.1]; omega),X5 (by rw[je]; omega)]; rfl
 show Q acc.toList _;rw[hacc'];refine q h' tk' (Zp hz) λb oc hb e=>hm.heap b oc (λz=>?_) (k4 b oc (ZI hb) (k2 _ _ (Zd _ e)))
 rcases Zt.mp z with z|z
 ·exact absurd z (ZI hb)
 ·rw[ZY,sz] at z; exact absurd z (ZI (X0 hb))
end
end TB

namespace TB
open PySem PyProof.Rows
section
variable{prog:WC}{w:WG}{A:Around}{E:Wv}{s:WA}{key:Value->List Int}
theorem n_{vs:Wz}{p:Keyed}(h:p∈(pairsOf vs).toList):p.2=p.1/\p.1∈vs:=by
 rw[pairsOf_toList] at h;obtain⟨i,hi⟩:=ZS h;rw[List.getElem?_zip_eq_some] at hi;exact⟨Zy (hi.2.symm.trans hi.1),ZD hi.1⟩
theorem z9(vs:Wz):(pairsOf vs).toList.map (·.2)=vs:=by
 rw[pairsOf_toList];exact List.map_snd_zip (Zl _)
theorem F5(vs:Wz)(f:Value->List Int):(pairsOf vs).toList.map (λp=>f p.1)=vs.map f:=by
 rw[pairsOf_toList,show(λp:Value×Value=>f p.1)=f∘Prod.fst from rfl,<- Xl,List.map_fst_zip (Zl _)]
theorem yz{a:Addr}{vs:Wz}{n:Nat}{P:Fin->Shared->Prop}(ho:s.heap.get? a=some (seqObj "list" vs.toArray n))(hv:∀v∈vs,∃c,v=.ref c/\TK prog w s.heap (key v) c/\key v≠[])(hd:(vs.map key).Nodup)(h6:vs.length<64)
  (q:∀out:List Value,out.Perm vs->(out.map key).Pairwise (λx y=>aD x y=true)->P (.done (.ret .none)) { s with heap:=sortedHeap s.heap a vs out.toArray }):wpAny (model prog w) A (Builtin.«list.sort» ⟨[.ref a],[]⟩) P E s:=by
 have hal:a<s.heap.objs.size:=Zp ho;rw[list_sort_plain];refine Za (listItems_at ho rfl (Za (listUpdate_at ho rfl ?_)));obtain⟨e1,ho1⟩:∃e1,(s.heap.update a (Obj.mapSeq λ_=>#[])).get? a=some (seqObj "list" #[] e1):=⟨_,get?_update_seq ho λ_=>#[]⟩
 refine Za (seqEpoch_at ho1 rfl (Za (wpAny_newTuple (Za (wpAny_newList (XE ?_))))))
 have ot:∀b o,b≠a->s.heap.get? b=some o->(((s.heap.update a (Obj.mapSeq λ_=>#[])).push (seqObj "tuple" vs.toArray 0)).push (seqObj "list" #[] 0)).get? b=some o:=λb o hb e =>
  Zd _ (Zd _ ((X4 _ _ (Ne.symm hb)).trans e))
 have ho6:(((s.heap.update a (Obj.mapSeq λ_=>#[])).push (seqObj "tuple" vs.toArray 0)).push (seqObj "list" #[] 0)).get? a=some (seqObj "list" #[] e1):=Zd _ (Zd _ ho1)
 have fin:∀y:SortSt,(arrOf y).Perm (pairsOf vs)->Up key (arrOf y) (pairsOf vs).size->P (.done (.ret .none)) { s with heap:=sortedHeap s.heap a vs ((arrOf y).map (·.2)) }:=λy py uy=>by
  have pl:=QG.mp py;have h1:=q ((arrOf y).map (·.2)).toList (by rw[Array.toList_map]; exact(pl.map _).trans (by rw[z9])) ?_
  ·rw[Array.toArray_toList] at h1; exact h1
  ·rw[Array.toList_map,Xl];refine Ws.mpr (Qf.mpr λi j hi hj hij=>?_);have hi2:i<(arrOf y).size:=by rw[ZH] at hi; exact hi
   have hj2:j<(arrOf y).size:=by rw[ZH] at hj; exact hj
   have m:∀(k:Nat) (hk:k<(arrOf y).size),key (arrOf y)[k].2=at' key (arrOf y) k:=λk hk=>by
    rw[iA (Zr hk),(n_ (pl.mem_iff.mp (by simp))).1]
   have:=uy i j hij (by rw[<- py.size_eq]; exact hj2);show aD (key (arrOf y).toList[i].2) (key (arrOf y).toList[j].2)=true;rw[XZ,XZ,m i hi2,m j hj2];exact this
 dsimp only;have lin:∀y:SortSt,(arrOf y).Perm (pairsOf vs)->((arrOf y).map (·.2)).size<=sizeLine+1:=λy py=>by rw[Array.size_map,py.size_eq,pairsOf_size,Qp]; omega
 by_cases h2:vs.toArray.size<2
 ·rw[Zf h2,Zf h2];refine Za (Ze ?_); rw[StateT.run_pure];refine Za (Ze ?_);dsimp only;refine Za (seqEpoch_at ho6 rfl (Za (listUpdate_at ho6 rfl ?_ (hsz2:=lin (SortSt.mk' general' (pairsOf vs) #[] 7 none) (Array.Perm.refl _)))));simp only[Qs,Zx,ZT];refine Ze (fin (SortSt.mk' general' (pairsOf vs) #[] 7 none) (Array.Perm.refl _) λi j hij hj=>?_);rw[pairsOf_size] at hj; rw[Zo] at h2; omega
 ·rw[Zg h2,Zg h2];have hne:vs≠[]:=λz=>h2 (by rw[z]; decide)
  have hv6:∀v∈vs,∃c,v=.ref c/\TK prog w (((s.heap.update a (Obj.mapSeq λ_=>#[])).push (seqObj "tuple" vs.toArray 0)).push (seqObj "list" #[] 0)) (key v) c/\key v≠[]:=λv m=>by
   obtain⟨c,e,x,y⟩:=hv v m;refine⟨c,e,?_,y⟩;obtain⟨oc,its,k,x1,x2,x3⟩:=x;refine⟨oc,its,k,ot c oc (λz=>?_) x1,x2,x3⟩;rw[z,ho] at x1;cases x1;exact absurd (Value.type.inj (show Value.type "list" = .type "tuple" from x2)) (by decide)
  refine Za (yK hne (λv m=>let⟨c,e,x,y⟩:=hv6 v m; ⟨_,c,e,x,y⟩) ?_)
  have C:Cmp prog w A { s with heap:=((s.heap.update a (Obj.mapSeq λ_=>#[])).push (seqObj "tuple" vs.toArray 0)).push (seqObj "list" #[] 0) } key (pairsOf vs):=λE x y Q mx my qq=>by
   obtain⟨c,ex,kx,_⟩:=hv6 _ (n_ mx).2;obtain⟨d,ey,ky,_⟩:=hv6 _ (n_ my).2;generalize x.1=vx at ex kx qq ⊢;generalize y.1=vy at ey ky qq ⊢;subst ex; subst ey;exact Gv kx ky qq
  have D:Diff key (pairsOf vs):=by unfold Diff; rw[F5]; exact hd
  refine Za (XH (GW (z:=SortSt.mk' (tuples' true) (pairsOf vs) #[] 7 none) (Q:=λ_ y=>(arrOf y).Perm (pairsOf vs)/\failedOf y=none/\Up key (arrOf y) (pairsOf vs).size) C ⟨Array.Perm.refl _,rfl,rfl,rfl⟩ D (by rw[pairsOf_size]; rw[Zo] at h2; omega) (by rw[pairsOf_size]; exact h6) λy a1 a2 a3=>⟨a1,a2,a3⟩) ?_ λ_ _ e=>e);rintro⟨⟨⟩,y⟩ z ⟨rfl,py,fy,uy⟩;dsimp only;refine Za (seqEpoch_at ho6 rfl (Za (listUpdate_at ho6 rfl ?_ (hsz2:=lin y py))));rw[fy];simp only[Qs,Zx,ZT];exact Ze (fin y py uy)
end
end TB

namespace TB
open PySem PySem.SetTable PySem.Spec
section
variable{prog:WC}{w:WG}{A:Around}{R:Result->Shared->Prop}{I:Addr}{fp wr:WD}{G:Array GenState->Array GenState->Prop}{n:Nat}{P:Nat->Value->Prop}{St:Nat->Shared->Prop}
theorem fM{h h':Heap}{ks:Wx}{c:Addr}(x:TK prog w h ks c)(k:∀o,h.get? c=some o->h'.get? c=some o):TK prog w h' ks c:=by
 obtain⟨o,items,m,x1,x2⟩:=x;exact⟨o,items,m,k o x1,x2⟩
theorem G2(hu:A.in1.units<cLine)(W:WalksS prog w A.in1 I fp wr G n P St)(S:Addr)(lim:Addr->Prop)(hS1:S∉fp)(hwr:∀b∈wr,¬lim b)(hSl:¬lim S)(val:Nat->List Int)(hn:n<=18)(hval:∀i v,P i v->∃c,v=.ref c/\lim c) :
  ∀(k i:Nat) (z:WA) (L:WB),n-i=k->i<=n->St i z->bU prog w lim z.heap S L->(∀x,x∈L ↔ ∃j,j<i/\val j=x)->L.length<=i->(∀i c,P i (.ref c)->TK prog w z.heap (val i) c) ->
   (∀z' L',Moved (S::wr) G z z'->bU prog w lim z'.heap S L'->(∀x,x∈L' ↔ ∃j,j<n/\val j=x)->(∀i c,P i (.ref c)->TK prog w z'.heap (val i) c)->R (.ok (.ret .none)) z') ->
   codeAny (model prog w) A (.builtin "set.update.loop" ⟨[.ref S,.ref I],[]⟩) R z:=by
 have hS2:S∉wr:=λq=>hS1 (W.sub _ q)
 have more:∀b∈wr,b∈S::wr:=λb q=>Zm _ q
 have old:∀{c:Addr},lim c->c∉wr:=λhc q=>hwr _ q hc
 intro k
 induction k with
 | zero =>
  intro i z L hk hi hst hT hL hlen hP hR;obtain rfl:i=n:=by omega
  refine XX QR ?_;rw[XI X7 _];refine Za (W.done z _ _ hst λz' hm=>?_);refine Ze (hR z' L (hm.mono more) (hT.keep λb o hb e=>hm.heap b o ?_ e) hL λj c hp=>fM (hP j c hp) λo e=>hm.heap c o ?_ e)
  ·rcases hb with hb|rfl
   ·exact old hb
   ·exact hS2
  ·obtain⟨c',q1,q2⟩:=hval j _ hp; cases q1; exact old q2
 | succ k ih =>
  intro i z L hk hi hst hT hL hlen hP hR;have hlt:i<n:=by omega
  refine XX QR ?_;rw[XI X7 _];refine Za (W.item i z _ _ hlt hst λv z' hv hst' hm=>?_);obtain⟨c,rfl,hc⟩:=hval i v hv;have hP':∀i c,P i (.ref c)->TK prog w z'.heap (val i) c:=λj d hp=>fM (hP j d hp) λo e=>hm.heap d o (by obtain⟨c',q1,q2⟩:=hval j _ hp; cases q1; exact old q2) e
  have hT':bU prog w lim z'.heap S L:=hT.keep λb o hb e=>hm.heap b o (by rcases hb with hb|rfl; exact old hb; exact hS2) e
  have hci:=hP' i c hv;refine Za (XE ?_);unfold setAdd;refine XE (Za (wpAny_pyHash_tuple hu hci ?_));refine Ae (s:={ z' with toks:=z'.toks+((val i).length+1) }) hu hT' (by omega) hci hc λr h' L' sb hT2 hL2 hlen2=>?_
  have kp:∀b o,b≠S->z'.heap.get? b=some o->h'.get? b=some o:=λb o hb e=>(sb.2 b hb).trans e
  refine Ze ⟨QF X7 _,ih (i+1) _ L' (by omega) hlt (W.frame _ z' _ _ hst' (XD _ _) λb hb o e=>kp b o (λq=>hS1 (q▸hb)) e) hT2 (λx=>?_) (by omega) (λj d hp=>fM (hP' j d hp) λo e=>kp d o ?_ e) λz2 L2 hm2 a1 a2 a3=>?_⟩
  ·rw[hL2,hL];constructor
   ·rintro(⟨j,h1,h2⟩|rfl)
    ·exact⟨j,by omega,h2⟩
    ·exact⟨i,by omega,rfl⟩
   ·rintro⟨j,h1,rfl⟩
    by_cases q:j=i
    ·subst q; exact .inr rfl
    ·exact .inl ⟨j,by omega,rfl⟩
  ·obtain⟨c',q1,q2⟩:=hval j _ hp; cases q1; exact λq=>hSl (q▸q2)
  ·exact hR z2 L2 (Moved.trans W.gtrans ((hm.mono more).then_heap (XD _ _) λb o hb e=>kp b o (λq=>hb (by rw[q]; exact Zk)) e) hm2) a1 a2 a3
end
end TB

namespace TB
open PySem PyProof.Rows
open Classical in
noncomputable def d8(prog:WC)(w:WG)(h:Heap):Value->List Int
 | .ref c=>if x:∃ks,TK prog w h ks c then x.choose else[]
 | _=>[]
section
variable{prog:WC}{w:WG}{A:Around}{E:Wv}{s:WA}
open Classical in
theorem mC{h:Heap}{ks:Wx}{c:Addr}(x:TK prog w h ks c):d8 prog w h (.ref c)=ks:=by
 have hx:∃ks,TK prog w h ks c:=⟨ks,x⟩
 show(if x:∃ks,TK prog w h ks c then x.choose else[])=ks;rw[dif_pos hx];exact IsTupleKey.inj hx.choose_spec x
theorem rL{h:Heap}:∀{l:List (Int×Value)} {L:WB},Els prog w h l L->(l.map (·.2)).map (d8 prog w h)=L
 | _,_,.nil=>rfl
 | _,_,.cons ⟨_,b,e,x⟩ r=>by
  rw[ZK,ZK,rL r,e,mC x]
theorem uq{h:Heap}:∀{l:List (Int×Value)} {L:WB},Els prog w h l L->∀v∈l.map (·.2),∃c,v=.ref c/\TK prog w h (d8 prog w h v) c/\d8 prog w h v∈L
 | _,_,.nil,v,hv=>by cases hv
 | _,_,.cons ⟨_,b,e,x⟩ r,v,hv=>by
  rw[ZK] at hv;rcases Zt.mp hv with z|z
  ·rw[e] at z;subst z;exact⟨b,rfl,by rw[mC x]; exact x,by rw[mC x]; exact Zk⟩
  ·obtain⟨c,e1,e2,e3⟩:=uq r v z;exact⟨c,e1,e2,Zm _ e3⟩
def EZ(prog:WC)(w:WG)(h:Heap)(lim:Addr->Prop)(R:Addr)(ks:WB):Prop:=∃out:List Value,∃n,h.get? R=some (seqObj "list" out.toArray n)/\out.length=ks.length/\∀(i:Nat) v k,out[i]?=some v->ks[i]?=some k->∃c,v=.ref c/\c≠R/\lim c/\TK prog w h k c
theorem Ej{S:Addr}{lim:Addr->Prop}{L:WB}{Q:Wv}(hh:A.handled=none)(x:bU prog w lim s.heap S L)(hne:∀ks∈L,ks≠[])
  (q:∀h' tk R ks,s.heap.objs.size<=R->EZ prog w h' lim R ks->ks.Pairwise (λa b=>aD a b=true)->(∀y,y∈ks ↔ y∈L)->(∀b o,b<s.heap.objs.size->s.heap.get? b=some o->h'.get? b=some o)->Q (.ref R) { s with heap:=h',toks:=tk }) :
  wpAny (model prog w) A (call (.builtin "sorted") [.ref S]) Q E s:=by
 obtain⟨o,es,ep,t,ho,hex,hd,g,⟨hp,hl⟩,hsz,hels,hnd,hlim⟩:=x;have hfit:es.size<=t.mask:=by rcases g.msk with z|z<;>omega
 have X:Fix w o es ep t:=⟨hd,g,hp,hl,hfit⟩
 obtain⟨L1,x1,y1⟩:=Els.perm (mR w S ep es) hels;refine Calls.call_function_entry kind_sorted plain_sorted entry_sorted (args_sorted1 _) ?_;unfold Builtin.«sorted»;refine Za (m:=checkCount "sorted" 1 1 _) (Ze ?_);refine Za (FY (by simpa using hh) ho hex X λh1 tk hle k1=>?_);have hlen:(b7 w S ep es).toList.length=es.size:=by rw[ZH,je]
 have he18:es.size<=18:=by rcases g.msk with z|z<;>omega
 generalize hvs:(b7 w S ep es).toList.map (·.2)=vs;have hvl:vs.length=es.size:=by rw[<- hvs,Zc,hlen]
 have hkeys:vs.map (d8 prog w s.heap)=L1:=by rw[<- hvs]; exact rL x1
 have hvals:∀v∈vs,∃c,v=.ref c/\TK prog w s.heap (d8 prog w s.heap v) c/\d8 prog w s.heap v∈L1:=by rw[<- hvs]; exact uq x1
 have up:∀{ks:Wx} {c:Addr},TK prog w s.heap ks c->TK prog w h1 ks c/\c<s.heap.objs.size:=λ{ks c} z=>by
  obtain⟨oc,its,m,z1,z2⟩:=z;exact⟨⟨oc,its,m,k1 c oc (Zp z1) z1,z2⟩,Zp z1⟩
 refine Za (wpAny_newList ?_);have gR:(h1.push (seqObj "list" vs.toArray 0)).get? h1.objs.size=some (seqObj "list" vs.toArray 0):=Zv _ rfl;refine Za (XE (ZU slot_list_sort ⟨_,gR,rfl⟩ entry_list_sort (yz (s:={ s with heap:=h1.push (seqObj "list" vs.toArray 0),toks:=tk }) (key:=d8 prog w s.heap) gR (λv m=>?_) (by rw[hkeys]; exact y1.nodup_iff.mpr hnd) (by omega) λout po so=>⟨_,rfl,?_⟩) (args_list_sort _)))
 ·obtain⟨c,e,z,m2⟩:=hvals v m;refine⟨c,e,fM (up z).1 λoc e=>Zd _ e,hne _ (y1.mem_iff.mp m2)⟩
 ·refine Ze ⟨_,rfl,?_⟩
  have old:∀b o,b<s.heap.objs.size->s.heap.get? b=some o->(sortedHeap (h1.push (seqObj "list" vs.toArray 0)) h1.objs.size vs out.toArray).get? b=some o:=λb o hb e =>
   (sortedHeap_old (ZI (Qv hb hle)) (by rw[Z1]; exact X0 (Qv hb hle))).trans (Zd _ (k1 b o hb e))
  obtain⟨n,hn⟩:=sortedHeap_at (vs:=vs) (out:=out.toArray) gR;refine q _ tk h1.objs.size (out.map (d8 prog w s.heap)) (Qi hle) ⟨out,n,hn,(Zc _).symm,λi v k e1 e2=>?_⟩ so (λy=>?_) old
  ·rw[ZG,e1] at e2;have mv:=po.mem_iff.mp (ZD e1);obtain⟨c,e,z,_⟩:=hvals v mv
   have hc:lim c:=by
    rw[<- hvs] at mv;obtain⟨en,m1,m2⟩:=ZB.mp mv;exact hlim en ((mR w S ep es).mem_iff.mp m1) c (m2.trans e)
   have e3:d8 prog w s.heap v=k:=Zy e2;rw[e3] at z;exact⟨c,e,ZI (Qv (up z).2 hle),hc,fM z λoc e=>old c oc (Zp e) e⟩
  ·rw[(po.map _).mem_iff,hkeys];exact y1.mem_iff
end
end TB

namespace TB
open PySem PySem.SetTable PySem.Spec
section
variable{prog:WC}{w:WG}{A:Around}{E:Wv}{s:WA}
def Gm(prog:WC)(w:WG)(h:Heap)(items:WJ)(val:Nat->List Int):Prop:=∀(i:Nat) v,items[i]?=some v->∃c,v=.ref c/\TK prog w h (val i) c
noncomputable def fD(led:Bool):Obj:={ cls:=.type "set",dict:=none,data:=.set #[] 0 (.fresh 0 0 led) }
def Made(prog:WC)(w:WG)(h:Heap)(items:WJ)(val:Nat->List Int)(h':Heap):Prop:=(∃L,bU prog w (λc=>c<h.objs.size/\Value.ref c∈items.toList) h' h.objs.size L/\∀x,x∈L ↔ ∃j,j<items.size/\val j=x)/\∀b o,b<h.objs.size->h.get? b=some o->h'.get? b=some o
set_option maxRecDepth 100000 in
set_option maxHeartbeats 3200000 in
theorem Dl(a:Value){Q:Wv}(q:Q (.ref s.heap.objs.size) { s with heap:=s.heap.push (fD (!byT w)) }) :
  codeAny (model prog w) A (.call (.builtin "set.__new__") ⟨[.type "set",a],[]⟩) (wants Q E) s:=by
 refine codeAny_of_tree (show wpAny _ A.in1 (do checkBuiltinCall "set.__new__" ⟨[.type "set",a],[]⟩; again (.builtin "set.__new__" ⟨[.type "set",a],[]⟩)) _ _ s from ?_);refine Za (Qg (F.newCall_set_1 a) (Ze ⟨QF F.plain_set_new _,XX F.entry_set_new ?_⟩)); rw[XI F.plain_set_new _];unfold Builtin.«set.__new__» Builtin.Frozenset.newClass; have hsub:=sub_set_self;obtain⟨hp,g,d,tk,os⟩:=s;dsimp only; wp_walk;refine QD (Ze ?_);dsimp only; simp only[newObj];refine Za (wpAny_alloc (Ze (Ze ?_)));exact q
set_option maxRecDepth 100000 in
set_option maxHeartbeats 3200000 in
theorem Cf{l:Addr}{items:WJ}{val:Nat->List Int}{Q:Wv}(hu:A.units+4<cLine)(hh:A.handled=none)(hl:s.heap.IsList l items)(ht:Gm prog w s.heap items val)(hb:items.size<=18)
  (q:∀h' tk,Made prog w s.heap items val h'->Q (.ref s.heap.objs.size) { s with heap:=h',toks:=tk }):wpAny (model prog w) A (call (.type "set") [.ref l]) Q E s:=by
 obtain⟨ka,kb,kc⟩:=F.called_set.mro; have kd:=F.called_set.made; have ke:=F.called_set.sub;refine wpAny_call (codeAny_of_tree (show wpAny _ _ (callAny (.type "set") _) _ _ _ from ?_));refine Ze ⟨Code.quiet_builtin _ (by decide +kernel),XX F.entry_type_call ?_⟩; rw[Around.under_plain (weight_type_call_type "set" [.ref l] []) rfl];have kf:=F.called_set.notType; have kg:=F.called_set.canCreate; have ki:=F.typeCall_set_1 (.ref l)
 repeat (any_goals (first|wp_step|assumption))
 refine Q7 (Dl (.ref l) (E:=E) (Q:=λob z=>∃led:Bool,led=!byT w/\ob=.ref s.heap.objs.size/\z={ s with heap:=s.heap.push (fD led) }) ⟨_,rfl,rfl,rfl⟩) λr z hr=>?_
 cases r with
 | error e=>exact hr
 | ok fl =>
  cases fl with
  | ret ob =>
   obtain⟨led,hled,rfl,rfl⟩:=hr;have gS:(s.heap.push (fD led)).get? s.heap.objs.size=some (fD led):=Zv _ rfl;have hT:Shared.TypeIs { s with heap:=s.heap.push (fD led) } (.ref s.heap.objs.size) "set":=⟨_,gS,rfl⟩
   have kj:=F.called_set.init.lookup; have kk:=F.called_set.init.bind (.ref s.heap.objs.size)
   repeat (any_goals (first|wp_step|assumption))
   refine Q7 (codeAny_call_builtin (R:=wants (λr z=>r=.none/\∃h' tk,z={ s with heap:=h',toks:=tk }/\Made prog w s.heap items val h') E) F.called_set.init.plain F.entry_set_init (check_set_init_1 hT ?_)) λr2 z2 hr2=>?_
   ·obtain⟨⟨oc,od,ot,os⟩,hol,hcl,nl,hdl⟩:=hl;have hcl:oc=.type "list":=hcl; have hdl:ot=.seq items nl:=hdl;subst hcl; subst hdl;have hlt:l<s.heap.objs.size:=Zp hol;have gl:(s.heap.push (fD led)).get? l=some { cls:=.type "list",dict:=od,data:=.seq items nl,slots:=os }:=Zd _ hol;have kl:=F.sub_list_set; have km:=F.sub_list_frozenset; have kn:(Value.type "list"==Value.type "dict")=false:=by decide
    have hl1:(s.heap.push (fD led)).IsList l items:=⟨_,gl,rfl,nl,rfl⟩
    unfold Builtin.«set.__init__» noKeywords Builtin.Frozenset.updateFrom;generalize hpi:pyIter=pit;unfold fD at *
    wp_walk
    subst hpi;refine Q0 hl1 (Za (wpAny_runValue ?_));have sz:((s.heap.push ({ cls:=.type "set",dict:=none,data:=.set #[] 0 (.fresh 0 0 led) }:Obj)).objs.size)=s.heap.objs.size+1:=Z1 _ _;have h3:A.in1.in1.in1.handled=none:=by simpa using hh
    have hI:l≠(s.heap.push ({ cls:=.type "set",dict:=none,data:=.set #[] 0 (.fresh 0 0 led) }:Obj)).objs.size:=by rw[sz]; exact ZI (X0 hlt)
    refine G2 (by show A.units+1+1+1<cLine; omega) ((Walks.list h3 _ l hI items).toS) s.heap.objs.size (λc=>c<s.heap.objs.size/\Value.ref c∈items.toList) ?hS1 ?hwr (λz=>absurd z.1 (Xe _)) val hb ?hval (items.size-0) 0 _ [] rfl (Xj _) ⟨⟨_,Zv _ rfl,rfl,rfl⟩,hl1.push _⟩ ?hT ?hL (Zl _) ?hP ?hR
    case hS1=>rw[sz]; intro z; rcases Zt.mp z with z|z; exact absurd z (ZI (X2 _)); exact absurd (ZY.mp z) (Xy hlt)
    case hwr=>intro b z q; rw[ZY.mp z,sz] at q; exact absurd q.1 (Nat.not_lt_of_le (Qq _))
    case hval =>
     intro i v hv;obtain⟨c,e,o,items',m,h1,h2⟩:=ht i v hv;exact⟨c,e,Zp h1,ZD (by rw[<- e,ZX]; exact hv)⟩
    case hT=>rw[hled] at gS ⊢; exact bU.new (Zd _ gS)
    case hL=>intro x; constructor; (intro z; cases z); (rintro⟨j,z,_⟩; omega)
    case hP =>
     intro i c hp;obtain⟨c',e,x⟩:=ht i _ hp;cases e;exact fM x λo e=>Zd _ (Zd _ e)
    case hR =>
     rintro⟨h',g',d',tk',os'⟩ L' hm h1 h2 _;obtain rfl:g'=s.gens:=hm.gens;obtain rfl:d'=s.drawn:=hm.drawn;obtain rfl:os'=s.os:=hm.os;refine Ze (Ze ⟨rfl,h',tk',rfl,⟨L',h1,h2⟩,λb o hb' e=>?_⟩);refine hm.heap b o (λz=>?_) (Zd _ (Zd _ e));rcases Zt.mp z with z|z
     ·exact absurd z (ZI hb')
     ·rw[ZY,sz] at z; exact absurd z (ZI (X0 hb'))
   ·cases r2 with
    | error e=>exact hr2
    | ok fl2 =>
     cases fl2 with
     | ret r =>
      obtain⟨rfl,h',tk,rfl,hm⟩:=hr2
      repeat (any_goals (first|wp_step|assumption))
      exact q _ _ hm
     | _=>exact hr2.elim
  | _=>exact hr.elim
end
end TB

namespace EV
open PySem PySem.Spec PyProof.Rows L2 TB
theorem pK:∀{t u:Wx},t≠u->lexLe t u=true->aD t u=true
 | [],[],h,_=>absurd rfl h
 | [],_::_,_,_=>rfl
 | _::_,[],_,e=>by cases e
 | a::r,b::q,h,e=>by
  unfold lexLe at e;unfold aD
  by_cases ab:a=b
  ·subst ab;rw[Zg (Int.lt_irrefl a),Zf rfl] at e;rw[Zf rfl];exact pK (λz=>h (by rw[z])) e
  ·rw[Zg ab]
   by_cases lt:a<b
   ·exact Zi lt
   ·rw[Zg lt,Zg ab] at e; cases e
theorem sr:∀{t u:Wx},lexLe t u=false->aD u t=true
 | [],_,e=>by cases e
 | _::_,[],_=>rfl
 | a::r,b::q,e=>by
  unfold lexLe at e;unfold aD
  by_cases ab:a=b
  ·subst ab;rw[Zg (Int.lt_irrefl a),Zf rfl] at e;rw[Zf rfl];exact sr e
  ·rw[Zg λz=>ab z.symm]
   by_cases lt:a<b
   ·rw[Zf lt] at e; cases e
   ·exact Zi (by omega)
theorem gu(t x:Wx):∀r,x∈bC t r ↔ x=t\/x∈r
 | []=>by unfold bC; simp
 | u::r=>by
  unfold bC
  by_cases e:t=u
  ·rw[Zf e]; subst e; simp
  ·rw[Zg e]
   by_cases l:lexLe t u=true
   ·rw[Zf l]; simp
   ·rw[Zg l,Zt,gu t x r,Zt]; constructor
    ·rintro(h|h|h)
     ·exact .inr (.inl h)
     ·exact .inl h
     ·exact .inr (.inr h)
    ·rintro(h|h|h)
     ·exact .inr (.inl h)
     ·exact .inl h
     ·exact .inr (.inr h)
theorem qz(t:Wx):∀{r},r.Pairwise (λa b=>aD a b=true)->(bC t r).Pairwise (λa b=>aD a b=true)
 | [],_=>by unfold bC; exact List.pairwise_singleton _ _
 | u::r,h=>by
  unfold bC
  by_cases e:t=u
  ·rw[Zf e]; exact h
  ·rw[Zg e];obtain⟨h1,h2⟩:=Wj.mp h
   by_cases l:lexLe t u=true
   ·rw[Zf l];have tu:=pK e l;refine Wj.mpr ⟨λx hx=>?_,h⟩;rcases Zt.mp hx with z|z
    ·rw[z]; exact tu
    ·exact lex_trans _ _ _ tu (h1 x z)
   ·rw[Zg l];have ut:=sr (Bool.eq_false_iff.mpr l);refine Wj.mpr ⟨λx hx=>?_,qz t h2⟩;rcases(gu t x r).mp hx with z|z
    ·rw[z]; exact ut
    ·exact h1 x z
theorem mY:∀ts,(aN ts).Pairwise (λa b=>aD a b=true)
 | []=>.nil
 | t::r=>qz t (mY r)
theorem vc(x:Wx):∀ts,x∈aN ts ↔ x∈ts
 | []=>Iff.rfl
 | t::r=>by
  show x∈bC t (aN r) ↔ _;rw[gu,vc x r,Zt]
theorem pY{l:WB}(h:l.Pairwise (λa b=>aD a b=true)):l.Nodup:=h.imp λ{a b} e q=>by
 rw[q,lex_irrefl] at e; cases e
theorem B5{ts ks:WB}(h:ks.Pairwise (λa b=>aD a b=true))(m:∀y,y∈ks ↔ y∈ts):ks=aN ts:=by
 have p:ks.Perm (aN ts):=(List.perm_ext_iff_of_nodup (pY h) (pY (mY ts))).mpr λy=>by rw[m,vc]
 refine p.eq_of_pairwise (λx y _ _ h1 h2=>?_) h (mY ts);have z:=lex_trans _ _ _ h1 h2;rw[lex_irrefl] at z; cases z
theorem jg(t:Wx):∀r,(bC t r).length<=r.length+1
 | []=>Zl _
 | u::r=>by
  unfold bC
  by_cases e:t=u
  ·rw[Zf e]; exact Qq _
  ·rw[Zg e]
   by_cases l:lexLe t u=true
   ·rw[Zf l]; exact Zl _
   ·rw[Zg l]; exact Qz (jg t r)
theorem ja:∀ts,(aN ts).length<=ts.length
 | []=>Zl _
 | t::r=>Xa (jg t (aN r)) (Qz (ja r))
theorem uK:∀{ds:WP} {ts:WB},tups ds=some ts->ds=ts.map λt=>.tup (t.map .int)
 | [],_,h=>by cases h; rfl
 | d::r,ts,h=>by
  cases d with
  | tup es =>
   unfold tups at h
   cases q1:allInts es with
   | none=>rw[q1] at h; cases h
   | some t =>
    cases q2:tups r with
    | none=>rw[q1,q2] at h; cases h
    | some q =>
     rw[q1,q2] at h; cases h;rw[ZK,<- uK q2,<- ints_map q1]
  | _=>cases h
section
variable{X:Cx}{Γ:Gx}{xw:XW}{ι:WD}{H:Hp}
theorem pW{P:WC}{w:WG}:∀{ks:Wx} {its:Wz},Vals (ks.map V.int) its->ItemsAre (intKind P w) ks its
 | [],_,.nil=>.nil
 | k::r,_,.cons h t=>by
  obtain⟨u,rfl⟩:=h;exact .cons (XO k) (pW t)
theorem vW{pins:Ww}{σ:L2.St}{s:WA}{c:Addr}{ks:Wx}(I:Inv X pins σ H s)(h:H c=some (.tup (ks.map V.int))):TK X.prog X.w s.heap ks c:=by
 obtain⟨its,r,⟨o,e1,e2,n,e3⟩,_⟩:=I.tuple (.of h);exact⟨o,its.toArray,n,e1,e2,e3,pW r⟩
theorem vj:∀{out:Wz} {ks:WB},out.length=ks.length->(∀(i:Nat) v k,out[i]?=some v->ks[i]?=some k->∃c,v=.ref c/\H c=some (.tup (k.map V.int)))->∃vs,Vals vs out/\aA Γ ι H (ks.map λt=>.tup (t.map .int)) vs
 | [],[],_,_=>⟨[],.nil,.nil⟩
 | [],_::_,hl,_=>by cases hl
 | _::_,[],hl,_=>by cases hl
 | v::o,k::r,hl,h=>by
  obtain⟨c,rfl,e⟩:=h 0 v k rfl rfl;obtain⟨vs,h1,h2⟩:=vj (out:=o) (ks:=r) (Nat.succ.inj hl) λi v' k' e1 e2=>h (i+1) v' k' e1 e2
  exact⟨.ref c::vs,.cons rfl h1,.cons (.i9 e (k_ k)) h2⟩
theorem item_at:∀{ts:WB} {xs:WN} {its:Wz} {i:Nat} {v:Value},aA Γ ι H (ts.map λt=>.tup (t.map .int)) xs->Vals xs its->its[i]?=some v->∃c t,v=.ref c/\ts[i]?=some t/\H c=some (.tup (t.map V.int))
 | [],_,_,_,_,.nil,.nil,e=>by simp at e
 | t::r,_,_,0,_,.cons a p,.cons b q,e=>by
  cases e;obtain⟨c,rfl,sq⟩:=a.trk;cases b;exact⟨c,t,rfl,rfl,sq⟩
 | t::r,_,_,i+1,_,.cons a p,.cons b q,e=>by
  obtain⟨c,u,e1,e2,e3⟩:=item_at (ts:=r) (i:=i) p q e;exact⟨c,u,e1,e2,e3⟩
theorem Ia{sub:Sub}{x y:Str}{p p' pos pos':Pos}{a:Expr}{ma:Sg->M D}(hK:Γ.K=X.K)(hc:X.calm=true)(hu:X.A.units+4<cLine)(hg:Gl X x)(hm:X.mg x=none)(hv:bootBuiltins x=some (.builtin "sorted"))
  (hg':Gl X y) (hm':X.mg y=none) (hv':bootBuiltins y=some (.type "set")) (ha:PE X a (tM Γ xw ma)) (hn:x≠"__name__") (hdb:(x==("__debug__" : Str))=false) (hn':y≠"__name__") (hdb':(y==("__debug__" : Str))=false)
  (hs:starEach [a] X.env=(false,eval a X.env)::starEach [] X.env):PE X (.Call (.Name x p) [.Call (.Name y p') [a] [] pos'] [] pos) (tM Γ xw λσ=>ma σ>>=λd=>bi1 sub .sortedSet d):=by
 intro pins s σ H Q I h;refine XQ (ef I hg hm hv ?_ hn hdb);refine PyProof.Rows.callWith_builtin1 (e:=.Call (.Name y p') [a] [] pos') (rest:=[]) ?_ rfl rfl;refine QM ?_;refine XQ (ef I hg' hm' hv' ?_ hn' hdb');refine Xs (e:=a) (rest:=[]) ?_ hs rfl;rw[hs];refine QM (thn (ha pins s σ H _ I (C0 h)) λu s1 ⟨v,H1,I1,r1,q1⟩=>QW ?_);obtain⟨ι,S,d,hS,r,ho⟩:=q1;obtain⟨ds,q,ho⟩:=Out.cB ho;obtain⟨ts,q2,ho⟩:=Out.opt ho;obtain⟨hz,ho⟩:=Out.guard ho;obtain⟨hz1,hz2⟩:=Bool.and_eq_true_iff.mp hz;have hz1:ts.length<=18:=Zs hz1;obtain⟨_,pa,xs,rfl,sq,rp⟩:=yQ hS r q;rw[uK q2] at rp;cases r1;rw[hK] at sq;obtain⟨its,rv,pl,_⟩:=I1.list sq;have hl:its.length=ts.length:=by rw[<- rv.length,<- rp.length,Zc]
 refine Cf (val:=λi=>ts.getD i []) hu (I1.ok.hd hc) pl.isList (λi v e=>?_) (by rw[Zo]; omega) λh' tk md=>?_
 ·obtain⟨c,t,e1,e2,e3⟩:=item_at rp rv (by simpa using e);refine⟨c,e1,?_⟩;show TK X.prog X.w s1.heap (ts.getD i []) c;rw[Zj,e2];exact vW I1 e3
 ·obtain⟨⟨L,tset,hL⟩,k1⟩:=md
  have hlt:s1.heap.objs.size<h'.objs.size:=by
   obtain⟨o,_,_,_,e,_⟩:=tset;exact Zp e
  have hmem:∀y,y∈L ↔ y∈ts:=λy=>by
   rw[hL];constructor
   ·rintro⟨j,h1,rfl⟩;rw[Zo,hl] at h1;show ts.getD j []∈ts;rw[Zj,Zb h1];exact Z3 h1
   ·intro hy;obtain⟨j,hj⟩:=ZS hy;exact⟨j,by rw[Zo,hl]; exact(Zh.mp hj).1,by show ts.getD j []=y; rw[Zj,hj]; rfl⟩
  refine QW (Ej (s:={ s1 with heap:=h',toks:=tk }) (I1.ok.hd hc) tset (λks hk e=>?_) λh2 tk2 R ks hR hol so hm2 old=>?_)
  ·have:=Xn.mp hz2 ks ((hmem ks).mp hk);rw[e] at this; cases this
  ·obtain⟨out,n,eo,el,ev⟩:=hol;have kp:∀b o,s1.heap.get? b=some o->h2.get? b=some o:=λb o e=>old b o (Qv (Zp e) hlt) (k1 b o (Zp e) e)
   have e:ks=aN ts:=B5 so λy=>by rw[hm2,hmem]
   subst e
   obtain⟨vs,w1,w2⟩:=vj (Γ:=Γ) (ι:=ι) (H:=H1) el λi v k e1 e2=>by
    obtain⟨c,rfl,_,⟨_,hc2⟩,tk2⟩:=ev i v k e1 e2;obtain⟨j,hj⟩:=ZS hc2;obtain⟨c',t,e3,_,e4⟩:=item_at rp rv (by simpa using hj);cases e3;have:=IsTupleKey.inj tk2 (fM (vW I1 e4) λo e=>kp c o e);subst this;exact⟨c,rfl,e4⟩
   have hR2:s1.heap.objs.size<=R:=Xa (Qi hlt) hR;refine⟨.ref R,_,I1.laid (h':=h2) (t':=tk2) (o:=.lst vs) kp hR2 ⟨?_,out,n,w1,eo⟩,rfl,Out.alloc ho hS (I1.hok.fresh hR2) w2⟩;rw[w1.length,el,Qp];have:(aN ts).length<=ts.length:=ja ts;omega
end
end EV

namespace EV
open PySem PySem.Spec PyProof.Rows L2
theorem dJ{n:Nat}{c:TC}{a:WL}{a':E}(h:trE n c a=some a'):∀es env,starEach (a::es) env=(false,eval a env)::starEach es env:=by
 cases n with
 | zero=>cases h
 | succ n=>cases a<;>first|(intro _ _; rfl)|cases h
theorem dR{f:PySem.Expr->Option E}{e:WL}{r:WM}{es:E}(h:bM f (e::r)=some es):∃a b,f e=some a/\bM f r=some b/\es=.cs a b:=by
 unfold bM at h
 cases q:f e with
 | none=>rw[q] at h; cases h
 | some a =>
  rw[q] at h
  cases q2:bM f r with
  | none=>rw[q2] at h; cases h
  | some b=>rw[q2] at h; cases h; exact⟨a,b,rfl,rfl,rfl⟩
theorem gU{n:Nat}{c:TC}:∀{es:WM} {es':E},bM (trE n c) es=some es'->∀env pos,(backTo pos (starEach es env)).any (·.1)=false/\(backTo pos (starEach es env)).all (λx=>!x.1)=true
 | [],_,_,_,_=>⟨rfl,rfl⟩
 | e::r,_,h,env,pos=>by
  obtain⟨a,b,h1,h2,_⟩:=dR h;rw[dJ h1];obtain⟨z1,z2⟩:=gU h2 env pos;constructor
  ·show(List.map _ ((false,eval e env)::starEach r env)).any _=false;rw[ZK,X1];have:(List.map (λx:Bool×Sem Value=>(x.1,if x.1=true then do let v <- x.2; standAt pos; pure v else x.2)) (starEach r env)).any (·.1)=false:=z1;simpa using this
  ·show(List.map _ ((false,eval e env)::starEach r env)).all _=true;rw[ZK,Wm];have:(List.map (λx:Bool×Sem Value=>(x.1,if x.1=true then do let v <- x.2; standAt pos; pure v else x.2)) (starEach r env)).all (λx=>!x.1)=true:=z2;simpa using this
section
variable{Γ:Gx}{W:XW->Prop}{CX:CXT}{EW:XW->XK}{gt:List (Str×GE)}{cf:Str->List D->M D}{sub:Sub}{X:Cx}{xw:XW}
theorem Gw(hw:W xw){ps:WI}{m:Sg->M (List D)}{i:Str}(hb:∀ds S,ds.length≠ps.length->cf i ds S=.bad){σ:L2.St}{H:Hp}{Q:VK}(h:tM Γ xw (λσ=>m σ>>=cf i) σ H Q) :
  nK (spF Γ W EW (cf i) ps.length) [] (EW xw) (tMA Γ xw m) σ H Q:=by
 obtain⟨σd,ι,S,he,hs,ho⟩:=h;refine⟨σd,ι,S,he,hs,ho.bind.mono λds S' ι' H' _ _ ⟨s',e',o'⟩ vs rs=>?_⟩;show spF Γ W EW (cf i) ps.length (vs++[]) H' Q (EW xw);rw[XV];refine⟨?_,xw,hw,rfl,ι',S',ds,s',rs,o'⟩
 by_cases hl:ds.length=ps.length
 ·rw[<- rs.length]; exact hl
 ·rw[hb ds S' hl] at o'; exact o'.elim
theorem DE(F:Fam Γ W CX EW gt cf X xw){x:Str}(hx:gt.lookup x=some .fn)(hg:Gl X x)(hdb:(x==("__debug__" : Str))=false){a:WL}{es:WM}{m:Sg->M (List D)}{p pos:Pos}
  (ha:PA X (a::es) (tMA Γ xw m)) (he:starEach (a::es) X.env=(false,eval a X.env)::starEach es X.env) (hpl:(backTo pos (starEach es X.env)).any (·.1)=false) :
  PE X (.Call (.Name x p) (a::es) [] pos) (tM Γ xw λσ=>m σ>>=cf x):=by
 obtain⟨k,f,fd,ps,hf,hr,hm,hk,hb,hl⟩:=F.fn x hx;exact PE.imp (An hf hr hg hm hk hb .nil F.pass ha hdb he hpl) λσ H Q h=>Gw F.ok hl h
theorem Cy(F:Fam Γ W CX EW gt cf X xw){x:Str}(hx:gt.lookup x=some .fn)(hg:Gl X x)(hdb:(x==("__debug__" : Str))=false){p pos:Pos} :
  PE X (.Call (.Name x p) [] [] pos) (tM Γ xw λ_=>cf x []):=by
 obtain⟨k,f,fd,ps,hf,hr,hm,hk,hb,hl⟩:=F.fn x hx;refine PE.imp (z_ hf hr hg hm hk hb .nil F.pass hdb) λσ H Q h=>?_
 obtain⟨σd,ι,S,he,hs,ho⟩:=h;have ho:Out Γ xw ι H (cf x [] S) λd x ι' H'=>∀(v:V),Rep Γ ι' H' d v->Q v H':=ho
 refine⟨?_,xw,F.ok,rfl,ι,S,[],hs,.nil,ho⟩
 by_cases hz:([]:List D).length=ps.length
 ·exact hz
 ·rw[hl [] S hz] at ho; exact ho.elim
theorem t6(F:Fam Γ W CX EW gt cf X xw){x:Str}(h:gt.lookup x=none)(hm:x∈eO):X.mg x=none:=F.blt x hm h
theorem Ec(F:Fam Γ W CX EW gt cf X xw){x:Str}{b:Bi}(hb:lK x=some b)(hn:gt.lookup x=none)(hg:Gl X x){a:WL}{es:WM}{m:Sg->M (List D)}{p pos:Pos}
  (ha:PA X (a::es) (tMA Γ xw m)) (he:starEach (a::es) X.env=(false,eval a X.env)::starEach es X.env) (hpl:(backTo pos (starEach es X.env)).any (·.1)=false) :
  PE X (.Call (.Name x p) (a::es) [] pos) (tM Γ xw λσ=>m σ>>=biD sub b):=by
 have hm:x∈eO->X.mg x=none:=t6 F hn;unfold lK at hb
 by_cases e:x = "len"
 ·subst e; rw[Zf rfl] at hb; cases hb;exact j7 (yj F.hK) hg (hm (by decide +kernel)) PySem.boot_len ha (by decide +kernel) (by decide +kernel) he hpl
 rw[Zg e] at hb; clear e
 by_cases e:x = "all"
 ·subst e; rw[Zf rfl] at hb; cases hb;exact j7 (ET F.hK F.calm) hg (hm (by decide +kernel)) boot_all ha (by decide +kernel) (by decide +kernel) he hpl
 rw[Zg e] at hb; clear e
 by_cases e:x = "sum"
 ·subst e; rw[Zf rfl] at hb; cases hb;exact j7 (G4 F.hK F.calm) hg (hm (by decide +kernel)) boot_sum ha (by decide +kernel) (by decide +kernel) he hpl
 rw[Zg e] at hb; clear e
 by_cases e:x = "max"
 ·subst e; rw[Zf rfl] at hb; cases hb;exact j7 (yE F.hK F.calm) hg (hm (by decide +kernel)) boot_max ha (by decide +kernel) (by decide +kernel) he hpl
 rw[Zg e] at hb; clear e
 by_cases e:x = "tuple"
 ·subst e; rw[Zf rfl] at hb; cases hb;exact zz (IE F.hK) hg (hm (by decide +kernel)) PyProof.Rows.boot_tuple ha (by decide +kernel) (by decide +kernel) he hpl
 rw[Zg e] at hb; cases hb
theorem Ik(F:Fam Γ W CX EW gt cf X xw){y:Str}{t:Ty}(hb:nT y=some t)(hn:gt.lookup y=none):∃T,t.name=some T/\bootBuiltins y=some (.type T)/\X.mg y=none/\y≠"__name__"/\(y==("__debug__" : Str))=false:=by
 have hm:y∈eO->X.mg y=none:=t6 F hn;unfold nT at hb
 by_cases e:y = "int"
 ·subst e; rw[Zf rfl] at hb; cases hb;exact⟨_,rfl,PyProof.Rows.boot_int,hm (by decide +kernel),by decide +kernel,by decide +kernel⟩
 rw[Zg e] at hb; clear e
 by_cases e:y = "bool"
 ·subst e; rw[Zf rfl] at hb; cases hb;exact⟨_,rfl,PyProof.Rows.boot_bool,hm (by decide +kernel),by decide +kernel,by decide +kernel⟩
 rw[Zg e] at hb; clear e
 by_cases e:y = "str"
 ·subst e; rw[Zf rfl] at hb; cases hb;exact⟨_,rfl,PyProof.Rows.boot_str,hm (by decide +kernel),by decide +kernel,by decide +kernel⟩
 rw[Zg e] at hb; clear e
 by_cases e:y = "list"
 ·subst e; rw[Zf rfl] at hb; cases hb;exact⟨_,rfl,PyProof.Rows.boot_list,hm (by decide +kernel),by decide +kernel,by decide +kernel⟩
 rw[Zg e] at hb; clear e
 by_cases e:y = "tuple"
 ·subst e; rw[Zf rfl] at hb; cases hb;exact⟨_,rfl,PyProof.Rows.boot_tuple,hm (by decide +kernel),by decide +kernel,by decide +kernel⟩
 rw[Zg e] at hb; clear e
 by_cases e:y = "dict"
 ·subst e; rw[Zf rfl] at hb; cases hb;exact⟨_,rfl,PyProof.Rows.boot_dict,hm (by decide +kernel),by decide +kernel,by decide +kernel⟩
 rw[Zg e] at hb; cases hb
theorem Ft{o:WL}{name:Str}{env:Env}(hc0:oF o=true):attributeBase o name env (eval o env)=eval o env:=by
 unfold attributeBase
 cases o with
 | Call f as ks p =>
  cases as with
  | cons _ _=>cases f<;>rfl
  | nil =>
   cases ks with
   | nil=>cases hc0
   | cons _ _=>cases f<;>rfl
 | _=>rfl
theorem yh(F:Fam Γ W CX EW gt cf X xw){name:Str}{me:Me}(hb:nU name=some me){o a:WL}{es:WM}{apos cpos:Pos}{mo:Sg->M D}{m:Sg->M (List D)}
  (ho:PE X o (tM Γ xw mo)) (ha:PA X (a::es) (tMA Γ xw m)) (hc0:oF o=true) (hlen:(a::es).length<20) (hall:(backTo cpos (starEach (a::es) X.env)).all (λx=>!x.1)=true)
  (hline:(apos.endLine==cpos.line)=true) (hs:starEach (a::es) X.env=(false,eval a X.env)::starEach es X.env) (hplain:(backTo cpos (starEach es X.env)).any (·.1)=false) :
  PE X (.Call (.Attribute o name apos) (a::es) [] cpos) (tM Γ xw λσ=>mo σ>>=λx=>ly x (m σ>>=λds=>meD me x ds)):=by
 have hbase:attributeBase o name X.env (eval o X.env)=eval o X.env:=Ft hc0
 have hfew:((backTo cpos (starEach (a::es) X.env)).all (λx=>!x.1)&&(backToKw cpos (keywordEach [] X.env)).all (λx=>x.1.isSome)&&decide ((a::es).length+([]:List Keyword).length+(if([]:List Keyword).isEmpty then 0 else 1)<30))=true:=by
  rw[hall];show(true&&true&&decide ((a::es).length+0+0<30))=true;rw[Zi (show(a::es).length+0+0<30 by omega)];rfl
 obtain⟨id,sl,ty,mt⟩:∃id,Slot "list" name id/\typeOf (.builtin id)=pure (.type "method_descriptor")/\MtR X id (λx xs H Q=>∃ι S dx ds,aq Γ ι H S/\Rep Γ ι H dx x/\aA Γ ι H ds xs/\Out Γ xw ι H (meD me dx ds S) λd _ ι' H'=>∀v,Rep Γ ι' H' d v->Q v H'):=by
  clear hfew hbase ha ho;unfold nU at hb
  by_cases e:name = "append"
  ·subst e; rw[Zf rfl] at hb; cases hb;exact⟨_,PySem.F.slot_list_append,PySem.F.type_list_append,CF⟩
  rw[Zg e] at hb; clear e
  by_cases e:name = "extend"
  ·subst e; rw[Zf rfl] at hb; cases hb;exact⟨_,PySem.F.slot_list_extend,PySem.F.type_list_extend,DR⟩
  rw[Zg e] at hb; cases hb
 exact FN F.hK PySem.F.plainAttrs_list sl ty mt ho ha hbase hfew hline hs hplain
end
end EV

namespace EV
open PySem PySem.Spec PyProof.Rows L2
section
variable(Γ:Gx)(sub:Sub)(cf:Str->List D->M D)
set_option genInjectivity false in
structure ClE(X:Cx)(xw:XW)(e:WL)(e':E):Prop where
 pe:PE X e (tM Γ xw (ev sub cf e'))
 pt:PT X e (tMT Γ xw (evT sub cf e'))
 pw:(∃op vs p,e=.BoolOp op vs p)->PW X e (tMT Γ xw (evT sub cf e'))
end
section
variable{Γ:Gx}{W:XW->Prop}{CX:CXT}{EW:XW->XK}{gt:List (Str×GE)}{cf:Str->List D->M D}{sub:Sub}{X:Cx}{xw:XW}
theorem rY{e:WL}:PT X e (tMT Γ xw λ_=>bad):=λ_ _ _ _ _ _ h=>by
 obtain⟨_,_,_,_,_,ho⟩:=h;exact ho.elim
theorem noBool{e:WL}(h:∀op vs p,e≠.BoolOp op vs p){P:Prop}:(∃op vs p,e=.BoolOp op vs p)->P:=λ⟨op,vs,p,q⟩=>(h op vs p q).elim
theorem bJ{e:WL}{e':E}(hK:Γ.K=X.K)(h:PE X e (tM Γ xw (ev sub cf e')))(he:∀whole,isTrue e X.env whole=(do let v <- whole; standAt e.pos; holding [v] (truthy v)))
  (hb:(evT sub cf e'=λσ=>ev sub cf e' σ>>=truth)\/evT sub cf e'=λ_=>bad) (hn:∀op vs p,e≠.BoolOp op vs p):ClE Γ sub cf X xw e e':=by
 refine⟨h,?_,noBool hn⟩;rcases hb with q|q
 ·rw[q]; exact IG hK h he
 ·rw[q]; exact rY
theorem GD{c:TC}{x:Str}{p:Pos}{e':E}(F:Fam Γ W CX EW c.gt cf X xw)(C:Cok c X)(h:lN c x=some e'):ClE Γ sub cf X xw (.Name x p) e':=by
 unfold lN at h
 by_cases h1:eG x=true
 ·rw[Zf h1] at h;obtain⟨d1,d2⟩:=ua h1
  by_cases h2:fT c.sc x=true
  ·rw[Zf h2] at h
   cases q:idx c.N x with
   | none=>rw[q] at h; cases h
   | some i =>
    rw[q] at h; cases h;exact bJ F.hK (xJ (by rw[C.N]; exact iO q) (by rw[C.sc]; exact Af h2) d1 d2) (λ_=>rfl) (.inl rfl) (λ_ _ _ z=>nomatch z)
  ·rw[Zg h2] at h
   by_cases h3:glB c x=true
   ·rw[Zf h3] at h
    cases q:c.gt.lookup x with
    | none=>rw[q] at h; cases h
    | some g =>
     rw[q] at h
     cases g with
     | val d =>
      cases h;obtain⟨u,v,hm,r,hv⟩:=F.val x d q;exact bJ F.hK (iQ (C2 (C.gl h3) hm r d1) hv) (λ_=>rfl) (.inl rfl) (λ_ _ _ z=>nomatch z)
     | _=>cases h
   ·rw[Zg h3] at h; cases h
 ·rw[Zg h1] at h; cases h
theorem BA{k:Const}{j:Nat}{p:Pos}{e':E}(hK:Γ.K=X.K)(h:xm k=some e'):ClE Γ sub cf X xw (.Constant k j p) e':=by
 cases k<;>first|(cases h; done)|skip
 ·cases h; exact bJ hK (iQ AK λ_ _=>.non) (λ_=>rfl) (.inl rfl) (λ_ _ _ z=>nomatch z)
 ·cases h; exact bJ hK (iQ Eo λ_ _=>.bl _) (λ_=>rfl) (.inl rfl) (λ_ _ _ z=>nomatch z)
 ·cases h; exact bJ hK (iQ BC λ_ _=>.int _) (λ_=>rfl) (.inl rfl) (λ_ _ _ z=>nomatch z)
 ·cases h; exact bJ hK (iQ HV λ_ _=>.str _) (λ_=>rfl) (.inl rfl) (λ_ _ _ z=>nomatch z)
theorem Gp(hK:Γ.K=X.K){op:Operator}{o:Op2}(h:op2 op=some o):OpR X (binaryOp op) (bg Γ xw (opD o)):=by
 cases op<;>cases h
 ·exact GZ hK
 ·exact GX
 ·exact Hw hK
 ·exact zL
 ·exact IK
theorem iE(F:Fam Γ W CX EW gt cf X xw){op:CmpOp}{o:Cm}(h:cmO op=some o):OpR X (compareOp op) (bg Γ xw (cmD o)):=by
 cases op<;>cases h
 ·exact s_eq F.hK F.un
 ·exact E4 F.hK F.un
 ·exact C5
 ·exact Ao
 ·exact zm
 ·exact DZ
 ·exact Iq F.hK F.un
 ·exact E6 F.hK F.un
theorem pN(F:Fam Γ W CX EW gt cf X xw){op:CmpOp}{b:WL}{o:Cm}(h:l5 op b=some o):OpR X (compareOp op) (bg Γ xw (cmD o)):=by
 unfold l5 at h;split at h
 ·have hu:=F.un;cases op<;>cases h
  ·exact B7 (by omega)
  ·exact EK (by omega)
 ·exact iE F h
theorem lD{o:Cm}:∀(x y:D) (S:af) (d:D) (S':af),cmD o x y S=.ok d S'->∃k,d=.bl k:=by
 intro x y S d S' h
 have intc:∀p:Int->Int->Bool,gr p x y S=.ok d S'->∃k,d=.bl k:=λp h=>by
  cases x<;>first|(cases h; done)|skip;cases y<;>first|(cases h; done)|skip;cases h; exact⟨_,rfl⟩
 have inc:∀neg,inM neg x y S=.ok d S'->∃k,d=.bl k:=λneg h=>by
  unfold inM at h;rcases i_ y S with⟨ds,e⟩|e
  ·rw[aj e] at h;unfold inA at h
   cases q:inL S x ds with
   | none=>rw[q] at h; cases h
   | some k=>rw[q] at h; cases h; exact⟨_,rfl⟩
  ·rw[aV e] at h; cases h
 cases o with
 | lt=>exact intc _ h
 | le=>exact intc _ h
 | gt=>exact intc _ h
 | ge=>exact intc _ h
 | eq =>
  have h:(eqM x y>>=λb=>pure (.bl b)) S=.ok d S':=h;rw[cT] at h;unfold eqM at h
  cases q:eqD deep S x y with
  | none=>rw[q] at h; cases h
  | some k=>rw[q] at h; cases h; exact⟨_,rfl⟩
 | ne =>
  have h:guard (iw x y) (eqM x y>>=λb=>pure (.bl (!b))) S=.ok d S':=h
  cases q:iw x y with
  | false=>rw[q] at h; cases h
  | true =>
   rw[q] at h;have h:(eqM x y>>=λb=>pure (.bl (!b))) S=.ok d S':=h;rw[cT] at h;unfold eqM at h
   cases q:eqD deep S x y with
   | none=>rw[q] at h; cases h
   | some k=>rw[q] at h; cases h; exact⟨_,rfl⟩
 | isin=>exact inc _ h
 | cW=>exact inc _ h
 | tin =>
  cases x<;>first|(cases h; done)|skip;cases y<;>first|(cases h; done)|skip;rename_i a b;have h:(match a.cps.toList with|[c]=>pure (.bl (decide (c∈b.cps.toList)))|_=>bad:M D) S=.ok d S':=h
  cases hc:a.cps.toList with
  | nil=>rw[hc] at h; cases h
  | cons c r =>
   rw[hc] at h
   cases r with
   | nil=>cases h; exact⟨_,rfl⟩
   | cons _ _=>cases h
 | nisB =>
  cases x<;>first|(cases h; done)|skip;cases y<;>first|(cases h; done)|skip;cases h; exact⟨_,rfl⟩
 | din=>exact sL h
 | dnin=>exact sL h
theorem fq{c:TC}{n:Nat}(F:Fam Γ W CX EW c.gt cf X xw)(C:Cok c X)(ih:∀e e',trE n c e=some e'->ClE Γ sub cf X xw e e'):∀{es:WM} {es':E},bM (trE n c) es=some es'->PA X es (tMA Γ xw (evs sub cf es'))
 | [],_,h=>by cases h; exact CJ
 | e::r,_,h=>by
  obtain⟨a,b,h1,h2,rfl⟩:=dR h;exact CN (ih e a h1).pe (fq F C ih h2) (dJ h1 r X.env)
theorem n8{c:TC}(hK:Γ.K=X.K)(hc:X.calm=true)(C:Cok c X){tg:WL}{t:Tg}(h:jb c tg=some t):PG X tg (tMG Γ t):=by
 have names:∀(es:WM) (is:List Nat),gb c es=some is->jI X es is:=by
  intro es
  induction es with
  | nil=>intro is h; cases h; exact .nil
  | cons e r ih =>
   intro is h
   cases e with
   | Name x p =>
    unfold gb at h
    by_cases hl:eV c x=true
    ·rw[Zf hl] at h
     cases q:idx c.N x with
     | none=>rw[q] at h; cases h
     | some i =>
      rw[q] at h
      cases q2:gb c r with
      | none=>rw[q2] at h; cases h
      | some js =>
       rw[q2] at h; cases h;exact .cons ⟨x,p,rfl,by rw[C.N]; exact iO q,(C.loc hl).1,(C.loc hl).2⟩ (ih js q2)
    ·rw[Zg hl] at h; cases h
   | _=>cases h
 cases tg with
 | Name x p =>
  have h:(if eV c x=true then(idx c.N x).map Tg.one else none)=some t:=h
  by_cases hl:eV c x=true
  ·rw[Zf hl] at h
   cases q:idx c.N x with
   | none=>rw[q] at h; cases h
   | some i =>
    rw[q] at h; cases h;exact Et C.nd (by rw[C.N]; exact iO q) (C.loc hl).1 (C.loc hl).2
  ·rw[Zg hl] at h; cases h
 | Tuple es k p =>
  have h:(gb c es).map Tg.many=some t:=h
  cases q:gb c es with
  | none=>rw[q] at h; cases h
  | some is =>
   rw[q] at h; cases h;exact Ad hK hc C.nd (names es is q)
 | _=>cases h
theorem yu{e:WL}(h:oE e=true)(env:Env):∀x,foldedSetIterable e env x=pure x:=by
 intro x;cases e<;>first|rfl|cases h
theorem iM{c:TC}(C:Cok c X){x:Str}(h:ez c x=true):Gl X x/\c.gt.lookup x=none:=by
 unfold ez at h;rw[ZA] at h;exact⟨C.gl h.1,by simpa using h.2⟩
theorem u_{f:PySem.Expr->Option E}:∀{es:WM} {es':E},bM f es=some es'->∀(σ:Sg) (S:af) (ds:WP) (S':af),evs sub cf es' σ S=.ok ds S'->ds.length=es.length
 | [],_,h,σ,S,ds,S',q=>by
  cases h;have q:(Res.ok [] S:Res (List D))=.ok ds S':=q;cases q; rfl
 | e::r,_,h,σ,S,ds,S',q=>by
  obtain⟨a,b,h1,h2,rfl⟩:=dR h;have q:(ev sub cf a σ>>=λx=>evs sub cf b σ>>=λxs=>pure (x::xs)) S=.ok ds S':=q
  cases q1:ev sub cf a σ S with
  | ok d S1 =>
   rw[aj q1] at q
   cases q2:evs sub cf b σ S1 with
   | ok xs S2 =>
    rw[aj q2] at q;cases q;show xs.length+1=r.length+1;rw[u_ h2 σ S1 xs _ q2]
   | exc k S2=>rw[cY q2] at q; cases q
   | bad=>rw[aV q2] at q; cases q
  | exc k S2=>rw[cY q1] at q; cases q
  | bad=>rw[aV q1] at q; cases q
theorem DL{α:Type}{m m':M α}(h:∀S,m S=m' S):m=m':=funext h
theorem lY(m:M D)(f:List D->M D):((m>>=λx=>(pure []:M (List D))>>=λxs=>pure (x::xs))>>=f)=(m>>=λx=>f [x]):=by
 refine DL λS=>?_
 rw[cT,cT,cT];cases m S<;>rfl
theorem rS{c:TC}{n:Nat}(F:Fam Γ W CX EW c.gt cf X xw)(C:Cok c X)(ih:∀e e',trE n c e=some e'->ClE Γ sub cf X xw e e'){tg e:WL}{e':E}(h:trI (trE n c) c tg e=some e') :
  PI X tg e (tMI Γ xw (evI sub cf e'))/\∀x,foldedSetIterable e X.env x=pure x:=by
 unfold trI at h
 by_cases hs:oE e=true
 ·rw[Zf hs] at h;refine⟨?_,yu hs X.env⟩
  have seq:(trE n c e).map E.iSeq=some e'->PI X tg e (tMI Γ xw (evI sub cf e')):=λh=>by
   cases q:trE n c e with
   | none=>rw[q] at h; cases h
   | some a=>rw[q] at h; cases h; exact BR F.hK (ih e a q).pe
  split at h
  ·rename_i x p args pos
   by_cases hr:lV c x=true
   ·rw[Zf hr] at h;unfold lV at hr;rw[ZA] at hr;have hx:x = "range":=Zs hr.2;subst hx;obtain⟨hg,hn⟩:=iM C hr.1;have hm:X.mg "range" = none:=F.blt _ (by decide +kernel) hn
    by_cases hf:few args=true
    ·rw[Zf hf] at h
     cases q:bM (trE n c) args with
     | none=>rw[q] at h; cases h
     | some es =>
      rw[q] at h; cases h;have ha:=fq F C ih q;have hl:=u_ (sub:=sub) (cf:=cf) q
      match args,q,ha,hl,hf with
      | [],_,_,_,hf=>exact absurd hf (by decide)
      | [a],q,ha,hl,_ =>
       obtain⟨a',b',q1,q2,_⟩:=dR q;exact Bb hg hm ha (dJ q1 [] X.env) hl
      | _::_::_,_,_,_,hf =>
       have:=Zs hf;simp at this
    ·rw[Zg hf] at h; cases h
   ·rw[Zg hr] at h
    by_cases he:lR c x=true
    ·rw[Zf he] at h;unfold lR at he;rw[ZA] at he;have hx:x = "enumerate":=Zs he.2;subst hx;obtain⟨hg,hn⟩:=iM C he.1;have hm:X.mg "enumerate" = none:=F.blt _ (by decide +kernel) hn
     cases tg with
     | Tuple es k tp =>
      match args,h with
      | [a],h =>
       have h:(trE n c a).map E.iEnum=some e':=h
       cases q:trE n c a with
       | none=>rw[q] at h; cases h
       | some a'=>rw[q] at h; cases h; exact xU F.hK hg hm boot_enumerate (ih a a' q).pe (dJ q [] X.env)
      | [],h=>cases h
      | _::_::_,h=>cases h
     | _=>cases h
    ·rw[Zg he] at h
     by_cases hz:nP c x=true
     ·rw[Zf hz] at h;unfold nP at hz;rw[ZA] at hz;have hx:x = "zip":=Zs hz.2;subst hx;obtain⟨hg,hn⟩:=iM C hz.1;have hm:X.mg "zip" = none:=F.blt _ (by decide +kernel) hn
      by_cases hq:(isTup tg&&pair args)=true
      ·rw[Zf hq] at h;rw[ZA] at hq
       cases q:bM (trE n c) args with
       | none=>rw[q] at h; cases h
       | some es =>
        rw[q] at h; cases h;have ha:=fq F C ih q;have hl:args.length=2:=Zs hq.2
        match args,q,ha,hl with
        | [a,b],q,ha,_ =>
         obtain⟨a',r',q1,q2,_⟩:=dR q
         cases tg with
         | Tuple es k tp=>exact HY F.hK hg hm ha (dJ q1 [b] X.env) (gU q2 X.env pos).1
         | _=>cases hq.1
      ·rw[Zg hq] at h; cases h
     ·rw[Zg hz] at h; exact seq h
  ·split at h
   ·cases q:trE n c e with
    | none=>rw[q] at h; cases h
    | some a=>rw[q] at h; cases h; exact yo (ih e a q).pe
   ·exact seq h
 ·rw[Zg hs] at h; cases h
end
end EV

namespace EV
open PySem PySem.Spec PyProof.Rows L2
section
variable{Γ:Gx}{W:XW->Prop}{CX:CXT}{EW:XW->XK}{cf:Str->List D->M D}{sub:Sub}
theorem dW{α β:Type}{o:Option α}{f:α->β}{d:β}(h:o.map f=some d):∃a,o=some a/\d=f a:=by
 cases o with
 | none=>cases h
 | some a=>cases h; exact⟨a,rfl,rfl⟩
theorem Ge{t:Tg}{n:Nat}(h:t.qP n=true):∀j,j<n->t.has j=false:=by
 intro j hj
 cases t with
 | one i =>
  have:n<=i:=Zs h;show(i==j)=false;simp; omega
 | many is =>
  show is.contains j=false;have h:(is.all λi=>decide (n<=i))=true:=h;rw[Xn] at h
  cases q:is.contains j with
  | false=>rfl
  | true =>
   have hm:j∈is:=List.contains_iff_mem.mp q;have:=Zs (h j hm);omega
theorem F1{o:WL}(h:gy o=true):∃x p,o=.Name x p:=by
 cases o with
 | Name x p=>exact⟨x,p,rfl⟩
 | _=>cases h
theorem yC{c:TC}{n:Nat}{X:Cx}{xw:XW}(F:Fam Γ W CX EW c.gt cf X xw)(C:Cok c X)(ih:∀e e',trE n c e=some e'->ClE Γ sub cf X xw e e'){x:Str}{args ra:WM}{b:Bi}{es:E}{p pos:Pos}(hn:c.gt.lookup x=none)(hg:Gl X x)
  (h:nI c x args=some (b,ra)) (h1:bM (trE n c) ra=some es):PE X (.Call (.Name x p) args [] pos) (tM Γ xw (ev sub cf (.bi b es))):=by
 unfold nI at h;split at h
 ·rename_i r p1 ra' p2;split at h
  ·rename_i hx;simp only[ZA] at hx;obtain⟨⟨hx1,hx2⟩,hx3⟩:=hx;have hx:x = "sorted":=Zs hx1;subst hx;unfold wX at hx2;rw[ZA] at hx2;have hr:r = "set":=Zs hx2.2;subst hr;obtain⟨hgr,hnr⟩:=iM C hx2.1;cases h
   match ra,h1,hx3 with
   | [a],h1,_ =>
    obtain⟨a',b',q1,q2,q3⟩:=dR h1;cases q2;cases q3
    have key:(λσ=>ev sub cf (.bi .sortedSet (.cs a' .nl)) σ)=λσ=>ev sub cf a' σ>>=λd=>bi1 sub .sortedSet d:=by
     funext σ;exact lY (ev sub cf a' σ) (biD sub .sortedSet)
    show PE X _ (tM Γ xw (λσ=>ev sub cf (.bi .sortedSet (.cs a' .nl)) σ));rw[key];have hu:=F.un;exact Ia F.hK F.calm (by omega) hg (F.blt _ (by decide +kernel) hn) boot_sorted hgr (F.blt _ (by decide +kernel) hnr) boot_set (ih a a' q1).pe (by decide +kernel) (by decide +kernel) (by decide +kernel) (by decide +kernel) (dJ q1 [] X.env)
  ·cases h
 ·rename_i o name apos cpos;split at h
  ·rename_i hx;simp only[ZA] at hx;obtain⟨⟨⟨hx1,hx2⟩,hx3⟩,hx4⟩:=hx;have hx:x = "list":=Zs hx1;subst hx;have hy:name = "values":=Zs hx3;subst hy;cases h;obtain⟨a',b',q1,q2,q3⟩:=dR h1;cases q2;cases q3
   have key:(λσ=>ev sub cf (.bi .vals (.cs a' .nl)) σ)=λσ=>ev sub cf a' σ>>=λd=>bi1 sub .vals d:=by
    funext σ;exact lY (ev sub cf a' σ) (biD sub .vals)
   show PE X _ (tM Γ xw (λσ=>ev sub cf (.bi .vals (.cs a' .nl)) σ));rw[key];exact zd F.calm hg (F.blt _ (by decide +kernel) hn) PyProof.Rows.boot_list (ih o a' q1).pe (F1 hx2) hx4 (by decide +kernel) (by decide +kernel)
  ·cases h
 ·cases h
theorem CL{b:WL}(h:rE b=true):∃j p,b=.Constant .none j p:=by
 cases b with
 | Constant k j p=>cases k<;>first|exact⟨_,_,rfl⟩|cases h
 | _=>cases h
theorem Gf{b:WL}(h:oh b=true):∃x j p,b=.Constant (.str x) j p:=by
 cases b with
 | Constant k j p=>cases k<;>first|exact⟨_,_,_,rfl⟩|cases h
 | _=>cases h
theorem GQ{op:CmpOp}(h:mO op=some true):op=.Is:=by cases op<;>first|rfl|cases h
theorem yk{op:CmpOp}(h:mO op=some false):op=.IsNot:=by cases op<;>first|rfl|cases h
theorem vB{n:Nat}{c:TC}{elt:WL}{gens:List Comprehension}{scope:Scope}{p:Pos}{e':E}(ihn:∀(c:TC) (e:WL) (e':E),trE n c e=some e'->∀(X:Cx) (xw:XW),Fam Γ W CX EW c.gt cf X xw->Cok c X->ClE Γ sub cf X xw e e')(h:trE (n+1) c (.ListComp elt gens scope p)=some e'){X:Cx}{xw:XW}(F:Fam Γ W CX EW c.gt cf X xw)(C:Cok c X) :
  ∃tg iter ifs it t el tt,gens=[⟨tg,iter,ifs,0⟩]/\e'=.comp (own scope).length el t it tt/\fh X scope (inComp c scope).N (own scope).length/\(∀j,j<X.N.length->t.has j=false)/\PI X tg iter (tMI Γ xw (evI sub cf it)) /\
   (∀cl fp s3 H3,PG (aR X scope cl (inComp c scope).N fp s3 H3) tg (tMG Γ t))/\(∀cl fp s3 H3,PF (aR X scope cl (inComp c scope).N fp s3 H3) ifs (tMT Γ XF λσ=>if tt.bA=true then pure true else evT sub cf tt σ)) /\
   (∀cl fp s3 H3,PE (aR X scope cl (inComp c scope).N fp s3 H3) elt (tM Γ XF (ev sub cf el)))/\∀x,foldedSetIterable iter X.env x=pure x:=by
 have ih:∀e e',trE n c e=some e'->ClE Γ sub cf X xw e e':=λe e' h=>ihn c e e' h X xw F C
 simp only[trE] at h;split at h
 ·rename_i tg iter ifs asy;split at h
  ·rename_i hx;rw[ZA] at hx;have ha:asy=0:=Zs hx.1;subst ha;obtain⟨CO,CK⟩:=Fq C hx.2;split at h
   ·rename_i it t el tt h1 h2 h3 h4;split at h
    ·rename_i hge;cases h;obtain⟨PI1,hs⟩:=rS F C ih h1
     have ihc:∀cl fp s3 H3 e e',trE n (inComp c scope) e=some e'->ClE Γ sub cf (aR X scope cl (inComp c scope).N fp s3 H3) XF e e' :=
      λcl fp s3 H3 e e' h=>ihn (inComp c scope) e e' h _ XF (F.comp scope cl _ fp s3 H3) (CK cl fp s3 H3)
     have htt:∀cl fp s3 H3,PF (aR X scope cl (inComp c scope).N fp s3 H3) ifs (tMT Γ XF λσ=>if tt.bA=true then pure true else evT sub cf tt σ):=λcl fp s3 H3=>by
      match ifs,h4 with
      | [],h4 =>
       cases h4
       exact λpins s σ H Q I h=>Bm pins s σ H Q I (by
        obtain⟨σd,ι,S,he,hs,ho⟩:=h;exact ho.here hs)
      | [t0],h4 =>
       have h4:(match trE n (inComp c scope) t0 with|some .nl=>none|o=>o)=some tt:=h4
       cases q:trE n (inComp c scope) t0 with
       | none=>rw[q] at h4; cases h4
       | some f =>
        rw[q] at h4
        have hf:f=tt/\f.bA=false:=by
         cases f<;>first|(cases h4; done)|(cases h4; exact⟨rfl,rfl⟩)
        obtain⟨rfl,hn⟩:=hf;rw[hn];simp only[Zx,ZT];exact B6 (ihc cl fp s3 H3 t0 f q).pt
      | _::_::_,h4=>cases h4
     exact⟨tg,iter,ifs,it,t,el,tt,rfl,rfl,CO,by rw[C.N]; exact Ge hge,PI1,λcl fp s3 H3=>n8 (X:=aR X scope cl (inComp c scope).N fp s3 H3) F.hK F.calm (CK cl fp s3 H3) h2,htt,λcl fp s3 H3=>(ihc cl fp s3 H3 elt el h3).pe,hs⟩
    ·cases h
   ·cases h
  ·cases h
 ·cases h
theorem ji:∀(n:Nat) (c:TC) (e:WL) (e':E),trE n c e=some e'->∀(X:Cx) (xw:XW),Fam Γ W CX EW c.gt cf X xw->Cok c X->ClE Γ sub cf X xw e e':=by
 intro n
 induction n with
 | zero=>intro c e e' h; cases h
 | succ n ihn =>
  intro c e e' h X xw F C;have ih:∀e e',trE n c e=some e'->ClE Γ sub cf X xw e e':=λe e' h=>ihn c e e' h X xw F C
  cases e with
  | Name x p=>exact GD F C h
  | Constant k j p=>exact BA F.hK h
  | BinOp a op b p =>
   simp only[trE] at h;split at h
   rotate_left
   ·cases h
   rename_i o a' b' h1 h2 h3;cases h;exact bJ F.hK (Bh (Gp F.hK h1) (ih a a' h2).pe (ih b b' h3).pe) (λ_=>rfl) (.inr rfl) (λ_ _ _ z=>nomatch z)
  | UnaryOp op a p =>
   cases op with
   | Not =>
    obtain⟨a',h1,rfl⟩:∃a',trE n c a=some a'/\e'=.not a':=by
     cases q:trE n c a with
     | none=>simp only[trE,q] at h; cases h
     | some a'=>simp only[trE,q] at h; cases h; exact⟨a',rfl,rfl⟩
    exact⟨Fw (ih a a' h1).pe,Dr (ih a a' h1).pt,λ⟨_,_,_,z⟩=>by cases z⟩
   | USub =>
    obtain⟨a',h1,rfl⟩:∃a',trE n c a=some a'/\e'=.neg a':=by
     cases q:trE n c a with
     | none=>simp only[trE,q] at h; cases h
     | some a'=>simp only[trE,q] at h; cases h; exact⟨a',rfl,rfl⟩
    exact bJ F.hK (Iw (ih a a' h1).pe) (λ_=>rfl) (.inr rfl) (λ_ _ _ z=>nomatch z)
   | _ =>
    exfalso
    cases q:trE n c a with
    | none=>simp only[trE,q] at h; cases h
    | some a'=>simp only[trE,q] at h; cases h
  | BoolOp op vs p =>
   match vs,h with
   | [],h=>cases h
   | [a],h =>
    have h:trE n c a=some e':=h;have ca:=ih a e' h
    cases op with
    | And=>exact⟨λpins s σ H Q I hw=>q_ ca.pe pins s σ H Q I hw,(pQ ca.pt).pt,λ_=>pQ ca.pt⟩
    | Or=>exact⟨λpins s σ H Q I hw=>q_ ca.pe pins s σ H Q I hw,(qQ ca.pt).pt,λ_=>qQ ca.pt⟩
   | a::b::r,h =>
    cases op with
    | And =>
     obtain⟨a',b',h1,h2,rfl⟩:∃a' b',trE n c a=some a'/\trE n c (.BoolOp .And (b::r) p)=some b'/\e'=.and a' b':=by
      cases q:trE n c a with
      | none=>simp only[trE,q] at h; cases h
      | some a' =>
       cases q2:trE n c (.BoolOp .And (b::r) p) with
       | none=>simp only[trE,q,q2] at h; cases h
       | some b'=>simp only[trE,q,q2] at h; cases h; exact⟨a',b',rfl,rfl,rfl⟩
     have ca:=ih _ _ h1;have cb:=ih _ _ h2;exact⟨Bx ca.pe cb.pe,(v7 ca.pt (cb.pw ⟨_,_,_,rfl⟩)).pt,λ_=>v7 ca.pt (cb.pw ⟨_,_,_,rfl⟩)⟩
    | Or =>
     obtain⟨a',b',h1,h2,rfl⟩:∃a' b',trE n c a=some a'/\trE n c (.BoolOp .Or (b::r) p)=some b'/\e'=.or a' b':=by
      cases q:trE n c a with
      | none=>simp only[trE,q] at h; cases h
      | some a' =>
       cases q2:trE n c (.BoolOp .Or (b::r) p) with
       | none=>simp only[trE,q,q2] at h; cases h
       | some b'=>simp only[trE,q,q2] at h; cases h; exact⟨a',b',rfl,rfl,rfl⟩
     have ca:=ih _ _ h1;have cb:=ih _ _ h2;exact⟨AU ca.pe cb.pe,(tF ca.pt (cb.pw ⟨_,_,_,rfl⟩)).pt,λ_=>tF ca.pt (cb.pw ⟨_,_,_,rfl⟩)⟩
  | IfExp t a b p =>
   simp only[trE] at h;split at h
   rotate_left
   ·cases h
   rename_i t' a' b' h1 h2 h3;cases h;refine⟨yJ (ih t t' h1).pt (ih a a' h2).pe (ih b b' h3).pe,rY,λ⟨_,_,_,z⟩=>by cases z⟩
  | Tuple es k p =>
   obtain⟨es',h1,rfl⟩:=dW (f:=E.tup) h;exact bJ F.hK (xx (fq F C ih h1)) (λ_=>rfl) (.inr rfl) (λ_ _ _ z=>nomatch z)
  | Dict ks vs p =>
   simp only[trE] at h;split at h
   ·cases h;exact bJ F.hK AN (λ_=>rfl) (.inr rfl) (λ_ _ _ z=>nomatch z)
   ·cases h
  | List es p =>
   obtain⟨es',h1,rfl⟩:=dW (f:=E.lst) h;exact bJ F.hK (Cn (fq F C ih h1)) (λ_=>rfl) (.inr rfl) (λ_ _ _ z=>nomatch z)
  | Compare a ops cs p =>
   simp only[trE] at h;split at h
   ·rename_i op b;split at h
    ·rename_i k hk;split at h
     ·rename_i hb;obtain⟨j,p',rfl⟩:=CL hb;obtain⟨a',h1,rfl⟩:=dW (f:=λx=>bif k then E.isN x else E.notN x) h
      cases k with
      | true =>
       cases GQ hk;exact⟨GK (ih a a' h1).pe,cN (ih a a' h1).pe,λ⟨_,_,_,z⟩=>by cases z⟩
      | false =>
       cases yk hk;exact⟨zC (ih a a' h1).pe,fC (ih a a' h1).pe,λ⟨_,_,_,z⟩=>by cases z⟩
     ·cases h
    ·split at h
     ·rename_i o a' b' h1 h2 h3 h4;cases h;exact⟨A8 (pN F h1) (ih a a' h2).pe (ih b b' h3).pe h4,GI lD (pN F h1) (ih a a' h2).pe (ih b b' h3).pe h4,λ⟨_,_,_,z⟩=>by cases z⟩
     ·cases h
   ·rename_i op op' b d;split at h
    ·rename_i o o' a' b' d' h1 h2 h3 h4 h5 h6;cases h;exact⟨Hv (iE F h1) (iE F h2) (ih a a' h3).pe (ih b b' h4).pe (ih d d' h5).pe h6,CP lD lD (iE F h1) (iE F h2) (ih a a' h3).pe (ih b b' h4).pe (ih d d' h5).pe h6,λ⟨_,_,_,z⟩=>by cases z⟩
    ·cases h
   ·cases h
  | Subscript a i p =>
   simp only[trE] at h;split at h
   ·cases h
   ·cases h
   ·cases h
   ·rename_i hs1 hs2 hs3;split at h
    ·rename_i a' i' h1 h2
     have hp:oO i:=by
      intro o j
      cases i with
      | Slice lo hi st p2 =>
       cases st with
       | none=>exact(hs1 lo hi p2 rfl).elim
       | some x=>exact(hs2 lo hi x p2 rfl).elim
      | _=>rfl
     split at h
     ·cases h;exact bJ F.hK (zO (by have:=F.un; omega) (ih a a' h1).pe (ih i i' h2).pe hp) (λ_=>rfl) (.inr rfl) (λ_ _ _ z=>nomatch z)
     ·cases h;exact bJ F.hK (Az F.hK (ih a a' h1).pe (ih i i' h2).pe hp) (λ_=>rfl) (.inl rfl) (λ_ _ _ z=>nomatch z)
    ·cases h
  | Call f args kws cpos =>
   simp only[trE] at h;split at h
   ·rename_i x p
    by_cases hx:(eG x&&glB c x)=true
    ·rw[Zf hx] at h;rw[ZA] at hx;have hd:=(ua hx.1).1;have hg:=C.gl hx.2;split at h
     ·rename_i hi;obtain⟨es',h1,rfl⟩:=dW (f:=E.call x) h
      cases args with
      | nil =>
       cases h1;refine bJ F.hK ?_ (λ_=>rfl) (.inl rfl) (λ_ _ _ z=>nomatch z);exact Cy F hi hg hd
      | cons a r =>
       obtain⟨a',b',q1,q2,_⟩:=dR h1;exact bJ F.hK (DE F hi hg hd (fq F C ih h1) (dJ q1 r X.env) (gU q2 X.env cpos).1) (λ_=>rfl) (.inl rfl) (λ_ _ _ z=>nomatch z)
     ·cases h
     ·rename_i hn
      by_cases hi:x = "isinstance"
      ·rw[Zf hi] at h;subst hi;split at h
       ·rename_i a y p2
        by_cases hy:(eG y&&ez c y)=true
        ·rw[Zf hy] at h;rw[ZA] at hy;split at h
         ·rename_i t a' h1 h2;cases h;obtain⟨hg2,hn2⟩:=iM C hy.2;obtain⟨T,t1,t2,t3,t4,t5⟩:=Ik F h1 hn2;have hm:X.mg "isinstance" = none:=F.blt _ (by decide +kernel) hn
          have key:(λσ=>ev sub cf (.bi (.inst t) (.cs a' .nl)) σ)=λσ=>ev sub cf a' σ>>=λd=>iL sub t d:=by
           funext σ;exact lY (ev sub cf a' σ) (biD sub (.inst t))
          refine bJ F.hK ?_ (λ_=>rfl) (.inl rfl) (λ_ _ _ z=>nomatch z);show PE X _ (tM Γ xw (λσ=>ev sub cf (.bi (.inst t) (.cs a' .nl)) σ));rw[key];exact yp F.hK t1 hg hm boot_isinstance hg2 t3 t2 (ih a a' h2).pe (by decide +kernel) (by decide +kernel) t4 t5 (dJ h2 _ X.env)
         ·cases h
        ·rw[Zg hy] at h; cases h
       ·cases h
      ·rw[Zg hi] at h;split at h
       ·rename_i b ra hr;obtain⟨es,h1,rfl⟩:=dW (f:=E.bi b) h;exact bJ F.hK (yC F C ih hn hg hr h1) (λ_=>rfl) (.inl rfl) (λ_ _ _ z=>nomatch z)
       ·split at h
        ·cases h
        ·rename_i a r hrn;split at h
         ·rename_i b es h1 h2;cases h;obtain⟨a',b',q1,q2,_⟩:=dR h2;exact bJ F.hK (Ec F h1 hn hg (fq F C ih h2) (dJ q1 r X.env) (gU q2 X.env cpos).1) (λ_=>rfl) (.inl rfl) (λ_ _ _ z=>nomatch z)
         ·cases h
    ·rw[Zg hx] at h; cases h
   ·rename_i o name apos;split at h
    ·cases h
    ·rename_i a r;split at h
     ·rename_i hx;simp only[ZA] at hx;obtain⟨⟨x1,x2⟩,x3⟩:=hx;split at h
      ·rename_i m o' es h1 h2 h3;cases h;obtain⟨a',b',q1,q2,_⟩:=dR h3;exact bJ F.hK (yh F h1 (ih o o' h2).pe (fq F C ih h3) x1 (Zs x3) (gU h3 X.env cpos).2 x2 (dJ q1 r X.env) (gU q2 X.env cpos).1) (λ_=>rfl) (.inr rfl) (λ_ _ _ z=>nomatch z)
      ·cases h
     ·cases h
   ·cases h
  | ListComp elt gens scope p =>
   obtain⟨tg,iter,ifs,it,t,el,tt,rfl,rfl,CO,hslot,PI1,PG1,PF1,PE1,hs⟩:=vB ihn h F C;exact bJ F.hK (Aq CO F.calm hslot PI1 PG1 PF1 PE1 hs) (λ_=>rfl) (.inr rfl) (λ_ _ _ z=>nomatch z)
  | _=>cases h
end
end EV

namespace EV
open PySem PySem.Spec PyProof.Rows L2
theorem Paired.put{α β:Type}{R:α->β->Prop}{a:α}{b:β}(r:R a b):∀{as:List α} {bs:List β} (j:Nat),Paired R as bs->Paired R (as.set j a) (bs.set j b)
 | _,_,_,.nil=>.nil
 | _,_,0,.cons _ t=>.cons r t
 | _,_,j+1,.cons h t=>.cons h (Paired.put r j t)
section
variable{X:Cx}{Γ:Gx}{xw:XW}
noncomputable def vp(Γ:Gx)(xw:XW):V->V->V->Hp->(Hp->Prop)->Prop:=λo i v H Q=>∃ι S da di dv,aq Γ ι H S/\Rep Γ ι H da o/\Rep Γ ι H di i/\Rep Γ ι H dv v/\Out Γ xw ι H (gv da di dv S) λ_ _ _ H'=>Q H'
theorem Cp:oA X (vp Γ xw):=by
 intro pins s σ H o i v ov iv u Q I ro ri rv h;obtain⟨ι,S,da,di,dv,hS,r1,r2,r3,ho⟩:=h
 cases da with
 | loc l =>
  cases di with
  | int k =>
   obtain⟨es,e,ho⟩:=Out.aU ho;obtain⟨a,xs,ha,hx,p⟩:=hS.lst e;cases r2
   cases r1 with
   | loc q =>
    rw[ha] at q; cases q
    cases q:EV.ixN es.length k with
    | none=>rw[q] at ho; exact ho.elim
    | some j =>
     rw[q] at ho;refine set_list pins s σ H _ _ v _ _ u Q I ro ri rv ⟨a,xs,k,j,rfl,rfl,hx,by rw[<- p.length]; exact q,?_⟩;exact ho ι _ (Ext.write hx (ZD ha)) (hS.write e ha hx (Paired.put r3 j p))
  | _=>exact ho.elim
 | _=>exact ho.elim
theorem G9{o i e:Expr}{mo mi me:Sg->M D}{pos p:Pos}(he:PE X e (tM Γ xw me))(h1:PE X o (tM Γ xw mo))(h2:PE X i (tM Γ xw mi))(hi:∀a b c q,i≠.Slice a b c q)
  (hs:swapsWithSole [.Subscript o i p] e pos.line X.env=pure false):PS X (.Assign [.Subscript o i p] e pos) (tMS Γ xw λσ=>me σ>>=λd=>mo σ>>=λa=>mi σ>>=λk=>gv a k d>>=λ_=>pure (.nx σ)):=by
 have pg:PG X (.Subscript o i p) (wI (tM Γ xw mo) (tM Γ xw mi) (vp Γ xw)):=zK h1 h2 Cp (by
  intro v;cases i<;>first|rfl|exact absurd rfl (hi _ _ _ _))
 refine PS.imp (tw he pg hs rfl rfl) λD σ H h=>?_
 obtain⟨σd,ι,S,hE,hs,ho⟩:=h;refine⟨σd,ι,S,hE,hs,ho.bind.mono λd S1 ι1 H1 _ _ ⟨s1,e1,o1⟩ v rv=>?_⟩;refine⟨σd,ι1,S1,hE.ext e1,s1,o1.bind.mono λa S2 ι2 H2 _ _ ⟨s2,e2,o2⟩ ov ro=>?_⟩;refine⟨σd,ι2,S2,(hE.ext e1).ext e2,s2,o2.bind.mono λk S3 ι3 H3 _ _ ⟨s3,e3,o3⟩ iv ri=>?_⟩;exact⟨ι3,S3,a,k,d,s3,ro.ext e3,ri,(rv.ext e2).ext e3,o3.bind.mono λ_ S4 ι4 H4 _ _ ⟨s4,e4,o4⟩=>o4.here s4 _ ((((hE.ext e1).ext e2).ext e3).ext e4)⟩
end
end EV

namespace EV
open PySem PySem.Spec PyProof.Rows L2
section
variable{Γ:Gx}{W:XW->Prop}{CX:CXT}{EW:XW->XK}{cf:Str->List D->M D}{sub:Sub}
theorem jo{e:WL}(h:gM e=true)(t:Option PySem.Expr)(l:Nat)(env:Env):swapsWith e t l env=pure false:=by
 cases e<;>first|rfl|cases h
theorem zj{m:Nat}{c:TC}{X:Cx}{xw:XW}(F:Fam Γ W CX EW c.gt cf X xw)(C:Cok c X){tg e:WL}{t:Tg}{e':E}{pos:Pos}(ha:vA tg e=true)(h1:jb c tg=some t)(h2:trE m c e=some e') :
  PS X (.Assign [tg] e pos) (tMS Γ xw (exec sub cf (.set t e'))):=by
 have hg:PG X tg (tMG Γ t):=n8 F.hK F.calm C h1;have he:=(ji (sub:=sub) m c e e' h2 X xw F C).pe
 cases tg with
 | Name y py =>
  by_cases hc:gM e=true
  ·exact mG he hg (show swapsWithSole [.Name y py] e pos.line X.env=pure false from jo hc (some (.Name y py)) pos.line X.env) rfl rfl
  ·cases e with
   | ListComp elt gens scope p =>
    cases m with
    | zero=>cases h2
    | succ m =>
    obtain⟨tg,iter,ifs,it,t2,el,tt,rfl,rfl,CO,hslot,PI1,PG1,PF1,PE1,hs⟩:=vB (sub:=sub) (ji m) h2 F C;have h1':(if eV c y=true then(idx c.N y).map Tg.one else none)=some t:=h1
    by_cases hl:eV c y=true
    ·rw[Zf hl] at h1';obtain⟨j,hj,rfl⟩:=dW h1'
     have sw:swapsWith (.ListComp elt [⟨tg,iter,ifs,0⟩] scope p) (some (.Name y py)) pos.line X.env=pure (X.env.blockKind==.function&&X.env.kindOf y==some .local&&py.line==p.line
      &&!(scope.names.any λ(n,k)=>n==y&&(k==.local||k==.cell))):=rfl
     cases q:(X.env.blockKind==.function&&X.env.kindOf y==some .local&&py.line==p.line&&!(scope.names.any λ(n,k)=>n==y&&(k==.local||k==.cell))) with
     | true =>
      rw[q] at sw;simp only[ZA] at q;have hy:X.env.scope.names.lookup y=some .local:=eq_of_beq q.1.1.2;exact xC CO F.calm hslot PI1 PG1 PF1 PE1 C.nd (by rw[C.N]; exact iO hj) hy sw hs
     | false =>
      rw[q] at sw;exact mG he hg sw rfl rfl
    ·rw[Zg hl] at h1'; cases h1'
   | SetComp _ _ _ _=>cases m<;>cases h2
   | DictComp _ _ _ _ _=>cases m<;>cases h2
   | _=>exact absurd rfl hc
 | Tuple es k p =>
  have ha:(!isTup e&&gM e)=true:=ha;rw[ZA] at ha;refine mG he hg (show swapsWithSole [.Tuple es k p] e pos.line X.env=pure false from jo ha.2 (some (.Tuple es k p)) pos.line X.env) ?_ rfl;cases e<;>first|rfl|exact absurd ha.1 (by simp[isTup])
 | _=>cases ha
theorem Br{m:Nat}{c:TC}{X:Cx}{xw:XW}(F:Fam Γ W CX EW c.gt cf X xw)(C:Cok c X){tg e:WL}{s':S}{pos:Pos}(h:l9 (trE m c) e tg=some s'):PS X (.Assign [tg] e pos) (tMS Γ xw (exec sub cf s')):=by
 have ce:∀{e e'},trE m c e=some e'->PE X e (tM Γ xw (ev sub cf e')):=λ{e e'} h=>(ji m c e e' h X xw F C).pe
 unfold l9 at h;split at h
 ·cases h
 ·rename_i o i p _;split at h
  ·rename_i ha;rw[ZA] at ha;split at h
   ·rename_i a b d h1 h2 h3;split at h
    ·cases h;exact AJ (by have:=F.un; omega) (ce h3) (ce h1) (ce h2) (jo ha.1 (some (.Subscript o i p)) pos.line X.env)
    ·cases h;refine G9 (ce h3) (ce h1) (ce h2) (λ_ _ _ _ z=>?_) (show swapsWithSole [.Subscript o i p] e pos.line X.env=pure false from jo ha.1 (some (.Subscript o i p)) pos.line X.env);rw[z] at ha; exact absurd ha.2 (by simp[rg])
   ·cases h
  ·cases h
 ·cases h
theorem w9{X:Cx}{xw:XW}{ss:List Stmt}:PSs X ss (tMS Γ xw (exec sub cf .bot)):=λpins s σ H D I h=>by
 obtain⟨_,_,_,_,_,ho⟩:=h;exact ho.elim
theorem jk{f:Stmt->Option S}{X:Cx}{xw:XW}(ih:∀s s',f s=some s'->PS X s (tMS Γ xw (exec sub cf s'))):∀{ss:List Stmt} {s':S},cZ f ss=some s'->PSs X ss (tMS Γ xw (exec sub cf s'))
 | [],_,h=>by cases h; exact Eb
 | [s],s',h=>by
  have h:(match f s with|some a=>some a|none=>some .bot)=some s':=h
  cases q:f s with
  | none=>rw[q] at h; cases h; exact w9
  | some a=>rw[q] at h; cases h; exact EL (ih _ _ q)
 | s::s2::r,s',h=>by
  have h:(match f s with|some a=>(cZ f (s2::r)).map (S.seq a)|none=>some .bot)=some s':=h
  cases q:f s with
  | none=>rw[q] at h; cases h; exact w9
  | some a =>
   rw[q] at h;obtain⟨b,h2,rfl⟩:=ZC.mp h;have h1:=q;exact xW (ih s a h1) (jk ih h2)
theorem z6{X:Cx}{xw:XW}{e:WL}{s':S}{pos:Pos}(h:lT e=some s'):PS X (.Raise (some e) none pos) (tMS Γ xw (exec sub cf s')):=by
 unfold lT at h;split at h
 ·cases h;intro pins s D σ H I h;obtain⟨_,_,_,_,_,ho⟩:=h;exact ho.elim
 ·cases h
theorem Gu(m:Nat):∀(n:Nat) (c:TC) (s:Stmt) (s':S),trS m n c s=some s'->∀(X:Cx) (xw:XW),Fam Γ W CX EW c.gt cf X xw->Cok c X->PS X s (tMS Γ xw (exec sub cf s')):=by
 intro n
 induction n with
 | zero=>intro c s s' h; cases h
 | succ n ihn =>
  intro c s s' h X xw F C;have ih:∀s s',trS m n c s=some s'->PS X s (tMS Γ xw (exec sub cf s')):=λs s' h=>ihn c s s' h X xw F C
  have ihx:∀s s',trS m n c s=some s'->PS X.nox s (tMS Γ XF (exec sub cf s')):=λs s' h=>ihn c s s' h X.nox XF F.nox C.nox
  have ce:∀{e e'},trE m c e=some e'->ClE Γ sub cf X xw e e':=λ{e e'} h=>ji m c e e' h X xw F C
  have cx:∀{e e'},trE m c e=some e'->ClE Γ sub cf X.nox XF e e':=λ{e e'} h=>ji m c e e' h X.nox XF F.nox C.nox
  cases s with
  | Return v p =>
   cases v with
   | none=>cases h; exact Iz
   | some e =>
    obtain⟨e',h1,rfl⟩:=dW (f:=S.ret) h;exact IC (ce h1).pe
  | Expr e p =>
   simp only[trS] at h;split at h
   ·rename_i hd;obtain⟨x,j,q,rfl⟩:=Gf hd;cases h; exact Jg
   ·split at h
    ·rename_i hn;obtain⟨e',h1,rfl⟩:=dW (f:=S.ex) h;exact CG (ce h1).pe (jo hn _ _ _)
    ·cases h
  | Pass p=>cases h; exact I_
  | Assign ts e p =>
   simp only[trS] at h;split at h
   ·rename_i tg;split at h
    ·rename_i ha;split at h
     ·rename_i t e' h1 h2;cases h;exact zj F C ha h1 h2
     ·cases h
    ·exact Br F C h
   ·cases h
  | If t a b p =>
   simp only[trS] at h;split at h
   ·rename_i t' a' b' h1 h2 h3;cases h;exact FH (ce h1).pt (jk ih h2) (jk ih h3)
   ·cases h
  | For tg it body els p =>
   simp only[trS] at h;split at h
   ·rename_i t i b h1 h2 h3;cases h;obtain⟨PI1,hs⟩:=rS F C (λe e' h=>ce h) h2;exact yN F.calm PI1 (n8 (X:=X.nox) F.hK F.calm C.nox h1) (jk ihx h3) hs
   ·cases h
  | Raise e cause p =>
   cases e with
   | none=>cases cause<;>cases h
   | some e =>
    cases cause with
    | none=>exact z6 h
    | some _=>cases h
  | _=>cases h
end
end EV

namespace EV
open PySem PySem.Spec PyProof.Rows L2
theorem mW:∀{ns:WI} {us:Wz} {i:Nat} {x:Str} {u:Value},ns.Nodup->ns[i]?=some x->us[i]?=some u->(ns.zip us).lookup x=some u
 | [],_,_,_,_,_,h,_=>by simp at h
 | _::_,[],_,_,_,_,_,h=>by simp at h
 | y::ns,v::us,0,x,u,_,h1,h2=>by
  simp at h1 h2; subst h1; subst h2;simp[List.lookup]
 | y::ns,v::us,i+1,x,u,nd,h1,h2=>by
  have h1':ns[i]?=some x:=by simpa using h1
  have hne:¬x=y:=λe=>by
   subst e; exact(Xk.mp nd).1 (ZD h1')
  have hb:(x==y)=false:=by simpa using hne
  show List.lookup x ((y,v)::ns.zip us)=some u;rw[Z5,hb];exact mW (Xk.mp nd).2 h1' (by simpa using h2)
theorem Ey{ns:WI}{us:Wz}(nd:ns.Nodup)(hl:us.length=ns.length):ns.filterMap (λn=>((ns.zip us).lookup n).map (n,·))=ns.zip us:=by
 have all:∀(ms:WI) (vs:Wz),vs.length=ms.length->(∀(i:Nat) x u,ms[i]?=some x->vs[i]?=some u->(ns.zip us).lookup x=some u)->ms.filterMap (λn=>((ns.zip us).lookup n).map (n,·))=ms.zip vs:=by
  intro ms
  induction ms with
  | nil=>intro vs _ _; rfl
  | cons m ms ih =>
   intro vs hl h
   cases vs with
   | nil=>simp at hl
   | cons v vs =>
    rw[Xu,h 0 m v rfl rfl];show(m,v)::_=(m,v)::ms.zip vs;rw[ih vs (by simpa using hl) λi x u h1 h2=>h (i+1) x u (by simpa using h1) (by simpa using h2)]
 exact all ns us hl λi x u h1 h2=>mW nd h1 h2
theorem wK{x qual:Str}{a:Arguments}{body:List Stmt}{sc:Scope}{kV doc pm cdv ct:Value}{an:Option Addr}(hp:jx a=true)(nd:(argNames a).Nodup){us:Wz}(hl:us.length=(argNames a).length) :
  bindArgs (PySem.W.fnOf x qual a body sc .none kV doc pm an cdv ct) ⟨us,[]⟩=pure ((argNames a).zip us):=by
 obtain⟨po,as,va,ko,kd,kw,df⟩:=a;unfold jx at hp;simp only[ZA,List.isEmpty_iff,Option.isNone_iff_eq_none] at hp;obtain⟨⟨⟨⟨⟨rfl,rfl⟩,rfl⟩,rfl⟩,rfl⟩,rfl⟩:=hp;have nd:(as.map (·.arg)).Nodup:=nd;have hl:us.length=(as.map (·.arg)).length:=hl;show bindArgs _ _=pure ((as.map (·.arg)).zip us);unfold bindArgs;simp only[PySem.W.fnOf,Qt,X8,XV];generalize as.map (·.arg)=ns at nd hl;have hnot:¬us.length>ns.length:=by rw[hl]; exact Xe _
 have hmiss:(List.take ns.length ns).filter (λn=>((ns.zip us).lookup n).isNone)=[]:=by
  rw[List.filter_eq_nil_iff];intro n hn;obtain⟨i,hi⟩:=ZS (Wc hn);have hi':i<us.length:=by rw[hl]; exact(Zh.mp hi).1
  rw[mW nd hi (Zb hi')];simp
 have hb:=Ey nd hl;have hd:seqItems? .none=pure none:=rfl;rw[hd];have hz:(#[]:Array Value).toList=[]:=rfl;have hdec:decide (us.length>ns.length)=false:=Zw hnot;simp only[Wh,pure_bind,Option.getD_none,hz,X9,Nat.zero_sub,List.drop_nil,Nat.sub_zero,hmiss,hdec,Bool.false_and,Zx,ZT,List.isEmpty_nil,Qc,List.zip_nil_right,hb]
noncomputable def lC(xw:XW):XW:=λc _ _ H=>∃S ι,xw c S ι H
set_option genInjectivity false in
structure Txt(K:Wy)(mg:WE)(gt:List (Str×GE))(defs:List (Str×Stmt)):Prop where
 fn:∀x,gt.lookup x=some .fn->∃st f fd,defs.lookup x=some st/\mg x=some (.ref f)/\Fun K x x st f fd
 blt:∀x∈eO,gt.lookup x=none->mg x=none
 val:∀x d,gt.lookup x=some (.val d)->∃u v,mg x=some u/\RelV v u/\∀ι H,Rep ⟨K⟩ ι H d v
 cls:∀x,gt.lookup x=some .cls->ClsAt K x/\∀C,PySem.W.nsIn K mainGlobals x=some (some (.ref C))->mg x=some (.ref C)
theorem BH{Γ:Gx}{ι:WD}{H:Hp}{ds:WP}{vs:WN}(rs:aA Γ ι H ds vs)(N:WI){k:Nat}(hk:k=N.length):bf Γ ι H (L2.start N vs) (ds.map some++List.replicate (k-ds.length) none):=by
 have hl:=rs.length;refine⟨by unfold L2.start; simp[hl,hk],λi d h=>?_⟩
 by_cases hi:i<ds.length
 ·rw[ZE (by simpa using hi),ZG] at h
  have h:ds[i]?=some d:=by
   rw[Zb hi] at h ⊢;simpa using h
  obtain⟨v,hv,r⟩:=Paired.get rs h;refine⟨v,?_,r⟩;unfold L2.start;rw[ZE (by rw[Zc,<- hl]; exact hi),ZG,hv];rfl
 ·rw[ZN (by simpa using hi),XL] at h;split at h<;>cases h
theorem m5{a:Arguments}{sc:Scope}(h:c_ a sc=true):mQ (namesOf a sc) (argNames a) sc/\jx a=true:=by
 unfold c_ at h;simp only[ZA] at h;obtain⟨⟨⟨⟨⟨⟨h1,h2⟩,h3⟩,h4⟩,h5⟩,h6⟩,h7⟩:=h;rw[Xn] at h6 h7;refine⟨⟨Zs h2,by simpa using h3,by simpa using h4,kC h5,?_,λx hx=>?_,λy hy hf=>?_⟩,h1⟩
 ·unfold namesOf; rw[List.take_append_of_le_length (Zl _),ZO]
 ·have:=h6 x hx
  cases q:sc.names.lookup x with
  | none=>rw[q] at this; cases this
  | some k=>rw[q] at this; cases k<;>first|exact .inl rfl|exact .inr rfl|cases this
 ·have:=h7 y hy;rw[hf] at this; simp at this
theorem pC{CX:CXT}{P:WC}{w:WG}{K:Wy}{mg:WE}{base:Heap}{N:WI}{qual:Str}{scope:Scope}{f:Addr}{cd:Value}{A:Around}{outer:List Env}{s:WA}{H:Hp}{E:XK}{pins:Ww}{σ:L2.St}{H1:Hp}{s1:WA}(I:Inv (cK CX P w K mg base N qual scope f cd A outer s H E) pins σ H1 s1):A.frames=some outer:=by
 have z:A.frames.map (envOfC qual scope s.heap.objs.size f cd :: ·)=some (envOfC qual scope s.heap.objs.size f cd::outer):=I.ok.frames
 cases q:A.frames with
 | none=>rw[q] at z; cases z
 | some l=>rw[q] at z; cases z; rfl
section
variable{P:WC}{w:WG}{K:Wy}{mg:WE}{base:Heap}{W:XW->Prop}{sub:Sub}{gt:List (Str×GE)}{defs:List (Str×Stmt)}{Pd:Prg}
theorem HA(T:Txt K mg gt defs)(hW:∀xw,W xw)(hP:∀x st,defs.lookup x=some st->∃F,trF gt st=some F/\Pd.lookup x=some F) :
  ∀(n:Nat) (x:Str) (st:Stmt) (f:Addr) (fd:FuncData),defs.lookup x=some st->Fun K x x st f fd->e_ P w K mg base (CXe P w) n f fd (argNames (c9 st)) (spF ⟨K⟩ W (EWx K) (ah sub Pd n x) (argNames (c9 st)).length):=by
 intro n
 induction n with
 | zero =>
  intro x st f fd _ _;refine⟨λvs H Q E h=>h.1,λA outer s H args us vs Q E _ _ _ _ h=>?_⟩;obtain⟨_,_,_,_,_,_,_,_,_,ho⟩:=h;exact ho.elim
 | succ n ih =>
  intro x st f fd hst Fu;obtain⟨F,hF,hPi⟩:=hP x st hst
  cases st with
  | FunctionDef x0 a body d1 d2 d3 sc d4 d5 d6 =>
   have hF:(if c_ a sc=true then(cZ (trS depth depth (gf gt a sc)) body).map λb=>(⟨(argNames a).length,(namesOf a sc).length,b⟩:Fn) else none)=some F:=hF
   by_cases hs:c_ a sc=true
   ·rw[Zf hs] at hF;obtain⟨b,hb,rfl⟩:=dW hF;obtain⟨SC,hpl⟩:=m5 hs;obtain⟨oc,od,kV,doc,pm,an,cdv,ct,osl,rfl,lk,hcd⟩:=Fu.ex;refine FP (N:=namesOf a sc) lk hcd SC (λvs H Q E h=>h.1) λA outer s H vs Q E hr hsp=>?_
    obtain⟨hl,xw,hw,rfl,ι,S,ds,hS,rs,ho⟩:=hsp
    have hew:∀C H,EWx K (lC xw) (.ref C) none H->EWx K xw (.ref C) none H:=λC H z=>by
     obtain⟨c,C',z1,z2,_,_,S',ι',z3⟩:=z;exact⟨c,C',z1,z2,S',ι',z3⟩
    have FM:Fam ⟨K⟩ W (CXe P w) (EWx K) gt (ah sub Pd n) (cK (CXe P w) P w K mg base (namesOf a sc) x sc f cdv A outer s H (EWx K xw)) (lC xw):=by
     refine⟨rfl,rfl,hr.units,T.blt,T.val,λy hy=>?_,λpins σ H1 s1 v s2 I hx=>rZ (λ_ _ _ _ z=>.inr z) hew (pC I) I hx,λpins σ H1 s1 v s2 I hx=>rZ (λ_ _ _ _ z=>.inl z) hew (pC I) I hx,T.cls,rfl,rfl,hW⟩;obtain⟨st2,f2,fd2,h1,h2,h3⟩:=T.fn y hy;obtain⟨F2,hF2,hPj⟩:=hP y st2 h1
     have hb2:Binds K fd2 (argNames (c9 st2)) []:=by
      cases st2 with
      | FunctionDef x1 a1 body1 e1 e2 e3 sc1 e4 e5 e6 =>
       have hF2:(if c_ a1 sc1=true then(cZ (trS depth depth (gf gt a1 sc1)) body1).map λb=>(⟨(argNames a1).length,(namesOf a1 sc1).length,b⟩:Fn) else none)=some F2:=hF2
       by_cases hs1:c_ a1 sc1=true
       ·obtain⟨SC1,hpl1⟩:=m5 hs1;refine h3.binds λ_ _ _ _ _ _ us hl=>?_
        have nd1:(argNames a1).Nodup:=by rw[<- SC1.pre]; exact SC1.nd.sublist (Wo _ _)
        exact wK hpl1 nd1 hl
       ·rw[Zg hs1] at hF2; cases hF2
      | _=>cases hF2
     refine⟨n,f2,fd2,argNames (c9 st2),ih y st2 f2 fd2 h1 h3,hr,h2,h3.kp,hb2,λds S hne=>?_⟩
     cases n with
     | zero=>rfl
     | succ n =>
      have hpar:F2.par=(argNames (c9 st2)).length:=by
       cases st2 with
       | FunctionDef x1 a1 body1 e1 e2 e3 sc1 e4 e5 e6 =>
        have hF2:(if c_ a1 sc1=true then(cZ (trS depth depth (gf gt a1 sc1)) body1).map λb=>(⟨(argNames a1).length,(namesOf a1 sc1).length,b⟩:Fn) else none)=some F2:=hF2
        by_cases hs1:c_ a1 sc1=true
        ·rw[Zf hs1] at hF2;obtain⟨b1,_,rfl⟩:=dW hF2;rfl
        ·rw[Zg hs1] at hF2; cases hF2
       | _=>cases hF2
      exact F0 hPj (by rw[hpar]; exact hne)
    have CK:Cok (gf gt a sc) (cK (CXe P w) P w K mg base (namesOf a sc) x sc f cdv A outer s H (EWx K xw)):=⟨rfl,rfl,SC.nd,SC.kind,λ_ _=>rfl,λ_=>⟨rfl,rfl⟩⟩
    refine⟨tMS ⟨K⟩ (lC xw) (exec sub (ah sub Pd n) b),jk (λs s' h=>Gu depth depth (gf gt a sc) s s' h _ _ FM CK) hb,?_⟩;have hdl:ds.length=(argNames a).length:=rs.length.trans hl;refine⟨ds.map some++List.replicate ((namesOf a sc).length-ds.length) none,ι,S,BH rs _ rfl,hS,?_⟩;have ho:Out ⟨K⟩ xw ι H (ah sub Pd (n+1) x ds S) _:=ho;rw[uD hPi hdl] at ho;unfold frame at ho
    cases q:exec sub (ah sub Pd n) b (ds.map some++List.replicate ((namesOf a sc).length-ds.length) none) S with
    | bad=>rw[q] at ho; exact ho.elim
    | exc k S' =>
     rw[q] at ho;intro ι' H' e' s';have ho:Out ⟨K⟩ xw ι H (if S'.take S.length=S then .exc k S else .exc k S') _:=ho
     by_cases ht:S'.take S.length=S
     ·rw[Zf ht] at ho;exact⟨S,ι,ho ι H' e'.back (aq.back e' hS s' ht)⟩
     ·rw[Zg ht] at ho;exact⟨S',ι',ho ι' H' e' s'⟩
    | ok fl S' =>
     rw[q] at ho;intro ι' H' e' s'
     cases fl with
     | nx σ'=>exact λσv hv=>p5 hS e' s' .non ho
     | rt d=>exact λv r=>p5 hS e' s' r ho
     | bk σ'=>exact ho.elim
     | ct σ'=>exact ho.elim
   ·rw[Zg hs] at hF; cases hF
  | _=>cases hF
end
end EV

namespace EV
open PySem PySem.Spec PyProof.Rows L2
set_option genInjectivity false in
inductive dO(K:Wy):List (Str×Stmt)->Prop
 | nil:dO K []
 | cons {x:Str} {st:Stmt} {r:List (Str×Stmt)} {f:Addr} {oc:Value} {od an:Option Addr} {osl:Array (Option Value)} {kV doc pm cdv ct:Value} :
   PySem.W.nsIn K mainGlobals x=some (some (.ref f)) ->
   K.lookup f=some ⟨oc,od,.func (PySem.W.fnOf x x (c9 st) (iG st) (iz st) .none kV doc pm an cdv ct),osl⟩ ->
   PySem.W.codeIn K cdv x=true->PySem.W.keepIn K (.ref f)=true->dO K r->dO K ((x,st)::r)
set_option genInjectivity false in
inductive ff:D->Value->Prop
 | non:ff .non .none
 | bl (b:Bool):ff (.bl b) (.bool b)
 | int (i:Int) (t:Tok):ff (.int i) (.int i t)
 | str (x:Str) (t:Tok):ff (.str x) (.str x t)
set_option genInjectivity false in
inductive fB:List D->List Value->Prop
 | nil:fB [] []
 | cons {d:D} {u:Value} {ds:WP} {us:Wz}:ff d u->fB ds us->fB (d::ds) (u::us)
set_option genInjectivity false in
inductive cA(K:Wy):List (Str×D)->Prop
 | nil:cA K []
 | flat {x:Str} {d:D} {u:Value} {r:List (Str×D)}:PySem.W.nsIn K mainGlobals x=some (some u)->ff d u->cA K r->cA K ((x,d)::r)
 | tup {x:Str} {ds:WP} {a:Addr} {od:Option Addr} {us:Wz} {n:Nat} {sl:Array (Option Value)} {r:List (Str×D)}:PySem.W.nsIn K mainGlobals x=some (some (.ref a)) ->
   K.lookup a=some ⟨.type "tuple",od,.seq us.toArray n,sl⟩->us.length<=1000->allInts ds=none->fB ds us->cA K r->cA K ((x,.tup ds)::r)
set_option genInjectivity false in
inductive eF(K:Wy):List Str->Prop
 | nil:eF K []
 | cons {x:Str} {r:WI}:PySem.W.nsIn K mainGlobals x=some none->eF K r->eF K (x::r)
noncomputable def jO:D->V
 | .bl b=>.bl b
 | .int i=>.int i
 | .str x=>.str x
 | _=>.non
theorem ff.rel{d:D}{u:Value}(h:ff d u):RelV (jO d) u/\∀Γ ι H,Rep Γ ι H d (jO d):=by
 cases h with
 | non=>exact⟨rfl,λ_ _ _=>.non⟩
 | bl b=>exact⟨rfl,λ_ _ _=>.bl b⟩
 | int i t=>exact⟨⟨t,rfl⟩,λ_ _ _=>.int i⟩
 | str x t=>exact⟨⟨t,rfl⟩,λ_ _ _=>.str x⟩
theorem fB.rel:∀{ds:WP} {us:Wz},fB ds us->Vals (ds.map jO) us/\∀Γ ι H,aA Γ ι H ds (ds.map jO)
 | _,_,.nil=>⟨.nil,λ_ _ _=>.nil⟩
 | _,_,.cons h r=>⟨.cons h.rel.1 (fB.rel r).1,λΓ ι H=>.cons (h.rel.2 Γ ι H) ((fB.rel r).2 Γ ι H)⟩
theorem dO.get{K:Wy}:∀{fns:List (Str×Stmt)} {x:Str} {st:Stmt},dO K fns->(x,st)∈fns->∃f fd,PySem.W.nsIn K mainGlobals x=some (some (.ref f))/\Fun K x x st f fd
 | _,_,_,.nil,h=>by simp at h
 | _,_,_,.cons a l c k r,h=>by
  rcases Zt.mp h with e|h
  ·cases e; exact⟨_,_,a,AM l c k⟩
  ·exact dO.get r h
theorem cA.get{K:Wy}:∀{vals:List (Str×D)} {x:Str} {d:D},cA K vals->(x,d)∈vals->∃u v,PySem.W.nsIn K mainGlobals x=some (some u)/\RelV v u/\∀ι H,Rep ⟨K⟩ ι H d v
 | _,_,_,.nil,h=>by simp at h
 | _,x,d,.flat a f r,h=>by
  rcases Zt.mp h with e|h
  ·cases e; exact⟨_,_,a,f.rel.1,λι H=>f.rel.2 _ ι H⟩
  ·exact cA.get r h
 | _,x,d,.tup a l z no f r,h=>by
  rcases Zt.mp h with e|h
  ·cases e;refine⟨_,.ref _,a,rfl,λι H=>?_⟩;have hz:∀{us:Wz},us.length<=1000->us.toArray.size<=sizeLine:=λ{us} h=>by rw[Zo,Qp]; omega
   exact .wZ (.inr ⟨_,_,_,l,rfl,rfl,hz z,by simpa using f.rel.1⟩) (f.rel.2 _ ι H) λk q=>by rw[no] at q; cases q
  ·exact cA.get r h
theorem eF.get{K:Wy}:∀{l:WI} {x:Str},eF K l->x∈l->PySem.W.nsIn K mainGlobals x=some none
 | _,_,.nil,h=>by simp at h
 | _,_,.cons a r,h=>by
  rcases Zt.mp h with rfl|h
  ·exact a
  ·exact eF.get r h
set_option genInjectivity false in
inductive ig(K:Wy)(C:Addr):List Str->Prop
 | nil:ig K C []
 | no {d:Str} {r:WI} (a:PySem.W.nsIn K mainGlobals d=some none) (n:ig K C r):ig K C (d::r)
 | un {d:Str} {r:WI} {P:Addr} (a:PySem.W.nsIn K mainGlobals d=some (some (.ref P))) (b:PySem.W.kitOne K (.ref C) (.ref P)=some false) (n:ig K C r):ig K C (d::r)
noncomputable def others(x:Str):List Str:=if x = "NoText" then["NoLoop"] else six.filter λd=>!decide (d=x)
set_option genInjectivity false in
inductive iV(K:Wy):List Str->Prop
 | nil:iV K []
theorem iV.get{K:Wy}{l:WI}{x:Str}(c:iV K l)(h:x∈l):ClsAt K x:=by
 cases c; cases h
noncomputable def eW(fns:List (Str×Stmt))(vals:List (Str×D))(cls:WI):List (Str×GE):=(fns.map λp=>(p.1,.fn))++(vals.map λp=>(p.1,.val p.2))++cls.map λx=>(x,.cls)
theorem mj{α β γ:Type}{f:Str×α->Str×β}(hf:∀p,(f p).1=p.1){g:Str×α->γ}:∀{l:List (Str×α)} {x:Str} {b:β},(l.map f).lookup x=some b->∃p∈l,p.1=x/\(f p).2=b/\l.lookup x=some p.2
 | [],_,_,h=>by simp at h
 | p::r,x,b,h=>by
  have e:f p=(p.1,(f p).2):=by rw[<- hf p]
  rw[ZK,e,Z5] at h;obtain⟨y,a⟩:=p
  cases q:x==y with
  | true =>
   simp only[q] at h;have e:x=y:=by simpa using q
   subst e;exact⟨(x,a),Zk,rfl,by simpa using h,by rw[Z5,q]⟩
  | false =>
   simp only[q] at h;obtain⟨p,h1,h2,h3,h4⟩:=mj hf (g:=g) h;exact⟨p,Zm _ h1,h2,h3,by rw[Z5,q]; exact h4⟩
theorem m8{β:Type}:∀{l m:List (Str×β)} {x:Str},(l++m).lookup x=(match l.lookup x with|some b=>some b|none=>m.lookup x)
 | [],m,x=>by simp
 | (y,a)::r,m,x=>by
  rw[XA,Z5,Z5]
  cases x==y with
  | true=>rfl
  | false=>exact m8
theorem iZ{α:Type}:∀{l:List (Str×α)} {x:Str} {a:α},l.lookup x=some a->(x,a)∈l
 | [],_,_,h=>by simp at h
 | (y,b)::r,x,a,h=>by
  rw[Z5] at h
  cases q:x==y with
  | true =>
   rw[q] at h;have e:x=y:=by simpa using q
   subst e;have e:b=a:=by simpa using h
   subst e;exact Zk
  | false=>rw[q] at h; exact Zm _ (iZ h)
theorem qX{K:Wy}{h:Heap}{mg:WE}{fns:List (Str×Stmt)}{vals:List (Str×D)}{cls:WI}(X:K.In h)(G:h.Ns mainGlobals mg)(hd:dO K fns)(hv:cA K vals)(hc:∀x∈cls,ClsAt K x)
  (hb:∀x∈eO,(eW fns vals cls).lookup x=none->PySem.W.nsIn K mainGlobals x=some none):Txt K mg (eW fns vals cls) fns where
 fn:=λx hx=>by
  unfold eW at hx;rw[m8,m8] at hx
  cases q:(fns.map λp=>(p.1,GE.fn)).lookup x with
  | some b =>
   obtain⟨p,h1,h2,_,h4⟩:=mj (g:=λ_=>()) (f:=λp=>(p.1,GE.fn)) (λ_=>rfl) q;obtain⟨y,st⟩:=p;have h2:y=x:=h2;subst h2;obtain⟨f,fd,a,F⟩:=hd.get h1;exact⟨st,f,fd,h4,Wn X G a,F⟩
  | none =>
   rw[q] at hx
   cases q2:(vals.map λp=>(p.1,GE.val p.2)).lookup x with
   | some b =>
    rw[q2] at hx;obtain⟨p,h1,h2,h3,_⟩:=mj (g:=λ_=>()) (f:=λp=>(p.1,GE.val p.2)) (λ_=>rfl) q2;have hx:b=.fn:=by simpa using hx
    rw[hx] at h3; cases h3
   | none =>
    rw[q2] at hx;have hm:=iZ hx;obtain⟨p,_,e⟩:=ZB.mp hm; cases e
 blt:=λx hx hn=>PySem.W.mg_none_of X G (hb x hx hn)
 val:=λx d hx=>by
  have hm:=iZ hx;unfold eW at hm;rcases ZR.mp hm with hm|hm
  ·rcases ZR.mp hm with hm|hm
   ·obtain⟨p,hp,e⟩:=ZB.mp hm; cases e
   ·obtain⟨p,hp,e⟩:=ZB.mp hm;cases e;obtain⟨u,v,a,r,q⟩:=hv.get hp;exact⟨u,v,Wn X G a,r,q⟩
  ·obtain⟨p,_,e⟩:=ZB.mp hm; cases e
 cls:=λx hx=>by
  have hm:=iZ hx;unfold eW at hm
  have hx:x∈cls:=by
   rcases ZR.mp hm with hm|hm
   ·rcases ZR.mp hm with hm|hm
    ·obtain⟨p,_,e⟩:=ZB.mp hm; cases e
    ·obtain⟨p,_,e⟩:=ZB.mp hm; cases e
   ·obtain⟨p,hp,e⟩:=ZB.mp hm; cases e; exact hp
  exact⟨hc x hx,λC a=>Wn X G a⟩
theorem Cb{K:Wy}{H:Hp}{a:Addr}{ns:Wx}(hO:iS H)(hS:SqL K H a (ns.map V.int)):aq ⟨K⟩ [] H []/\aA ⟨K⟩ [] H [.fro (ns.map .int)] [.ref a]:=by
 refine⟨⟨rfl,QS,λl c h=>by simp at h⟩,.cons ?_ .nil⟩;have hp:aA ⟨K⟩ [] H (ns.map D.int) (ns.map V.int):=k_ ns
 have hf:Fro K H a (ns.map V.int):=by
  rcases hS with(h|⟨o,h⟩)|h
  ·rcases hO a with z|⟨o,xs,z⟩
   ·rw[h] at z; cases z
   ·rw[h] at z; cases z
  ·exact .inl ⟨o,h⟩
  ·exact .inr λH=>.inr h
 exact .fro hf (by simp) λi d v e1 e2=>by
  obtain⟨y,e,f⟩:=Paired.get hp e1;rw[e2] at e; cases e; exact f
theorem DW{fns:List (Str×Stmt)}{gt:List (Str×GE)}{Pd:Prg}(hP:fns.map (λp=>(p.1,trF gt p.2))=Pd.map λp=>(p.1,some p.2)):∀x st,fns.lookup x=some st->∃F,trF gt st=some F/\Pd.lookup x=some F:=by
 have all:∀(fns:List (Str×Stmt)) (Pd:Prg),(fns.map (λp=>(p.1,trF gt p.2))=Pd.map λp=>(p.1,some p.2))->∀x st,fns.lookup x=some st->∃F,trF gt st=some F/\Pd.lookup x=some F:=by
  intro fns
  induction fns with
  | nil=>intro Pd _ x st h; simp at h
  | cons p r ih =>
   intro Pd hP x st h
   cases Pd with
   | nil=>simp at hP
   | cons F Pd =>
    obtain⟨y,st0⟩:=p;obtain⟨y2,F⟩:=F;rw[ZK,ZK] at hP;injection hP with e1 e2;have e1a:y=y2:=Xp Prod.fst e1;have e1b:trF gt st0=some F:=Xp Prod.snd e1;subst e1a;rw[Z5] at h;rw[Z5]
    cases q:x==y with
    | true =>
     rw[q] at h;have h:st0=st:=by simpa using h
     subst h;exact⟨F,e1b,rfl⟩
    | false=>rw[q] at h; exact ih Pd e2 x st h
 exact all fns Pd hP
theorem IS{l:PySem.W.OpenLaw}{q:WC}{loose:WI}{XP:(Str->Option Value)->Heap->Prop}{YP:World->Heap->Prop}{d:DefRec}{K:Params->PySem.W.Frag}{fns:List (Str×Stmt)}{vals:List (Str×D)}{cls:WI}{Pd:Prg}{sub:Sub}{n:Nat}{st:Stmt}{x:Str}
  (hn:l.most=some 63) (hdf:d.params.defaults=[]) (hr:bY n callerA) (hY:∀(w:WG) (h:Heap),YP w h->(K w.params).In h)
  (hP:fns.map (λp=>(p.1,trF (eW fns vals cls) p.2))=Pd.map λp=>(p.1,some p.2)) (hL:fns.lookup d.name=some st) (hx:argNames (c9 st)=[x])
  (hT:∀w:World,∀h:Heap,(K w.params).In h->dO (K w.params) fns/\cA (K w.params) vals/\iV (K w.params) cls/\∀x∈eO,(eW fns vals cls).lookup x=none->PySem.W.nsIn (K w.params) mainGlobals x=some none)
  (hmain:∀ns:List Int,ns.length<=63->∃S',ah sub Pd n d.name [.fro (ns.map .int)] []=.ok (.bl true) S') :
  PySem.W.WalkO q loose XP YP l.row.toRowW d [] (λf vs=>PySem.call f vs):=by
 have hP':=DW hP;refine L2.pM (n:=63) (k:=n) (x:=x) (CX:=λw=>CXe l.prog w) (sp:=λw=>spF ⟨K w.params⟩ (λ_=>True) (EWx (K w.params)) (ah sub Pd n d.name) 1) hn (by decide) hdf hr hY (λw mg fa h KX G hmg=>?_) (λw H a ns hl hO hS=>?_) λ_ _ _ _ _ ⟨_,_,_,_,_,_,_,_,_,_,_,_,z⟩=>z
 ·obtain⟨h1,h2,h4,h3⟩:=hT w h KX;have T:=qX KX G h1 h2 (λx hx=>h4.get hx) h3;obtain⟨f,fd,a,F⟩:=h1.get (iZ hL);have e:=hmg.symm.trans (Wn KX G a);cases e;refine⟨fd,λs u=>?_,λbase kb nb=>?_⟩
  ·obtain⟨F2,hF2,_⟩:=hP' d.name st hL;obtain⟨oc,od,kV,doc,pm,an,cdv,ct,osl,rfl,lk,hcd⟩:=F.ex
   cases st with
   | FunctionDef x1 a1 body1 e1 e2 e3 sc1 e4 e5 e6 =>
    have hF2:(if c_ a1 sc1=true then(cZ (trS depth depth (gf (eW fns vals cls) a1 sc1)) body1).map λb=>(⟨(argNames a1).length,(namesOf a1 sc1).length,b⟩:Fn) else none)=some F2:=hF2
    by_cases hs1:c_ a1 sc1=true
    ·obtain⟨SC1,hpl1⟩:=m5 hs1;have nd1:(argNames a1).Nodup:=by rw[<- SC1.pre]; exact SC1.nd.sublist (Wo _ _)
     have hx:argNames a1=[x]:=hx;have:=wK (x:=d.name) (qual:=d.name) (body:=body1) (sc:=sc1) (kV:=kV) (doc:=doc) (pm:=pm) (cdv:=cdv) (ct:=ct) (an:=an) hpl1 nd1 (us:=[u]) (by rw[hx]; rfl);rw[hx] at this;exact .of_eq this
    ·rw[Zg hs1] at hF2; cases hF2
   | _=>cases hF2
  ·have T':=qX kb nb h1 h2 (λx hx=>h4.get hx) h3;have:=HA (sub:=sub) (P:=l.prog) (w:=w) (base:=base) T' (W:=λ_=>True) (λ_=>trivial) hP' n d.name st fa fd hL F;rw[hx] at this;exact this
 ·obtain⟨hs,rs⟩:=Cb hO hS;obtain⟨S',hm⟩:=hmain ns hl;refine⟨rfl,XF,trivial,funext λ_=>funext λ_=>funext λ_=>propext ⟨λz=>z.elim,λz=>(ewF z).elim⟩,[],[],[.fro (ns.map .int)],hs,rs,?_⟩;rw[hm];intro ι' H' _ _ v r;cases r;rfl
end EV

namespace K09
open PySem EV RL
noncomputable def top(i:Nat):Stmt:=PySem.Challenge.pw_roundlap_k09_whole_barred.main.body.getD i (.Pass ⟨0,0,0,0⟩)
noncomputable def fns:List (Str×Stmt):=[(("is_whole" : Str),top 16),(("is_value" : Str),top 17),(("is_row" : Str),top 18),(("is_crew" : Str),top 19),(("are_crews" : Str),top 20),(("is_work_source" : Str),top 21),(("is_source" : Str),top 22),(("are_starts" : Str),top 23),(("is_work" : Str),top 24),(("are_works" : Str),top 25),(("are_outs" : Str),top 26),(("is_loop" : Str),top 27),(("checked" : Str),top 28),(("needs" : Str),top 29),(("checked_gap" : Str),top 33),(("is_plan" : Str),top 34),(("checked_plan" : Str),top 35),(("waiting" : Str),top 36),(("busy_machines" : Str),top 37),(("crowded_rest" : Str),top 38),(("fault" : Str),top 39),(("wrong" : Str),top 40),(("plainly" : Str),top 41),(("longs_of" : Str),top 43),(("backs_of" : Str),top 44),(("surplus" : Str),top 45),(("longest_walks" : Str),top 46),(("lengthened" : Str),top 47),(("barring_ring" : Str),top 48),(("ring" : Str),top 49),(("crew_times" : Str),top 50),(("barring_crew" : Str),top 51),(("crowd" : Str),top 52),(("farther" : Str),top 55),(("unbounded" : Str),top 56),(("apart_by_needs" : Str),top 57),(("found_plan" : Str),top 62),(("a_plan" : Str),top 63),(("_law_cell_at" : Str),top 65),(("_law_mixed" : Str),top 66),(("_law_source" : Str),top 67),(("_law_work" : Str),top 68),(("_law_loop" : Str),top 69),(("_law_plan" : Str),top 70),(("law" : Str),top 71)]
noncomputable def vals:List (Str×D):=[("REST",(.int 9973)),("MOST_STREAMS",(.int 6)),("MOST_CREWS",(.int 3)),("MOST_MACHINES",(.int 3)),("MOST_BUSY",(.int 4)),("MOST_WORKS",(.int 8)),("MOST_LONG",(.int 8)),("MOST_SOURCES",(.int 3)),("MOST_BACK",(.int 3)),("WORDS",(.tup [(.str "plus"),(.str "less"),(.str "times"),(.str "least"),(.str "greatest")])),("MOST_GAP",(.int 200)),("MOST_TIME",(.int 999)),("FAR",(.int 100000))]
noncomputable def cls:List Str:=[]
set_option maxRecDepth 100000 in
set_option maxHeartbeats 0 in
theorem hP:fns.map (λp=>(p.1,trF (eW fns vals cls) p.2))=Pd.map λp=>(p.1,some p.2):=by kernel_rfl
end K09
namespace PySem.W.Fast
theorem tw3580440449056301533:1=1:=rfl
theorem tw10267582126403135862:1=1:=rfl
theorem tw10754991672776291692:1=1:=rfl
theorem tw6140880045108546395:1=1:=rfl
theorem tw9960037490332193450:1=1:=rfl
theorem tw9754289186615193635:1=1:=rfl
theorem tw16427770132399088045:1=1:=rfl
theorem tw15861239800723944303:1=1:=rfl
theorem tw3652969079937908940:1=1:=rfl
theorem tw7324658334404446302:1=1:=rfl
theorem tw10962400821101551953:1=1:=rfl
theorem tw13532912052476753740:1=1:=rfl
theorem tw10365796177522816395:1=1:=rfl
theorem tw6294543409268488576:1=1:=rfl
theorem tw3667738069067240602:1=1:=rfl
theorem tw15526072956113564203:1=1:=rfl
theorem tw17981486721319204279:1=1:=rfl
theorem tw15569380432993616408:1=1:=rfl
theorem tw587375766933609802:1=1:=rfl
theorem tw2036532138127746067:1=1:=rfl
theorem tw15387949938366062763:1=1:=rfl
theorem tw13357695551569596614:1=1:=rfl
theorem tw17827723961811316570:1=1:=rfl
theorem tw17461665583683085753:1=1:=rfl
theorem tw9894900504877341891:1=1:=rfl
theorem tw16505813873387206378:1=1:=rfl
theorem tw4957565680844900145:1=1:=rfl
theorem tw2903727086537335567:1=1:=rfl
theorem tw9186826356099034784:1=1:=rfl
theorem tw8242358029849232010:1=1:=rfl
theorem tw17123400659593779859:1=1:=rfl
theorem tw546348640859572087:1=1:=rfl
theorem tw341301780098347711:1=1:=rfl
theorem tw7466205055165033845:1=1:=rfl
theorem tw15249452630126267028:1=1:=rfl
theorem tw8682058180907943539:1=1:=rfl
theorem tw13066488689680439132:1=1:=rfl
theorem tw5520632862088606747:1=1:=rfl
theorem tw11271456166844717405:1=1:=rfl
theorem tw2586061215454363020:1=1:=rfl
theorem tw2938922372848997975:1=1:=rfl
theorem tw17192765251649152437:1=1:=rfl
theorem tw823113130165277090:1=1:=rfl
theorem tw7429452574651692214:1=1:=rfl
theorem tw3902810669280990575:1=1:=rfl
theorem tw4865254225338621960:1=1:=rfl
theorem tw13766363297886679424:1=1:=rfl
theorem tw8048895381098100095:1=1:=rfl
theorem tw14698563773095518691:1=1:=rfl
theorem tw17641152087442703860:1=1:=rfl
theorem tw18015760035036540283:1=1:=rfl
theorem tw4379301435181270846:1=1:=rfl
theorem tw14469550675615894291:1=1:=rfl
theorem tw4308494646610114169:1=1:=rfl
theorem tw3801659560541237141:1=1:=rfl
theorem tw2417128921945507964:1=1:=rfl
theorem tw19116449510657064:1=1:=rfl
theorem tw5060727315554377741:1=1:=rfl
theorem tw1607891971061196118:1=1:=rfl
theorem tw18032704124660523651:1=1:=rfl
theorem tw9586505613564716029:1=1:=rfl
theorem tw13948602597215315891:1=1:=rfl
theorem tw16991587414008332237:1=1:=rfl
theorem tw12129045758663635959:1=1:=rfl
theorem tw7022432529820056494:1=1:=rfl
theorem tw7169865105793623693:1=1:=rfl
theorem tw12938722906425760304:1=1:=rfl
theorem tw1719180753222358027:1=1:=rfl
theorem tw3267569309357560574:1=1:=rfl
theorem tw11634714518673106770:1=1:=rfl
theorem tw17060276903341554138:1=1:=rfl
theorem tw7217768257993002698:1=1:=rfl
theorem tw3683118297139770491:1=1:=rfl
theorem tw2349499855477509864:1=1:=rfl
theorem tw1726564573444397416:1=1:=rfl
theorem tw16507827835588832628:1=1:=rfl
theorem tw18259811571702371726:1=1:=rfl
theorem tw5955643946766789462:1=1:=rfl
theorem tw3521002816875618593:1=1:=rfl
theorem tw1479205743733364960:1=1:=rfl
theorem tw7885587483068229604:1=1:=rfl
theorem tw7942643389658477625:1=1:=rfl
theorem tw589495676810730296:1=1:=rfl
theorem tw1905122188480881911:1=1:=rfl
theorem tw124105010367192281:1=1:=rfl
theorem tw3783167016848826954:1=1:=rfl
theorem tw8948753458469662738:1=1:=rfl
theorem tw10215506078141657301:1=1:=rfl
theorem tw10999757457183589099:1=1:=rfl
theorem tw13866658367549730250:1=1:=rfl
theorem tw3157640037469350010:1=1:=rfl
theorem tw10974596511873875990:1=1:=rfl
theorem tw8270833799715684664:1=1:=rfl
theorem tw16914832235502618459:1=1:=rfl
theorem tw16277947824696121983:1=1:=rfl
theorem tw7171906636122225579:1=1:=rfl
theorem tw17596855713967521737:1=1:=rfl
theorem tw6983136199432610685:1=1:=rfl
theorem tw2477490718141421630:1=1:=rfl
theorem tw4648727125081626426:1=1:=rfl
theorem tw10064324471861773209:1=1:=rfl
theorem tw17450432666915091636:1=1:=rfl
theorem tw1988971642088664402:1=1:=rfl
theorem tw12438783827063691574:1=1:=rfl
theorem tw8735644867333441486:1=1:=rfl
theorem tw17200347418078640568:1=1:=rfl
theorem tw9755873312828718333:1=1:=rfl
theorem tw18161078217021375755:1=1:=rfl
theorem tw2505279641699402744:1=1:=rfl
theorem tw1174685393752342717:1=1:=rfl
theorem tw5754367613642572617:1=1:=rfl
theorem tw7944935880381309621:1=1:=rfl
theorem tw9660471733214554153:1=1:=rfl
theorem tw18060657086539816030:1=1:=rfl
theorem tw13337623280123257535:1=1:=rfl
theorem tw15197792436683397457:1=1:=rfl
theorem tw17598663449772364233:1=1:=rfl
theorem tw13289717344121270177:1=1:=rfl
theorem tw10029411448134086307:1=1:=rfl
theorem tw8850525813278929702:1=1:=rfl
theorem tw14221528499335377399:1=1:=rfl
theorem tw4177633677509110342:1=1:=rfl
theorem tw1156503844814835564:1=1:=rfl
theorem tw15447904991100604779:1=1:=rfl
theorem tw16974344296833163652:1=1:=rfl
theorem tw17017245149105323805:1=1:=rfl
theorem tw11448753372778263947:1=1:=rfl
theorem tw3508670810690657563:1=1:=rfl
theorem tw976076452403884560:1=1:=rfl
theorem tw4342814932160810578:1=1:=rfl
theorem tw2796661853908916395:1=1:=rfl
theorem tw4184304968979817634:1=1:=rfl
theorem tw17538999954740265832:1=1:=rfl
theorem tw9593559776967684122:1=1:=rfl
theorem tw9304981089484639472:1=1:=rfl
theorem tw662341577056462988:1=1:=rfl
theorem tw12980235749939874617:1=1:=rfl
theorem tw1943994535048004024:1=1:=rfl
theorem tw14841624608948247849:1=1:=rfl
theorem tw7076447487684437050:1=1:=rfl
theorem tw17295681042327678724:1=1:=rfl
theorem tw7851190143778395005:1=1:=rfl
theorem tw16100137789560614488:1=1:=rfl
theorem tw5507452197490777666:1=1:=rfl
theorem tw11830290335611994022:1=1:=rfl
theorem tw5993700374970855190:1=1:=rfl
theorem tw17096112654609851718:1=1:=rfl
theorem tw10852937688494454921:1=1:=rfl
theorem tw1133064208146881722:1=1:=rfl
theorem tw6661507022684232135:1=1:=rfl
theorem tw13173655238960021106:1=1:=rfl
theorem tw6980571509220704910:1=1:=rfl
theorem tw6690095185231022027:1=1:=rfl
theorem tw11379782925947970403:1=1:=rfl
theorem tw10345274329908865133:1=1:=rfl
theorem tw11428951135914525940:1=1:=rfl
theorem tw9908962063664300647:1=1:=rfl
theorem tw9667830589763866849:1=1:=rfl
theorem tw6219128942065238903:1=1:=rfl
theorem tw18151133068753722283:1=1:=rfl
theorem tw17256726740258952959:1=1:=rfl
theorem tw11293346939060370723:1=1:=rfl
theorem tw1921562875562730406:1=1:=rfl
theorem tw16326181579081877494:1=1:=rfl
theorem tw7531271722245099761:1=1:=rfl
theorem tw7812035271695533318:1=1:=rfl
theorem tw14608113733550401934:1=1:=rfl
theorem tw18105552289888841063:1=1:=rfl
theorem tw9264913391287161258:1=1:=rfl
theorem tw15803605871660173378:1=1:=rfl
theorem tw16965972470294267968:1=1:=rfl
theorem tw15377647732113861845:1=1:=rfl
theorem tw8424491701509740284:1=1:=rfl
theorem tw15110947698927847867:1=1:=rfl
theorem tw12987111110950174157:1=1:=rfl
theorem tw3784132902840829583:1=1:=rfl
theorem tw3475870142416732605:1=1:=rfl
theorem tw553951646331373820:1=1:=rfl
theorem tw10378268864062430845:1=1:=rfl
theorem tw17110809842694490874:1=1:=rfl
theorem tw1301236142337959140:1=1:=rfl
theorem tw15411221773376672011:1=1:=rfl
theorem tw11616193302492461289:1=1:=rfl
theorem tw12750613054593377924:1=1:=rfl
theorem tw6212497961190687925:1=1:=rfl
theorem tw7389472256238355856:1=1:=rfl
theorem tw18359669511527918792:1=1:=rfl
theorem tw11484423988303091320:1=1:=rfl
theorem tw14859863813166582756:1=1:=rfl
theorem tw2873018385562013956:1=1:=rfl
theorem tw12549650782485192791:1=1:=rfl
theorem tw16913000189338415161:1=1:=rfl
theorem tw1700975467868153467:1=1:=rfl
theorem tw7337747407715862174:1=1:=rfl
theorem tw7415038159647095486:1=1:=rfl
theorem tw16415599161851288597:1=1:=rfl
theorem tw6206947475157937063:1=1:=rfl
theorem tw15876297559197228516:1=1:=rfl
theorem tw11984739269319089445:1=1:=rfl
theorem tw18272457438553220482:1=1:=rfl
theorem tw15591879207766731640:1=1:=rfl
theorem tw4537642554524089783:1=1:=rfl
theorem tw13166290442846121622:1=1:=rfl
theorem tw6254090976655371185:1=1:=rfl
theorem tw13761610088397771529:1=1:=rfl
theorem tw2869756604609728246:1=1:=rfl
theorem tw3280882690142942936:1=1:=rfl
theorem tw5165621674577938994:1=1:=rfl
theorem tw11661591032877331517:1=1:=rfl
theorem tw17218323733824022475:1=1:=rfl
theorem tw1589118422654060695:1=1:=rfl
theorem tw16388727895599414028:1=1:=rfl
theorem tw17989191818151118083:1=1:=rfl
theorem tw11711344296093020069:1=1:=rfl
theorem tw13052037665949969170:1=1:=rfl
theorem tw4469251788172569220:1=1:=rfl
theorem tw14660827191889225290:1=1:=rfl
theorem tw14122289492518288538:1=1:=rfl
theorem tw1430817767396666756:1=1:=rfl
theorem tw8635241424937574293:1=1:=rfl
theorem tw13391016511687538652:1=1:=rfl
theorem tw12658077211070034238:1=1:=rfl
theorem tw16677973350846862416:1=1:=rfl
theorem tw16758715097614817037:1=1:=rfl
theorem tw877293542509858139:1=1:=rfl
theorem tw17971098307846531936:1=1:=rfl
theorem tw14128030561739544823:1=1:=rfl
theorem tw6916689377491123312:1=1:=rfl
theorem tw8093850956967794418:1=1:=rfl
theorem tw17665481959506030580:1=1:=rfl
theorem tw10194596120051887637:1=1:=rfl
theorem tw3733105373390487069:1=1:=rfl
theorem tw2940999672515738661:1=1:=rfl
theorem tw10763460880299632867:1=1:=rfl
theorem tw15502571935179296063:1=1:=rfl
theorem tw5588072912842544581:1=1:=rfl
theorem tw18094056634223105801:1=1:=rfl
theorem tw12054466125282936043:1=1:=rfl
theorem tw12485405226016132289:1=1:=rfl
theorem tw5098535530354278726:1=1:=rfl
theorem tw9136319524876864180:1=1:=rfl
theorem tw1960570808243248435:1=1:=rfl
theorem tw1120594316008970283:1=1:=rfl
theorem tw5229149441620562035:1=1:=rfl
theorem tw1260784549612236916:1=1:=rfl
theorem tw1762837615640834450:1=1:=rfl
theorem tw10972973269753475885:1=1:=rfl
theorem tw8077640152874899191:1=1:=rfl
theorem tw10860578234910579123:1=1:=rfl
theorem tw6890699370760158038:1=1:=rfl
theorem tw15918368432031011339:1=1:=rfl
theorem tw6592970876248216942:1=1:=rfl
theorem tw7106567155155902496:1=1:=rfl
theorem tw12294977084777882953:1=1:=rfl
theorem tw7925010555129941529:1=1:=rfl
theorem tw3241799800804438196:1=1:=rfl
theorem tw4196616875251002639:1=1:=rfl
theorem tw9019141807572252497:1=1:=rfl
theorem tw12512954127594476525:1=1:=rfl
theorem tw9563862940624057254:1=1:=rfl
theorem tw7718866491120103321:1=1:=rfl
theorem tw12266664973442347930:1=1:=rfl
theorem tw12776047347212769905:1=1:=rfl
theorem tw3466471399160708363:1=1:=rfl
theorem tw813862064461903607:1=1:=rfl
theorem tw8264950201449125900:1=1:=rfl
theorem tw12136202441594937154:1=1:=rfl
theorem tw14282038016194045950:1=1:=rfl
theorem tw17855495871940796656:1=1:=rfl
theorem tw17446299733855063205:1=1:=rfl
end PySem.W.Fast
namespace PySem.W.Fast
end PySem.W.Fast
open PySem PySem.W PyProof.Rows
set_option maxRecDepth 100000 in
set_option maxHeartbeats 0 in
theorem PySem.Challenge.cw_roundlap_k09_whole_barred_holds : PySem.Challenge.rw_roundlap_k09_whole_barred.Holds := by
 w_on; o_law; k_head; (case hw=>w_witness2)
 k_fill
 refine EV.IS (l:=PySem.Challenge.rw_roundlap_k09_whole_barred) (fns:=K09.fns) (vals:=K09.vals) (cls:=K09.cls) (Pd:=K09.Pd) (sub:=λ_ _=>false) (n:=30) (st:=K09.top 71) (x:="_law_script") rfl rfl ⟨rfl,by decide,by decide⟩ (λw h Y=>Y.1) K09.hP rfl rfl ?T K09.main
 case T =>
  intro w h KX;refine⟨?_,?_,?_,?_⟩
  ·unfold K09.fns
   repeat (apply EV.dO.cons; k_is; k_is; k_is; k_is)
   exact EV.dO.nil
  ·unfold K09.vals
   repeat first
    | (apply EV.cA.flat; k_is; constructor)
    | (apply EV.cA.tup; k_is; k_is; decide; rfl; (focus (repeat' constructor)))
   exact EV.cA.nil
  ·unfold K09.cls

   exact EV.iV.nil
  ·refine λx hx _=>EV.eF.get (l:=EV.eO) ?hNone0 hx
   unfold EV.eO
   repeat (apply EV.eF.cons; k_is)
   exact EV.eF.nil
end
