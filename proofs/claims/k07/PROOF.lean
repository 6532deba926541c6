import PyProof.Rows.All
import Wide.All
import OpenK.AllK
import Wide.FinOn
import Lean
import PyProof.EqAt
import PyProof.EqKinds
import PyProof.TupleCall
import PyProof.ListRange
import PyProof.TupleOfSeq
import OpenK.KRaise
import OpenK.KOwn
import PyProof.NsDelKeeps
import PyProof.StrOps2
import PyProof.ExcAttrAll.ValueError
import PySem.SetTable
import PyProof.SetScanFacts
import PyProof.TupleKey
import PyProof.SetKind
import PyProof.IsRules
import PyProof.DictKinds
import PyProof.InstSpecial
import PyProof.Rows.SetFrom
import PyProof.WalksS
import PyProof.Walks
import PyProof.Seq
import PyProof.FactsAll.set_1
import PyProof.Comp
import PyProof.CollectWalk
import PyProof.SetNew
import PyProof.FactsAll.set_2
import PyProof.Rows.SortShellK
import PyProof.Rows.SortWalk
import PyProof.ZipIter
import PyProof.DictWalks
import KE.KDictList
import PyProof.DictValues
import PyProof.SetRoads
import KE.KDictOf
import PyProof.DictUpdate
import PySem.Str
import PyProof.NeKinds
import PySem.Eval
import PyProof.ExcBaseAll.ValueError
import PySem.Challenge.RW_roundlap_k07_ring
set_option genSizeOfSpec false
set_option bootstrap.genMatcherCode false
set_option compiler.extract_closed false
set_option genSizeOf false
noncomputable section
abbrev WS:=PySem.Value->PySem.Shared->Prop
abbrev WT:=List (PySem.Addr×PySem.Obj)
abbrev WU:=List Int
abbrev WV:=PySem.W.Frag
abbrev WW:=List PySem.Value
abbrev WX:=PySem.Shared
abbrev WY:=List (List Int)
abbrev WZ:=PySem.Program
abbrev W0:=List PySem.Addr
abbrev W1:=PySem.Str->Option PySem.Value
abbrev W2:=PySem.World
abbrev W3:=Array (Int×PySem.Value)
abbrev W4:=List PySem.Str
abbrev W5:=Array PySem.Value
abbrev W6:=PySem.Expr
abbrev W7:=List PySem.Expr
noncomputable abbrev Za:=@PySem.wpAny_bind
noncomputable abbrev Zb:=@List.length_map
noncomputable abbrev Zc:=@PySem.wpAny_pure
noncomputable abbrev Zd:=@List.prefix_append
noncomputable abbrev Ze:=@List.getElem?_eq_getElem
noncomputable abbrev Zf:=@if_pos
noncomputable abbrev Zg:=@PySem.Heap.get?_push_of_some
noncomputable abbrev Zh:=@if_neg
noncomputable abbrev Zi:=@List.getElem?_eq_some_iff
noncomputable abbrev Zj:=@decide_eq_true
noncomputable abbrev Zk:=@List.size_toArray
noncomputable abbrev Zl:=@of_decide_eq_true
noncomputable abbrev Zm:=@Nat.le_refl
noncomputable abbrev Zn:=@List.length_append
noncomputable abbrev Zo:=@List.mem_cons_self
noncomputable abbrev Zp:=@PySem.Heap.lt_size
noncomputable abbrev Zq:=@List.append_assoc
noncomputable abbrev Zr:=@List.mem_cons_of_mem
noncomputable abbrev Zs:=@Array.getElem?_eq_getElem
noncomputable abbrev Zt:=@decide_eq_false
noncomputable abbrev Zu:=@Bool.false_eq_true
noncomputable abbrev Zv:=@Bool.and_eq_true
noncomputable abbrev Zw:=@PySem.Heap.get?_push_size
noncomputable abbrev Zx:=@List.mem_cons
noncomputable abbrev Zy:=@List.length_cons
noncomputable abbrev Zz:=@Bool.false_ne_true
noncomputable abbrev ZA:=@List.mem_map
noncomputable abbrev ZB:=@List.mem_append
noncomputable abbrev ZC:=@List.getElem?_append_left
noncomputable abbrev ZD:=@List.mem_of_getElem?
noncomputable abbrev ZE:=@Array.length_toList
noncomputable abbrev ZF:=@Nat.ne_of_lt
noncomputable abbrev ZG:=@Option.map_eq_some_iff
noncomputable abbrev ZH:=@List.mem_singleton
noncomputable abbrev ZI:=@List.map_cons
noncomputable abbrev ZJ:=@List.getD_eq_getElem?_getD
noncomputable abbrev ZK:=@List.map_append
noncomputable abbrev ZL:=@List.getElem?_map
noncomputable abbrev ZM:=@if_false
noncomputable abbrev ZN:=@Nat.lt_of_lt_of_le
noncomputable abbrev ZO:=@List.getElem?_append_right
noncomputable abbrev ZP:=@List.getElem?_of_mem
noncomputable abbrev ZQ:=@List.prefix_refl
noncomputable abbrev ZR:=@Array.getElem?_toList
noncomputable abbrev ZS:=@List.length_range
noncomputable abbrev ZT:=@PySem.wpAny_call_entry
noncomputable abbrev ZU:=@List.find?_cons
noncomputable abbrev ZV:=@Array.getElem?_eq_some_iff
noncomputable abbrev ZW:=@beq_eq_false_iff_ne
noncomputable abbrev ZX:=@List.getElem?_set_ne
noncomputable abbrev ZY:=@PySem.wpAny_callSpecial?_slot
noncomputable abbrev ZZ:=@List.mem_append_right
noncomputable abbrev Z0:=@PySem.wpAny_newObj_type
noncomputable abbrev Z1:=@Option.some.inj
noncomputable abbrev Z2:=@Nat.le_trans
noncomputable abbrev Z3:=@List.length_take
noncomputable abbrev Z4:=@List.take_length
noncomputable abbrev Z5:=@Int.toNat_natCast
noncomputable abbrev Z6:=@PyProof.Rows.wpS_bind
noncomputable abbrev Z7:=@List.mem_range
noncomputable abbrev Z8:=@List.lookup_cons
noncomputable abbrev Z9:=@List.all_eq_true
noncomputable abbrev Xa:=@List.mem_append_left
noncomputable abbrev Xb:=@List.getElem?_set_self
noncomputable abbrev Xd:=@PySem.wpAny_Call_Name_kw
noncomputable abbrev Xe:=@Nat.zero_le
noncomputable abbrev Xf:=@List.nodup_cons
noncomputable abbrev Xg:=@PySem.wpAny_holding
noncomputable abbrev Xh:=@List.length_nil
noncomputable abbrev Xi:=@beq_self_eq_true
noncomputable abbrev Xj:=@List.getElem_mem
noncomputable abbrev Xk:=@List.filterMap_cons
noncomputable abbrev Xl:=@PySem.Heap.SameBut.update
noncomputable abbrev Xm:=@PyProof.Rows.callWith_type1
noncomputable abbrev Xn:=@PySem.Heap.get?_update_self
noncomputable abbrev Xo:=@Array.getD_eq_getD_getElem?
noncomputable abbrev Xp:=@PySem.wpAny_truthy_bool
noncomputable abbrev Xq:=@PySem.codeAny_builtin
noncomputable abbrev Xr:=@List.map_map
noncomputable abbrev Xs:=@congrArg
noncomputable abbrev Xt:=@List.drop_eq_getElem_cons
noncomputable abbrev Xu:=@if_true
noncomputable abbrev Xv:=@List.length_singleton
noncomputable abbrev Xw:=@PySem.Heap.size_push
noncomputable abbrev Xx:=@PyProof.Rows.wpS_pure
noncomputable abbrev Xy:=@PySem.wpAny_field
noncomputable abbrev Xz:=@PySem.wpAny_of_eq
noncomputable abbrev XA:=@List.append_nil
noncomputable abbrev XB:=@PySem.wpAny_ite_false
noncomputable abbrev XC:=@List.getElem?_eq_none
noncomputable abbrev XD:=@PySem.Calls.spliced_cons
noncomputable abbrev XE:=@List.length_drop
noncomputable abbrev XG:=@Nat.lt_succ_self
noncomputable abbrev XH:=@List.pairwise_cons
noncomputable abbrev XI:=@Nat.lt_irrefl
noncomputable abbrev XJ:=@PySem.wpAny_attempt
noncomputable abbrev XL:=@PySem.wpAny_mono
noncomputable abbrev XM:=@PySem.Around.under_plainId
noncomputable abbrev XN:=@PySem.Calls.spliced_nil
noncomputable abbrev XO:=@PySem.wpAny_setState_of
noncomputable abbrev XQ:=@List.nodup_append
noncomputable abbrev XR:=@List.length_set
noncomputable abbrev XS:=@PySem.sizeLine_eq
noncomputable abbrev XT:=@PySem.wpAny_typeOf
noncomputable abbrev XU:=@Nat.le_succ
noncomputable abbrev XV:=@Nat.zero_add
noncomputable abbrev XX:=@List.cons_append
noncomputable abbrev XY:=@Bool.false_and
noncomputable abbrev XZ:=@PySem.Obj.data_mapFields
noncomputable abbrev X0:=@PyProof.Rows.slot_tuple_getitem
noncomputable abbrev X1:=@Nat.ne_of_gt
noncomputable abbrev X2:=@Bool.eq_iff_iff
noncomputable abbrev X3:=@PyProof.Rows.callWith_builtin1
noncomputable abbrev X4:=@Array.getElem_toList
noncomputable abbrev X5:=@PySem.F.slot_dict_valueiterator_next
noncomputable abbrev X6:=@List.mem_of_mem_take
noncomputable abbrev X7:=@Nat.lt_succ_of_lt
noncomputable abbrev X8:=@List.any_cons
noncomputable abbrev X9:=@Bool.true_and
noncomputable abbrev Qa:=@List.cons.inj
noncomputable abbrev Qb:=@List.getElem?_replicate
noncomputable abbrev Qc:=@List.length_reverse
noncomputable abbrev Qd:=@PySem.wpAny_isInstance
noncomputable abbrev Qe:=@List.getElem_map
noncomputable abbrev Qf:=@PySem.F.slot_dict_keyiterator_next
noncomputable abbrev Qg:=@Array.getElem?_eq_none
noncomputable abbrev Qh:=@List.take_of_length_le
noncomputable abbrev Qi:=@Nat.le_of_lt
noncomputable abbrev Qj:=@Nat.lt_trans
noncomputable abbrev Qk:=@PyProof.Rows.F.plain_set_update_loop
noncomputable abbrev Ql:=@Int.ofNat_le
noncomputable abbrev Qm:=@List.mem_filter
noncomputable abbrev Qn:=@PySem.wpAny_passesOwn
noncomputable abbrev Qo:=@List.lookup_cons_self
noncomputable abbrev Qp:=@List.length_filter_le
noncomputable abbrev Qq:=@PySem.F.slot_tuple_iterator_next
noncomputable abbrev Qr:=@Bool.not_true
noncomputable abbrev Qs:=@List.exists_cons_of_ne_nil
noncomputable abbrev Qt:=@List.pairwise_iff_getElem
noncomputable abbrev Qu:=@PySem.wpAny_setField
noncomputable abbrev Qv:=@PySem.wpAny_ite_true
noncomputable abbrev Qw:=@List.map_nil
noncomputable abbrev Qx:=@Nat.succ_pos
noncomputable abbrev Qy:=@List.take_succ_eq_append_getElem
noncomputable abbrev Qz:=@PySem.mem_of_lookup
noncomputable abbrev QA:=@PySem.wpAny_rule
noncomputable abbrev QB:=@PySem.wpAny_setField_rec
noncomputable abbrev QC:=@PySem.wpAny_pyIter_tuple
noncomputable abbrev QD:=@Nat.mod_lt
noncomputable abbrev QE:=@List.nil_append
noncomputable abbrev QF:=@beq_false_of_ne
noncomputable abbrev QG:=@PySem.W.kia_one
noncomputable abbrev QH:=@Int.natCast_nonneg
noncomputable abbrev QI:=@PySem.Heap.get?_update_other
noncomputable abbrev QJ:=@PySem.Value.isInt_shape
noncomputable abbrev QK:=@bne_self_eq_false
noncomputable abbrev QL:=@List.ext_getElem?
noncomputable abbrev QM:=@List.nodup_nil
noncomputable abbrev QN:=@PySem.Obj.isFreed_of_fields
noncomputable abbrev QO:=@PySem.F.slot_enumerate_next
noncomputable abbrev QP:=@PySem.builtinLookup_eq_fast
noncomputable abbrev QQ:=@List.contains_iff_mem
noncomputable abbrev QR:=@PySem.wpAny_forIn_list
noncomputable abbrev QS:=@PySem.wpAny_askSetting
noncomputable abbrev QT:=@List.any_eq_true
noncomputable abbrev QU:=@Bool.and_eq_true_iff
noncomputable abbrev QV:=@PySem.plainId_quiet
noncomputable abbrev QW:=@Array.perm_iff_toList_perm
noncomputable abbrev QX:=@Nat.lt_succ_iff
noncomputable abbrev QY:=@List.mem_filterMap
noncomputable abbrev QZ:=@List.getElem?_take_of_lt
noncomputable abbrev Q2:=@PySem.tupleKind_room_in1
noncomputable abbrev Q3:=@Int.emod_lt_of_pos
noncomputable abbrev Q4:=@PyProof.Rows.F.entry_set_update_loop
noncomputable abbrev Q5:=@PySem.Code.quiet_builtin
noncomputable abbrev Q6:=@PyProof.Rows.listItems_at
noncomputable abbrev Q7:=@PyProof.Rows.wpS_forRange
noncomputable abbrev Q8:=@List.length_filterMap_le
noncomputable abbrev Q9:=@beq_iff_eq
noncomputable abbrev Wa:=@PySem.wpAny_seqItems
noncomputable abbrev Wb:=@PySem.F.plainAttrs_list
noncomputable abbrev Wc:=@Option.isSome_map
noncomputable abbrev Wd:=@PySem.Obj.cls_mapFields
noncomputable abbrev We:=@PySem.wpAny_pyIter_list
noncomputable abbrev Wf:=@PySem.wpAny_pyIter_slot
noncomputable abbrev Wg:=@PySem.Calls.callWith_builtin
noncomputable abbrev Wh:=@List.drop_of_length_le
noncomputable abbrev Wi:=@PySem.richCompare_meets_room
noncomputable abbrev Wj:=@PySem.Paired.length
noncomputable abbrev Wl:=@Nat.min_eq_right
noncomputable abbrev Wm:=@PySem.wpAny_notOrdered_dict
noncomputable abbrev Wn:=@List.getElem?_reverse
noncomputable abbrev Wo:=@PySem.wpAny_execs_nil
noncomputable abbrev Wp:=@PySem.codeAny_mono
noncomputable abbrev Wq:=@Int.emod_nonneg
noncomputable abbrev Wr:=@Nat.sub_self
noncomputable abbrev Ws:=@List.foldl_cons
noncomputable abbrev Wt:=@Nat.sub_zero
noncomputable abbrev Wu:=@PySem.typeLookup_type
noncomputable abbrev Wv:=@List.sum_append
noncomputable abbrev Ww:=@List.set_set
noncomputable abbrev Wx:=@Nat.min_eq_left
noncomputable abbrev Wy:=@List.map_congr_left
noncomputable abbrev Wz:=@Int.toNat_of_nonneg
noncomputable abbrev WA:=@List.length_pos_iff
noncomputable abbrev WB:=@Bool.and_false
noncomputable abbrev WC:=@PySem.isSubtype_stop
noncomputable abbrev WD:=@List.filterMap_map
noncomputable abbrev WE:=@of_decide_eq_false
noncomputable abbrev WG:=@List.all_cons
noncomputable abbrev WH:=@PySem.W.mg_of
noncomputable abbrev WI:=@List.take_sublist
noncomputable abbrev WJ:=@Nat.lt_trichotomy
noncomputable abbrev WL:=@List.pairwise_map
noncomputable abbrev WM:=@List.foldl_append
noncomputable abbrev WN:=@Nat.lt_of_sub_pos
noncomputable abbrev WO:=@Int.ediv_one
noncomputable abbrev WP:=@Nat.pow_succ
noncomputable abbrev WQ:=@List.all_map
noncomputable abbrev WR:=@Bool.or_true
set_option Elab.async false
set_option linter.all false
set_option maxRecDepth 100000
namespace L2
open PySem PySem.Spec PyProof.Rows
abbrev Key:=Sum Int Str
noncomputable def gr:Key->Value->Bool
 | .inl k,v=>Value.isInt k v
 | .inr x,v=>Value.isStrOf x v
noncomputable def HK(w:W2):Key->Int
 | .inl k=>hashInt k
 | .inr x=>hashStr w x
theorem dU:∀{k:Key} {v:Value},gr k v=true->(∃i t,k=Sum.inl i/\v=Value.int i t)\/(∃x t,k=Sum.inr x/\v=Value.str x t)
 | .inl i,v,h=>by
  obtain⟨t,e⟩:=QJ (k:=i) (v:=v) h;exact .inl ⟨i,t,rfl,e⟩
 | .inr x,v,h=>by
  obtain⟨t,e⟩:=Value.isStrOf_shape (x:=x) (v:=v) h;exact .inr ⟨x,t,rfl,e⟩
theorem AB(i:Int)(t:Tok):gr (.inl i) (.int i t)=true:=by simp[gr,Value.isInt]
theorem BO(x:Str)(t:Tok):gr (.inr x) (.str x t)=true:=by simp[gr,Value.isStrOf]
theorem zA(a b:Int):decide ((Sum.inl a:Key)=Sum.inl b)=(a==b):=by
 by_cases e:a=b
 ·subst e; simp
 ·have h:¬(Sum.inl a:Key)=Sum.inl b:=λq=>e (Sum.inl.inj q)
  rw[Zt h];exact(ZW.mpr e).symm
theorem yZ(a b:Str):decide ((Sum.inr a:Key)=Sum.inr b)=decide (a=b):=by
 by_cases e:a=b
 ·subst e; simp
 ·have h:¬(Sum.inr a:Key)=Sum.inr b:=λq=>e (Sum.inr.inj q)
  rw[Zt h,Zt e]
theorem D8(a:Int)(b:Str):decide ((Sum.inl a:Key)=Sum.inr b)=false:=Zt (λq=>nomatch q)
theorem JO(a:Str)(b:Int):decide ((Sum.inr a:Key)=Sum.inl b)=false:=Zt (λq=>nomatch q)
noncomputable def bJ(prog:WZ)(w:W2):PySem.KeyKind prog w Key where
 is:=gr
 hash:=HK w
 inj:=λv a b ha hb=>by
  rcases dU ha with⟨i,t,rfl,rfl⟩|⟨x,t,rfl,rfl⟩
  ·rcases dU hb with⟨j,u,rfl,e⟩|⟨y,u,rfl,e⟩
   ·injection e with e1 _; rw[e1]
   ·exact nomatch e
  ·rcases dU hb with⟨j,u,rfl,e⟩|⟨y,u,rfl,e⟩
   ·exact nomatch e
   ·injection e with e1 _; rw[e1]
 byValue:=λk v h=>by
  rcases dU h with⟨i,t,rfl,rfl⟩|⟨x,t,rfl,rfl⟩<;>rfl
 pyHash:=λhv h=>by
  rcases dU hv with⟨i,t,rfl,rfl⟩|⟨x,t,rfl,rfl⟩
  ·exact wpAny_pyHash_int h
  ·exact wpAny_pyHash_str h
 eqBool:=λhu hv h=>by
  rcases dU hu with⟨i,t,rfl,rfl⟩|⟨x,t,rfl,rfl⟩
  ·rcases dU hv with⟨j,u,rfl,rfl⟩|⟨y,u,rfl,rfl⟩
   ·rw[zA] at h; exact wpAny_eqBool_int h
   ·rw[D8] at h; exact SeqAt.EqAt.int_str i t y u _ _ _ _ h
  ·rcases dU hv with⟨j,u,rfl,rfl⟩|⟨y,u,rfl,rfl⟩
   ·rw[JO] at h; exact SeqAt.EqAt.str_int x t j u _ _ _ _ h
   ·rw[yZ] at h; exact wpAny_eqBool_str h
 «strs»:=λk x t v h=>by
  rcases dU h with⟨i,u,rfl,e⟩|⟨y,u,rfl,e⟩
  ·exact nomatch e
  ·injection e with e1 _;subst e1;cases v<;>rfl
theorem AJ(prog:WZ)(w:W2)(i:Int)(t:Tok):(bJ prog w).is (.inl i) (.int i t)=true:=AB i t
theorem Bx(prog:WZ)(w:W2)(x:Str)(t:Tok):(bJ prog w).is (.inr x) (.str x t)=true:=BO x t
end L2
namespace L2
open PySem PySem.Spec PyProof.Rows
inductive V where
 | non|bl (b:Bool)|int (i:Int)|str (x:Str)|byt (b:Array UInt8)|flt (b:UInt64)|ref (a:Addr)|ty (n:String)
 deriving DecidableEq
abbrev W9:=List (List Key×V)
abbrev W8:=List V
noncomputable def RelV:V->Value->Prop
 | .non,u=>u=Value.none
 | .bl b,u=>u=Value.bool b
 | .int i,u=>∃t,u=Value.int i t
 | .str x,u=>∃t,u=Value.str x t
 | .byt b,u=>∃t,u=Value.bytes b t
 | .flt b,u=>∃t,u=Value.float b t
 | .ref a,u=>u=Value.ref a
 | .ty n,u=>u=Value.type n
abbrev Vals:List V->List Value->Prop:=Paired RelV
theorem Vals.length{xs:W8}{us:WW}(r:Vals xs us):xs.length=us.length:=Wj r
theorem Vals.get:∀{xs:W8} {us:WW} {i:Nat} {x:V},Vals xs us->xs[i]?=some x->∃u,us[i]?=some u/\RelV x u
 | _,_,_,_,.nil,e=>by simp at e
 | _,_,0,_,.cons r _,e=>by simp at e; subst e; exact⟨_,rfl,r⟩
 | _,_,i+1,x,.cons _ t,e=>by
  obtain⟨u,h1,h2⟩:=Vals.get (i:=i) (x:=x) t (by simpa using e);exact⟨u,by simpa using h1,h2⟩
theorem Vals.append:∀{xs ys:W8} {us ws:WW},Vals xs us->Vals ys ws->Vals (xs++ys) (us++ws)
 | _,_,_,_,.nil,s=>s
 | _,_,_,_,.cons r t,s=>.cons r (Vals.append t s)
theorem Vals.take:∀{xs:W8} {us:WW} (n:Nat),Vals xs us->Vals (xs.take n) (us.take n)
 | _,_,0,_=>.nil
 | _,_,_+1,.nil=>.nil
 | _,_,n+1,.cons r t=>.cons r (Vals.take n t)
theorem Vals.drop:∀{xs:W8} {us:WW} (n:Nat),Vals xs us->Vals (xs.drop n) (us.drop n)
 | _,_,0,r=>r
 | _,_,_+1,.nil=>.nil
 | _,_,n+1,.cons _ t=>Vals.drop n t
noncomputable def dH:Option V->Option Value->Prop
 | some v,some u=>RelV v u
 | none,none=>True
 | _,_=>False
noncomputable def KV{κ:Type}:List (κ×V)->List (κ×Value)->Prop:=Paired λ(p:κ×V) (q:κ×Value)=>p.1=q.1/\RelV p.2 q.2
noncomputable def kV:Key->V
 | .inl i=>.int i
 | .inr x=>.str x
inductive HO where
 /-- a list -/
 | lst (xs:W8)
 /-- a tuple (never changes) -/
 | tup (xs:W8)
 /-- a dict whose keys are ints and texts; one whose keys are tuples of ints and texts (the empty one is both) -/
 | dK (kvs:List (Key×V))|dT (kvs:W9)
 /-- a set of ints: its members,its size -/
 | set (S:Int->Bool) (n:Nat)
 /-- an instance of the class at C,its dict at dx,its attributes -/
 | ins (C dx:Addr) (fs:List (Str×V))
 /-- the dict of the instance at x -/
 | own (x:Addr)
 /-- the dict of an exception -/
 | xd (fs:List (Str×V))
 /-- a bound method,f of x -/
 | met (f x:Addr)
 /-- a range object lo,lo+1,.. below hi -/
 | rng (lo hi:Int)
 /-- a thing that is known to the object (the script; a dict while a loop walks it): read,never written while it is so -/
 | frz (o:Obj) (u:HO)
 /-- a code object's table -/
 | tbl (ps:W5)
 /-- any other thing,by what is true of its one object (a def of one's own: SetO a S n:=HO.ext λh=>..) -/
 | ext (φ:Heap->Prop)
abbrev Hp:=Addr->Option HO
noncomputable def upd(H:Hp)(a:Addr)(o:HO):Hp:=λb=>if b=a then some o else H b
theorem cH{H:Hp}{a:Addr}{o:HO}:upd H a o a=some o:=by unfold upd; rw[Zf rfl]
theorem aF{H:Hp}{a b:Addr}{o:HO}(h:b≠a):upd H a o b=H b:=by unfold upd; rw[Zh h]
theorem nN{H:Hp}{a b:Addr}{o u:HO}(h:H a=some o)(h':H b=some u)(d:o≠u):a≠b:=by
 intro e; subst e; rw[h] at h'; exact d (Z1 h')
theorem bF{H:Hp}{a b:Addr}{o:HO}(h:H a=some o)(h':H b=none):a≠b:=by
 intro e; subst e; rw[h] at h'; cases h'
section
variable(P:WZ)(w:W2)
noncomputable def a_(H:Hp)(h:Heap)(a:Addr):HO->Prop
 | .lst xs=>xs.length<=sizeLine/\∃(its:WW) (n:Nat),Vals xs its/\h.get? a=some { cls:=.type "list",data:=.seq its.toArray n }
 | .tup xs=>xs.length<=sizeLine/\∃its:List Value,Vals xs its/\IsTup h a its.toArray
 | .dK kvs=>kvs.length<=sizeLine/\(a==sysModules)=false/\∃vs,KV kvs vs/\h.DictOf (bJ P w) a vs
 | .dT kvs=>kvs.length<=sizeLine/\(a==sysModules)=false/\∃xs:List (List Key×Addr×Value),
   Paired (λ(p:List Key×V) (q:List Key×Addr×Value)=>p.1=q.1/\H q.2.1=some (.tup (p.1.map kV))/\RelV p.2 q.2.2) kvs xs /\
   ∃o es ep,h.get? a=some o/\o.ExactDict/\o.data=.dict es ep/\es.toList=xs.map (entryOfKey (tupleKind (bJ P w)))/\(xs.map (·.1)).Nodup
 | .set S n=>h.SetOf (intKind P w) a S n
 | .ins C dx fs=>H dx=some (.own a)/\fs.length<=1000/\dx≠a/\h.get? a=some (PySem.W.instObj C dx) /\
   ∃mA,h.Ns1 dx mA/\(∀f,dH (fs.lookup f) (mA f))/\PySem.Within mA (fs.map (·.1))
 | .own _=>∃o,h.get? a=some o
 | .xd fs=>∃mA,h.Ns1 a mA/\∀f,dH (fs.lookup f) (mA f)
 | .rng lo hi=>∃t u v,h.get? a=some { cls:=.type "range",data:=.fields #[.int lo t,.int hi u,.int 1 v] }
 | .frz o u=>h.get? a=some o/\a_ H h a u
 | .tbl ps=>h.get? a=some { cls:=.none,data:=.fields ps }
 | .met f x=>h.get? a=some (PySem.W.methodObj (.ref f) (.ref x))
 | .ext φ=>φ h/\(∃o,h.get? a=some o)/\∀h1 h2:Heap,φ h1->(∀o,h1.get? a=some o->h2.get? a=some o)->φ h2
def HOk(H:Hp)(h:Heap):Prop:=∀a o,H a=some o->a_ P w H h a o
end
section
variable{P:WZ}{w:W2}{H H':Hp}{h h':Heap}{a:Addr}{o:HO}
theorem a_.lt(x:a_ P w H h a o):a<h.objs.size:=by
 cases o with
 | lst xs=>obtain⟨_,_,_,_,e⟩:=x; exact Zp e
 | tup xs=>obtain⟨_,_,_,p⟩:=x; exact p.lt
 | dK kvs=>obtain⟨_,_,_,_,o,_,_,e,_⟩:=x; exact Zp e
 | dT kvs=>obtain⟨_,_,_,_,o,_,_,e,_⟩:=x; exact Zp e
 | set S n=>obtain⟨o,_,_,_,e,_⟩:=x; exact Zp e
 | ins C dx fs=>obtain⟨_,_,_,e,_⟩:=x; exact Zp e
 | own y=>obtain⟨_,e⟩:=x; exact Zp e
 | xd fs=>obtain⟨_,⟨_,_,_,e,_⟩,_⟩:=x; exact Zp e
 | rng lo hi=>obtain⟨_,_,_,e⟩:=x; exact Zp e
 | frz ob u=>obtain⟨e,_⟩:=x; exact Zp e
 | tbl ps=>exact Zp (show h.get? a=some _ from x)
 | met f y=>exact Zp (show h.get? a=some _ from x)
 | ext φ=>obtain⟨_,⟨_,e⟩,_⟩:=x; exact Zp e
theorem Paired.pH{α β:Type}{F G:α->β->Prop}:∀{l₁:List α} {l₂:List β},Paired F l₁ l₂->(∀a b,F a b->G a b)->Paired G l₁ l₂
 | _,_,.nil,_=>.nil
 | _,_,.cons r t,f=>.cons (f _ _ r) (Paired.pH t f)
theorem a_.stay(x:a_ P w H h a o)(k:∀b u,(b=a\/H b=some (.own a))->h.get? b=some u->h'.get? b=some u)
  (ho:∀b,H b=some (.own a)->H' b=some (.own a)) (ht:∀b xs,H b=some (.tup xs)->H' b=some (.tup xs)):a_ P w H' h' a o:=by
 induction o with
 | lst xs=>obtain⟨z,its,n,r,e⟩:=x; exact⟨z,its,n,r,k _ _ (.inl rfl) e⟩
 | tup xs=>obtain⟨z,its,r,ob,e,c⟩:=x; exact⟨z,its,r,ob,k _ _ (.inl rfl) e,c⟩
 | dK kvs=>obtain⟨z,y,vs,r,ob,es,ep,e,c⟩:=x; exact⟨z,y,vs,r,ob,es,ep,k _ _ (.inl rfl) e,c⟩
 | dT kvs =>
  obtain⟨z,y,xs,r,ob,es,ep,e,c⟩:=x;exact⟨z,y,xs,Paired.pH r λp q z=>⟨z.1,ht _ _ z.2.1,z.2.2⟩,ob,es,ep,k _ _ (.inl rfl) e,c⟩
 | set S n=>obtain⟨ob,es,ep,t,e,c⟩:=x; exact⟨ob,es,ep,t,k _ _ (.inl rfl) e,c⟩
 | ins C dx fs =>
  obtain⟨d,z,ne,e,mA,⟨od,es,ep,e2,c⟩,r⟩:=x;exact⟨ho _ d,z,ne,k _ _ (.inl rfl) e,mA,⟨od,es,ep,k _ _ (.inr d) e2,c⟩,r⟩
 | own y=>obtain⟨ob,e⟩:=x; exact⟨ob,k _ _ (.inl rfl) e⟩
 | xd fs=>obtain⟨mA,⟨od,es,ep,e,c⟩,r⟩:=x; exact⟨mA,⟨od,es,ep,k _ _ (.inl rfl) e,c⟩,r⟩
 | rng lo hi=>obtain⟨t,u,v,e⟩:=x; exact⟨t,u,v,k _ _ (.inl rfl) e⟩
 | frz ob u ih=>obtain⟨e,q⟩:=x; exact⟨k _ _ (.inl rfl) e,ih q⟩
 | tbl ps =>
  have e:h.get? a=some { cls:=.none,data:=.fields ps }:=x;show h'.get? a=some { cls:=.none,data:=.fields ps };exact k a _ (.inl rfl) e
 | met f y =>
  have e:h.get? a=some (PySem.W.methodObj (.ref f) (.ref y)):=x;show h'.get? a=some (PySem.W.methodObj (.ref f) (.ref y));exact k a _ (.inl rfl) e
 | ext φ=>obtain⟨p,⟨o,e⟩,st⟩:=x; exact⟨st _ _ p λo q=>k _ _ (.inl rfl) q,⟨o,k _ _ (.inl rfl) e⟩,st⟩
theorem HOk.lt(x:HOk P w H h)(e:H a=some o):a<h.objs.size:=(x a o e).lt
theorem HOk.fresh(x:HOk P w H h)(e:h.objs.size<=a):H a=none:=by
 cases q:H a with
 | none=>rfl
 | some u=>exact absurd (ZN (x.lt q) e) (XI _)
theorem HOk.kept(x:HOk P w H h)(k:∀b u,h.get? b=some u->h'.get? b=some u):HOk P w H h':=λa o e =>
 (x a o e).stay (λb u _ q=>k b u q) (λ_ q=>q) λ_ _ q=>q
theorem HOk.laid(x:HOk P w H h)(k:∀b u,h.get? b=some u->h'.get? b=some u)(hp:h.objs.size<=a)(new:a_ P w (upd H a o) h' a o):HOk P w (upd H a o) h':=λb u e=>by
 have hn:=x.fresh hp
 by_cases hb:b=a
 ·subst hb; rw[cH] at e; cases e; exact new
 ·rw[aF hb] at e;exact(x b u e).stay (λc v _ q=>k c v q) (λc q=>by rw[aF (bF q hn)]; exact q) λc xs q=>by rw[aF (bF q hn)]; exact q
end
def Rd(H:Hp)(a:Addr)(u:HO):Prop:=H a=some u\/∃o,H a=some (.frz o u)
theorem Rd.ok{P:WZ}{w:W2}{H:Hp}{h:Heap}{a:Addr}{u:HO}(r:Rd H a u)(x:HOk P w H h):a_ P w H h a u:=by
 rcases r with r|⟨o,r⟩
 ·exact x a u r
 ·obtain⟨_,q⟩:=x a _ r;exact q
noncomputable def Mut:Option HO->Prop
 | some (.lst _)=>True
 | some (.dK _)=>True
 | some (.dT _)=>True
 | some (.set _ _)=>True
 | some (.ins _ _ _)=>True
 | some (.ext _)=>True
 | _=>False
section
variable{P:WZ}{w:W2}{H:Hp}{h h':Heap}{x e:Addr}{o':HO}
theorem HOk.write(ok:HOk P w H h)(mu:Mut (H x))(he:e=x\/H e=some (.own x))(k:∀b u,b≠e->h.get? b=some u->h'.get? b=some u)(heo:∃u,h'.get? e=some u)
  (new:a_ P w (upd H x o') h' x o'):HOk P w (upd H x o') h':=λb u q=>by
 have nown:∀c y,H c=some (.own y)->c≠x:=λc y r z=>by subst z; rw[r] at mu; exact mu
 have ntup:∀c xs,H c=some (.tup xs)->c≠x:=λc xs r z=>by subst z; rw[r] at mu; exact mu
 by_cases hb:b=x
 ·subst hb; rw[cH] at q; cases q; exact new
 ·rw[aF hb] at q
  by_cases hbe:b=e
  ·have q':H b=some (.own x):=by
    rcases he with z|z
    ·exact absurd (hbe.trans z) hb
    ·rw[hbe]; exact z
   rw[q] at q'; cases q';obtain⟨v,hv⟩:=heo;exact⟨v,by rw[hbe]; exact hv⟩
  ·refine(ok b u q).stay (λc v hc r=>k c v ?_ r) (λc r=>by rw[aF (nown c b r)]; exact r) λc xs r=>by rw[aF (ntup c xs r)]; exact r
   rcases hc with rfl|hc
   ·exact hbe
   ·rintro rfl;rcases he with z|z
    ·exact nown c b hc z
    ·rw[hc] at z; cases z; exact hb rfl
end
structure Un(fs ex:W0)(H H':Hp)(h h':Heap):Prop where
 keep:∀b o,h.get? b=some o->H b=none->b∉fs->b∉ex->h'.get? b=some o
 slot:∀b o,h.get? b=some o->H b=none->b∈fs->b∉ex->∃sl,h'.get? b=some { o with slots:=sl }
 free:∀b o,h.get? b=some o->H b=none->b∉ex->H' b=none
 there:∀b o,h.get? b=some o->b∉ex->∃o',h'.get? b=some o'
 tups:∀b xs,H b=some (.tup xs)->H' b=some (.tup xs)
 frzs:∀b o u,H b=some (.frz o u)->H' b=some (.frz o u)
 tbls:∀b ps,H b=some (.tbl ps)->∃more,H' b=some (.tbl (ps++more))
section
variable{fs fs' ex ex':W0}{H H1 H2:Hp}{h h1 h2 h':Heap}{a x e:Addr}{o:HO}
theorem Un.any(u:Un fs ex H H1 h h1){b:Addr}{ob:Obj}(q:h.get? b=some ob)(n:H b=none)(hx:b∉ex):∃sl,h1.get? b=some { ob with slots:=sl }:=by
 by_cases hb:b∈fs
 ·exact u.slot b ob q n hb hx
 ·exact⟨ob.slots,u.keep b ob q n hb hx⟩
theorem Un.kept(k:∀b u,h.get? b=some u->h'.get? b=some u):Un fs ex H H h h' :=
 ⟨λb ob q _ _ _=>k b ob q,λb ob q _ _ _=>⟨ob.slots,k b ob q⟩,λ_ _ _ n _=>n,λb ob q _=>⟨ob,k b ob q⟩,λ_ _ q=>q,λ_ _ _ q=>q,λ_ ps q=>⟨#[],by rw[q]; simp⟩⟩
theorem Un.refl:Un fs ex H H h h:=Un.kept λ_ _ q=>q
theorem Un.laid(k:∀b u,h.get? b=some u->h'.get? b=some u)(hp:h.objs.size<=a)(hn:H a=none):Un fs ex H (upd H a o) h h' where
 keep:=λb u q _ _ _=>k b u q
 slot:=λb u q _ _ _=>⟨u.slots,k b u q⟩
 free:=λb u q n _=>by rw[aF (ZF (ZN (Zp q) hp))]; exact n
 there:=λb u q _=>⟨u,k b u q⟩
 tups:=λb xs q=>by rw[aF (bF q hn)]; exact q
 frzs:=λb u xs q=>by rw[aF (bF q hn)]; exact q
 tbls:=λb ps q=>⟨#[],by rw[aF (bF q hn),q]; simp⟩
theorem Un.write(mu:Mut (H x))(he:e=x\/H e=some (.own x))(k:∀b u,b≠e->h.get? b=some u->h'.get? b=some u)(heo:∃u,h'.get? e=some u):Un fs ex H (upd H x o) h h':=by
 have hx:∀b,H b=none->b≠x:=λb n z=>by subst z; rw[n] at mu; exact mu
 have hb:∀b,H b=none->b≠e:=λb n z=>by
  subst z;rcases he with r|r
  ·exact hx b n r
  ·rw[n] at r; cases r
 have hm:∀b u,H b=some u->¬Mut (some u)->b≠x:=λb u q nm z=>by subst z; rw[q] at mu; exact nm mu
 refine⟨λb u q n _ _=>k b u (hb b n) q,λb u q n _ _=>⟨u.slots,k b u (hb b n) q⟩,λb u q n _=>by rw[aF (hx b n)]; exact n,λb u q _=>?_,
  λb xs q=>by rw[aF (hm b _ q λz=>z)]; exact q,λb u xs q=>by rw[aF (hm b _ q λz=>z)]; exact q,λb ps q=>⟨#[],by rw[aF (hm b _ q λz=>z),q]; simp⟩⟩
 by_cases hbe:b=e
 ·subst hbe; exact heo
 ·exact⟨u,k b u hbe q⟩
end
noncomputable def trk(h:Heap)(H:Hp):List Addr:=(List.range h.objs.size).filter λa=>(H a).isSome
noncomputable def d7(h:Heap)(H:Hp):Heap:=PySem.W.hideAll h (trk h H)
theorem C2(h:Heap)(H:Hp):(d7 h H).objs.size=h.objs.size:=PySem.W.hideAll_size _ _
theorem Gm{h:Heap}{H:Hp}{b:Addr}{o:Obj}(e:h.get? b=some o)(n:H b=none):(d7 h H).get? b=some o :=
 PySem.W.hideAll_get _ e λhm=>by
  have q:(H b).isSome=true:=(Qm.mp hm).2;rw[n] at q; simp at q
theorem Ey{h:Heap}{H:Hp}{b:Addr}{o:Obj}(e:(d7 h H).get? b=some o):h.get? b=some o/\H b=none:=by
 have e':h.get? b=some o:=PySem.W.of_hideAll (trk h H) e;refine⟨e',?_⟩
 cases q:H b with
 | none=>rfl
 | some x =>
  have hm:b∈trk h H:=Qm.mpr ⟨Z7.mpr (Zp e'),by simp[q]⟩;have z:(d7 h H).get? b=none:=PySem.W.hideAll_none (trk h H) hm;rw[z] at e; cases e
end L2
namespace L2
open PySem PySem.Spec PyProof.Rows
structure Mod(K:WV)(mg:W1)(base:Heap):Prop where
 kin:K.In base
 glob:base.Ns mainGlobals mg
 blt:∃mb,base.Ns builtinsNs mb/\∀x:Str,x≠"__name__"->mb x=bootBuiltins x
 nolimit:base.NoLimit
structure Cx where
 prog:Program
 w:World
 K:PySem.W.Frag
 mg:Str->Option Value
 base:Heap
 A:Around
 N:List Str
 s₀:Shared
 H₀:Hp
 env:Env
 outer:List Env
 stack:List Env
 ex:List Addr
 fn:Str->Bool
 calm:Bool
 pn:List (Addr×Obj)
 xe:Value->Shared->Prop
noncomputable def frs(l:List Env):List Addr:=l.filterMap (·.frame)
abbrev Cx.fs(X:Cx):List Addr:=frs X.outer
def Vis(sc:Scope)(x:Str):Prop:=sc.names.lookup x=some .local\/sc.names.lookup x=some .cell\/sc.names.lookup x=some .free
def Loc(sc:Scope)(x:Str):Prop:=sc.names.lookup x=some .local\/sc.names.lookup x=some .cell
noncomputable def Look(env:Env)(h:Heap)(m:W1)(x:Str)(u:Value):Prop :=
 (env.kindOf x=some .local/\m x=some u)\/((env.kindOf x=some .cell\/env.kindOf x=some .free)/\∃c,env.cells.lookup x=some c/\h.IsCell c (some u))
structure Cx.Ok(X:Cx):Prop where
 mod:Mod X.K X.mg X.base
 kind:X.env.scope.kind=.function
 glob:X.env.globals=mainGlobals
 blt:X.env.builtins=builtinsNs
 above:X.s₀.heap.objs.size<=X.env.locals
 inj:∀x y c,X.env.cells.lookup x=some c->X.env.cells.lookup y=some c->x=y
 has:∀x,(X.env.kindOf x=some .cell\/X.env.kindOf x=some .free)->∃c,X.env.cells.lookup x=some c
 cab:∀x c,X.fn x=true->X.env.cells.lookup x=some c->X.s₀.heap.objs.size<=c
 hd:X.calm=true->X.A.handled=none
 frames:X.A.frames=some X.stack
 stk:X.stack=X.outer\/(X.stack=X.env::X.outer/\X.env.frame=some X.env.locals)
 exf:∀b∈X.ex,b≠X.env.locals/\∀x c,X.env.cells.lookup x=some c->c≠b
 bs:∀b o,X.base.get? b=some o->X.s₀.heap.get? b=some o/\X.H₀ b=none
 bsz:X.base.objs.size<=X.s₀.heap.objs.size
 noex:∀b o,X.base.get? b=some o->b∉X.ex
 exfs:∀b∈X.ex,b∉X.fs
 c7:X.s₀.heap.FunFrames X.base X.outer
 frf:∀b∈X.fs,X.H₀ b=none
structure Inv(X:Cx)(pins:WT)(σ:List (Option V))(H:Hp)(s:WX):Prop where
 ok:X.Ok
 os:s.os=X.s₀.os
 bare:AllBare s.gens
 base:Un X.fs X.ex X.H₀ H X.s₀.heap s.heap
 loc:∃m,s.heap.Ns X.env.locals m/\∀(i:Nat) (x:Str) (v:V),X.N[i]?=some x->σ[i]?=some (some v)->Vis X.env.scope x->∃u,RelV v u/\Look X.env s.heap m x u
 cell:∀x c,X.env.cells.lookup x=some c->∃v,s.heap.IsCell c v
 free:H X.env.locals=none
 freeC:∀x c,X.env.cells.lookup x=some c->H c=none
 pin:∀p∈X.pn++pins,s.heap.get? p.1=some p.2/\H p.1=none/\p.1≠X.env.locals/\p.1∉X.fs/\∀v,p.2.data≠.cell v
 hok:HOk X.prog X.w H s.heap
 len:σ.length=X.N.length
section
variable{X:Cx}{pins:WT}{σ:List (Option V)}{H H':Hp}{s:WX}{h':Heap}
theorem Cx.Ok.yq(ok:X.Ok){b:Addr}{o:Obj}(e:X.base.get? b=some o):b∉X.fs:=λhb=>by
 have:=(ok.c7.mem hb).1;rw[e] at this; cases this
theorem Inv.bs(I:Inv X pins σ H s):∀b o,X.base.get? b=some o->s.heap.get? b=some o/\H b=none:=λb o e =>
 ⟨I.base.keep b o (I.ok.bs b o e).1 (I.ok.bs b o e).2 (I.ok.yq e) (I.ok.noex b o e),I.base.free b o (I.ok.bs b o e).1 (I.ok.bs b o e).2 (I.ok.noex b o e)⟩
theorem Inv.bk(I:Inv X pins σ H s):∀b o,X.base.get? b=some o->s.heap.get? b=some o:=λb o e=>(I.bs b o e).1
theorem Inv.mod(I:Inv X pins σ H s):Mod X.K X.mg X.base:=I.ok.mod
theorem Inv.kIn(I:Inv X pins σ H s):X.K.In s.heap:=I.ok.mod.kin.keeps I.bk
theorem Inv.lt(I:Inv X pins σ H s):X.env.locals<s.heap.objs.size:=let⟨_,hn,_⟩:=I.loc; hn.lt
theorem Inv.sz(I:Inv X pins σ H s):X.s₀.heap.objs.size<=s.heap.objs.size:=Z2 I.ok.above (Qi I.lt)
theorem Inv.Ci(I:Inv X pins σ H s){a:Addr}(h:s.heap.objs.size<=a):a∉X.fs:=λhb=>by
 obtain⟨_,o,ho,_⟩:=I.ok.c7.mem hb;exact absurd (ZN (Zp ho) (Z2 I.sz h)) (XI _)
theorem Inv.cne(I:Inv X pins σ H s):∀x c,X.env.cells.lookup x=some c->c≠X.env.locals:=λx c e z=>by
 obtain⟨v,o,ho,hd⟩:=I.cell x c e;obtain⟨m,⟨o',es,ep,ho',hd',_⟩,_⟩:=I.loc;rw[z,ho'] at ho; cases ho; rw[hd'] at hd; cases hd
theorem Inv.c7(I:Inv X pins σ H s):s.heap.FunFrames X.base X.outer:=by
 have all:∀(l:List Env),(∀b∈frs l,b∈X.fs)->X.s₀.heap.FunFrames X.base l->s.heap.FunFrames X.base l:=by
  intro l
  induction l with
  | nil=>intro _ _; trivial
  | cons env r ih =>
   intro hs hl;obtain⟨hk,⟨L,o,hf,hn,ho,hd⟩,hr⟩:=hl;have hL:L∈X.fs:=hs L (by unfold frs; rw[Xk,hf]; exact Zo);obtain⟨sl,e⟩:=I.base.slot L o ho (I.ok.frf L hL) hL λz=>I.ok.exfs L z hL
   exact⟨hk,⟨L,_,hf,hn,e,hd⟩,ih (λb hb=>hs b (by unfold frs; rw[Xk,hf]; exact Zr _ hb)) hr⟩
 exact all X.outer (λ_ hb=>hb) I.ok.c7
theorem Inv.stack(I:Inv X pins σ H s):s.heap.FunFrames X.base X.stack:=by
 rcases I.ok.stk with e|⟨e,hf⟩
 ·rw[e]; exact I.c7
 ·rw[e];obtain⟨m,hn,_⟩:=I.loc;refine .cons (by rw[I.ok.kind]; decide) hf hn ?_ I.c7;exact Heap.get?_none_of_le (Z2 I.ok.bsz I.ok.above)
theorem Inv.mD(I:Inv X pins σ H s):∀b∈frs X.stack,b∈X.env.locals::X.fs:=λb hb=>by
 rcases I.ok.stk with e|⟨e,hf⟩
 ·rw[e] at hb; exact Zr _ hb
 ·rw[e] at hb;unfold frs at hb;rw[Xk,hf] at hb;exact hb
theorem Inv.n8(I:Inv X pins σ H s):∀b∈frs X.stack,H b=none:=λb hb=>by
 rcases Zx.mp (I.mD b hb) with e|hb
 ·rw[e]; exact I.free
 ·obtain⟨_,o,ho,_⟩:=I.ok.c7.mem hb;exact I.base.free b o ho (I.ok.frf b hb) λz=>I.ok.exfs b z hb
theorem Inv.step{g':Array GenState}{t':Nat}{d':Drawn}{ch:W0}(I:Inv X pins σ H s)
  (hch:∀b∈ch,(b∈X.ex\/X.s₀.heap.objs.size<=b)/\b≠X.env.locals/\(∀x c,X.env.cells.lookup x=some c->c≠b)/\∀p∈X.pn++pins,p.1≠b)
  (keep:∀b o,b≠X.env.locals->b∉X.fs->b∉ch->s.heap.get? b=some o->H b=none->h'.get? b=some o)
  (slot:∀b o,b≠X.env.locals->b∈X.fs->b∉ch->s.heap.get? b=some o->H b=none->∃sl,h'.get? b=some { o with slots:=sl }) (free:∀b o,b∉ch->s.heap.get? b=some o->H b=none->H' b=none)
  (there:∀b o,b∉ch->s.heap.get? b=some o->∃o',h'.get? b=some o')
  (tups:∀b xs,H b=some (.tup xs)->H' b=some (.tup xs)) (frzs:∀b o u,H b=some (.frz o u)->H' b=some (.frz o u)) (tbls:∀b ps,H b=some (.tbl ps)->∃more,H' b=some (.tbl (ps++more)))
  (ns:∀m,s.heap.Ns X.env.locals m->h'.Ns X.env.locals m) (hok:HOk X.prog X.w H' h') (hg:AllBare g') :
  Inv X pins σ H' { s with heap:=h',gens:=g',drawn:=d',toks:=t' }:=by
 have neL:∀b o,X.s₀.heap.get? b=some o->b≠X.env.locals:=λb o e=>ZF (ZN (Zp e) I.ok.above)
 have neC:∀b o,X.s₀.heap.get? b=some o->b∉X.ex->b∉ch:=λb o e hx hb=>by
  rcases(hch b hb).1 with z|z
  ·exact hx z
  ·exact absurd (ZN (Zp e) z) (XI _)
 have cellK:∀x c,X.env.cells.lookup x=some c->∀v,s.heap.IsCell c v->h'.IsCell c v:=λx c e v ⟨o,ho,hd⟩=>by
  have nch:c∉ch:=λz=>(hch c z).2.2.1 x c e rfl
  by_cases hc:c∈X.fs
  ·obtain⟨sl,q⟩:=slot c o (I.cne x c e) hc nch ho (I.freeC x c e);exact⟨_,q,hd⟩
  ·exact⟨o,keep c o (I.cne x c e) hc nch ho (I.freeC x c e),hd⟩
 refine⟨I.ok,I.os,hg,⟨λb o e n hb hx=>?_,λb o e n hb hx=>?_,λb o e n hx=>?_,λb o e hx=>?_,λb xs e=>tups b xs (I.base.tups b xs e),λb o xs e=>frzs b o xs (I.base.frzs b o xs e),λb ps e=>?_⟩,?_,λx c e=>?_,?_,λx c e=>?_,λp hp=>?_,hok,I.len⟩
 ·exact keep b o (neL b o e) hb (neC b o e hx) (I.base.keep b o e n hb hx) (I.base.free b o e n hx)
 ·obtain⟨sl,e1⟩:=I.base.slot b o e n hb hx;obtain⟨sl',e2⟩:=slot b _ (neL b o e) hb (neC b o e hx) e1 (I.base.free b o e n hx);exact⟨sl',e2⟩
 ·obtain⟨o',e1⟩:=I.base.there b o e hx;exact free b o' (neC b o e hx) e1 (I.base.free b o e n hx)
 ·obtain⟨o',e1⟩:=I.base.there b o e hx;exact there b o' (neC b o e hx) e1
 ·obtain⟨m1,e1⟩:=I.base.tbls b ps e;obtain⟨m2,e2⟩:=tbls b _ e1;exact⟨m1++m2,by rw[e2,Array.append_assoc]⟩
 ·obtain⟨m,hn,hl⟩:=I.loc;refine⟨m,ns m hn,λi x v e1 e2 e3=>?_⟩;obtain⟨u,r,l⟩:=hl i x v e1 e2 e3;refine⟨u,r,?_⟩;rcases l with l|⟨k,c,e,z⟩
  ·exact .inl l
  ·exact .inr ⟨k,c,e,cellK x c e _ z⟩
 ·obtain⟨v,z⟩:=I.cell x c e;exact⟨v,cellK x c e v z⟩
 ·obtain⟨m,⟨o,_,_,ho,_⟩,_⟩:=I.loc;exact free _ o (λz=>(hch _ z).2.1 rfl) ho I.free
 ·obtain⟨v,o,ho,hd⟩:=I.cell x c e;exact free c o (λz=>(hch c z).2.2.1 x c e rfl) ho (I.freeC x c e)
 ·obtain⟨e,n,ne,nf,d⟩:=I.pin p hp;have nch:p.1∉ch:=λz=>(hch p.1 z).2.2.2 p hp rfl
  exact⟨keep p.1 p.2 ne nf nch e n,free p.1 p.2 nch e n,ne,nf,d⟩
theorem Inv.un{t':Nat}(I:Inv X pins σ H s)(u:Un X.fs [] H H' s.heap h')(hok:HOk X.prog X.w H' h'):Inv X pins σ H' { s with heap:=h',toks:=t' }:=by
 obtain⟨m,⟨o,es,ep,ho,r⟩,_⟩:=id I.loc;obtain⟨sl,hL⟩:=u.any ho I.free (by simp)
 exact I.step (g':=s.gens) (d':=s.drawn) (ch:=[]) (λ_ z=>nomatch z) (λb o _ hb _ e n=>u.keep b o e n hb (by simp)) (λb o _ hb _ e n=>u.slot b o e n hb (by simp)) (λb o _ e n=>u.free b o e n (by simp)) (λb o _ e=>u.there b o e (by simp)) u.tups u.frzs u.tbls (λm' hm=>by
  obtain⟨o',es',ep',ho',r'⟩:=hm;rw[ho] at ho'; cases ho';exact⟨_,es',ep',hL,r'⟩) hok I.bare
theorem Inv.call{g':Array GenState}{t':Nat}{d':Drawn}{ch:W0}(I:Inv X pins σ H s)(u:Un (frs X.stack) ch H H' s.heap h')(hok:HOk X.prog X.w H' h')(hg:AllBare g')
  (hch:∀b∈ch,(b∈X.ex\/X.s₀.heap.objs.size<=b)/\b≠X.env.locals/\(∀x c,X.env.cells.lookup x=some c->c≠b)/\∀p∈X.pn++pins,p.1≠b) :
  Inv X pins σ H' { s with heap:=h',gens:=g',drawn:=d',toks:=t' }:=by
 obtain⟨m,⟨o,es,ep,ho,r⟩,_⟩:=id I.loc;obtain⟨sl,hL⟩:=u.any ho I.free λz=>(hch _ z).2.1 rfl
 exact I.step (ch:=ch) hch (λb o hL hb hc e n=>u.keep b o e n (λz=>(Zx.mp (I.mD b z)).elim hL hb) hc) (λb o _ _ hc e n=>u.any e n hc) (λb o hc e n=>u.free b o e n hc) (λb o hc e=>u.there b o e hc) u.tups u.frzs u.tbls (λm' hm=>by
  obtain⟨o',es',ep',ho',r'⟩:=hm;rw[ho] at ho'; cases ho';exact⟨_,es',ep',hL,r'⟩) hok hg
theorem Inv.turned{t':Nat}{it:Addr}(I:Inv X pins σ H s)(k:∀b o,b≠it->s.heap.get? b=some o->h'.get? b=some o)(hn:H it=none)(hL:it≠X.env.locals)
  (h1:it∈X.ex\/X.s₀.heap.objs.size<=it) (h2:∀x c,X.env.cells.lookup x=some c->c≠it) (h3:∀p∈X.pn++pins,p.1≠it):Inv X pins σ H { s with heap:=h',toks:=t' }:=by
 have nit:∀b u,H b=some u->b≠it:=λb u e z=>by rw[z,hn] at e; cases e
 refine I.step (g':=s.gens) (d':=s.drawn) (ch:=[it]) (λb hb=>?_) (λb o _ _ hc e _=>k b o (λz=>hc (by simp[z])) e) (λb o _ _ hc e _=>⟨o.slots,k b o (λz=>hc (by simp[z])) e⟩) (λ_ _ _ _ n=>n)
  (λb o hc e=>⟨o,k b o (λz=>hc (by simp[z])) e⟩) (λ_ _ e=>e) (λ_ _ _ e=>e) (λb ps e=>⟨#[],by rw[e]; simp⟩) (λm hm=>?_) (λb u e=>?_) I.bare
 ·have e:b=it:=by simpa using hb
  subst e;exact⟨h1,hL,h2,h3⟩
 ·obtain⟨o,es,ep,ho,r⟩:=hm;exact⟨o,es,ep,k _ o (Ne.symm hL) ho,r⟩
 ·refine(I.hok b u e).stay (λc v hc q=>k c v ?_ q) (λ_ q=>q) λ_ _ q=>q
  rcases hc with z|z
  ·rw[z]; exact nit b u e
  ·exact nit c _ z
theorem Inv.tok(I:Inv X pins σ H s)(t:Nat):Inv X pins σ H { s with toks:=t }:=I.un (h':=s.heap) (t':=t) Un.refl I.hok
theorem Inv.kept{t':Nat}(I:Inv X pins σ H s)(k:∀b u,s.heap.get? b=some u->h'.get? b=some u):Inv X pins σ H { s with heap:=h',toks:=t' }:=I.un (Un.kept k) (I.hok.kept k)
theorem Inv.laid{a:Addr}{o:HO}{t':Nat}(I:Inv X pins σ H s)(k:∀b u,s.heap.get? b=some u->h'.get? b=some u)(hp:s.heap.objs.size<=a)(new:a_ X.prog X.w (upd H a o) h' a o) :
  Inv X pins σ (upd H a o) { s with heap:=h',toks:=t' }:=I.un (Un.laid k hp (I.hok.fresh hp)) (I.hok.laid k hp new)
theorem Inv.write{x e:Addr}{o:HO}{t':Nat}(I:Inv X pins σ H s)(mu:Mut (H x))(he:e=x\/H e=some (.own x))(k:∀b u,b≠e->s.heap.get? b=some u->h'.get? b=some u)(heo:∃u,h'.get? e=some u)
  (new:a_ X.prog X.w (upd H x o) h' x o):Inv X pins σ (upd H x o) { s with heap:=h',toks:=t' }:=I.un (Un.write mu he k heo) (I.hok.write mu he k heo new)
theorem Inv.weak{σ':List (Option V)}(I:Inv X pins σ H s)(hl:σ'.length=σ.length)(w:∀(i:Nat) v,σ'[i]?=some (some v)->σ[i]?=some (some v)):Inv X pins σ' H s :=
 ⟨I.ok,I.os,I.bare,I.base,let⟨m,hn,hl'⟩:=I.loc; ⟨m,hn,λi x v e1 e2 e3=>hl' i x v e1 (w i v e2) e3⟩,I.cell,I.free,I.freeC,I.pin,I.hok,hl.trans I.len⟩
theorem Inv.p7{pins':WT}(I:Inv X pins σ H s)(h:∀p∈pins',s.heap.get? p.1=some p.2/\H p.1=none/\p.1≠X.env.locals/\p.1∉X.fs/\∀v,p.2.data≠.cell v):Inv X pins' σ H s :=
 ⟨I.ok,I.os,I.bare,I.base,I.loc,I.cell,I.free,I.freeC,λp hp=>(ZB.mp hp).elim (λz=>I.pin p (Xa _ z)) (h p),I.hok,I.len⟩
theorem qJ{N:W4}(hN:N.Nodup){i j:Nat}{x:Str}(a:N[i]?=some x)(b:N[j]?=some x):i=j:=by
 obtain⟨h1,e1⟩:=Zi.mp a;obtain⟨h2,e2⟩:=Zi.mp b;exact(List.getElem_inj hN).mp (e1.trans e2.symm)
theorem sG{M:Model}{A:Around}{E:WS}{i:Nat}{x:Str}{v:V}{u:Value}{Q:Unit->Shared->Prop}(I:Inv X pins σ H s)(hN:X.N.Nodup)(hi:X.N[i]?=some x)(hx:Loc X.env.scope x)(r:RelV v u)
  (h:∀s',Inv X pins (σ.set i (some v)) H s'->(∃a,Heap.SameBut a s.heap s'.heap/\(a=X.env.locals\/X.env.cells.lookup x=some a))->Q () s') (hf:X.fn x=true\/X.env.scope.names.lookup x=some .local:=by first|exact .inl rfl|exact .inr rfl|assumption):wpAny M A (storeName X.env x u) Q E s:=by
 obtain⟨m,hn,hl⟩:=id I.loc;have hcls:(X.env.scope.kind==.class||(X.env.scope.kind==.module&&X.env.locals != X.env.globals))=false:=by rw[I.ok.kind]; rfl
 have hiσ:i<σ.length:=by rw[I.len]; exact(Zi.mp hi).1
 have cne:=I.cne
 have tracked:∀{a:Addr} {h':Heap},(∃o,s.heap.get? a=some o/\H a=none)->Heap.SameBut a s.heap h'->HOk X.prog X.w H h':=λ{a h'} ha hs b ob e=>by
  obtain⟨_,_,hfree⟩:=ha;refine(I.hok b ob e).stay (λc w' hc q=>(hs.2 c ?_).trans q) (λ_ q=>q) λ_ _ q=>q
  rintro rfl;rcases hc with rfl|hc
  ·rw[hfree] at e; cases e
  ·rw[hfree] at hc; cases hc
 rcases hx with hk|hk
 ·refine wpAny_storeName_local hk hn (λh' hn' hs=>?_) hcls;obtain⟨oL,_,_,hoL,_⟩:=id hn;refine h _ ⟨I.ok,I.os,I.bare,⟨λb o e n hb hx=>?_,λb o e n hb hx=>?_,I.base.free,λb o e hx=>?_,I.base.tups,I.base.frzs,I.base.tbls⟩,⟨_,hn',λj y v' e1 e2 e3=>?_⟩,λy c e=>?_,I.free,I.freeC,λp hp=>?_,tracked ⟨oL,hoL,I.free⟩ hs,by simpa using I.len⟩ ⟨_,hs,.inl rfl⟩
  ·exact(hs.2 b (ZF (ZN (Zp e) I.ok.above))).trans (I.base.keep b o e n hb hx)
  ·obtain⟨sl,e1⟩:=I.base.slot b o e n hb hx;exact⟨sl,(hs.2 b (ZF (ZN (Zp e) I.ok.above))).trans e1⟩
  ·obtain⟨o',e1⟩:=I.base.there b o e hx;exact⟨o',(hs.2 b (ZF (ZN (Zp e) I.ok.above))).trans e1⟩
  ·by_cases hj:j=i
   ·subst hj;rw[hi] at e1; cases e1;rw[Xb hiσ] at e2;cases e2;exact⟨u,r,.inl ⟨hk,by simp⟩⟩
   ·rw[ZX (Ne.symm hj)] at e2;obtain⟨u',r',q⟩:=hl j y v' e1 e2 e3;refine⟨u',r',?_⟩;rcases q with⟨k,e⟩|⟨k,c,e,z⟩
    ·refine .inl ⟨k,?_⟩;have:y≠x:=λe=>hj (qJ hN e1 (e▸hi))
     simp[this,e]
    ·exact .inr ⟨k,c,e,z.sameBut hs (cne y c e)⟩
  ·obtain⟨w',z⟩:=I.cell y c e;exact⟨w',z.sameBut hs (cne y c e)⟩
  ·obtain⟨e,n,ne,nf,d⟩:=I.pin p hp;exact⟨(hs.2 p.1 ne).trans e,n,ne,nf,d⟩
 ·have hfn:X.fn x=true:=by
   rcases hf with z|z
   ·exact z
   ·rw[z] at hk; cases hk
  obtain⟨c,hc⟩:=I.ok.has x (.inl hk);obtain⟨w',z⟩:=I.cell x c hc;refine wpAny_storeName_cell I.ok.kind hk hc z (λh' hc' hs=>?_);obtain⟨oc,hoc,hocd⟩:=id z;refine h { s with heap:=h' } ⟨I.ok,I.os,I.bare,⟨λb o e n hb hx=>?_,λb o e n hb hx=>?_,I.base.free,λb o e hx=>?_,I.base.tups,I.base.frzs,I.base.tbls⟩,⟨m,hn.sameBut hs (Ne.symm (cne x c hc)),λj y v' e1 e2 e3=>?_⟩,λy c' e=>?_,I.free,I.freeC,λp hp=>?_,tracked ⟨oc,hoc,I.freeC x c hc⟩ hs,by simpa using I.len⟩ ⟨c,hs,.inr hc⟩
  ·exact(hs.2 b (ZF (ZN (Zp e) (I.ok.cab x c hfn hc)))).trans (I.base.keep b o e n hb hx)
  ·obtain⟨sl,e1⟩:=I.base.slot b o e n hb hx;exact⟨sl,(hs.2 b (ZF (ZN (Zp e) (I.ok.cab x c hfn hc)))).trans e1⟩
  ·obtain⟨o',e1⟩:=I.base.there b o e hx;exact⟨o',(hs.2 b (ZF (ZN (Zp e) (I.ok.cab x c hfn hc)))).trans e1⟩
  ·by_cases hj:j=i
   ·subst hj;rw[hi] at e1; cases e1;rw[Xb hiσ] at e2;cases e2;exact⟨u,r,.inr ⟨.inl hk,c,hc,hc'⟩⟩
   ·rw[ZX (Ne.symm hj)] at e2;obtain⟨u',r',q⟩:=hl j y v' e1 e2 e3;refine⟨u',r',?_⟩;rcases q with q|⟨k,c',e,z'⟩
    ·exact .inl q
    ·refine .inr ⟨k,c',e,z'.sameBut hs ?_⟩;rintro rfl;exact hj (qJ hN e1 (I.ok.inj _ _ _ e hc▸hi))
  ·by_cases hcc:c'=c
   ·subst hcc; exact⟨_,hc'⟩
   ·obtain⟨w2,z2⟩:=I.cell y c' e;exact⟨w2,z2.sameBut hs hcc⟩
  ·obtain⟨e,n,ne,nf,d⟩:=I.pin p hp;refine⟨(hs.2 p.1 ?_).trans e,n,ne,nf,d⟩;intro q;rw[q,hoc] at e;have q':oc=p.2:=Z1 e;exact d w' (by rw[<- q']; exact hocd)
theorem Ay{M:Model}{A:Around}{E:WS}{i:Nat}{x:Str}{v:V}{u:Value}{Q:Unit->Shared->Prop}(I:Inv X pins σ H s)(hN:X.N.Nodup)(hi:X.N[i]?=some x)(hx:Loc X.env.scope x)(r:RelV v u)
  (h:∀s',Inv X pins (σ.set i (some v)) H s'->Q () s') (hf:X.fn x=true\/X.env.scope.names.lookup x=some .local:=by first|exact .inl rfl|exact .inr rfl|assumption):wpAny M A (storeName X.env x u) Q E s :=
 sG I hN hi hx r (λs' I' _=>h s' I') hf
theorem Inv.yE{s':WX}{ch:W0}(I:Inv X pins σ H s)(ho:s'.os=s.os)(u:Un (frs X.stack) ch H H' s.heap s'.heap)(hok:HOk X.prog X.w H' s'.heap)(hg:AllBare s'.gens)
  (hch:∀b∈ch,(b∈X.ex\/X.s₀.heap.objs.size<=b)/\b≠X.env.locals/\(∀x c,X.env.cells.lookup x=some c->c≠b)/\∀p∈X.pn++pins,p.1≠b):Inv X pins σ H' s':=by
 obtain⟨h',g',d',t',o'⟩:=s';have e:o'=s.os:=ho;subst e;exact I.call (g':=g') (t':=t') (d':=d') u hok hg hch
end
abbrev XK:=Value->Option Addr->Hp->Prop
abbrev St:=List (Option V)
abbrev VK:=V->Hp->Prop
abbrev TE:=St->Hp->VK->Prop
abbrev TT:=St->Hp->(Bool->Hp->Prop)->Prop
abbrev TA:=St->Hp->(List V->Hp->Prop)->Prop
structure Ends where
 nx:St->Hp->Prop
 rt:VK
 bk:St->Hp->Prop:=λ_ _=>False
 ct:St->Hp->Prop:=λ_ _=>False
abbrev TS:=Ends->St->Hp->Prop
def EP(X:Cx)(pins:WT)(σ:St)(Q:VK)(u:Value)(s':WX):Prop:=∃v H',Inv X pins σ H' s'/\RelV v u/\Q v H'
def TP(X:Cx)(pins:WT)(σ:St)(Q:Bool->Hp->Prop)(b:Bool)(s':WX):Prop:=∃H',Inv X pins σ H' s'/\Q b H'
def AP(X:Cx)(pins:WT)(σ:St)(Q:List V->Hp->Prop)(us:WW)(s':WX):Prop:=∃vs H',Inv X pins σ H' s'/\Vals vs us/\Q vs H'
noncomputable def SP(X:Cx)(pins:WT)(D:Ends)(f:Flow)(s':WX):Prop :=
 match f with
 | .next=>∃σ' H',Inv X pins σ' H' s'/\D.nx σ' H'
 | .brk=>∃σ' H',Inv X pins σ' H' s'/\D.bk σ' H'
 | .cont=>∃σ' H',Inv X pins σ' H' s'/\D.ct σ' H'
 | .ret u=>∃v σ' H',Inv X pins σ' H' s'/\RelV v u/\D.rt v H'
noncomputable def PE(X:Cx)(e:Expr)(t:TE):Prop :=
 ∀(pins:WT) (s:WX) (σ:St) (H:Hp) (Q:VK),Inv X pins σ H s->t σ H Q->wpAny (model X.prog X.w) X.A (eval e X.env) (EP X pins σ Q) X.xe s
noncomputable def PT(X:Cx)(e:Expr)(t:TT):Prop :=
 ∀(pins:WT) (s:WX) (σ:St) (H:Hp) (Q:Bool->Hp->Prop),Inv X pins σ H s->t σ H Q->wpAny (model X.prog X.w) X.A (isTrue e X.env (eval e X.env)) (TP X pins σ Q) X.xe s
noncomputable def PW(X:Cx)(e:Expr)(t:TT):Prop :=
 ∀(whole:Sem Value) (pins:WT) (s:WX) (σ:St) (H:Hp) (Q:Bool->Hp->Prop),Inv X pins σ H s->t σ H Q->wpAny (model X.prog X.w) X.A (isTrue e X.env whole) (TP X pins σ Q) X.xe s
theorem PW.pt{X:Cx}{e:Expr}{t:TT}(h:PW X e t):PT X e t:=h _
noncomputable def PA(X:Cx)(es:W7)(t:TA):Prop :=
 ∀(pos:Pos) (pins:WT) (s:WX) (σ:St) (H:Hp) (Q:List V->Hp->Prop),Inv X pins σ H s->t σ H Q->wpAny (model X.prog X.w) X.A (spliced (backTo pos (starEach es X.env))) (AP X pins σ Q) X.xe s
noncomputable def PS(X:Cx)(st:Stmt)(t:TS):Prop :=
 ∀(pins:WT) (s:WX) (σ:St) (H:Hp) (D:Ends),Inv X pins σ H s->t D σ H->wpAny (model X.prog X.w) X.A (exec st X.env) (SP X pins D) X.xe s
noncomputable def PSs(X:Cx)(st:List Stmt)(t:TS):Prop :=
 ∀(pins:WT) (s:WX) (σ:St) (H:Hp) (D:Ends),Inv X pins σ H s->t D σ H->wpAny (model X.prog X.w) X.A (execs st X.env) (SP X pins D) X.xe s
theorem thn{α:Type}{t:Sem α}{Q Q':α->Shared->Prop}{M:Model}{A:Around}{E:WS}{s:WX}(h:wpAny M A t Q E s)(hQ:∀a s,Q a s->Q' a s):wpAny M A t Q' E s:=XL h hQ λ_ _ x=>x
end L2
namespace L2
open PySem PySem.Spec PyProof.Rows
section
variable{X:Cx}
noncomputable def CN(i:Nat):TE:=λσ H Q=>∃v,σ[i]?=some (some v)/\Q v H
noncomputable def tC(v:V):TE:=λ_ H Q=>Q v H
theorem IB{i:Nat}{x:Str}{pos:Pos}(hN:X.N[i]?=some x)(hv:Vis X.env.scope x)(hd:(x==("__debug__" : Str))=false:=by decide)(hcd:(x==("__classdict__" : Str))=false:=by decide):PE X (.Name x pos) (CN i):=by
 intro pins s σ H Q I h;obtain⟨v,e,h⟩:=h;obtain⟨m,hn,hl⟩:=I.loc;obtain⟨u,r,l⟩:=hl i x v hN e hv;have fin:EP X pins σ Q u s:=⟨v,H,I,r,h⟩
 rcases l with⟨hk,hm⟩|⟨hk,c,hc,hcell⟩
 ·exact wpAny_Name (wpAny_loadName_local I.ok.kind hk hn hm fin) hd
 ·rcases hk with hk|hk
  ·exact wpAny_Name (wpAny_loadName_cell I.ok.kind hk hc hcell fin) hd
  ·exact wpAny_Name (wpAny_loadName_free I.ok.kind hk hc hcell fin hcd) hd
theorem rJ{i j pos}:PE X (.Constant (.int i) j pos) (tC (.int i)):=λ_ _ _ H _ I h=>wpAny_Constant_int ⟨.int i,H,I.tok _,⟨_,rfl⟩,h⟩
theorem GR{b j pos}:PE X (.Constant (.bool b) j pos) (tC (.bl b)):=λ_ _ _ H _ I h=>Constant_bool ⟨.bl b,H,I,rfl,h⟩
theorem GS{j pos}:PE X (.Constant .none j pos) (tC .non):=λ_ _ _ H _ I h=>Constant_none ⟨.non,H,I,rfl,h⟩
theorem Gw{x j pos}:PE X (.Constant (.str x) j pos) (tC (.str x)):=λ_ _ _ H _ I h=>Calls.Constant_str ⟨.str x,H,I.tok _,⟨_,rfl⟩,h⟩
def Gl(X:Cx)(x:Str):Prop:=X.env.kindOf x=some .globalImplicit
theorem nH{E:WS}{pins:WT}{s:WX}{σ:St}{H:Hp}{x:Str}{u:Value}{pos:Pos}{Q:WS}(I:Inv X pins σ H s)(hg:Gl X x)(hm:X.mg x=some u)(h:Q u s)
  (hd:(x==("__debug__" : Str))=false:=by decide):wpAny (model X.prog X.w) X.A (eval (.Name x pos) X.env) Q E s :=
 Calls.Name_function_global I.ok.kind hg (Calls.loadGlobal_global (by rw[I.ok.glob]; exact I.mod.glob.keeps I.bk) hm h) hd
theorem cY{E:WS}{pins:WT}{s:WX}{σ:St}{H:Hp}{x:Str}{u:Value}{pos:Pos}{Q:WS}(I:Inv X pins σ H s)(hg:Gl X x)(hm:X.mg x=none)(hv:bootBuiltins x=some u)(h:Q u s)
  (hn:x≠"__name__":=by decide) (hd:(x==("__debug__" : Str))=false:=by decide):wpAny (model X.prog X.w) X.A (eval (.Name x pos) X.env) Q E s:=by
 obtain⟨mb,h1,h2⟩:=I.mod.blt;exact Calls.Name_function_global I.ok.kind hg (Calls.loadGlobal_builtin (by rw[I.ok.glob]; exact I.mod.glob.keeps I.bk) hm (by rw[I.ok.blt]; exact h1.keeps I.bk) ((h2 x hn).trans hv) h) hd
theorem xQ{x:Str}{v:V}{u:Value}{pos:Pos}(hg:Gl X x)(hm:X.mg x=some u)(r:RelV v u)(hd:(x==("__debug__" : Str))=false:=by decide):PE X (.Name x pos) (tC v) :=
 λ_ _ _ H _ I h=>nH I hg hm ⟨v,H,I,r,h⟩ hd
theorem B6{x:Str}{v:V}{u:Value}{pos:Pos}(hg:Gl X x)(hm:X.mg x=none)(hv:bootBuiltins x=some u)(r:RelV v u)(hn:x≠"__name__":=by decide)(hd:(x==("__debug__" : Str))=false:=by decide):PE X (.Name x pos) (tC v) :=
 λ_ _ _ H _ I h=>cY I hg hm hv ⟨v,H,I,r,h⟩ hn hd
variable{a b:Expr}{ta tb:TE}{pos:Pos}
noncomputable def PC(X:Cx)(op:CmpOp)(a b:Expr)(t:TE):Prop :=
 ∀(pins:WT) (s:WX) (σ:St) (H:Hp) (Q:VK),Inv X pins σ H s->t σ H Q ->
  wpAny (model X.prog X.w) X.A (eval a X.env) (λv s₁=>wpAny (model X.prog X.w) X.A (eval b X.env) (λu s₂=>wpAny (model X.prog X.w) X.A (compareOp op v u) (EP X pins σ Q) X.xe s₂) X.xe s₁) X.xe s
theorem kK(b:Expr){op:CmpOp}(h:op≠.In)(h2:op≠.NotIn):behindInMarks op b=false:=by
 have e1:(op==CmpOp.In)=false:=by cases op<;>first|rfl|exact absurd rfl h
 have e2:(op==CmpOp.NotIn)=false:=by cases op<;>first|rfl|exact absurd rfl h2
 cases b<;>simp[behindInMarks,e1,e2]
noncomputable def Eu(ta:TE):TE:=λσ H Q=>ta σ H λx H1=>Q (.bl (decide (x=.non))) H1
noncomputable def CG(ta:TE):TE:=λσ H Q=>ta σ H λx H1=>Q (.bl (!decide (x=.non))) H1
theorem RelV.rM{x:V}{v:Value}(r:RelV x v):(v==Value.none)=decide (x=.non):=by
 cases x with
 | non=>cases r; rfl
 | bl _=>cases r; rfl
 | int _=>obtain⟨t,rfl⟩:=r; rfl
 | str _=>obtain⟨t,rfl⟩:=r; rfl
 | byt _=>obtain⟨t,rfl⟩:=r; rfl
 | flt _=>obtain⟨t,rfl⟩:=r; rfl
 | ref _=>cases r; rfl
 | ty _=>cases r; rfl
theorem vI{j pos'}(ha:PE X a ta):PC X .Is a (.Constant .none j pos') (Eu ta):=by
 intro pins s σ H Q I h;refine thn (ha pins s σ H _ I h) λv s1 ⟨x,H1,I1,r1,q1⟩=>?_
 exact Constant_none (is_none_gen ⟨.bl _,H1,I1,by rw[r1.rM]; rfl,q1⟩)
theorem vV{j pos'}(ha:PE X a ta):PC X .IsNot a (.Constant .none j pos') (CG ta):=by
 intro pins s σ H Q I h;refine thn (ha pins s σ H _ I h) λv s1 ⟨x,H1,I1,r1,q1⟩=>?_
 exact Constant_none (isnot_none_gen ⟨.bl _,H1,I1,by rw[r1.rM]; rfl,q1⟩)
noncomputable def tB(t:TE):TT:=λσ H Q=>t σ H λx H1=>∃c,x=.bl c/\Q c H1
theorem tL{op:CmpOp}{t:TE}(h:PC X op a b t)(h1:behindInMarks op b=false:=by first|exact kK _ (by decide) (by decide)|rfl):PE X (.Compare a [op] [b] pos) t:=λpins s σ H Q I hw=>wpAny_Compare1 (h pins s σ H Q I hw) h1
theorem vz{op:CmpOp}{t:TE}(h:PC X op a b t)(h1:behindInMarks op b=false:=by first|exact kK _ (by decide) (by decide)|rfl):PT X (.Compare a [op] [b] pos) (tB t):=by
 intro pins s σ H Q I hw;refine wpAny_isTrue_Compare1 (thn (h pins s σ H _ I hw) λv s1 h1=>thn h1 λu s2 h2=>thn h2 λc s3 ⟨x,H1,I1,r1,q1⟩=>?_) h1;obtain⟨d,rfl,q⟩:=q1;cases r1;exact Xp ⟨H1,I1,q⟩
variable{tA tB':TT}{rest:W7}
noncomputable def zj(t u:TT):TT:=λσ H Q=>t σ H λc H1=>if c=true then u σ H1 Q else Q false H1
noncomputable def tOr(t u:TT):TT:=λσ H Q=>t σ H λc H1=>if c=true then Q true H1 else u σ H1 Q
noncomputable def xW(t:TT):TT:=λσ H Q=>t σ H λc H1=>Q (!c) H1
theorem uA(ha:PT X a tA):PW X (.BoolOp .And [a] pos) tA:=by
 intro wh pins s σ H Q I h;refine isTrue_and (thn (ha pins s σ H Q I h) λc s1 e=>?_)
 cases c with
 | true=>exact isTrue_and_nil e
 | false=>exact e
theorem u6(ha:PT X a tA):PW X (.BoolOp .Or [a] pos) tA:=by
 intro wh pins s σ H Q I h;refine isTrue_or (thn (ha pins s σ H Q I h) λc s1 e=>?_)
 cases c with
 | false=>exact isTrue_or_nil e
 | true=>exact e
theorem Im(ha:PT X a tA)(hb:PW X (.BoolOp .And (b::rest) pos) tB'):PW X (.BoolOp .And (a::b::rest) pos) (zj tA tB'):=by
 intro wh pins s σ H Q I h;refine isTrue_and (thn (ha pins s σ H _ I h) λc s1 ⟨H1,I1,q1⟩=>?_)
 cases c with
 | true=>exact hb wh pins s1 σ H1 Q I1 q1
 | false=>exact⟨H1,I1,q1⟩
theorem G4(ha:PT X a tA)(hb:PW X (.BoolOp .Or (b::rest) pos) tB'):PW X (.BoolOp .Or (a::b::rest) pos) (tOr tA tB'):=by
 intro wh pins s σ H Q I h;refine isTrue_or (thn (ha pins s σ H _ I h) λc s1 ⟨H1,I1,q1⟩=>?_)
 cases c with
 | true=>exact⟨H1,I1,q1⟩
 | false=>exact hb wh pins s1 σ H1 Q I1 q1
theorem ya(ha:PT X a tA):PT X (.UnaryOp .Not a pos) (xW tA):=by
 intro pins s σ H Q I h;exact isTrue_not (ha pins s σ H (λc H1=>Q (!c) H1) I h)
noncomputable def IY(ta tb:TE):TE:=λσ H Q=>ta σ H λx H1=>∃c,x=.bl c/\if c=true then tb σ H1 Q else Q (.bl false) H1
noncomputable def D_(ta tb:TE):TE:=λσ H Q=>ta σ H λx H1=>∃c,x=.bl c/\if c=true then Q (.bl true) H1 else tb σ H1 Q
noncomputable def Jq(ta:TE):TE:=λσ H Q=>ta σ H λx H1=>∃c,x=.bl c/\Q (.bl (!c)) H1
theorem wm{op}{t:TE}(h:PE X a t):PE X (.BoolOp op [a] pos) t:=λpins s σ H Q I hw=>BoolOp_one (h pins s σ H Q I hw)
theorem Jb(ha:PE X a ta)(hb:PE X (.BoolOp .And (b::rest) pos) tb):PE X (.BoolOp .And (a::b::rest) pos) (IY ta tb):=by
 intro pins s σ H Q I h;refine BoolOp_and (thn (ha pins s σ H _ I h) λv s1 ⟨x,H1,I1,r1,q1⟩=>?_);obtain⟨c,rfl,q1⟩:=q1;cases r1;refine Xp ?_
 cases c with
 | true=>exact hb pins s1 σ H1 Q I1 q1
 | false=>exact⟨.bl false,H1,I1,rfl,q1⟩
theorem GW(ha:PE X a ta)(hb:PE X (.BoolOp .Or (b::rest) pos) tb):PE X (.BoolOp .Or (a::b::rest) pos) (D_ ta tb):=by
 intro pins s σ H Q I h;refine BoolOp_or (thn (ha pins s σ H _ I h) λv s1 ⟨x,H1,I1,r1,q1⟩=>?_);obtain⟨c,rfl,q1⟩:=q1;cases r1;refine Xp ?_
 cases c with
 | false=>exact hb pins s1 σ H1 Q I1 q1
 | true=>exact⟨.bl true,H1,I1,rfl,q1⟩
theorem EC(ha:PE X a ta):PE X (.UnaryOp .Not a pos) (Jq ta):=by
 intro pins s σ H Q I h;refine UnaryOp_ (thn (ha pins s σ H _ I h) λv s1 ⟨x,H1,I1,r1,q1⟩=>?_);obtain⟨c,rfl,q1⟩:=q1;cases r1;exact not_of (Xp ⟨.bl (!c),H1,I1,rfl,q1⟩)
noncomputable def tIf(t:TT)(ta tb:TE):TE:=λσ H Q=>t σ H λc H1=>if c=true then ta σ H1 Q else tb σ H1 Q
theorem A1{c:Expr}(hc:PT X c tA)(ha:PE X a ta)(hb:PE X b tb):PE X (.IfExp c a b pos) (tIf tA ta tb):=by
 intro pins s σ H Q I h;refine wpAny_IfExp (thn (hc pins s σ H _ I h) λd s1 ⟨H1,I1,q1⟩=>?_)
 cases d with
 | true=>exact ha pins s1 σ H1 Q I1 q1
 | false=>exact hb pins s1 σ H1 Q I1 q1
end
end L2
namespace L2
open PySem PySem.Spec PyProof.Rows
noncomputable def SqL(K:WV)(H:Hp)(a:Addr)(xs:W8):Prop :=
 Rd H a (.lst xs) \/
  ∃(o:Obj) (its:W5) (n:Nat),K.lookup a=some o/\o.cls=.type "list"/\o.dict=none/\o.data=.seq its n/\its.size<=sizeLine/\Vals xs its.toList
noncomputable def SqT(K:WV)(H:Hp)(a:Addr)(xs:W8):Prop :=
 Rd H a (.tup xs) \/
  ∃(o:Obj) (its:W5) (n:Nat),K.lookup a=some o/\o.cls=.type "tuple"/\o.data=.seq its n/\its.size<=sizeLine/\Vals xs its.toList
noncomputable def Hf:Value->Option V
 | .none=>some .non
 | .bool b=>some (.bl b)
 | .int i _=>some (.int i)
 | .str x _=>some (.str x)
 | .bytes b _=>some (.byt b)
 | .float b _=>some (.flt b)
 | .ref a=>some (.ref a)
 | .type n=>some (.ty n)
 | _=>none
theorem RelV.abs{x:V}{u:Value}(r:RelV x u):Hf u=some x:=by
 cases x with
 | non=>cases r; rfl
 | bl _=>cases r; rfl
 | int _=>obtain⟨t,rfl⟩:=r; rfl
 | str _=>obtain⟨t,rfl⟩:=r; rfl
 | byt _=>obtain⟨t,rfl⟩:=r; rfl
 | flt _=>obtain⟨t,rfl⟩:=r; rfl
 | ref _=>cases r; rfl
 | ty _=>cases r; rfl
theorem RelV.inj{x y:V}{u:Value}(r:RelV x u)(q:RelV y u):x=y:=Z1 (r.abs.symm.trans q.abs)
theorem Vals.inj:∀{xs ys:W8} {us:WW},Vals xs us->Vals ys us->xs=ys
 | _,_,_,.nil,.nil=>rfl
 | _,_,_,.cons r t,.cons r' t'=>by rw[r.inj r',Vals.inj t t']
section
variable{X:Cx}{pins:WT}{σ:St}{H:Hp}{s:WX}{a:Addr}{xs ys:W8}
theorem SqL.of{K:WV}(h:H a=some (.lst xs)):SqL K H a xs:=.inl (.inl h)
theorem SqT.of{K:WV}(h:H a=some (.tup xs)):SqT K H a xs:=.inl (.inl h)
theorem Inv.list(I:Inv X pins σ H s)(h:SqL X.K H a xs):∃its:List Value,Vals xs its/\PlainL s.heap a its.toArray/\xs.length<=sizeLine:=by
 rcases h with h|⟨o,its,n,hk,hc,hd,hs,hz,r⟩
 ·obtain⟨z,its,n,r,e⟩:=h.ok I.hok;exact⟨its,r,⟨_,n,e,rfl,rfl,rfl⟩,z⟩
 ·refine⟨its.toList,r,⟨o,n,I.kIn a o hk,hc,hd,by simpa using hs⟩,?_⟩;have e:=r.length;simp only[ZE] at e;omega
theorem Inv.tuple(I:Inv X pins σ H s)(h:SqT X.K H a xs):∃its:List Value,Vals xs its/\IsTup s.heap a its.toArray/\xs.length<=sizeLine:=by
 rcases h with h|⟨o,its,n,hk,hc,hs,hz,r⟩
 ·obtain⟨z,its,r,p⟩:=h.ok I.hok;exact⟨its,r,p,z⟩
 ·refine⟨its.toList,r,⟨o,I.kIn a o hk,hc,n,by simpa using hs⟩,?_⟩;have e:=r.length;simp only[ZE] at e;omega
theorem Inv.kr(I:Inv X pins σ H s)(h:SqL X.K H a xs)(h':SqL X.K H a ys):xs=ys:=by
 obtain⟨its,r,⟨o,n,e,_,_,d⟩,_⟩:=I.list h;obtain⟨its',r',⟨o',n',e',_,_,d'⟩,_⟩:=I.list h';rw[e] at e'; cases e';rw[d] at d';injection d' with d1 _;have:its=its':=by simpa using Xs Array.toList d1
 subst this;exact r.inj r'
theorem Inv.lz(I:Inv X pins σ H s)(h:SqT X.K H a xs)(h':SqT X.K H a ys):xs=ys:=by
 obtain⟨its,r,⟨o,e,_,n,d⟩,_⟩:=I.tuple h;obtain⟨its',r',⟨o',e',_,n',d'⟩,_⟩:=I.tuple h';rw[e] at e'; cases e';rw[d] at d';injection d' with d1 _;have:its=its':=by simpa using Xs Array.toList d1
 subst this;exact r.inj r'
end
abbrev Cx.dN(X:Cx)(E:WS):Cx:={ X with xe:=E }
abbrev Cx.nox(X:Cx):Cx:=X.dN λ_ _=>False
theorem Cx.Ok.dN{X:Cx}(ok:X.Ok)(E:WS):(X.dN E).Ok :=
 ⟨ok.mod,ok.kind,ok.glob,ok.blt,ok.above,ok.inj,ok.has,ok.cab,ok.hd,ok.frames,ok.stk,ok.exf,ok.bs,ok.bsz,ok.noex,ok.exfs,ok.c7,ok.frf⟩
theorem Cx.Ok.eV{X:Cx}{E:WS}(ok:(X.dN E).Ok):X.Ok :=
 ⟨ok.mod,ok.kind,ok.glob,ok.blt,ok.above,ok.inj,ok.has,ok.cab,ok.hd,ok.frames,ok.stk,ok.exf,ok.bs,ok.bsz,ok.noex,ok.exfs,ok.c7,ok.frf⟩
section
variable{X:Cx}{pins:WT}{σ:St}{H:Hp}{s:WX}{E:WS}
theorem Inv.dN(I:Inv X pins σ H s)(E:WS):Inv (X.dN E) pins σ H s:=⟨I.ok.dN E,I.os,I.bare,I.base,I.loc,I.cell,I.free,I.freeC,I.pin,I.hok,I.len⟩
theorem Inv.eV(I:Inv (X.dN E) pins σ H s):Inv X pins σ H s:=⟨I.ok.eV,I.os,I.bare,I.base,I.loc,I.cell,I.free,I.freeC,I.pin,I.hok,I.len⟩
theorem SP.eV{D:Ends}{f:Flow}{s':WX}(h:SP (X.dN E) pins D f s'):SP X pins D f s':=by
 cases f with
 | next=>obtain⟨σ',H',I,q⟩:=h; exact⟨σ',H',I.eV,q⟩
 | brk=>obtain⟨σ',H',I,q⟩:=h; exact⟨σ',H',I.eV,q⟩
 | cont=>obtain⟨σ',H',I,q⟩:=h; exact⟨σ',H',I.eV,q⟩
 | ret u=>obtain⟨v,σ',H',I,r,q⟩:=h; exact⟨v,σ',H',I.eV,r,q⟩
end
section
variable{X:Cx}{st:Stmt}{rest:List Stmt}{t u:TS}{e:Expr}{te:TE}{pos:Pos}
noncomputable def nJ:TS:=λD σ H=>D.nx σ H
noncomputable def CW(t u:TS):TS:=λD σ H=>t { D with nx:=u D } σ H
theorem H_:PSs X [] nJ:=λ_ _ σ H _ I h=>Wo ⟨σ,H,I,h⟩
theorem D4(h1:PS X st t)(h2:PSs X rest u):PSs X (st::rest) (CW t u):=by
 intro pins s σ H D I h;refine wpAny_execs_cons (thn (h1 pins s σ H { D with nx:=u D } I h) λf s1 q=>?_)
 cases f with
 | next =>
  obtain⟨σ',H',I',q⟩:=q;exact h2 pins s1 σ' H' D I' q
 | ret v=>exact q
 | brk=>exact q
 | cont=>exact q
theorem IU(h1:PS X st t):PSs X [st] t:=by
 intro pins s σ H D I h;refine wpAny_execs_cons (thn (h1 pins s σ H D I h) λf s1 q=>?_)
 cases f with
 | next=>exact Wo q
 | ret v=>exact q
 | brk=>exact q
 | cont=>exact q
theorem Gk:PS X (.Pass pos) nJ:=λ_ _ σ H _ I h=>wpAny_Pass ⟨σ,H,I,h⟩
theorem Inv.quiet{pins:WT}{σ:St}{H:Hp}{s:WX}(I:Inv X pins σ H s):interactive X.env=false:=by simp[interactive,I.ok.kind]
theorem G6{x j pos pos'}:PS X (.Expr (.Constant (.str x) j pos) pos') nJ:=λ_ s σ H _ I h=>wpAny_Expr (Calls.Constant_str (show SP X _ _ .next { s with toks:=s.toks+1 } from⟨σ,H,I.tok _,h⟩)) I.quiet
noncomputable def E3(te:TE):TS:=λD σ H=>te σ H λ_ H1=>D.nx σ H1
theorem Fe(he:PE X e te)(hs:swapsWith e none pos.line X.env=pure false:=by rfl):PS X (.Expr e pos) (E3 te):=by
 intro pins s σ H D I h;exact wpAny_Expr_any (thn (he pins s σ H _ I h) λv s1 ⟨x,H1,I1,r1,q1⟩=>⟨σ,H1,I1,q1⟩) I.quiet hs
noncomputable def Du(te:TE):TS:=λD σ H=>te σ H D.rt
theorem BP(he:PE X e te):PS X (.Return (some e) pos) (Du te):=by
 intro pins s σ H D I h;exact wpAny_Return_some (thn (he pins s σ H _ I h) λv s1 ⟨x,H1,I1,r1,q1⟩=>⟨x,σ,H1,I1,r1,q1⟩)
noncomputable def GG:TS:=λD _ H=>D.rt .non H
theorem Hz:PS X (.Return none pos) GG:=λ_ _ σ H _ I h=>wpAny_Return_none ⟨.non,σ,H,I,rfl,h⟩
noncomputable def Gj(c:TT)(t u:TS):TS:=λD σ H=>c σ H λb H1=>if b=true then t D σ H1 else u D σ H1
theorem F3{c:Expr}{a b:List Stmt}{tc:TT}(hc:PT X c tc)(ha:PSs X a t)(hb:PSs X b u):PS X (.If c a b pos) (Gj tc t u):=by
 intro pins s σ H D I h;refine wpAny_If (thn (hc pins s σ H _ I h) λd s1 ⟨H1,I1,q1⟩=>?_)
 cases d with
 | true=>exact ha pins s1 σ H1 D I1 q1
 | false=>exact hb pins s1 σ H1 D I1 q1
end
abbrev TG:=V->St->Hp->(St->Hp->Prop)->Prop
abbrev TGs:=List V->St->Hp->(St->Hp->Prop)->Prop
noncomputable def PG(X:Cx)(target:Expr)(t:TG):Prop :=
 ∀(pins:WT) (s:WX) (σ:St) (H:Hp) (v:V) (u:Value) (Q:St->Hp->Prop),Inv X pins σ H s->RelV v u->t v σ H Q ->
  wpAny (model X.prog X.w) X.A (assign target X.env u) (λ_ s'=>∃σ' H',Inv X pins σ' H' s'/\Q σ' H') X.xe s
noncomputable def PGs(X:Cx)(ts:W7)(t:TGs):Prop :=
 ∀(pins:WT) (s:WX) (σ:St) (H:Hp) (vs:W8) (us:WW) (Q:St->Hp->Prop),Inv X pins σ H s->Vals vs us->t vs σ H Q ->
  wpAny (model X.prog X.w) X.A (assignInOrder ((assignEach ts X.env).map (·.2)) us) (λ_ s'=>∃σ' H',Inv X pins σ' H' s'/\Q σ' H') X.xe s
section
variable{X:Cx}{pos:Pos}
noncomputable def i9(i:Nat):TG:=λv σ H Q=>Q (σ.set i (some v)) H
theorem w6{i:Nat}{x:Str}(hN:X.N.Nodup)(hi:X.N[i]?=some x)(hx:Loc X.env.scope x)(hf:X.fn x=true\/X.env.scope.names.lookup x=some .local:=by first|exact .inl rfl|exact .inr rfl|assumption):PG X (.Name x pos) (i9 i):=by
 intro pins s σ H v u Q I r h;exact wpAny_assign_Name (Ay I hN hi hx r (λs' I'=>⟨_,H,I',h⟩) hf)
noncomputable def u5:TGs:=λvs σ H Q=>vs=[]/\Q σ H
noncomputable def vJ(t:TG)(u:TGs):TGs:=λvs σ H Q=>∃v r,vs=v::r/\t v σ H λσ' H'=>u r σ' H' Q
theorem BI:PGs X [] u5:=by
 intro pins s σ H vs us Q I r h;obtain⟨e,h⟩:=h;subst e;cases r;exact assignInOrder_nil ⟨σ,H,I,h⟩
theorem yx{e:Expr}{es:W7}{t:TG}{u:TGs}(h1:PG X e t)(h2:PGs X es u)
  (hs:(assignEach (e::es) X.env).map (·.2)=assign e X.env::(assignEach es X.env).map (·.2):=by rfl):PGs X (e::es) (vJ t u):=by
 intro pins s σ H vs us Q I r h;obtain⟨v,vr,e1,h⟩:=h;subst e1
 cases r with
 | cons r rr =>
  rw[hs];refine assignInOrder_cons (thn (h1 pins s σ H _ _ _ I r h) λ_ s1 ⟨σ1,H1,I1,q1⟩=>?_);exact h2 pins s1 σ1 H1 _ _ Q I1 rr q1
noncomputable def Ex(K:WV)(n:Nat)(t:TGs):TG:=λv σ H Q=>∃a xs,v=.ref a/\SqT K H a xs/\xs.length=n/\t xs σ H Q
theorem Fq{es:W7}{k:Nat}{t:TGs}{n:Nat}(hc:X.calm=true)(h:PGs X es t)
  (hn:(assignEach es X.env).length=n:=by rfl) (hst:(assignEach es X.env).findIdx? (·.1)=none:=by rfl):PG X (.Tuple es k pos) (Ex X.K n t):=by
 intro pins s σ H v u Q I r hw;obtain⟨a,xs,e1,hq,hl,hw⟩:=hw;subst e1;cases r;obtain⟨its,rv,ht,hz⟩:=I.tuple hq;refine assign_Tuple_tuple (I.ok.hd hc) ht (by simp[hn,<- hl,rv.length]) hst λh' hx=>?_
 have I1:Inv X pins σ H { s with heap:=h' }:=I.kept (t':=s.toks) λb o e=>hx b o (ZF (Zp e)) e
 exact h pins _ σ H xs _ Q I1 (by simpa using rv) hw
noncomputable def lK(te:TE)(g:TG):TS:=λD σ H=>te σ H λx H1=>g x σ H1 D.nx
theorem yi{tg e:Expr}{te:TE}{g:TG}(he:PE X e te)(hg:PG X tg g)(hs:swapsWithSole [tg] e pos.line X.env=pure false:=by rfl)(hw:swappedStores [tg] e X.env=pure none:=by rfl)
  (h1:(assignEach [tg] X.env).map (·.2)=[assign tg X.env]:=by rfl):PS X (.Assign [tg] e pos) (lK te g):=by
 intro pins s σ H D I h;refine wpAny_Assign_stores (thn (he pins s σ H _ I h) λv s1 ⟨x,H1,I1,r1,q1⟩=>?_) hs hw;rw[h1];exact thn (hg pins s1 σ H1 x v _ I1 r1 q1) λ_ s2 q=>q
end
section
variable{X:Cx}{pos:Pos}
noncomputable def pQ(c:TT)(tb:TS):TS:=λD σ H=>∃W:Nat->St->Hp->Prop,(∃m,W m σ H)/\∀m σ H,W m σ H ->
 c σ H λb H1=>if b=true then ∃N:St->Hp->Prop,(∀σ' H',N σ' H'->∃m',m'<m/\W m' σ' H')/\tb { D with nx:=N,ct:=N,bk:=D.nx } σ H1 else D.nx σ H1
theorem yW{c:Expr}{body:List Stmt}{tc:TT}{tb:TS}(hp:PassesOwn (model X.prog X.w) X.A X.env X.xe)(hc:PT X c tc)(hb:PSs X body tb):PS X (.While c body [] pos) (pQ tc tb):=by
 intro pins s σ H D I h;obtain⟨W,⟨m0,w0⟩,turn⟩:=h;refine wpAny_While (codeAny_whileLoop (λn s'=>∃σ' H',Inv X pins σ' H' s'/\W n σ' H') ?_ m0 ⟨σ,H,I,w0⟩);rintro n s1 ⟨σ1,H1,I1,w1⟩;refine Qn hp (thn (hc pins s1 σ1 H1 _ I1 (turn n σ1 H1 w1)) λb s2 ⟨H2,I2,q2⟩=>?_)
 cases b with
 | true =>
  obtain⟨N,hN,q2⟩:=q2;rw[Zf rfl];refine Qn hp (thn (hb pins s2 σ1 H2 _ I2 q2) λf s3 q3=>?_)
  cases f with
  | next =>
   obtain⟨σ3,H3,I3,n3⟩:=q3;obtain⟨m',hm,w3⟩:=hN σ3 H3 n3;exact⟨m',hm,σ3,H3,I3,w3⟩
  | cont =>
   obtain⟨σ3,H3,I3,n3⟩:=q3;obtain⟨m',hm,w3⟩:=hN σ3 H3 n3;exact⟨m',hm,σ3,H3,I3,w3⟩
  | brk=>exact q3
  | ret v=>exact q3
 | false =>
  rw[Zh Zz];exact Wo ⟨σ1,H2,I2,q2⟩
end
structure It where
 go:Nat->Hp->Prop
 yld:Nat->Hp->V->Hp->Prop
 stop:Nat->Hp->Prop
noncomputable def cW(X:Cx)(pins:WT)(H:Hp)(b:Addr):Prop :=
 H b=none/\b≠X.env.locals/\b∉X.fs/\(b∈X.ex\/X.s₀.heap.objs.size<=b)/\(∀x c,X.env.cells.lookup x=some c->c≠b)/\∀p∈X.pn++pins,p.1≠b
theorem Inv.ic{X:Cx}{pins:WT}{σ:St}{H H':Hp}{s:WX}{b:Addr}(I:Inv X pins σ H s)(hb:s.heap.objs.size<=b)(hn:H' b=none):cW X pins H' b:=by
 refine⟨hn,X1 (ZN I.lt hb),I.Ci hb,.inr (Z2 I.sz hb),λx c e z=>?_,λp hp z=>?_⟩
 ·obtain⟨v,q⟩:=I.cell x c e;exact absurd (ZN q.lt (by rw[z]; exact hb)) (XI _)
 ·exact absurd (ZN (Zp (I.pin p hp).1) (by rw[z]; exact hb)) (XI _)
structure Turn(P:WZ)(w:W2)(K:WV)(tg:Expr)(J:It)(fp:W0)(it:Addr)(tn:Nat->Heap->Prop):Prop where
 mem:it∈fp
 obj:∀i h,tn i h->∀b∈fp,∃o,h.get? b=some o/\∀v,o.data≠.cell v
 keep:∀i h h',tn i h->(∀b∈fp,∀o,h.get? b=some o->h'.get? b=some o)->tn i h'
 item:∀(X:Cx),X.prog=P->X.w=w->X.K=K->X.calm=true->∀(i:Nat) (pins:WT) (s:WX) (σ:St) (H:Hp) (E:WS),Inv X pins σ H s->(∀b∈fp,cW X pins H b)->tn i s.heap->J.go i H ->
  wpAny (model P w) X.A (pyNext (.ref it)) (λr s1=>∃u,r=some u /\
   wpAny (model P w) X.A (letOwnedTupleGo tg (.ref it) u) (λ_ s2=>∃x H',Inv X pins σ H' s2/\RelV x u/\J.yld i H x H'/\tn (i+1) s2.heap/\∀b∈fp,H' b=none) E s1) E s
 done:∀(X:Cx),X.prog=P->X.w=w->X.K=K->X.calm=true->∀(i:Nat) (pins:WT) (s:WX) (σ:St) (H:Hp) (E:WS),Inv X pins σ H s->(∀b∈fp,cW X pins H b)->tn i s.heap->J.stop i H ->
  wpAny (model P w) X.A (pyNext (.ref it)) (λr s1=>r=none/\Inv X pins σ H s1) E s
 self:∀(A:Around) (i:Nat) (s:WX) (Q:WS) (E:WS),tn i s.heap->Q (.ref it) s->wpAny (model P w) A (pyIter (.ref it)) Q E s
abbrev TI:=St->Hp->(It->Hp->Prop)->Prop
noncomputable def PIE(X:Cx)(pins:WT)(σ:St)(tg:Expr)(R:It->Hp->Prop)(itv:Value)(s2:WX):Prop :=
 ∃(it:Addr) (fp:W0) (tn:Nat->Heap->Prop) (J:It) (H':Hp),itv=.ref it/\Inv X pins σ H' s2/\Turn X.prog X.w X.K tg J fp it tn/\tn 0 s2.heap/\(∀b∈fp,cW X pins H' b)/\R J H'
noncomputable def PI(X:Cx)(tg iter:Expr)(wi:TI):Prop :=
 ∀(pins:WT) (s:WX) (σ:St) (H:Hp) (R:It->Hp->Prop),Inv X pins σ H s->wi σ H R ->
  wpAny (model X.prog X.w) X.A (eval iter X.env) (λv s1=>wpAny (model X.prog X.w) X.A (pyIter v) (PIE X pins σ tg R) X.xe s1) X.xe s
theorem k6{M:Model}{A:Around}{E:WS}{s:WX}{tg:Expr}{it:Addr}{u:Value}{o:Obj}{n:String}{vs:W5}{Q:Unit->Shared->Prop}(ho:s.heap.get? it=some o)(hc:o.cls=.type n)(hd:o.data=.fields vs)
  (hn:["enumerate","zip","dict_itemiterator","dict_reverseitemiterator","odict_iterator","itertools.zip_longest","itertools.pairwise"].contains n=false) (hQ:Q () s):wpAny M A (letOwnedTupleGo tg (.ref it) u) Q E s:=by
 unfold letOwnedTupleGo
 cases tg<;>first
  | exact Zc hQ
  | (cases u<;>first
    | exact Zc hQ
    | (
      refine Za (wpAny_load ho ?_);rw[hc,hd];show wpAny M A (if(["enumerate","zip","dict_itemiterator","dict_reverseitemiterator","odict_iterator","itertools.zip_longest","itertools.pairwise"].contains n&&vs[0]?==some (rawInt _))=true then _ else _) Q E s;rw[Zh (by intro h; rw[hn,XY] at h; cases h)];exact Zc hQ))
noncomputable def Itl(K:WV)(a:Addr):It :=
 ⟨λi H=>∃xs x,SqL K H a xs/\xs[i]?=some x,λi H x H'=>H'=H/\∀xs,SqL K H a xs->xs[i]?=some x,λi H=>∃xs,SqL K H a xs/\xs.length<=i⟩
noncomputable def Itt(K:WV)(a:Addr):It :=
 ⟨λi H=>∃xs x,SqT K H a xs/\xs[i]?=some x,λi H x H'=>H'=H/\∀xs,SqT K H a xs->xs[i]?=some x,λi H=>∃xs,SqT K H a xs/\xs.length<=i⟩
noncomputable def Itr(lo:Int)(n:Nat):It:=⟨λi _=>i<n,λi H x H'=>H'=H/\x=.int (lo+i),λi _=>n<=i⟩
theorem Es{P:WZ}{w:W2}{K:WV}{tg:Expr}(a it:Addr):Turn P w K tg (Itl K a) [it] it (λi h=>h.IsListIter it a i) where
 mem:=by simp
 obj:=λi h st b hb=>by
  have e:b=it:=by simpa using hb
  subst e;obtain⟨o,e,c,d⟩:=st;exact⟨o,e,λv z=>by rw[d] at z; cases z⟩
 keep:=λi h h' st k=>st.at λo e=>k it (by simp) o e
 item:=by
  intro X hP hw hK hc i pins s σ H E I hf st hg;subst hP hw hK;obtain⟨xs,x,hq,hx⟩:=hg;obtain⟨its,rv,p,hz⟩:=I.list hq;obtain⟨u,hu,ru⟩:=rv.get hx;obtain⟨f0,f1,f2,f3,f4,f5⟩:=hf it (by simp);refine wpAny_pyNext_list_item st p.isList (x:=u) (by simpa using hu) λh' st' sb=>?_
  have I1:Inv X pins σ H { s with heap:=h' }:=I.turned (t':=s.toks) (λb o hb e=>(sb.2 b hb).trans e) f0 f1 f3 f4 f5;obtain⟨o,e,c,d⟩:=id st';exact⟨u,rfl,k6 (s:={ s with heap:=h' }) e c d (by decide) ⟨x,H,I1,ru,⟨rfl,λys hy=>by rw[I.kr hy hq]; exact hx⟩,st',λb hb=>(hf b hb).1⟩⟩
 done:=by
  intro X hP hw hK hc i pins s σ H E I hf st hg;subst hP hw hK;obtain⟨xs,hq,hx⟩:=hg;obtain⟨its,rv,p,hz⟩:=I.list hq;obtain⟨f0,f1,f2,f3,f4,f5⟩:=hf it (by simp);have hl:=rv.length;exact wpAny_pyNext_list_end (I.ok.hd hc) st p.isList (by simp; omega) λh' eb=>⟨rfl,I.turned (t':=s.toks) (λb o hb e=>eb b o hb e) f0 f1 f3 f4 f5⟩
 self:=λ_ _ _ _ _ st h=>wpAny_pyIter_listiter st h
theorem Il{P:WZ}{w:W2}{K:WV}{tg:Expr}(a it:Addr):Turn P w K tg (Itt K a) [it] it (λi h=>h.IsTupleIter it a i) where
 mem:=by simp
 obj:=λi h st b hb=>by
  have e:b=it:=by simpa using hb
  subst e;obtain⟨o,e,c,d⟩:=st;exact⟨o,e,λv z=>by rw[d] at z; cases z⟩
 keep:=λi h h' st k=>st.at λo e=>k it (by simp) o e
 item:=by
  intro X hP hw hK hc i pins s σ H E I hf st hg;subst hP hw hK;obtain⟨xs,x,hq,hx⟩:=hg;obtain⟨its,rv,p,hz⟩:=I.tuple hq;obtain⟨u,hu,ru⟩:=rv.get hx;obtain⟨f0,f1,f2,f3,f4,f5⟩:=hf it (by simp);refine wpAny_pyNext_tuple_item st (show s.heap.IsTuple a its.toArray from p) (x:=u) (by simpa using hu) λh' st' sb=>?_
  have I1:Inv X pins σ H { s with heap:=h' }:=I.turned (t':=s.toks) (λb o hb e=>(sb.2 b hb).trans e) f0 f1 f3 f4 f5;obtain⟨o,e,c,d⟩:=id st';exact⟨u,rfl,k6 (s:={ s with heap:=h' }) e c d (by decide) ⟨x,H,I1,ru,⟨rfl,λys hy=>by rw[I.lz hy hq]; exact hx⟩,st',λb hb=>(hf b hb).1⟩⟩
 done:=by
  intro X hP hw hK hc i pins s σ H E I hf st hg;subst hP hw hK;obtain⟨xs,hq,hx⟩:=hg;obtain⟨its,rv,p,hz⟩:=I.tuple hq;obtain⟨f0,f1,f2,f3,f4,f5⟩:=hf it (by simp);have hl:=rv.length;exact wpAny_pyNext_tuple_end (I.ok.hd hc) st (show s.heap.IsTuple a its.toArray from p) (by simp; omega) λh' eb=>⟨rfl,I.turned (t':=s.toks) (λb o hb e=>eb b o hb e) f0 f1 f3 f4 f5⟩
 self:=λ_ _ _ _ _ st h=>wpAny_pyIter_tupleiter st h
theorem EE{P:WZ}{w:W2}{K:WV}{tg:Expr}(it:Addr)(lo:Int)(n:Nat):Turn P w K tg (Itr lo n) [it] it (λi h=>IsRangeIter h it (lo+(i:Nat)*1) ((n:Int)-(i:Nat)) 1) where
 mem:=by simp
 obj:=λi h st b hb=>by
  have e:b=it:=by simpa using hb
  subst e
  exact⟨_,st,λv z=>by
   have z':Data.fields _=Data.cell v:=z;cases z'⟩
 keep:=λi h h' st k=>k it (by simp) _ st
 item:=by
  intro X hP hw hK hc i pins s σ H E I hf st hg;subst hP hw hK;obtain⟨f0,f1,f2,f3,f4,f5⟩:=hf it (by simp);have W:=Walks.range (prog:=X.prog) (w:=X.w) (I.ok.hd hc) it lo 1 n;refine W.item i s _ _ hg st λv h' tk hv st' kk=>?_
  obtain⟨t,rfl⟩:=hv;have I1:Inv X pins σ H { s with heap:=h',toks:=tk }:=I.turned (λb o hb e=>kk b o (by simpa using hb) e) f0 f1 f3 f4 f5;refine⟨_,rfl,k6 (s:={ s with heap:=h',toks:=tk }) (n:="range_iterator") st' rfl rfl (by decide) ⟨.int (lo+i),H,I1,⟨t,?_⟩,⟨rfl,rfl⟩,st',λb hb=>(hf b hb).1⟩⟩;rw[Int.mul_one]
 done:=by
  intro X hP hw hK hc i pins s σ H E I hf st hg;subst hP hw hK;obtain⟨f0,f1,f2,f3,f4,f5⟩:=hf it (by simp);exact wpAny_pyNext_range_end (I.ok.hd hc) st (by have:n<=i:=hg; omega) λh' eb=>⟨rfl,I.turned (t':=s.toks) (λb o hb e=>eb b o hb e) f0 f1 f3 f4 f5⟩
 self:=λ_ _ _ _ _ st h=>wpAny_pyIter_rangeiter st h
end L2
namespace L2
open PySem PySem.Spec PyProof.Rows
section
variable{X:Cx}{tg:Expr}
theorem zM{pins:WT}{σ:St}{H:Hp}{s:WX}{R:It->Hp->Prop}{E:WS}{lo hi:Int}{t u v:Tok}{tk:Nat}(I:Inv X pins σ H s)(h1:-(2^62)<=lo)(h2:lo<2^62)(h3:-(2^62)<=hi)(h4:hi<2^62)
  (q:R (Itr lo (hi-lo).toNat) H):wpAny (model X.prog X.w) X.A (pyIter (.ref s.heap.objs.size)) (PIE X pins σ tg R) E { s with heap:=s.heap.push { cls:=.type "range",data:=.fields #[.int lo t,.int hi u,.int 1 v] },toks:=tk }:=by
 refine wpAny_pyIter_range (IsRange.new ..) (small_one h1 h2 h3 h4) ?_;have I1:Inv X pins σ H { s with heap:=s.heap.push { cls:=.type "range",data:=.fields #[.int lo t,.int hi u,.int 1 v] },toks:=tk }:=I.kept λb o e=>Zg _ e
 refine⟨(s.heap.push { cls:=.type "range",data:=.fields #[.int lo t,.int hi u,.int 1 v] }).objs.size,[(s.heap.push { cls:=.type "range",data:=.fields #[.int lo t,.int hi u,.int 1 v] }).objs.size],_,_,H,rfl,
  I1.kept (t':=tk) λb o e=>Zg _ e,EE _ lo (hi-lo).toNat,?_,λb hb=>?_,q⟩
 ·have e1:lo+((0:Nat):Int)*1=lo:=by simp
  have e2:(((hi-lo).toNat:Nat):Int)-((0:Nat):Int)=Builtin.Range.rangeSize lo hi 1:=by rw[rangeSize_one]; split<;>omega
  show IsRangeIter _ _ (lo+((0:Nat):Int)*1) ((((hi-lo).toNat:Nat):Int)-((0:Nat):Int)) 1;rw[e1,e2];exact Zw _ rfl
 ·have e:b=(s.heap.push { cls:=.type "range",data:=.fields #[.int lo t,.int hi u,.int 1 v] }).objs.size:=by simpa using hb
  subst e;exact I1.ic (Zm _) (I1.hok.fresh (Zm _))
noncomputable def AZ(ta:TA):TI:=λσ H R=>ta σ H λvs H1=>∃j:Int,vs=[.int j]/\-(2^62)<=j/\j<2^62/\R (Itr 0 j.toNat) H1
theorem Jx{a:Expr}{ta:TA}{p pos:Pos}(hg:Gl X "range")(hm:X.mg "range" = none)(ha:PA X [a] ta)(hs:starEach [a] X.env=[(false,eval a X.env)]:=by rfl):PI X tg (.Call (.Name "range" p) [a] [] pos) (AZ ta):=by
 intro pins s σ H R I h;refine Call_ (cY I hg hm boot_range (Xm (thn (ha pos pins s σ H _ I h) λus s1 ⟨vs,H1,I1,r1,q1⟩=>?_) hs rfl));obtain⟨j,e,q1,q2,q⟩:=q1;subst e
 cases r1 with
 | cons r rr =>
  cases rr;obtain⟨t,rfl⟩:=r;exact call_range_1 (zM I1 (by omega) (by omega) q1 q2 (by simpa using q))
noncomputable def wc(wi:TI)(g:TG)(tb:TS):TS:=λD σ H=>wi σ H λJ H1=>∃W:Nat->Nat->St->Hp->Prop,(∃m,W 0 m σ H1)/\∀i m σ H,W i m σ H ->
 (J.stop i H/\D.nx σ H)\/(J.go i H/\∃N:St->Hp->Prop,(∀σ' H',N σ' H'->∃m',m'<m/\W (i+1) m' σ' H')/\∀x H',J.yld i H x H'->g x σ H' λσ2 H2=>tb { D with nx:=N,ct:=N,bk:=D.nx } σ2 H2)
noncomputable def iA(fp:W0)(h:Heap):List (Addr×Obj):=fp.filterMap λb=>(h.get? b).map λo=>(b,o)
theorem kO{fp:W0}{h:Heap}{b:Addr}{o:Obj}(hb:b∈fp)(e:h.get? b=some o):(b,o)∈iA fp h:=QY.mpr ⟨b,hb,by rw[e]; rfl⟩
theorem D0{fp:W0}{h:Heap}{p:Addr×Obj}(hp:p∈iA fp h):p.1∈fp/\h.get? p.1=some p.2:=by
 obtain⟨b,hb,e⟩:=QY.mp hp
 cases q:h.get? b with
 | none=>rw[q] at e; cases e
 | some o =>
  rw[q] at e;have e':(b,o)=p:=Z1 e;subst e';exact⟨hb,q⟩
theorem Inv.pinned{pins:WT}{σ:St}{H:Hp}{s:WX}{fp:W0}(I:Inv X pins σ H s)(hf:∀b∈fp,cW X pins H b)(ho:∀b∈fp,∃o,s.heap.get? b=some o/\∀v,o.data≠.cell v):Inv X (pins++iA fp s.heap) σ H s :=
 I.p7 λp hp=>(ZB.mp hp).elim (λz=>I.pin p (ZZ _ z)) λz=>by
  obtain⟨hb,e⟩:=D0 z;obtain⟨f0,f1,f2,_⟩:=hf p.1 hb;obtain⟨o,e',d⟩:=ho p.1 hb;rw[e] at e'; cases e';exact⟨e,f0,f1,f2,d⟩
theorem Inv.k_{pins pl:WT}{σ:St}{H:Hp}{s:WX}(I:Inv X (pins++pl) σ H s):Inv X pins σ H s:=I.p7 λp hp=>I.pin p (ZZ _ (Xa _ hp))
theorem ID{iter:Expr}{body:List Stmt}{wi:TI}{g:TG}{tb:TS}{pos:Pos}(hp:PassesOwn (model X.prog X.w) X.A X.env X.xe)(hc:X.calm=true)(hi:PI X tg iter wi)(hg:PG X tg g)(hb:PSs X body tb)
  (hs:∀x,foldedSetIterable iter X.env x=pure x:=by intro _; rfl):PS X (.For tg iter body [] pos) (wc wi g tb):=by
 intro pins s σ H D I h;refine wpAny_For (thn (hi pins s σ H _ I h) λv s1 h1=>thn h1 λitv s2 h2=>?_) hs;obtain⟨it,fp,tn,J,H2,e,I2,T,st2,f2,W,⟨m0,w0⟩,turn⟩:=h2;subst e;have stat:∀{H':Hp},(∀b∈fp,H' b=none)->∀b∈fp,cW X pins H' b:=λhn b hb=>⟨hn b hb,(f2 b hb).2⟩
 refine codeAny_forLoop_any (λn s'=>∃i σ' H',Inv X pins σ' H' s'/\tn i s'.heap/\(∀b∈fp,H' b=none)/\W i n σ' H') ?_ m0 ⟨0,σ,H2,I2,st2,λb hb=>(f2 b hb).1,w0⟩;rintro n s3 ⟨i,σ3,H3,I3,st3,fr3,w3⟩;rcases turn i n σ3 H3 w3 with⟨stop,qn⟩|⟨go,N,hN,step⟩
 ·refine Qn hp (thn (T.done X rfl rfl rfl hc i pins s3 σ3 H3 X.xe I3 (stat fr3) st3 stop) λr s4 ⟨hr,I4⟩=>?_);subst hr;exact Wo ⟨σ3,H3,I4,qn⟩
 ·refine Qn hp (thn (T.item X rfl rfl rfl hc i pins s3 σ3 H3 X.xe I3 (stat fr3) st3 go) λr s4 ⟨u,hr,h4⟩=>?_);subst hr;refine Qn hp (thn h4 λ_ s5 ⟨x,H5,I5,r5,y5,st5,fr5⟩=>?_);have I5':=I5.pinned (stat fr5) (T.obj _ _ st5);refine Qn hp (thn (hg _ s5 σ3 H5 x u _ I5' r5 (step x H5 y5)) λ_ s6 ⟨σ6,H6,I6,q6⟩=>?_);refine Qn hp (thn (hb _ s6 σ6 H6 _ I6 q6) λf s7 q7=>?_)
  have again:∀{σ7:St} {H7:Hp},Inv X (pins++iA fp s5.heap) σ7 H7 s7->N σ7 H7->∃m,m<n/\∃i σ' H',Inv X pins σ' H' s7/\tn i s7.heap/\(∀b∈fp,H' b=none)/\W i m σ' H':=λ{σ7 H7} I7 n7=>by
   obtain⟨m',hm,w7⟩:=hN σ7 H7 n7;refine⟨m',hm,i+1,σ7,H7,I7.k_,T.keep _ _ _ st5 λb hb o e=>(I7.pin (b,o) (ZZ _ (ZZ _ (kO hb e)))).1,λb hb=>?_,w7⟩;obtain⟨o,e,d⟩:=T.obj _ _ st5 b hb;exact(I7.pin (b,o) (ZZ _ (ZZ _ (kO hb e)))).2.1
  cases f with
  | next=>obtain⟨σ7,H7,I7,n7⟩:=q7; exact again I7 n7
  | cont=>obtain⟨σ7,H7,I7,n7⟩:=q7; exact again I7 n7
  | brk=>obtain⟨σ7,H7,I7,q7⟩:=q7; exact⟨σ7,H7,I7.k_,q7⟩
  | ret v=>obtain⟨x7,σ7,H7,I7,r7,q7⟩:=q7; exact⟨x7,σ7,H7,I7.k_,r7,q7⟩
end
end L2
namespace L2
open PySem PySem.Spec PyProof.Rows
abbrev R2:=V->V->Hp->VK->Prop
noncomputable def OpR(X:Cx)(f:Value->Value->Sem Value)(r:R2):Prop :=
 ∀(pins:WT) (s:WX) (σ:St) (H:Hp) (x y:V) (v u:Value) (Q:VK),Inv X pins σ H s->RelV x v->RelV y u->r x y H Q ->
  wpAny (model X.prog X.w) X.A (f v u) (EP X pins σ Q) X.xe s
noncomputable def UnR(X:Cx)(f:Value->Sem Value)(r:V->Hp->VK->Prop):Prop :=
 ∀(pins:WT) (s:WX) (σ:St) (H:Hp) (x:V) (v:Value) (Q:VK),Inv X pins σ H s->RelV x v->r x H Q ->
  wpAny (model X.prog X.w) X.A (f v) (EP X pins σ Q) X.xe s
noncomputable def cF(X:Cx)(f:Value)(r:List V->Hp->VK->Prop):Prop :=
 ∀(pins:WT) (s:WX) (σ:St) (H:Hp) (xs:W8) (us:WW) (Q:VK),Inv X pins σ H s->Vals xs us->r xs H Q ->
  wpAny (model X.prog X.w) X.A (call f us) (EP X pins σ Q) X.xe s
noncomputable def qP(X:Cx)(r:V->Hp->(Bool->Hp->Prop)->Prop):Prop :=
 ∀(pins:WT) (s:WX) (σ:St) (H:Hp) (x:V) (v:Value) (Q:Bool->Hp->Prop),Inv X pins σ H s->RelV x v->r x H Q ->
  wpAny (model X.prog X.w) X.A (truthy v) (TP X pins σ Q) X.xe s
noncomputable def tOp(r:R2)(ta tb:TE):TE:=λσ H Q=>ta σ H λx H1=>tb σ H1 λy H2=>r x y H2 Q
noncomputable def tUn(r:V->Hp->VK->Prop)(ta:TE):TE:=λσ H Q=>ta σ H λx H1=>r x H1 Q
noncomputable def rI(C:Int->Int->Prop)(g:Int->Int->V):R2:=λx y H Q=>∃i j,x=.int i/\y=.int j/\C i j/\Q (g i j) H
noncomputable def rI0(g:Int->Int->V):R2:=λx y H Q=>∃i j,x=.int i/\y=.int j/\Q (g i j) H
noncomputable def rU(g:Int->V):V->Hp->VK->Prop:=λx H Q=>∃i,x=.int i/\Q (g i) H
section
variable{X:Cx}{a b c:Expr}{ta tb tc:TE}{pos:Pos}
theorem pB(ha:PE X a ta)(hb:PE X b tb){pins:WT}{s:WX}{σ:St}{H:Hp}{R:V->V->Hp->Prop}(I:Inv X pins σ H s)
  (h:ta σ H λx H1=>tb σ H1 λy H2=>R x y H2) {Q:WS} {f:Value->Value->Sem Value}
  (hf:∀v u s2 x y H2,Inv X pins σ H2 s2->RelV x v->RelV y u->R x y H2->wpAny (model X.prog X.w) X.A (f v u) Q X.xe s2) :
  wpAny (model X.prog X.w) X.A (eval a X.env) (λv s₁=>wpAny (model X.prog X.w) X.A (eval b X.env) (λu s₂=>wpAny (model X.prog X.w) X.A (f v u) Q X.xe s₂) X.xe s₁) X.xe s:=by
 refine thn (ha pins s σ H _ I h) λv s1 ⟨x,H1,I1,r1,q1⟩=>?_
 refine thn (hb pins s1 σ H1 _ I1 q1) λu s2 ⟨y,H2,I2,r2,q2⟩=>?_
 exact hf v u s2 x y H2 I2 r1 r2 q2
theorem HP{op:Operator}{r:R2}(ho:OpR X (binaryOp op) r)(ha:PE X a ta)(hb:PE X b tb):PE X (.BinOp a op b pos) (tOp r ta tb):=by
 intro pins s σ H Q I h;exact wpAny_BinOp (pB ha hb I h λv u s2 x y H2 I2 rx ry q=>ho pins s2 σ H2 x y v u Q I2 rx ry q)
theorem y_{op:UnaryOp}{r:V->Hp->VK->Prop}(ho:UnR X (unaryOp op) r)(ha:PE X a ta):PE X (.UnaryOp op a pos) (tUn r ta):=by
 intro pins s σ H Q I h;exact UnaryOp_ (thn (ha pins s σ H _ I h) λv s1 ⟨x,H1,I1,r1,q1⟩=>ho pins s1 σ H1 x v Q I1 r1 q1)
theorem opI{f:Value->Value->Sem Value}{C:Int->Int->Prop}{g:Int->Int->Int}
  (rule:∀(i j:Int) (t u:Tok) (s:WX) (Q:WS) (E:WS),C i j->Q (.int (g i j) s.toks) { s with toks:=s.toks+1 }->wpAny (model X.prog X.w) X.A (f (.int i t) (.int j u)) Q E s) :
  OpR X f (rI C λi j=>.int (g i j)):=by
 intro pins s σ H x y v u Q I rx ry h;obtain⟨i,j,rfl,rfl,hc,q⟩:=h;obtain⟨t,rfl⟩:=rx;obtain⟨t',rfl⟩:=ry;exact rule i j t t' s _ _ hc ⟨.int (g i j),H,I.tok _,⟨_,rfl⟩,q⟩
theorem vg{f:Value->Value->Sem Value}{g:Int->Int->Int}
  (rule:∀(i j:Int) (t u:Tok) (s:WX) (Q:WS) (E:WS),Q (.int (g i j) s.toks) { s with toks:=s.toks+1 }->wpAny (model X.prog X.w) X.A (f (.int i t) (.int j u)) Q E s) :
  OpR X f (rI0 λi j=>.int (g i j)):=by
 intro pins s σ H x y v u Q I rx ry h;obtain⟨i,j,rfl,rfl,q⟩:=h;obtain⟨t,rfl⟩:=rx;obtain⟨t',rfl⟩:=ry;exact rule i j t t' s _ _ ⟨.int (g i j),H,I.tok _,⟨_,rfl⟩,q⟩
theorem j3{f:Value->Value->Sem Value}{g:Int->Int->Bool}
  (rule:∀(i j:Int) (t u:Tok) (s:WX) (Q:WS) (E:WS),Q (.bool (g i j)) s->wpAny (model X.prog X.w) X.A (f (.int i t) (.int j u)) Q E s) :
  OpR X f (rI0 λi j=>.bl (g i j)):=by
 intro pins s σ H x y v u Q I rx ry h;obtain⟨i,j,rfl,rfl,q⟩:=h;obtain⟨t,rfl⟩:=rx;obtain⟨t',rfl⟩:=ry;exact rule i j t t' s _ _ ⟨.bl (g i j),H,I,rfl,q⟩
def Ic(i j:Int):Prop:=0<j/\j<1073741824
def Ii(i j:Int):Prop:=0<=j/\j<=1000000/\i.natAbs<2^64
def mG(i j:Int):Prop:=(-(2^64)<i/\i<2^64)\/(-(2^64)<j/\j<2^64)
theorem mG.ok{i j:Int}(h:mG i j):IntMulOk i j:=by
 rcases h with⟨h1,h2⟩|⟨h1,h2⟩
 ·exact .of_left (intBits_le_64 h1 h2)
 ·exact .of_right (intBits_le_64 h1 h2)
theorem DE:OpR X (binaryOp .Add) (rI0 λi j=>.int (i+j)):=vg λ_ _ _ _ _ _ _ q=>add_int q
theorem DG:OpR X (binaryOp .Sub) (rI0 λi j=>.int (i-j)):=vg λ_ _ _ _ _ _ _ q=>sub_int q
theorem BJ:OpR X (binaryOp .Mult) (rI mG λi j=>.int (i*j)):=opI λ_ _ _ _ _ _ _ hc q=>mul_int q hc.ok
theorem JE:OpR X (binaryOp .FloorDiv) (rI Ic λi j=>.int (i/j)):=opI λi j _ _ _ _ _ hc q=>by
 have h1:(0:Int)<j:=hc.1;have h2:j<1073741824:=hc.2;exact floordiv_int (by omega) (by rw[Int.fdiv_eq_ediv_of_nonneg i (by omega)]; exact q) (.inl (PyProof.noPylong_small (by omega)))
theorem Cb:OpR X (binaryOp .Mod) (rI (λ_ j=>0<j) λi j=>.int (i%j)):=opI λi j _ _ _ _ _ hc q=>by
 have h1:(0:Int)<j:=hc;exact mod_int' (by omega) (by rw[Int.fmod_eq_emod_of_nonneg i (by omega)]; exact q)
theorem IL:OpR X (binaryOp .Pow) (rI Ii λi j=>.int (i^j.toNat)):=opI λ_ _ _ _ _ _ _ hc q=>pow_int_small hc.1 hc.2.1 hc.2.2 q
theorem unI{f:Value->Sem Value}{g:Int->Int}
  (rule:∀(i:Int) (t:Tok) (s:WX) (Q:WS) (E:WS),Q (.int (g i) s.toks) { s with toks:=s.toks+1 }->wpAny (model X.prog X.w) X.A (f (.int i t)) Q E s) :
  UnR X f (rU λi=>.int (g i)):=by
 intro pins s σ H x v Q I rx h;obtain⟨i,rfl,q⟩:=h;obtain⟨t,rfl⟩:=rx;exact rule i t s _ _ ⟨.int (g i),H,I.tok _,⟨_,rfl⟩,q⟩
theorem Ft:UnR X (unaryOp .USub) (rU λi=>.int (-i)):=unI λ_ _ _ _ _ q=>neg_int q
end
noncomputable def xB:V->V->Bool
 | .non,.non=>true|.non,.int _=>true|.int _,.non=>true|.non,.bl _=>true|.bl _,.non=>true|.non,.str _=>true|.str _,.non=>true
 | .int _,.int _=>true|.bl _,.bl _=>true|.str _,.str _=>true|.byt _,.byt _=>true
 | .int _,.str _=>true|.str _,.int _=>true|.bl _,.str _=>true|.str _,.bl _=>true
 | _,_=>false
noncomputable def rNe:R2:=λx y H Q=>xB x y=true/\Q (.bl (!decide (x=y))) H
theorem lM{i j:Int}:decide (V.int i=V.int j)=(i==j):=by
 rw[X2];simp
theorem wV{i j:Bool}:decide (V.bl i=V.bl j)=(i==j):=by
 rw[X2];simp
theorem ri{i j:Str}:decide (V.str i=V.str j)=(i==j):=by
 rw[X2];simp
theorem Gu{i j:Array UInt8}:decide (V.byt i=V.byt j)=(i.toList==j.toList):=by
 rw[X2];cases i;cases j;simp
section
variable{X:Cx}{a b c:Expr}{ta tb tc:TE}{pos:Pos}
theorem cu{pins:WT}{σ:St}{H:Hp}{s:WX}{Q:VK}{k k':Bool}(I:Inv X pins σ H s)(q:Q (.bl k) H)(e:k=k'):EP X pins σ Q (.bool k') s:=by
 subst e;exact⟨.bl k,H,I,rfl,q⟩
theorem zR:OpR X (compareOp .NotEq) rNe:=by
 intro pins s σ H x y v u Q I rx ry h;obtain⟨hs,q⟩:=h
 cases x with
 | non =>
  cases rx
  cases y with
  | non=>cases ry; exact PySem.EqNone.ne_none_none (cu I q (by simp))
  | bl j=>cases ry; exact PySem.EqNone.ne_none_bool (cu I q (by simp))
  | int j=>obtain⟨t',rfl⟩:=ry; exact PySem.EqNone.ne_none_int (cu I q (by simp))
  | str j=>obtain⟨t',rfl⟩:=ry; exact PySem.EqNone.ne_none_str (cu I q (by simp))
  | _=>exact absurd (show false=true from hs) Zz
 | bl i =>
  cases rx
  cases y with
  | non=>cases ry; exact PySem.EqNone.ne_bool_none (cu I q (by simp))
  | bl j=>cases ry; exact ne_bool (cu I q (Xs not wV))
  | str j=>obtain⟨t',rfl⟩:=ry; exact PySem.EqMixed.ne_bool_str (cu I q (by simp))
  | _=>exact absurd (show false=true from hs) Zz
 | int i =>
  obtain⟨t,rfl⟩:=rx
  cases y with
  | non=>cases ry; exact PySem.EqNone.ne_int_none (cu I q (by simp))
  | int j=>obtain⟨t',rfl⟩:=ry; exact ne_int (cu I q (Xs not lM))
  | str j=>obtain⟨t',rfl⟩:=ry; exact PySem.EqMixed.ne_int_str (cu I q (by simp))
  | _=>exact absurd (show false=true from hs) Zz
 | str i =>
  obtain⟨t,rfl⟩:=rx
  cases y with
  | non=>cases ry; exact PySem.EqNone.ne_str_none (cu I q (by simp))
  | bl j=>cases ry; exact PySem.EqMixed.ne_str_bool (cu I q (by simp))
  | int j=>obtain⟨t',rfl⟩:=ry; exact PySem.EqMixed.ne_str_int (cu I q (by simp))
  | str j=>obtain⟨t',rfl⟩:=ry; exact ne_str (cu I q (Xs not ri))
  | _=>exact absurd (show false=true from hs) Zz
 | byt i =>
  obtain⟨t,rfl⟩:=rx
  cases y with
  | byt j=>obtain⟨t',rfl⟩:=ry; exact PySem.W.ne_bytes (cu I q (Xs not Gu))
  | _=>exact absurd (show false=true from hs) Zz
 | _=>cases y<;>exact absurd (show false=true from hs) Zz
theorem xJ:OpR X (compareOp .Lt) (rI0 λi j=>.bl (decide (i<j))):=j3 λ_ _ _ _ _ _ _ q=>lt_int q
theorem Dc:OpR X (compareOp .LtE) (rI0 λi j=>.bl (decide (i<=j))):=j3 λ_ _ _ _ _ _ _ q=>le_int q
theorem BW:OpR X (compareOp .Gt) (rI0 λi j=>.bl (decide (j<i))):=j3 λ_ _ _ _ _ _ _ q=>gt_int q
theorem IQ:OpR X (compareOp .GtE) (rI0 λi j=>.bl (decide (j<=i))):=j3 λ_ _ _ _ _ _ _ q=>ge_int q
theorem CM{op:CmpOp}{r:R2}(ho:OpR X (compareOp op) r)(ha:PE X a ta)(hb:PE X b tb)(hm:behindInMarks op b=false):PE X (.Compare a [op] [b] pos) (tOp r ta tb):=by
 intro pins s σ H Q I h;exact wpAny_Compare1 (pB ha hb I h λv u s2 x y H2 I2 rx ry q=>ho pins s2 σ H2 x y v u Q I2 rx ry q) hm
noncomputable def vD(t:TE):TT:=λσ H Q=>t σ H λx H'=>∃k,x=.bl k/\Q k H'
theorem yK{op:CmpOp}{r:R2}(ho:OpR X (compareOp op) r)(ha:PE X a ta)(hb:PE X b tb)(hm:behindInMarks op b=false):PT X (.Compare a [op] [b] pos) (vD (tOp r ta tb)):=by
 intro pins s σ H Q I h
 refine wpAny_isTrue_Compare1 (thn (ha pins s σ H _ I h) λv s1 ⟨x,H1,I1,r1,q1⟩=>thn (hb pins s1 σ H1 _ I1 q1) λu s2 ⟨y,H2,I2,r2,q2⟩ =>
  thn (ho pins s2 σ H2 x y v u _ I2 r1 r2 q2) λc s3 ⟨z,H3,I3,r3,k,e,q3⟩=>?_) hm
 subst e;cases r3;exact Xp ⟨H3,I3,q3⟩
noncomputable def t8(r r':R2)(ta tb tc:TE):TE:=λσ H Q=>ta σ H λx H1=>tb σ H1 λy H2=>r x y H2 λz H3=>∃k,z=.bl k /\
 (if k=true then tc σ H3 λw' H4=>r' y w' H4 Q else Q (.bl false) H3)
theorem yb{op op':CmpOp}{r r':R2}(ho:OpR X (compareOp op) r)(ho':OpR X (compareOp op') r')(ha:PE X a ta)(hb:PE X b tb)(hc:PE X c tc)
  (hm:lastMarks [op,op'] [b,c]=false:=by with_unfolding_all rfl):PE X (.Compare a [op,op'] [b,c] pos) (t8 r r' ta tb tc):=by
 intro pins s σ H Q I h
 refine Compare_chain (thn (ha pins s σ H _ I h) λv s1 ⟨x,H1,I1,r1,q1⟩=>chain_link (thn (hb pins s1 σ H1 _ I1 q1) λu s2 ⟨y,H2,I2,r2,q2⟩ =>
  thn (ho pins s2 σ H2 x y v u _ I2 r1 r2 q2) λd s3 ⟨z,H3,I3,r3,k,e,q3⟩=>?_)) hm
 subst e;cases r3;refine Xp ?_
 cases k with
 | false=>exact ite_ff ⟨.bl false,H3,I3,rfl,q3⟩
 | true=>exact ite_tt (chain_last (thn (hc pins s3 σ H3 _ I3 q3) λw' s4 ⟨z',H4,I4,r4,q4⟩=>ho' pins s4 σ H4 y z' u w' Q I4 r2 r4 q4))
theorem yT{op op':CmpOp}{r r':R2}(ho:OpR X (compareOp op) r)(ho':OpR X (compareOp op') r')(ha:PE X a ta)(hb:PE X b tb)(hc:PE X c tc)
  (hm:lastMarks [op,op'] [b,c]=false:=by with_unfolding_all rfl):PT X (.Compare a [op,op'] [b,c] pos) (vD (t8 r r' ta tb tc)):=by
 intro pins s σ H Q I h
 refine isTrue_chain (thn (ha pins s σ H _ I h) λv s1 ⟨x,H1,I1,r1,q1⟩=>test_link (thn (hb pins s1 σ H1 _ I1 q1) λu s2 ⟨y,H2,I2,r2,q2⟩ =>
  thn (ho pins s2 σ H2 x y v u _ I2 r1 r2 q2) λd s3 ⟨z,H3,I3,r3,k,e,q3⟩=>?_)) hm
 subst e;cases r3;refine Xp ?_
 cases k with
 | false =>
  obtain⟨k',e',q'⟩:=q3;cases e';exact ite_ff ⟨H3,I3,q'⟩
 | true =>
  refine ite_tt (test_last (thn (hc pins s3 σ H3 _ I3 q3) λw' s4 ⟨z',H4,I4,r4,q4⟩=>thn (ho' pins s4 σ H4 y z' u w' _ I4 r2 r4 q4) λd' s5 ⟨z2,H5,I5,r5,k2,e2,q5⟩=>?_));subst e2;cases r5;exact Xp ⟨H5,I5,q5⟩
noncomputable def Bo(K:WV)(x:V)(H:Hp)(k:Bool):Prop :=
 match x with
 | .non=>k=false
 | .bl b=>k=b
 | .int i=>k=(i != 0)
 | .str y=>y.length<=sizeLine/\k=((y.length:Int)!=0)
 | .byt y=>y.size<=sizeLine/\k=((y.size:Int)!=0)
 | .ref p=>(∃xs,SqL K H p xs/\k=!xs.isEmpty)\/(∃xs,SqT K H p xs/\k=!xs.isEmpty)\/∃kvs,H p=some (.dK kvs)/\k=!kvs.isEmpty
 | _=>False
theorem IJ{κ:Type}{kvs:List (κ×V)}{vs:List (κ×Value)}(r:KV kvs vs):(!vs.isEmpty)=!kvs.isEmpty:=by
 cases r<;>rfl
theorem xy{xs:W8}{its:WW}(r:Vals xs its):(!its.toArray.isEmpty)=!xs.isEmpty:=by
 cases r<;>simp
theorem kJ:(sizeLine:Nat)<2^63:=by rw[XS]; decide
theorem FO:qP X (λx H Q=>∃k,Bo X.K x H k/\Q k H):=by
 intro pins s σ H x v Q I rx h;obtain⟨k,e,q⟩:=h;have hl:=kJ;have hs:sizeLine=16777216:=XS
 cases x with
 | non =>
  cases rx;have e':k=false:=e;subst e';exact truthy_none ⟨H,I,q⟩
 | bl b =>
  cases rx;have e':k=b:=e;subst e';exact Xp ⟨H,I,q⟩
 | int i =>
  obtain⟨t,rfl⟩:=rx;have e':k=(i != 0):=e;subst e';exact PySem.P.truthy_int ⟨H,I,q⟩
 | str y =>
  obtain⟨t,rfl⟩:=rx;obtain⟨hy,e'⟩:y.length<=sizeLine/\k=((y.length:Int)!=0):=e;subst e';exact PySem.P.truthy_str (by omega) ⟨H,I.tok _,q⟩
 | byt y =>
  obtain⟨t,rfl⟩:=rx;obtain⟨hy,e'⟩:y.size<=sizeLine/\k=((y.size:Int)!=0):=e;subst e';exact PySem.W.truthy_bytes (by omega) ⟨H,I.tok _,q⟩
 | ref p =>
  cases rx;have e':(∃xs,SqL X.K H p xs/\k=!xs.isEmpty)\/(∃xs,SqT X.K H p xs/\k=!xs.isEmpty)\/∃kvs,H p=some (.dK kvs)/\k=!kvs.isEmpty:=e;rcases e' with⟨xs,hx,e'⟩|⟨xs,hx,e'⟩|⟨kvs,hx,e'⟩
  ·subst e';obtain⟨its,r,pl,hz⟩:=I.list hx;have hlen:=r.length;exact wpAny_truthy_list pl.isList (by simp only[Zk]; omega) ⟨H,I.tok _,by rw[xy r]; exact q⟩
  ·subst e';obtain⟨its,r,pl,hz⟩:=I.tuple hx;have hlen:=r.length;exact truthy_tuple pl (by simp only[Zk]; omega) ⟨H,I.tok _,by rw[xy r]; exact q⟩
  ·subst e';obtain⟨hz,hS,vs,r,m⟩:kvs.length<=sizeLine/\(p==sysModules)=false/\∃vs,KV kvs vs/\s.heap.DictOf (bJ X.prog X.w) p vs:=I.hok p _ hx;have hlen:kvs.length=vs.length:=Wj r;exact wpAny_truthy_dict hS m (by omega) ⟨H,I.tok _,by rw[IJ r]; exact q⟩
 | _=>exact(show False from e).elim
theorem vals1{x:V}{us:WW}(r:Vals [x] us):∃u,us=[u]/\RelV x u:=by
 cases r with
 | cons r1 r2=>cases r2; exact⟨_,rfl,r1⟩
theorem vals2{x y:V}{us:WW}(r:Vals [x,y] us):∃u w',us=[u,w']/\RelV x u/\RelV y w':=by
 cases r with
 | cons r1 r2 =>
  cases r2 with
  | cons r3 r4=>cases r4; exact⟨_,_,rfl,r1,r3⟩
theorem Ij(hc:X.calm=true):cF X (.builtin "max") (λxs H Q=>∃i j,xs=[.int i,.int j]/\Q (.int (if j>i then j else i)) H):=by
 intro pins s σ H xs us Q I r h;obtain⟨i,j,rfl,q⟩:=h;obtain⟨u,w',rfl,⟨t,rfl⟩,⟨t',rfl⟩⟩:=vals2 r;refine max_two_ints (I.ok.hd hc) λh' tk k=>⟨_,H,I.kept k,?_,q⟩
 by_cases hj:j>i
 ·rw[Zf hj,Zf hj]; exact⟨_,rfl⟩
 ·rw[Zh hj,Zh hj]; exact⟨_,rfl⟩
end
end L2
namespace L2
open PySem PySem.Spec PyProof.Rows
structure JY(h:Heap)(x dx C:Addr)(mA:W1):Prop where
 obj:h.get? x=some (PySem.W.instObj C dx)
 ns:h.Ns1 dx mA
 ne:dx≠x
section
variable{prog:WZ}{w:W2}{A:Around}{E:WS}{s:WX}{K:WV}{x dx C f:Addr}{mA:W1}{name:Str}{v:Value}
end
theorem dH.some_of{v:V}{o:Option Value}(r:dH (some v) o):∃u,o=some u/\RelV v u:=by
 cases o with
 | none=>exact(show False from r).elim
 | some u=>exact⟨u,rfl,r⟩
section
variable{P:WZ}{w:W2}{H H':Hp}{h h':Heap}{a C dx:Addr}{fs fs':List (Str×V)}
end
structure Cls(K:WV)(C:Addr):Prop where
 pg:PySem.W.plainGet K C Str.empty=true
 hd:PySem.W.hasDictIn K C=true
 po:PySem.W.plainOver K C=true
 sa:PySem.W.findIn K (.ref C) "__setattr__" = some (some (.builtin "object.__setattr__"))
structure Con(K:WV)(C:Addr)(f:Str)(v:V)(u:Value):Prop where
 at_:PySem.W.findIn K (.ref C) f=some (some u)
 rel:RelV v u
 get:PySem.W.specialIn K u "__get__" = some none
 cp:PySem.W.copiedNames.contains f=false
section
variable{X:Cx}{pins:WT}{σ:St}{H:Hp}{s:WX}{a C dx:Addr}{fs:List (Str×V)}{f:Str}{v:V}{A:Around}{E:WS}
end
section
variable{X:Cx}{o e value:Expr}{f:Str}{pos pos' tpos:Pos}{ta tv:TE}
end
section
variable{X:Cx}{pins:WT}{σ:St}{H:Hp}{s:WX}{A:Around}{E:WS}{Q:WS}{c:Value}{b:Bool}
inductive di(K:WV)(H:Hp):V->Value->Prop where
 | non:di K H .non (.type "NoneType")
 | bl (x:Bool):di K H (.bl x) (.type "bool")
 | int (i:Int):di K H (.int i) (.type "int")
 | str (x:Str):di K H (.str x) (.type "str")
 | flt (x:UInt64):di K H (.flt x) (.type "float")
 | lst {a:Addr} {xs:W8} (e:H a=some (.lst xs)):di K H (.ref a) (.type "list")
 | frz {a:Addr} {o:Obj} {xs:W8} (e:H a=some (.frz o (.lst xs))):di K H (.ref a) (.type "list")
 | tup {a:Addr} {xs:W8} (e:H a=some (.tup xs)):di K H (.ref a) (.type "tuple")
 | dK {a:Addr} {kvs:List (Key×V)} (e:H a=some (.dK kvs)):di K H (.ref a) (.type "dict")
 | dT {a:Addr} {kvs:W9} (e:H a=some (.dT kvs)):di K H (.ref a) (.type "dict")
 | ins {a C dx:Addr} {fs:List (Str×V)} (e:H a=some (.ins C dx fs)) (cl:Cls K C) (ha:PySem.W.findIn K (.ref C) "__class__" = some (some (.builtin "object.__class__")))
   (hn:PySem.W.specialIn K (.builtin "object.__class__") "__get__" = some (some (.builtin "getset_descriptor.__get__"))) (htk:PySem.W.takesIn K (.builtin "object.__class__")=some true)
   (hm:PySem.W.mroIn K C (.type "object")=some true):di K H (.ref a) (.ref C)
end
end L2
namespace L2
open PySem PySem.Spec PyProof.Rows
structure bY(k:Nat)(A:Around):Prop where
 hd:A.handled=none
 dp:A.depth+3*k+5<recursionLimit
 un:A.units+16*k+200<cLine
theorem bY.deeper{k:Nat}{A:Around}(r:bY (k+1) A)(env:Env):bY k (A.deeper env) :=
 ⟨r.hd,by have:=r.dp; show A.depth+1+3*k+5<_; omega,by have:=r.un; show A.units+3+16*k+200<_; omega⟩
theorem bY.depth{k:Nat}{A:Around}(r:bY k A):A.depth<recursionLimit:=by have:=r.dp; omega
theorem bY.units{k:Nat}{A:Around}(r:bY k A):A.units+64<cLine:=by have:=r.un; omega
noncomputable def uS:TA:=λ_ H Q=>Q [] H
noncomputable def GL(ta:TE)(tr:TA):TA:=λσ H Q=>ta σ H λx H1=>tr σ H1 λxs H2=>Q (x::xs) H2
section
variable{X:Cx}{e:Expr}{es:W7}{te:TE}{t:TA}{pos:Pos}
theorem oY:PA X [] uS:=λ_ _ _ _ H Q I h=>XN ⟨[],H,I,.nil,h⟩
theorem kG(ha:PE X e te)(hr:PA X es t)(hs:starEach (e::es) X.env=(false,eval e X.env)::starEach es X.env:=by rfl):PA X (e::es) (GL te t):=by
 intro pos pins s σ H Q I h;rw[hs];show wpAny _ _ (spliced ((false,eval e X.env)::backTo pos (starEach es X.env))) _ _ s;refine XD (thn (ha pins s σ H _ I h) λu s1 ⟨x,H1,I1,r1,q1⟩=>?_);exact thn (hr pos pins s1 σ H1 _ I1 q1) λus s2 ⟨xs,H2,I2,r2,q2⟩=>⟨x::xs,H2,I2,.cons r1 r2,q2⟩
noncomputable def Dh(t:TA):TE:=λσ H Q=>t σ H λxs H1=>xs.length<=sizeLine/\∀p,H1 p=none->Q (.ref p) (upd H1 p (.tup xs))
noncomputable def EG(t:TA):TE:=λσ H Q=>t σ H λxs H1=>xs.length<=sizeLine/\∀p,H1 p=none->Q (.ref p) (upd H1 p (.lst xs))
theorem Cp{x1}(h:PA X es t):PE X (.Tuple es x1 pos) (Dh t):=by
 intro pins s σ H Q I hq;refine wpAny_Tuple_spliced (thn (h pos pins s σ H _ I hq) λus s1 ⟨xs,H1,I1,r,z,q⟩=>⟨by rw[<- r.length]; exact z,?_⟩);have hf:H1 s1.heap.objs.size=none:=I1.hok.fresh (Zm _);refine⟨.ref s1.heap.objs.size,upd H1 s1.heap.objs.size (.tup xs),I1.laid (t':=s1.toks) (λb u e=>Zg _ e) (Zm _) ?_,rfl,q _ hf⟩;exact⟨z,us,r,⟨_,Zw _ rfl,rfl,_,rfl⟩⟩
theorem B4(h:PA X es t):PE X (.List es pos) (EG t):=by
 intro pins s σ H Q I hq;refine wpAny_List_spliced (thn (h pos pins s σ H _ I hq) λus s1 ⟨xs,H1,I1,r,z,q⟩=>⟨by rw[<- r.length]; exact z,?_⟩);have hf:H1 s1.heap.objs.size=none:=I1.hok.fresh (Zm _);refine⟨.ref s1.heap.objs.size,upd H1 s1.heap.objs.size (.lst xs),I1.laid (t':=s1.toks) (λb u e=>Zg _ e) (Zm _) ?_,rfl,q _ hf⟩;exact⟨z,us,0,r,Zw _ rfl⟩
end
abbrev Sp:=List V->Hp->VK->XK->Prop
abbrev CXT:=List Env->Hp->Shared->XK->Value->Shared->Prop
structure jW(P:WZ)(w:W2)(K:WV)(mg:W1)(base:Heap)(A:Around)(outer:List Env)(s:WX)(H:Hp):Prop where
 frames:A.frames=some outer
 mod:Mod K mg base
 bs:∀b o,base.get? b=some o->s.heap.get? b=some o/\H b=none
 bsz:base.objs.size<=s.heap.objs.size
 c7:s.heap.FunFrames base outer
 frf:∀b∈frs outer,H b=none
 hok:HOk P w H s.heap
 bare:AllBare s.gens
noncomputable def CE(outer:List Env)(P:WZ)(w:W2)(H:Hp)(s:WX)(Q:VK)(u:Value)(s':WX):Prop :=
 ∃v H',s'.os=s.os/\AllBare s'.gens/\Un (frs outer) [] H H' s.heap s'.heap/\HOk P w H' s'.heap/\RelV v u/\Q v H'
noncomputable def CR(CX:CXT)(outer:List Env)(P:WZ)(w:W2)(H:Hp)(s:WX)(Q:VK)(E:XK)(r:Result)(s':WX):Prop :=
 match r with
 | .ok (.ret u)=>CE outer P w H s Q u s'
 | .ok _=>False
 | .error e=>CX outer H s E e s'
structure d8(P:WZ)(w:W2)(K:WV)(mg:W1)(base:Heap)(CX:CXT)(k:Nat)(f:Addr)(fd:FuncData)(ps:W4)(sp:Sp):Prop where
 len:∀vs H Q E,sp vs H Q E->vs.length=ps.length
 run:∀(A:Around) (outer:List Env) (s:WX) (H:Hp) (args:Args) (us:WW) (vs:W8) (Q:VK) (E:XK),bY k A->jW P w K mg base A outer s H->BindsTo s fd args (ps.zip us)->Vals vs us->sp vs H Q E ->
  codeAny (model P w) A (.call (.ref f) args) (CR CX outer P w H s Q E) s
section
variable{X:Cx}{pins:WT}{σ:St}{H:Hp}{s s':WX}
theorem Inv.DM(I:Inv X pins σ H s):jW X.prog X.w X.K X.mg X.base X.A X.stack s H :=
 ⟨I.ok.frames,I.ok.mod,I.bs,Z2 I.ok.bsz I.sz,I.stack,I.n8,I.hok,I.bare⟩
theorem Inv.after{Q:VK}{u:Value}(I:Inv X pins σ H s)(h:CE X.stack X.prog X.w H s Q u s'):EP X pins σ Q u s':=by
 obtain⟨v,H',os,bare,un,hok,r,q⟩:=h;obtain⟨hh,g,d,t,os'⟩:=s';obtain rfl:os'=s.os:=os;exact⟨v,H',I.call (h':=hh) (g':=g) (d':=d) (t':=t) (ch:=[]) un hok bare (λb z=>absurd z (by simp)),r,q⟩
end
noncomputable def o9(sp:Sp)(dvs:W8)(E:XK)(t:TA):TE:=λσ H Q=>t σ H λvs H1=>sp (vs++dvs) H1 Q E
noncomputable def Binds(K:WV)(fd:FuncData)(ps:W4)(ds:WW):Prop :=
 ∀(s:WX) (us:WW),K.In s.heap->(us++ds).length=ps.length->BindsTo s fd ⟨us,[]⟩ (ps.zip (us++ds))
theorem Binds.all{K:WV}{fd:FuncData}{ps:W4}(h:∀us:List Value,us.length=ps.length->bindArgs fd ⟨us,[]⟩=pure (ps.zip us)):Binds K fd ps []:=λs us _ hl=>by
 rw[XA] at hl ⊢;exact .of_eq (h us hl)
def Passes(CX:CXT)(X:Cx)(E:XK):Prop:=∀(pins:WT) (σ:St) (H:Hp) (s:WX) (e:Value) (s':WX),Inv X pins σ H s->CX X.stack H s E e s'->X.xe e s'
section
variable{X:Cx}{CX:CXT}{k:Nat}{f C:Addr}{fd:FuncData}{ps:W4}{sp:Sp}{dvs:W8}{ds:WW}{E:XK}{x m:Str}{p pos apos:Pos}{e o:Expr}{es:W7}{ta:TE}{t:TA}
theorem vN{pins:WT}{σ:St}{H:Hp}{s:WX}{Q:VK}{us:WW}{vs:W8}(F:d8 X.prog X.w X.K X.mg X.base CX k f fd ps sp)(hr:bY k X.A)(hb:Binds X.K fd ps ds)(hd:Vals dvs ds)(hx:Passes CX X E)
  (I:Inv X pins σ H s) (r:Vals vs us) (h:sp (vs++dvs) H Q E):wpAny (model X.prog X.w) X.A (call (.ref f) us) (EP X pins σ Q) X.xe s:=by
 have r2:Vals (vs++dvs) (us++ds):=r.append hd;have hl:(us++ds).length=ps.length:=by rw[<- r2.length]; exact F.len _ _ _ _ h
 refine wpAny_call (Wp (F.run X.A X.stack s H ⟨us,[]⟩ (us++ds) (vs++dvs) Q E hr I.DM (hb s us I.kIn hl) r2 h) λr s' hq=>?_)
 cases r with
 | error e=>exact hx pins σ H s e s' I hq
 | ok fl =>
  cases fl with
  | ret u=>exact I.after hq
  | next=>exact False.elim hq
  | brk=>exact False.elim hq
  | cont=>exact False.elim hq
theorem GJ(F:d8 X.prog X.w X.K X.mg X.base CX k f fd ps sp)(hr:bY k X.A)(hg:Gl X x)(hm:X.mg x=some (.ref f))(hk:PySem.W.keepIn X.K (.ref f)=true)(hb:Binds X.K fd ps ds)(hd:Vals dvs ds)(hx:Passes CX X E)
  (ha:PA X (e::es) t) (hdb:(x==("__debug__" : Str))=false:=by decide) (he:starEach (e::es) X.env=(false,eval e X.env)::starEach es X.env:=by rfl) (hpl:(backTo pos (starEach es X.env)).any (·.1)=false:=by rfl) :
  PE X (.Call (.Name x p) (e::es) [] pos) (o9 sp dvs E t):=by
 intro pins s σ H Q I h;refine Xd (nH I hg hm ?_ hdb);refine PySem.W.callWith_K (h₀:=X.base) I.ok.mod.kin hk (thn (ha pos pins s σ H _ I h) λus s1 ⟨vs,H1,I1,r,q⟩=>⟨I1.kIn,?_⟩) he hpl;exact vN F hr hb hd hx I1 r q
theorem xK(F:d8 X.prog X.w X.K X.mg X.base CX k f fd ps sp)(hr:bY k X.A)(hg:Gl X x)(hm:X.mg x=some (.ref f))(hk:PySem.W.keepIn X.K (.ref f)=true)(hb:Binds X.K fd ps ds)(hd:Vals dvs ds)(hx:Passes CX X E)
  (hdb:(x==("__debug__" : Str))=false:=by decide):PE X (.Call (.Name x p) [] [] pos) (o9 sp dvs E uS):=by
 intro pins s σ H Q I h;refine Xd (nH I hg hm ?_ hdb);exact PySem.W.callWith_K0 I.kIn hk (vN (us:=[]) F hr hb hd hx I .nil h)
structure Mk(K:WV)(C f:Addr):Prop where
 makes:PySem.W.makesIn K C=true
 init:PySem.W.findIn K (.ref C) "__init__" = some (some (.ref f))
 fn:PySem.W.isFn K (.ref f)=true
 kp:PySem.W.keepIn K (.ref C)=true
end
section
variable{X:Cx}{CX:CXT}{k:Nat}{f C:Addr}{fd:FuncData}{ps ks:W4}{sp:Sp}{E:XK}{x m:Str}{p pos apos kpos:Pos}{e o:Expr}{es:W7}{kws:List Keyword}{te ta:TE}{t tk:TA}{nm:Option Str}
structure J2(K:WV)(fd:FuncData)(ps ks:W4)(g:List Value->List Value->List Value)(gV:List V->List V->List V):Prop where
 to:∀(s:WX) (us ws:WW),K.In s.heap->(g us ws).length=ps.length->BindsTo s fd ⟨us,ks.zip ws⟩ (ps.zip (g us ws))
 rel:∀{vs:W8} {us:WW} {zs:W8} {ws:WW},Vals vs us->Vals zs ws->Vals (gV vs zs) (g us ws)
variable{g:List Value->List Value->List Value}{gV:List V->List V->List V}
end
structure nM(N P:W4)(sc:Scope):Prop where
 kind:sc.kind=.function
 co:sc.isCoroutine=false
 gen:sc.isGenerator=false
 nd:N.Nodup
 pre:N.take P.length=P
 par:∀x∈P,sc.names.lookup x=some .local\/sc.names.lookup x=some .cell
 nofree:∀y∈sc.names,y.2≠.free
theorem qT{kindOf:Str->Option NameKind}{x:Str}:∀{binds:List (Str×Value)} {m:W1},(∀v,(x,v)∉binds)->bindL kindOf binds m x=m x
 | [],_,_=>rfl
 | (n,v)::r,m,h=>by
  unfold bindL;rw[qT λw hw=>h w (Zr _ hw)];split
  ·have:x≠n:=by rintro rfl; exact h v Zo
   simp[this]
  ·rfl
theorem qc{kindOf:Str->Option NameKind}{x:Str}:∀{binds:List (Str×Value)} {m:W1},(∀v,(x,v)∉binds)->bindC kindOf binds m x=m x
 | [],_,_=>rfl
 | (n,v)::r,m,h=>by
  unfold bindC;rw[qc λw hw=>h w (Zr _ hw)];split
  ·rfl
  ·have:x≠n:=by rintro rfl; exact h v Zo
   simp[this]
theorem vh{kindOf:Str->Option NameKind}{x:Str}{v:Value}:∀{P:W4} {vs:WW} {i:Nat} {m:W1},P.Nodup->P[i]?=some x->vs[i]?=some v->kindOf x=some .local ->
  bindL kindOf (P.zip vs) m x=some v
 | [],_,_,_,_,h,_,_=>by simp at h
 | _::_,[],_,_,_,_,h,_=>by simp at h
 | p::P,w::vs,0,m,nd,h1,h2,hk=>by
  simp at h1 h2; subst h1; subst h2;show bindL kindOf ((p,w)::P.zip vs) m p=_;unfold bindL;rw[qT λv hv=>(Xf.mp nd).1 (List.of_mem_zip hv).1,Zf hk];simp
 | p::P,w::vs,i+1,m,nd,h1,h2,hk=>by
  show bindL kindOf ((p,w)::P.zip vs) m x=_;unfold bindL;exact vh (i:=i) (Xf.mp nd).2 (by simpa using h1) (by simpa using h2) hk
theorem qB{kindOf:Str->Option NameKind}{x:Str}{v:Value}:∀{P:W4} {vs:WW} {i:Nat} {m:W1},P.Nodup->P[i]?=some x->vs[i]?=some v->kindOf x≠some .local ->
  bindC kindOf (P.zip vs) m x=some v
 | [],_,_,_,_,h,_,_=>by simp at h
 | _::_,[],_,_,_,_,h,_=>by simp at h
 | p::P,w::vs,0,m,nd,h1,h2,hk=>by
  simp at h1 h2; subst h1; subst h2;show bindC kindOf ((p,w)::P.zip vs) m p=_;unfold bindC;rw[qc λv hv=>(Xf.mp nd).1 (List.of_mem_zip hv).1,Zh hk];simp
 | p::P,w::vs,i+1,m,nd,h1,h2,hk=>by
  show bindC kindOf ((p,w)::P.zip vs) m x=_;unfold bindC;exact qB (i:=i) (Xf.mp nd).2 (by simpa using h1) (by simpa using h2) hk
noncomputable def start(N:W4)(vs:W8):St:=vs.map some++List.replicate (N.length-vs.length) none
noncomputable def cZ(CX:CXT)(P:WZ)(w:W2)(K:WV)(mg:W1)(base:Heap)(N:W4)(qual:Str)(scope:Scope)(f:Addr)(cd:Value)(A:Around)(outer:List Env)(s:WX)(H:Hp)(E:XK):Cx where
 prog:=P
 w:=w
 K:=K
 mg:=mg
 base:=base
 A:=A.deeper (envOfC qual scope s.heap.objs.size f cd)
 N:=N
 s₀:=s
 H₀:=H
 env:=envOfC qual scope s.heap.objs.size f cd
 outer:=outer
 stack:=envOfC qual scope s.heap.objs.size f cd::outer
 ex:=[]
 calm:=true
 fn:=λ_=>true
 pn:=[]
 xe:=λe s'=>wpAny (model P w) (A.deeper (envOfC qual scope s.heap.objs.size f cd)) (leaving (envOfC qual scope s.heap.objs.size f cd) e) (λ_ s''=>CX outer H s E e s'') (λe' s''=>CX outer H s E e' s'') s'
theorem nW{sc:Scope}{n:Nat}{x:Str}(h:sc.names.lookup x=some .cell):∃c,(cellsFrom n sc.names []).lookup x=some c:=by
 have q:=PySem.W.cellsFrom_some sc.names n [] (.inl h);exact Option.isSome_iff_exists.mp q
theorem yJ{CX:CXT}{P:WZ}{w:W2}{K:WV}{mg:W1}{base:Heap}{N ps:W4}{qual:Str}{scope:Scope}{f:Addr}{cd:Value}{A:Around}{outer:List Env}{s s1:WX}{H:Hp}{E:XK}{us:WW}{vs:W8}
  (S:nM N ps scope) (hd:A.handled=none) (e0:jW P w K mg base A outer s H) (hl:vs.length=ps.length) (r:Vals vs us)
  (x:InCallC s s.heap.objs.size (bindL (envOfC qual scope s.heap.objs.size f cd).kindOf (ps.zip us) λ_=>none) (cellsFrom (s.heap.objs.size+1) scope.names []) (bindC (envOfC qual scope s.heap.objs.size f cd).kindOf (ps.zip us) λ_=>none) s1) :
  Inv (cZ CX P w K mg base N qual scope f cd A outer s H E) [] (start N vs) H s1:=by
 have hpl:ps.length<=N.length:=by have:=Xs List.length S.pre; rw[Z3] at this; omega
 obtain⟨h1,tk,rfl,hk⟩:=x.done;have noA:∀b:Addr,b∉(cZ CX P w K mg base N qual scope f cd A outer s H E).ex:=λb z=>absurd (show b∈([]:List Addr) from z) (by simp)
 refine⟨⟨e0.mod,S.kind,rfl,rfl,Zm _,λy z c h1 h2=>?_,λy hy=>?_,λy c _ h=>?_,λ_=>hd,Around.frames_deeper e0.frames,.inr ⟨rfl,rfl⟩,λb z=>absurd z (noA b),e0.bs,e0.bsz,λb _ _=>noA b,λb z=>absurd z (noA b),e0.c7,e0.frf⟩,
  rfl,e0.bare,Un.kept hk,⟨_,x.toInCall.ns,λi y v h1 h2 h3=>?_⟩,λy c h=>⟨_,x.cell y c h⟩,e0.hok.fresh (Zm _),λy c h=>?_,λp hp=>absurd (show p∈([]:List (Addr×Obj)) from hp) (by simp),e0.hok.kept hk,?_⟩
 ·exact name_of_addr x.apart (Qz h1) (Qz h2)
 ·have hy:scope.names.lookup y=some .cell\/scope.names.lookup y=some .free:=hy;rcases hy with hy|hy
  ·exact nW hy
  ·exact absurd rfl (S.nofree _ (Qz hy))
 ·exact Qi (x.above y c (Qz h))
 ·have hi:i<vs.length:=by
   unfold start at h2
   by_cases hi:i<vs.length
   ·exact hi
   ·rw[ZO (by simpa using hi)] at h2;rw[Qb] at h2;split at h2<;>cases h2
  have ha:vs[i]?=some v:=by
   unfold start at h2;rw[ZC (by simpa using hi),ZL] at h2
   cases e:vs[i]? with
   | none=>rw[e] at h2; cases h2
   | some a=>rw[e] at h2; cases h2; rfl
  obtain⟨u,hu,rv⟩:=r.get ha
  have hp:ps[i]?=some y:=by
   rw[<- S.pre,QZ (by omega)]; exact h1
  have ndP:ps.Nodup:=by rw[<- S.pre]; exact S.nd.sublist (WI _ _)
  refine⟨u,rv,?_⟩;rcases S.par y (ZD hp) with k|k
  ·exact .inl ⟨k,vh ndP hp hu k⟩
  ·obtain⟨c,e⟩:=nW (n:=s.heap.objs.size+1) k;refine .inr ⟨.inl k,c,e,?_⟩;have q:=x.cell y c e;rw[qB ndP hp hu (by show scope.names.lookup y≠_; rw[k]; decide)] at q;exact q
 ·exact e0.hok.fresh (Qi (x.above y c (Qz h)))
 ·unfold start;show _=N.length;rw[Zn,Zb,List.length_replicate];omega
theorem IZ{CX:CXT}{P:WZ}{w:W2}{K:WV}{mg:W1}{base:Heap}{k:Nat}{f:Addr}{name qual:Str}{params:Arguments}{body:List Stmt}{scope:Scope}{dV kV doc pm cdv ct oc:Value}{an od:Option Addr}
  {osl:Array (Option Value)} {N ps:W4} {sp:Sp} (lk:K.lookup f=some ⟨oc,od,.func (PySem.W.fnOf name qual params body scope dV kV doc pm an cdv ct),osl⟩) (hcd:PySem.W.codeIn K cdv qual=true) (S:nM N ps scope)
  (len:∀vs H Q E,sp vs H Q E->vs.length=ps.length)
  (hbody:∀(A:Around) (outer:List Env) (s:WX) (H:Hp) (vs:W8) (Q:VK) (E:XK),bY k (A.deeper (envOfC qual scope s.heap.objs.size f cdv))->sp vs H Q E ->
   ∃t,PSs (cZ CX P w K mg base N qual scope f cdv A outer s H E) body t/\t { nx:=λ_ H'=>Q .non H',rt:=Q } (start N vs) H) :
  d8 P w K mg base CX (k+1) f (PySem.W.fnOf name qual params body scope dV kV doc pm an cdv ct) ps sp:=by
 refine⟨len,λA outer s H args us vs Q E hr e0 hb r hsp=>?_⟩;have hl:=len _ _ _ _ hsp;have KX:K.In s.heap:=e0.mod.kin.keeps λb o e=>(e0.bs b o e).1
 have lim:s.heap.NoLimit:=e0.mod.nolimit.keeps λb o e=>(e0.bs b o e).1
 have hkind:∀y∈ps.zip us,scope.names.lookup y.1=some .local\/(scope.names.lookup y.1=some .cell/\((cellsFrom (s.heap.objs.size+1) scope.names []).lookup y.1).isSome=true):=λ⟨n,v⟩ hy=>by
  rcases S.par n (List.of_mem_zip hy).1 with q|q
  ·exact .inl q
  ·exact .inr ⟨q,PySem.W.cellsFrom_some _ _ _ (.inl q)⟩
 refine codeAny_call_function hr.depth (KX _ _ lk) rfl S.co S.gen rfl (PySem.W.codeRec_of KX hcd) (hb _ _ _ _ ?_);refine wpAny_newFunctionEnv_cells S.kind hkind λenv he s1 x=>?_
 subst he;refine⟨lim.keeps x.toInCall.keep,codeAny_func ?_⟩;obtain⟨t,ht,hq⟩:=hbody A outer s H vs Q E (hr.deeper _) hsp;have I:Inv (cZ CX P w K mg base N qual scope f cdv A outer s H E) [] (start N vs) H s1:=yJ S hr.hd e0 hl r x;refine XL (ht [] s1 (start N vs) H _ I hq) (λfl s' hs=>?_) λe s' hs=>hs
 have fin:∀{σ':St} {H':Hp} {v:V} {u:Value},Inv (cZ CX P w K mg base N qual scope f cdv A outer s H E) [] σ' H' s'->RelV v u->Q v H'->CE outer P w H s Q u s' :=
  λ{σ' H' v u} J rv q=>⟨v,H',J.os,J.bare,J.base,J.hok,rv,q⟩
 cases fl with
 | ret u =>
  obtain⟨v,σ',H',J,rv,q⟩:=hs;exact fin J rv q
 | next =>
  obtain⟨σ',H',J,q⟩:=hs;exact fin (v:=V.non) (u:=Value.none) J rfl q
 | brk =>
  obtain⟨_,_,_,q⟩:=hs;exact False.elim q
 | cont =>
  obtain⟨_,_,_,q⟩:=hs;exact False.elim q
end L2
namespace L2
open PySem PySem.Spec PyProof.Rows
section
variable{X:Cx}{x:Str}{p pos:Pos}{e:Expr}{es:W7}{t:TA}{id T:String}{r:List V->Hp->VK->Prop}
noncomputable def tCB(r:List V->Hp->VK->Prop)(t:TA):TE:=λσ H Q=>t σ H λvs H1=>r vs H1 Q
theorem uB(hc:cF X (.builtin id) r)(hg:Gl X x)(hm:X.mg x=none)(hv:bootBuiltins x=some (.builtin id))(ha:PA X (e::es) t)(hn:x≠"__name__":=by decide)(hdb:(x==("__debug__" : Str))=false:=by decide)
  (he:starEach (e::es) X.env=(false,eval e X.env)::starEach es X.env:=by rfl) (hpl:(backTo pos (starEach es X.env)).any (·.1)=false:=by rfl):PE X (.Call (.Name x p) (e::es) [] pos) (tCB r t):=by
 intro pins s σ H Q I h;refine Xd (cY I hg hm hv ?_ hn hdb);exact X3 (thn (ha pos pins s σ H _ I h) λus s1 ⟨vs,H1,I1,r1,q1⟩=>hc pins s1 σ H1 vs us Q I1 r1 q1) he hpl
theorem B5(hc:cF X (.type T) r)(hg:Gl X x)(hm:X.mg x=none)(hv:bootBuiltins x=some (.type T))(ha:PA X (e::es) t)(hn:x≠"__name__":=by decide)(hdb:(x==("__debug__" : Str))=false:=by decide)
  (he:starEach (e::es) X.env=(false,eval e X.env)::starEach es X.env:=by rfl) (hpl:(backTo pos (starEach es X.env)).any (·.1)=false:=by rfl):PE X (.Call (.Name x p) (e::es) [] pos) (tCB r t):=by
 intro pins s σ H Q I h;refine Xd (cY I hg hm hv ?_ hn hdb);exact Xm (thn (ha pos pins s σ H _ I h) λus s1 ⟨vs,H1,I1,r1,q1⟩=>hc pins s1 σ H1 vs us Q I1 r1 q1) he hpl
end
end L2
namespace HT
open PySem PyProof.Rows
section
open PySem.SeqAt
open PySem.AutoSeq1 (wpAny_loadPart')
open PySem.MeetsSeq PySem.MeetsSeq2 PySem.MeetsSeq3
end
section
variable{prog:WZ}{w:W2}{A:Around}{E:WS}{s:WX}
noncomputable def sIx(n d:Nat):Option Int->Nat
 | none=>d
 | some v=>if v<0 then(v+(n:Int)).toNat else min v.toNat n
theorem Gv(n d:Nat)(hd:d<=n)(o:Option Int):sIx n d o<=n:=by
 cases o with
 | none=>exact hd
 | some v =>
  show(if v<0 then(v+(n:Int)).toNat else min v.toNat n)<=n
  by_cases hv:v<0
  ·rw[Zf hv]; omega
  ·rw[Zh hv]; exact Nat.min_le_right _ _
theorem sD(v:Int)(n d:Nat):(if v<0 then max (v+(n:Int)) 0 else min v (n:Int))=((sIx n d (some v):Nat):Int):=by
 show(if v<0 then max (v+(n:Int)) 0 else min v (n:Int))=(((if v<0 then(v+(n:Int)).toNat else min v.toNat n):Nat):Int)
 by_cases hv:v<0
 ·simp only[Zf hv]; omega
 ·simp only[Zh hv]; omega
theorem Hv(lo hi:Option Int)(n:Nat):Builtin.Slice.sliceAdjust lo hi 1 (n:Int)=(((sIx n 0 lo:Nat):Int),((sIx n n hi:Nat):Int)):=by
 have h1:¬((1:Int)<0):=by omega
 unfold Builtin.Slice.sliceAdjust;simp only[h1,ZM];refine Prod.ext ?_ ?_
 ·cases lo with
  | none=>rfl
  | some v=>exact sD v n 0
 ·cases hi with
  | none=>rfl
  | some v=>exact sD v n n
theorem zb(i j:Nat):Builtin.Slice.slicePlaces (i:Int) (j:Int) 1=j-i:=by
 unfold Builtin.Slice.slicePlaces;have h1:(1:Int)>0:=by omega
 simp only[h1,Xu,WO];split<;>omega
theorem u9{v:Value}{o:Option Int}{Q:Option Int->Shared->Prop}(p:IsPart v o)(h:Q o s):wpAny (model prog w) A (Builtin.Slice.slicePartIndex v) Q E s:=by
 cases p with
 | none=>exact slicePart_none h
 | int i t=>exact slicePart_int h
theorem uG{sl:Addr}{vl vu:Value}{lo hi:Option Int}{n:Nat}{Q:Int×Int×Nat->Shared->Prop}(hs:s.heap.IsSliceOf sl vl vu .none)(pl:IsPart vl lo)(pu:IsPart vu hi)
  (h:Q (((sIx n 0 lo:Nat):Int),1,sIx n n hi-sIx n 0 lo) s):wpAny (model prog w) A (Builtin.Slice.sliceApplied (.ref sl) (pure (n:Int))) Q E s:=by
 obtain⟨os,hos,hcs,hds⟩:=id hs;unfold Builtin.Slice.sliceApplied Builtin.Slice.sliceFields;refine Za (Za (Xy hos hds (x:=vl) rfl (Za (Xy hos hds (x:=vu) rfl (Za (Xy hos hds (x:=.none) rfl (Zc ?_)))))));refine Za (slicePart_none ?_);show wpAny _ _ (if((1:Int)==0)=true then _ else _) _ _ s;rw[Zh (by decide)];refine Za (u9 pl (Za (u9 pu (Za (Zc ?_)))));show wpAny _ _ (match Builtin.Slice.sliceAdjust lo hi 1 (n:Int) with|(lo,hi)=>pure (lo,(1:Int),Builtin.Slice.slicePlaces lo hi 1)) _ _ s;rw[Hv lo hi n];show wpAny _ _ (pure (((sIx n 0 lo:Nat):Int),(1:Int),Builtin.Slice.slicePlaces ((sIx n 0 lo:Nat):Int) ((sIx n n hi:Nat):Int) 1)) _ _ s;rw[zb];exact Zc h
theorem Gd(xs:W5)(i k:Nat):((List.range k).filterMap λ(m:Nat)=>xs[((i:Int)+(m:Int)*1).toNat]?).toArray=((xs.toList.drop i).take k).toArray:=by
 have e:(λ(m:Nat)=>xs[((i:Int)+(m:Int)*1).toNat]?)=λm=>xs[i+m]?:=by
  funext m;have:((i:Int)+(m:Int)*1).toNat=i+m:=by omega
  rw[this]
 rw[e];have:=pick_run xs i k;rw[WD] at this;have e2:((λx=>xs[x]?)∘λx=>i+x)=λm=>xs[i+m]?:=rfl
 rw[e2] at this;rw[this]
theorem Gi{t sl:Addr}{items:W5}{vl vu:Value}{lo hi:Option Int}{Q:WS}(ht:IsTup s.heap t items)(hs:s.heap.IsSliceOf sl vl vu .none)(pl:IsPart vl lo)(pu:IsPart vu hi)
  (hw:¬(sIx items.size 0 lo=0/\sIx items.size items.size hi=items.size))
  (h:Q (.ref s.heap.objs.size) { s with heap:=s.heap.push { cls:=.type "tuple",data:=.seq ((items.toList.drop (sIx items.size 0 lo)).take (sIx items.size items.size hi-sIx items.size 0 lo)).toArray } })
  (hsz:items.size<=sizeLine):wpAny (model prog w) A (getItem (.ref t) (.ref sl)) Q E s:=by
 have htake:sizeOk (.seq ((items.toList.drop (sIx items.size 0 lo)).take (sIx items.size items.size hi-sIx items.size 0 lo)).toArray):=by
  show((items.toList.drop (sIx items.size 0 lo)).take (sIx items.size items.size hi-sIx items.size 0 lo)).toArray.size<=sizeLine;rw[Zk,Z3,XE,ZE];omega
 have hj:sIx items.size items.size hi<=items.size:=Gv _ _ (Zm _) hi;obtain⟨os,hos,hcs,hds⟩:=id hs;have hTs:s.TypeIs (.ref sl) "slice":=⟨os,hos,hcs⟩
 unfold getItem
 try with_reducible refine Xg ?_
 first|refine Za (Zc ?_)|skip
 refine Za (wpAny_sequenceKey ht.typeIs (by decide) ?_)
 refine Za (ZY (name:=Str.ofString "__getitem__") ht.typeIs X0
  (ZT X0 ht.typeIs entry_tuple_getitem ?_ (args_tuple_getitem _ _)))
 show wpAny _ _ (Builtin.Tuple.tupleItemsOf (.ref t)>>=_) _ _ s;refine Za (tupleItemsOf_ ht ?_);refine Za (XT hTs ?_);rw[Zf (by decide)];refine Za (uG hs pl pu ?_)
 have hno:¬((((sIx items.size 0 lo:Nat):Int)==0&&(1:Int)==1&&(sIx items.size items.size hi-sIx items.size 0 lo)==items.size)=true):=by
  intro q;rw[Zv,Zv] at q;have q1:((sIx items.size 0 lo:Nat):Int)=0:=eq_of_beq q.1.1;have q2:sIx items.size items.size hi-sIx items.size 0 lo=items.size:=eq_of_beq q.2;exact hw ⟨by omega,by omega⟩
 show wpAny _ _ (if(((sIx items.size 0 lo:Nat):Int)==0&&(1:Int)==1&&(sIx items.size items.size hi-sIx items.size 0 lo)==items.size)=true then _ else _) _ _ s;rw[Zh hno,Gd]
 first
  | exact Za (m:=Builtin.Tuple.tupleExact _) (Z0 (Zc ⟨_,rfl,Zc h⟩) htake)
  | exact Za (m:=Builtin.Tuple.tupleExact _) (Z0 (Za (Zc (Zc ⟨_,rfl,Zc h⟩))) htake)
  | exact Za (Za (m:=Builtin.Tuple.tupleExact _) (Z0 (Zc (Zc ⟨_,rfl,Zc h⟩)) htake))
  | exact Za (Za (m:=Builtin.Tuple.tupleExact _) (Z0 (Zc ⟨_,rfl,Zc h⟩) htake))
end
end HT
namespace L2
open PySem PySem.Spec PyProof.Rows
abbrev TO:=St->Hp->(Option Int->Hp->Prop)->Prop
noncomputable def PO(X:Cx)(e:Option Expr)(t:TO):Prop :=
 ∀(pins:WT) (s:WX) (σ:St) (H:Hp) (Q:Option Int->Hp->Prop),Inv X pins σ H s->t σ H Q ->
  wpAny (model X.prog X.w) X.A (evalPart e X.env) (λu s'=>∃o H',Inv X pins σ H' s'/\IsPart u o/\Q o H') X.xe s
noncomputable def AY:TO:=λ_ H Q=>Q none H
noncomputable def JN(t:TE):TO:=λσ H Q=>t σ H λx H1=>∃i,x=.int i/\Q (some i) H1
theorem intsAre_of{ns:WU}:∀{us:WW},Vals (ns.map V.int) us->IntsAre us ns:=by
 induction ns with
 | nil=>intro us r; rw[Qw] at r; cases r; exact .nil
 | cons n ns ih =>
  intro us r;rw[ZI] at r
  cases r with
  | cons r1 r2 =>
   obtain⟨t,e⟩:=r1;subst e;exact .cons n t (ih r2)
section
variable{X:Cx}{e:Expr}{te:TE}{lo hi:Option Expr}{tl th:TO}{pos p2:Pos}
theorem ye:PO X none AY:=by
 intro pins s σ H Q I h;rw[evalPart_none];exact Zc ⟨none,H,I,.none,h⟩
theorem yp(h:PE X e te):PO X (some e) (JN te):=by
 intro pins s σ H Q I hw;rw[evalPart_some];refine thn (h pins s σ H _ I hw) λu s1 ⟨x,H1,I1,r1,q1⟩=>?_
 obtain⟨i,rfl,q⟩:=q1;obtain⟨t,rfl⟩:=r1;exact⟨some i,H1,I1,.int i t,q⟩
noncomputable def SlR(X:Cx)(r:V->Option Int->Option Int->Hp->VK->Prop):Prop :=
 ∀(pins:WT) (s:WX) (σ:St) (H:Hp) (x:V) (v vl vu:Value) (lo hi:Option Int) (sl:Addr) (Q:VK),Inv X pins σ H s->RelV x v->s.heap.IsSliceOf sl vl vu .none->IsPart vl lo->IsPart vu hi->r x lo hi H Q ->
  ∃T id,typeLookup (.type T) "__getitem__" = pure (some (.builtin id))/\s.TypeIs v T/\wpAny (model X.prog X.w) X.A (getItem v (.ref sl)) (EP X pins σ Q) X.xe s
noncomputable def tSl(r:V->Option Int->Option Int->Hp->VK->Prop)(te:TE)(tl th:TO):TE:=λσ H Q=>te σ H λx H1=>tl σ H1 λl H2=>th σ H2 λu H3=>r x l u H3 Q
theorem GN{r:V->Option Int->Option Int->Hp->VK->Prop}(hr:SlR X r)(he:PE X e te)(hl:PO X lo tl)(hu:PO X hi th):PE X (.Subscript e (.Slice lo hi none p2) pos) (tSl r te tl th):=by
 intro pins s σ H Q I h;refine Subscript_ (thn (he pins s σ H _ I h) λv s1 ⟨x,H1,I1,r1,q1⟩=>?_);refine wpAny_Slice (thn (hl pins s1 σ H1 _ I1 q1) λvl s2 ⟨l,H2,I2,pl,q2⟩=>thn (hu pins s2 σ H2 _ I2 q2) λvu s3 ⟨u,H3,I3,pu,q3⟩=>?_);rw[evalPart_none];refine Zc ?_;have I4:Inv X pins σ H3 { s3 with heap:=s3.heap.push { cls:=.type "slice",data:=.fields #[vl,vu,.none] } }:=I3.kept (t':=s3.toks) λb ob q=>Zg _ q
 obtain⟨T,id,hT,ht,hg⟩:=hr pins { s3 with heap:=s3.heap.push { cls:=.type "slice",data:=.fields #[vl,vu,.none] } } σ H3 x v vl vu l u s3.heap.objs.size Q I4 r1 (Heap.IsSliceOf.new ..) pl pu q3;show wpAny (model X.prog X.w) X.A (subscriptTail e (.Slice lo hi none p2) v (.ref s3.heap.objs.size)) (EP X pins σ Q) X.xe { s3 with heap:=s3.heap.push { cls:=.type "slice",data:=.fields #[vl,vu,.none] } };exact tail_any (ops:=[.ref s3.heap.objs.size,v]) ht hT hg (by with_unfolding_all rfl)
noncomputable def dM(xs:W8)(lo hi:Option Int):List V:=(xs.drop (HT.sIx xs.length 0 lo)).take (HT.sIx xs.length xs.length hi-HT.sIx xs.length 0 lo)
theorem qw(xs:W8)(lo hi:Option Int):(dM xs lo hi).length<=xs.length:=by
 unfold dM;rw[Z3,XE];omega
noncomputable def Gz(K:WV):V->Option Int->Option Int->Hp->VK->Prop:=λx lo hi H Q=>∃a xs,x=.ref a/\SqT K H a xs /\
 ¬(HT.sIx xs.length 0 lo=0/\HT.sIx xs.length xs.length hi=xs.length)/\∀p,H p=none->Q (.ref p) (upd H p (.tup (dM xs lo hi)))
theorem CA:SlR X (Gz X.K):=by
 intro pins s σ H x v vl vu lo hi sl Q I rx hs pl pu h;obtain⟨a,xs,rfl,hx,hw,q⟩:=h;cases rx;obtain⟨its,r,ht,hz⟩:=I.tuple hx;have hlen:its.toArray.size=xs.length:=by rw[Zk]; exact r.length.symm
 refine⟨"tuple",_,PyProof.Rows.slot_tuple_getitem.lookup,ht.typeIs,?_⟩;refine HT.Gi ht hs pl pu (by rw[hlen]; exact hw) ?_ (by rw[hlen]; exact hz);rw[hlen];refine⟨.ref s.heap.objs.size,_,I.laid (t':=s.toks) (o:=.tup (dM xs lo hi)) (λb ob q=>Zg _ q) (Zm _) ?_,rfl,q _ (I.hok.fresh (Zm _))⟩;exact⟨Z2 (qw xs lo hi) hz,_,(r.drop (HT.sIx xs.length 0 lo)).take (HT.sIx xs.length xs.length hi-HT.sIx xs.length 0 lo),IsTup.new _ _⟩
end
end L2
namespace L2
open PySem PySem.Spec PyProof.Rows
noncomputable def ixN(n:Nat)(i:Int):Option Nat:=if 0<=i then(if i<n then some i.toNat else none) else if -(n:Int)<=i then some (i+n).toNat else none
noncomputable def atI{α:Type}(xs:List α)(i:Int):Option α:=(ixN xs.length i).bind λj=>xs[j]?
theorem JA{n:Nat}{i:Int}{j:Nat}(h:ixN n i=some j):seqIndex? i n=some j/\j<n/\-(n:Int)<=i/\i<n:=by
 unfold ixN at h
 by_cases h0:0<=i
 ·rw[Zf h0] at h
  by_cases h1:i<n
  ·rw[Zf h1] at h;have e:i.toNat=j:=Z1 h;exact⟨by rw[seqIndex_of h0 h1,e],by omega,by omega,h1⟩
  ·rw[Zh h1] at h; cases h
 ·rw[Zh h0] at h
  by_cases h1:-(n:Int)<=i
  ·rw[Zf h1] at h;have e:(i+n).toNat=j:=Z1 h;exact⟨by rw[seqIndex_neg (by omega) h1,e],by omega,h1,by omega⟩
  ·rw[Zh h1] at h; cases h
theorem vP{α:Type}{xs:List α}{i:Int}{v:α}(h:atI xs i=some v):∃j,seqIndex? i xs.length=some j/\xs[j]?=some v/\j<xs.length/\-(xs.length:Int)<=i/\i<xs.length:=by
 unfold atI at h
 cases e:ixN xs.length i with
 | none=>rw[e] at h; cases h
 | some j =>
  rw[e] at h;obtain⟨h1,h2,h3,h4⟩:=JA e;exact⟨j,h1,h,h2,h3,h4⟩
def mO(b:Expr):Prop:=∀o i,subscripted b false o i=operate [o,i] (getItem o i)
noncomputable def IxR(X:Cx)(r:R2):Prop :=
 ∀(value slice:Expr) (pins:WT) (s:WX) (σ:St) (H:Hp) (x y:V) (v u:Value) (Q:VK),Inv X pins σ H s->RelV x v->RelV y u->r x y H Q ->
  subscripted slice false v u=operate [v,u] (getItem v u)->wpAny (model X.prog X.w) X.A (subscriptTail value slice v u) (EP X pins σ Q) X.xe s
noncomputable def MtR(X:Cx)(id:String)(r:V->List V->Hp->VK->Prop):Prop :=
 ∀(pins:WT) (s:WX) (σ:St) (H:Hp) (x:V) (xs:W8) (v:Value) (us:WW) (Q:VK),Inv X pins σ H s->RelV x v->Vals xs us->r x xs H Q ->
  wpAny (model X.prog X.w) X.A (call (.builtin id) (v::us)) (EP X pins σ Q) X.xe s
section
variable{X:Cx}{a b:Expr}{ta tb:TE}{pos:Pos}
theorem F1{r:R2}(hr:IxR X r)(ha:PE X a ta)(hb:PE X b tb)(hs:mO b):PE X (.Subscript a b pos) (tOp r ta tb):=by
 intro pins s σ H Q I h;exact Subscript_ (pB ha hb I h λv u s2 x y H2 I2 rx ry q=>hr a b pins s2 σ H2 x y v u Q I2 rx ry q (hs _ _))
noncomputable def Ae(K:WV):R2:=λx y H Q=>∃p xs i v,x=.ref p/\y=.int i/\SqL K H p xs/\atI xs i=some v/\Q v H
noncomputable def Dr(K:WV):R2:=λx y H Q=>∃p xs i v,x=.ref p/\y=.int i/\SqT K H p xs/\atI xs i=some v/\Q v H
theorem xN:IxR X (Ae X.K):=by
 intro value slice pins s σ H x y v u Q I rx ry h hs;obtain⟨p,xs,i,z,rfl,rfl,hq,he,q⟩:=h;cases rx;obtain⟨t,rfl⟩:=ry;obtain⟨its,r,pl,hz⟩:=I.list hq;obtain⟨j,h1,h2,h3,h4,h5⟩:=vP he;obtain⟨w,ew,rw'⟩:=r.get h2;have hl:=r.length;have hn:=kJ;have fin:EP X pins σ Q w s:=⟨z,H,I,rw',q⟩
 by_cases h0:0<=i
 ·have hj:i.toNat=j:=by
   rw[seqIndex_of h0 h5] at h1;exact Z1 h1
  exact item_listR pl.isList h0 (by omega) (by rw[hj]; simpa using ew) fin hs
 ·have hj:(i+(its.toArray.size:Int)).toNat=j:=by
   rw[seqIndex_neg (by omega) h4] at h1;rw[Zk,<- hl];exact Z1 h1
  exact subscriptTail_builtinR (x:=w) pl.isList.typeIs slot_list_getitem.lookup
   (wpAny_getItem_list_neg (Q:=λr s'=>r=w/\EP X pins σ Q r s') pl.isList (by omega) (by rw[Zk]<;>omega) (by omega) (by rw[hj]; simpa using ew) ⟨rfl,fin⟩) hs
theorem Ge:IxR X (Dr X.K):=by
 intro value slice pins s σ H x y v u Q I rx ry h hs;obtain⟨p,xs,i,z,rfl,rfl,hq,he,q⟩:=h;cases rx;obtain⟨t,rfl⟩:=ry;obtain⟨its,r,pl,hz⟩:=I.tuple hq;obtain⟨j,h1,h2,h3,h4,h5⟩:=vP he;obtain⟨w,ew,rw'⟩:=r.get h2;have hl:=r.length;have hn:=kJ;have fin:EP X pins σ Q w s:=⟨z,H,I,rw',q⟩
 exact subscriptTail_builtinR (x:=w) pl.typeIs slot_tuple_getitem.lookup
  (getItem_tuple (j:=j) (Q:=λr s'=>r=w/\EP X pins σ Q r s') pl (by omega) (by omega) (by rw[Zk,<- hl]; exact h1) (by simpa using ew) ⟨rfl,fin⟩) hs
theorem zh(lo hi:Option Int)(n:Nat):(sliceBounds lo hi none n).1=((HT.sIx n 0 lo:Nat):Int)/\(sliceBounds lo hi none n).2.1=((HT.sIx n n hi:Nat):Int)/\(sliceBounds lo hi none n).2.2=1:=by
 refine⟨?_,?_,rfl⟩
 ·cases lo with
  | none=>simp[sliceBounds,HT.sIx]
  | some i =>
   simp only[sliceBounds,HT.sIx,Option.getD_none,show(1:Int)>0 by decide,Xu]
   by_cases h:i<0
   ·simp only[h,Xu]<;>omega
   ·simp only[h,ZM]<;>omega
 ·cases hi with
  | none=>simp[sliceBounds,HT.sIx]
  | some i =>
   simp only[sliceBounds,HT.sIx,Option.getD_none,show(1:Int)>0 by decide,Xu]
   by_cases h:i<0
   ·simp only[h,Xu]<;>omega
   ·simp only[h,ZM]<;>omega
theorem GI(its:WW)(lo hi:Option Int):slicePick its.toArray lo hi none=((its.drop (HT.sIx its.length 0 lo)).take (HT.sIx its.length its.length hi-HT.sIx its.length 0 lo)).toArray:=by
 obtain⟨h1,h2,h3⟩:=zh lo hi its.toArray.size;unfold slicePick;rw[h1,h2,h3];simp only[sliceRange_one,pick_run,Zk]<;>rfl
noncomputable def EJ(K:WV):V->Option Int->Option Int->Hp->VK->Prop:=λx lo hi H Q=>∃a xs,x=.ref a/\SqL K H a xs/\∀p,H p=none->Q (.ref p) (upd H p (.lst (dM xs lo hi)))
theorem sZ:SlR X (EJ X.K):=by
 intro pins s σ H x v vl vu lo hi sl Q I rx hs pl pu h;obtain⟨a,xs,rfl,hx,q⟩:=h;cases rx;obtain⟨its,r,ht,hz⟩:=I.list hx;have hlen:=r.length;refine⟨"list",_,slot_list_getitem.lookup,ht.isList.typeIs,?_⟩;refine wpAny_getItem_list_slice ht.isList hs pl pu .none (by simp) ?_ (by rw[Zk]<;>omega);rw[GI,<- hlen];refine⟨.ref s.heap.objs.size,_,I.laid (t':=s.toks) (o:=.lst (dM xs lo hi)) (λb ob q=>Zg _ q) (Zm _) ?_,rfl,q _ (I.hok.fresh (Zm _))⟩;exact⟨Z2 (qw xs lo hi) hz,_,0,(r.drop (HT.sIx xs.length 0 lo)).take (HT.sIx xs.length xs.length hi-HT.sIx xs.length 0 lo),Zw _ rfl⟩
noncomputable def Ar:V->Bool
 | .non=>true
 | .bl _=>true
 | .int _=>true
 | .str _=>true
 | _=>false
theorem Fx:cF X (.builtin "len") (λxs H Q=>∃p ys,xs=[.ref p]/\(SqL X.K H p ys\/SqT X.K H p ys)/\Q (.int ys.length) H):=by
 intro pins s σ H xs us Q I r h;obtain⟨p,ys,rfl,hq,q⟩:=h;obtain⟨u,rfl,rx⟩:=vals1 r;cases rx;have hn:=kJ;rcases hq with hq|hq
 ·obtain⟨its,r',pl,hz⟩:=I.list hq;have hlen:=r'.length;exact Calls.call_len_list pl.isList (by simp only[Zk]<;>omega) ⟨.int ys.length,H,I.tok _,⟨s.toks+1,by rw[Zk,hlen]⟩,q⟩
 ·obtain⟨its,r',pl,hz⟩:=I.tuple hq;have hlen:=r'.length;exact len_tuple pl (by simp only[Zk]<;>omega) ⟨.int ys.length,H,I.tok _,⟨s.toks+1,by rw[Zk,hlen]⟩,q⟩
theorem oE:cF X (.type "tuple") (λxs H Q=>∃p ys,xs=[.ref p]/\((SqL X.K H p ys/\∀l,H l=none->Q (.ref l) (upd H l (.tup ys)))\/(SqT X.K H p ys/\Q (.ref p) H))):=by
 intro pins s σ H xs us Q I r h;obtain⟨p,ys,rfl,h⟩:=h;obtain⟨u,rfl,rx⟩:=vals1 r;cases rx;rcases h with⟨hq,q⟩|⟨hq,q⟩
 ·obtain⟨its,r',pl,hz⟩:=I.list hq;have hlen:=r'.length;refine call_tuple_list pl.isList (λh' kp=>?_) (by simp only[Zk]<;>omega);have I1:Inv X pins σ H { s with heap:=h' }:=I.kept (t':=s.toks) kp
  have I2:Inv X pins σ (upd H h'.objs.size (.tup ys)) { s with heap:=h'.push { cls:=.type "tuple",data:=.seq its.toArray } } :=
   I1.laid (t':=s.toks) (λb o e=>Zg _ e) (Zm _) (show a_ X.prog X.w _ _ _ (.tup ys) from⟨hz,its,r',IsTup.new _ _⟩)
  exact⟨.ref h'.objs.size,_,I2,rfl,q _ (I1.hok.fresh (Zm _))⟩
 ·obtain⟨its,r',pl,hz⟩:=I.tuple hq;exact call_tuple_same pl ⟨.ref p,H,I,rfl,q⟩
def tyV(K:WV)(T:String)(x:V)(H:Hp):Prop:=match x with
 | .str _=>T = "str"
 | .int _=>T = "int"
 | .ref p=>(T = "list"/\∃xs,SqL K H p xs)\/(T = "tuple"/\∃o,K.lookup p=some o/\o.cls=.type "tuple"/\o.dict=none) \/
   (T = "dict"/\((∃kvs,H p=some (.dK kvs))\/∃kvs,H p=some (.dT kvs)))\/(T = "set"/\∃S n,H p=some (.set S n))
 | _=>False
theorem wK{pins:WT}{σ:St}{H:Hp}{s:WX}{T:String}{x:V}{v:Value}(I:Inv X pins σ H s)(r:RelV x v)(ty:tyV X.K T x H) :
  s.TypeIs v T/\∀a,v=.ref a->∃ob,s.heap.get? a=some ob/\ob.dict=none:=by
 cases x with
 | str z =>
  obtain⟨t,rfl⟩:=r;cases(show T = "str" from ty);exact⟨typeIs_str s z t,λ_ e=>nomatch e⟩
 | int i =>
  obtain⟨t,rfl⟩:=r;cases(show T = "int" from ty);exact⟨typeIs_int s i t,λ_ e=>nomatch e⟩
 | ref p =>
  cases r;rcases ty with⟨rfl,xs,hq⟩|⟨rfl,o,hk,hc,hd⟩|⟨rfl,hk⟩|⟨rfl,S,n,hk⟩
  ·obtain⟨its,_,pl,_⟩:=I.list hq;refine⟨pl.isList.typeIs,λa e=>?_⟩;cases e;obtain⟨o,n,e,c,hd,_⟩:=pl;exact⟨o,e,hd⟩
  ·refine⟨⟨o,I.kIn p o hk,hc⟩,λa e=>?_⟩;cases e;exact⟨o,I.kIn _ o hk,hd⟩
  ·have z:∃o,s.heap.get? p=some o/\o.ExactDict:=by
    rcases hk with⟨kvs,hk⟩|⟨kvs,hk⟩
    ·obtain⟨_,_,_,_,o,_,_,e,ex,_⟩:=I.hok p _ hk;exact⟨o,e,ex⟩
    ·obtain⟨_,_,_,_,o,_,_,e,ex,_⟩:=I.hok p _ hk;exact⟨o,e,ex⟩
   obtain⟨o,e,ex⟩:=z;refine⟨⟨o,e,ex.1⟩,λa e2=>?_⟩;cases e2;exact⟨o,e,ex.2.1⟩
  ·obtain⟨o,_,_,_,e,ex,_⟩:=I.hok p _ hk;refine⟨⟨o,e,ex.1⟩,λa e2=>?_⟩;cases e2;exact⟨o,e,ex.2.1⟩
 | _=>exact False.elim ty
noncomputable def DO(K:WV)(T:String)(r:V->List V->Hp->VK->Prop)(to:TE):TE:=λσ H Q=>to σ H λx H1=>tyV K T x H1/\r x [] H1 Q
noncomputable def tBM(K:WV)(T:String)(r:V->List V->Hp->VK->Prop)(to:TE)(t:TA):TE:=λσ H Q=>to σ H λx H1=>tyV K T x H1/\t σ H1 λxs H2=>r x xs H2 Q
variable{o e:Expr}{es:W7}{to:TE}{t:TA}{name:Str}{apos cpos:Pos}{T id:String}{r:V->List V->Hp->VK->Prop}
theorem JC(pa:PlainAttrs T)(slot:Slot T name id)(hty:typeOf (.builtin id)=pure (.type "method_descriptor"))(hm:MtR X id r)(ho:PE X o to)
  (hbase:attributeBase o name X.env (eval o X.env)=eval o X.env:=by rfl) (hline:(apos.endLine==cpos.line)=true:=by rfl):PE X (.Call (.Attribute o name apos) [] [] cpos) (DO X.K T r to):=by
 intro pins s σ H Q I h;refine wpAny_Call_method0_late hbase hline (thn (ho pins s σ H _ I h) λv s1 ⟨x,H1,I1,r1,ty,q1⟩=>?_);obtain⟨h1,h2⟩:=wK I1 r1 ty;exact⟨T,id,pa,slot,hty,h1,h2,Wg rfl (PySem.evalArgs_none (hm pins s1 σ H1 x [] v [] Q I1 r1 .nil q1))⟩
theorem Hs(pa:PlainAttrs T)(slot:Slot T name id)(hty:typeOf (.builtin id)=pure (.type "method_descriptor"))(hm:MtR X id r)(ho:PE X o to)(ha:PA X (e::es) t)
  (hbase:attributeBase o name X.env (eval o X.env)=eval o X.env:=by rfl)
  (hfew:((backTo cpos (starEach (e::es) X.env)).all (λx=>!x.1)&&(backToKw cpos (keywordEach [] X.env)).all (λx=>x.1.isSome)
  &&decide ((e::es).length+([]:List Keyword).length+(if([]:List Keyword).isEmpty then 0 else 1)<30))=true:=by rfl)
  (hline:(apos.endLine==cpos.line)=true:=by rfl) (hs:starEach (e::es) X.env=(false,eval e X.env)::starEach es X.env:=by rfl) (hplain:(backTo cpos (starEach es X.env)).any (·.1)=false:=by rfl) :
  PE X (.Call (.Attribute o name apos) (e::es) [] cpos) (tBM X.K T r to t):=by
 intro pins s σ H Q I h;refine wpAny_Call_method_late hbase hfew hline rfl (thn (ho pins s σ H _ I h) λv s1 ⟨x,H1,I1,r1,ty,q1⟩=>?_);obtain⟨h1,h2⟩:=wK I1 r1 ty;refine⟨T,id,pa,slot,hty,h1,h2,?_⟩;have hA:=ha cpos pins s1 σ H1 _ I1 q1;rw[hs] at hA ⊢;refine Wg (by show(false||(backTo cpos (starEach es X.env)).any (·.1))=false; rw[hplain]<;>rfl) (Calls.evalArgs_plain ?_);exact thn hA λus s2 ⟨vs,H2,I2,r2,q2⟩=>hm pins s2 σ H2 x vs v us Q I2 r1 r2 q2
/- xs.append(e),list.index on a module's tuple .. are MtR facts of 06m -/
end
end L2
namespace L2
open PySem PySem.Spec PyProof.Rows
noncomputable def MtM(X:Cx)(id:String)(r:V->List V->Hp->VK->Prop):Prop :=
 ∀(pins:WT) (s:WX) (σ:St) (H:Hp) (x:V) (xs:W8) (v:Value) (us:WW) (Q:VK),Inv X pins σ H s->RelV x v->Vals xs us->r x xs H Q ->
  wpAny (model X.prog X.w) X.A (call (.builtin id) (v::us)) (EP X pins σ Q) X.xe s
theorem Vals.one:∀{x:V} {us:WW},Vals [x] us->∃u,us=[u]/\RelV x u
 | _,_,.cons r .nil=>⟨_,rfl,r⟩
theorem Vals.two:∀{x y:V} {us:WW},Vals [x,y] us->∃u v,us=[u,v]/\RelV x u/\RelV y v:=λh=>by
 cases h with
 | cons r t=>
  cases t with
  | cons q t=>
   cases t;exact⟨_,_,rfl,r,q⟩
theorem Vals.zero:∀{us:WW},Vals [] us->us=[]
 | _,.nil=>rfl
theorem Vals.dropLast{xs:W8}{us:WW}(h:Vals xs us):Vals xs.dropLast us.dropLast:=by
 induction h with
 | nil=>exact .nil
 | cons r t ih =>
  cases t with
  | nil=>exact .nil
  | cons q t'=>exact .cons r ih
theorem Vals.reverse{xs:W8}{us:WW}(h:Vals xs us):Vals xs.reverse us.reverse:=by
 induction h with
 | nil=>exact .nil
 | cons r t ih=>rw[List.reverse_cons,List.reverse_cons]; exact Vals.append ih (.cons r .nil)
theorem AV{α:Type}(l:List α):l.eraseIdx (l.length-1)=l.dropLast:=by
 induction l with
 | nil=>rfl
 | cons a r ih =>
  cases r with
  | nil=>rfl
  | cons b r =>
   have e:(a::b::r).length-1=((b::r).length-1)+1:=by
    have h1:(a::b::r).length=r.length+2:=rfl;have h2:(b::r).length=r.length+1:=rfl;omega
   rw[e,List.eraseIdx_cons_succ,ih]
   all_goals rfl
section
variable{X:Cx}{pins:WT}{σ:St}{H:Hp}{s:WX}{l b:Addr}{xs ys zs:W8}
theorem Inv.mJ{its its':WW}{n:Nat}{f:Array Value->Array Value}{t':Nat}(I:Inv X pins σ H s)(hH:H l=some (.lst xs))
  (e:s.heap.get? l=some { cls:=.type "list",data:=.seq its.toArray n }) (hf:f its.toArray=its'.toArray) (hv:Vals ys its') (hz:ys.length<=sizeLine) :
  Inv X pins σ (upd H l (.lst ys)) { s with heap:=s.heap.update l (Obj.mapSeq f),toks:=t' }:=by
 have q:=PySem.IsL.update e f;rw[hf] at q;refine I.write (x:=l) (e:=l) (by rw[hH]; exact trivial) (.inl rfl) (λb' u hb hu=>(QI s.heap (Obj.mapSeq f) (Ne.symm hb)).trans hu) ⟨_,q⟩ ?_;exact⟨hz,its',_,hv,q⟩
theorem Inv.Jt{its:WW}{t':Nat}(I:Inv X pins σ H s)(hv:Vals ys its)(hz:ys.length<=sizeLine) :
  Inv X pins σ (upd H s.heap.objs.size (.lst ys)) { s with heap:=s.heap.push { cls:=.type "list",data:=.seq its.toArray },toks:=t' } :=
 I.laid (λ_ _ q=>Zg _ q) (Zm _) ⟨hz,its,0,hv,Zw _ rfl⟩
theorem Inv.fresh(I:Inv X pins σ H s):H s.heap.objs.size=none:=I.hok.fresh (Zm _)
theorem Inv.f_(I:Inv X pins σ H s)(hH:H l=some (.lst xs)):xs.length<=sizeLine/\∃(its:WW) (n:Nat),Vals xs its/\xs.length=its.length/\s.heap.get? l=some { cls:=.type "list",data:=.seq its.toArray n }:=by
 obtain⟨z,its,n,r,e⟩:=I.hok l _ hH;exact⟨z,its,n,r,r.length,e⟩
theorem Gn{n:Nat}(h:n<=sizeLine):Builtin.List.listTooLong n=false:=by
 unfold Builtin.List.listTooLong;exact Zt (by omega)
end
section
variable{X:Cx}
noncomputable def zI:V->List V->Hp->VK->Prop:=λx vs H Q=>∃l xs y,x=.ref l/\vs=[y]/\H l=some (.lst xs)/\xs.length<sizeLine/\Q .non (upd H l (.lst (xs++[y])))
theorem sr:MtM X "list.append" zI:=by
 intro pins s σ H x vs v us Q I rx rv h;obtain⟨l,xs,y,rfl,rfl,hH,hz,q⟩:=h;cases rx;obtain⟨u,rfl,ru⟩:=rv.one;obtain⟨z,its,n,r,hl,e⟩:=I.f_ hH;refine call_meets F.slot_list_append ⟨_,e,rfl⟩ F.entry_list_append (F.args_list_append_2 _ _) (PySem.list_append l its.toArray n u (by rw[Zk]; omega)) ⟨e,?_⟩;refine⟨.non,_,I.mJ (its':=its++[u]) hH e (by simp) (r.append (.cons ru .nil)) ?_,rfl,q⟩;rw[Zn,Xv];omega
noncomputable def Dv:V->List V->Hp->VK->Prop:=λx vs H Q=>∃l b xs zs,x=.ref l/\vs=[.ref b]/\H l=some (.lst xs)/\H b=some (.lst zs)/\xs.length+zs.length<=sizeLine/\Q .non (upd H l (.lst (xs++zs)))
theorem HJ:MtM X "list.extend" Dv:=by
 intro pins s σ H x vs v us Q I rx rv h;obtain⟨l,b,xs,zs,rfl,rfl,hH,hB,hz,q⟩:=h;cases rx;obtain⟨u,rfl,ru⟩:=rv.one;cases ru;obtain⟨z,its,n,r,hl,e⟩:=I.f_ hH;obtain⟨z2,its2,n2,r2,hl2,e2⟩:=I.f_ hB;have hsz:its.toArray.size+its2.toArray.size<=sizeLine:=by rw[Zk,Zk]; omega
 have hlong:¬(!its.toArray.isEmpty&&Builtin.List.listTooLong (its.toArray.size+its2.toArray.size))=true:=by
  rw[Gn hsz,WB];exact Zz
 refine call_meets F.slot_list_extend ⟨_,e,rfl⟩ F.entry_list_extend (F.args_list_extend_2 _ _)
  (AutoSeq1.list_extend_list_list_0 l its.toArray n b its2.toArray n2 hlong (by rw[Zk]; omega) (by omega)) ⟨e,e2,?_⟩
 refine⟨.non,_,I.mJ (its':=its++its2) hH e (by simp) (r.append r2) ?_,rfl,q⟩;rw[Zn];omega
noncomputable def Dk:V->List V->Hp->VK->Prop:=λx vs H Q=>∃l xs y,x=.ref l/\vs=[]/\H l=some (.lst xs)/\xs[xs.length-1]?=some y/\Q y (upd H l (.lst xs.dropLast))
theorem Aq:MtM X "list.pop" Dk:=by
 intro pins s σ H x vs v us Q I rx rv h;obtain⟨l,xs,y,rfl,rfl,hH,hy,q⟩:=h;cases rx;have hus:=rv.zero;subst hus;obtain⟨z,its,n,r,hl,e⟩:=I.f_ hH;obtain⟨u,hu,ru⟩:=r.get hy
 have hy':its.toArray[its.toArray.size-1]?=some u:=by
  show its.toArray[its.length-1]?=some u;rw[<- ZR,<- hl];exact hu
 refine call_meets F.slot_list_pop ⟨_,e,rfl⟩ F.entry_list_pop (F.args_list_pop_1 _) (MeetsSeq.list_pop_last l its.toArray n u hy' (by rw[Zk]; omega)) ⟨e,?_⟩;refine⟨y,_,I.mJ (its':=its.dropLast) hH e ?_ r.dropLast ?_,ru,q⟩
 ·show its.toArray.eraseIdxIfInBounds (its.toArray.size-1)=its.dropLast.toArray;rw[Zk,List.eraseIdxIfInBounds_toArray,AV]
 ·rw[List.length_dropLast];omega
noncomputable def E9:R2:=λx y H Q=>∃l b xs zs,x=.ref l/\y=.ref b/\H l=some (.lst xs)/\H b=some (.lst zs)/\xs.length+zs.length<=sizeLine/\∀p,H p=none->Q (.ref p) (upd H p (.lst (xs++zs)))
theorem Cn:OpR X (binaryOp .Add) E9:=by
 intro pins s σ H x y v u Q I rx ry h;obtain⟨l,b,xs,zs,rfl,rfl,hH,hB,hz,q⟩:=h;cases rx;cases ry;obtain⟨z,its,n,r,hl,e⟩:=I.f_ hH;obtain⟨z2,its2,n2,r2,hl2,e2⟩:=I.f_ hB;refine PySem.P.add_list e e2 ?_ (by rw[Zk,Zk]; omega);have ea:its.toArray++its2.toArray=(its++its2).toArray:=by simp
 rw[ea];exact⟨.ref _,_,I.Jt (t':=s.toks) (r.append r2) (by rw[Zn]; omega),rfl,q _ I.fresh⟩
end
section
variable{prog:WZ}{w:W2}{A:Around}{E:WS}{s:WX}
end
section
variable{X:Cx}
end
end L2
namespace Att
open PySem PySem.W PySem.Calls PyProof.Rows
theorem HN{P:Params}{h:Heap}:∀(ns:WU) (vs:WW),WellAll P h vs (ns.map WData.int)->IntsAre vs ns:=by
 intro ns
 induction ns with
 | nil =>
  intro vs w;rw[Qw] at w;cases w;exact .nil
 | cons n ns ih =>
  intro vs w;rw[ZI] at w
  cases w with
  | cons a b =>
   cases a;exact .cons _ _ (ih _ b)
theorem Bs{l:OpenLaw}{n:Nat}(hn:l.most=some n){P:Params}{h:Heap}{args:List WData}{vals:WW}
  (hpre:l.row.toRowW.claim.pre args=true) (hwl:WellAll P h vals args) :
  ∃a vs ns,vals=[Value.ref a]/\args=[WData.list (ns.map WData.int)]/\h.get? a=some { cls:=.type "list",data:=.seq vs.toArray }/\IntsAre vs ns/\ns.length<=n:=by
 have hsh:WShape.hasAll [] args [.list .int]=true:=(pre_splitW hpre).1;have hc:l.pre.holds [] { args:=args }=true:=(pre_splitW hpre).2;obtain⟨d,r,rfl,h1,h2⟩:=hasAllW_cons hsh;obtain rfl:=hasAllW_nil h2;obtain⟨xs,rfl,h3⟩:=hasW_list h1;obtain⟨ns,rfl⟩:=items_int h3
 have hlen:ns.length<=n:=by
  unfold OpenLaw.pre at hc
  have h4:(WTm.not (.lt (.lit (.int (n:Int))) (.len (.arg 0)))).holds [] { args:=[.list (ns.map .int)] }=true:=by
   have h4:=(holds_andW hc).1;rw[hn] at h4;exact h4
  have h5:=condW_of h4 (w_not (w_lt w_lit (w_len_list (w_arg rfl))));rw[Zb] at h5;refine Nat.le_of_not_lt λq=>?_
  have q':(n:Int)<((ns.length:Nat):Int):=by omega
  first
   | (rw[Zj q'] at h5; exact absurd h5 (by decide))
   | (simp at h5; omega)
 cases hwl with
 | cons w1 w2 =>
  cases w2
  cases w1 with
  | list ho hall=>exact⟨_,_,ns,rfl,rfl,ho,HN ns _ hall,hlen⟩
theorem EY(l:OpenLaw)(args:List WData):l.row.toRowW.claim.post args (.bool true) args=true :=
 postW_of (r:=l.row.toRowW) (X:=(true==true))
  (show WShape.has [] (.bool true) .bool=true by first|rfl|decide|simp[WShape.has,WShape.arms,WShape.armsAll])
  (show(WTm.eq .res (.lit (.bool true))).value [] { args:=args,res:=some (.bool true),after:=args }=some (.bool (true==true)) from w_eq_bool (w_res rfl) w_lit) rfl
theorem HE{l:OpenLaw}{n:Nat}{q:WZ}{loose:W4}{XP:(Str->Option Value)->Heap->Prop}{YP:World->Heap->Prop}{d:DefRec}
  (hn:l.most=some n) (hdf:d.params.defaults=[])
  (call:∀(w:W2) (s₀ s₁:WX) (mg mb:W1) (fa:Addr) (o:Obj) (pm cd doc:Value) (a:Addr) (vs:WW) (ns:WU),
   Ground q loose [] XP w s₀ mg mb s₁.heap->YP w s₁.heap ->
   s₁.heap.get? fa=some o->o.data=.func (docDef d.name d.params d.body d.scope pm cd doc)->s₁.heap.CodeRec cd d.name->mg d.name=some (.ref fa) ->
   s₁.heap.get? a=some { cls:=.type "list",data:=.seq vs.toArray }->IntsAre vs ns->ns.length<=n->s₁.gens=#[] ->
   codeAny (model l.prog w) callerA (.call (.ref fa) ⟨[.ref a],[]⟩) (λr s'=>r=.ok (.ret (.bool true))/\OldK s₁.heap s'.heap/\s'.os=s₁.os/\AllBare s'.gens) s₁) :
  WalkO q loose XP YP l.row.toRowW d [] (λf vs=>PySem.call f vs):=by
 intro w s₀ s₁ mg mb G Y fa o pm cd doc dV kV ho hd hcd hD hmg hg args vals as hpre hlay hrd hwl hlo;obtain rfl:dV=.none:=Dflts.none hD hdf;obtain rfl:kV=.none:=Dflts.noKw hD;obtain⟨a,vs,ns,rfl,rfl,hobj,hints,hlen⟩:=Bs hn hpre hwl;refine enter_call (Wp (call w s₀ s₁ mg mb fa o pm cd doc a vs ns G Y ho (fd_plain hd) hcd hmg hobj hints hlen hg) λr s' hq=>?_);obtain⟨rfl,h2,h3,h4⟩:=hq;exact⟨.inl ⟨.bool true,.bool true,[],rfl,λ_=>rfl,.bool true,EY l _,λ_=>⟨List.Pairwise.nil,λ_ hm=>(nomatch hm)⟩⟩,h2,h3,h4⟩
section
variable{prog:WZ}{w:W2}{A:Around}{E:WS}{s:WX}{K:Frag}
end
end Att
namespace L2
open PySem PySem.Spec PyProof.Rows
theorem pL:∀{vs:WW} {ns:WU},IntsAre vs ns->Vals (ns.map V.int) vs
 | _,_,.nil=>.nil
 | _,_,.cons n t h=>.cons ⟨t,rfl⟩ (pL h)
def jt(H:Hp):Prop:=∀b,H b=none\/∃o xs,H b=some (.frz o (.lst xs))
theorem DX{P:WZ}{w:W2}{K:WV}{mg mb:W1}{CX:CXT}{k:Nat}{fa a:Addr}{fd:FuncData}{x:Str}{sp:Sp}{s₁:WX}{vs:WW}{ns:WU}
  (KX:K.In s₁.heap) (hns:s₁.heap.Ns mainGlobals mg) (hb:s₁.heap.Ns builtinsNs mb) (hbb:∀x:Str,x≠"__name__"->mb x=bootBuiltins x) (hlim:s₁.heap.NoLimit) (hg:s₁.gens=#[])
  (ha:s₁.heap.get? a=some { cls:=.type "list",data:=.seq vs.toArray }) (hi:IntsAre vs ns) (hl:ns.length<=sizeLine) (hr:bY k callerA)
  (F:∀base:Heap,K.In base->base.Ns mainGlobals mg->d8 P w K mg base CX k fa fd [x] sp) (hbind:∀(s:WX) (u:Value),BindsTo s fd ⟨[u],[]⟩ [(x,u)])
  (hsp:∀H:Hp,jt H->SqL K H a (ns.map V.int)->sp [.ref a] H (λv _=>v=.bl true) λ_ _ _=>False)
  (hCX:∀H e s',CX [] H s₁ (λ_ _ _=>False) e s'->False) :
  codeAny (model P w) callerA (.call (.ref fa) ⟨[.ref a],[]⟩) (λr s'=>r=.ok (.ret (.bool true))/\OldK s₁.heap s'.heap/\s'.os=s₁.os/\AllBare s'.gens) s₁:=by
 have rv:=pL hi;have lenV:=hi.length
 have core:∀H:Hp,jt H->SqL K H a (ns.map V.int)->HOk P w H s₁.heap->(∀b,H b≠none->b=a)->(H a≠none->K.lookup a=none) ->
   codeAny (model P w) callerA (.call (.ref fa) ⟨[.ref a],[]⟩) (λr s'=>r=.ok (.ret (.bool true))/\OldK s₁.heap s'.heap/\s'.os=s₁.os/\AllBare s'.gens) s₁:=by
  intro H hO hS hok hA hK;have base_of:∀{b:Addr} {o:Obj},s₁.heap.get? b=some o->H b=none->(d7 s₁.heap H).get? b=some o:=λe n=>Gm e n
  have noA:∀{b:Addr} {o:Obj} {es:Array DictEntry} {ep:Nat},s₁.heap.get? b=some o->o.data=.dict es ep->H b=none:=λ{b o es ep} e d=>by
   cases q:H b with
   | none=>rfl
   | some u =>
    have e':b=a:=hA b (by rw[q]; simp);subst e';rw[ha] at e; cases e;have d':Data.seq vs.toArray _=Data.dict es ep:=d;cases d'
  have nsK:∀{b:Addr} {m:W1},s₁.heap.Ns b m->(d7 s₁.heap H).Ns b m:=λ{b m} ⟨o,es,ep,e,d,r⟩=>⟨o,es,ep,base_of e (noA e d),d,r⟩
  have hKb:K.In (d7 s₁.heap H):=λb o e=>base_of (KX b o e) (by
   cases q:H b with
   | none=>rfl
   | some u =>
    have e':b=a:=hA b (by rw[q]; simp);subst e';rw[hK (by rw[q]; simp)] at e; cases e)
  have hM:Mod K mg (d7 s₁.heap H):=⟨hKb,nsK hns,⟨mb,nsK hb,hbb⟩,let⟨mc,h1,h2⟩:=hlim; ⟨mc,nsK h1,h2⟩⟩
  have e0:jW P w K mg (d7 s₁.heap H) callerA [] s₁ H:=⟨rfl,hM,λb o e=>Ey e,Nat.le_of_eq (C2 _ _),trivial,λb hb=>absurd (show b∈([]:List Addr) from hb) (by simp),hok,.of_eq hg⟩
  refine Wp ((F _ hKb (nsK hns)).run callerA [] s₁ H ⟨[.ref a],[]⟩ [.ref a] [.ref a] _ _ hr e0 (hbind s₁ (.ref a)) (.cons rfl .nil) (hsp H hO hS)) λr s' h=>?_
  cases r with
  | error e=>exact(hCX H e s' h).elim
  | ok fl =>
   cases fl with
   | next=>exact False.elim h
   | brk=>exact False.elim h
   | cont=>exact False.elim h
   | ret u =>
    obtain⟨v,H',os,bare,un,hok',r',q⟩:=h;have q':v=.bl true:=q;subst q';obtain rfl:u=Value.bool true:=r';refine⟨rfl,OldK.of_keep λb o e=>?_,os,bare⟩
    cases q:H b with
    | none=>exact un.keep b o e q (by intro z; exact absurd (show b∈([]:List Addr) from z) (by simp)) (by simp)
    | some u =>
     rcases hO b with z|⟨ob,xs,z⟩
     ·rw[q] at z; cases z
     ·have z2:=un.frzs b ob _ z;obtain⟨e1,_⟩:=hok b _ z;obtain⟨e2,_⟩:=hok' b _ z2;rw[e] at e1; cases e1;exact e2
 cases hk:K.lookup a with
 | some o =>
  have e:=KX a o hk;rw[ha] at e;cases e;refine core (λ_=>none) (λ_=>.inl rfl) (.inr ⟨_,vs.toArray,_,hk,rfl,rfl,rfl,by rw[Zk,lenV]; exact hl,by simpa using rv⟩) (λb u z=>by have z':(none:Option HO)=some u:=z; cases z') (λb z=>absurd rfl z) λz=>absurd rfl z
 | none =>
  refine core (λb=>if b=a then some (.frz { cls:=.type "list",data:=.seq vs.toArray } (.lst (ns.map V.int))) else none) (λb=>?_) (.inl (.inr ⟨{ cls:=.type "list",data:=.seq vs.toArray },Zf rfl⟩)) (λb u z=>?_) (λb z=>?_) λ_=>hk
  ·by_cases hb:b=a
   ·exact .inr ⟨_,_,Zf hb⟩
   ·exact .inl (Zh hb)
  ·by_cases hb:b=a
   ·have z':=(Zf hb).symm.trans z;cases z';subst hb;exact⟨ha,by rw[Zb]; exact hl,vs,_,rv,ha⟩
   ·have z':=(Zh hb).symm.trans z;cases z'
  ·by_cases hb:b=a
   ·exact hb
   ·exact absurd (Zh hb) z
end L2
namespace L2
open PySem PySem.Spec PyProof.Rows
theorem tW{l:PySem.W.OpenLaw}{n k:Nat}{q:WZ}{loose:W4}{XP:(Str->Option Value)->Heap->Prop}{YP:World->Heap->Prop}{d:DefRec}{K:Params->PySem.W.Frag}{CX:World->CXT}{sp:World->Sp}{x:Str}
  (hn:l.most=some n) (hn2:n<=sizeLine) (hdf:d.params.defaults=[]) (hr:bY k callerA)
  (hY:∀(w:W2) (h:Heap),YP w h->(K w.params).In h)
  (F:∀(w:W2) (mg:W1) (fa:Addr) (h:Heap),(K w.params).In h->h.Ns mainGlobals mg->mg d.name=some (.ref fa) ->
   ∃fd:FuncData,(∀(s:WX) (u:Value),BindsTo s fd ⟨[u],[]⟩ [(x,u)]) /\
    ∀base:Heap,(K w.params).In base->base.Ns mainGlobals mg->d8 l.prog w (K w.params) mg base (CX w) k fa fd [x] (sp w))
  (hsp:∀(w:W2) (H:Hp) (a:Addr) (ns:WU),ns.length<=n->jt H->SqL (K w.params) H a (ns.map V.int)->sp w [.ref a] H (λv _=>v=.bl true) λ_ _ _=>False)
  (hCX:∀(w:W2) (H:Hp) (s:WX) (e:Value) (s':WX),CX w [] H s (λ_ _ _=>False) e s'->False) :
  PySem.W.WalkO q loose XP YP l.row.toRowW d [] (λf vs=>PySem.call f vs):=by
 refine Att.HE hn hdf λw s₀ s₁ mg mb fa o pm cd doc a vs ns G Y ho hd hcd hmg hobj hints hlen hg=>?_
 have KX:=hY w _ Y;obtain⟨fd,hb,hF⟩:=F w mg fa _ KX G.T.g hmg;exact DX KX G.T.g G.T.b G.T.builtins G.T.nolimit hg hobj hints (Z2 hlen hn2) hr hF hb (λH hO hS=>hsp w H a ns hlen hO hS) λH e s'=>hCX w H s₁ e s'
theorem Ka{l:PySem.W.OpenLaw}{n k:Nat}{q:WZ}{loose:W4}{XP:(Str->Option Value)->Heap->Prop}{YP:World->Heap->Prop}{d:DefRec}{K:Params->PySem.W.Frag}{CX:CXT}{sp:PySem.W.Frag->Sp}{x:Str}
  (hn:l.most=some n) (hn2:n<=sizeLine) (hdf:d.params.defaults=[]) (hr:bY k callerA)
  (hY:∀(w:W2) (h:Heap),YP w h->(K w.params).In h)
  (F:∀(w:W2) (mg:W1) (fa:Addr) (h:Heap),(K w.params).In h->h.Ns mainGlobals mg->mg d.name=some (.ref fa) ->
   ∃fd:FuncData,(∀(s:WX) (u:Value),BindsTo s fd ⟨[u],[]⟩ [(x,u)]) /\
    ∀base:Heap,(K w.params).In base->base.Ns mainGlobals mg->d8 l.prog w (K w.params) mg base CX k fa fd [x] (sp (K w.params)))
  (hsp:∀(K:WV) (H:Hp) (a:Addr) (ns:WU),ns.length<=n->jt H->SqL K H a (ns.map V.int)->sp K [.ref a] H (λv _=>v=.bl true) λ_ _ _=>False)
  (hCX:∀(H:Hp) (s:WX) (e:Value) (s':WX),CX [] H s (λ_ _ _=>False) e s'->False) :
  PySem.W.WalkO q loose XP YP l.row.toRowW d [] (λf vs=>PySem.call f vs) :=
 tW (K:=K) (CX:=λ_=>CX) (sp:=λw=>sp (K w.params)) hn hn2 hdf hr hY F (λw H a ns h1 h2 h3=>hsp (K w.params) H a ns h1 h2 h3) λ_ H s e s'=>hCX H s e s'
end L2
namespace L2
open PySem PySem.Spec PyProof.Rows
noncomputable def c8(s:Stmt):Arguments:=match s with
 | .FunctionDef _ a _ _ _ _ _ _ _ _=>a
 | _=>{ posonlyargs:=[],args:=[],vararg:=none,kwonlyargs:=[],kw_defaults:=[],kwarg:=none,defaults:=[] }
noncomputable def jh(s:Stmt):List Stmt:=match s with
 | .FunctionDef _ _ b _ _ _ _ _ _ _=>b
 | _=>[]
noncomputable def i7(s:Stmt):Scope:=match s with
 | .FunctionDef _ _ _ _ _ _ sc _ _ _=>sc
 | _=>{ kind:=.function,names:=[],isGenerator:=false,isCoroutine:=false }
structure Fun(K:WV)(x qual:Str)(st:Stmt)(f:Addr)(fd:FuncData):Prop where
 ex:∃(oc:Value) (od:Option Addr) (kV doc pm:Value) (an:Option Addr) (cdv ct:Value) (osl:Array (Option Value)),
  fd=PySem.W.fnOf x qual (c8 st) (jh st) (i7 st) .none kV doc pm an cdv ct/\K.lookup f=some ⟨oc,od,.func fd,osl⟩/\PySem.W.codeIn K cdv qual=true
 kp:PySem.W.keepIn K (.ref f)=true
section
variable{P:WZ}{w:W2}{K:WV}{mg:W1}{base:Heap}
theorem Fun.binds{x qual:Str}{st:Stmt}{f:Addr}{fd:FuncData}{ps:W4}(F:Fun K x qual st f fd)
  (h:∀(kV doc pm:Value) (an:Option Addr) (cdv ct:Value) (us:WW),us.length=ps.length->bindArgs (PySem.W.fnOf x qual (c8 st) (jh st) (i7 st) .none kV doc pm an cdv ct) ⟨us,[]⟩=pure (ps.zip us)):Binds K fd ps []:=by
 obtain⟨oc,od,kV,doc,pm,an,cdv,ct,osl,rfl,lk,hcd⟩:=F.ex;exact .all (h kV doc pm an cdv ct)
theorem BR{x qual:Str}{st:Stmt}{f:Addr}{oc:Value}{od an:Option Addr}{osl:Array (Option Value)}{kV doc pm cdv ct:Value}(l:K.lookup f=some ⟨oc,od,.func (PySem.W.fnOf x qual (c8 st) (jh st) (i7 st) .none kV doc pm an cdv ct),osl⟩)
  (c:PySem.W.codeIn K cdv qual=true) (k:PySem.W.keepIn K (.ref f)=true):Fun K x qual st f (PySem.W.fnOf x qual (c8 st) (jh st) (i7 st) .none kV doc pm an cdv ct):=⟨⟨oc,od,kV,doc,pm,an,cdv,ct,osl,rfl,l,c⟩,k⟩
end
section
variable{X:Cx}
end
theorem Cu{A B:Prop}(h:B):if false=true then A else B:=by
 rw[Zh Zz];exact h
theorem Ab{A B:Prop}(h:A):if true=true then A else B:=by
 rw[Zf rfl];exact h
end L2

namespace L2
open PySem PySem.Spec PyProof.Rows
section
variable{κ:Type}[DecidableEq κ]
noncomputable def b8(kvs:List (κ×V))(k:κ):Option V:=(kvs.find? λkv=>decide (kv.1=k)).map (·.2)
noncomputable def putK(kvs:List (κ×V))(k:κ)(v:V):List (κ×V) :=
 if(kvs.any λkv=>decide (kv.1=k))=true then kvs.map (λkv=>if kv.1=k then(kv.1,v) else kv) else kvs++[(k,v)]
theorem mZ{p:κ×V}{r:List (κ×V)}{k:κ}(e:p.1=k):b8 (p::r) k=some p.2:=by simp[b8,ZU,e]
theorem n9{p:κ×V}{r:List (κ×V)}{k:κ}(e:¬p.1=k):b8 (p::r) k=b8 r k:=by simp[b8,ZU,e]
theorem vZ(k:κ):∀kvs:List (κ×V),(kvs.any λkv=>decide (kv.1=k))=(b8 kvs k).isSome
 | []=>rfl
 | p::r=>by
  rw[X8]
  by_cases e:p.1=k
  ·simp only[mZ e,Zj e,Bool.true_or,Option.isSome_some]
  ·rw[n9 e,Zt e,Bool.false_or]; exact vZ k r
theorem qI(kvs:List (κ×V))(k:κ)(v:V):(putK kvs k v).length<=kvs.length+1:=by
 unfold putK;split
 ·rw[Zb]; omega
 ·rw[Zn,Zy,Xh]; omega
theorem dH.jq{o:Option V}{u:Option Value}(r:dH o u):o.isSome=u.isSome:=by
 cases o with
 | none=>cases u with
  | none=>rfl
  | some _=>exact(show False from r).elim
 | some _=>cases u with
  | none=>exact(show False from r).elim
  | some _=>rfl
theorem KV.val{kvs:List (κ×V)}{vs:List (κ×Value)}(r:KV kvs vs)(k:κ):dH (b8 kvs k) (valueAt vs k):=by
 unfold KV at r
 induction r with
 | nil=>exact True.intro
 | @cons p q ps qs h t ih =>
  obtain⟨h1,h2⟩:=h
  by_cases e:p.1=k
  ·have e':q.1=k:=h1.symm.trans e;have b:valueAt (q::qs) k=some q.2:=by simp[valueAt,ZU,e']
   rw[mZ e,b]; exact h2
  ·have e':¬q.1=k:=λz=>e (h1.trans z)
   have b:valueAt (q::qs) k=valueAt qs k:=by simp[valueAt,ZU,e']
   rw[n9 e,b]; exact ih
theorem KV.any{kvs:List (κ×V)}{vs:List (κ×Value)}(r:KV kvs vs)(k:κ):(kvs.any λkv=>decide (kv.1=k))=vs.any λkv=>decide (kv.1=k):=by
 unfold KV at r
 induction r with
 | nil=>rfl
 | cons h t ih=>rw[X8,X8,ih,h.1]
theorem KV.repl{kvs:List (κ×V)}{vs:List (κ×Value)}(r:KV kvs vs)(k:κ){y:V}{u:Value}(ry:RelV y u) :
  KV (kvs.map λkv=>if kv.1=k then(kv.1,y) else kv) (vs.map λkv=>if kv.1=k then(kv.1,u) else kv):=by
 unfold KV at r ⊢
 induction r with
 | nil=>exact .nil
 | @cons p q ps qs h t ih =>
  rw[ZI,ZI];refine .cons ?_ ih;obtain⟨h1,h2⟩:=h
  by_cases e:p.1=k
  ·rw[Zf e,Zf (h1.symm.trans e)]; exact⟨h1,ry⟩
  ·rw[Zh e,Zh (λz=>e (h1.trans z))]; exact⟨h1,h2⟩
theorem KV.put{kvs:List (κ×V)}{vs:List (κ×Value)}(r:KV kvs vs)(k:κ){y:V}{u:Value}(ry:RelV y u):KV (putK kvs k y) (stored vs k u):=by
 unfold putK stored;rw[r.any k]
 by_cases e:(vs.any λkv=>decide (kv.1=k))=true
 ·rw[Zf e,Zf e]; exact r.repl k ry
 ·rw[Zh e,Zh e]; exact Paired.snoc r ⟨rfl,ry⟩
theorem KV.length{kvs:List (κ×V)}{vs:List (κ×Value)}(r:KV kvs vs):kvs.length=vs.length:=Wj r
end
theorem iG{P:WZ}{w:W2}{k:Key}{u:Value}(r:RelV (kV k) u):(bJ P w).is k u=true:=by
 cases k with
 | inl i=>obtain⟨t,e⟩:=(show ∃t,u=Value.int i t from r); subst e; exact AJ P w i t
 | inr x=>obtain⟨t,e⟩:=(show ∃t,u=Value.str x t from r); subst e; exact Bx P w x t
theorem qD{P:WZ}{w:W2}:∀{ks:List Key} {us:WW},Vals (ks.map kV) us->ItemsAre (bJ P w) ks us
 | [],_,r=>by rw[Qw] at r; cases r; exact .nil
 | k::ks,_,r=>by
  rw[ZI] at r
  cases r with
  | cons h t=>exact .cons (iG h) (qD t)
abbrev KT(H:Hp):List (List Key×V)->List (List Key×Addr×Value)->Prop:=Paired λp q=>p.1=q.1/\H q.2.1=some (.tup (p.1.map kV))/\RelV p.2 q.2.2
theorem KT.val{H:Hp}{kvs:W9}{xs:List (List Key×Addr×Value)}(r:KT H kvs xs)(k:List Key):dH (b8 kvs k) ((atKey xs k).map (·.2)):=by
 induction r with
 | nil=>exact True.intro
 | @cons p q ps qs h t ih =>
  obtain⟨h1,_,h2⟩:=h
  by_cases e:p.1=k
  ·have e':q.1=k:=h1.symm.trans e;have b:atKey (q::qs) k=some q.2:=by simp[atKey,ZU,e']
   rw[mZ e,b]; exact h2
  ·have e':¬q.1=k:=λz=>e (h1.trans z)
   have b:atKey (q::qs) k=atKey qs k:=by simp[atKey,ZU,e']
   rw[n9 e,b]; exact ih
theorem KT.repl{H:Hp}{kvs:W9}{xs:List (List Key×Addr×Value)}(r:KT H kvs xs)(k:List Key){y:V}{u:Value}(ry:RelV y u) :
  KT H (kvs.map λkv=>if kv.1=k then(kv.1,y) else kv) (xs.map (putAt k u)):=by
 induction r with
 | nil=>exact .nil
 | @cons p q ps qs h t ih =>
  rw[ZI,ZI];refine .cons ?_ ih;obtain⟨h1,h2,h3⟩:=h;unfold putAt
  by_cases e:p.1=k
  ·rw[Zf e,Zf (h1.symm.trans e)]; exact⟨h1,h2,ry⟩
  ·rw[Zh e,Zh (λz=>e (h1.trans z))]; exact⟨h1,h2,h3⟩
theorem KT.put{H:Hp}{kvs:W9}{xs:List (List Key×Addr×Value)}(r:KT H kvs xs)(k:List Key){b:Addr}{y:V}{u:Value}(hb:H b=some (.tup (k.map kV)))(ry:RelV y u) :
  KT H (putK kvs k y) (storedH xs k b u):=by
 have e:(kvs.any λkv=>decide (kv.1=k))=(atKey xs k).isSome:=by
  rw[vZ,(r.val k).jq,Wc]
 unfold putK storedH;rw[e]
 by_cases q:(atKey xs k).isSome=true
 ·rw[Zf q,Zf q]; exact r.repl k ry
 ·rw[Zh q,Zh q]; exact Paired.snoc r ⟨rfl,hb,ry⟩
theorem KT.keeps{H H':Hp}{kvs:W9}{xs:List (List Key×Addr×Value)}(r:KT H kvs xs)(ht:∀b ys,H b=some (.tup ys)->H' b=some (.tup ys)):KT H' kvs xs :=
 Paired.pH r λ_ _ z=>⟨z.1,ht _ _ z.2.1,z.2.2⟩
section
variable{P:WZ}{w:W2}{H:Hp}{h:Heap}{a:Addr}
theorem pU{u:HO}(ok:HOk P w H h)(e:Rd H a u):a_ P w H h a u:=e.ok ok
theorem i8{kvs:List (Key×V)}(ok:HOk P w H h)(e:Rd H a (.dK kvs)):kvs.length<=sizeLine/\(a==sysModules)=false/\∃vs,KV kvs vs/\h.DictOf (bJ P w) a vs :=
 show a_ P w H h a (.dK kvs) from pU ok e
theorem xT{kvs:List (Key×V)}(ok:HOk P w H h)(e:H a=some (.dK kvs)):kvs.length<=sizeLine/\(a==sysModules)=false/\∃vs,KV kvs vs/\h.DictOf (bJ P w) a vs:=i8 ok (.inl e)
theorem jw{ks:List Key}(ok:HOk P w H h)(e:H a=some (.tup (ks.map kV))):(tupleKind (bJ P w)).is h ks a:=by
 obtain⟨_,its,r,o,h1,h2,n,h3⟩:=(show a_ P w H h a (.tup (ks.map kV)) from ok a _ e)
 exact⟨o,its.toArray,n,h1,h2,h3,by simpa using qD r⟩
theorem iz{kvs:W9}(ok:HOk P w H h)(e:Rd H a (.dT kvs)):kvs.length<=sizeLine/\(a==sysModules)=false /\
  ∃xs,KT H kvs xs/\h.DictOfH (tupleKind (bJ P w)) a xs:=by
 obtain⟨z,y,xs,r,o,es,ep,h1,h2,h3,h4,h5⟩:=(show a_ P w H h a (.dT kvs) from pU ok e)
 refine⟨z,y,xs,r,o,es,ep,h1,h2,h3,h4,λx hx=>?_,h5⟩
 have all:∀{l:W9} {m:List (List Key×Addr×Value)},KT H l m->∀x∈m,(tupleKind (bJ P w)).is h x.1 x.2.1:=by
  intro l m q
  induction q with
  | nil=>intro x hx; exact nomatch hx
  | @cons p q ps qs hq t ih =>
   intro x hx;rcases Zx.mp hx with e|hx
   ·subst e;exact jw ok (by rw[<- hq.1]; exact hq.2.1)
   ·exact ih x hx
 exact all r x hx
theorem y9{kvs:W9}(ok:HOk P w H h)(e:H a=some (.dT kvs)):kvs.length<=sizeLine/\(a==sysModules)=false /\
  ∃xs,KT H kvs xs/\h.DictOfH (tupleKind (bJ P w)) a xs:=iz ok (.inl e)
end
noncomputable def fR(H:Hp)(a:Addr)(y:V)(r:Option V):Prop :=
 (∃kvs k,Rd H a (.dK kvs)/\y=kV k/\r=b8 kvs k)\/∃kvs k b,Rd H a (.dT kvs)/\y=.ref b/\H b=some (.tup (k.map kV))/\r=b8 kvs k
noncomputable def jx(H:Hp)(a:Addr)(y v:V)(H':Hp):Prop :=
 (∃kvs k,H a=some (.dK kvs)/\y=kV k/\kvs.length<sizeLine/\H'=upd H a (.dK (putK kvs k v))) \/
 ∃kvs k b,H a=some (.dT kvs)/\y=.ref b/\H b=some (.tup (k.map kV))/\kvs.length<sizeLine/\H'=upd H a (.dT (putK kvs k v))
theorem jx.t{H:Hp}{a b:Addr}{kvs:W9}{k:List Key}{v:V}(e:H a=some (.dT kvs))(eb:H b=some (.tup (k.map kV)))(hl:kvs.length<sizeLine) :
  jx H a (.ref b) v (upd H a (.dT (putK kvs k v))):=.inr ⟨kvs,k,b,e,rfl,eb,hl,rfl⟩
section
variable{X:Cx}{pins:WT}{σ:St}{H:Hp}{s:WX}{a:Addr}{y v:V}{u r:Value}{o:Option V}{A:Around}{E:WS}
theorem Inv.big(I:Inv X pins σ H s):sysModules<s.heap.objs.size:=by
 have h:mainGlobals<s.heap.objs.size:=(I.mod.glob.keeps I.bk).lt;exact Qj (by decide) h
theorem IP{Q:WS}(hu:A.units+1<cLine)(I:Inv X pins σ H s)(g:fR H a y (some v))(ry:RelV y u)(h:∀w' s',Inv X pins σ H s'->RelV v w'->Q w' s') :
  wpAny (model X.prog X.w) A (getItem (.ref a) u) Q E s:=by
 rcases g with⟨kvs,k,e,ey,l⟩|⟨kvs,k,b,e,ey,eb,l⟩
 ·subst ey;obtain⟨z,hd,vs,rel,dd⟩:=i8 I.hok e;obtain⟨w',hw,rw'⟩:=dH.some_of (v:=v) (o:=valueAt vs k) (by rw[l]; exact rel.val k);exact wpAny_getItem_of (iG ry) dd.mapOf hw (h w' _ (I.tok _) rw')
 ·subst ey;cases(show u=Value.ref b from ry);obtain⟨z,hd,xs,rel,dd⟩:=iz I.hok e;obtain⟨w',hw,rw'⟩:=dH.some_of (v:=v) (o:=(atKey xs k).map (·.2)) (by rw[l]; exact rel.val k);obtain⟨p,hp,hp2⟩:=ZG.mp hw;refine wpAny_getItem_heap (Q2 hu) (jw I.hok eb) dd hp ?_;rw[hp2];exact h w' _ (I.tok _) rw'
theorem Hh{Q:WS}(hu:A.units+1<cLine)(I:Inv X pins σ H s)(g:fR H a y o)(ry:RelV y u)(h:∀s',Inv X pins σ H s'->Q (.bool o.isSome) s') :
  wpAny (model X.prog X.w) A (compareOp .In u (.ref a)) Q E s:=by
 rcases g with⟨kvs,k,e,ey,l⟩|⟨kvs,k,b,e,ey,eb,l⟩
 ·subst ey;obtain⟨z,hd,vs,rel,dd⟩:=i8 I.hok e;refine wpAny_in_of (iG ry) hd dd.mapOf ?_;rw[<- (rel.val k).jq,<- l];exact h _ (I.tok _)
 ·subst ey;cases(show u=Value.ref b from ry);obtain⟨z,hd,xs,rel,dd⟩:=iz I.hok e;refine wpAny_in_heap (Q2 hu) (jw I.hok eb) hd dd ?_;have q:=(rel.val k).jq;rw[Wc] at q;rw[<- q,<- l];exact h _ (I.tok _)
theorem zX{Q:WS}(hu:A.units+1<cLine)(I:Inv X pins σ H s)(g:fR H a y o)(ry:RelV y u)(h:∀s',Inv X pins σ H s'->Q (.bool (!o.isSome)) s') :
  wpAny (model X.prog X.w) A (compareOp .NotIn u (.ref a)) Q E s:=by
 rcases g with⟨kvs,k,e,ey,l⟩|⟨kvs,k,b,e,ey,eb,l⟩
 ·subst ey;obtain⟨z,hd,vs,rel,dd⟩:=i8 I.hok e;refine wpAny_notIn_of (iG ry) hd dd.mapOf ?_;rw[<- (rel.val k).jq,<- l];exact h _ (I.tok _)
 ·subst ey;cases(show u=Value.ref b from ry);obtain⟨z,hd,xs,rel,dd⟩:=iz I.hok e;refine wpAny_notIn_heap (Q2 hu) (jw I.hok eb) hd dd ?_;have q:=(rel.val k).jq;rw[Wc] at q;rw[<- q,<- l];exact h _ (I.tok _)
theorem wg{h':Heap}{t':Nat}{ob:HO}(I:Inv X pins σ H s)(mu:Mut (H a))(hs:Heap.SameBut a s.heap h')(he:∃q,h'.get? a=some q)(new:a_ X.prog X.w (upd H a ob) h' a ob) :
  Inv X pins σ (upd H a ob) { s with heap:=h',toks:=t' } :=
 I.write (x:=a) (e:=a) mu (.inl rfl) (λb q hb z=>(hs.2 b hb).trans z) he new
theorem AQ{P:WZ}{w:W2}{H':Hp}{h':Heap}{kvs:List (Key×V)}{vs:List (Key×Value)}(z:kvs.length<=sizeLine)(hd:(a==sysModules)=false)(rel:KV kvs vs)(dd:h'.DictOf (bJ P w) a vs) :
  a_ P w H' h' a (.dK kvs):=⟨z,hd,vs,rel,dd⟩
theorem Ds{H':Hp}{Q:Unit->Shared->Prop}(hu:A.units+1<cLine)(I:Inv X pins σ H s)(g:jx H a y v H')(ry:RelV y u)(rv:RelV v r)(h:∀s',Inv X pins σ H' s'->Q () s') :
  wpAny (model X.prog X.w) A (setItem (.ref a) u r) Q E s:=by
 rcases g with⟨kvs,k,e,ey,l,eH⟩|⟨kvs,k,b,e,ey,eb,l,eH⟩
 ·subst ey eH;obtain⟨z,hd,vs,rel,dd⟩:=xT I.hok e;have hz:vs.length<=sizeLine:=by rw[<- rel.length]; exact z
  have hl:(putK kvs k v).length<=sizeLine:=by have:=qI kvs k v; omega
  refine wpAny_setItem_pairs (hsz:=hz) (iG ry) dd λh' dd' hs=>h _ ?_
  have he:∃q,h'.get? a=some q:=let⟨q,_,_,hq,_⟩:=dd'; ⟨q,hq⟩
  exact wg I (by rw[e]; exact True.intro) hs he (AQ hl hd (rel.put k rv) dd')
 ·subst ey eH;cases(show u=Value.ref b from ry);obtain⟨z,hd,xs,rel,dd⟩:=y9 I.hok e;have hz:xs.length<=sizeLine:=by rw[<- Wj rel]; exact z
  have hl:(putK kvs k v).length<=sizeLine:=by have:=qI kvs k v; omega
  refine wpAny_setItem_heap (hsz:=hz) (Q2 hu) (jw I.hok eb) dd λh' dd' hs=>h _ ?_
  obtain⟨q,es,ep,hq,h2,h3,h4,_,h5⟩:=dd';refine wg I (by rw[e]; exact True.intro) hs ⟨q,hq⟩ ⟨hl,hd,_,(rel.put k eb rv).keeps λc ys ec=>?_,q,es,ep,hq,h2,h3,h4,h5⟩;rw[aF (nN ec e (λz=>nomatch z))];exact ec
end
section
variable{X:Cx}{pins:WT}{σ:St}{H:Hp}{s:WX}{a:Addr}{kvs:List (Key×V)}{k:Key}{u:Value}{A:Around}{E:WS}
end
def mP(i:Expr):Prop:=∀ov iv,subscripted i false ov iv=operate [ov,iv] (getItem ov iv)
theorem yu{prog:WZ}{w:W2}{A:Around}{E:WS}{s:WX}{env:Env}{value slice:Expr}{pos:Pos}{T id:String}{Q:WS}
  (hl:typeLookup (.type T) "__getitem__" = pure (some (.builtin id))) (hs:mP slice)
  (h:wpAny (model prog w) A (eval value env) (λo s₁=>wpAny (model prog w) A (eval slice env) (λi s₂=>s₂.TypeIs o T/\wpAny (model prog w) A (getItem o i) Q E s₂) E s₁) E s) :
  wpAny (model prog w) A (eval (.Subscript value slice pos) env) Q E s:=by
 refine Subscript_ (XL h (λo s₁ h₁=>XL h₁ (λi s₂ h₂=>?_) λ_ _ x=>x) λ_ _ x=>x);obtain⟨hT,h₂⟩:=h₂;unfold subscriptTail;refine Za ?_;rw[getitemInPython_of_ne hT.not_modules];refine Za (wpAny_specialOf hT hl ?_)
 have fin:wpAny (model prog w) A (subscripted slice false o i) (λr s₃=>wpAny (model prog w) A (letTemporaryGo value o r>>=λ_=>pure r) Q E s₃) E s₂:=by
  rw[hs o i];exact wpAny_operating (XL h₂ (λr s₃ h₃=>Za (wpAny_letTemporaryGo (Zc h₃))) λ_ _ x=>x)
 first
  | exact Zc (Za fin)
  | exact Za (Zc (Za fin))
  | exact Za fin
theorem zz{X:Cx}{pins:WT}{σ:St}{H:Hp}{s:WX}{a:Addr}{y:V}{o:Option V}(I:Inv X pins σ H s)(g:fR H a y o):s.TypeIs (.ref a) "dict":=by
 rcases g with⟨kvs,k,e,_,_⟩|⟨kvs,k,b,e,_,_,_⟩
 ·obtain⟨_,_,vs,_,dd⟩:=i8 I.hok e;exact dd.typeIs
 ·obtain⟨_,_,xs,_,dd⟩:=iz I.hok e;exact dd.typeIs
noncomputable def Ht(td ty:TE):TE:=λσ H Q=>td σ H λx H1=>ty σ H1 λy H2=>∃a v,x=.ref a/\fR H2 a y (some v)/\Q v H2
noncomputable def A8(td ty tv:TE):TS:=λD σ H=>tv σ H λv H1=>td σ H1 λx H2=>ty σ H2 λy H3=>∃a H4,x=.ref a/\jx H3 a y v H4/\D.nx σ H4
section
variable{X:Cx}{o i e value:Expr}{pos pos' tpos:Pos}{td ty tv:TE}
theorem xU(hu:X.A.units+1<cLine)(ho:PE X o td)(hi:PE X i ty)(hs:mP i):PE X (.Subscript o i pos) (Ht td ty):=by
 intro pins s σ H Q I h;refine yu PySem.F.slot_dict_getitem.lookup hs (thn (ho pins s σ H _ I h) λu s1 ⟨x,H1,I1,rx,q1⟩=>thn (hi pins s1 σ H1 _ I1 q1) λiv s2 ⟨y,H2,I2,ry,a,v,ex,g,q2⟩=>?_);subst ex;obtain rfl:u=Value.ref a:=rx;exact⟨zz I2 g,IP hu I2 g ry λw' s3 I3 rw'=>⟨v,H2,I3,rw',q2⟩⟩
theorem Am(hu:X.A.units+1<cLine)(ho:PE X o td)(hi:PE X i ty)(hv:PE X value tv)(hs:swapsWith value (some (.Subscript o i pos')) pos.line X.env=pure false) :
  PS X (.Assign [.Subscript o i pos'] value pos) (A8 td ty tv):=by
 intro pins s σ H D I h;refine wpAny_Assign_Subscript (thn (hv pins s σ H _ I h) λr s1 ⟨v,H1,I1,rv,q1⟩=>thn (ho pins s1 σ H1 _ I1 q1) λu s2 ⟨x,H2,I2,rx,q2⟩=>thn (hi pins s2 σ H2 _ I2 q2) λiv s3 ⟨y,H3,I3,ry,a,H4,ex,g,q3⟩=>?_) hs;subst ex;obtain rfl:u=Value.ref a:=rx;exact Ds hu I3 g ry rv λs4 I4=>⟨σ,H4,I4,q3⟩
end
theorem JM{P:WZ}{w:W2}{H:Hp}(h:Heap)(hb:sysModules<h.objs.size):a_ P w H (h.push { cls:=.type "dict",data:=.dict #[] }) h.objs.size (.dT []) :=
 ⟨Xe _,ZW.mpr (Ne.symm (ZF hb)),[],.nil,_,#[],0,Zw _ rfl,⟨rfl,rfl,rfl⟩,rfl,rfl,QM⟩
noncomputable def BZ:TE:=λ_ H Q=>∀p,H p=none->Q (.ref p) (upd H p (.dT []))
section
variable{X:Cx}{pos:Pos}
theorem yh:PE X (.Dict [] [] pos) BZ:=λpins s σ H Q I h =>
 wpAny_Dict_empty ⟨.ref s.heap.objs.size,_,I.laid (a:=s.heap.objs.size) (o:=.dT []) (t':=s.toks) (λ_ _ q=>Zg _ q) (Zm _) (JM s.heap I.big),rfl,h _ (I.hok.fresh (Zm _))⟩
end
end L2

namespace L2
open PySem PySem.Spec PyProof.Rows
section
variable{prog:WZ}{w:W2}{A:Around}{R:Result->Shared->Prop}{s:WX}
theorem Jv{elt target iter:Expr}{ifs:W7}{scope:Scope}{pos:Pos}{it acc:Value}{env:Env}(I:Nat->Shared->Prop)
  (turn:∀n s,I n s->wpAny (model prog w) A (pyNext it) (λr s₁=>match r with
   | none=>R (.ok .next) s₁
   | some v=>wpAny (model prog w) A (letOwnedTupleGo target it v) (λ_ s₁'=>wpAny (model prog w) A (assign target env v) (λ_ s₂ =>
     wpAny (model prog w) A (forIn ifs true λc r=>if r=true then do let ok <- isTrue c env (eval c env); pure (ForInStep.yield ok) else pure (ForInStep.yield r)) (λok s₃ =>
      if ok=true then wpAny (model prog w) A (eval elt env) (λx s₄ =>
       wpAny (model prog w) A (call (.builtin "list.append") [acc,x]) (λ_ s₅=>∃m,m<n/\I m s₅) (λ_ _=>False) s₄) (λ_ _=>False) s₃
      else ∃m,m<n/\I m s₃) (λ_ _=>False) s₂) (λ_ _=>False) s₁') (λ_ _=>False) s₁) (λ_ _=>False) s)
  (n:Nat) (h:I n s) :
  codeAny (model prog w) A (.compLoop (.ListComp elt [⟨target,iter,ifs,0⟩] scope pos) 0 it acc env) R s:=by
 refine codeAny_loop rfl I (λn s hI=>?_) n h;show wpAny _ A ((compTurn (.ListComp elt [⟨target,iter,ifs,0⟩] scope pos) 0 it acc env).onRaise (λx=>do noteFrame x env; theTreesLotGoes x)) _ _ s;refine wpAny_noted ?_;rw[compTurn_list];refine Za (wpAny_standAt (Za (XL (turn n s hI) (λr s₁ h₁=>?_) λ_ _ h'=>h'.elim)))
 cases r with
 | none=>exact Zc h₁
 | some v =>
  refine Za (XL h₁ (λ_ s₁' h₁'=>?_) λ_ _ h'=>h'.elim);refine Za (XL h₁' (λ_ s₂ h₂=>Za (XL h₂ (λok s₃ h₃=>?_) λ_ _ h'=>h'.elim)) λ_ _ h'=>h'.elim)
  cases ok with
  | false=>exact Zc ⟨rfl,h₃⟩
  | true =>
   exact Za (Za (XL h₃ (λx s₄ h₄=>Za (XL h₄ (λ_ s₅ h₅=>Zc (Zc ⟨rfl,h₅⟩)) λ_ _ h'=>h'.elim)) λ_ _ h'=>h'.elim))
end
theorem nT{env:Env}:∀(names:List (Str×NameKind)) (cs:List (Str×Addr)),(∀y∈names,y.2=.free->∃c,env.cells.lookup y.1=some c) ->
  (∀x c,cs.lookup x=some c->env.cells.lookup x=some c) ->
  ∃cl,(forIn names cs λ(p:Str×NameKind) (r:List (Str×Addr))=>if(p.2==NameKind.free)=true then(do let c <- cellOf env p.1; pure (ForInStep.yield ((p.1,c)::r))) else pure (ForInStep.yield r):Sem (List (Str×Addr)))=pure cl /\
   (∀x c,cl.lookup x=some c->env.cells.lookup x=some c)/\(∀x c,cs.lookup x=some c->cl.lookup x=some c)/\∀y∈names,y.2=.free->cl.lookup y.1=env.cells.lookup y.1
 | [],cs,_,hc=>⟨cs,rfl,hc,λ_ _ h=>h,λy hy=>absurd hy (by simp)⟩
 | (x,k)::r,cs,h,hc=>by
  have hr:∀y∈r,y.2=.free->∃c,env.cells.lookup y.1=some c:=λy hy=>h y (Zr _ hy)
  by_cases hk:k=.free
  ·subst hk;obtain⟨c,e⟩:=h (x,.free) Zo rfl
   have hc':∀z d,((x,c)::cs).lookup z=some d->env.cells.lookup z=some d:=λz d q=>by
    by_cases hz:z=x
    ·subst hz;rw[Qo] at q;cases q; exact e
    ·rw[Z8,show(z==x)=false from ZW.mpr hz] at q;exact hc z d q
   obtain⟨cl,e1,e2,e3,e4⟩:=nT r ((x,c)::cs) hr hc';refine⟨cl,?_,e2,λz d q=>?_,λy hy hf=>?_⟩
   ·rw[List.forIn_cons];simp only[Xi,Xu];unfold cellOf;rw[e];simp only[pure_bind];exact e1
   ·by_cases hz:z=x
    ·subst hz;have:=hc z d q;rw[e] at this;exact e3 z d (by rw[Qo]; exact this)
    ·exact e3 z d (by rw[Z8,show(z==x)=false from ZW.mpr hz]; exact q)
   ·rcases Zx.mp hy with z|z
    ·subst z;rw[e3 x c (Qo),e]
    ·exact e4 y z hf
  ·have hb:(k==NameKind.free)=false:=ZW.mpr hk;obtain⟨cl,e1,e2,e3,e4⟩:=nT r cs hr hc;refine⟨cl,?_,e2,e3,λy hy hf=>?_⟩
   ·rw[List.forIn_cons];simp only[hb,Zu,ZM,pure_bind];exact e1
   ·rcases Zx.mp hy with z|z
    ·subst z; exact absurd hf hk
    ·exact e4 y z hf
theorem wN{env:Env}{scope:Scope}(h:∀y∈scope.names,y.2=.free->∃c,env.cells.lookup y.1=some c) :
  ∃cl,closureFor scope env=pure cl/\(∀x c,cl.lookup x=some c->env.cells.lookup x=some c)/\∀y∈scope.names,y.2=.free->cl.lookup y.1=env.cells.lookup y.1:=by
 obtain⟨cl,e1,e2,_,e4⟩:=nT (env:=env) scope.names [] h (λx c q=>by cases q);refine⟨cl,?_,e2,e4⟩;unfold closureFor;show((forIn scope.names ([]:List (Str×Addr)) λ(p:Str×NameKind) (r:List (Str×Addr))=>if(p.2==NameKind.free)=true then(do let c <- cellOf env p.1; pure (ForInStep.yield ((p.1,c)::r))) else pure (ForInStep.yield r):Sem (List (Str×Addr)))>>=λs=>pure s)=pure cl;rw[e1];rfl
noncomputable def aS(X:Cx)(scope:Scope)(cl:List (Str×Addr))(N':W4)(fp:W0)(s3:WX)(H3:Hp):Cx :=
 { X with N:=N',s₀:=s3,H₀:=H3,env:=compEnvC scope cl s3.heap.objs.size X.env,outer:=X.stack,stack:=X.stack,ex:=fp,fn:=λx=>decide (scope.names.lookup x=some .cell),pn:=[],xe:=λ_ _=>False }
noncomputable def PF(X:Cx)(ifs:W7)(t:TT):Prop :=
 ∀(pins:WT) (s:WX) (σ:St) (H:Hp) (Q:Bool->Hp->Prop),Inv X pins σ H s->t σ H Q ->
  wpAny (model X.prog X.w) X.A (forIn ifs true λc r=>if r=true then do let ok <- isTrue c X.env (eval c X.env); pure (ForInStep.yield ok) else pure (ForInStep.yield r)) (TP X pins σ Q) X.xe s
theorem wJ{X:Cx}:PF X [] (λ_ H Q=>Q true H):=λ_ _ _ H _ I h=>wpAny_tests_nil ⟨H,I,h⟩
theorem qv{X:Cx}{c:Expr}{t:TT}(hc:PT X c t):PF X [c] t:=λpins s σ H Q I h=>wpAny_tests_one (hc pins s σ H Q I h)
noncomputable def l8(k:Nat)(wi:TI)(g:TG)(tt:TT)(te:TE):TE:=λσ H Q=>wi σ H λJ H1=>∀l,H1 l=none->∃W:Nat->Nat->Hp->Prop,(∃m,W 0 m (upd H1 l (.lst [])))/\∀i m H,W i m H ->
 (J.stop i H/\Q (.ref l) H)\/(J.go i H/\∀x H',J.yld i H x H'->g x (σ++List.replicate k none) H' λσ2 H2=>(∀(j:Nat) v,(σ++List.replicate k none)[j]?=some (some v)->σ2[j]?=some (some v))/\tt σ2 H2 λb H3 =>
  if b=true then te σ2 H3 λy H4=>∃xs,H4 l=some (.lst xs)/\xs.length<sizeLine/\∃m',m'<m/\W (i+1) m' (upd H4 l (.lst (xs++[y]))) else ∃m',m'<m/\W (i+1) m' H3)
theorem kB:∀(names:List (Str×NameKind)) (n:Nat) (acc:List (Str×Addr)),cellsFrom n names acc=cellsFrom n names []++acc
 | [],_,_=>rfl
 | (x,k)::r,n,acc=>by
  unfold cellsFrom;split
  ·rw[kB r (n+1) ((x,n)::acc),kB r (n+1) [(x,n)],Zq]; rfl
  ·exact kB r n acc
theorem mR{x:Str}{c:Addr}:∀(names:List (Str×NameKind)) (n:Nat) (acc:List (Str×Addr)),(x,c)∈cellsFrom n names acc->(x,NameKind.cell)∈names\/(x,c)∈acc
 | [],_,_,h=>.inr h
 | (y,k)::r,n,acc,h=>by
  unfold cellsFrom at h;split at h
  ·rename_i hk;rcases mR r (n+1) _ h with z|z
   ·exact .inl (Zr _ z)
   ·rcases Zx.mp z with e|e
    ·cases e;rw[Q9.mp hk];exact .inl Zo
    ·exact .inr e
  ·rcases mR r n acc h with z|z
   ·exact .inl (Zr _ z)
   ·exact .inr z
theorem kF{α:Type}:∀{l:List (Str×α)} {x:Str} {a:α},(l.map (·.1)).Nodup->(x,a)∈l->l.lookup x=some a
 | (y,b)::r,x,a,nd,h=>by
  obtain⟨n1,n2⟩:=Xf.mp nd;rcases Zx.mp h with e|e
  ·cases e; exact Qo
  ·have hne:x≠y:=λz=>n1 (ZA.mpr ⟨(x,a),e,z⟩)
   rw[Z8,ZW.mpr hne];exact kF n2 e
theorem m_{scope:Scope}{n:Nat}{cl:List (Str×Addr)}(nd:(scope.names.map (·.1)).Nodup)(x:Str):(scope.names.lookup x=some .cell/\∃c,(cellsFrom n scope.names cl).lookup x=some c/\(x,c)∈cellsFrom n scope.names [])\/(scope.names.lookup x≠some .cell/\(cellsFrom n scope.names cl).lookup x=cl.lookup x):=by
 rw[kB]
 by_cases h:scope.names.lookup x=some .cell
 ·refine .inl ⟨h,?_⟩;obtain⟨c,e⟩:=nW (n:=n) h;exact⟨c,by rw[List.lookup_append,e]; rfl,mem_of_lookup e⟩
 ·refine .inr ⟨h,?_⟩
  cases e:(cellsFrom n scope.names []).lookup x with
  | none=>rw[List.lookup_append,e]; rfl
  | some c =>
   rcases mR _ _ _ (mem_of_lookup e) with z|z
   ·exact absurd (kF nd z) h
   ·cases z
theorem D6{M:Model}{A:Around}{E:WS}{s:WX}{scope:Scope}{cl:List (Str×Addr)}{g:Addr}{env:Env}{qual:Str}{Q:Env->Shared->Prop}
  (hQ:Q { scope:=scope,locals:=s.heap.objs.size,globals:=g,cells:=cellsFrom (s.heap.objs.size+1) scope.names cl,qual:=qual,func:=none,code:=env.code,frame:=env.frame,builtins:=env.builtins } { s with heap:=pushCells (s.heap.push { cls:=.type "dict",data:=.dict #[] }) scope.names }) :
  wpAny M A (newFunctionEnv scope g cl [] qual none .none (some env)) Q E s:=by
 simp only[newFunctionEnv,Option.isSome_some,Xu];refine Za (wpAny_alloc ?_);refine Za (wpAny_layCells _ (λname kind cells=>by cases hkc:kind==NameKind.cell<;>simp[hkc]) _ _ _ _ ?_);rw[show({ s with heap:=s.heap.push { cls:=.type "dict",data:=.dict #[] } }:Shared).heap.objs.size=s.heap.objs.size+1 from Xw ..];refine Za ?_;rw[List.forIn_nil];exact Zc (Zc hQ)
structure eT(X:Cx)(scope:Scope)(N':W4)(k:Nat):Prop where
 fr:∀y∈scope.names,y.2=.free->X.env.kindOf y.1=some .cell\/X.env.kindOf y.1=some .free
 nd:(scope.names.map (·.1)).Nodup
 kind:scope.kind=.function
 names:∀y∈scope.names,y.2=.local->scope.names.lookup y.1=some .local
 len:N'.length=X.N.length+k
 old:∀(i:Nat) (x:Str),i<X.N.length->N'[i]?=some x->Vis (relabel scope X.env) x->X.N[i]?=some x/\(x,NameKind.free)∈scope.names/\(relabel scope X.env).names.lookup x≠some .local
section
variable{X:Cx}{scope:Scope}{N':W4}{k:Nat}{cl:List (Str×Addr)}{pins:WT}{σ:St}{H:Hp}{s3 s4:WX}{fp:W0}
theorem GC(C:eT X scope N' k)(hc:X.calm=true)(I:Inv X pins σ H s3)(hf:∀b∈fp,cW X pins H b)(hfl:∀b∈fp,b<s3.heap.objs.size)(hcl1:∀x c,cl.lookup x=some c->X.env.cells.lookup x=some c)
  (hcl2:∀y∈scope.names,y.2=.free->cl.lookup y.1=X.env.cells.lookup y.1) {cl':List (Str×Addr)} (hcl':cl'=cellsFrom (s3.heap.objs.size+1) scope.names cl) (h':Heap) (hns:h'.Ns s3.heap.objs.size λ_=>none) (hk:∀b o,s3.heap.get? b=some o->h'.get? b=some o) (hown:CellsOk h' (s3.heap.objs.size+1) (cellsFrom (s3.heap.objs.size+1) scope.names [])) :
  Inv (aS X scope cl' N' fp s3 H) [] (σ++List.replicate k none) H { s3 with heap:=h' }:=by
 have fpold:∀b∈fp,∀o,X.base.get? b≠some o:=λb hb o e=>by
  rcases(hf b hb).2.2.2.1 with z|z
  ·exact I.ok.noex b o e z
  ·exact absurd (ZN (Zp (I.ok.bs b o e).1) z) (XI _)
 have own:∀x c,cl'.lookup x=some c->(scope.names.lookup x=some .cell/\(x,c)∈cellsFrom (s3.heap.objs.size+1) scope.names []/\s3.heap.objs.size<c/\h'.IsCell c none)\/(scope.names.lookup x≠some .cell/\cl.lookup x=some c):=λx c e=>by
  rw[hcl'] at e;rcases m_ (n:=s3.heap.objs.size+1) (cl:=cl) C.nd x with⟨h1,c',e1,e2⟩|⟨h1,e1⟩
  ·rw[e1] at e; cases e;have:=hown.empty x c e2;exact .inl ⟨h1,e2,this.2,this.1⟩
  ·rw[e1] at e; exact .inr ⟨h1,e⟩
 have fre:∀y∈scope.names,y.2=.free->cl'.lookup y.1=X.env.cells.lookup y.1:=λy hy hf=>by
  rw[hcl'];rcases m_ (n:=s3.heap.objs.size+1) (cl:=cl) C.nd y.1 with⟨h1,_⟩|⟨_,e1⟩
  ·have:=kF C.nd (show(y.1,y.2)∈scope.names from hy);rw[h1,hf] at this; cases this
  ·rw[e1]; exact hcl2 y hy hf
 have ncl:∀x c,cl.lookup x=some c->c<s3.heap.objs.size:=λx c e=>by
  obtain⟨v,o,ho,_⟩:=I.cell x c (hcl1 x c e);exact Zp ho
 have ok:(aS X scope cl' N' fp s3 H).Ok:=by
  refine⟨I.ok.mod,C.kind,I.ok.glob,I.ok.blt,Zm _,λx y c h1 h2=>?_,λx hx=>?_,λx c hfn e=>?_,I.ok.hd,I.ok.frames,.inl rfl,λb hb=>?_,I.bs,Z2 I.ok.bsz I.sz,λb o e hb=>fpold b hb o e,λb hb hb2=>?_,I.stack,I.n8⟩
  ·rcases own x c h1 with⟨a1,a2,a3,a4⟩|⟨a1,a2⟩
   ·rcases own y c h2 with⟨b1,b2,b3,b4⟩|⟨b1,b2⟩
    ·exact name_of_addr hown.apart a2 b2
    ·exact absurd (ncl y c b2) (Nat.lt_asymm a3)
   ·rcases own y c h2 with⟨b1,b2,b3,b4⟩|⟨b1,b2⟩
    ·exact absurd (ncl x c a2) (Nat.lt_asymm b3)
    ·exact I.ok.inj x y c (hcl1 x c a2) (hcl1 y c b2)
  ·have hx':(relabel scope X.env).names.lookup x=some .cell\/(relabel scope X.env).names.lookup x=some .free:=hx
   have:(x,NameKind.free)∈scope.names\/(x,NameKind.cell)∈scope.names:=by
    have all:∀(ns:List (Str×NameKind)),((ns.map λ(n,k)=>if(k==.free&&X.env.scope.kind==.function&&X.env.kindOf n==some .cell) then(n,NameKind.cell) else(n,k)).lookup x=some .cell\/(ns.map λ(n,k)=>if(k==.free&&X.env.scope.kind==.function&&X.env.kindOf n==some .cell) then(n,NameKind.cell) else(n,k)).lookup x=some .free)->(x,NameKind.free)∈ns\/(x,NameKind.cell)∈ns:=by
     intro ns
     induction ns with
     | nil=>intro h; rcases h with h|h<;>simp at h
     | cons y r ih =>
      intro h;obtain⟨n,kd⟩:=y;have hr:=ih;simp only[ZI] at h
      by_cases hxn:x=n
      ·subst hxn
       by_cases hkf:kd=.free
       ·subst hkf; exact .inl Zo
       ·have hb:(kd==NameKind.free)=false:=ZW.mpr hkf;simp only[hb,XY,Zu,ZM,Qo] at h;rcases h with h|h
        ·rw[Z1 h]; exact .inr Zo
        ·exact absurd (Z1 h) hkf
      ·have hb:(x==n)=false:=ZW.mpr hxn;refine(hr ?_).imp (Zr _) (Zr _)
       by_cases hcnd:(kd==NameKind.free&&X.env.scope.kind==.function&&X.env.kindOf n==some .cell)=true
       ·simp only[Zf hcnd,Z8,hb] at h;exact h
       ·simp only[Zh hcnd,Z8,hb] at h;exact h
    exact all scope.names hx'
   rcases this with this|this
   ·obtain⟨c,e⟩:=I.ok.has x (C.fr _ this rfl);exact⟨c,(fre _ this rfl).trans e⟩
   ·rcases m_ (n:=s3.heap.objs.size+1) (cl:=cl) C.nd x with⟨h1,c',e1,e2⟩|⟨h1,_⟩
    ·exact⟨c',by show cl'.lookup x=_; rw[hcl']; exact e1⟩
    ·exact absurd (kF C.nd this) h1
  ·rcases own x c e with⟨a1,a2,a3,a4⟩|⟨a1,a2⟩
   ·exact Qi a3
   ·exact absurd (Zl hfn) a1
  ·obtain⟨f0,f1,f2,f3,f4,f5⟩:=hf b hb;refine⟨?_,λx c e=>?_⟩
   rotate_left
   ·rcases own x c e with⟨a1,a2,a3,a4⟩|⟨a1,a2⟩
    ·exact λz=>absurd (hfl b hb) (by rw[<- z]; exact Nat.lt_asymm a3)
    ·exact f4 x c (hcl1 x c a2)
   intro z;have hz:b=s3.heap.objs.size:=z;exact absurd (hfl b hb) (by rw[hz]; exact XI _)
  ·obtain⟨f0,f1,f2,f3,f4,f5⟩:=hf b hb;rcases Zx.mp (I.mD b hb2) with z|z
   ·exact f1 z
   ·exact f2 z
 refine⟨ok,rfl,I.bare,Un.kept hk,⟨λ_=>none,hns,λi x v e1 e2 e3=>?_⟩,λx c e=>?_,I.hok.fresh (Zm _),λx c e=>?_,λp hp=>absurd (show p∈([]:List (Addr×Obj)) from hp) (by simp),I.hok.kept hk,?_⟩
 ·have hi:i<σ.length:=by
   by_cases hi:i<σ.length
   ·exact hi
   ·rw[ZO (by omega),Qb] at e2;split at e2<;>cases e2
  rw[ZC hi] at e2;obtain⟨o1,o2,o3⟩:=C.old i x (by rw[<- I.len]; exact hi) e1 e3;obtain⟨m,hn,hl⟩:=I.loc;have hkk:=C.fr _ o2 rfl;obtain⟨u,r,l⟩:=hl i x v o1 e2 (by rcases hkk with q|q; exact .inr (.inl q); exact .inr (.inr q));refine⟨u,r,?_⟩;rcases l with⟨q,_⟩|⟨q,c,e,z⟩
  ·rcases hkk with q'|q'<;>(rw[q] at q'; cases q')
  ·refine .inr ⟨?_,c,(fre _ o2 rfl).trans e,?_⟩
   ·rcases e3 with e3|e3|e3
    ·exact absurd e3 o3
    ·exact .inl e3
    ·exact .inr e3
   ·obtain⟨o,ho,hd⟩:=z;exact⟨o,hk _ _ ho,hd⟩
 ·rcases own x c e with⟨a1,a2,a3,a4⟩|⟨a1,a2⟩
  ·exact⟨none,a4⟩
  ·obtain⟨v,o,ho,hd⟩:=I.cell x c (hcl1 x c a2);exact⟨v,o,hk _ _ ho,hd⟩
 ·rcases own x c e with⟨a1,a2,a3,a4⟩|⟨a1,a2⟩
  ·exact I.hok.fresh (Qi a3)
  ·exact I.freeC x c (hcl1 x c a2)
 ·show(σ++List.replicate k none).length=N'.length;rw[Zn,List.length_replicate,I.len,C.len]
theorem rj{elt iter tg:Expr}{ifs:W7}{pos:Pos}{g:TG}{tt:TT}{te:TE}{it:Addr}{tn:Nat->Heap->Prop}{J:It}{s2:WX}{Q:VK}{E:WS}(C:eT X scope N' k)(hc:X.calm=true)
  (hg:∀cl fp s3 H3,PG (aS X scope cl N' fp s3 H3) tg g) (htt:∀cl fp s3 H3,PF (aS X scope cl N' fp s3 H3) ifs tt) (hte:∀cl fp s3 H3,PE (aS X scope cl N' fp s3 H3) elt te)
  (hcl1:∀x c,cl.lookup x=some c->X.env.cells.lookup x=some c) (hcl2:∀y∈scope.names,y.2=.free->cl.lookup y.1=X.env.cells.lookup y.1)
  (I2:Inv X pins σ H s2) (T:Turn X.prog X.w X.K tg J fp it tn) (st2:tn 0 s2.heap) (f2:∀b∈fp,cW X pins H b)
  (h2:∀l,H l=none->∃W:Nat->Nat->Hp->Prop,(∃m,W 0 m (upd H l (.lst [])))/\∀i m H,W i m H ->
   (J.stop i H/\Q (.ref l) H)\/(J.go i H/\∀x H',J.yld i H x H'->g x (σ++List.replicate k none) H' λσ2 H2=>(∀(j:Nat) v,(σ++List.replicate k none)[j]?=some (some v)->σ2[j]?=some (some v))/\tt σ2 H2 λb H3 =>
    if b=true then te σ2 H3 λy H4=>∃xs,H4 l=some (.lst xs)/\xs.length<sizeLine/\∃m',m'<m/\W (i+1) m' (upd H4 l (.lst (xs++[y]))) else ∃m',m'<m/\W (i+1) m' H3))
  {R:Value->Addr->Result->Shared->Prop} (hR:∀l c H' s' m,Inv X pins σ H' s'->Q (.ref l) H'->s'.heap.Ns c m->cW X pins H' c->R (.ref l) c (.ok .next) s') :
  wpAny (model X.prog X.w) X.A (newList []) (λacc s₃=>wpAny (model X.prog X.w) X.A (newFunctionEnv scope X.env.globals cl [] X.env.qual none .none (some X.env)) (λcenv s₄ =>
   codeAny (model X.prog X.w) X.A (.compStart (.ListComp elt [⟨tg,iter,ifs,0⟩] scope pos) 0 (.ref it) acc { cenv with scope:=relabel scope X.env }) (R acc cenv.locals) s₄) E s₃) E s2:=by
 refine Z0 ?_;have hl0:H s2.heap.objs.size=none:=I2.hok.fresh (Zm _);obtain⟨W,⟨m0,w0⟩,turn⟩:=h2 s2.heap.objs.size hl0
 have I3:Inv X pins σ (upd H s2.heap.objs.size (.lst [])) { s2 with heap:=s2.heap.push { cls:=.type "list",data:=.seq ([]:List Value).toArray } } :=
  I2.laid (t':=s2.toks) (λb u e=>Zg _ e) (Zm _) ⟨by show 0<=_; omega,[],0,.nil,Zw _ rfl⟩
 have obj2:∀b∈fp,∃o,s2.heap.get? b=some o/\∀v,o.data≠.cell v:=T.obj _ _ st2;have lt2:∀b∈fp,b<s2.heap.objs.size:=λb hb=>let⟨o,e,_⟩:=obj2 b hb; Zp e
 have f3:∀b∈fp,cW X pins (upd H s2.heap.objs.size (.lst [])) b:=λb hb=>⟨by rw[aF (ZF (lt2 b hb))]; exact(f2 b hb).1,(f2 b hb).2⟩
 generalize hs3:({ s2 with heap:=s2.heap.push { cls:=.type "list",data:=.seq ([]:List Value).toArray } }:Shared)=s3 at I3 ⊢;have st3:tn 0 s3.heap:=T.keep _ _ _ st2 λb hb o e=>by rw[<- hs3]; exact Zg _ e
 generalize hH3:upd H s2.heap.objs.size (.lst [])=H3 at I3 w0 f3;generalize s2.heap.objs.size=l at turn ⊢ w0;clear hs3 hH3;have obj3:∀b∈fp,∃o,s3.heap.get? b=some o/\∀v,o.data≠.cell v:=T.obj _ _ st3;have lt3:∀b∈fp,b<s3.heap.objs.size:=λb hb=>let⟨o,e,_⟩:=obj3 b hb; Zp e
 refine D6 ?_;have hown:=cellsFrom_ok scope.names (s3.heap.push { cls:=.type "dict",data:=.dict #[] }) (s3.heap.objs.size+1) [] ⟨λ_ _ hm=>(nomatch hm),List.Pairwise.nil⟩ (by rw[Xw]; exact Zm _);rw[Xw] at hown;have hns₁:(pushCells (s3.heap.push { cls:=.type "dict",data:=.dict #[] }) scope.names).Ns s3.heap.objs.size λ_=>none:=(Heap.Ns.new s3.heap (.type "dict")).keeps (pushCells_keeps _ _)
 have hk1:∀b o,s3.heap.get? b=some o->(pushCells (s3.heap.push { cls:=.type "dict",data:=.dict #[] }) scope.names).get? b=some o:=λb o e=>pushCells_keeps _ _ b o (Zg _ e)
 generalize hcl':cellsFrom (s3.heap.objs.size+1) scope.names cl=cl';generalize pushCells (s3.heap.push { cls:=.type "dict",data:=.dict #[] }) scope.names=h₁ at hown hns₁ hk1;have I4:Inv (aS X scope cl' N' fp s3 H3) [] (σ++List.replicate k none) H3 { s3 with heap:=h₁ }:=GC C hc I3 f3 lt3 hcl1 hcl2 hcl'.symm h₁ hns₁ hk1 hown;have st4:tn 0 h₁:=T.keep _ _ _ st3 λb _ o e=>hk1 b o e
 have stat:∀{H':Hp},(∀b∈fp,H' b=none)->∀b∈fp,cW (aS X scope cl' N' fp s3 H3) [] H' b:=λ{H'} hn b hb =>
  ⟨hn b hb,(I4.ok.exf b hb).1,I4.ok.exfs b hb,.inl hb,(I4.ok.exf b hb).2,λp hp=>absurd (show p∈([]:List (Addr×Obj)) from hp) (by simp)⟩
 have loop:∀s4:Shared,s4={ s3 with heap:=h₁ } ->
   codeAny (model X.prog X.w) X.A (.compLoop (.ListComp elt [⟨tg,iter,ifs,0⟩] scope pos) 0 (.ref it) (.ref l) (compEnvC scope cl' s3.heap.objs.size X.env)) (R (.ref l) s3.heap.objs.size) s4:=by
  rintro s4 rfl;refine Jv (env:=(aS X scope cl' N' fp s3 H3).env) (λn s'=>∃i H',Inv (aS X scope cl' N' fp s3 H3) [] (σ++List.replicate k none) H' s'/\tn i s'.heap/\(∀b∈fp,H' b=none)/\W i n H') ?_ m0 ⟨0,H3,I4,st4,λb hb=>(f3 b hb).1,w0⟩;rintro n s5 ⟨i,H5,I5,st5,fr5,w5⟩;rcases turn i n H5 w5 with⟨stop,qn⟩|⟨go,step⟩
  ·refine thn (T.done (aS X scope cl' N' fp s3 H3) rfl rfl rfl hc i [] s5 _ H5 _ I5 (stat fr5) st5 stop) λr s6 ⟨hr,I6⟩=>?_
   subst hr;obtain⟨m,hnm,_⟩:=I6.loc;have I7:Inv X pins σ H5 s6:=I3.yE (ch:=fp) I6.os I6.base I6.hok I6.bare λb hb=>⟨(f3 b hb).2.2.2.1,(f3 b hb).2.1,(f3 b hb).2.2.2.2.1,(f3 b hb).2.2.2.2.2⟩
   exact hR l _ H5 s6 m I7 qn hnm (I3.ic (Zm _) I6.free)
  ·refine thn (T.item (aS X scope cl' N' fp s3 H3) rfl rfl rfl hc i [] s5 _ H5 _ I5 (stat fr5) st5 go) λr s6 ⟨u,hr,h6⟩=>?_
   subst hr;refine thn h6 λ_ s7 ⟨x,H7,I7,r7,y7,st7,fr7⟩=>?_
   have I7':=I7.pinned (stat fr7) (T.obj _ _ st7);refine thn (hg cl' fp s3 H3 _ s7 _ H7 x u _ I7' r7 (step x H7 y7)) λ_ s8 ⟨σ8,H8,I8,w8,q8⟩=>?_
   refine thn (htt cl' fp s3 H3 _ s8 σ8 H8 _ I8 q8) λb s9 ⟨H9,I9,q9⟩=>?_
   have again:∀{H':Hp} {s':WX},Inv (aS X scope cl' N' fp s3 H3) ([]++iA fp s7.heap) σ8 H' s'->(∃m',m'<n/\W (i+1) m' H') ->
     ∃m,m<n/\∃i H',Inv (aS X scope cl' N' fp s3 H3) [] (σ++List.replicate k none) H' s'/\tn i s'.heap/\(∀b∈fp,H' b=none)/\W i m H':=λ{H' s'} I' ⟨m',hm,w'⟩=>by
    refine⟨m',hm,i+1,H',(I'.k_).weak (by rw[I'.len]; exact I4.len) w8,T.keep _ _ _ st7 λb hb o e=>(I'.pin (b,o) (ZZ _ (ZZ _ (kO hb e)))).1,λb hb=>?_,w'⟩;obtain⟨o,e,d⟩:=T.obj _ _ st7 b hb;exact(I'.pin (b,o) (ZZ _ (ZZ _ (kO hb e)))).2.1
   cases b with
   | false=>exact again I9 (by simpa using q9)
   | true =>
    rw[Zf rfl];rw[Zf rfl] at q9;refine thn (hte cl' fp s3 H3 _ s9 σ8 H9 _ I9 q9) λy s10 ⟨yv,H10,I10,r10,xs,hl10,hz,q10⟩=>?_
    refine thn (sr (X:=aS X scope cl' N' fp s3 H3) _ s10 σ8 H10 (.ref l) [yv] (.ref l) [y] (λ_ H'=>∃m',m'<n/\W (i+1) m' H') I10 rfl (.cons r10 .nil) ⟨l,xs,yv,rfl,rfl,hl10,hz,q10⟩) λ_ s11 ⟨_,H11,I11,_,q11⟩=>again I11 q11
 exact codeAny_compStart_list (loop _ rfl) (T.self _ 0 _ _ _ st4 (loop _ rfl))
theorem Ed{elt iter tg:Expr}{ifs:W7}{pos:Pos}{wi:TI}{g:TG}{tt:TT}{te:TE}(C:eT X scope N' k)(hc:X.calm=true)(hi:PI X tg iter wi)
  (hg:∀cl fp s3 H3,PG (aS X scope cl N' fp s3 H3) tg g) (htt:∀cl fp s3 H3,PF (aS X scope cl N' fp s3 H3) ifs tt) (hte:∀cl fp s3 H3,PE (aS X scope cl N' fp s3 H3) elt te)
  (hs:∀x,foldedSetIterable iter X.env x=pure x:=by intro _; rfl):PE X (.ListComp elt [⟨tg,iter,ifs,0⟩] scope pos) (l8 k wi g tt te):=by
 intro pins s σ H Q I h;rw[eval_ListComp];obtain⟨cl,e1,e2,e3⟩:=wN (env:=X.env) (scope:=scope) λy hy hf=>I.ok.has y.1 (C.fr y hy hf)
 refine wpAny_comprehension_free (use:=none) rfl hs e1 C.kind C.names (thn (hi pins s σ H _ I h) λv s1 h1=>thn h1 λitv s2 h2=>?_);obtain⟨it,fp,tn,J,H2,e,I2,T,st2,f2,h2⟩:=h2;subst e;refine rj (R:=λacc c=>compPost (model X.prog X.w) X.A X.xe none (EP X pins σ Q) acc c) C hc hg htt hte e2 e3 I2 T st2 f2 h2 λl c H' s' m I' q hn fc=>?_
 obtain⟨f0,f1,f2,f3,f4,f5⟩:=fc;exact⟨m,hn,λh' hsb=>⟨.ref l,H',I'.turned (t':=s'.toks) (λb o hb e=>(hsb.2 b hb).trans e) f0 f1 f3 f4 f5,rfl,q⟩⟩
theorem HV{elt iter tg:Expr}{ifs:W7}{pos:Pos}{wi:TI}{g:TG}{tt:TT}{te:TE}{j:Nat}{y:Str}{py spos:Pos}(C:eT X scope N' k)(hc:X.calm=true)(hi:PI X tg iter wi)
  (hg:∀cl fp s3 H3,PG (aS X scope cl N' fp s3 H3) tg g) (htt:∀cl fp s3 H3,PF (aS X scope cl N' fp s3 H3) ifs tt) (hte:∀cl fp s3 H3,PE (aS X scope cl N' fp s3 H3) elt te)
  (hN:X.N.Nodup) (hj:X.N[j]?=some y) (hy:X.env.scope.names.lookup y=some .local)
  (hsw:swapsWith (.ListComp elt [⟨tg,iter,ifs,0⟩] scope pos) (some (.Name y py)) spos.line X.env=pure true)
  (hs:∀x,foldedSetIterable iter X.env x=pure x:=by intro _; rfl):PS X (.Assign [.Name y py] (.ListComp elt [⟨tg,iter,ifs,0⟩] scope pos) spos) (lK (l8 k wi g tt te) (i9 j)):=by
 intro pins s σ H D I h;rw[exec_Assign_Name_used _ _ _ _ hsw];refine Za (wpAny_standAt (Za ?_));show wpAny _ X.A (do let _ <- comprehension (.ListComp elt [⟨tg,iter,ifs,0⟩] scope pos) scope X.env _ (newList []) false (eval iter X.env) (some (assign (.Name y py) X.env))) _ _ s;obtain⟨cl,e1,e2,e3⟩:=wN (env:=X.env) (scope:=scope) λy hy hf=>I.ok.has y.1 (C.fr y hy hf)
 refine Za (XL (wpAny_comprehension_free (use:=some (assign (.Name y py) X.env)) (Q:=λ_ s'=>SP X pins D .next s') rfl hs e1 C.kind C.names
  (thn (hi pins s σ H _ I h) λv s1 h1=>thn h1 λitv s2 h2=>?_)) (λ_ s' hq=>Zc (Zc hq)) λ_ _ e=>e)
 obtain⟨it,fp,tn,J,H2,e,I2,T,st2,f2,h2⟩:=h2;subst e;refine rj (Q:=λx H1=>i9 j x σ H1 D.nx) (R:=λacc c=>compPost (model X.prog X.w) X.A X.xe (some (assign (.Name y py) X.env)) (λ_ s'=>SP X pins D .next s') acc c) C hc hg htt hte e2 e3 I2 T st2 f2 h2 λl c H' s' m I' q hn fc=>?_
 obtain⟨f0,f1,f2,f3,f4,f5⟩:=fc;show wpAny _ X.A (assign (.Name y py) X.env (.ref l)) _ _ _;refine wpAny_assign_Name (sG I' hN hj (.inl hy) (v:=.ref l) rfl (λs'' I'' ch=>?_) (.inr hy));obtain⟨a,hsb,ha⟩:=ch
 have hac:c≠a:=by
  rcases ha with z|z
  ·rw[z]; exact f1
  ·exact λw=>f4 y a z w.symm
 refine⟨m,hn.sameBut hsb hac,λh' hsb2=>⟨_,H',I''.turned (t':=s''.toks) (λb o hb e=>(hsb2.2 b hb).trans e) f0 f1 f3 f4 f5,q⟩⟩
end
end L2

namespace L2
open PySem PySem.Spec PyProof.Rows
structure Xc(B:Heap)(stack:List Env)(e:Addr)(h:Heap):Prop where
 stays:B.StaysIn h
 new:B.get? e=none
 frames:h.FunFrames B stack
def Cov(B:Heap)(stack:List Env)(s:WX)(H':Hp)(h:Heap):Prop:=∀b o,h.get? b=some o->(H' b≠none\/∃o',s.heap.get? b=some o')->b∉frs stack->B.get? b=some o
noncomputable def CXg(st:Heap->Heap->Addr->Addr->Prop)(P:WZ)(w:W2):CXT:=λstack H s E v s' =>
 ∃e C B H',v=.ref e/\s'.os=s.os/\AllBare s'.gens/\Un (frs stack) [] H H' s.heap s'.heap/\HOk P w H' s'.heap/\Xc B stack e s'.heap/\st B s'.heap e C/\Cov B stack s H' s'.heap/\E (.ref C) none H'
def stF(_:Heap)(h:Heap)(e C:Addr):Prop:=∃t,h.get? e=some { cls:=.ref C,data:=.fields #[.ref t,.none,.none,.none,.bool false,.none] }
def stT(B:Heap)(h:Heap)(e C:Addr):Prop:=∃a0,h.TracedW B e (.ref C) a0
abbrev CXe(P:WZ)(w:W2):CXT:=CXg stT P w
abbrev CXr(P:WZ)(w:W2):CXT:=CXg stF P w
theorem D3{P:WZ}{w:W2}{H:Hp}{h:Heap}{b:Addr}{ob:HO}(ok:HOk P w H h)(q:H b=some ob):∃o,h.get? b=some o:=by
 have x:=ok b ob q;clear q ok
 induction ob with
 | lst xs=>obtain⟨_,_,_,_,e⟩:=x; exact⟨_,e⟩
 | tup xs=>obtain⟨_,_,_,_,e,_⟩:=x; exact⟨_,e⟩
 | dK kvs=>obtain⟨_,_,_,_,_,_,_,e,_⟩:=x; exact⟨_,e⟩
 | dT kvs=>obtain⟨_,_,_,_,_,_,_,e,_⟩:=x; exact⟨_,e⟩
 | set S n=>obtain⟨_,_,_,_,e,_⟩:=x; exact⟨_,e⟩
 | ins C dx fs=>obtain⟨_,_,_,e,_⟩:=x; exact⟨_,e⟩
 | own y=>exact x
 | xd fs=>obtain⟨_,⟨_,_,_,e,_⟩,_⟩:=x; exact⟨_,e⟩
 | rng lo hi=>obtain⟨_,_,_,e⟩:=x; exact⟨_,e⟩
 | frz o u ih=>exact⟨o,x.1⟩
 | tbl ps=>exact⟨_,x⟩
 | met f y=>exact⟨_,x⟩
 | ext φ=>exact x.2.1
section
variable{P:WZ}{w:W2}{B h h':Heap}{stack:List Env}{e C:Addr}{s:WX}{H H':Hp}
theorem FI(hf:∀b∈frs stack,∃o,s.heap.get? b=some o/\H b=none)(u:Un (frs stack) [] H H' s.heap h)(ok:HOk P w H' h)(fr:h.FunFrames B stack)(cv:Cov B stack s H' h)(sb:B.StaysIn h')(up:h.UpToSlots h') :
  Un (frs stack) [] H H' s.heap h'/\HOk P w H' h'/\Cov B stack s H' h':=by
 have nf:∀{b:Addr},H' b≠none->b∉frs stack:=λ{b} hb m=>by
  obtain⟨o,e1,e2⟩:=hf b m;exact hb (u.free b o e1 e2 (by simp))
 have old:∀{b:Addr} {o:Obj},h.get? b=some o->(H' b≠none\/∃o',s.heap.get? b=some o')->b∉frs stack->h'.get? b=some o:=λ{b o} e1 e2 e3=>sb b o (cv b o e1 e2 e3)
 have fram:∀{b:Addr} {o:Obj},b∈frs stack->h.get? b=some o->∃sl,h'.get? b=some { o with slots:=sl }:=λ{b o} m e1=>by
  obtain⟨_,o',e2,hd⟩:=fr.mem m;rw[e1] at e2; cases e2;exact up b o e1 hd
 refine⟨⟨λb o e n hb _=>?_,λb o e n hb _=>?_,u.free,λb o e _=>?_,u.tups,u.frzs,u.tbls⟩,λa o ea=>?_,λb o e1 e2 e3=>?_⟩
 ·exact old (u.keep b o e n hb (by simp)) (.inr ⟨o,e⟩) hb
 ·obtain⟨sl,e1⟩:=u.slot b o e n hb (by simp);obtain⟨sl2,e2⟩:=fram hb e1;exact⟨sl2,e2⟩
 ·obtain⟨o1,e1⟩:=u.there b o e (by simp)
  by_cases hb:b∈frs stack
  ·obtain⟨sl,e2⟩:=fram hb e1;exact⟨_,e2⟩
  ·exact⟨o1,old e1 (.inr ⟨o,e⟩) hb⟩
 ·refine(ok a o ea).stay (λb v hb q=>?_) (λ_ q=>q) λ_ _ q=>q
  have hne:H' b≠none:=by
   rcases hb with rfl|hb
   ·rw[ea]; exact λz=>by cases z
   ·rw[hb]; exact λz=>by cases z
  exact old q (.inl hne) (nf hne)
 ·-- what is there now was there
  have:∃o1,h.get? b=some o1:=by
   rcases e2 with z|⟨o2,z⟩
   ·cases q:H' b with
    | none=>exact absurd q z
    | some ob=>exact D3 ok q
   ·exact u.there b o2 z (by simp)
  obtain⟨o1,e4⟩:=this;have e5:=cv b o1 e4 e2 e3;have e6:=sb b o1 e5;rw[e1] at e6; cases e6;exact e5
end
section
variable{CX:CXT}{P:WZ}{w:W2}{K:WV}{mg:W1}{base:Heap}{N:W4}{qual:Str}{scope:Scope}{f:Addr}{cd:Value}{A:Around}{outer:List Env}{s:WX}{H:Hp}{E E':XK}
theorem vq{X:Cx}{pins:WT}{σ:St}{H:Hp}{s:WX}(I:Inv X pins σ H s):∀b∈frs X.stack,∃o,s.heap.get? b=some o/\H b=none:=λb hb=>by
 obtain⟨_,o,e,_⟩:=I.stack.mem hb;exact⟨o,e,I.n8 b hb⟩
theorem tX{st:Heap->Heap->Addr->Addr->Prop}(hst:∀B h e C,st B h e C->stF B h e C\/stT B h e C)(hE:∀C H,E' (.ref C) none H->E (.ref C) none H){pins:WT}{σ:St}{H1:Hp}{s1:WX}{v:Value}{s':WX}(hA:A.frames=some outer)
  (I:Inv (cZ (CXe P w) P w K mg base N qual scope f cd A outer s H E) pins σ H1 s1) (hx:CXg st P w (cZ (CXe P w) P w K mg base N qual scope f cd A outer s H E).stack H1 s1 E' v s'):(cZ (CXe P w) P w K mg base N qual scope f cd A outer s H E).xe v s':=by
 obtain⟨e,C,B,H',rfl,h1,h2,u,ok,xc,hs,cv,hE'⟩:=hx;have hstk:(cZ (CXe P w) P w K mg base N qual scope f cd A outer s H E).stack=envOfC qual scope s.heap.objs.size f cd::outer:=rfl;have hfr:(A.deeper (envOfC qual scope s.heap.objs.size f cd)).frames=some (envOfC qual scope s.heap.objs.size f cd::outer):=Around.frames_deeper hA;have hf:(envOfC qual scope s.heap.objs.size f cd).frame=some s.heap.objs.size:=rfl
 have fin:∀(h'':Heap) (a0:Value),Heap.LeftW B (envOfC qual scope s.heap.objs.size f cd::outer) e (.ref C) a0 s'.heap h''->CXe P w outer H s E (.ref e) { s' with heap:=h'' }:=λh'' a0 hL=>by
  obtain⟨k1,k2,k3,k4⟩:=hL;obtain⟨u2,ok2,cv2⟩:=FI (vq I) u ok xc.frames cv k1 k4;have nL:∀{b:Addr} {o:Obj},s.heap.get? b=some o->b≠s.heap.objs.size:=λ{b o} q=>ZF (Zp q)
  have mem:∀{b:Addr},b∈frs (envOfC qual scope s.heap.objs.size f cd::outer) ↔ b=s.heap.objs.size\/b∈frs outer:=λ{b}=>by
   unfold frs;rw[Xk,hf];exact Zx
  have ub:Un (frs outer) [] H H1 s.heap s1.heap:=I.base;refine⟨e,C,B,H',rfl,h1.trans I.os,h2,⟨λb o q n hb _=>?_,λb o q n hb _=>?_,λb o q n _=>?_,λb o q _=>?_,λb xs q=>?_,λb o u q=>?_,λb ps q=>?_⟩,ok2,⟨k1,xc.new,k2.2.2⟩,⟨a0,k3⟩,λb o q1 q2 q3=>?_,hE _ _ hE'⟩
  ·exact u2.keep b o (ub.keep b o q n hb (by simp)) (ub.free b o q n (by simp)) (λz=>(mem.mp z).elim (nL q) hb) (by simp)
  ·obtain⟨sl,q1⟩:=ub.slot b o q n hb (by simp);obtain⟨sl2,q2⟩:=u2.slot b _ q1 (ub.free b o q n (by simp)) (mem.mpr (.inr hb)) (by simp);exact⟨sl2,q2⟩
  ·obtain⟨o1,q1⟩:=ub.there b o q (by simp);exact u2.free b o1 q1 (ub.free b o q n (by simp)) (by simp)
  ·obtain⟨o1,q1⟩:=ub.there b o q (by simp);exact u2.there b o1 q1 (by simp)
  ·exact u2.tups b xs (ub.tups b xs q)
  ·exact u2.frzs b o u (ub.frzs b o u q)
  ·obtain⟨m1,q1⟩:=ub.tbls b ps q;obtain⟨m2,q2⟩:=u2.tbls b _ q1;exact⟨m1++m2,by rw[<- Array.append_assoc]; exact q2⟩
  ·have hfree:H' s.heap.objs.size=none:=by
    obtain⟨oL,eL,hL⟩:=vq I s.heap.objs.size (mem.mpr (.inl rfl));exact u2.free _ oL eL hL (by simp)
   refine cv2 b o q1 ?_ λz=>?_
   ·rcases q2 with z|⟨o',z⟩
    ·exact .inl z
    ·exact .inr (ub.there b o' z (by simp))
   ·rcases mem.mp z with z|z
    ·rcases q2 with y|⟨o',y⟩
     ·rw[z] at y; exact y hfree
     ·exact nL y z
    ·exact q3 z
 show wpAny (model P w) (A.deeper (envOfC qual scope s.heap.objs.size f cd)) (leaving (envOfC qual scope s.heap.objs.size f cd) (.ref e)) (λ_ s''=>CXe P w outer H s E (.ref e) s'') (λe' s''=>CXe P w outer H s E e' s'') s';rcases hst _ _ _ _ hs with⟨t,he⟩|⟨a0,ht⟩
 ·exact wpAny_leaving_firstW hfr xc.frames hf he xc.stays xc.new rfl (a0:=.ref t) rfl rfl λh'' hL=>fin h'' _ hL
 ·exact wpAny_leaving_nextW hfr xc.frames hf ht xc.stays xc.new λh'' hL=>fin h'' _ hL
end
end L2

namespace L2
open PySem PySem.Spec PyProof.Rows
section
variable{X:Cx}
end
end L2

namespace L2
open PySem PySem.Spec PySem.Calls PyProof.Rows
open PySem.W (Looks)
section
variable{X:Cx}{i:Nat}{C:Addr}
section
variable{k:Nat}{f:Addr}{fd:FuncData}{ps:W4}{sp:Sp}{x c n:Str}{newId:String}{bmB:WW}{p cpos rpos np hpos rp2 pos:Pos}{e kx:Expr}{es:W7}{t:TA}{kv:V}
end
end
end L2

namespace L2
open PySem PySem.Spec PySem.Calls PyProof.Rows
open PySem.W (Looks)
open PySem.Builtin PySem.Builtin.ObjectAttr PySem.Builtin.Getset_descriptor
structure HA(K:WV)(C:Addr):Prop where
 ga:PySem.W.findIn K (.ref C) "__getattribute__" = some (some (.builtin "BaseException.__getattribute__"))
 gt:PySem.W.findIn K (.ref C) "__getattr__" = some none
 cl:PySem.W.findIn K (.ref C) "__class__" = some (some (.builtin "object.__class__"))
 gn:PySem.W.specialIn K (.builtin "object.__class__") "__get__" = some (some (.builtin "getset_descriptor.__get__"))
 tk:PySem.W.takesIn K (.builtin "object.__class__")=some true
 mo:PySem.W.mroIn K C (.type "object")=some true
 mb:PySem.W.mroIn K C (.type "BaseException")=some true
 is:(PySem.W.clsIn K C).isSome=true
section
variable{K:WV}{prog:WZ}{w:W2}{A:Around}{E:WS}{s:WX}{a C:Addr}
end
section
variable{X:Cx}{i:Nat}{C:Addr}
end
end L2

namespace NEQ
open PySem PySem.SeqAt
open AutoSeq1 (wpAny_loadPart')
open MeetsSeq MeetsSeq2 MeetsSeq3 SeqRoads2
theorem zx(p q:Addr)(us ws:W5)(n1 n2:Nat)(d1 d2:Option Addr)(z1 z2:Array (Option Value))(hlen:us.size=ws.size)(same:Nat->Bool)(left:Nat) :
  ∀at_:Nat,us.size-at_=left->Meets (Builtin.«list.__eq__.loop» ⟨[.ref p,.ref q,rawInt at_,rawInt 3],[]⟩)
   (λA R st=>st.heap.get? p=some { cls:=.type "list",dict:=d1,data:=.seq us n1,slots:=z1 }/\st.heap.get? q=some { cls:=.type "list",dict:=d2,data:=.seq ws n2,slots:=z2 } /\
    (∀j (h1:j<us.size) (h2:j<ws.size),EqAt A.in1 st us[j] ws[j] (same j))/\R (.ok (.ret (.bool (!((List.range us.size).drop at_).all same)))) st):=by
 induction left with
 | zero =>
  intro at_ hk prog w A R st hyp;obtain⟨hp,g,dr,tk,os⟩:=st;obtain⟨hl,hb,he,fin⟩:=hyp
  wp_walk using wpAny_loadPart' hl,wpAny_loadPart' hb
  have no1:us[((at_:Nat):Int).toNat]?=none:=by simp; omega
  have no2:ws[((at_:Nat):Int).toNat]?=none:=by simp; omega
  have nil:(List.range us.size).drop at_=[]:=by simp; omega
  rw[nil] at fin;rw[no1,no2]
  wp_walk using wpAny_loadPart' hl,wpAny_loadPart' hb
  show R (.ok (.ret (.bool (us.size != ws.size)))) _;rw[hlen];simpa using fin
 | succ left ih =>
  intro at_ hk prog w A R st hyp;obtain⟨hp,g,dr,tk,os⟩:=st;obtain⟨hl,hb,he,fin⟩:=hyp
  wp_walk using wpAny_loadPart' hl,wpAny_loadPart' hb
  have lt1:at_<us.size:=by omega
  have lt2:at_<ws.size:=by omega
  have yes1:us[((at_:Nat):Int).toNat]?=some us[at_]:=by simp[lt1]
  have yes2:ws[((at_:Nat):Int).toNat]?=some ws[at_]:=by simp[lt2]
  have cons:(List.range us.size).drop at_=at_::(List.range us.size).drop (at_+1):=by simp[Xt,lt1]
  have up:((at_:Int)+1)=((at_+1:Nat):Int):=by push_cast; rfl
  rw[cons,WG] at fin;rw[yes1,yes2];refine Za (he at_ lt1 lt2 prog w _ _ ?_)
  cases ev:same at_ with
  | true =>
   rw[ev] at fin
   wp_walk
   rw[up]
   exact⟨QV plain_eq_loop _,Xq entry_eq_loop (by
    rw[XM plain_eq_loop _];exact ih (at_+1) (by omega) prog w A R _ ⟨hl,hb,he,by simpa using fin⟩)⟩
  | false =>
   rw[ev] at fin
   wp_walk using wpAny_loadPart' hl,wpAny_loadPart' hb
   rw[yes1,yes2]
   wp_walk
   simpa using fin
theorem zN(p q:Addr)(us ws:W5)(n1 n2:Nat)(d1 d2:Option Addr)(z1 z2:Array (Option Value))(hlen:us.size=ws.size)(same:Nat->Bool) :
  Meets (Builtin.«list.__ne__» ⟨[.ref p,.ref q],[]⟩)
   (λA R st=>st.heap.get? p=some { cls:=.type "list",dict:=d1,data:=.seq us n1,slots:=z1 }/\st.heap.get? q=some { cls:=.type "list",dict:=d2,data:=.seq ws n2,slots:=z2 } /\
    (∀j (h1:j<us.size) (h2:j<ws.size),EqAt A.in1 st us[j] ws[j] (same j))/\R (.ok (.ret (.bool (!(List.range us.size).all same)))) st):=by
 intro prog w A R st hyp;obtain⟨hp,g,dr,tk,os⟩:=st;obtain⟨hl,hb,he,fin⟩:=hyp;have f3:=AutoSeq1.sub_list_list;have hne:¬(us.size != ws.size)=true:=by simp[hlen]
 wp_walk using wpAny_loadPart' hl,wpAny_loadPart' hb
 exact⟨QV plain_eq_loop _,Xq entry_eq_loop (by
  rw[XM plain_eq_loop _];exact zx p q us ws n1 n2 d1 d2 z1 z2 hlen same _ 0 rfl prog w A R _ ⟨hl,hb,he,by simpa using fin⟩)⟩
theorem Ej(p q:Addr)(us ws:W5)(n1 n2:Nat)(d1 d2:Option Addr)(z1 z2:Array (Option Value))(hlen:(us.size != ws.size)=true) :
  Meets (Builtin.«list.__ne__» ⟨[.ref p,.ref q],[]⟩)
   (λ_ R st=>st.heap.get? p=some { cls:=.type "list",dict:=d1,data:=.seq us n1,slots:=z1 }/\st.heap.get? q=some { cls:=.type "list",dict:=d2,data:=.seq ws n2,slots:=z2 } /\
    R (.ok (.ret (.bool true))) st) :=
 .of_wp λprog w A R st hyp=>by
  obtain⟨hp,g,dr,tk,os⟩:=st;obtain⟨hl,hb,fin⟩:=hyp;have f3:=AutoSeq1.sub_list_list
  wp_walk using wpAny_loadPart' hl,wpAny_loadPart' hb
  exact⟨_,rfl,fin⟩
theorem GD(p q:Addr)(us ws:W5)(n1 n2:Nat)(d1 d2:Option Addr)(z1 z2:Array (Option Value))(same:Nat->Bool) :
  Meets (Builtin.«tuple.__ne__» ⟨[.ref p,.ref q],[]⟩)
   (λA R st=>st.heap.get? p=some { cls:=.type "tuple",dict:=d1,data:=.seq us n1,slots:=z1 }/\st.heap.get? q=some { cls:=.type "tuple",dict:=d2,data:=.seq ws n2,slots:=z2 } /\
    (∀j (h1:j<us.size) (h2:j<ws.size),EqAt A.in1 st us[j] ws[j] (same j)) /\
    R (.ok (.ret (.bool (!((List.range (min us.size ws.size)).all same&&us.size==ws.size))))) st) :=
 .of_wp λprog w A R st hyp=>by
  obtain⟨hp,g,dr,tk,os⟩:=st;obtain⟨hl,hb,he,fin⟩:=hyp;have f2:=AutoSeq1.sub_tuple_tuple;have zl:(us.toList.zip ws.toList).length=min us.size ws.size:=by simp
  wp_walk using wpAny_loadPart' hl,wpAny_loadPart' hb,QR _ (λmore b s'=>b.1=none/\s'=⟨hp,g,dr,tk,os⟩/\∃i,more=(us.toList.zip ws.toList).drop i /\
   R (.ok (.ret (.bool (!(((List.range (min us.size ws.size)).drop i).all same&&us.size==ws.size))))) ⟨hp,g,dr,tk,os⟩) _
  case turn =>
   rintro⟨y,x⟩ more b s' ⟨hb',rfl,i,hz,hR⟩
   have lt:i<(us.toList.zip ws.toList).length:=by
    rcases Nat.lt_or_ge i (us.toList.zip ws.toList).length with h'|h'
    ·exact h'
    ·rw[Wh h'] at hz; cases hz
   have hm:i<min us.size ws.size:=zl▸lt;have h1:i<us.size:=ZN hm (Nat.min_le_left _ _);have h2:i<ws.size:=ZN hm (Nat.min_le_right _ _);rw[Xt lt] at hz;injection hz with pair hmore;have hy:y=us[i]:=by have:=Xs Prod.fst pair; simpa using this
   have hx:x=ws[i]:=by have:=Xs Prod.snd pair; simpa using this
   subst hy hx;have cons:(List.range (min us.size ws.size)).drop i=i::(List.range (min us.size ws.size)).drop (i+1):=by simp[Xt,hm]
   rw[cons,WG] at hR;refine Za (he i h1 h2 prog w _ _ ?_)
   cases ev:same i with
   | true =>
    rw[ev] at hR
    wp_walk
    exact⟨rfl,rfl,i+1,hmore,by simpa using hR⟩
   | false =>
    rw[ev] at hR
    wp_walk
    exact⟨_,rfl,by simpa using hR⟩
  case fin =>
   rintro⟨b1,b2⟩ s' ⟨hb',rfl,i,hz,hR⟩;simp only at hb';subst hb'
   have ge:min us.size ws.size<=i:=by
    rcases Nat.lt_or_ge i (us.toList.zip ws.toList).length with h'|h'
    ·rw[Xt h'] at hz; cases hz
    ·exact zl▸h'
   rw[Wh (by simpa using ge)] at hR
   wp_walk
   exact⟨_,rfl,by simpa [Builtin.Tuple.tupleCompareSizes,bne] using hR⟩
  case h =>
   exact⟨rfl,rfl,0,rfl,by simpa using fin⟩
section
variable{prog:WZ}{w:W2}{A:Around}{E:WS}{s:WX}
theorem JF{l b:Addr}{us ws:W5}{same:Nat->Bool}{Q:WS}(hl:s.heap.IsList l us)(hb:s.heap.IsList b ws)(hlen:us.size=ws.size)(hu:A.units<cLine)
  (he:∀j (h1:j<us.size) (h2:j<ws.size),EqAt A.in1 s us[j] ws[j] (same j)) (h:Q (.bool (!(List.range us.size).all same)) s):wpAny (model prog w) A (compareOp .NotEq (.ref l) (.ref b)) Q E s:=by
 obtain⟨⟨c1,d1,t1,z1⟩,o1,k1,n1,e1⟩:=id hl;obtain⟨⟨c2,d2,t2,z2⟩,o2,k2,n2,e2⟩:=id hb;simp only at k1 e1 k2 e2;subst k1 e1 k2 e2;exact Wi (op:=.NotEq) ⟨_,o1,rfl⟩ ⟨_,o2,rfl⟩ F.slot_list_ne F.entry_list_ne (F.args_list_ne_2 _ _) (zN l b us ws n1 n2 d1 d2 z1 z2 hlen same) ⟨o1,o2,he,⟨(λx=>nomatch x),h⟩⟩ hu
theorem Ju{l b:Addr}{us ws:W5}{Q:WS}(hl:s.heap.IsList l us)(hb:s.heap.IsList b ws)(hlen:(us.size != ws.size)=true)(hu:A.units<cLine)
  (h:Q (.bool true) s):wpAny (model prog w) A (compareOp .NotEq (.ref l) (.ref b)) Q E s:=by
 obtain⟨⟨c1,d1,t1,z1⟩,o1,k1,n1,e1⟩:=id hl;obtain⟨⟨c2,d2,t2,z2⟩,o2,k2,n2,e2⟩:=id hb;simp only at k1 e1 k2 e2;subst k1 e1 k2 e2;exact Wi (op:=.NotEq) ⟨_,o1,rfl⟩ ⟨_,o2,rfl⟩ F.slot_list_ne F.entry_list_ne (F.args_list_ne_2 _ _) (Ej l b us ws n1 n2 d1 d2 z1 z2 hlen) ⟨o1,o2,⟨(λx=>nomatch x),h⟩⟩ hu
theorem Fo{l b:Addr}{us ws:W5}{same:Nat->Bool}{Q:WS}(hl:s.heap.IsTuple l us)(hb:s.heap.IsTuple b ws)(hu:A.units<cLine)
  (he:∀j (h1:j<us.size) (h2:j<ws.size),EqAt A.in1 s us[j] ws[j] (same j)) (h:Q (.bool (!((List.range (min us.size ws.size)).all same&&us.size==ws.size))) s):wpAny (model prog w) A (compareOp .NotEq (.ref l) (.ref b)) Q E s:=by
 obtain⟨⟨c1,d1,t1,z1⟩,o1,k1,n1,e1⟩:=id hl;obtain⟨⟨c2,d2,t2,z2⟩,o2,k2,n2,e2⟩:=id hb;simp only at k1 e1 k2 e2;subst k1 e1 k2 e2;exact Wi (op:=.NotEq) ⟨_,o1,rfl⟩ ⟨_,o2,rfl⟩ F.slot_tuple_ne F.entry_tuple_ne (F.args_tuple_ne_2 _ _) (GD l b us ws n1 n2 d1 d2 z1 z2 same) ⟨o1,o2,he,⟨(λx=>nomatch x),h⟩⟩ hu
end
end NEQ

namespace ENM
open PySem PyProof.Rows
open AutoSeq1 (wpAny_loadPart')
section
variable{prog:WZ}{w:W2}{A:Around}{E:WS}{s:WX}
theorem Co{it t:Addr}{k:Nat}{us:W5}{u:Value}{Q:WS}(hit:s.heap.IsTupleIter it t k)(ht:s.heap.IsTuple t us)(hu:us[k]?=some u)
  (fin:∀h',h'.IsTupleIter it t (k+1)->Heap.SameBut it s.heap h'->Q u { s with heap:=h' }):wpAny (model prog w) A (Builtin.SmallTypes.nextOf (.ref it)) Q E s:=by
 obtain⟨ob,hob,hcl,hda⟩:=id hit;obtain⟨ot,hot,_,nt,hdt⟩:=ht;unfold Builtin.SmallTypes.nextOf;refine Za (ZY (name:=Str.ofString "__next__") hit.typeIs Qq (ZT Qq hit.typeIs F.entry_tuple_iterator_next ?_ (F.args_tuple_iterator_next_1 _)));show wpAny _ _ (field (.ref it) 0>>=_) _ _ s;refine Za (Xy hob hda (x:=.ref t) rfl ?_);show wpAny _ _ (if(Value.ref t==Value.none)=true then _ else _) _ _ s;rw[Zh (show ¬((Value.ref t==Value.none)=true) from Zz)];show wpAny _ _ (field (.ref it) 1>>=_) _ _ s;refine Za (Xy hob hda (x:=.int k 0) rfl ?_);show wpAny _ _ (seqItems? (.ref t)>>=_) _ _ s;refine Za (Wa hot hdt ?_);simp only[Z5,hu];refine Za (Qu hob hda (by simp) (Zc ⟨u,rfl,Zc (fin _ ?_ (Xl ..))⟩));refine⟨_,Xn _ hob (QN (XZ hda _)),(Wd ..).trans hcl,?_⟩;rw[XZ hda];simp[rawInt]
theorem Fj{it t:Addr}{k:Nat}{us:W5}{Q:WS}(calm:A.handled=none)(hit:s.heap.IsTupleIter it t k)(ht:s.heap.IsTuple t us)(hu:us[k]?=none)
  (fin:∀h' e,Heap.ExtBut it s.heap h'->(∃o,h'.get? e=some o/\o.cls=.type "StopIteration")->E (.ref e) { s with heap:=h' }):wpAny (model prog w) A (Builtin.SmallTypes.nextOf (.ref it)) Q E s:=by
 obtain⟨ob,hob,hcl,hda⟩:=id hit;obtain⟨ot,hot,_,nt,hdt⟩:=ht;unfold Builtin.SmallTypes.nextOf;refine Za (ZY (name:=Str.ofString "__next__") hit.typeIs Qq (ZT Qq hit.typeIs F.entry_tuple_iterator_next ?_ (F.args_tuple_iterator_next_1 _)));show wpAny _ _ (field (.ref it) 0>>=_) _ _ s;refine Za (Xy hob hda (x:=.ref t) rfl ?_);show wpAny _ _ (if(Value.ref t==Value.none)=true then _ else _) _ _ s;rw[Zh (show ¬((Value.ref t==Value.none)=true) from Zz)];show wpAny _ _ (field (.ref it) 1>>=_) _ _ s;refine Za (Xy hob hda (x:=.int k 0) rfl ?_);show wpAny _ _ (seqItems? (.ref t)>>=_) _ _ s;refine Za (Wa hot hdt ?_);simp only[Z5,hu];refine Za (QA (Za (Qu hob hda (by simp) ?_)));show wpAny _ _ (newExc (.type "StopIteration") []>>=_) _ _ _;refine Za ?_;simp only[newExc,newTuple];refine Za (Z0 ?_ (by size_fits));refine Za (m:=firstArgMember _ _) (Xz (a:=Value.none) (by first|rfl|(simp only[firstArgMember]; rfl)) ?_);refine Z0 ?_ (by size_fits);simp only[raiseNew];refine Za (wpAny_handled ?_);first|rw[show A.in1.handled=none from calm]|rw[calm]
 refine Za (Zc (wpAny_throw ?_));exact fin _ _ (((Xl ..).extBut.push _).push _) ⟨_,Zw _ rfl,rfl⟩
def Inn(tup:Bool)(h:Heap)(it a:Addr)(k:Nat):Prop:=match tup with
 | true=>h.IsTupleIter it a k
 | false=>h.IsListIter it a k
def Seq(tup:Bool)(h:Heap)(a:Addr)(us:W5):Prop:=match tup with
 | true=>h.IsTuple a us
 | false=>h.IsList a us
theorem Inn.keep{tup:Bool}{h h':Heap}{it a:Addr}{k:Nat}(x:Inn tup h it a k)(e:∀o,h.get? it=some o->h'.get? it=some o):Inn tup h' it a k:=by
 cases tup with
 | true=>obtain⟨o,ho,r⟩:=(show h.IsTupleIter it a k from x); exact⟨o,e _ ho,r⟩
 | false=>obtain⟨o,ho,r⟩:=(show h.IsListIter it a k from x); exact⟨o,e _ ho,r⟩
theorem Inn.there{tup:Bool}{h:Heap}{it a:Addr}{k:Nat}(x:Inn tup h it a k):∃o,h.get? it=some o/\∀v,o.data≠.cell v:=by
 cases tup with
 | true=>obtain⟨o,ho,_,hd⟩:=(show h.IsTupleIter it a k from x); exact⟨o,ho,λv z=>by rw[hd] at z; cases z⟩
 | false=>obtain⟨o,ho,_,hd⟩:=(show h.IsListIter it a k from x); exact⟨o,ho,λv z=>by rw[hd] at z; cases z⟩
theorem yk{tup:Bool}{it a:Addr}{k:Nat}{us:W5}{u:Value}{Q:WS}(hit:Inn tup s.heap it a k)(hs:Seq tup s.heap a us)(hu:us[k]?=some u)
  (fin:∀h',Inn tup h' it a (k+1)->Heap.SameBut it s.heap h'->Q u { s with heap:=h' }):wpAny (model prog w) A (Builtin.SmallTypes.nextOf (.ref it)) Q E s:=by
 cases tup with
 | true=>exact Co hit hs hu fin
 | false=>exact wpAny_nextOf_list_item hit hs hu fin
theorem CP{tup:Bool}{it a:Addr}{k:Nat}{us:W5}{Q:WS}(calm:A.handled=none)(hit:Inn tup s.heap it a k)(hs:Seq tup s.heap a us)(hu:us[k]?=none)
  (fin:∀h' e,Heap.ExtBut it s.heap h'->(∃o,h'.get? e=some o/\o.cls=.type "StopIteration")->E (.ref e) { s with heap:=h' }):wpAny (model prog w) A (Builtin.SmallTypes.nextOf (.ref it)) Q E s:=by
 cases tup with
 | true=>exact Fj calm hit hs hu fin
 | false=>exact wpAny_nextOf_list_end calm hit hs hu fin
theorem Fd{tup:Bool}{en it a:Addr}{k:Nat}{us:W5}{u old:Value}{Q:Option Value->Shared->Prop}(he:IsEnum s.heap en it k old)(hit:Inn tup s.heap it a k)(hs:Seq tup s.heap a us)(hu:us[k]?=some u)(hne:en≠it)
  (fin:∀h',IsEnumOut h' en it ((k:Int)+1) u s.heap.objs.size->Inn tup h' it a (k+1)->h'.get? s.heap.objs.size=some { cls:=.type "tuple",data:=.seq #[.int k s.toks,u] }->h'.objs.size=s.heap.objs.size+1 ->
   (∀b o,b≠en->b≠it->s.heap.get? b=some o->h'.get? b=some o)->Q (some (.ref s.heap.objs.size)) { s with heap:=h',toks:=s.toks+1 }):wpAny (model prog w) A (pyNext (.ref en)) Q E s:=by
 have hT:s.TypeIs (.ref en) "enumerate":=⟨_,he,rfl⟩
 unfold pyNext;refine Za (XJ (ZY (name:=Str.ofString "__next__") hT QO (ZT QO hT F.entry_enumerate_next ?_ (F.args_enumerate_next_1 _))));obtain⟨hp,g,dr,tk,os⟩:=s;show wpAny _ _ (field (.ref en) 2>>=_) _ _ _;refine Za (Xy he rfl (x:=.ref it) rfl ?_);refine Za (yk hit hs hu λh1 hit1 sb1=>?_);replace sb1:Heap.SameBut it hp h1:=sb1;have he1:IsEnum h1 en it k old:=(sb1.2 en hne).trans he;show wpAny _ _ (field (.ref en) 3>>=_) _ _ ⟨h1,g,dr,tk,os⟩;refine Za (Xy he1 rfl (x:=rawInt k) rfl ?_);show wpAny _ _ (field (.ref en) 4>>=_) _ _ ⟨h1,g,dr,tk,os⟩;refine Za (Xy he1 rfl (x:=.none) rfl ?_);show wpAny _ _ (mkInt k>>=_) _ _ ⟨h1,g,dr,tk,os⟩;refine Za (wpAny_mkInt ?_);show wpAny _ _ (setField (.ref en) 3 (rawInt ((k:Int)+1))>>=_) _ _ ⟨h1,g,dr,tk+1,os⟩;refine Za (QB he1 (by simp) λh2 he2 sb2=>?_);replace sb2:Heap.SameBut en h1 h2:=sb2;replace he2:IsEnum h2 en it ((k:Int)+1) old:=he2;show wpAny _ _ (setField (.ref en) 4 .none>>=_) _ _ ⟨h2,g,dr,tk+1,os⟩;refine Za (QB he2 (by simp) λh3 he3 sb3=>?_);replace sb3:Heap.SameBut en h2 h3:=sb3;replace he3:IsEnum h3 en it ((k:Int)+1) old:=he3;show wpAny _ _ (newTuple [.int k tk,u]>>=_) _ _ ⟨h3,g,dr,tk+1,os⟩;refine Za (wpAny_newTuple ?_);have he4:IsEnum (h3.push { cls:=.type "tuple",data:=.seq #[.int k tk,u] }) en it ((k:Int)+1) old:=Zg _ he3;generalize eh4:h3.push { cls:=.type "tuple",data:=.seq #[.int k tk,u] }=h4 at he4;have sz3:h3.objs.size=hp.objs.size:=by rw[sb3.1,sb2.1,sb1.1]
 have enlt:en<hp.objs.size:=Zp he;have tp4:h4.get? hp.objs.size=some { cls:=.type "tuple",data:=.seq #[.int k tk,u] }:=by rw[<- eh4,<- sz3]; exact Zw _ rfl
 have sz4:h4.objs.size=hp.objs.size+1:=by rw[<- eh4,Xw,sz3]
 have kp4:∀b o,b≠en->b≠it->hp.get? b=some o->h4.get? b=some o:=λb o hbe hbi hb=>by
  rw[<- eh4]; exact Zg _ (sb3.extBut b o hbe (sb2.extBut b o hbe (sb1.extBut b o hbi hb)))
 have hit4:Inn tup h4 it a (k+1):=hit1.keep λo e=>by
  rw[<- eh4]; exact Zg _ (sb3.extBut _ o (Ne.symm hne) (sb2.extBut _ o (Ne.symm hne) e))
 show wpAny _ _ (Builtin.SmallTypes.ownedTupleIsFree (.ref en)>>=_) _ _ ⟨h4,g,dr,tk+1,os⟩;rw[sz3];clear eh4 he3 sb3 he2 sb2 he1 sb1 hit1 sz3 h3 h2 h1;refine Za ?_;unfold Builtin.SmallTypes.ownedTupleIsFree;refine Za (Xy he4 rfl (x:=.none) rfl (Zc ?_));simp only[Xu];refine Za (QA ?_);refine Za (Xy he4 rfl (x:=old) rfl ?_);refine Za (QB he4 (by simp) λh5 he5 sb5=>?_);replace sb5:Heap.SameBut en h4 h5:=sb5;replace he5:IsEnum h5 en it ((k:Int)+1) u:=he5;show wpAny _ _ (Builtin.SmallTypes.ownedTupleHandOut (.ref en) (.ref hp.objs.size)>>=_) _ _ ⟨h5,g,dr,tk+1,os⟩;refine Za ?_;unfold Builtin.SmallTypes.ownedTupleHandOut;refine Za (QB he5 (by simp) λh6 he6 sb6=>?_);replace sb6:Heap.SameBut en h5 h6:=sb6;replace he6:IsEnumOut h6 en it ((k:Int)+1) u hp.objs.size:=he6;refine QB he6 (by simp) λh7 he7 sb7=>?_
 replace sb7:Heap.SameBut en h6 h7:=sb7;replace he7:IsEnumOut h7 en it ((k:Int)+1) u hp.objs.size:=he7;have up:∀b o,b≠en->h4.get? b=some o->h7.get? b=some o:=λb o hbe hb=>sb7.extBut b o hbe (sb6.extBut b o hbe (sb5.extBut b o hbe hb))
 refine Za (wpAny_letGo (Zc ⟨_,rfl,Zc (fin h7 he7 (hit4.keep λo e=>up _ o (Ne.symm hne) e) (up _ _ (X1 enlt) tp4) ?_ λb o hbe hbi hb=>up b o hbe (kp4 b o hbe hbi hb))⟩));rw[sb7.1,sb6.1,sb5.1,sz4]
theorem Bc{tup:Bool}{en it a:Addr}{k:Nat}{us:W5}{old:Value}{Q:Option Value->Shared->Prop}(calm:A.handled=none)(he:IsEnum s.heap en it k old)(hit:Inn tup s.heap it a k)(hs:Seq tup s.heap a us)(hu:us[k]?=none)
  (fin:∀h',Heap.ExtBut it s.heap h'->Q none { s with heap:=h' }):wpAny (model prog w) A (pyNext (.ref en)) Q E s:=by
 have hT:s.TypeIs (.ref en) "enumerate":=⟨_,he,rfl⟩
 unfold pyNext;refine Za (XJ (ZY (name:=Str.ofString "__next__") hT QO (ZT QO hT F.entry_enumerate_next ?_ (F.args_enumerate_next_1 _))));show wpAny _ _ (field (.ref en) 2>>=_) _ _ _;refine Za (Xy he rfl (x:=.ref it) rfl ?_);refine Za (CP calm hit hs hu λh' x ext hx=>?_);obtain⟨o,ho,hc⟩:=hx;refine Za (Qd (T:="StopIteration") (b:=true) ⟨o,ho,hc⟩ WC ?_);exact Zc (fin _ ext)
theorem Gq(t:Addr)(us:W5)(n:Nat)(dd:Option Addr)(sl:Array (Option Value)) :
  Meets (Builtin.«enumerate.__new__» ⟨[.type "enumerate",.ref t],[]⟩) (λ_ R s=>s.heap.get? t=some { cls:=.type "tuple",dict:=dd,data:=.seq us n,slots:=sl } /\
   R (.ok (.ret (.ref (s.heap.push { cls:=.type "tuple_iterator",data:=.fields #[.ref t,.int 0 0] }).objs.size)))
    { s with heap:=(s.heap.push { cls:=.type "tuple_iterator",data:=.fields #[.ref t,.int 0 0] }).push { cls:=.type "enumerate",data:=.fields #[.none,.bool false,.ref s.heap.objs.size,rawInt 0,.none,.none] } }) :=
 .of_wp λprog w A R s h=>by
  obtain⟨hp,g,d,tk,os⟩:=s;obtain⟨ht,h⟩:=h;have hsub:=sub_enumerate;have hT:Heap.IsTuple (Shared.heap ⟨hp,g,d,tk,os⟩) t us:=⟨_,ht,rfl,n,rfl⟩
  wp_walk using wpAny_loadPart' ht
  refine wpAny_stack_any λst=>Zc ?_
  split
  ·rename_i c _ _ _ _ _;cases(c==Value.type "enumerate")
   ·wp_walk using wpAny_loadPart' ht,QC hT
    exact⟨_,rfl,h⟩
   ·wp_walk using wpAny_loadPart' ht,QC hT
    exact⟨_,rfl,h⟩
  ·wp_walk using wpAny_loadPart' ht,QC hT
   exact⟨_,rfl,h⟩
theorem zo{t:Addr}{us:W5}{Q:WS}(hT:s.heap.IsTuple t us)
  (h:∀h',IsEnum h' (s.heap.objs.size+1) s.heap.objs.size 0 .none->h'.IsTupleIter s.heap.objs.size t 0->h'.objs.size=s.heap.objs.size+2->(∀b o,s.heap.get? b=some o->h'.get? b=some o)->Q (.ref (s.heap.objs.size+1)) { s with heap:=h' }) :
  wpAny (model prog w) A (call (.type "enumerate") [.ref t]) Q E s:=by
 obtain⟨⟨c,dd,dt,sl⟩,ht,hc,n,hd⟩:=hT;replace hc:c=.type "tuple":=hc;replace hd:dt=.seq us n:=hd;subst hc hd;refine callType_new F.called_enumerate (by decide) (F.typeCall_enumerate_1 _) (F.newCall_enumerate_1 _) (λobj=>F.args_object_init_2 obj _) F.entry_enumerate_new (Gq t us n dd sl) ⟨ht,?_⟩;have sz:(s.heap.push { cls:=.type "tuple_iterator",data:=.fields #[.ref t,.int 0 0] }).objs.size=s.heap.objs.size+1:=Xw ..;show _/\_;rw[sz]
 have he:IsEnum ((s.heap.push { cls:=.type "tuple_iterator",data:=.fields #[.ref t,.int 0 0] }).push { cls:=.type "enumerate",data:=.fields #[.none,.bool false,.ref s.heap.objs.size,rawInt 0,.none,.none] }) (s.heap.objs.size+1) s.heap.objs.size 0 .none:=by
  have:=Zw (s.heap.push { cls:=.type "tuple_iterator",data:=.fields #[.ref t,.int 0 0] }) (o:={ cls:=.type "enumerate",data:=.fields #[.none,.bool false,.ref s.heap.objs.size,rawInt 0,.none,.none] }) rfl;rw[sz] at this; exact this
 exact⟨⟨_,he,rfl⟩,h _ he ⟨_,Zg _ (Zw _ rfl),rfl,rfl⟩ (by rw[Xw,sz]) λb o x=>Zg _ (Zg _ x)⟩
theorem EZ{tup:Bool}{a:Addr}{us:W5}{Q:WS}(hs:Seq tup s.heap a us)
  (h:∀h',IsEnum h' (s.heap.objs.size+1) s.heap.objs.size 0 .none->Inn tup h' s.heap.objs.size a 0->h'.objs.size=s.heap.objs.size+2->(∀b o,s.heap.get? b=some o->h'.get? b=some o)->Q (.ref (s.heap.objs.size+1)) { s with heap:=h' }) :
  wpAny (model prog w) A (call (.type "enumerate") [.ref a]) Q E s:=by
 cases tup with
 | true=>exact zo hs h
 | false=>exact call_enumerate_list hs h
end
end ENM
namespace L2
open PySem PySem.Spec PyProof.Rows ENM
def SqB(K:WV)(H:Hp)(tup:Bool)(a:Addr)(xs:W8):Prop:=match tup with
 | true=>SqT K H a xs
 | false=>SqL K H a xs
noncomputable def Ite(K:WV)(tup:Bool)(a:Addr):It :=
 ⟨λi H=>∃xs x,SqB K H tup a xs/\xs[i]?=some x,λi H x H'=>∃y p,(∀xs,SqB K H tup a xs->xs[i]?=some y)/\H p=none/\H'=upd H p (.tup [.int i,y])/\x=.ref p,λi H=>∃xs,SqB K H tup a xs/\xs.length<=i⟩
theorem Inv.nI{X:Cx}{pins:WT}{σ:L2.St}{H:Hp}{s:WX}(I:Inv X pins σ H s){tup:Bool}{a:Addr}{xs:W8}(h:SqB X.K H tup a xs):∃its:List Value,Vals xs its/\Seq tup s.heap a its.toArray:=by
 cases tup with
 | true=>obtain⟨its,rv,p,_⟩:=I.tuple h; exact⟨its,rv,p⟩
 | false=>obtain⟨its,rv,p,_⟩:=I.list h; exact⟨its,rv,p.isList⟩
theorem Inv.Bk{X:Cx}{pins:WT}{σ:L2.St}{H:Hp}{s:WX}(I:Inv X pins σ H s){tup:Bool}{a:Addr}{xs ys:W8}(h:SqB X.K H tup a xs)(h':SqB X.K H tup a ys):xs=ys:=by
 cases tup with
 | true=>exact I.lz h h'
 | false=>exact I.kr h h'
theorem EK{P:WZ}{w:W2}{K:WV}{elts:W7}{k1:Nat}{tp:Pos}(tup:Bool)(a en it:Addr)(hne:en≠it) :
  Turn P w K (.Tuple elts k1 tp) (Ite K tup a) [en,it] en (λi h=>(∃old,IsEnum h en it i old)/\Inn tup h it a i) where
 mem:=by simp
 obj:=λi h st b hb=>by
  obtain⟨⟨old,he⟩,hi⟩:=st;rcases Zx.mp hb with rfl|hb
  ·exact⟨_,he,λv z=>by
    have z':Data.fields _=Data.cell v:=z;cases z'⟩
  ·have e:b=it:=by simpa using hb
   subst e; exact hi.there
 keep:=λi h h' st k=>by
  obtain⟨⟨old,he⟩,hi⟩:=st;exact⟨⟨old,k en (by simp) _ he⟩,hi.keep λo e=>k it (by simp) o e⟩
 item:=by
  intro X hP hw hK hc i pins s σ H E I hf st hg;subst hP hw hK;obtain⟨⟨old,he⟩,hi⟩:=st;obtain⟨xs,x,hq,hx⟩:=hg;obtain⟨its,rv,hs⟩:=I.nI hq;obtain⟨u,hu,ru⟩:=rv.get hx;obtain⟨f0,f1,f2,f3,f4,f5⟩:=hf en (by simp);obtain⟨g0,g1,g2,g3,g4,g5⟩:=hf it (by simp);refine Fd he hi hs (u:=u) (by simpa using hu) hne λh' ho hi' ht hz hk=>?_
  refine⟨_,rfl,wpAny_letOwnedTupleGo_enum ho λh2 he2 sb2=>?_⟩;replace sb2:Heap.SameBut en h' h2:=sb2;have elt:en<s.heap.objs.size:=Zp he;have hp:H s.heap.objs.size=none:=I.hok.fresh (Zm _);have ilt:it<s.heap.objs.size:=by obtain⟨o,e,_⟩:=hi.there; exact Zp e
  have kept:∀b o,b≠en->b≠it->s.heap.get? b=some o->h2.get? b=some o:=λb o h1 h3 e=>sb2.extBut b o h1 (hk b o h1 h3 e)
  have tp2:h2.get? s.heap.objs.size=some { cls:=.type "tuple",data:=.seq #[.int i s.toks,u] }:=sb2.extBut _ _ (X1 elt) ht
  have I2:Inv X pins σ (upd H s.heap.objs.size (.tup [.int i,x])) { s with heap:=h2,toks:=s.toks+1 }:=by
   refine I.step (g':=s.gens) (d':=s.drawn) (ch:=[en,it]) (λb hb=>?_) (λb o _ _ hc e _=>kept b o (λz=>hc (by simp[z])) (λz=>hc (by simp[z])) e)
    (λb o _ _ hc e _=>⟨o.slots,kept b o (λz=>hc (by simp[z])) (λz=>hc (by simp[z])) e⟩) (λb o _ e n=>by rw[aF (ZF (Zp e))]; exact n)
    (λb o hc e=>⟨o,kept b o (λz=>hc (by simp[z])) (λz=>hc (by simp[z])) e⟩) (λb ys q=>by rw[aF (bF q hp)]; exact q) (λb o u q=>by rw[aF (bF q hp)]; exact q)
    (λb ps q=>⟨#[],by rw[aF (bF q hp),q]; simp⟩) (λm hm=>?_) ?_ I.bare
   ·rcases Zx.mp hb with rfl|hb
    ·exact⟨f3,f1,f4,f5⟩
    ·have e:b=it:=by simpa using hb
     subst e; exact⟨g3,g1,g4,g5⟩
   ·obtain⟨o,es,ep,ho',r⟩:=hm;exact⟨o,es,ep,kept _ o (Ne.symm f1) (Ne.symm g1) ho',r⟩
   ·intro b o q
    by_cases hb:b=s.heap.objs.size
    ·subst hb;rw[cH] at q;cases q;exact⟨by show 2<=sizeLine; decide,[.int i s.toks,u],.cons ⟨_,rfl⟩ (.cons ru .nil),_,tp2,rfl,_,rfl⟩
    ·rw[aF hb] at q;have hb1:b≠en:=λz=>by rw[z,f0] at q; cases q
     have hb2:b≠it:=λz=>by rw[z,g0] at q; cases q
     refine(I.hok b o q).stay (λc v hc e=>?_) (λc q=>by rw[aF (bF q hp)]; exact q) λc ys q=>by rw[aF (bF q hp)]; exact q
     rcases hc with rfl|hc
     ·exact kept _ v hb1 hb2 e
     ·exact kept c v (λz=>by rw[z,f0] at hc; cases hc) (λz=>by rw[z,g0] at hc; cases hc) e
  refine⟨.ref s.heap.objs.size,upd H s.heap.objs.size (.tup [.int i,x]),I2,rfl,⟨x,_,λys hy=>by rw[I.Bk hy hq]; exact hx,hp,rfl,rfl⟩,⟨⟨u,by simpa using he2⟩,hi'.keep λo e=>sb2.extBut _ o (Ne.symm hne) e⟩,λb hb=>?_⟩;rcases Zx.mp hb with rfl|hb
  ·rw[aF (ZF elt)]; exact f0
  ·have e:b=it:=by simpa using hb
   subst e; rw[aF (ZF ilt)]; exact g0
 done:=by
  intro X hP hw hK hc i pins s σ H E I hf st hg;subst hP hw hK;obtain⟨⟨old,he⟩,hi⟩:=st;obtain⟨xs,hq,hx⟩:=hg;obtain⟨its,rv,hs⟩:=I.nI hq;obtain⟨g0,g1,g2,g3,g4,g5⟩:=hf it (by simp);have hl:=rv.length;exact Bc (I.ok.hd hc) he hi hs (by simp; omega) λh' eb=>⟨rfl,I.turned (t':=s.toks) (λb o hb e=>eb b o hb e) g0 g1 g3 g4 g5⟩
 self:=λ_ _ _ _ _ st h=>by
  obtain⟨⟨old,he⟩,_⟩:=st;exact wpAny_pyIter_enum he h
section
variable{X:Cx}
noncomputable def zC(K:WV)(ta:TA):TI:=λσ H R=>ta σ H λvs H1=>∃tup a,vs=[.ref a]/\(∃xs,SqB K H1 tup a xs)/\R (Ite K tup a) H1
theorem Bv{e:Expr}{ta:TA}{p pos:Pos}{elts:W7}{k1:Nat}{tp:Pos}(hg:Gl X "enumerate")(hm:X.mg "enumerate" = none)(hv:bootBuiltins "enumerate" = some (.type "enumerate"))(ha:PA X [e] ta)(hs:starEach [e] X.env=[(false,eval e X.env)]) :
  PI X (.Tuple elts k1 tp) (.Call (.Name "enumerate" p) [e] [] pos) (zC X.K ta):=by
 intro pins s σ H R I h;refine Call_ (cY I hg hm hv (Xm (thn (ha pos pins s σ H _ I h) λus s1 ⟨vs,H1,I1,r1,q1⟩=>?_) hs rfl));obtain⟨tup,a,e,⟨xs,hq⟩,q⟩:=q1;subst e
 cases r1 with
 | cons r rr =>
  cases rr;cases r;obtain⟨its,rv,hsq⟩:=I1.nI hq;refine EZ hsq λh' he hi hz hk=>?_
  refine wpAny_pyIter_enum he ?_;have fr:∀b,s1.heap.objs.size<=b->cW X pins H1 b:=λb hb=>I1.ic hb (I1.hok.fresh hb)
  refine⟨s1.heap.objs.size+1,[s1.heap.objs.size+1,s1.heap.objs.size],_,_,H1,rfl,I1.kept (t':=s1.toks) hk,EK tup a _ _ (X1 (XG _)),⟨⟨.none,he⟩,hi⟩,λb hb=>?_,q⟩;rcases Zx.mp hb with rfl|hb
  ·exact fr _ (XU _)
  ·have e:b=s1.heap.objs.size:=by simpa using hb
   subst e; exact fr _ (Zm _)
end
end L2

namespace TB
open PySem PySem.SetTable
noncomputable def adv(mask:Nat)(p:Probe):Probe :=
 if p.more>0 then{ p with j:=p.j+1,more:=p.more-1 } else
 { p with j:=(leap mask p.i p.perturb).1,more:=runEnd mask (leap mask p.i p.perturb).1-(leap mask p.i p.perturb).1,i:=(leap mask p.i p.perturb).1,perturb:=(leap mask p.i p.perturb).2 }
theorem vY(t:SetTable)(p:Probe):t.advance p=adv t.mask p:=rfl
noncomputable def bs(mask:Nat)(b:Nat×Nat):Probe:={ j:=b.1,more:=runEnd mask b.1-b.1,i:=b.1,perturb:=b.2,dummy:=none }
noncomputable def st(mask:Nat)(h:Int):Nat->Probe
 | 0=>bs mask (bits h%(mask+1),bits h)
 | k+1=>adv mask (st mask h k)
noncomputable def pos(mask:Nat)(h:Int)(k:Nat):Nat:=(st mask h k).j
noncomputable def dD(mask:Nat):Nat->Probe->Probe
 | 0,p=>p
 | n+1,p=>dD mask n (adv mask p)
theorem mH(mask:Nat):∀(a b:Nat) (p:Probe),dD mask (a+b) p=dD mask b (dD mask a p)
 | 0,b,p=>by rw[XV]; rfl
 | a+1,b,p=>by rw[Nat.add_right_comm]; exact mH mask a b (adv mask p)
theorem jB(mask:Nat)(h:Int):∀(n k:Nat),dD mask n (st mask h k)=st mask h (k+n)
 | 0,k=>rfl
 | n+1,k=>by
  show dD mask n (st mask h (k+1))=_;rw[jB mask h n (k+1),show k+1+n=k+(n+1) by omega]
theorem sN(mask:Nat)(h:Int):∀k,(st mask h k).dummy=none
 | 0=>rfl
 | k+1=>by
  show(adv mask (st mask h k)).dummy=none;unfold adv;split<;>exact sN mask h k
structure Ok(mask:Nat)(p:Probe):Prop where
 i:p.i<=mask
 q:p.perturb<2^64
 m:p.more<=9
 j:p.j+p.more=runEnd mask p.i
 d:p.dummy=none
theorem vQ(mask i:Nat):runEnd mask i-i<=9:=by unfold runEnd; split<;>omega
theorem oK(mask i:Nat):i<=runEnd mask i:=by unfold runEnd; split<;>omega
theorem q_{mask i:Nat}(h:i<=mask):runEnd mask i<=mask:=by unfold runEnd; split<;>omega
theorem uU{mask:Nat}{b:Nat×Nat}(h1:b.1<=mask)(h2:b.2<2^64):Ok mask (bs mask b) :=
 ⟨h1,h2,vQ mask b.1,Nat.add_sub_cancel' (oK mask b.1),rfl⟩
theorem tH{mask i q:Nat}(h:q<2^64):(leap mask i q).1<=mask/\(leap mask i q).2<2^64:=by
 refine⟨QX.mp (QD _ (Qx mask)),?_⟩;show q/32<_;omega
theorem AD{mask:Nat}{p:Probe}(h:Ok mask p):Ok mask (adv mask p):=by
 unfold adv;split
 ·rename_i hm;exact⟨h.i,h.q,by show p.more-1<=9; have:=h.m; omega,by show p.j+1+(p.more-1)=runEnd mask p.i; have:=h.j; omega,h.d⟩
 ·have:=tH (mask:=mask) (i:=p.i) h.q;exact⟨this.1,this.2,vQ _ _,Nat.add_sub_cancel' (oK _ _),h.d⟩
theorem qO(h:Int):bits h<2^64:=by
 unfold bits;have h1:=Wq h (show(2^64:Int)≠0 by decide);have h2:=Q3 h (show(0:Int)<2^64 by decide);omega
theorem bX(mask:Nat)(h:Int):∀k,Ok mask (st mask h k)
 | 0=>uU (QX.mp (QD _ (Qx mask))) (qO h)
 | k+1=>AD (bX mask h k)
theorem F4(mask:Nat)(h:Int)(k:Nat):pos mask h k<=mask:=by
 have o:=bX mask h k;have:=q_ o.i;have:=o.j;unfold pos; omega
theorem nG(mask:Nat):∀(a:Nat) (p:Probe),a<=p.more->dD mask a p={ p with j:=p.j+a,more:=p.more-a }
 | 0,p,_=>rfl
 | a+1,p,h=>by
  have e:adv mask p={ p with j:=p.j+1,more:=p.more-1 }:=by unfold adv; rw[Zf (by omega)]
  show dD mask a (adv mask p)=_;rw[e,nG mask a _ (by show a<=p.more-1; omega)];show({ p with j:=p.j+1+a,more:=p.more-1-a }:Probe)=_;congr 1<;>omega
theorem pD{mask:Nat}{p:Probe}(h:p.dummy=none):dD mask (p.more+1) p=bs mask (leap mask p.i p.perturb):=by
 rw[mH,nG mask p.more p (Zm _)];show adv mask { p with j:=p.j+p.more,more:=p.more-p.more }=_;unfold adv;rw[Zh (by show ¬p.more-p.more>0; omega)];unfold bs;rw[<- h]
noncomputable def cz(mask:Nat):Nat->Nat×Nat->Nat×Nat
 | 0,b=>b
 | n+1,b=>cz mask n (leap mask b.1 b.2)
theorem blocks{mask:Nat}:∀(n:Nat) (p:Probe),Ok mask p->∃c,c<=10*(n+1)/\dD mask c p=bs mask (cz mask (n+1) (p.i,p.perturb))
 | 0,p,h=>⟨p.more+1,by have:=h.m; omega,pD h.d⟩
 | n+1,p,h=>by
  have hb:=tH (mask:=mask) (i:=p.i) h.q;obtain⟨c,hc,e⟩:=blocks n (bs mask (leap mask p.i p.perturb)) (uU hb.1 hb.2);refine⟨p.more+1+c,by have:=h.m; omega,?_⟩;rw[mH,pD h.d,e];rfl
theorem rK(mask:Nat):∀(n:Nat) (b:Nat×Nat),(cz mask n b).2=b.2/32^n
 | 0,b=>(Nat.div_one _).symm
 | n+1,b=>by
  show(cz mask n (leap mask b.1 b.2)).2=_;rw[rK mask n];show b.2/32/32^n=_;rw[Nat.div_div_eq_div_mul,WP,Nat.mul_comm]
theorem uh(mask:Nat):∀(a b:Nat) (x:Nat×Nat),cz mask (a+b) x=cz mask b (cz mask a x)
 | 0,b,x=>by rw[XV]; rfl
 | a+1,b,x=>by rw[Nat.add_right_comm]; exact uh mask a b _
theorem vp{mask:Nat}:∀(n:Nat) (b:Nat×Nat),b.1<=mask->(cz mask n b).1<=mask
 | 0,b,h=>h
 | n+1,b,_=>vp n _ (QX.mp (QD _ (Qx mask)))
noncomputable def iR(mask:Nat):Nat->Nat->List Nat
 | 0,_=>[]
 | n+1,i=>i::iR mask n ((i*5+1)%(mask+1))
theorem lP{mask:Nat}:∀(n i j:Nat),j∈iR mask n i->∃m,m<n/\(cz mask m (i,0)).1=j
 | 0,i,j,h=>by simp[iR] at h
 | n+1,i,j,h=>by
  rcases Zx.mp h with rfl|h
  ·exact⟨0,by omega,rfl⟩
  ·obtain⟨m,hm,e⟩:=lP n _ j h;refine⟨m+1,by omega,?_⟩;have e2:leap mask i 0=((i*5+1)%(mask+1),0):=by unfold leap; rw[Nat.zero_div,Nat.add_zero]
   rw[<- e,<- e2];rfl
theorem Ak:∀i<8,∀j<8,j∈iR 7 8 i:=by decide +kernel
theorem C8:∀i<32,∀j<32,j∈iR 31 32 i:=by decide +kernel
def Msk(mask:Nat):Prop:=mask=7\/mask=31
theorem round{mask:Nat}(hm:Msk mask){i j:Nat}(hi:i<=mask)(hj:j<=mask):∃m,m<=mask/\(cz mask m (i,0)).1=j:=by
 rcases hm with rfl|rfl
 ·obtain⟨m,h,e⟩:=lP _ _ _ (Ak i (by omega) j (by omega)); exact⟨m,by omega,e⟩
 ·obtain⟨m,h,e⟩:=lP _ _ _ (C8 i (by omega) j (by omega)); exact⟨m,by omega,e⟩
theorem reach{mask:Nat}(hm:Msk mask){i q j:Nat}(hi:i<=mask)(hq:q<2^64)(hj:j<=mask):∃n,12<=n/\n<=12+mask/\(cz mask (n+1) (i,q)).1=j:=by
 have h0:(cz mask 13 (i,q)).2=0:=by
  rw[rK];exact Nat.div_eq_of_lt (Qj hq (by decide))
 obtain⟨m,h1,e⟩:=round hm (vp 13 (i,q) hi) hj;refine⟨12+m,by omega,by omega,?_⟩;rw[show 12+m+1=13+m by omega,uh];rw[show cz mask 13 (i,q)=((cz mask 13 (i,q)).1,0) from Prod.ext rfl h0];exact e
theorem cover{mask:Nat}(hm:Msk mask)(h:Int)(k:Nat){j:Nat}(hj:j<=mask):∃d,d<10*turns mask/\pos mask h (k+d)=j:=by
 have o:=bX mask h k;obtain⟨n,h1,h2,e⟩:=reach hm o.i o.q hj;obtain⟨c,hc,e2⟩:=blocks n (st mask h k) o;refine⟨c,by unfold turns; omega,?_⟩;rw[jB] at e2;unfold pos;rw[e2];exact e
end TB

namespace TB
open PySem PySem.SetTable
def Srt(xs:Array Nat):Prop:=∀(i i' v v':Nat),xs[i]?=some v->xs[i']?=some v'->i<i'->v<v'
theorem nj{xs:Array Nat}(hs:Srt xs)(j:Nat):∀(fuel lo hi:Nat),lo<=hi->hi<=xs.size->hi-lo<=fuel->(∀(i v:Nat),xs[i]?=some v->i<lo->v<j)->(∀(i v:Nat),xs[i]?=some v->hi<=i->j<=v) ->
  below.go xs j fuel lo hi<=xs.size/\(∀(i v:Nat),xs[i]?=some v->i<below.go xs j fuel lo hi->v<j)/\∀(i v:Nat),xs[i]?=some v->below.go xs j fuel lo hi<=i->j<=v
 | 0,lo,hi,h1,h2,h3,h4,h5=>by
  have e:lo=hi:=by omega
  subst e;exact⟨h2,h4,h5⟩
 | fuel+1,lo,hi,h1,h2,h3,h4,h5=>by
  by_cases hl:lo<hi
  ·have ego:below.go xs j (fuel+1) lo hi=if xs.getD ((lo+hi)/2) j<j then below.go xs j fuel ((lo+hi)/2+1) hi else below.go xs j fuel lo ((lo+hi)/2):=by
    conv=>lhs; unfold below.go
    rw[Zf hl]
   have hm:(lo+hi)/2<xs.size:=by omega
   have hg:xs[(lo+hi)/2]?=some xs[(lo+hi)/2]:=Zs hm;have hd:xs.getD ((lo+hi)/2) j=xs[(lo+hi)/2]:=by rw[Xo,hg]; rfl
   rw[ego,hd]
   by_cases hv:xs[(lo+hi)/2]<j
   ·rw[Zf hv];refine nj hs j fuel ((lo+hi)/2+1) hi (by omega) h2 (by omega) (λi v e hi'=>?_) h5
    by_cases z:i=(lo+hi)/2
    ·subst z; rw[hg] at e; cases e; exact hv
    ·exact Qj (hs i _ v _ e hg (by omega)) hv
   ·rw[Zh hv];refine nj hs j fuel lo ((lo+hi)/2) (by omega) (by omega) (by omega) h4 λi v e hi'=>?_
    by_cases z:i=(lo+hi)/2
    ·subst z; rw[hg] at e; cases e; omega
    ·have:=hs _ i _ v hg e (by omega); omega
  ·have ego:below.go xs j (fuel+1) lo hi=lo:=by
    conv=>lhs; unfold below.go
    rw[Zh hl]
   have e:lo=hi:=by omega
   subst e;rw[ego];exact⟨h2,h4,h5⟩
theorem nY{xs:Array Nat}(hs:Srt xs)(j:Nat):below xs j<=xs.size/\(∀(i v:Nat),xs[i]?=some v->i<below xs j->v<j)/\∀(i v:Nat),xs[i]?=some v->below xs j<=i->j<=v :=
 nj hs j xs.size 0 xs.size (Xe _) (Zm _) (by omega) (λi v _ h=>by omega) λi v e h=>by
  have:=(ZV.mp e).1; omega
def NotIn(xs:Array Nat)(j:Nat):Prop:=∀i:Nat,xs[i]?≠some j
theorem below_at{xs:Array Nat}(hs:Srt xs){i j:Nat}(e:xs[i]?=some j):below xs j=i:=by
 obtain⟨h1,h2,h3⟩:=nY hs j;have hi:=(ZV.mp e).1;rcases WJ (below xs j) i with z|z|z
 ·have hg:xs[below xs j]?=some xs[below xs j]:=Zs (by omega);have:=h3 _ _ hg (Zm _);have:=hs _ i _ j hg e z;omega
 ·exact z
 ·have:=h2 i j e z; omega
theorem jS{t:SetTable}(hs:Srt t.place){i j:Nat}(e:t.place[i]?=some j):t.slot j=.live i:=by
 unfold slot;rw[below_at hs e];simp only[e,Xi,Xu]
theorem yI{t:SetTable}(hd:t.dummies=#[]){j:Nat}(h:NotIn t.place j):t.slot j=.empty:=by
 unfold slot
 have h1:(t.place[below t.place j]?==some j)=false:=by
  cases q:t.place[below t.place j]?==some j with
  | false=>rfl
  | true=>exact absurd (by simpa using q) (h _)
 simp only[h1,Zu,ZM];rw[hd];rfl
theorem lZ{t:SetTable}{f:Nat->Int}{h:Int}:∀(d k fuel:Nat),d<fuel->(∀k',k<=k'->k'<k+d->∃i,t.slot (pos t.mask h k')=.live i/\f i≠h) ->
  probe.go t f h fuel (st t.mask h k)=probe.go t f h (fuel-d) (st t.mask h (k+d))
 | 0,k,fuel,_,_=>rfl
 | d+1,k,0,hf,_=>by omega
 | d+1,k,fuel+1,hf,hw=>by
  obtain⟨i,e,hne⟩:=hw k (Zm _) (by omega);have e:t.slot (st t.mask h k).j=.live i:=e
  conv=>lhs; unfold probe.go
  simp only[e];rw[Zh (by simpa using hne),vY];show probe.go t f h fuel (st t.mask h (k+1))=_;rw[lZ d (k+1) fuel (by omega) λk' h1 h2=>hw k' (by omega) (by omega),show fuel+1-(d+1)=fuel-d by omega,show k+1+d=k+(d+1) by omega]
theorem DP{t:SetTable}{f:Nat->Int}{h:Int}{d k:Nat}(hd:d<10*turns t.mask)(hw:∀k',k<=k'->k'<k+d->∃i,t.slot (pos t.mask h k')=.live i/\f i≠h)(he:t.slot (pos t.mask h (k+d))=.empty) :
  t.probe f h (st t.mask h k)=some (.empty (pos t.mask h (k+d)) none):=by
 unfold probe;rw[lZ d k _ hd hw];obtain⟨m,hm⟩:∃m,10*turns t.mask-d=m+1:=⟨10*turns t.mask-d-1,by omega⟩
 rw[hm];unfold probe.go;have he:t.slot (st t.mask h (k+d)).j=.empty:=he;simp only[he,sN];rfl
theorem Je{t:SetTable}{f:Nat->Int}{h:Int}{d k i:Nat}(hd:d<10*turns t.mask)(hw:∀k',k<=k'->k'<k+d->∃i,t.slot (pos t.mask h k')=.live i/\f i≠h)(he:t.slot (pos t.mask h (k+d))=.live i)(hi:f i=h) :
  t.probe f h (st t.mask h k)=some (.candidate (pos t.mask h (k+d)) i (st t.mask h (k+d+1))):=by
 unfold probe;rw[lZ d k _ hd hw];obtain⟨m,hm⟩:∃m,10*turns t.mask-d=m+1:=⟨10*turns t.mask-d-1,by omega⟩
 rw[hm];unfold probe.go;have he:t.slot (st t.mask h (k+d)).j=.live i:=he;simp only[he];rw[Zf (by simpa using hi),vY];rfl
structure Good{α:Type}(t:SetTable)(es:Array (Int×α)):Prop where
 dum:t.dummies=#[]
 len:t.place.size=es.size
 srt:Srt t.place
 top:∀(i s:Nat),t.place[i]?=some s->s<=t.mask
 msk:Msk t.mask
 way:∀(i s:Nat) e,t.place[i]?=some s->es[i]?=some e->∃k,pos t.mask e.1 k=s/\∀k',k'<k->∃i':Nat,t.place[i']?=some (pos t.mask e.1 k')
variable{α:Type}{t:SetTable}{es:Array (Int×α)}
theorem Gp{xs:Array Nat}(hs:Srt xs){mask:Nat}(ht:∀(i s:Nat),xs[i]?=some s->s<=mask)(hl:xs.size<=mask):∃j,j<=mask/\NotIn xs j:=by
 have hnd:xs.toList.Nodup:=by
  refine Qt.mpr λi i' h1 h2 hlt e=>?_
  rw[ZE] at h1 h2;have:=hs i i' _ _ (Zs h1) (Zs h2) hlt;rw[X4,X4] at e;omega
 by_cases h:∃j,j<=mask/\NotIn xs j
 ·exact h
 ·exfalso
  have hsub:List.range (mask+1) ⊆ xs.toList:=λj hj=>by
   have hj:j<=mask:=by have:=Z7.mp hj; omega
   by_cases q:NotIn xs j
   ·exact absurd ⟨j,hj,q⟩ h
   ·unfold NotIn at q;simp only[ne_eq,Classical.not_forall,Classical.not_not] at q;obtain⟨i,e⟩:=q;rw[<- ZR] at e;exact ZD e
  have:=(List.nodup_range (n:=mask+1)).length_le_of_subset hsub;rw[ZS,ZE] at this;omega
end TB

namespace TB
open PySem PySem.SetTable
variable{α:Type}{t:SetTable}{es:Array (Int×α)}
theorem least{P:Nat->Prop}:∀(n:Nat),P n->∃m,m<=n/\P m/\∀k,k<m->¬P k:=by
 intro n
 induction n using Nat.strongRecOn with
 | ind n ih =>
  intro h
  by_cases q:∃k,k<n/\P k
  ·obtain⟨k,hk,hp⟩:=q;obtain⟨m,h1,h2,h3⟩:=ih k hk hp;exact⟨m,by omega,h2,h3⟩
  ·exact⟨n,Zm _,h,λk hk hp=>q ⟨k,hk,hp⟩⟩
structure End(t:SetTable)(h:Int)(K:Nat):Prop where
 lt:K<10*turns t.mask
 free:NotIn t.place (pos t.mask h K)
 full:∀k,k<K->∃i:Nat,t.place[i]?=some (pos t.mask h k)
theorem Eb(g:Good t es)(hl:es.size<=t.mask)(h:Int):∃K,End t h K:=by
 obtain⟨j,hj,hn⟩:=Gp g.srt g.top (g.len▸hl);obtain⟨d,hd,e⟩:=cover g.msk h 0 hj;rw[XV] at e;obtain⟨K,h1,h2,h3⟩:=least (P:=λk=>NotIn t.place (pos t.mask h k)) d (by show NotIn t.place _; rw[e]; exact hn);refine⟨K,by omega,h2,λk hk=>?_⟩;have:=h3 k hk;unfold NotIn at this;simp only[ne_eq,Classical.not_forall,Classical.not_not] at this;exact this
theorem A6(g:Good t es){h:Int}{K:Nat}(E:End t h K){i:Nat}{e:Int×α}(he:es[i]?=some e)(hh:e.1=h):∃k,k<K/\t.place[i]?=some (pos t.mask h k):=by
 have hi:=(ZV.mp he).1;have hi':i<t.place.size:=g.len▸hi;have hp:t.place[i]?=some t.place[i]:=Zs hi';obtain⟨k,e1,e2⟩:=g.way i _ e hp he;rw[hh] at e1 e2;refine⟨k,?_,by rw[hp,<- e1]⟩;rcases WJ k K with z|z|z
 ·exact z
 ·subst z; exact absurd (e1▸hp) (E.free i)
 ·obtain⟨i',q⟩:=e2 K z; exact absurd q (E.free i')
theorem CT(g:Good t es){h:Int}{K:Nat}(E:End t h K){f:Nat->Int}{k:Nat}(hk:k<=K) :
  t.probe f h (st t.mask h k)=some (.empty (pos t.mask h K) none)/\(∀(m i:Nat),k<=m->m<K->t.place[i]?=some (pos t.mask h m)->f i≠h) \/
  ∃m i,k<=m/\m<K/\t.place[i]?=some (pos t.mask h m)/\f i=h/\t.slot (pos t.mask h m)=.live i/\t.probe f h (st t.mask h k)=some (.candidate (pos t.mask h m) i (st t.mask h (m+1)))/\∀(m' i':Nat),k<=m'->m'<m->t.place[i']?=some (pos t.mask h m')->f i'≠h:=by
 by_cases q:∃m,k<=m/\m<K/\∃i:Nat,t.place[i]?=some (pos t.mask h m)/\f i=h
 ·obtain⟨m0,q⟩:=q;obtain⟨m,_,⟨h1,h2,i,h3,h4⟩,h5⟩:=least (P:=λm=>k<=m/\m<K/\∃i:Nat,t.place[i]?=some (pos t.mask h m)/\f i=h) m0 q;have hne:∀(m' i':Nat),k<=m'->m'<m->t.place[i']?=some (pos t.mask h m')->f i'≠h:=λm' i' a b c d=>h5 m' b ⟨a,by omega,i',c,d⟩
  refine .inr ⟨m,i,h1,h2,h3,h4,jS g.srt h3,?_,hne⟩
  have:=Je (t:=t) (f:=f) (h:=h) (d:=m-k) (k:=k) (i:=i) (by have:=E.lt; omega) (λk' a b=>by
   obtain⟨i',e⟩:=E.full k' (by omega);exact⟨i',jS g.srt e,hne k' i' a (by omega) e⟩) (by rw[show k+(m-k)=m by omega]; exact jS g.srt h3) h4
  rw[show k+(m-k)=m by omega] at this;exact this
 ·have hne:∀(m i:Nat),k<=m->m<K->t.place[i]?=some (pos t.mask h m)->f i≠h:=λm i a b c d=>q ⟨m,a,b,i,c,d⟩
  refine .inl ⟨?_,hne⟩
  have:=DP (t:=t) (f:=f) (h:=h) (d:=K-k) (k:=k) (by have:=E.lt; omega) (λk' a b=>by
   obtain⟨i',e⟩:=E.full k' (by omega);exact⟨i',jS g.srt e,hne k' i' a (by omega) e⟩) (by rw[show k+(K-k)=K by omega]; exact yI g.dum E.free)
  rw[show k+(K-k)=K by omega] at this;exact this
theorem gK{β:Type}(xs:Array β){p:Nat}(hp:p<=xs.size)(x:β)(i:Nat):(insertAt xs p x)[i]?=if i<p then xs[i]? else if i=p then some x else xs[i-1]?:=by
 rw[<- ZR,SetTable.toList_insertAt];have hl:(xs.toList.take p).length=p:=by rw[Z3,ZE]; omega
 by_cases h1:i<p
 ·rw[Zf h1];rw[ZC (by omega),QZ h1,ZR]
 ·rw[Zh h1];rw[ZO (by omega),hl]
  by_cases h2:i=p
  ·subst h2; rw[Zf rfl,Wr]; rfl
  ·rw[Zh h2];obtain⟨m,rfl⟩:∃m,i=p+1+m:=⟨i-p-1,by omega⟩
   rw[show p+1+m-p=m+1 by omega,show p+1+m-1=p+m by omega];show(xs.toList.drop p)[m]?=_;rw[List.getElem?_drop,ZR]
theorem ou{β:Type}(xs:Array β)(p:Nat)(x:β):(insertAt xs p x).size=xs.size+1:=by
 have:=(SetTable.insertAt_perm xs p x).length_eq;rw[ZE,ZE,Array.size_push] at this;exact this
theorem yL(j:Nat):has #[] j=false:=rfl
theorem Er(g:Good t es){h:Int}{K:Nat}(E:End t h K)(x:α):Good (t.put (pos t.mask h K)).1 (insertAt es (t.put (pos t.mask h K)).2 (h,x)):=by
 obtain⟨s1,s2,s3⟩:=nY g.srt (pos t.mask h K);generalize hj:pos t.mask h K=j at s1 s2 s3;have hfree:NotIn t.place j:=hj▸E.free;generalize hp:below t.place j=p at s1 s2 s3;have e1:(t.put j).1.place=insertAt t.place p j:=by unfold put; rw[hp]
 have e2:(t.put j).2=p:=by unfold put; rw[hp]
 have e3:(t.put j).1.mask=t.mask:=rfl
 have e4:(t.put j).1.dummies=#[]:=by
  show(if has t.dummies j then eraseAt t.dummies (below t.dummies j) else t.dummies)=#[];rw[g.dum,yL]; rfl
 have s1':p<=es.size:=g.len▸s1
 have up:∀(i s:Nat),t.place[i]?=some s->∃i':Nat,(insertAt t.place p j)[i']?=some s:=λi s e=>by
  by_cases z:i<p
  ·exact⟨i,by rw[gK _ s1,Zf z]; exact e⟩
  ·exact⟨i+1,by rw[gK _ s1,Zh (by omega),Zh (by omega)]; exact e⟩
 refine⟨e4,by rw[e1,e2,ou,ou,g.len],?_,?_,by rw[e3]; exact g.msk,?_⟩
 ·rw[e1];intro i i' v v' a b hlt;rw[gK _ s1] at a b
  by_cases z:i<p
  ·rw[Zf z] at a
   by_cases z':i'<p
   ·rw[Zf z'] at b; exact g.srt i i' v v' a b hlt
   ·rw[Zh z'] at b
    by_cases w:i'=p
    ·rw[Zf w] at b; cases b; exact s2 i v a z
    ·rw[Zh w] at b; exact g.srt i _ v v' a b (by omega)
  ·rw[Zh z] at a;rw[Zh (by omega),Zh (by omega)] at b
   by_cases w:i=p
   ·rw[Zf w] at a;cases a;have h1:=s3 _ v' b (by omega);have h2:v'≠j:=λq=>hfree _ (q▸b)
    omega
   ·rw[Zh w] at a;exact g.srt _ _ v v' a b (by omega)
 ·rw[e1,e3];intro i s a;rw[gK _ s1] at a
  by_cases z:i<p
  ·rw[Zf z] at a; exact g.top i s a
  ·rw[Zh z] at a
   by_cases w:i=p
   ·rw[Zf w] at a; cases a; rw[<- hj]; exact F4 _ _ _
   ·rw[Zh w] at a; exact g.top _ s a
 ·rw[e1,e2,e3];intro i s e a b;rw[gK _ s1] at a;rw[gK _ s1'] at b
  have old:∀(m s:Nat) e,t.place[m]?=some s->es[m]?=some e->∃k,pos t.mask e.1 k=s/\∀k',k'<k->∃i':Nat,(insertAt t.place p j)[i']?=some (pos t.mask e.1 k'):=λm s e a b=>by
   obtain⟨k,q1,q2⟩:=g.way m s e a b;exact⟨k,q1,λk' hk'=>let⟨i',q⟩:=q2 k' hk'; up i' _ q⟩
  by_cases z:i<p
  ·rw[Zf z] at a b; exact old i s e a b
  ·rw[Zh z] at a b
   by_cases w:i=p
   ·rw[Zf w] at a b;cases a; cases b;exact⟨K,hj,λk' hk'=>let⟨i',q⟩:=E.full k' hk'; up i' _ q⟩
   ·rw[Zh w] at a b; exact old _ s e a b
end TB

namespace TB
open PySem PySem.SetTable
def Occ(owner:Array (Option Nat))(j:Nat):Prop:=∃i:Nat,owner[j]?=some (some i)
theorem pF{mask:Nat}{h:Int}{c:Nat}{b:Nat×Nat}(e:st mask h c=bs mask b){a:Nat}(ha:b.1+a<=runEnd mask b.1):pos mask h (c+a)=b.1+a:=by
 unfold pos;rw[<- jB,e,nG mask a (bs mask b) (by show a<=runEnd mask b.1-b.1; omega)];rfl
theorem ym{mask:Nat}{h:Int}{c:Nat}{b:Nat×Nat}(e:st mask h c=bs mask b):st mask h (c+(runEnd mask b.1-b.1+1))=bs mask (leap mask b.1 b.2):=by
 rw[<- jB,e];exact pD (p:=bs mask b) rfl
theorem vj{owner:Array (Option Nat)}{j:Nat}(hj:j<owner.size)(h:(owner.getD j (some 0)).isNone=false):Occ owner j:=by
 have hg:owner[j]?=some owner[j]:=Zs hj;rw[Xo,hg] at h;show ∃i:Nat,owner[j]?=some (some i);rw[hg]
 cases q:owner[j] with
 | none=>rw[q] at h; cases h
 | some i=>exact⟨i,rfl⟩
theorem IX{owner:Array (Option Nat)}{j:Nat}(hj:j<owner.size)(h:(owner.getD j (some 0)).isNone=true):owner[j]?=some none:=by
 have hg:owner[j]?=some owner[j]:=Zs hj;rw[Xo,hg] at h;rw[hg]
 cases q:owner[j] with
 | none=>rfl
 | some i=>rw[q] at h; cases h
theorem p_{mask:Nat}{owner:Array (Option Nat)}(hs:owner.size=mask+1){h:Int}{j0:Nat}(hf:owner[j0]?=some none):∀(fuel n:Nat) (b:Nat×Nat) (c:Nat),b.1<=mask->st mask h c=bs mask b->(∀k,k<c->Occ owner (pos mask h k))->(cz mask n b).1=j0->n<fuel ->
  ∃K,layClean.free mask owner fuel b.1 b.2=some (pos mask h K)/\owner[pos mask h K]?=some none/\∀k,k<K->Occ owner (pos mask h k)
 | 0,n,b,c,_,_,_,_,hn=>by omega
 | fuel+1,n,b,c,hb,e,ho,hl,hn=>by
  have hr:=q_ hb;have hge:=oK mask b.1
  cases q:(List.range (runEnd mask b.1+1-b.1)).find? (λk=>(owner.getD (b.1+k) (some 0)).isNone) with
  | some a =>
   obtain⟨h1,h2,h3⟩:=List.find?_range_eq_some.mp q;have h2:=Z7.mp h2;have hp:=pF e (a:=a) (by omega);refine⟨c+a,?_,?_,λk hk=>?_⟩
   ·unfold layClean.free;rw[q,hp]
   ·rw[hp]; exact IX (by omega) h1
   ·by_cases z:k<c
    ·exact ho k z
    ·obtain⟨m,rfl⟩:∃m,k=c+m:=⟨k-c,by omega⟩
     rw[pF e (a:=m) (by omega)];exact vj (by omega) (by simpa using h3 m (by omega))
  | none =>
   have h3:=List.find?_range_eq_none.mp q;have occ:∀a,b.1+a<=runEnd mask b.1->Occ owner (b.1+a):=λa ha=>vj (by omega) (by simpa using h3 a (by omega))
   cases n with
   | zero =>
    exfalso;obtain⟨i,w⟩:=occ 0 (by omega);have hl:b.1=j0:=hl;rw[Nat.add_zero,hl,hf] at w;cases w
   | succ n =>
    have hle:(leap mask b.1 b.2).1<=mask:=QX.mp (QD _ (Qx mask))
    obtain⟨K,r1,r2,r3⟩:=p_ hs hf fuel n (leap mask b.1 b.2) (c+(runEnd mask b.1-b.1+1)) hle (ym e) (λk hk=>by
     by_cases z:k<c
     ·exact ho k z
     ·obtain⟨m,rfl⟩:∃m,k=c+m:=⟨k-c,by omega⟩
      rw[pF e (a:=m) (by omega)];exact occ m (by omega)) hl (by omega)
    refine⟨K,?_,r2,r3⟩;unfold layClean.free;rw[q];exact r1
theorem A4{mask:Nat}(hm:Msk mask){owner:Array (Option Nat)}(hs:owner.size=mask+1){j0:Nat}(hf:owner[j0]?=some none)(h:Int) :
  ∃K,layClean.free mask owner (turns mask) (bits h%(mask+1)) (bits h)=some (pos mask h K)/\owner[pos mask h K]?=some none/\∀k,k<K->Occ owner (pos mask h k):=by
 have hj:j0<=mask:=by have:=(ZV.mp hf).1; omega
 have hi:bits h%(mask+1)<=mask:=QX.mp (QD _ (Qx mask));obtain⟨n,h1,h2,e⟩:=reach hm hi (qO h) hj;exact p_ hs hf (turns mask) (n+1) (bits h%(mask+1),bits h) 0 hi rfl (λk hk=>by omega) e (by unfold turns; omega)
structure Own(mask:Nat)(hs:WU)(owner:Array (Option Nat)):Prop where
 size:owner.size=mask+1
 lt:∀(j i:Nat),owner[j]?=some (some i)->i<hs.length
 ex:∀i:Nat,i<hs.length->∃j:Nat,owner[j]?=some (some i)
 inj:∀(j j' i:Nat),owner[j]?=some (some i)->owner[j']?=some (some i)->j=j'
 way:∀(j i:Nat) h,owner[j]?=some (some i)->hs[i]?=some h->∃K,pos mask h K=j/\∀k,k<K->Occ owner (pos mask h k)
theorem DV(mask:Nat):Own mask [] (Array.replicate (mask+1) none):=by
 have no:∀(j i:Nat),(Array.replicate (mask+1) (none:Option Nat))[j]?≠some (some i):=λj i e=>by
  rw[Array.getElem?_replicate] at e;split at e<;>cases e
 exact⟨Array.size_replicate,λj i e=>absurd e (no j i),λi h=>absurd h (Nat.not_lt_zero i),λj _ i e=>absurd e (no j i),λj i _ e=>absurd e (no j i)⟩
theorem C0{mask:Nat}{hs:WU}{owner:Array (Option Nat)}(o:Own mask hs owner)(hl:hs.length<=mask):∃j:Nat,owner[j]?=some none:=by
 by_cases q:∃j:Nat,owner[j]?=some none
 ·exact q
 ·exfalso
  have all:∀j,j<mask+1->∃i:Nat,owner[j]?=some (some i):=λj hj=>by
   have hj':j<owner.size:=by rw[o.size]; exact hj
   have hg:owner[j]?=some owner[j]:=Zs hj'
   cases w:owner[j] with
   | none=>exact absurd ⟨j,by rw[hg,w]⟩ q
   | some i=>exact⟨i,by rw[hg,w]⟩
  let g:Nat->Nat:=λj=>((owner[j]?).getD none).getD 0
  have hg:∀j i:Nat,owner[j]?=some (some i)->g j=i:=λj i e=>by show((owner[j]?).getD none).getD 0=i; rw[e]; rfl
  have hnd:((List.range (mask+1)).map g).Nodup:=by
   refine WL.mpr (List.Pairwise.imp_of_mem (λ{a b} ha hb hab=>?_) (List.nodup_range (n:=mask+1)));obtain⟨i,e⟩:=all a (Z7.mp ha);obtain⟨i',e'⟩:=all b (Z7.mp hb);rw[hg a i e,hg b i' e'];intro z;subst z;exact hab (o.inj a b i e e')
  have hsub:(List.range (mask+1)).map g ⊆ List.range hs.length:=λx hx=>by
   obtain⟨j,hj,rfl⟩:=ZA.mp hx;obtain⟨i,e⟩:=all j (Z7.mp hj);rw[hg j i e];exact Z7.mpr (o.lt j i e)
  have:=hnd.length_le_of_subset hsub;rw[Zb,ZS,ZS] at this;omega
theorem Jz{mask:Nat}(hm:Msk mask){hs:WU}{owner:Array (Option Nat)}(o:Own mask hs owner)(hl:hs.length<=mask)(h:Int) :
  ∃j,layClean.free mask owner (turns mask) (bits h%(mask+1)) (bits h)=some j/\Own mask (hs++[h]) (owner.setIfInBounds j (some hs.length)):=by
 obtain⟨j0,hf⟩:=C0 o hl;obtain⟨K,e1,e2,e3⟩:=A4 hm o.size hf h;generalize hj:pos mask h K=j at e1 e2;have hjl:j<owner.size:=(ZV.mp e2).1
 have get:∀x:Nat,(owner.setIfInBounds j (some hs.length))[x]?=if x=j then some (some hs.length) else owner[x]?:=λx=>by
  rw[Array.getElem?_setIfInBounds]
  by_cases z:j=x
  ·subst z; rw[Zf rfl,Zf hjl,Zf rfl]
  ·rw[Zh z,Zh (λq=>z q.symm)]
 have keep:∀x:Nat,Occ owner x->Occ (owner.setIfInBounds j (some hs.length)) x:=λx ⟨i,w⟩=>⟨i,by
  rw[get,Zh (λq=>by subst q; rw[e2] at w; cases w)]; exact w⟩
 refine⟨j,e1,?_,?_,?_,?_,?_⟩
 ·rw[Array.size_setIfInBounds]; exact o.size
 ·intro x i w;rw[get] at w;rw[Zn,Xv];split at w
  ·cases w; omega
  ·have:=o.lt x i w; omega
 ·intro i hi;rw[Zn,Xv] at hi
  by_cases z:i=hs.length
  ·subst z; exact⟨j,by rw[get,Zf rfl]⟩
  ·obtain⟨x,w⟩:=o.ex i (by omega);exact⟨x,by rw[get,Zh (λq=>by subst q; rw[e2] at w; cases w)]; exact w⟩
 ·intro x x' i w w';rw[get] at w w'
  by_cases z:x=j
  ·by_cases z':x'=j
   ·rw[z,z']
   ·rw[Zf z] at w; rw[Zh z'] at w';cases w;have:=o.lt x' _ w'; omega
  ·rw[Zh z] at w
   by_cases z':x'=j
   ·rw[Zf z'] at w';cases w';have:=o.lt x _ w; omega
   ·rw[Zh z'] at w'; exact o.inj x x' i w w'
 ·intro x i h' w hh;rw[get] at w
  by_cases z:x=j
  ·rw[Zf z] at w;cases w;rw[ZO (Zm _),Wr] at hh;cases hh;exact⟨K,by rw[hj,z],λk hk=>keep _ (e3 k hk)⟩
  ·rw[Zh z] at w;rw[ZC (o.lt x i w)] at hh;obtain⟨K',r1,r2⟩:=o.way x i h' w hh;exact⟨K',r1,λk hk=>keep _ (r2 k hk)⟩
theorem vt{mask:Nat}(hm:Msk mask):∀(rest done:WU) (owner:Array (Option Nat)),Own mask done owner->done.length+rest.length<=mask+1 ->
  ∃o',(rest.foldl (λ(acc:Option (Array (Option Nat)×Nat)) h=>do let(owner,k) <- acc; let j <- layClean.free mask owner (turns mask) (bits h%(mask+1)) (bits h); pure (owner.setIfInBounds j (some k),k+1)) (some (owner,done.length)))=some (o',(done++rest).length)/\Own mask (done++rest) o'
 | [],done,owner,o,_=>⟨owner,by rw[XA]; rfl,by rw[XA]; exact o⟩
 | h::rest,done,owner,o,hl=>by
  rw[Zy] at hl;obtain⟨j,e,o2⟩:=Jz hm o (by omega) h;obtain⟨o',e',o3⟩:=vt hm rest (done++[h]) _ o2 (by rw[Zn,Xv]; omega);rw[Zq] at e' o3;refine⟨o',?_,o3⟩;rw[Ws];rw[Zn,Xv] at e'
  have:(do let(owner,k) <- some (owner,done.length); let j <- layClean.free mask owner (turns mask) (bits h%(mask+1)) (bits h); pure (owner.setIfInBounds j (some k),k+1))=some (owner.setIfInBounds j (some done.length),done.length+1):=by
   show(layClean.free mask owner (turns mask) (bits h%(mask+1)) (bits h)).bind (λj=>some (owner.setIfInBounds j (some done.length),done.length+1))=_;rw[e]; rfl
  rw[this];exact e'
theorem AK{mask:Nat}(hm:Msk mask)(hs:Array Int)(hl:hs.size<=mask+1):∃o',layClean mask hs=some o'/\Own mask hs.toList o':=by
 obtain⟨o',e,o⟩:=vt hm hs.toList [] _ (DV mask) (by rw[Xh,ZE]; omega);rw[QE] at e o;refine⟨o',?_,o⟩;unfold layClean;rw[<- Array.foldl_toList];rw[Xh] at e;rw[e];rfl
end TB

namespace TB
open PySem PySem.SetTable
variable{α:Type}{es:Array (Int×α)}
theorem uu:∀{l:List Nat},(∀i∈l,i<es.size)->(l.filterMap (es[·]?)).length=l.length/\∀m:Nat,(l.filterMap (es[·]?))[m]?=l[m]?.bind (es[·]?)
 | [],_=>⟨rfl,λm=>by simp⟩
 | i::l,h=>by
  have hi:=h i Zo;obtain⟨h1,h2⟩:=uu (l:=l) λx hx=>h x (Zr _ hx)
  have e:es[i]?=some es[i]:=Zs hi;rw[Xk,e];refine⟨by rw[Zy,Zy,h1],λm=>?_⟩
  cases m with
  | zero=>rw[List.getElem?_cons_zero,List.getElem?_cons_zero]; exact e.symm
  | succ m=>rw[List.getElem?_cons_succ,List.getElem?_cons_succ]; exact h2 m
noncomputable def bL(mask:Nat)(owner:Array (Option Nat)):List (Nat×Nat):=(List.range (mask+1)).filterMap λj=>(owner.getD j none).map (j,·)
theorem zQ{mask:Nat}{owner:Array (Option Nat)}(hs:owner.size=mask+1)(j i:Nat):(j,i)∈bL mask owner ↔ owner[j]?=some (some i):=by
 unfold bL;rw[QY];constructor
 ·rintro⟨x,hx,e⟩;have hx:x<owner.size:=by rw[hs]; exact Z7.mp hx
  have hg:owner[x]?=some owner[x]:=Zs hx;rw[Xo,hg] at e
  cases q:owner[x] with
  | none=>rw[q] at e; cases e
  | some y =>
   rw[q] at e;have e:(x,y)=(j,i):=by simpa using e
   cases e;rw[hg,q]
 ·intro e;have hj:j<owner.size:=(ZV.mp e).1;refine⟨j,Z7.mpr (by omega),?_⟩;rw[Xo,e]; rfl
theorem ES(mask:Nat)(owner:Array (Option Nat)):(bL mask owner).Pairwise λa b=>a.1<b.1:=by
 refine List.Pairwise.filterMap _ (λa a' hlt b hb b' hb'=>?_) List.pairwise_lt_range
 cases q:owner.getD a none with
 | none=>rw[q] at hb; cases hb
 | some y =>
  cases q':owner.getD a' none with
  | none=>rw[q'] at hb'; cases hb'
  | some y' =>
   rw[q] at hb; rw[q'] at hb';have hb:(a,y)=b:=by simpa using hb
   have hb':(a',y')=b':=by simpa using hb'
   subst hb; subst hb';exact hlt
theorem zF{l l':List Nat}(h:l.Nodup)(h':l'.Nodup)(hm:∀a,a∈l ↔ a∈l'):l.Perm l':=by
 rw[List.perm_iff_count];intro a;rw[h.count,h'.count]
 by_cases q:a∈l
 ·rw[Zf q,Zf ((hm a).mp q)]
 ·rw[Zh q,Zh (λz=>q ((hm a).mpr z))]
theorem G3{mask:Nat}(hm:Msk mask)(es:Array (Int×α))(hl:es.size<=mask+1)(finger moves:Nat)(led plain:Bool) :
  ∃t' order,laid mask finger moves led plain (es.map (·.1))=some (t',order)/\Good t' (order.filterMap (es[·]?))/\(order.filterMap (es[·]?)).size=es.size/\(order.filterMap (es[·]?)).toList.Perm es.toList /\
   t'={ mask:=mask,place:=t'.place,dummies:=#[],finger:=finger,led:=led,moves:=moves,plain:=plain }:=by
 obtain⟨owner,e,o⟩:=AK hm (es.map (·.1)) (by rw[Array.size_map]; exact hl);have hlen:(es.map (·.1)).toList.length=es.size:=by rw[ZE,Array.size_map]
 have hm':=zQ o.size;have hlt:=ES mask owner
 have hi:∀i∈(bL mask owner).map (·.2),i<es.size:=λi hi=>by
  obtain⟨⟨j,i'⟩,h1,rfl⟩:=ZA.mp hi;have:=o.lt j i' ((hm' j i').mp h1);rw[hlen] at this;exact this
 obtain⟨f1,f2⟩:=uu (es:=es) hi
 have hnd:((bL mask owner).map (·.2)).Nodup:=by
  refine WL.mpr (List.Pairwise.imp_of_mem (λ{a b} ha hb hab=>?_) hlt);obtain⟨j,i⟩:=a;obtain⟨j',i'⟩:=b;intro z;have z:i=i':=z;subst z;have:=o.inj j j' i ((hm' j i).mp ha) ((hm' j' i).mp hb);subst this;exact absurd hab (XI _)
 have hperm:((bL mask owner).map (·.2)).Perm (List.range es.size):=zF hnd List.nodup_range λa=>by
  constructor
  ·intro h; exact Z7.mpr (hi a h)
  ·intro h;obtain⟨j,w⟩:=o.ex a (by rw[hlen]; exact Z7.mp h);exact ZA.mpr ⟨(j,a),(hm' j a).mpr w,rfl⟩
 have hfm:(((bL mask owner).map (·.2)).toArray.filterMap (es[·]?)).toList=((bL mask owner).map (·.2)).filterMap (es[·]?):=by rw[Array.toList_filterMap]
 have hget:∀m:Nat,(((bL mask owner).map (·.2)).toArray.filterMap (es[·]?))[m]?=((bL mask owner).map (·.2))[m]?.bind (es[·]?):=λm=>by rw[<- ZR,hfm,f2]
 have hsize:(((bL mask owner).map (·.2)).toArray.filterMap (es[·]?)).size=es.size:=by
  rw[<- ZE,hfm,f1,hperm.length_eq,ZS]
 refine⟨_,_,by unfold laid; rw[e]; rfl,?_,hsize,?_,rfl⟩
 ·have pget:∀m:Nat,((bL mask owner).map (·.1)).toArray[m]?=(bL mask owner)[m]?.map (·.1):=λm=>by rw[List.getElem?_toArray,ZL]
  refine⟨rfl,?_,?_,?_,hm,?_⟩
  ·show((bL mask owner).map (·.1)).toArray.size=_;rw[hsize,Zk,Zb];have:=hperm.length_eq;rw[Zb,ZS] at this;exact this
  ·intro i i' v v' a b hlt';have a:((bL mask owner).map (·.1)).toArray[i]?=some v:=a;have b:((bL mask owner).map (·.1)).toArray[i']?=some v':=b;rw[pget] at a b;obtain⟨x,hx,rfl⟩:=ZG.mp a;obtain⟨y,hy,rfl⟩:=ZG.mp b;obtain⟨h1,e1⟩:=Zi.mp hx;obtain⟨h2,e2⟩:=Zi.mp hy;have:=Qt.mp hlt i i' h1 h2 hlt';rw[e1,e2] at this;exact this
  ·intro i s a;have a:((bL mask owner).map (·.1)).toArray[i]?=some s:=a;rw[pget] at a;obtain⟨⟨j,k⟩,hx,rfl⟩:=ZG.mp a;have:=(ZV.mp ((hm' j k).mp (ZD hx))).1;have:=o.size;show j<=mask;omega
  ·intro i s e' a b;have a:((bL mask owner).map (·.1)).toArray[i]?=some s:=a;have b:(((bL mask owner).map (·.2)).toArray.filterMap (es[·]?))[i]?=some e':=b;rw[pget] at a;obtain⟨⟨j,k⟩,hx,rfl⟩:=ZG.mp a;rw[hget,ZL,hx] at b;have b:es[k]?=some e':=b;have hown:=(hm' j k).mp (ZD hx);have hh:(es.map (·.1)).toList[k]?=some e'.1:=by rw[ZR,Array.getElem?_map,b]; rfl
   obtain⟨K,r1,r2⟩:=o.way j k e'.1 hown hh;refine⟨K,r1,λk' hk'=>?_⟩;obtain⟨i2,w⟩:=r2 k' hk';obtain⟨m,hm2⟩:=ZP ((hm' _ i2).mpr w);exact⟨m,by show((bL mask owner).map (·.1)).toArray[m]?=_; rw[pget,hm2]; rfl⟩
 ·rw[hfm];have:=hperm.filterMap (es[·]?);rw[filterMap_getElem?_range] at this;exact this
end TB

namespace TB
open PySem PySem.SetTable
section
variable{prog:WZ}{w:W2}{A:Around}{E:WS}{s:WX}
abbrev TK(prog:WZ)(w:W2)(h:Heap)(ks:WU)(b:Addr):Prop:=IsTupleKey (intKind prog w) h ks b
noncomputable def hsh(prog:WZ)(w:W2)(ks:WU):Int:=tupleKeyHash (intKind prog w) ks
structure El(prog:WZ)(w:W2)(h:Heap)(e:Int×Value)(ks:WU):Prop where
 hash:e.1=hsh prog w ks
 ref:∃b,e.2=.ref b/\TK prog w h ks b
theorem uz{ks:WU}{vs:WW}(h:ItemsAre (intKind prog w) ks vs):∀v∈vs,∃i t,v=Value.int i t:=by
 induction h with
 | nil=>intro v hv; cases hv
 | cons h1 _ ih =>
  intro v hv;rcases Zx.mp hv with rfl|hv
  ·obtain⟨t,e⟩:=QJ h1; exact⟨_,t,e⟩
  ·exact ih v hv
theorem qy(n:Nat){ks:WU}{b:Addr}{Q:Bool->Shared->Prop}(hk:TK prog w s.heap ks b)(h:Q false s):wpAny (model prog w) A (ofAClassStatement (n+1) (.ref b)) Q E s:=by
 obtain⟨o,items,m,ho,hc,hd,hi⟩:=hk;unfold ofAClassStatement;refine Za (wpAny_typeOf_ref ho ?_);rw[hc];refine Za (Zc ?_);simp only[Qr,Zu,ZM];refine Za (Wa ho hd ?_);refine Za ?_;show wpAny _ _ (forIn items _ _) _ _ s;rw[<- Array.forIn_toList];refine QR _ (λrest r z=>r.1=none/\z=s/\∀v∈rest,∃i t,v=Value.int i t) _ ?_ ?_ _ _ ⟨rfl,rfl,uz hi⟩
 ·rintro v rest r z ⟨hr,rfl,hall⟩;obtain⟨i,t,rfl⟩:=hall v Zo;have e:ofAClassStatement n (Value.int i t)=pure false:=by cases n<;>rfl
  rw[e];refine Za (Zc ?_);exact Zc ⟨rfl,rfl,λu hu=>hall u (Zr _ hu)⟩
 ·rintro⟨r1,r2⟩ z ⟨hr,rfl,_⟩;have hr:r1=none:=hr;subst hr;exact Zc h
theorem yP{ks:WU}{b:Addr}{ys:WW}{Q:Bool->Shared->Prop}(hk:TK prog w s.heap ks b)(hy:∀y∈ys,∃js c,y=Value.ref c/\TK prog w s.heap js c)(h:Q false s):wpAny (model prog w) A (searchCouldBeSeen (.ref b) ys) Q E s:=by
 unfold searchCouldBeSeen;refine Za (QR _ (λrest r z=>r.1=none/\z=s/\∀y∈rest,∃js c,y=Value.ref c/\TK prog w s.heap js c) _ ?_ ?_ _ _ ⟨rfl,rfl,hy⟩)
 ·rintro y rest r z ⟨hr,rfl,hall⟩;obtain⟨js,c,rfl,hc⟩:=hall y Zo;have hrest:∀y∈rest,∃js c,y=Value.ref c/\TK prog w z.heap js c:=λu hu=>hall u (Zr _ hu)
  dsimp only;split
  ·exact Zc ⟨rfl,rfl,hrest⟩
  ·refine Za (wpAny_eqIsQuiet_tuple hk ?_);simp only[Qr,Zu,ZM];refine Za (wpAny_eqIsQuiet_tuple hc ?_);simp only[Qr,Zu,ZM];refine Za (qy 7 hk ?_);simp only[Zu,ZM];refine Za (qy 7 hc ?_);simp only[Zu,ZM];exact Zc ⟨rfl,rfl,hrest⟩
 ·rintro⟨r1,r2⟩ z ⟨hr,rfl,_⟩;have hr:r1=none:=hr;subst hr;exact Zc h
def jD(prog:WZ)(w:W2)(h:Heap)(es:W3)(L:WY):Prop:=L.length=es.size/\∀(i:Nat) e ks,es[i]?=some e->L[i]?=some ks->El prog w h e ks
theorem jD.get{h:Heap}{es:W3}{L:WY}(k:jD prog w h es L){i:Nat}{e:Int×Value}(he:es[i]?=some e):∃ks,L[i]?=some ks/\El prog w h e ks:=by
 have hi:=(ZV.mp he).1;have hi':i<L.length:=by rw[k.1]; exact hi
 have hl:L[i]?=some L[i]:=Ze hi';exact⟨_,hl,k.2 i e _ he hl⟩
theorem fJ{t:SetTable}{es:W3}(g:Good t es)(hl:es.size<=t.mask):t.fits es.size=true:=by
 unfold SetTable.fits SetTable.fill;rw[g.dum,g.len];simp only[Xi,X9,decide_eq_true_eq];exact hl
theorem Bl{mask:Nat}(h:Msk mask):(mask%2==0)=false:=by rcases h with rfl|rfl<;>rfl
theorem qL{t:SetTable}{f f':Nat->Int}{h:Int}{p:SetTable.Probe}{r:Option SetTable.Met}(e:t.probe f h p=r)(hf:∀i,f' i=f i):t.probe f' h p=r:=by rw[show f'=f from funext hf]; exact e
theorem GV{a c:Addr}{o:Obj}{es:W3}{ep:Nat}{t:SetTable}{L:WY}{ks:WU}{Q:SetFound->Shared->Prop}(hu:A.units<cLine)
  (ho:s.heap.get? a=some o) (hd:o.data=.set es ep t) (g:Good t es) (hl:es.size<=t.mask) (K:jD prog w s.heap es L) (hk:TK prog w s.heap ks c) {M:Nat} (EN:End t (hsh prog w ks) M)
  (h1:ks∈L->Q (.there none) s) (h2:ks∉L->Q (.free (pos t.mask (hsh prog w ks) M) false) s) :
  ∀(n fuel k:Nat) (stand:Option SetTable.Probe),M-k=n->n<fuel->k<=M->stand.getD (t.probeStart (hsh prog w ks))=st t.mask (hsh prog w ks) k ->
   (∀(m i:Nat),m<k->t.place[i]?=some (pos t.mask (hsh prog w ks) m)->L[i]?≠some ks) ->
   wpAny (model prog w) A (setSearchFrom a (.ref c) (hsh prog w ks) true fuel stand) Q E s:=by
 intro n
 induction n using Nat.strongRecOn with
 | ind n ih =>
  intro fuel k stand hn hf hkM hst hprev;obtain⟨fuel,rfl⟩:∃f,fuel=f+1:=⟨fuel-1,by omega⟩
  have hfit:=fJ g hl;unfold setSearchFrom;refine Za (XO ho hd hfit ?_);dsimp only;have hgw:t.gaveWay=false:=Bl g.msk;rw[hgw];simp only[Zu,ZM];rw[hst];have hsto:∀(i:Nat) e,es[i]?=some e->(es[i]?.map (·.1)).getD 0=e.1:=λi e he=>by rw[he]; rfl
  rcases CT g EN (f:=λi=>(es[i]?.map (·.1)).getD 0) hkM with⟨hp,hne⟩|⟨m,i,hkm,hmM,hpi,hfi,hslot,hp,hne⟩
  ·rw[qL hp]
   rotate_left
   ·exact λi=>rfl
   refine Zc (h2 λhmem=>?_);obtain⟨i,hi⟩:=ZP hmem;have hi':i<es.size:=by rw[<- K.1]; exact(Zi.mp hi).1
   have he:es[i]?=some es[i]:=Zs hi';have hel:=K.2 i _ ks he hi;obtain⟨m,hm,hpl⟩:=A6 g EN he hel.hash
   by_cases z:m<k
   ·exact hprev m i z hpl hi
   ·exact hne m i (by omega) hm hpl ((hsto i _ he).trans hel.hash)
  ·rw[qL hp]
   rotate_left
   ·exact λi=>rfl
   dsimp only;have hi':i<es.size:=by rw[<- g.len]; exact(ZV.mp hpi).1
   have he:es[i]?=some es[i]:=Zs hi';obtain⟨js,hjs,hel⟩:=K.get he;obtain⟨b,hb,hkb⟩:=hel.ref
   have hstored:∀y∈(es.filter (·.1==hsh prog w ks)).toList.map (·.2),∃js c,y=Value.ref c/\TK prog w s.heap js c:=λy hy=>by
    obtain⟨e,h3,rfl⟩:=ZA.mp hy
    have h3:e∈es:=by
     rw[Array.toList_filter] at h3;exact Array.mem_def.mpr (Qm.mp h3).1
    obtain⟨i',hi'⟩:=Array.getElem?_of_mem h3;obtain⟨js',_,hel'⟩:=K.get hi';obtain⟨b',q1,q2⟩:=hel'.ref;exact⟨js',b',q1,q2⟩
   have rest:wpAny (model prog w) A (do
     let some (_,y):=es[i]?|unsupported "internal:set-entry"
     let equal <- holding [y] (eqBool y (.ref c))
     let(es',_,t') <- setState a
     if true&&equal then return .there none
     let some same:=t'.sameMemory t.moves t.mask|unsupported "set.changed-during-lookup:is-the-new-block-at-the-old-address"
     let aL <- match (if same then t'.slot (pos t.mask (hsh prog w ks) m) else .empty) with
      | .live i'=>match es'[i']? with
       | some (_,y')=>do pure (if <- isSame y' y then some i' else none)
       | none=>pure none
      | _=>pure none
     match aL with
     | none=>rule "set.search.anew"; setSearchFrom a (.ref c) (hsh prog w ks) true fuel none
     | some i'=>if equal then return .there (some i') else setSearchFrom a (.ref c) (hsh prog w ks) true fuel (some (st t.mask (hsh prog w ks) (m+1)))) Q E s:=by
    rw[he];rcases hE:es[i] with⟨eh,ev⟩
    rw[hE] at hb;have hb:ev=.ref b:=hb;subst hb;dsimp only;refine Za (Xg (wpAny_eqBool_tuple hu hkb hk ?_));refine Za (XO ho hd hfit ?_);dsimp only
    by_cases hq:js=ks
    ·subst hq;rw[Zj rfl];simp only[Bool.and_self,Xu];exact Zc (h1 (ZD hjs))
    ·rw[Zt hq];simp only[WB,Zu,ZM];have hsm:t.sameMemory t.moves t.mask=some true:=by unfold SetTable.sameMemory; simp only[Xi,Xu]
     rw[hsm];simp only[Xu];rw[hslot];dsimp only;rw[he,hE];dsimp only;refine Za (wpAny_isSame_ref_self (Za (Zc ?_)));simp only[Xu];refine ih (M-(m+1)) (by omega) fuel (m+1) _ rfl (by omega) (by omega) rfl λm' i' hm' hpl=>?_
     by_cases z:m'<k
     ·exact hprev m' i' z hpl
     ·by_cases z2:m'=m
      ·subst z2
       have:i'=i:=by
        have r1:=below_at g.srt hpl;have r2:=below_at g.srt hpi;omega
       subst this;rw[hjs];intro q;cases q;exact hq rfl
      ·intro q;have hi2:i'<es.size:=by rw[<- g.len]; exact(ZV.mp hpl).1
       have he2:es[i']?=some es[i']:=Zs hi2;exact hne m' i' (by omega) (by omega) hpl ((hsto i' _ he2).trans (K.2 i' _ ks he2 q).hash)
   cases hled:t.led with
   | true =>
    simp only[Qr,Zu,ZM];exact rest
   | false =>
    simp only[Bool.not_false,Xu];refine Za (yP hk hstored ?_);simp only[Zu,ZM];exact rest
end
end TB

namespace TB
open PySem PySem.SetTable
section
variable{prog:WZ}{w:W2}{A:Around}{E:WS}{s:WX}
inductive Els(prog:WZ)(w:W2)(h:Heap):List (Int×Value)->List (List Int)->Prop
 | nil:Els prog w h [] []
 | cons {e:Int×Value} {ks:WU} {l:List (Int×Value)} {L:WY}:El prog w h e ks->Els prog w h l L->Els prog w h (e::l) (ks::L)
variable{h:Heap}
theorem Els.length:∀{l:List (Int×Value)} {L:WY},Els prog w h l L->L.length=l.length
 | _,_,.nil=>rfl
 | _,_,.cons _ r=>by rw[Zy,Zy,r.length]
theorem Els.get:∀{l:List (Int×Value)} {L:WY},Els prog w h l L->∀(i:Nat) e ks,l[i]?=some e->L[i]?=some ks->El prog w h e ks
 | _,_,.nil,i,e,ks,a,_=>by simp at a
 | _,_,.cons q r,0,e,ks,a,b=>by cases a; cases b; exact q
 | _,_,.cons q r,i+1,e,ks,a,b=>r.get i e ks a b
theorem Els.keys{es:W3}{L:WY}(x:Els prog w h es.toList L):jD prog w h es L :=
 ⟨by rw[x.length,ZE],λi e ks a b=>x.get i e ks (by rw[ZR]; exact a) b⟩
theorem Els.perm{l l':List (Int×Value)}(p:l.Perm l'):∀{L:WY},Els prog w h l' L->∃L',Els prog w h l L'/\L'.Perm L:=by
 induction p with
 | nil=>intro L x; cases x; exact⟨[],.nil,.nil⟩
 | cons e _ ih=>intro L x; cases x with|cons q r=>obtain⟨L',a,b⟩:=ih r; exact⟨_,.cons q a,b.cons _⟩
 | swap e e' l=>intro L x; cases x with|cons q r=>cases r with|cons q' r'=>exact⟨_,.cons q' (.cons q r'),.swap ..⟩
 | trans _ _ ih1 ih2 =>
  intro L x;obtain⟨L1,a1,b1⟩:=ih2 x;obtain⟨L2,a2,b2⟩:=ih1 a1;exact⟨L2,a2,b2.trans b1⟩
theorem Els.snoc:∀{l:List (Int×Value)} {L:WY} {e:Int×Value} {ks:WU},Els prog w h l L->El prog w h e ks->Els prog w h (l++[e]) (L++[ks])
 | _,_,_,_,.nil,q=>.cons q .nil
 | _,_,_,_,.cons a r,q=>.cons a (r.snoc q)
theorem Els.mono{h':Heap}(f:∀ks b,TK prog w h ks b->TK prog w h' ks b):∀{l:List (Int×Value)} {L:WY},Els prog w h l L->Els prog w h' l L
 | _,_,.nil=>.nil
 | _,_,.cons ⟨a,b,c,d⟩ r=>.cons ⟨a,b,c,f _ _ d⟩ (r.mono f)
theorem sd{a b:Addr}{h':Heap}{ks:WU}{o:Obj}{es:W3}{ep:Nat}{t:SetTable}(ho:h.get? a=some o)(hd:o.data=.set es ep t)(q:Heap.SameBut a h h')(x:TK prog w h ks b):TK prog w h' ks b:=by
 obtain⟨ob,items,n,x1,x2,x3,x4⟩:=x;refine⟨ob,items,n,(q.2 b λz=>?_).trans x1,x2,x3,x4⟩;subst z;rw[ho] at x1;cases x1;rw[hd] at x3;cases x3
noncomputable def byT(w:W2):Bool:=w.params.followText "set-order"
def cI(prog:WZ)(w:W2)(lim:Addr->Prop)(h:Heap)(a:Addr)(L:WY):Prop:=∃o es ep t,h.get? a=some o/\o.ExactSet/\o.data=.set es ep t/\Good t es/\(t.plain=true/\t.led=!byT w)/\es.size*5<t.mask*3/\Els prog w h es.toList L/\L.Nodup /\
 ∀e∈es.toList,∀b,e.2=.ref b->lim b
theorem HU{ks:WU}{c:Addr}{Q:Bool->Shared->Prop}(hk:TK prog w s.heap ks c)(q:Q true s):wpAny (model prog w) A (hashByValue 8 (.ref c)) Q E s:=by
 have hT:=hk.typeIs;obtain⟨o,items,m,ho,hc,hd,hi⟩:=hk;unfold hashByValue;refine Za (wpAny_specialOf hT F.slot_tuple_hash.lookup ?_);show wpAny _ _ (seqItems? (.ref c)>>=_) _ _ s;refine Za (Wa ho hd ?_);refine Za ?_;show wpAny _ _ (forIn items _ _) _ _ s;rw[<- Array.forIn_toList];refine QR _ (λrest r z=>r.1=none/\z=s/\∀v∈rest,∃i t,v=Value.int i t) _ ?_ ?_ _ _ ⟨rfl,rfl,uz hi⟩
 ·rintro v rest r z ⟨hr,rfl,hall⟩;obtain⟨i,t,rfl⟩:=hall v Zo;have e:∀n,hashByValue n (Value.int i t)=pure true:=λn=>by cases n<;>rfl
  rw[e];refine Za (Zc ?_);exact Zc ⟨rfl,rfl,λu hu=>hall u (Zr _ hu)⟩
 ·rintro⟨r1,r2⟩ z ⟨hr,rfl,_⟩;have hr:r1=none:=hr;subst hr;exact Zc q
theorem FW{mask:Nat}(hm:Msk mask):10*turns mask<100000:=by rcases hm with rfl|rfl<;>decide
theorem wZ{a:Addr}{o:Obj}{es:W3}{ep:Nat}{t:SetTable}(ho:h.get? a=some o)(hd:o.data=.set es ep t)(es':W3)(t':SetTable) :
  (h.update a (Obj.putSet es' t')).get? a=some { o with data:=.set es' (ep+1) t' }:=by
 have q:=Xn (Obj.putSet es' t') ho (by rw[putSet_of es' t' hd]; rfl);rw[putSet_of es' t' hd] at q;exact q
theorem Cc{a c:Addr}{L:WY}{ks:WU}{Q:Bool->Shared->Prop}(hu:A.units<cLine){lim:Addr->Prop}(hs:cI prog w lim s.heap a L)(hn:L.length<=17)(hk:TK prog w s.heap ks c)(hc:lim c)
  (q:∀r h' L',Heap.SameBut a s.heap h'->cI prog w lim h' a L'->(∀x,x∈L' ↔ x∈L\/x=ks)->L'.length<=L.length+1->Q r { s with heap:=h' }) :
  wpAny (model prog w) A (setAddHashed a (.ref c) (hsh prog w ks)) Q E s:=by
 obtain⟨o,es,ep,t,ho,hex,hd,g,hpl,hsz,hels,hnd,hlim⟩:=hs;have hlen:L.length=es.size:=by rw[hels.length,ZE]
 have hl:es.size<=t.mask:=by rcases g.msk with z|z<;>omega
 have hfit:=fJ g hl;obtain⟨M,EN⟩:=Eb g hl (hsh prog w ks);have hts:=FW g.msk;have hML:=EN.lt;unfold setAddHashed setAddHashedIn;refine Xg (Za (XO ho hd hfit ?_));dsimp only;have hbs:byScan (.ref c) es=false:=rfl;rw[hbs];simp only[Zu,ZM];unfold setSearch;refine Za (GV hu ho hd g hl hels.keys hk EN (λhm=>?_) (λhm=>?_) M 100000 0 none (Wt M) (by omega) (Xe _) rfl (λm i hm=>absurd hm (Nat.not_lt_zero m)))
 ·have e:s={ s with heap:=s.heap }:=by cases s; rfl
  rw[e];exact Zc (q _ s.heap L (Heap.SameBut.refl a s.heap) ⟨o,es,ep,t,ho,hex,hd,g,hpl,hsz,hels,hnd,hlim⟩ (λx=>⟨.inl,λz=>z.elim id λz=>z▸hm⟩) (XU _))
 dsimp only;refine Za (XO ho hd hfit ?_);dsimp only;have g1:=Er g EN (Value.ref c);generalize hp:t.put (pos t.mask (hsh prog w ks) M)=TP at g1;have hmask:TP.1.mask=t.mask:=by rw[<- hp]; rfl
 have hplain:TP.1.plain=true:=by rw[<- hp]; exact hpl.1
 have hled:TP.1.led=!byT w:=by rw[<- hp]; exact hpl.2
 obtain⟨t1,p⟩:=TP;have hmask:t1.mask=t.mask:=hmask;have hplain:t1.plain=true:=hplain;have hled:t1.led=!byT w:=hled;have g1:Good t1 (insertAt es p (hsh prog w ks,.ref c)):=g1;dsimp only;rw[hplain];simp only[Xu];refine Za (HU hk ?_);simp only[Xu];have hperm:=SetTable.insertAt_perm es p (hsh prog w ks,Value.ref c);rw[Array.toList_push] at hperm;have hz1:(insertAt es p (hsh prog w ks,Value.ref c)).size=es.size+1:=ou _ _ _;obtain⟨L1,x1,y1⟩:=Els.perm hperm (hels.snoc (e:=(hsh prog w ks,Value.ref c)) ⟨rfl,c,rfl,hk⟩);have hL1:L1.length=L.length+1:=by rw[y1.length_eq,Zn,Xv]
 have hnd1:L1.Nodup:=y1.nodup_iff.mpr (XQ.mpr ⟨hnd,by simp,λx hx y hy=>by rw[ZH.mp hy]; intro z; exact hm (z▸hx)⟩);have hm1:∀x,x∈L1 ↔ x∈L\/x=ks:=λx=>by rw[y1.mem_iff,ZB,ZH]
 have hlim1:∀e∈(insertAt es p (hsh prog w ks,Value.ref c)).toList,∀b,e.2=.ref b->lim b:=λe he b hb=>by
  rcases ZB.mp (hperm.mem_iff.mp he) with z|z
  ·exact hlim e z b hb
  ·rw[ZH.mp z] at hb; cases hb; exact hc
 generalize insertAt es p (hsh prog w ks,Value.ref c)=es1 at g1 hz1 x1 hlim1;have hline:∀n:Nat,n<=100->n<=sizeLine:=λn h=>by rw[XS]; omega
 have ho1:=wZ (h:=s.heap) ho hd es1 t1;have sb1:=Xl s.heap a (Obj.putSet es1 t1);refine Za (wpAny_storeSet_of ho hd ?_ (hline _ (by omega)));have hl1:es1.size<=t1.mask:=by rw[hmask]; rcases g.msk with z|z<;>omega
 have hfill:t1.fill=es1.size:=by unfold SetTable.fill; rw[g1.dum,g1.len]; rfl
 have x1':=x1.mono λks b z=>sd ho hd sb1 z
 by_cases hfull:t1.tooFull=true
 ·rw[hfull];simp only[Bool.not_false,Bool.and_self,Xu];have hfull:t1.fill*5 ≥ t1.mask*3:=Zl hfull;rw[hfill,hmask,hz1] at hfull;have h4:es.size=4:=by rcases g.msk with z|z<;>omega
  unfold setRelay;refine Za ?_;refine Za (XO ho1 rfl (fJ g1 hl1) ?_);dsimp only;have hw:SetTable.grown (es.size+1)=20:=by rw[h4]; rfl
  rw[hw];have h32:SetTable.sizeAbove 20=32:=by decide
  have hno:¬(SetTable.sizeAbove 20>sizeLine):=by rw[h32,XS]; omega
  rw[Zh hno];obtain⟨t2,order,e2,g2,z2,p2,f2⟩:=G3 (mask:=31) (.inr rfl) es1 (by omega) t1.finger (t1.movedTo 31) t1.led t1.plain;have hrel:t1.relaid (es1.map (·.1)) 20=some (t2,order):=by unfold SetTable.relaid; rw[h32]; exact e2
  have hplain2:t2.plain=true:=by rw[f2]; exact hplain
  have hled2:t2.led=!byT w:=by rw[f2]; exact hled
  have hmask2:t2.mask=31:=by rw[f2]
  rw[show(es1.map λx=>x.1)=es1.map (·.1) from rfl,hrel];obtain⟨L2,x2,y2⟩:=Els.perm p2 x1';generalize hes2:order.filterMap (es1[·]?)=es2 at g2 z2 p2 x2;have ho2:=wZ ho1 rfl es2 t2;have sb2:=Xl (s.heap.update a (Obj.putSet es1 t1)) a (Obj.putSet es2 t2);refine Za (Xz (a:=(es2,t2)) ?_ ?_)
  ·show(ite _ _ _:Sem (Array (Int×Value)×SetTable))=_;refine(Zh ?_).trans ?_
   ·rw[hes2,z2]; simp
   ·rw[hes2]
  ·refine wpAny_storeSet_of ho1 rfl ?_ (hline _ (by show es2.size<=100; omega));refine Zc (q _ _ L2 (sb1.trans sb2) ⟨_,es2,_,t2,ho2,hex,rfl,g2,⟨hplain2,hled2⟩,by omega,x2.mono λks b z=>sd ho1 rfl sb2 z,y2.nodup_iff.mpr hnd1,λe he=>hlim1 e (p2.mem_iff.mp he)⟩ (λx=>by rw[y2.mem_iff,hm1]) (by rw[y2.length_eq]; omega))
 ·have hfull':t1.tooFull=false:=by simpa using hfull
  rw[hfull'];simp only[WB,Zu,ZM];have hnf:¬(t1.fill*5 ≥ t1.mask*3):=λz=>hfull (Zj z)
  rw[hfill] at hnf;exact Zc (q _ _ L1 sb1 ⟨_,es1,ep+1,t1,ho1,hex,rfl,g1,⟨hplain,hled⟩,by omega,x1',hnd1,hlim1⟩ hm1 (by omega))
theorem cI.keep{lim:Addr->Prop}{a:Addr}{h':Heap}{L:WY}(x:cI prog w lim h a L)(k:∀b o,lim b\/b=a->h.get? b=some o->h'.get? b=some o):cI prog w lim h' a L:=by
 obtain⟨o,es,ep,t,ho,hex,hd,g,hpl,hsz,hels,hnd,hlim⟩:=x;refine⟨o,es,ep,t,k a o (.inr rfl) ho,hex,hd,g,hpl,hsz,?_,hnd,hlim⟩
 have all:∀(l:List (Int×Value)) (L:WY),(∀e∈l,∀b,e.2=.ref b->lim b)->Els prog w h l L->Els prog w h' l L:=by
  intro l L hl q
  induction q with
  | nil=>exact .nil
  | @cons e ks l L q r ih =>
   obtain⟨q1,b,q2,ob,items,n,x1,x2⟩:=q;exact .cons ⟨q1,b,q2,ob,items,n,k b ob (.inl (hl e Zo b q2)) x1,x2⟩ (ih λe' he'=>hl e' (Zr _ he'))
 exact all _ _ hlim hels
theorem Jp(finger moves:Nat)(led:Bool):Good (.fresh finger moves led) (#[]:Array (Int×Value)) :=
 ⟨rfl,rfl,λi _ v _ e=>by simp[SetTable.fresh] at e,λi v e=>by simp[SetTable.fresh] at e,.inl rfl,λi v _ e=>by simp[SetTable.fresh] at e⟩
theorem cI.new{lim:Addr->Prop}{a:Addr}(ho:h.get? a=some { cls:=.type "set",dict:=none,data:=.set #[] 0 (.fresh 0 0 (!byT w)) }):cI prog w lim h a [] :=
 ⟨_,#[],0,_,ho,⟨rfl,rfl,rfl⟩,rfl,Jp 0 0 _,⟨rfl,rfl⟩,(show 0*5<7*3 by decide),.nil,QM,λe he=>by simp at he⟩
end
end TB

namespace TB
open PySem PySem.SetTable PySem.Spec
section
variable{prog:WZ}{w:W2}{A:Around}{R:Result->Shared->Prop}{I:Addr}{fp wr:W0}{G:Array GenState->Array GenState->Prop}{n:Nat}{P:Nat->Value->Prop}{St:Nat->Shared->Prop}
theorem fm{h h':Heap}{ks:WU}{c:Addr}(x:TK prog w h ks c)(k:∀o,h.get? c=some o->h'.get? c=some o):TK prog w h' ks c:=by
 obtain⟨o,items,m,x1,x2⟩:=x;exact⟨o,items,m,k o x1,x2⟩
theorem yD(hu:A.in1.units<cLine)(W:WalksS prog w A.in1 I fp wr G n P St)(S:Addr)(lim:Addr->Prop)(hS1:S∉fp)(hwr:∀b∈wr,¬lim b)(hSl:¬lim S)(val:Nat->List Int)(hn:n<=18)(hval:∀i v,P i v->∃c,v=.ref c/\lim c) :
  ∀(k i:Nat) (z:WX) (L:WY),n-i=k->i<=n->St i z->cI prog w lim z.heap S L->(∀x,x∈L ↔ ∃j,j<i/\val j=x)->L.length<=i->(∀i c,P i (.ref c)->TK prog w z.heap (val i) c) ->
   (∀z' L',Moved (S::wr) G z z'->cI prog w lim z'.heap S L'->(∀x,x∈L' ↔ ∃j,j<n/\val j=x)->(∀i c,P i (.ref c)->TK prog w z'.heap (val i) c)->R (.ok (.ret .none)) z') ->
   codeAny (model prog w) A (.builtin "set.update.loop" ⟨[.ref S,.ref I],[]⟩) R z:=by
 have hS2:S∉wr:=λq=>hS1 (W.sub _ q)
 have more:∀b∈wr,b∈S::wr:=λb q=>Zr _ q
 have old:∀{c:Addr},lim c->c∉wr:=λhc q=>hwr _ q hc
 intro k
 induction k with
 | zero =>
  intro i z L hk hi hst hT hL hlen hP hR;obtain rfl:i=n:=by omega
  refine Xq Q4 ?_;rw[XM Qk _];refine Za (W.done z _ _ hst λz' hm=>?_);refine Zc (hR z' L (hm.mono more) (hT.keep λb o hb e=>hm.heap b o ?_ e) hL λj c hp=>fm (hP j c hp) λo e=>hm.heap c o ?_ e)
  ·rcases hb with hb|rfl
   ·exact old hb
   ·exact hS2
  ·obtain⟨c',q1,q2⟩:=hval j _ hp; cases q1; exact old q2
 | succ k ih =>
  intro i z L hk hi hst hT hL hlen hP hR;have hlt:i<n:=by omega
  refine Xq Q4 ?_;rw[XM Qk _];refine Za (W.item i z _ _ hlt hst λv z' hv hst' hm=>?_);obtain⟨c,rfl,hc⟩:=hval i v hv;have hP':∀i c,P i (.ref c)->TK prog w z'.heap (val i) c:=λj d hp=>fm (hP j d hp) λo e=>hm.heap d o (by obtain⟨c',q1,q2⟩:=hval j _ hp; cases q1; exact old q2) e
  have hT':cI prog w lim z'.heap S L:=hT.keep λb o hb e=>hm.heap b o (by rcases hb with hb|rfl; exact old hb; exact hS2) e
  have hci:=hP' i c hv;refine Za (Xg ?_);unfold setAdd;refine Xg (Za (wpAny_pyHash_tuple hu hci ?_));refine Cc (s:={ z' with toks:=z'.toks+((val i).length+1) }) hu hT' (by omega) hci hc λr h' L' sb hT2 hL2 hlen2=>?_
  have kp:∀b o,b≠S->z'.heap.get? b=some o->h'.get? b=some o:=λb o hb e=>(sb.2 b hb).trans e
  refine Zc ⟨QV Qk _,ih (i+1) _ L' (by omega) hlt (W.frame _ z' _ _ hst' (Nat.le_add_right _ _) λb hb o e=>kp b o (λq=>hS1 (q▸hb)) e) hT2 (λx=>?_) (by omega) (λj d hp=>fm (hP' j d hp) λo e=>kp d o ?_ e) λz2 L2 hm2 a1 a2 a3=>?_⟩
  ·rw[hL2,hL];constructor
   ·rintro(⟨j,h1,h2⟩|rfl)
    ·exact⟨j,by omega,h2⟩
    ·exact⟨i,by omega,rfl⟩
   ·rintro⟨j,h1,rfl⟩
    by_cases q:j=i
    ·subst q; exact .inr rfl
    ·exact .inl ⟨j,by omega,rfl⟩
  ·obtain⟨c',q1,q2⟩:=hval j _ hp; cases q1; exact λq=>hSl (q▸q2)
  ·exact hR z2 L2 (Moved.trans W.gtrans ((hm.mono more).then_heap (Nat.le_add_right _ _) λb o hb e=>kp b o (λq=>hb (by rw[q]; exact Zo)) e) hm2) a1 a2 a3
end
end TB

namespace TB
open PySem PySem.SetTable
theorem gh:Slot "set_iterator" "__next__" "set_iterator.__next__" :=
 .of (owner:="set_iterator") (n:="__next__") (by rw[Wu,QP]; kernel_rfl) (by decide +kernel) (by decide +kernel) (by decide +kernel) (.inl (by decide +kernel)) (by rw[isSubtype_type]; kernel_rfl)
theorem v9:Slot "set_iterator" "__iter__" "set_iterator.__iter__" :=
 .of (owner:="set_iterator") (n:="__iter__") (by rw[Wu,QP]; kernel_rfl) (by decide +kernel) (by decide +kernel) (by decide +kernel) (.inl (by decide +kernel)) (by rw[isSubtype_type]; kernel_rfl)
theorem rR:entryFor table "set_iterator.__next__" = some Builtin.«set_iterator.__next__»:=entryFor_of_fast (by kernel_rfl)
theorem A_:entryFor table "set_iterator.__iter__" = some Builtin.«dict_keyiterator.__iter__»:=entryFor_alias (id':="dict_keyiterator.__iter__") (by kernel_rfl) rfl (by decide +kernel) (by kernel_rfl)
theorem qt(a:Value):argsOk "set_iterator.__next__" ⟨[a],[]⟩:=by unfold argsOk; kernel_rfl
theorem zG(a:Value):argsOk "set_iterator.__iter__" ⟨[a],[]⟩:=by unfold argsOk; kernel_rfl
theorem JH:entryFor table "set.__iter__" = some Builtin.«frozenset.__iter__»:=entryFor_alias (id':="frozenset.__iter__") (by kernel_rfl) rfl (by decide +kernel) (by kernel_rfl)
end TB

namespace TB
open PySem PySem.SetTable PySem.Spec
section
variable{prog:WZ}{w:W2}{A:Around}{E:WS}{s:WX}
def Jh(prog:WZ)(w:W2)(h:Heap)(items:W5)(val:Nat->List Int):Prop:=∀(i:Nat) v,items[i]?=some v->∃c,v=.ref c/\TK prog w h (val i) c
noncomputable def eW(led:Bool):Obj:={ cls:=.type "set",dict:=none,data:=.set #[] 0 (.fresh 0 0 led) }
def Made(prog:WZ)(w:W2)(h:Heap)(items:W5)(val:Nat->List Int)(h':Heap):Prop:=(∃L,cI prog w (λc=>c<h.objs.size/\Value.ref c∈items.toList) h' h.objs.size L/\∀x,x∈L ↔ ∃j,j<items.size/\val j=x)/\∀b o,b<h.objs.size->h.get? b=some o->h'.get? b=some o
set_option maxRecDepth 100000 in
set_option maxHeartbeats 3200000 in
theorem DZ(a:Value){Q:WS}(q:Q (.ref s.heap.objs.size) { s with heap:=s.heap.push (eW (!byT w)) }) :
  codeAny (model prog w) A (.call (.builtin "set.__new__") ⟨[.type "set",a],[]⟩) (wants Q E) s:=by
 refine codeAny_of_tree (show wpAny _ A.in1 (do checkBuiltinCall "set.__new__" ⟨[.type "set",a],[]⟩; again (.builtin "set.__new__" ⟨[.type "set",a],[]⟩)) _ _ s from ?_);refine Za (Xz (F.newCall_set_1 a) (Zc ⟨QV F.plain_set_new _,Xq F.entry_set_new ?_⟩)); rw[XM F.plain_set_new _];unfold Builtin.«set.__new__» Builtin.Frozenset.newClass; have hsub:=sub_set_self;obtain⟨hp,g,d,tk,os⟩:=s;dsimp only; wp_walk;refine QS (Zc ?_);dsimp only; simp only[newObj];refine Za (wpAny_alloc (Zc (Zc ?_)));exact q
set_option maxRecDepth 100000 in
set_option maxHeartbeats 3200000 in
theorem zc{l:Addr}{items:W5}{val:Nat->List Int}{Q:WS}(hu:A.units+4<cLine)(hh:A.handled=none)(hl:s.heap.IsList l items)(ht:Jh prog w s.heap items val)(hb:items.size<=18)
  (q:∀h' tk,Made prog w s.heap items val h'->Q (.ref s.heap.objs.size) { s with heap:=h',toks:=tk }):wpAny (model prog w) A (call (.type "set") [.ref l]) Q E s:=by
 obtain⟨ka,kb,kc⟩:=F.called_set.mro; have kd:=F.called_set.made; have ke:=F.called_set.sub;refine wpAny_call (codeAny_of_tree (show wpAny _ _ (callAny (.type "set") _) _ _ _ from ?_));refine Zc ⟨Q5 _ (by decide +kernel),Xq F.entry_type_call ?_⟩; rw[Around.under_plain (weight_type_call_type "set" [.ref l] []) rfl];have kf:=F.called_set.notType; have kg:=F.called_set.canCreate; have ki:=F.typeCall_set_1 (.ref l)
 repeat (any_goals (first|wp_step|assumption))
 refine Wp (DZ (.ref l) (E:=E) (Q:=λob z=>∃led:Bool,led=!byT w/\ob=.ref s.heap.objs.size/\z={ s with heap:=s.heap.push (eW led) }) ⟨_,rfl,rfl,rfl⟩) λr z hr=>?_
 cases r with
 | error e=>exact hr
 | ok fl =>
  cases fl with
  | ret ob =>
   obtain⟨led,hled,rfl,rfl⟩:=hr;have gS:(s.heap.push (eW led)).get? s.heap.objs.size=some (eW led):=Zw _ rfl;have hT:Shared.TypeIs { s with heap:=s.heap.push (eW led) } (.ref s.heap.objs.size) "set":=⟨_,gS,rfl⟩
   have kj:=F.called_set.init.lookup; have kk:=F.called_set.init.bind (.ref s.heap.objs.size)
   repeat (any_goals (first|wp_step|assumption))
   refine Wp (codeAny_call_builtin (R:=wants (λr z=>r=.none/\∃h' tk,z={ s with heap:=h',toks:=tk }/\Made prog w s.heap items val h') E) F.called_set.init.plain F.entry_set_init (check_set_init_1 hT ?_)) λr2 z2 hr2=>?_
   ·obtain⟨⟨oc,od,ot,os⟩,hol,hcl,nl,hdl⟩:=hl;have hcl:oc=.type "list":=hcl; have hdl:ot=.seq items nl:=hdl;subst hcl; subst hdl;have hlt:l<s.heap.objs.size:=Zp hol;have gl:(s.heap.push (eW led)).get? l=some { cls:=.type "list",dict:=od,data:=.seq items nl,slots:=os }:=Zg _ hol;have kl:=F.sub_list_set; have km:=F.sub_list_frozenset; have kn:(Value.type "list"==Value.type "dict")=false:=by decide
    have hl1:(s.heap.push (eW led)).IsList l items:=⟨_,gl,rfl,nl,rfl⟩
    unfold Builtin.«set.__init__» noKeywords Builtin.Frozenset.updateFrom;generalize hpi:pyIter=pit;unfold eW at *
    wp_walk
    subst hpi;refine We hl1 (Za (wpAny_runValue ?_));have sz:((s.heap.push ({ cls:=.type "set",dict:=none,data:=.set #[] 0 (.fresh 0 0 led) }:Obj)).objs.size)=s.heap.objs.size+1:=Xw _ _;have h3:A.in1.in1.in1.handled=none:=by simpa using hh
    have hI:l≠(s.heap.push ({ cls:=.type "set",dict:=none,data:=.set #[] 0 (.fresh 0 0 led) }:Obj)).objs.size:=by rw[sz]; exact ZF (X7 hlt)
    refine yD (by show A.units+1+1+1<cLine; omega) ((Walks.list h3 _ l hI items).toS) s.heap.objs.size (λc=>c<s.heap.objs.size/\Value.ref c∈items.toList) ?hS1 ?hwr (λz=>absurd z.1 (XI _)) val hb ?hval (items.size-0) 0 _ [] rfl (Xe _) ⟨⟨_,Zw _ rfl,rfl,rfl⟩,hl1.push _⟩ ?hT ?hL (Zm _) ?hP ?hR
    case hS1=>rw[sz]; intro z; rcases Zx.mp z with z|z; exact absurd z (ZF (XG _)); exact absurd (ZH.mp z) (X1 hlt)
    case hwr=>intro b z q; rw[ZH.mp z,sz] at q; exact absurd q.1 (Nat.not_lt_of_le (XU _))
    case hval =>
     intro i v hv;obtain⟨c,e,o,items',m,h1,h2⟩:=ht i v hv;exact⟨c,e,Zp h1,ZD (by rw[<- e,ZR]; exact hv)⟩
    case hT=>rw[hled] at gS ⊢; exact cI.new (Zg _ gS)
    case hL=>intro x; constructor; (intro z; cases z); (rintro⟨j,z,_⟩; omega)
    case hP =>
     intro i c hp;obtain⟨c',e,x⟩:=ht i _ hp;cases e;exact fm x λo e=>Zg _ (Zg _ e)
    case hR =>
     rintro⟨h',g',d',tk',os'⟩ L' hm h1 h2 _;obtain rfl:g'=s.gens:=hm.gens;obtain rfl:d'=s.drawn:=hm.drawn;obtain rfl:os'=s.os:=hm.os;refine Zc (Zc ⟨rfl,h',tk',rfl,⟨L',h1,h2⟩,λb o hb' e=>?_⟩);refine hm.heap b o (λz=>?_) (Zg _ (Zg _ e));rcases Zx.mp z with z|z
     ·exact absurd z (ZF hb')
     ·rw[ZH,sz] at z; exact absurd z (ZF (X7 hb'))
   ·cases r2 with
    | error e=>exact hr2
    | ok fl2 =>
     cases fl2 with
     | ret r =>
      obtain⟨rfl,h',tk,rfl,hm⟩:=hr2
      repeat (any_goals (first|wp_step|assumption))
      exact q _ _ hm
     | _=>exact hr2.elim
  | _=>exact hr.elim
end
end TB

namespace TB
open PySem PySem.SetTable
theorem IK{α:Type}{l:List α}{i:Nat}(h:i<l.length):(l[i]::l.eraseIdx i).Perm l:=by
 rw[List.eraseIdx_eq_take_drop_succ];refine List.perm_middle.symm.trans ?_;rw[<- Xt h,List.take_append_drop]
theorem vE{α:Type}(next:Nat->Nat):∀(n k:Nat) (left:List α) (out:Array α),left.length=n->(pickOrder.go next n k left out).toList.Perm (out.toList++left)
 | 0,k,left,out,h=>by
  obtain rfl:=List.length_eq_zero_iff.mp h;unfold pickOrder.go;rw[XA]
 | n+1,k,left,out,h=>by
  have hi:next k%left.length<left.length:=QD _ (by omega);unfold pickOrder.go;rw[Ze hi];refine(vE next n (k+1) _ _ (by rw[List.length_eraseIdx_of_lt hi]; omega)).trans ?_;rw[Array.toList_push,Zq];exact(IK hi).append_left _
theorem IM{α:Type}(next:Nat->Nat)(xs:Array α):(pickOrder next xs).toList.Perm xs.toList:=vE next xs.size 0 xs.toList #[] (ZE)
noncomputable def ck(w:W2)(S:Addr)(ep:Nat)(es:W3):Array (Int×Value):=if byT w=true then pickOrder (w.params.setOrder S ep) es else es
theorem lF(w:W2)(S:Addr)(ep:Nat)(es:W3):(ck w S ep es).toList.Perm es.toList:=by
 unfold ck;split
 ·exact IM _ _
 ·exact .refl _
theorem je(w:W2)(S:Addr)(ep:Nat)(es:W3):(ck w S ep es).size=es.size:=by
 rw[<- ZE,(lF w S ep es).length_eq,ZE]
noncomputable def slotAt(w:W2)(t:SetTable):Nat->Nat
 | 0=>0
 | i+1=>if byT w=true then 0 else t.place.getD i 0+1
noncomputable def nk(w:W2)(S:Addr)(es:W3)(ep:Nat)(t:SetTable)(i:Nat)(d:Option Addr)(sl:Array (Option Value)):Obj :=
 { cls:=.type "set_iterator",dict:=d,data:=.fields #[rawInt (slotAt w t i),rawInt i,.ref S,rawInt es.size,rawInt ep],slots:=sl }
section
variable{prog:WZ}{w:W2}{A:Around}{E:WS}{s:WX}{I S:Addr}{o:Obj}{es:W3}{ep:Nat}{t:SetTable}
structure Fix(w:W2)(o:Obj)(es:W3)(ep:Nat)(t:SetTable):Prop where
 data:o.data=.set es ep t
 good:Good t es
 plain:t.plain=true
 led:t.led=!byT w
 fit:es.size<=t.mask
theorem BS(g:Good t es){i:Nat}(hi:i<=es.size)(hb:byT w=false):below t.place (slotAt w t i)=i:=by
 have hsp:=nY g.srt (slotAt w t i)
 cases i with
 | zero =>
  obtain⟨h1,h2,h3⟩:=hsp;rcases Nat.eq_zero_or_pos (below t.place (slotAt w t 0)) with z|z
  ·exact z
  ·have hlt:0<t.place.size:=by omega
   exact absurd (h2 0 _ (Zs hlt) z) (Nat.not_lt_zero _)
 | succ i =>
  have hlt:i<t.place.size:=by rw[g.len]; omega
  have hg:t.place[i]?=some t.place[i]:=Zs hlt
  have e:slotAt w t (i+1)=t.place[i]+1:=by
   show(if byT w=true then 0 else t.place.getD i 0+1)=_;rw[hb,Zh Zz,Xo,hg]; rfl
  rw[e] at hsp ⊢;obtain⟨h1,h2,h3⟩:=hsp;rcases WJ (below t.place (t.place[i]+1)) (i+1) with z|z|z
  ·have:=h3 i _ hg (by omega); omega
  ·exact z
  ·have hlt2:i+1<t.place.size:=by omega
   have hg2:t.place[i+1]?=some t.place[i+1]:=Zs hlt2;have a:=h2 (i+1) _ hg2 z;have b:=g.srt i (i+1) _ _ hg hg2 (XG i);omega
theorem uo{i:Nat}{Q:Option (Value×Nat)->Shared->Prop}(ho:s.heap.get? S=some o)(X:Fix w o es ep t)(hi:i<=es.size)
  (q:Q (((ck w S ep es)[i]?).map λe=>(e.2,slotAt w t (i+1))) s):wpAny (model prog w) A (setNext S (slotAt w t i) i ep) Q E s:=by
 have hf:=fJ X.good X.fit;unfold setNext setsByText;refine Za (XO ho X.data hf (Za (Za (QS (Zc ?_)))));dsimp only;have hbt:(model prog w).w.params.followText "set-order" = byT w:=rfl
 cases hb:byT w with
 | true =>
  rw[hbt,hb];simp only[Xu,QK,Zu,ZM];unfold setWalk setsByText;refine Za (Za (XO ho X.data hf (Za (Za (QS (Zc ?_))))));dsimp only;rw[hbt,hb];simp only[Xu];refine Za (QS (Zc (Zc ?_)));have e:ck w S ep es=pickOrder (w.params.setOrder S ep) es:=by unfold ck; rw[hb]; rfl
  have e2:slotAt w t i=slotAt w t (i+1):=by cases i<;>(unfold slotAt; simp[hb])
  rw[e] at q;rw[e2];exact q
 | false =>
  rw[hbt,hb];simp only[Zu,ZM];rw[Zh]
  rotate_left
  ·show ¬((!t.plain&&decide (es.size>1))=true);rw[X.plain]; simp
  refine Za (Xz (a:=()) (show(if(!t.led&&!es.isEmpty)=true then _ else pure ())=pure () by rw[X.led,hb]; rfl) (Zc ?_));rw[BS X.good hi hb];have e:ck w S ep es=es:=by unfold ck; rw[hb]; rfl
  rw[e] at q
  by_cases hlt:i<es.size
  ·have he:es[i]?=some es[i]:=Zs hlt;have hl2:i<t.place.size:=by rw[X.good.len]; exact hlt
   have hp:t.place[i]?=some t.place[i]:=Zs hl2
   have e3:slotAt w t (i+1)=t.place[i]+1:=by
    show(if byT w=true then 0 else t.place.getD i 0+1)=_;rw[hb,Zh Zz,Xo,hp]; rfl
   rw[he,e3] at q;rw[he,hp];exact q
  ·have he:es[i]?=none:=Qg (by omega);rw[he] at q;rw[he];exact q
end
end TB

namespace TB
open PySem PySem.SetTable
section
variable{prog:WZ}{w:W2}{A:Around}{E:WS}{s:WX}{I S:Addr}{o:Obj}{es:W3}{ep:Nat}{t:SetTable}
def AtI(w:W2)(S:Addr)(es:W3)(ep:Nat)(t:SetTable)(h:Heap)(I:Addr)(i:Nat):Prop:=∃d sl,h.get? I=some (nk w S es ep t i d sl)
theorem AtI.type{i:Nat}(x:AtI w S es ep t s.heap I i):s.TypeIs (.ref I) "set_iterator":=let⟨_,_,e⟩:=x; ⟨_,e,rfl⟩
theorem yG{i:Nat}{Q:Option Value->Shared->Prop}(x:AtI w S es ep t s.heap I i)(ho:s.heap.get? S=some o)(X:Fix w o es ep t)(hIS:S≠I){e:Int×Value}(he:(ck w S ep es)[i]?=some e)
  (q:∀h',AtI w S es ep t h' I (i+1)->Heap.SameBut I s.heap h'->Q (some e.2) { s with heap:=h' }):wpAny (model prog w) A (pyNext (.ref I)) Q E s:=by
 have hT:=x.type;obtain⟨d,sl,hi⟩:=x;have hlt:i<es.size:=by rw[<- je w S ep es]; exact(ZV.mp he).1
 unfold pyNext;refine Za (XJ (ZY (name:=Str.ofString "__next__") hT gh (ZT gh hT rR ?_ (qt _))));unfold Builtin.«set_iterator.__next__»;refine Za (m:=slotArgs "__next__" 0 _) (Xz (a:=(.ref I,[])) rfl ?_);refine Za (wpAny_fieldsOf hi rfl ?_);dsimp only;refine Za (wpAny_setEntries_of ho X.data (fJ X.good X.fit) ?_);rw[show(((es.size:Int))!=(es.size:Int))=false from QK _];simp only[Zu,ZM];rw[show rawInt (slotAt w t i)=Value.int (slotAt w t i) 0 from rfl];dsimp only;rw[Z5,Z5,Z5];refine Za (uo ho X (Qi hlt) ?_);rw[he];dsimp only[Option.map];refine Za (Qu hi rfl (by simp) ?_);have h1:=Xn (h:=s.heap) (Obj.mapFields (·.setIfInBounds 0 (rawInt (slotAt w t (i+1))))) hi rfl;refine Za (Qu h1 rfl (by simp) (Zc ⟨e.2,rfl,Zc (q _ ⟨d,sl,?_⟩ ?_)⟩))
 ·rw[Xn _ h1 rfl];rfl
 ·exact(Xl s.heap I _).trans (Xl _ I _)
theorem AN{i:Nat}{Q:Option Value->Shared->Prop}(hh:A.handled=none)(x:AtI w S es ep t s.heap I i)(ho:s.heap.get? S=some o)(X:Fix w o es ep t)(hi0:i=es.size)
  (q:∀h',Heap.ExtBut I s.heap h'->Q none { s with heap:=h' }):wpAny (model prog w) A (pyNext (.ref I)) Q E s:=by
 have hT:=x.type;obtain⟨d,sl,hi⟩:=x;have he:(ck w S ep es)[i]?=none:=Qg (by rw[je]; omega);unfold pyNext;refine Za (XJ (ZY (name:=Str.ofString "__next__") hT gh (ZT gh hT rR ?_ (qt _))));unfold Builtin.«set_iterator.__next__»;refine Za (m:=slotArgs "__next__" 0 _) (Xz (a:=(.ref I,[])) rfl ?_);refine Za (wpAny_fieldsOf hi rfl ?_);dsimp only;refine Za (wpAny_setEntries_of ho X.data (fJ X.good X.fit) ?_);rw[show(((es.size:Int))!=(es.size:Int))=false from QK _];simp only[Zu,ZM];rw[show rawInt (slotAt w t i)=Value.int (slotAt w t i) 0 from rfl];dsimp only;rw[Z5,Z5,Z5];refine Za (uo ho X (Nat.le_of_eq hi0) ?_);rw[he];dsimp only[Option.map];refine Za (Qu hi rfl (by simp) (Za ?_)); simp only[newExc,newTuple];refine Za (Z0 (Za (m:=firstArgMember _ _) (Xz (a:=Value.none) (by first|rfl|(simp only[firstArgMember]; rfl)) (Z0 ?_ (by size_fits)))) (by size_fits)); simp only[raiseNew];refine Za (wpAny_handled ?_); rw[show A.in1.handled=none from hh];refine Za (Zc (wpAny_throw ?_));refine Za (Qd (T:="StopIteration") (b:=true) ⟨_,Zw _ rfl,rfl⟩ WC (Zc (q _ ?_)));exact((Xl s.heap I _).extBut.push _).push _
theorem C6{i:Nat}{Q:WS}(x:AtI w S es ep t s.heap I i)(q:Q (.ref I) s):wpAny (model prog w) A (pyIter (.ref I)) Q E s :=
 Wf x.type v9 (ZT v9 x.type A_ (show wpAny _ _ (ret (.ref I)) _ _ s from Zc ⟨_,rfl,"set_iterator",_,x.type,gh.lookup,q⟩) (zG _))
theorem Bf(hh:A.handled=none)(X:Fix w o es ep t)(hIS:S≠I) :
  Walks prog w A I [I,S] [I] es.size (λi v=>∃e,(ck w S ep es)[i]?=some e/\v=e.2) (λi h=>AtI w S es ep t h I i/\h.get? S=some o) where
 sub:=λb hb=>by rw[ZH.mp hb]; exact Zo
 frame:=λi h h' ⟨⟨d,sl,a⟩,b⟩ k=>⟨⟨d,sl,k I Zo _ a⟩,k S (Zr _ Zo) _ b⟩
 item:=λi s Q E hi ⟨a,b⟩ k=>by
  have hw:i<(ck w S ep es).size:=by rw[je]; exact hi
  exact yG a b X hIS (Zs hw) λh' x sb=>k _ h' s.toks ⟨_,Zs hw,rfl⟩ ⟨x,(sb.2 S hIS).trans b⟩ λc oc hc ec=>(sb.2 c λz=>hc (by rw[z]; exact Zo)).trans ec
 done:=λs Q E ⟨a,b⟩ k=>AN hh a b X rfl λh' eb=>k h' s.toks λc oc hc ec=>eb c oc (λz=>hc (by rw[z]; exact Zo)) ec
 self:=λi s Q E ⟨a,b⟩ k=>C6 a k
theorem Ac{Q:WS}(ho:s.heap.get? S=some o)(hex:o.ExactSet)(X:Fix w o es ep t)
  (q:∀h',h'=s.heap.push (nk w S es ep t 0 none #[])->Q (.ref s.heap.objs.size) { s with heap:=h' }):wpAny (model prog w) A (pyIter (.ref S)) Q E s:=by
 have hT:s.TypeIs (.ref S) "set":=⟨o,ho,hex.1⟩
 have hf:=fJ X.good X.fit;refine Wf hT F.slot_set_iter (ZT F.slot_set_iter hT JH ?_ (F.args_set_iter_1 _));unfold Builtin.«frozenset.__iter__»;refine Za (m:=Builtin.Frozenset.slot0 "__iter__" _) (Xz (a:=S) rfl ?_);unfold Builtin.Frozenset.sizeOf;refine Za (Za (wpAny_setEntries_of ho X.data hf (Zc ?_)));unfold setDrawn setsByText;refine Za (Za (XO ho X.data hf (Za (Za (QS (Zc (Zc ?_)))))));dsimp only;have hdr:∀b:Bool,(b&&(!t.plain&&decide (es.size>1)))=false:=λb=>by rw[X.plain]; cases b<;>rfl
 rw[Zh]
 rotate_left
 ·show ¬((!_&&(!t.plain&&decide (es.size>1)))=true);rw[hdr]; exact Zz
 refine Za (Zc ?_);refine Za (wpAny_setEpoch_of ho X.data hf ?_);refine Za (Z0 (Zc ⟨_,rfl,"set_iterator",_,⟨_,Zw _ rfl,rfl⟩,gh.lookup,?_⟩));exact q _ rfl
end
end TB

namespace TB
open PySem PySem.SetTable
theorem Iz:splitId "set.__len__" = some ("set","__len__"):=by decide +kernel
section
variable{prog:WZ}{w:W2}{A:Around}{E:WS}{s:WX}{S:Addr}{o:Obj}{es:W3}{ep:Nat}{t:SetTable}
theorem Cg{Q:Bool->Shared->Prop}(hT:s.TypeIs (.ref S) "set")(q:Q false s):wpAny (model prog w) A (Builtin.List.listLengthHint (.ref S)) Q E s:=by
 unfold Builtin.List.listLengthHint;refine Za (wpAny_specialOf hT F.slot_set_len.lookup ?_);dsimp only;rw[Iz];dsimp only;refine Za (Qd hT sub_set_self ?_);simp only[Qr,Zu,ZM];rw[Zf]
 rotate_left
 ·show(_:Bool)=true;decide +kernel
 refine Za (XT hT ?_);exact Zc q
theorem Ew{Q:List Value->Shared->Prop}(hh:A.handled=none)(ho:s.heap.get? S=some o)(hex:o.ExactSet)(X:Fix w o es ep t)
  (q:∀h' tk,s.heap.objs.size<h'.objs.size->(∀b oc,b<s.heap.objs.size->s.heap.get? b=some oc->h'.get? b=some oc)->Q ((ck w S ep es).toList.map (·.2)) { s with heap:=h',toks:=tk }):wpAny (model prog w) A (collect (.ref S)) Q E s:=by
 have hSl:S<s.heap.objs.size:=Zp ho;unfold collect;refine Za (wpAny_runValue (Xq F.entry_proto_collect ?_)); rw[XM F.plain_proto_collect _];refine Za (show wpAny _ A.in1 (newList []) _ _ s from Z0 ?_);refine Zc ⟨QV F.plain_list_iadd _,Xq F.entry_list_iadd ?_⟩; rw[XM F.plain_list_iadd _];generalize hob:({ cls:=.type "list",data:=.seq ([]:List Value).toArray }:Obj)=ob;have g1:(s.heap.push ob).get? S=some o:=Zg _ ho;have gL:(s.heap.push ob).get? s.heap.objs.size=some ob:=Zw _ (by rw[<- hob]; rfl);have hT:Shared.TypeIs { s with heap:=s.heap.push ob } (.ref S) "set":=⟨o,g1,hex.1⟩
 show wpAny _ A.in1 (Builtin.List.listExtendWith (.ref s.heap.objs.size) (.ref S) (.ref s.heap.objs.size)) _ _ { s with heap:=s.heap.push ob };unfold Builtin.List.listExtendWith;refine Za (XT hT ?_)
 have n1:Builtin.List.listSameRef (.ref s.heap.objs.size) (.ref S)=false:=by
  show(s.heap.objs.size==S)=false;exact QF (X1 hSl)
 rw[n1,show(Value.type "set"==Value.type "list")=false by decide,show(Value.type "set"==Value.type "tuple")=false by decide];simp only[Bool.or_false,Zu,ZM];refine Za (Ac (s:={ s with heap:=s.heap.push ob }) g1 hex X λh2 e2=>?_);have k2:∀b oc,(s.heap.push ob).get? b=some oc->h2.get? b=some oc:=λb oc e=>by rw[e2]; exact Zg _ e
 refine Za (Xg (Cg (s:={ s with heap:=h2 }) ⟨o,k2 _ _ g1,hex.1⟩ ?_));rw[Zf]
 rotate_left
 ·show(_:Bool)=true;decide +kernel
 refine Za (QA ?_);have sz:(s.heap.push ob).objs.size=s.heap.objs.size+1:=Xw _ _;have gI:h2.get? (s.heap.push ob).objs.size=some (nk w S es ep t 0 none #[]):=by rw[e2]; exact Zw _ rfl
 have gL2:h2.get? s.heap.objs.size=some { cls:=.type "list",data:=.seq ([]:List Value).toArray }:=by rw[hob]; exact k2 _ _ gL
 refine Za (show wpAny _ A.in1 (updateSeq s.heap.objs.size (·.push .none)>>=λ_=>updateSeq s.heap.objs.size (·.pop)) _ _ _ from ?_);refine Za (wpAny_updateSeq gL2 rfl ?_);have gL3:=Xn (Obj.mapSeq (·.push Value.none)) gL2 rfl;refine wpAny_updateSeq gL3 rfl ?_;have gL4:=Xn (Obj.mapSeq (·.pop)) gL3 rfl
 have k4:∀b oc,b≠s.heap.objs.size->h2.get? b=some oc->((h2.update s.heap.objs.size (Obj.mapSeq (·.push Value.none))).update s.heap.objs.size (Obj.mapSeq (·.pop))).get? b=some oc :=
  λb oc hb e=>(QI _ _ (Ne.symm hb)).trans ((QI _ _ (Ne.symm hb)).trans e)
 generalize ((h2.update s.heap.objs.size (Obj.mapSeq (·.push Value.none))).update s.heap.objs.size (Obj.mapSeq (·.pop)))=h4 at gL4 k4;have hSI:S≠(s.heap.push ob).objs.size:=by rw[sz]; exact ZF (X7 hSl)
 have hh2:A.in1.in1.handled=none:=by simpa using hh
 have hh1:A.in1.handled=none:=by simpa using hh
 have hLf:s.heap.objs.size ∉ [(s.heap.push ob).objs.size,S]:=λz=>by
  rcases Zx.mp z with z|z
  ·rw[sz] at z; exact absurd z (ZF (XG _))
  ·exact absurd (ZH.mp z) (X1 hSl)
 have hn:es.size<=sizeLine:=by rw[XS]; have:=X.fit; rcases X.good.msk with z|z<;>omega
 refine Zc ⟨QV F.plain_extend_loop _,codeAny_extend_loopS (Bf (I:=(s.heap.push ob).objs.size) hh1 X hSI).toS hn _ hLf _ es.size 0 _ _ _ rfl (Xe _)
  ⟨⟨_,_,k4 _ _ (by rw[sz]; exact X1 (XG _)) gI⟩,k4 S _ (ZF hSl) (k2 _ _ g1)⟩ gL4 (ItemsOf.nil _) λz acc c hm hz hacc=>?_⟩
 obtain⟨h',g',d',tk',os'⟩:=z;obtain rfl:g'=s.gens:=hm.gens;obtain rfl:d'=s.drawn:=hm.drawn;obtain rfl:os'=s.os:=hm.os;refine Za (wpAny_load hz (Zc ?_))
 have hacc':acc.toList=(ck w S ep es).toList.map (·.2):=by
  refine QL λj=>?_
  rw[ZR,ZL,ZR]
  by_cases hj:j<es.size
  ·have hj2:j<acc.size:=by rw[hacc.1]; exact hj
   have ha:acc[j]?=some acc[j]:=Zs hj2;obtain⟨e,q1,q2⟩:=hacc.2 j _ ha;rw[ha,q1,q2]; rfl
  ·rw[Qg (by rw[hacc.1]; omega),Qg (by rw[je]; omega)]; rfl
 show Q acc.toList _;rw[hacc'];refine q h' tk' (Zp hz) λb oc hb e=>hm.heap b oc (λz=>?_) (k4 b oc (ZF hb) (k2 _ _ (Zg _ e)))
 rcases Zx.mp z with z|z
 ·exact absurd z (ZF hb)
 ·rw[ZH,sz] at z; exact absurd z (ZF (X7 hb))
end
end TB

namespace TB
open PySem PyProof.Rows
noncomputable def aD:List Int->List Int->Bool
 | [],[]=>false
 | [],_::_=>true
 | _::_,[]=>false
 | a::r,b::q=>if a=b then aD r q else decide (a<b)
section
variable{prog:WZ}{w:W2}{A:Around}{E:WS}{s:WX}
theorem G5{k:Bool}{a b:Int}{t u:Tok}{Q:Bool->Shared->Prop}(q:Q (decide (a<b)) s):wpAny (model prog w) A (oneLt' k (.int a t) (.int b u)) Q E s:=by
 cases k with
 | true=>exact oneLt_int q
 | false =>
  rw[oneLt'_eq];simp only[Zu,ZM];exact Za (wpAny_lt_int (Xp q))
theorem FG(k:Bool)(x y:Value):keyLt' (tuples' k) x y=(do
  let xs <- Builtin.List.listItems x; let ys <- Builtin.List.listItems y
  for ((p,q),i) in (xs.toList.zip ys.toList).zipIdx do
   if !(<- eqBool p q) then return <- oneLt' (k&&i==0) p q
  return xs.size<ys.size):=rfl
theorem xG{k:Bool}{ks js:WU}{x y:Addr}{Q:Bool->Shared->Prop}(hx:TK prog w s.heap ks x)(hy:TK prog w s.heap js y)(q:Q (aD ks js) s):wpAny (model prog w) A (keyLt' (tuples' k) (.ref x) (.ref y)) Q E s:=by
 obtain⟨ox,xs,nx,hox,_,hdx,hix⟩:=hx;obtain⟨oy,ys,ny,hoy,_,hdy,hiy⟩:=hy;rw[FG];refine Za (Q6 hox hdx (Za (Q6 hoy hdy (Za ?_))))
 refine QR _ (λrest r z=>r.1=none/\z=s/\∃ks' js' xs' ys' n,rest=(xs'.zip ys').zipIdx n/\ItemsAre (intKind prog w) ks' xs'/\ItemsAre (intKind prog w) js' ys'/\aD ks' js'=aD ks js/\decide (xs'.length<ys'.length)=decide (xs.size<ys.size)) _ ?_ ?_ _ _
  ⟨rfl,rfl,ks,js,xs.toList,ys.toList,0,rfl,hix,hiy,rfl,by rw[ZE,ZE]⟩
 ·rintro⟨⟨u,v⟩,i⟩ rest r z ⟨hr,rfl,ks',js',xs',ys',n,hz,h1,h2,hl,hs⟩
  cases h1 with
  | nil=>simp at hz
  | @cons a u' ks2 xs2 ha h1 =>
   cases h2 with
   | nil=>simp at hz
   | @cons b v' js2 ys2 hb h2 =>
    simp only[List.zip_cons_cons,List.zipIdx_cons,List.cons.injEq,Prod.mk.injEq] at hz;obtain⟨⟨⟨rfl,rfl⟩,rfl⟩,rfl⟩:=hz;refine Za ((intKind prog w).eqBool ha hb ?_);obtain⟨t,rfl⟩:=QJ ha;obtain⟨t',rfl⟩:=QJ hb
    by_cases e:a=b
    ·subst e;rw[Zj rfl];simp only[Qr,Zu,ZM];refine Zc ⟨rfl,rfl,ks2,js2,xs2,ys2,i+1,rfl,h1,h2,?_,?_⟩
     ·rw[<- hl,aD,Zf rfl]
     ·rw[<- hs]; simp
    ·rw[Zt e];simp only[Bool.not_false,Xu];have e2:aD ks js=decide (a<b):=by rw[<- hl,aD,Zh e]
     rw[e2] at q;exact Za (G5 (Zc (Zc q)))
 ·rintro⟨r1,r2⟩ z ⟨hr,rfl,ks',js',xs',ys',n,hz,h1,h2,hl,hs⟩;have hr:r1=none:=hr;subst hr
  have e:aD ks js=decide (xs.size<ys.size):=by
   rw[<- hl,<- hs]
   cases h1 with
   | nil=>cases h2 with
    | nil=>rfl
    | cons _ _=>rfl
   | cons _ _=>cases h2 with
    | nil=>rfl
    | cons _ _=>simp at hz
  rw[e] at q;exact Zc q
theorem yO{ks:WU}{c:Addr}{Q:Option Value->Shared->Prop}(hk:TK prog w s.heap ks c)(hne:ks≠[])(q:∀i t,Q (some (.int i t)) s):wpAny (model prog w) A (firstOfTuple' (.ref c)) Q E s:=by
 obtain⟨o,items,n,ho,hc,hd,hi⟩:=hk;show wpAny _ _ (typeOf (.ref c)>>=_) _ _ s;refine Za (wpAny_typeOf_ref ho ?_);rw[hc];rw[Zh (by simp)];refine Za (Q6 ho hd (Zc ?_))
 cases hv:items.toList with
 | nil=>rw[hv] at hi; cases hi; exact absurd rfl hne
 | cons v r =>
  rw[hv] at hi
  cases hi with
  | @cons k _ _ _ h1 _ =>
   obtain⟨t,rfl⟩:=QJ h1;have e:items[0]?=some (Value.int k t):=by rw[<- ZR,hv]; rfl
   rw[e];exact q _ _
theorem qx:∀{vs:WW} {Q:List (Option Value)->Shared->Prop},(∀v∈vs,∃ks c,v=.ref c/\TK prog w s.heap ks c/\ks≠[])->(∀l:List (Int×Tok),l.length=vs.length->Q (l.map λp=>some (.int p.1 p.2)) s) ->
  wpAny (model prog w) A (vs.mapM firstOfTuple') Q E s
 | [],Q,_,q=>by
  rw[List.mapM_nil];exact Zc (q [] rfl)
 | v::vs,Q,hv,q=>by
  obtain⟨ks,c,rfl,hk,hne⟩:=hv v Zo;rw[List.mapM_cons];refine Za (yO hk hne λi t=>Za (qx (vs:=vs) (λu hu=>hv u (Zr _ hu)) λl hl=>Zc ?_));exact q ((i,t)::l) (by rw[Zy,Zy,hl])
theorem rY:∀l:List (Int×Tok),(l.map λp=>Value.int p.1 p.2).mapM typeOf=(pure (l.map λ_=>Value.type "int"):Sem (List Value))
 | []=>by simp
 | p::l=>by
  rw[ZI,List.mapM_cons,rY l];show(pure (Value.type "int")>>=λb=>pure _>>=λbs=>pure (b::bs))=_;simp
theorem AR{vs:WW}{Q:SortKind->Shared->Prop}(hne:vs≠[])(hv:∀v∈vs,∃ks c,v=.ref c/\TK prog w s.heap ks c/\ks≠[])(q:Q (tuples' true) s):wpAny (model prog w) A (keyKind' vs.toArray) Q E s:=by
 rw[keyKind'_eq,List.mapM_toArray];refine Za ?_;rw[map_eq_pure_bind];refine Za (qx hv λl hl=>Zc ?_);rw[Zf (by simp)];refine Za (QA ?_);have e:((l.map λp=>some (Value.int p.1 p.2)).toArray.filterMap id)=(l.map λp=>Value.int p.1 p.2).toArray:=by simp
 rw[e,oneTypeOnly'_eq,List.mapM_toArray,rY];simp only[map_pure,pure_bind];obtain⟨p,r,rfl⟩:∃p r,l=p::r:=Qs λz=>hne (List.length_eq_zero_iff.mp (by rw[<- hl,z]; rfl))
 have h0:(List.map (λ_=>Value.type "int") (p::r)).toArray[0]?=some (Value.type "int"):=rfl
 have ha:((List.map (λ_=>Value.type "int") (p::r)).toArray.all λx=>x==Value.type "int")=true:=by
  rw[List.all_toArray,WQ,Z9]; intro _ _; rfl
 rw[h0];simp only[ha,Xu,pure_bind];exact Zc q
end
end TB

namespace TB
open PySem PyProof.Rows
theorem lex_irrefl:∀a,aD a a=false
 | []=>rfl
 | a::r=>by rw[aD,Zf rfl,lex_irrefl r]
theorem lex_trans:∀a b c,aD a b=true->aD b c=true->aD a c=true
 | [],[],c,h,_=>by cases h
 | [],_::_,[],_,h=>by cases h
 | [],_::_,_::_,_,_=>rfl
 | _::_,[],_,h,_=>by cases h
 | _::_,_::_,[],_,h=>by cases h
 | a::r,b::q,c::p,h1,h2=>by
  rw[aD] at h1 h2 ⊢
  by_cases e1:a=b
  ·subst e1;rw[Zf rfl] at h1
   by_cases e2:a=c
   ·subst e2; rw[Zf rfl] at h2 ⊢; exact lex_trans r q p h1 h2
   ·rw[Zh e2] at h2 ⊢; exact h2
  ·rw[Zh e1] at h1;have h1:=Zl h1
   by_cases e2:b=c
   ·subst e2; rw[Zh e1]; exact Zj h1
   ·rw[Zh e2] at h2;have h2:=Zl h2;rw[Zh (by omega)]; exact Zj (by omega)
theorem kC:∀a b,aD a b=false->aD b a=false->a=b
 | [],[],_,_=>rfl
 | [],_::_,h,_=>by cases h
 | _::_,[],_,h=>by cases h
 | a::r,b::q,h1,h2=>by
  rw[aD] at h1 h2
  by_cases e:a=b
  ·subst e; rw[Zf rfl] at h1 h2; rw[kC r q h1 h2]
  ·rw[Zh e] at h1; rw[Zh (Ne.symm e)] at h2;have h1:=WE h1;have h2:=WE h2;omega
theorem A5(a b c:WU)(h:aD a c=true):aD a b=true\/aD b c=true:=by
 cases h1:aD a b with
 | true=>exact .inl rfl
 | false =>
  cases h2:aD b a with
  | true=>exact .inr (lex_trans b a c h2 h)
  | false=>rw[<- kC a b h1 h2]; exact .inr h
noncomputable def kT(key:Value->List Int):PyProof.Rows.KeyKind:={ α:=List Int,blt:=aD,irrefl:=lex_irrefl,trans:=lex_trans,negTrans:=A5,total:=kC,keyOf:=λv=>some (key v),dflt:=[] }
noncomputable def at'(key:Value->List Int)(xs:Array Keyed)(i:Nat):List Int:=KK (kT key) xs i
theorem jj{key:Value->List Int}{xs:Array Keyed}{i:Nat}{p:Keyed}(h:xs[i]?=some p):at' key xs i=key p.1:=by unfold at' KK; rw[h]; rfl
structure Bas(key:Value->List Int)(a0:Array Keyed)(z:SortSt):Prop where
 perm:(arrOf z).Perm a0
 kind:kindOf z=tuples' true
 fail:failedOf z=none
 pend:pendingOf z=#[]
def Diff(key:Value->List Int)(xs:Array Keyed):Prop:=(xs.toList.map λp=>key p.1).Nodup
theorem Diff.perm{key:Value->List Int}{xs ys:Array Keyed}(p:xs.Perm ys)(d:Diff key ys):Diff key xs:=(((QW.mp p).map _).nodup_iff).mpr d
theorem Diff.ne{key:Value->List Int}{xs:Array Keyed}(d:Diff key xs){i j:Nat}(hi:i<xs.size)(hj:j<xs.size)(hij:i≠j):at' key xs i≠at' key xs j:=by
 intro e;have ei:xs[i]?=some xs[i]:=Zs hi;have ej:xs[j]?=some xs[j]:=Zs hj;rw[jj ei,jj ej] at e;have hl:(xs.toList.map λp=>key p.1).length=xs.size:=by rw[Zb,ZE]
 have gi:(xs.toList.map λp=>key p.1)[i]'(by omega)=key xs[i].1:=by rw[Qe,X4]
 have gj:(xs.toList.map λp=>key p.1)[j]'(by omega)=key xs[j].1:=by rw[Qe,X4]
 have:=Qt.mp d;rcases Nat.lt_or_gt_of_ne hij with z|z
 ·exact this i j (by omega) (by omega) z (by rw[gi,gj]; exact e)
 ·exact this j i (by omega) (by omega) z (by rw[gi,gj]; exact e.symm)
theorem Diff.or{key:Value->List Int}{xs:Array Keyed}(d:Diff key xs){i j:Nat}(hi:i<xs.size)(hj:j<xs.size)(hij:i≠j)(h:aD (at' key xs i) (at' key xs j)=false):aD (at' key xs j) (at' key xs i)=true:=by
 cases q:aD (at' key xs j) (at' key xs i) with
 | true=>rfl
 | false=>exact absurd (kC _ _ h q) (d.ne hi hj hij)
def Up(key:Value->List Int)(xs:Array Keyed)(n:Nat):Prop:=∀i j,i<j->j<n->aD (at' key xs i) (at' key xs j)=true
def Down(key:Value->List Int)(xs:Array Keyed)(n:Nat):Prop:=∀i j,i<j->j<n->aD (at' key xs j) (at' key xs i)=true
theorem Up.more{key:Value->List Int}{xs:Array Keyed}{n:Nat}(u:Up key xs n)(hn:1<=n)(h:aD (at' key xs (n-1)) (at' key xs n)=true):Up key xs (n+1):=λi j hij hj=>by
 by_cases z:j<n
 ·exact u i j hij z
 ·obtain rfl:j=n:=by omega
  by_cases y:i=j-1
  ·subst y; exact h
  ·exact lex_trans _ _ _ (u i (j-1) (by omega) (by omega)) h
theorem Down.more{key:Value->List Int}{xs:Array Keyed}{n:Nat}(u:Down key xs n)(hn:1<=n)(h:aD (at' key xs n) (at' key xs (n-1))=true):Down key xs (n+1):=λi j hij hj=>by
 by_cases z:j<n
 ·exact u i j hij z
 ·obtain rfl:j=n:=by omega
  by_cases y:i=j-1
  ·subst y; exact h
  ·exact lex_trans _ _ _ h (u i (j-1) (by omega) (by omega))
section
variable{prog:WZ}{w:W2}{A:Around}{E:WS}{s:WX}{a0:Array Keyed}{key:Value->List Int}
def Cmp(prog:WZ)(w:W2)(A:Around)(s:WX)(key:Value->List Int)(a0:Array Keyed):Prop:=∀(E:WS) (x y:Keyed) (Q:Bool->Shared->Prop),x∈a0.toList->y∈a0.toList->Q (aD (key x.1) (key y.1)) s->wpAny (model prog w) A (keyLt' (tuples' true) x.1 y.1) Q E s
theorem iU{z:SortSt}{i j:Nat}{Q:Option Bool->SortSt->Prop}(C:Cmp prog w A s key a0)(B:Bas key a0 z)(hi:i<a0.size)(hj:j<a0.size)(q:Q (some (aD (at' key (arrOf z) i) (at' key (arrOf z) j))) z) :
  wpS (model prog w) A E s (ltAt' i j) Q z:=by
 have sz:=B.perm.size_eq;have hi':i<(arrOf z).size:=by omega
 have hj':j<(arrOf z).size:=by omega
 have ei:(arrOf z)[i]?=some (arrOf z)[i]:=Zs hi';have ej:(arrOf z)[j]?=some (arrOf z)[j]:=Zs hj';have mem:∀(k:Nat) (hk:k<(arrOf z).size),(arrOf z)[k]∈a0.toList:=λk hk=>(QW.mp B.perm).mem_iff.mp (by simp)
 rw[jj ei,jj ej] at q;rw[ltAt'_eq];refine Z6 (wpS_get (Z6 ?_)); rw[elem'_eq,ei];refine Xx (Z6 ?_); rw[elem'_eq,ej];refine Xx ?_; rw[lt'_eq];refine Z6 (wpS_get (Z6 ?_)); rw[B.kind];exact wpS_lift (XJ (C _ _ _ _ (mem i hi') (mem j hj') ⟨rfl,Xx q⟩))
theorem we{z:SortSt}{a n:Nat}{Q:AscSt->SortSt->Prop}(C:Cmp prog w A s key a0)(B:Bas key a0 z)(D:Diff key a0)(hn:n<=a0.size)(ha:1<=a)(han:a<=n)(u:Up key (arrOf z) a)
  (q:∀m,a<=m->m<=n->Up key (arrOf z) m->(m=n\/aD (at' key (arrOf z) m) (at' key (arrOf z) (m-1))=true)->Q (none,m) z):wpS (model prog w) A E s (ascLoop a n) Q z:=by
 have sz:=B.perm.size_eq;have D':=D.perm B.perm;unfold ascLoop;refine Q7 (λx c y=>y=z/\c=(none,x)/\Up key (arrOf z) x) (λx c y h1 h2=>?_) (λc y=>?_) ⟨rfl,rfl,u⟩
 ·rintro⟨rfl,rfl,ux⟩;refine Z6 (iU C B (by omega) (by omega) ?_)
  cases hb:aD (at' key (arrOf y) x) (at' key (arrOf y) (x-1)) with
  | true=>exact Xx (q x h1 (by omega) ux (.inr hb))
  | false=>exact Xx ⟨rfl,rfl,ux.more (by omega) (D'.or (by omega) (by omega) (by omega) hb)⟩
 ·rintro⟨rfl,rfl,ux⟩;rw[show max a n=n by omega] at ux ⊢;exact q n han (Zm n) ux (.inl rfl)
theorem JT{z:SortSt}{a n:Nat}{Q:DescSt->SortSt->Prop}(C:Cmp prog w A s key a0)(B:Bas key a0 z)(D:Diff key a0)(hn:n<=a0.size)(ha:1<=a)(han:a<=n)(u:Down key (arrOf z) a)
  (q:∀m,a<=m->m<=n->Down key (arrOf z) m->Q (none,m,0) z):wpS (model prog w) A E s (descLoop a n) Q z:=by
 have sz:=B.perm.size_eq;have D':=D.perm B.perm;unfold descLoop;refine Q7 (λx c y=>y=z/\c=(none,x,0)/\Down key (arrOf z) x) (λx c y h1 h2=>?_) (λc y=>?_) ⟨rfl,rfl,u⟩
 ·rintro⟨rfl,rfl,ux⟩;dsimp only;refine Z6 (iU C B (by omega) (by omega) ?_)
  cases hb:aD (at' key (arrOf y) x) (at' key (arrOf y) (x-1)) with
  | true=>exact Xx ⟨rfl,rfl,ux.more (by omega) hb⟩
  | false =>
   refine Z6 (iU C B (by omega) (by omega) ?_);rw[D'.or (by omega) (by omega) (by omega) hb];exact Xx (q x h1 (by omega) ux)
 ·rintro⟨rfl,rfl,ux⟩;rw[show max a n=n by omega] at ux ⊢;exact q n han (Zm n) ux
theorem Bas.put{z:SortSt}(B:Bas key a0 z){xs:Array Keyed}(p:xs.Perm (arrOf z)):Bas key a0 (setArr z xs):=⟨p.trans B.perm,B.kind,B.fail,B.pend⟩
theorem GP{z:SortSt}{m n:Nat}{Q:Option Nat->SortSt->Prop}(C:Cmp prog w A s key a0)(B:Bas key a0 z)(D:Diff key a0)(hn:n<=a0.size)(hm:1<=m)(hmn:m<=n)(u:Down key (arrOf z) m)
  (q:∀k y,Bas key a0 y->1<=k->k<=n->Up key (arrOf y) k->Q (some k) y):wpS (model prog w) A E s (tail3 m n) Q z:=by
 have sz:=B.perm.size_eq;unfold tail3;refine Z6 (wpS_reverse ?_);have B':Bas key a0 (setArr z (mirror (arrOf z) 0 m ((m-0)/2))):=B.put (mirror_perm _ _ _ _);have hz:m<=(arrOf z).size:=by omega
 refine Z6 (we C B' D hn hm hmn (λi j hij hj=>?_) λk h1 h2 h3 _=>Xx (q k _ B' (by omega) h2 h3));show aD (KK (kT key) (mirror (arrOf z) 0 m ((m-0)/2)) i) (KK (kT key) (mirror (arrOf z) 0 m ((m-0)/2)) j)=true;rw[KK_mirror hz,KK_mirror hz,Zf ⟨Xe _,by omega⟩,Zf ⟨Xe _,hj⟩];exact u _ _ (by omega) (by omega)
theorem Dl{z:SortSt}{n:Nat}{Q:Option Nat->SortSt->Prop}(C:Cmp prog w A s key a0)(B:Bas key a0 z)(D:Diff key a0)(hn:n<=a0.size)(h1:1<=n)
  (q:∀k y,Bas key a0 y->1<=k->k<=n->Up key (arrOf y) k->Q (some k) y):wpS (model prog w) A E s (countRun' 0 n) Q z:=by
 rw[countRun0_eq];refine Z6 (we C B D hn (Zm 1) h1 (λi j a b=>by omega) λm hm1 hm2 um hor=>?_);dsimp only
 by_cases e:m=n
 ·rw[Zf (by simpa using e)]; exact Xx (q m z B hm1 hm2 um)
 rw[Zh (by simpa using e)];have hlt:=hor.resolve_left e
 by_cases g:m>1
 ·rw[Zf g];refine Z6 (iU C B (by omega) (by omega) ?_);rw[um 0 (m-1) (by omega) (by omega)];exact Xx (q m z B hm1 hm2 um)
 ·rw[Zh g];obtain rfl:m=1:=by omega
  unfold descPart;refine Z6 (wpS_lift (QA ⟨rfl,Z6 ?_⟩));refine JT C B D hn (by decide) (by omega) (λi j a b=>?_) λk k1 k2 k3=>?_
  ·obtain rfl:i=0:=by omega
   obtain rfl:j=1:=by omega
   exact hlt
  ·show wpS _ _ _ _ (tail3 k n) Q z;exact GP C B D hn (by omega) k2 k3 q
end
end TB

namespace TB
open PySem PyProof.Rows
section
variable{prog:WZ}{w:W2}{A:Around}{E:WS}{s:WX}{a0:Array Keyed}{key:Value->List Int}
theorem Hy{z:SortSt}{k l:Nat}(hk:k<(arrOf z).size)(hl:l<=k)(u:Up key (arrOf z) k)(lo:∀i,i<l->aD (at' key (arrOf z) i) (at' key (arrOf z) k)=true)(hi:∀i,l<=i->i<k->aD (at' key (arrOf z) k) (at' key (arrOf z) i)=true) :
  Up key (bubble (arrOf z) k (k-l)) (k+1):=λi j hij hj=>by
 show aD (KK (kT key) (bubble (arrOf z) k (k-l)) i) (KK (kT key) (bubble (arrOf z) k (k-l)) j)=true;rw[KK_bubble hk (by omega),KK_bubble hk (by omega),show k-(k-l)=l by omega];have u:∀i j,i<j->j<k->aD (KK (kT key) (arrOf z) i) (KK (kT key) (arrOf z) j)=true:=u;have lo:∀i,i<l->aD (KK (kT key) (arrOf z) i) (KK (kT key) (arrOf z) k)=true:=lo;have hi:∀i,l<=i->i<k->aD (KK (kT key) (arrOf z) k) (KK (kT key) (arrOf z) i)=true:=hi
 repeat' split
 all_goals first
  | (exfalso; omega)
  | exact lo _ (by omega)
  | exact hi _ (by omega) (by omega)
  | exact u _ _ (by omega) (by omega)
theorem Dz{z:SortSt}{n ok:Nat}{Q:Bool->SortSt->Prop}(C:Cmp prog w A s key a0)(B:Bas key a0 z)(D:Diff key a0)(hn:n<=a0.size)(hok:ok<=n)(u:Up key (arrOf z) ok)
  (q:∀y,Bas key a0 y->Up key (arrOf y) n->Q true y):wpS (model prog w) A E s (binarySort' 0 n ok) Q z:=by
 rw[binarySort'_eq]; simp only[XV];refine Z6 (wpS_mono (Q7 (λx c y=>c=(none,())/\Bas key a0 y/\Up key (arrOf y) (min x n)) (Q:=λc y=>c=(none,())/\Bas key a0 y/\Up key (arrOf y) n) (λk c y h1 h2=>?_) (λc y=>?_) ⟨rfl,B,λi j a b=>?_⟩) λc y=>?_)
 ·rintro⟨rfl,By,uy⟩;rw[show min k n=k by omega] at uy;have sz:=By.perm.size_eq;have Dy:=D.perm By.perm
  refine Z6 (wpS_mono (Q7 (λx c y'=>y'=y/\∃l r,c=(none,l,r)/\l<=r/\r<=k/\r-l<=k-x/\(∀i,i<l->aD (at' key (arrOf y) i) (at' key (arrOf y) k)=true)/\∀i,r<=i->i<k->aD (at' key (arrOf y) k) (at' key (arrOf y) i)=true)
   (Q:=λc y'=>y'=y/\∃l r,c=(none,l,r)/\l<=k/\(∀i,i<l->aD (at' key (arrOf y) i) (at' key (arrOf y) k)=true)/\∀i,l<=i->i<k->aD (at' key (arrOf y) k) (at' key (arrOf y) i)=true) (λx c y' g1 g2=>?_) (λc y'=>?_) ⟨rfl,0,k,rfl,by omega,by omega,by omega,λi a=>by omega,λi a b=>by omega⟩) λc y'=>?_)
  ·rintro⟨rfl,l,r,rfl,e1,e2,e3,e4,e5⟩;dsimp only
   by_cases g:l ≥ r
   ·rw[Zf g];obtain rfl:l=r:=by omega
    exact Xx ⟨rfl,l,l,rfl,e2,e4,e5⟩
   rw[Zh g];refine Z6 (iU C By (by omega) (by omega) ?_)
   cases hb:aD (at' key (arrOf y') k) (at' key (arrOf y') ((l+r)/2)) with
   | true =>
    refine Xx ⟨rfl,l,(l+r)/2,rfl,by omega,by omega,by omega,e4,λi a b=>?_⟩
    by_cases e:i=(l+r)/2
    ·subst e; exact hb
    ·exact lex_trans _ _ _ hb (uy _ _ (by omega) b)
   | false =>
    have hb':=Dy.or (by omega) (by omega) (by omega) hb;refine Xx ⟨rfl,(l+r)/2+1,r,rfl,by omega,by omega,by omega,λi a=>?_,e5⟩
    by_cases e:i=(l+r)/2
    ·subst e; exact hb'
    ·exact lex_trans _ _ _ (uy i _ (by omega) (by omega)) hb'
  ·rintro⟨rfl,l,r,rfl,e1,e2,e3,e4,e5⟩;obtain rfl:l=r:=by omega
   exact⟨rfl,l,l,rfl,e2,e4,e5⟩
  ·rintro⟨rfl,l,r,rfl,e2,e4,e5⟩;refine Z6 (show wpS _ _ _ _ (moveDown' k l) _ y' from ?_);rw[moveDown'_eq];refine wpS_modify (Xx ⟨rfl,By.put (bubble_perm _ _ _),?_⟩);rw[show min (k+1) n=k+1 by omega];exact Hy (by omega) e2 uy e4 e5
 ·rintro⟨rfl,By,uy⟩;rw[show min (max (max ok 1) n) n=n by omega] at uy;exact⟨rfl,By,uy⟩
 ·exact u i j a (by omega)
 ·rintro⟨rfl,By,uy⟩;exact Xx (q y By uy)
def Fin'(key:Value->List Int)(a0:Array Keyed)(z:SortSt):Prop:=(arrOf z).Perm a0/\failedOf z=none/\pendingOf z=#[(0,a0.size,0)]/\Up key (arrOf z) a0.size
theorem Bas.fin{z:SortSt}(B:Bas key a0 z)(u:Up key (arrOf z) a0.size):Fin' key a0 (setPending z ((pendingOf z).push (0,a0.size,0))):=⟨B.perm,B.fail,by show(pendingOf z).push _=_; rw[B.pend]; rfl,u⟩
theorem Iu{z:SortSt}{Q:Unit->SortSt->Prop}(C:Cmp prog w A s key a0)(B:Bas key a0 z)(D:Diff key a0)(h2:2<=a0.size)(h6:a0.size<64)(q:∀y,(arrOf y).Perm a0->failedOf y=none->Up key (arrOf y) a0.size->Q () y) :
  wpS (model prog w) A E s sortRuns' Q z:=by
 rw[sortRuns'_eq];refine Z6 (wpS_get ?_);dsimp only
 have hm:minRun' a0.size a0.size 0=a0.size:=by
  obtain⟨f,e⟩:∃f,a0.size=f+1:=⟨a0.size-1,by omega⟩
  conv=>lhs; arg 1; rw[e]
  rw[minRun'_succ,Zf h6]; rfl
 simp only[B.perm.size_eq,hm];refine Z6 (wpS_mono (Q7 (λx c y=>(x=0/\c=(none,0)/\Bas key a0 y)\/(1<=x/\c=(none,a0.size)/\Fin' key a0 y)) (Q:=λc y=>c=(none,a0.size)/\Fin' key a0 y) (λx c y _ h1=>?_) (λc y=>?_) (.inl ⟨rfl,rfl,B⟩)) λc y=>?_)
 ·have last:∀y:SortSt,Bas key a0 y->Up key (arrOf y) a0.size->(pendingOf y).back?=none:=λy By _=>by rw[By.pend]; rfl
  rintro(⟨rfl,rfl,By⟩|⟨_,rfl,Fy⟩)
  ·dsimp only;rw[Zh (by omega)]; simp only[Wt,Nat.min_self,XV];refine Z6 (Dl C By D (Zm _) (by omega) λm y2 B2 m1 m2 u2=>?_);dsimp only
   by_cases e:m<a0.size
   ·rw[Zf e];refine Z6 (wpS_lift (QA ⟨rfl,Z6 (Dz C B2 D (Zm _) m2 u2 λy3 B3 u3=>?_)⟩));simp only[Qr,Zu,ZM];refine Z6 (wpS_get ?_); rw[last y3 B3 u3];exact Z6 (wpS_modify (Xx (.inr ⟨by omega,rfl,B3.fin u3⟩)))
   ·rw[Zh e];obtain rfl:m=a0.size:=by omega
    refine Z6 (wpS_get ?_); rw[last y2 B2 u2];exact Z6 (wpS_modify (Xx (.inr ⟨by omega,rfl,B2.fin u2⟩)))
  ·dsimp only;rw[Zf (Zm _)]; exact Xx ⟨rfl,Fy⟩
 ·rintro(⟨h,_,_⟩|⟨_,h,Fy⟩)
  ·omega
  ·exact⟨h,Fy⟩
 ·rintro⟨rfl,Fy⟩;dsimp only;refine Z6 (wpS_mono (Q7 (λ_ c y'=>y'=y/\c=(none,())) (Q:=λc y'=>y'=y/\c=(none,())) (λx c y' _ _=>?_) (λ_ _ h=>h) ⟨rfl,rfl⟩) λc y'=>?_)
  ·rintro⟨rfl,rfl⟩;refine Z6 (wpS_get ?_); rw[Zf (by rw[Fy.2.2.1]; exact Zm 1)];exact Xx ⟨rfl,rfl⟩
  ·rintro⟨rfl,rfl⟩;exact Xx (q _ Fy.1 Fy.2.1 Fy.2.2.2)
end
end TB

namespace TB
open PySem PyProof.Rows
section
variable{prog:WZ}{w:W2}{A:Around}{E:WS}{s:WX}{key:Value->List Int}
theorem om{vs:WW}{p:Keyed}(h:p∈(pairsOf vs).toList):p.2=p.1/\p.1∈vs:=by
 rw[pairsOf_toList] at h;obtain⟨i,hi⟩:=ZP h;rw[List.getElem?_zip_eq_some] at hi;exact⟨Z1 (hi.2.symm.trans hi.1),ZD hi.1⟩
theorem yo(vs:WW):(pairsOf vs).toList.map (·.2)=vs:=by
 rw[pairsOf_toList];exact List.map_snd_zip (Zm _)
theorem Dd(vs:WW)(f:Value->List Int):(pairsOf vs).toList.map (λp=>f p.1)=vs.map f:=by
 rw[pairsOf_toList,show(λp:Value×Value=>f p.1)=f∘Prod.fst from rfl,<- Xr,List.map_fst_zip (Zm _)]
theorem ug{a:Addr}{vs:WW}{n:Nat}{P:Fin->Shared->Prop}(ho:s.heap.get? a=some (seqObj "list" vs.toArray n))(hv:∀v∈vs,∃c,v=.ref c/\TK prog w s.heap (key v) c/\key v≠[])(hd:(vs.map key).Nodup)(h6:vs.length<64)
  (q:∀out:List Value,out.Perm vs->(out.map key).Pairwise (λx y=>aD x y=true)->P (.done (.ret .none)) { s with heap:=sortedHeap s.heap a vs out.toArray }):wpAny (model prog w) A (Builtin.«list.sort» ⟨[.ref a],[]⟩) P E s:=by
 have hal:a<s.heap.objs.size:=Zp ho;rw[list_sort_plain];refine Za (Q6 ho rfl (Za (listUpdate_at ho rfl ?_)));obtain⟨e1,ho1⟩:∃e1,(s.heap.update a (Obj.mapSeq λ_=>#[])).get? a=some (seqObj "list" #[] e1):=⟨_,get?_update_seq ho λ_=>#[]⟩
 refine Za (seqEpoch_at ho1 rfl (Za (wpAny_newTuple (Za (wpAny_newList (Xg ?_))))))
 have ot:∀b o,b≠a->s.heap.get? b=some o->(((s.heap.update a (Obj.mapSeq λ_=>#[])).push (seqObj "tuple" vs.toArray 0)).push (seqObj "list" #[] 0)).get? b=some o:=λb o hb e =>
  Zg _ (Zg _ ((QI _ _ (Ne.symm hb)).trans e))
 have ho6:(((s.heap.update a (Obj.mapSeq λ_=>#[])).push (seqObj "tuple" vs.toArray 0)).push (seqObj "list" #[] 0)).get? a=some (seqObj "list" #[] e1):=Zg _ (Zg _ ho1)
 have fin:∀y:SortSt,(arrOf y).Perm (pairsOf vs)->Up key (arrOf y) (pairsOf vs).size->P (.done (.ret .none)) { s with heap:=sortedHeap s.heap a vs ((arrOf y).map (·.2)) }:=λy py uy=>by
  have pl:=QW.mp py;have h1:=q ((arrOf y).map (·.2)).toList (by rw[Array.toList_map]; exact(pl.map _).trans (by rw[yo])) ?_
  ·rw[Array.toArray_toList] at h1; exact h1
  ·rw[Array.toList_map,Xr];refine WL.mpr (Qt.mpr λi j hi hj hij=>?_);have hi2:i<(arrOf y).size:=by rw[ZE] at hi; exact hi
   have hj2:j<(arrOf y).size:=by rw[ZE] at hj; exact hj
   have m:∀(k:Nat) (hk:k<(arrOf y).size),key (arrOf y)[k].2=at' key (arrOf y) k:=λk hk=>by
    rw[jj (Zs hk),(om (pl.mem_iff.mp (by simp))).1]
   have:=uy i j hij (by rw[<- py.size_eq]; exact hj2);show aD (key (arrOf y).toList[i].2) (key (arrOf y).toList[j].2)=true;rw[X4,X4,m i hi2,m j hj2];exact this
 dsimp only;have lin:∀y:SortSt,(arrOf y).Perm (pairsOf vs)->((arrOf y).map (·.2)).size<=sizeLine+1:=λy py=>by rw[Array.size_map,py.size_eq,pairsOf_size,XS]; omega
 by_cases h2:vs.toArray.size<2
 ·rw[Zf h2,Zf h2];refine Za (Zc ?_); rw[StateT.run_pure];refine Za (Zc ?_);dsimp only;refine Za (seqEpoch_at ho6 rfl (Za (listUpdate_at ho6 rfl ?_ (hsz2:=lin (SortSt.mk' general' (pairsOf vs) #[] 7 none) (Array.Perm.refl _)))));simp only[QK,Zu,ZM];refine Zc (fin (SortSt.mk' general' (pairsOf vs) #[] 7 none) (Array.Perm.refl _) λi j hij hj=>?_);rw[pairsOf_size] at hj; rw[Zk] at h2; omega
 ·rw[Zh h2,Zh h2];have hne:vs≠[]:=λz=>h2 (by rw[z]; decide)
  have hv6:∀v∈vs,∃c,v=.ref c/\TK prog w (((s.heap.update a (Obj.mapSeq λ_=>#[])).push (seqObj "tuple" vs.toArray 0)).push (seqObj "list" #[] 0)) (key v) c/\key v≠[]:=λv m=>by
   obtain⟨c,e,x,y⟩:=hv v m;refine⟨c,e,?_,y⟩;obtain⟨oc,its,k,x1,x2,x3⟩:=x;refine⟨oc,its,k,ot c oc (λz=>?_) x1,x2,x3⟩;rw[z,ho] at x1;cases x1;exact absurd (Value.type.inj (show Value.type "list" = .type "tuple" from x2)) (by decide)
  refine Za (AR hne (λv m=>let⟨c,e,x,y⟩:=hv6 v m; ⟨_,c,e,x,y⟩) ?_)
  have C:Cmp prog w A { s with heap:=((s.heap.update a (Obj.mapSeq λ_=>#[])).push (seqObj "tuple" vs.toArray 0)).push (seqObj "list" #[] 0) } key (pairsOf vs):=λE x y Q mx my qq=>by
   obtain⟨c,ex,kx,_⟩:=hv6 _ (om mx).2;obtain⟨d,ey,ky,_⟩:=hv6 _ (om my).2;generalize x.1=vx at ex kx qq ⊢;generalize y.1=vy at ey ky qq ⊢;subst ex; subst ey;exact xG kx ky qq
  have D:Diff key (pairsOf vs):=by unfold Diff; rw[Dd]; exact hd
  refine Za (XL (Iu (z:=SortSt.mk' (tuples' true) (pairsOf vs) #[] 7 none) (Q:=λ_ y=>(arrOf y).Perm (pairsOf vs)/\failedOf y=none/\Up key (arrOf y) (pairsOf vs).size) C ⟨Array.Perm.refl _,rfl,rfl,rfl⟩ D (by rw[pairsOf_size]; rw[Zk] at h2; omega) (by rw[pairsOf_size]; exact h6) λy a1 a2 a3=>⟨a1,a2,a3⟩) ?_ λ_ _ e=>e);rintro⟨⟨⟩,y⟩ z ⟨rfl,py,fy,uy⟩;dsimp only;refine Za (seqEpoch_at ho6 rfl (Za (listUpdate_at ho6 rfl ?_ (hsz2:=lin y py))));rw[fy];simp only[QK,Zu,ZM];exact Zc (fin y py uy)
end
end TB

namespace TB
open PySem PyProof.Rows
open Classical in
noncomputable def cN(prog:WZ)(w:W2)(h:Heap):Value->List Int
 | .ref c=>if x:∃ks,TK prog w h ks c then x.choose else[]
 | _=>[]
section
variable{prog:WZ}{w:W2}{A:Around}{E:WS}{s:WX}
open Classical in
theorem ie{h:Heap}{ks:WU}{c:Addr}(x:TK prog w h ks c):cN prog w h (.ref c)=ks:=by
 have hx:∃ks,TK prog w h ks c:=⟨ks,x⟩
 show(if x:∃ks,TK prog w h ks c then x.choose else[])=ks;rw[dif_pos hx];exact IsTupleKey.inj hx.choose_spec x
theorem rL{h:Heap}:∀{l:List (Int×Value)} {L:WY},Els prog w h l L->(l.map (·.2)).map (cN prog w h)=L
 | _,_,.nil=>rfl
 | _,_,.cons ⟨_,b,e,x⟩ r=>by
  rw[ZI,ZI,rL r,e,ie x]
theorem uc{h:Heap}:∀{l:List (Int×Value)} {L:WY},Els prog w h l L->∀v∈l.map (·.2),∃c,v=.ref c/\TK prog w h (cN prog w h v) c/\cN prog w h v∈L
 | _,_,.nil,v,hv=>by cases hv
 | _,_,.cons ⟨_,b,e,x⟩ r,v,hv=>by
  rw[ZI] at hv;rcases Zx.mp hv with z|z
  ·rw[e] at z;subst z;exact⟨b,rfl,by rw[ie x]; exact x,by rw[ie x]; exact Zo⟩
  ·obtain⟨c,e1,e2,e3⟩:=uc r v z;exact⟨c,e1,e2,Zr _ e3⟩
def zZ(prog:WZ)(w:W2)(h:Heap)(lim:Addr->Prop)(R:Addr)(ks:WY):Prop:=∃out:List Value,∃n,h.get? R=some (seqObj "list" out.toArray n)/\out.length=ks.length/\∀(i:Nat) v k,out[i]?=some v->ks[i]?=some k->∃c,v=.ref c/\c≠R/\lim c/\TK prog w h k c
theorem Bm{S:Addr}{lim:Addr->Prop}{L:WY}{Q:WS}(hh:A.handled=none)(x:cI prog w lim s.heap S L)(hne:∀ks∈L,ks≠[])
  (q:∀h' tk R ks,s.heap.objs.size<=R->zZ prog w h' lim R ks->ks.Pairwise (λa b=>aD a b=true)->(∀y,y∈ks ↔ y∈L)->(∀b o,b<s.heap.objs.size->s.heap.get? b=some o->h'.get? b=some o)->Q (.ref R) { s with heap:=h',toks:=tk }) :
  wpAny (model prog w) A (call (.builtin "sorted") [.ref S]) Q E s:=by
 obtain⟨o,es,ep,t,ho,hex,hd,g,⟨hp,hl⟩,hsz,hels,hnd,hlim⟩:=x;have hfit:es.size<=t.mask:=by rcases g.msk with z|z<;>omega
 have X:Fix w o es ep t:=⟨hd,g,hp,hl,hfit⟩
 obtain⟨L1,x1,y1⟩:=Els.perm (lF w S ep es) hels;refine Calls.call_function_entry kind_sorted plain_sorted entry_sorted (args_sorted1 _) ?_;unfold Builtin.«sorted»;refine Za (m:=checkCount "sorted" 1 1 _) (Zc ?_);refine Za (Ew (by simpa using hh) ho hex X λh1 tk hle k1=>?_);have hlen:(ck w S ep es).toList.length=es.size:=by rw[ZE,je]
 have he18:es.size<=18:=by rcases g.msk with z|z<;>omega
 generalize hvs:(ck w S ep es).toList.map (·.2)=vs;have hvl:vs.length=es.size:=by rw[<- hvs,Zb,hlen]
 have hkeys:vs.map (cN prog w s.heap)=L1:=by rw[<- hvs]; exact rL x1
 have hvals:∀v∈vs,∃c,v=.ref c/\TK prog w s.heap (cN prog w s.heap v) c/\cN prog w s.heap v∈L1:=by rw[<- hvs]; exact uc x1
 have up:∀{ks:WU} {c:Addr},TK prog w s.heap ks c->TK prog w h1 ks c/\c<s.heap.objs.size:=λ{ks c} z=>by
  obtain⟨oc,its,m,z1,z2⟩:=z;exact⟨⟨oc,its,m,k1 c oc (Zp z1) z1,z2⟩,Zp z1⟩
 refine Za (wpAny_newList ?_);have gR:(h1.push (seqObj "list" vs.toArray 0)).get? h1.objs.size=some (seqObj "list" vs.toArray 0):=Zw _ rfl;refine Za (Xg (ZT slot_list_sort ⟨_,gR,rfl⟩ entry_list_sort (ug (s:={ s with heap:=h1.push (seqObj "list" vs.toArray 0),toks:=tk }) (key:=cN prog w s.heap) gR (λv m=>?_) (by rw[hkeys]; exact y1.nodup_iff.mpr hnd) (by omega) λout po so=>⟨_,rfl,?_⟩) (args_list_sort _)))
 ·obtain⟨c,e,z,m2⟩:=hvals v m;refine⟨c,e,fm (up z).1 λoc e=>Zg _ e,hne _ (y1.mem_iff.mp m2)⟩
 ·refine Zc ⟨_,rfl,?_⟩
  have old:∀b o,b<s.heap.objs.size->s.heap.get? b=some o->(sortedHeap (h1.push (seqObj "list" vs.toArray 0)) h1.objs.size vs out.toArray).get? b=some o:=λb o hb e =>
   (sortedHeap_old (ZF (Qj hb hle)) (by rw[Xw]; exact X7 (Qj hb hle))).trans (Zg _ (k1 b o hb e))
  obtain⟨n,hn⟩:=sortedHeap_at (vs:=vs) (out:=out.toArray) gR;refine q _ tk h1.objs.size (out.map (cN prog w s.heap)) (Qi hle) ⟨out,n,hn,(Zb _).symm,λi v k e1 e2=>?_⟩ so (λy=>?_) old
  ·rw[ZL,e1] at e2;have mv:=po.mem_iff.mp (ZD e1);obtain⟨c,e,z,_⟩:=hvals v mv
   have hc:lim c:=by
    rw[<- hvs] at mv;obtain⟨en,m1,m2⟩:=ZA.mp mv;exact hlim en ((lF w S ep es).mem_iff.mp m1) c (m2.trans e)
   have e3:cN prog w s.heap v=k:=Z1 e2;rw[e3] at z;exact⟨c,e,ZF (Qj (up z).2 hle),hc,fm z λoc e=>old c oc (Zp e) e⟩
  ·rw[(po.map _).mem_iff,hkeys];exact y1.mem_iff
end
end TB

namespace TB
open PySem PyProof.Rows
section
variable{prog:WZ}{w:W2}{A:Around}{E:WS}{s:WX}{l:Addr}{vs:WW}{T:String}
def Sq2(h:Heap)(l:Addr)(vs:WW):Prop:=∃T o n,(T = "list"\/T = "tuple")/\h.get? l=some o/\o.cls=.type T/\o.data=.seq vs.toArray n
noncomputable def h_(h:Heap)(vs:WW):Heap:=(h.push (seqObj "list" #[] 0)).update h.objs.size (Obj.mapSeq (·++vs.toArray))
noncomputable def jM(h:Heap)(vs:WW):Heap:=(h_ h vs).push (seqObj "list" vs.toArray 0)
theorem gather{Q:List Value->Shared->Prop}(x:Sq2 s.heap l vs)(hz:vs.length<=sizeLine)(q:Q vs { s with heap:=h_ s.heap vs }):wpAny (model prog w) A (collect (.ref l)) Q E s:=by
 obtain⟨T,o,n,hT,e1,e2,e3⟩:=x;unfold collect;apply Za; apply wpAny_runValue; apply Xq entry_proto_collect';show wpAny _ _ (do again (.builtin "list.__iadd__" ⟨[<- newList [],.ref l],[]⟩)) _ _ s;apply Za; refine wpAny_newList ?_ (Xe _); apply Zc;refine⟨Q5 _ (by decide +kernel),?_⟩;apply Xq entry_list_iadd';show wpAny _ _ (Builtin.List.listExtendWith (.ref s.heap.objs.size) (.ref l) (.ref s.heap.objs.size)) _ _ { s with heap:=s.heap.push (seqObj "list" #[] 0) };unfold Builtin.List.listExtendWith;have e4:(s.heap.push (seqObj "list" #[] 0)).get? l=some o:=Zg _ e1;have e5:(s.heap.push (seqObj "list" #[] 0)).get? s.heap.objs.size=some (seqObj "list" #[] 0):=Zw _ rfl;refine Za (XT (T:=T) ⟨o,e4,e2⟩ ?_)
 have e7:∀b:Bool,(b||Value.type T==Value.type "list"||Value.type T==Value.type "tuple")=true:=λb=>by
  rcases hT with rfl|rfl
  ·rw[show(Value.type "list"==Value.type "list")=true from rfl,WR,Bool.true_or]
  ·rw[show(Value.type "tuple"==Value.type "tuple")=true from rfl,WR]
 rw[Zf (e7 _)];refine Za (Q6 e4 e3 ?_);refine Za (Q6 e5 rfl ?_);rw[Zh (by simp)];refine Za (listUpdate_at e5 rfl ?_ (Xe _) ?_)
 ·refine Zc ?_
  show wpAny (model prog w) A (do
    let o <- load s.heap.objs.size
    match o.data with
    | .seq xs _=>pure xs.toList
    | _=>unsupported "internal:collect") Q E { s with heap:=h_ s.heap vs }
  refine Za (wpAny_load (get?_update_seq e5 _) ?_);show wpAny _ _ (pure ((#[]:Array Value)++vs.toArray).toList) Q E _;have e6:((#[]:Array Value)++vs.toArray).toList=vs:=by simp
  rw[e6];exact Zc q
 ·show(#[]++vs.toArray).size<=sizeLine+1;simp only[Array.size_append,Zk,Xh];omega
theorem pN(h:Heap)(vs:WW):(h_ h vs).objs.size=h.objs.size+1:=by unfold h_; rw[Heap.size_update,size_push']
theorem nQ(h:Heap)(vs:WW):(jM h vs).get? (h.objs.size+1)=some (seqObj "list" vs.toArray 0):=by rw[<- pN h vs]; exact Zw _ rfl
theorem C4{h:Heap}{vs:WW}{b:Addr}{o:Obj}(e:h.get? b=some o):(jM h vs).get? b=some o:=by
 have hb:b≠h.objs.size:=ZF (Zp e);refine Zg _ ?_;unfold h_;rw[Heap.get?_update_ne _ _ _ _ hb];exact Zg _ e
theorem vM{R:List Value->Prop}{Q:WS}(x:Sq2 s.heap l vs)(hz:vs.length<=sizeLine)
  (k:∀(A':Around) (E':WS) (P:Fin->Shared->Prop),(∀out:List Value,R out->P (.done (.ret .none)) { s with heap:=sortedAll s.heap vs out.toArray })->wpAny (model prog w) A' (Builtin.«list.sort» ⟨[.ref (s.heap.objs.size+1)],[]⟩) P E' { s with heap:=jM s.heap vs })
  (q:∀out:List Value,R out->Q (.ref (s.heap.objs.size+1)) { s with heap:=sortedAll s.heap vs out.toArray }):wpAny (model prog w) A (call (.builtin "sorted") [.ref l]) Q E s:=by
 apply Calls.call_function_entry kind_sorted plain_sorted entry_sorted (args_sorted1 _);unfold Builtin.«sorted»;apply Za (m:=checkCount "sorted" 1 1 _); apply Zc;refine Za (gather x hz ?_);apply Za; refine wpAny_newList ?_ hz;show wpAny _ _ _ _ _ { s with heap:=jM s.heap vs };rw[pN];refine Za (Xg (ZT slot_list_sort ⟨_,nQ _ _,rfl⟩ entry_list_sort (k _ _ _ λout ro=>⟨_,rfl,?_⟩) (args_list_sort _)));exact Zc ⟨_,rfl,q out ro⟩
theorem G7{ns:WU}{Q:WS}(x:Sq2 s.heap l vs)(hI:IntsAre vs ns)(h6:vs.length<64)
  (q:∀(out:WW) (ns':WU),IntsAre out ns'->ns'.Perm ns->ns'.Pairwise (·<=·)->Q (.ref (s.heap.objs.size+1)) { s with heap:=sortedAll s.heap vs out.toArray }):wpAny (model prog w) A (call (.builtin "sorted") [.ref l]) Q E s :=
 vM (R:=λout=>∃ns',IntsAre out ns'/\ns'.Perm ns/\ns'.Pairwise (·<=·)) x (by rw[XS]; omega)
  (λA' E' P h=>list_sort_tree (nQ _ _) hI h6 λout ns' a1 a2 a3=>h out.toList ⟨ns',a1,a2,a3⟩)
  λout ⟨ns',a1,a2,a3⟩=>q out ns' a1 a2 a3
theorem DF{key:Value->List Int}{Q:WS}(x:Sq2 s.heap l vs)(hv:∀v∈vs,∃c,v=.ref c/\TK prog w s.heap (key v) c/\key v≠[])(hd:(vs.map key).Nodup)(h6:vs.length<64)
  (q:∀out:List Value,out.Perm vs->(out.map key).Pairwise (λx y=>aD x y=true)->Q (.ref (s.heap.objs.size+1)) { s with heap:=sortedAll s.heap vs out.toArray }):wpAny (model prog w) A (call (.builtin "sorted") [.ref l]) Q E s :=
 vM (R:=λout=>out.Perm vs/\(out.map key).Pairwise (λx y=>aD x y=true)) x (by rw[XS]; omega)
  (λA' E' P h=>ug (nQ _ _) (λv m=>let⟨c,e,t,n⟩:=hv v m; ⟨c,e,fm t λoc e=>C4 e,n⟩) hd h6 λout a1 a2=>h out ⟨a1,a2⟩)
  λout ⟨a1,a2⟩=>q out a1 a2
end
end TB

namespace ENM
open PySem PyProof.Rows
open AutoSeq1 (wpAny_loadPart')
section
variable{prog:WZ}{w:W2}{A:Around}{E:WS}{s:WX}
variable{ta tb:Bool}{c pI pO i j a b:Addr}{m n:Nat}{us vs:W5}{u v old1 old2:Value}
end
end ENM
namespace L2
open PySem PySem.Spec PyProof.Rows ENM
section
variable{X:Cx}
end
end L2

namespace L2
open PySem PySem.Spec PyProof.Rows
def bM(h:Heap)(d:Addr)(es:Array DictEntry)(ep:Nat):Prop:=∃o,h.get? d=some o/\o.ExactDict/\o.data=.dict es ep
section
variable{prog:WZ}{w:W2}{A:Around}{E:WS}{s:WX}{d it:Addr}{es:Array DictEntry}{ep i:Nat}
theorem bM.typeIs(x:bM s.heap d es ep):s.TypeIs (.ref d) "dict":=by
 obtain⟨o,ho,hx,_⟩:=x;exact⟨o,ho,hx.1⟩
theorem Ag{Q:WS}(hd:(d==sysModules)=false)(hm:bM s.heap d es ep)
  (hQ:Q (.ref s.heap.objs.size) { s with heap:=s.heap.push { cls:=.type "dict_keyiterator",data:=.fields #[.ref d,.int 0 0,.int es.size 0,.int ep 0] } }):wpAny (model prog w) A (pyIter (.ref d)) Q E s:=by
 have hT:=hm.typeIs;obtain⟨o,ho,hx,hdat⟩:=hm;refine Wf hT F.slot_dict_iter (ZT F.slot_dict_iter hT F.entry_dict_iter ?_ (F.args_dict_iter_1 _));have hs:Builtin.Dict.showsAll d=pure ():=by unfold Builtin.Dict.showsAll; rw[Zh (by rw[hd]; exact Zz)]
 refine Za (Za (Wm hT (Zc ?_)));show wpAny _ _ (Builtin.Dict.showsAll d>>=_) _ _ s;rw[hs];refine Za (Zc (Za (wpAny_dictEntries ho hdat (Za (wpAny_dictEpoch ho hdat ?_)))));exact Za (Z0 (Zc ⟨_,rfl,"dict_keyiterator",_,⟨_,Zw _ rfl,rfl⟩,F.slot_dict_keyiterator_next.lookup,hQ⟩))
open PySem.W (Looks)
theorem p6{M:Model}{h:Heap}{a:Addr}{o:Obj}{vs:W5}(ho:h.get? a=some o)(hd:o.data=.fields vs):Looks M h (fieldsOf (.ref a)) vs:=λA Q E s k q=>wpAny_fieldsOf (k _ _ ho) hd q
theorem v7{M:Model}{h:Heap}(x:bM h d es ep):Looks M h (dictEntries d) es:=λA Q E s k q=>let⟨o,ho,_,hd⟩:=x; wpAny_dictEntries (k _ _ ho) hd q
theorem qN{M:Model}{h:Heap}(x:bM h d es ep):Looks M h (dictEpoch d) ep:=λA Q E s k q=>let⟨o,ho,_,hd⟩:=x; wpAny_dictEpoch (k _ _ ho) hd q
theorem rW{nm:String}{A':Around}{R:Fin->Shared->Prop}{E':WS}{x:Value}(o:Obj)(ho:s.heap.get? it=some o)(hd:o.data=.fields #[.ref d,.int i 0,.int es.size 0,.int ep 0])(hm:bM s.heap d es ep)(hi:i<es.size)
  (hB:nm = "dict_keyiterator"/\x=es[i].key\/nm = "dict_valueiterator"/\x=es[i].val)
  (LN:∀h':Heap,(∃o',h'.get? it=some o'/\o'.cls=o.cls)->Looks (model prog w) h' (typeNameOfWhole (.ref it)) nm)
  (LO:∀(h':Heap) (types:List String),(∃o',h'.get? it=some o'/\o'.cls=o.cls)->Looks (model prog w) h' (Builtin.Dict_items.isOneOf (.ref it) types) (types.any λt=>[Value.type nm,Value.type "object"].contains (.type t)))
  (hQ:R (.done (.ret x)) { s with heap:=s.heap.update it (Obj.mapFields (·.setIfInBounds 1 (rawInt ((i:Int)+1)))) }) :
  (nm = "dict_keyiterator"->wpAny (model prog w) A' (Builtin.«dict_keyiterator.__next__» ⟨[.ref it],[]⟩) R E' s)/\(nm = "dict_valueiterator"->wpAny (model prog w) A' (Builtin.«dict_valueiterator.__next__» ⟨[.ref it],[]⟩) R E' s):=by
 have L1:=p6 (M:=model prog w) ho hd;have L2:=v7 (M:=model prog w) hm;have L3:=qN (M:=model prog w) hm;have L4:=LN s.heap ⟨o,ho,rfl⟩;have L5:=λty=>LO s.heap ty ⟨o,ho,rfl⟩
 have L6:=λty=>LO (s.heap.update it (Obj.mapFields (·.setIfInBounds 1 (rawInt ((i:Int)+1))))) ty ⟨_,Xn _ ho (QN (XZ hd _)),Wd ..⟩
 obtain⟨h0,g,dr,tk,os⟩:=s;have h0':¬((i:Int)<0):=by omega
 refine⟨λhn=>?_,λhn=>?_⟩<;>subst hn
 all_goals
  refine Za (Zc (Za (Za (Za (L4.at (Zc (Za (L1.at ?_))))))));simp only[show Builtin.Dict_items.ownsTuple "dict_keyiterator" = false from by decide,show Builtin.Dict_items.ownsTuple "dict_valueiterator" = false from by decide,Zu,ZM];show wpAny _ _ (if(Value.ref d==Value.none)=true then _ else _) _ _ _;rw[Zh (show ¬((Value.ref d==Value.none)=true) from Zz)];refine Za (Zc (Za (L2.at ?_)));rw[Zh (by simp)];refine Za (Zc (Za (L3.at ?_)));rw[Zh (by simp)];refine Zc ?_;simp only[h0',ZM,Z5,Zs hi];refine Za (Za (L4.at (Zc (Za ((L5 _).at ?_)))));refine Za (Qu ho hd (by simp[show Builtin.Dict_items.ownsTuple "dict_keyiterator" = false from by decide,show Builtin.Dict_items.ownsTuple "dict_valueiterator" = false from by decide]) ?_);refine Za (Xg ?_);rcases hB with⟨hb,rfl⟩|⟨hb,rfl⟩
  all_goals first|exact absurd hb (by decide)|exact Za ((L6 _).at (Zc (Zc hQ)))|exact Za ((L6 _).at (Za ((L6 _).at (Zc (Zc hQ)))))
theorem rG{nm:String}{A':Around}{R:Fin->Shared->Prop}{E':WS}(hh:A'.handled=none)(o:Obj)(ho:s.heap.get? it=some o)(hd:o.data=.fields #[.ref d,.int i 0,.int es.size 0,.int ep 0])(hm:bM s.heap d es ep)(hi:es.size<=i)
  (LN:Looks (model prog w) s.heap (typeNameOfWhole (.ref it)) nm)
  (hQ:∀e h',Heap.ExtBut it s.heap h'->({ s with heap:=h' }:Shared).TypeIs e "StopIteration"->E' e { s with heap:=h' }) :
  (nm = "dict_keyiterator"->wpAny (model prog w) A' (Builtin.«dict_keyiterator.__next__» ⟨[.ref it],[]⟩) R E' s)/\(nm = "dict_valueiterator"->wpAny (model prog w) A' (Builtin.«dict_valueiterator.__next__» ⟨[.ref it],[]⟩) R E' s):=by
 have L1:=p6 (M:=model prog w) ho hd;have L2:=v7 (M:=model prog w) hm;have L3:=qN (M:=model prog w) hm;obtain⟨h0,g,dr,tk,os⟩:=s;have h0':¬((i:Int)<0):=by omega
 refine⟨λhn=>?_,λhn=>?_⟩<;>subst hn
 all_goals
  refine Za (Zc (Za (Za (Za (LN.at (Zc (Za (L1.at ?_))))))));simp only[show Builtin.Dict_items.ownsTuple "dict_keyiterator" = false from by decide,show Builtin.Dict_items.ownsTuple "dict_valueiterator" = false from by decide,Zu,ZM];show wpAny _ _ (if(Value.ref d==Value.none)=true then _ else _) _ _ _;rw[Zh (show ¬((Value.ref d==Value.none)=true) from Zz)];refine Za (Zc (Za (L2.at ?_)));rw[Zh (by simp)];refine Za (Zc (Za (L3.at ?_)));rw[Zh (by simp)];refine Zc ?_;simp only[h0',ZM,Z5,Qg hi];refine Za (Za (LN.at (Zc ?_)));refine Za (Qu ho hd (by simp[show Builtin.Dict_items.ownsTuple "dict_keyiterator" = false from by decide,show Builtin.Dict_items.ownsTuple "dict_valueiterator" = false from by decide]) ?_);refine Za ?_;simp only[newExc,newTuple];refine Za (Z0 ?_ (by size_fits));refine Za (m:=firstArgMember _ _) (Xz (a:=Value.none) (by first|rfl|(simp only[firstArgMember]; rfl)) ?_);refine Z0 ?_ (by size_fits);simp only[raiseNew];refine Za (wpAny_handled ?_);rw[hh];exact Za (Zc (wpAny_throw (hQ (.ref _) _ (((Xl ..).extBut.push _).push _) ⟨_,Zw _ rfl,rfl⟩)))
theorem yF{Q:Option Value->Shared->Prop}(hit:s.heap.IsKeyIter it d i es.size ep)(hm:bM s.heap d es ep)(hi:i<es.size)
  (hQ:∀h',h'.IsKeyIter it d (i+1) es.size ep->Heap.SameBut it s.heap h'->Q (some es[i].key) { s with heap:=h' }):wpAny (model prog w) A (pyNext (.ref it)) Q E s:=by
 obtain⟨o,ho,hc,hd⟩:=id hit;unfold pyNext
 refine Za (XJ (ZY (name:=Str.ofString "__next__") hit.typeIs Qf
  (ZT Qf hit.typeIs F.entry_dict_keyiterator_next ?_ (F.args_dict_keyiterator_next_1 _))))
 refine(rW (nm:="dict_keyiterator") o ho hd hm hi (.inl ⟨rfl,rfl⟩) (λh' ⟨o',g1,g2⟩ A Q E s k q=>wpAny_typeNameOfWhole_keyiter ⟨o',k _ _ g1,g2.trans hc⟩ q) (λh' ty ⟨o',g1,g2⟩ A Q E s k q=>wpAny_isOneOf_keyiter ⟨o',k _ _ g1,g2.trans hc⟩ q) ?_).1 rfl;exact⟨_,rfl,Zc (hQ _ ⟨_,Xn _ ho (QN (XZ hd _)),(Wd ..).trans hc,by rw[XZ hd]; simp[rawInt]⟩ (Xl ..))⟩
theorem BY{Q:Option Value->Shared->Prop}(hh:A.handled=none)(hit:s.heap.IsKeyIter it d i es.size ep)(hm:bM s.heap d es ep)(hi:es.size<=i)
  (hQ:∀h',Heap.ExtBut it s.heap h'->Q none { s with heap:=h' }):wpAny (model prog w) A (pyNext (.ref it)) Q E s:=by
 obtain⟨o,ho,hc,hd⟩:=id hit;unfold pyNext
 refine Za (XJ (ZY (name:=Str.ofString "__next__") hit.typeIs Qf
  (ZT Qf hit.typeIs F.entry_dict_keyiterator_next ?_ (F.args_dict_keyiterator_next_1 _))))
 refine(rG (nm:="dict_keyiterator") (show A.in1.handled=none from hh) o ho hd hm hi (λA Q E s k q=>wpAny_typeNameOfWhole_keyiter ⟨o,k _ _ ho,hc⟩ q) λe h' eb ht=>?_).1 rfl;refine Za (Qd (T:="StopIteration") (b:=true) ht WC ?_);exact Zc (hQ _ eb)
theorem AI{Q:Option Value->Shared->Prop}(hit:s.heap.IsValIter it d i es.size ep)(hm:bM s.heap d es ep)(hi:i<es.size)
  (hQ:∀h',h'.IsValIter it d (i+1) es.size ep->Heap.SameBut it s.heap h'->Q (some es[i].val) { s with heap:=h' }):wpAny (model prog w) A (pyNext (.ref it)) Q E s:=by
 obtain⟨o,ho,hc,hd⟩:=id hit;unfold pyNext
 refine Za (XJ (ZY (name:=Str.ofString "__next__") hit.typeIs X5
  (ZT X5 hit.typeIs F.entry_dict_valueiterator_next ?_ (F.args_dict_valueiterator_next_1 _))))
 refine(rW (nm:="dict_valueiterator") o ho hd hm hi (.inr ⟨rfl,rfl⟩) (λh' ⟨o',g1,g2⟩ A Q E s k q=>wpAny_typeNameOfWhole_valiter ⟨o',k _ _ g1,g2.trans hc⟩ q) (λh' ty ⟨o',g1,g2⟩ A Q E s k q=>wpAny_isOneOf_valiter ⟨o',k _ _ g1,g2.trans hc⟩ q) ?_).2 rfl;exact⟨_,rfl,Zc (hQ _ ⟨_,Xn _ ho (QN (XZ hd _)),(Wd ..).trans hc,by rw[XZ hd]; simp[rawInt]⟩ (Xl ..))⟩
theorem AE{Q:Option Value->Shared->Prop}(hh:A.handled=none)(hit:s.heap.IsValIter it d i es.size ep)(hm:bM s.heap d es ep)(hi:es.size<=i)
  (hQ:∀h',Heap.ExtBut it s.heap h'->Q none { s with heap:=h' }):wpAny (model prog w) A (pyNext (.ref it)) Q E s:=by
 obtain⟨o,ho,hc,hd⟩:=id hit;unfold pyNext
 refine Za (XJ (ZY (name:=Str.ofString "__next__") hit.typeIs X5
  (ZT X5 hit.typeIs F.entry_dict_valueiterator_next ?_ (F.args_dict_valueiterator_next_1 _))))
 refine(rG (nm:="dict_valueiterator") (show A.in1.handled=none from hh) o ho hd hm hi (λA Q E s k q=>wpAny_typeNameOfWhole_valiter ⟨o,k _ _ ho,hc⟩ q) λe h' eb ht=>?_).2 rfl;refine Za (Qd (T:="StopIteration") (b:=true) ht WC ?_);exact Zc (hQ _ eb)
theorem Iw{v:Addr}{Q:WS}(hv:s.heap.IsValuesView v d)(hm:bM s.heap d es ep)
  (hQ:Q (.ref s.heap.objs.size) { s with heap:=s.heap.push { cls:=.type "dict_valueiterator",data:=.fields #[.ref d,.int 0 0,.int es.size 0,.int ep 0] } }):wpAny (model prog w) A (pyIter (.ref v)) Q E s:=by
 obtain⟨ov,hov,hcv,hdv⟩:=id hv;obtain⟨o,ho,hx,hdat⟩:=hm;refine Wf hv.typeIs F.slot_dict_values_iter (ZT F.slot_dict_values_iter hv.typeIs F.entry_dict_values_iter ?_ (F.args_dict_values_iter_1 _));refine Za (Zc (Za (Za (Xy hov hdv (x:=.ref d) rfl (Zc ?_)))));refine Za (Za (wpAny_dictEntries ho hdat (Za (wpAny_dictEpoch ho hdat ?_))));simp only[show Builtin.Dict_items.ownsTuple "dict_valueiterator" = false from by decide,Zu,ZM];exact Z0 (Zc ⟨_,rfl,"dict_valueiterator",_,⟨_,Zw _ rfl,rfl⟩,F.slot_dict_valueiterator_next.lookup,hQ⟩)
end
end L2

namespace L2
open PySem PySem.Spec PyProof.Rows
theorem sQ{α β:Type}{R:α->β->Prop}:∀{as:List α} {bs:List β} {i:Nat} {a:α},Paired R as bs->as[i]?=some a->∃b,bs[i]?=some b/\R a b
 | _,_,_,_,.nil,e=>by simp at e
 | _,_,0,_,.cons r _,e=>by simp at e; subst e; exact⟨_,rfl,r⟩
 | _,_,i+1,a,.cons _ t,e=>by
  obtain⟨b,h1,h2⟩:=sQ (i:=i) (a:=a) t (by simpa using e);exact⟨b,by simpa using h1,h2⟩
section
variable{X:Cx}{pins:WT}{σ:St}{H:Hp}{s:WX}{a:Addr}{xs:W9}
theorem kZ{P:WZ}{w:W2}{h:Heap}(ok:a_ P w H h a (.dT xs)):xs.length<=sizeLine/\(a==sysModules)=false/\∃ys o es ep,KT H xs ys/\h.get? a=some o/\o.ExactDict/\o.data=.dict es ep/\es.toList=ys.map (entryOfKey (tupleKind (bJ P w))):=by
 obtain⟨z,y,ys,r,o,es,ep,h1,h2,h3,h4,_⟩:=ok;exact⟨z,y,ys,o,es,ep,r,h1,h2,h3,h4⟩
theorem j8{P:WZ}{w:W2}{ys:List (List Key×Addr×Value)}{es:Array DictEntry}(r:KT H xs ys)(e:es.toList=ys.map (entryOfKey (tupleKind (bJ P w)))):es.size=xs.length:=by
 rw[<- ZE,e,Zb]; exact(Wj r).symm
theorem sV{P:WZ}{w:W2}{ys:List (List Key×Addr×Value)}{es:Array DictEntry}(r:KT H xs ys)(e:es.toList=ys.map (entryOfKey (tupleKind (bJ P w)))){i:Nat}(hi:i<es.size) :
  ∃k v b u,xs[i]?=some (k,v)/\H b=some (.tup (k.map kV))/\RelV v u/\es[i].key=.ref b/\es[i].val=u:=by
 have hi':i<xs.length:=by rw[<- j8 r e]; exact hi
 obtain⟨q,hq,h1,h2,h3⟩:=sQ r (Ze hi');have he:es.toList[i]?=some (entryOfKey (tupleKind (bJ P w)) q):=by rw[e,ZL,hq]; rfl
 have he2:es[i]=entryOfKey (tupleKind (bJ P w)) q:=by
  rw[ZR,Zs hi] at he;exact Z1 he
 exact⟨xs[i].1,xs[i].2,q.2.1,q.2.2,Ze hi',h2,h3,by rw[he2]; rfl,by rw[he2]; rfl⟩
noncomputable def Itd(o:Obj)(a:Addr)(xs:W9):It :=
 ⟨λi H=>i<xs.length/\H a=some (.frz o (.dT xs)),λi H x H'=>H'=H/\∃k v b,xs[i]?=some (k,v)/\x=.ref b/\H b=some (.tup (k.map kV)),λi H=>xs.length<=i/\H a=some (.frz o (.dT xs))⟩
theorem rD{P:WZ}{w:W2}{h:Heap}{o:Obj}{es:Array DictEntry}{ep:Nat}(ok:HOk P w H h)(e:H a=some (.frz o (.dT xs)))(hx:o.ExactDict)(hd:o.data=.dict es ep):bM h a es ep/\∃ys,KT H xs ys/\es.toList=ys.map (entryOfKey (tupleKind (bJ P w))):=by
 obtain⟨g1,g2⟩:=(show h.get? a=some o/\a_ P w H h a (.dT xs) from ok a _ e)
 obtain⟨_,_,ys,o',es',ep',r,h1,h2,h3,h4⟩:=kZ g2;rw[g1] at h1; cases h1;rw[hd] at h3; cases h3;exact⟨⟨o,g1,hx,hd⟩,ys,r,h4⟩
theorem G8{P:WZ}{w:W2}{K:WV}{tg:Expr}(a it:Addr)(xs:W9){o:Obj}{es:Array DictEntry}{ep:Nat}(hx:o.ExactDict)(hd:o.data=.dict es ep):Turn P w K tg (Itd o a xs) [it] it (λi h=>h.IsKeyIter it a i es.size ep) where
 mem:=by simp
 obj:=λi h st b hb=>by
  have e:b=it:=by simpa using hb
  subst e;obtain⟨o,e,c,d⟩:=st;exact⟨o,e,λv z=>by rw[d] at z; cases z⟩
 keep:=λi h h' st k=>st.at λo e=>k it (by simp) o e
 item:=by
  intro X hP hw hK hc i pins s σ H E I hf st hg;subst hP hw hK;obtain⟨hi,hq⟩:=hg;obtain⟨rd,ys,r,he⟩:=rD I.hok hq hx hd;have hi':i<es.size:=by rw[j8 r he]; exact hi
  obtain⟨k,v,b,u,g1,g2,g3,g4,g5⟩:=sV r he hi';obtain⟨f0,f1,f2,f3,f4,f5⟩:=hf it (by simp);refine yF st rd hi' λh' st' sb=>?_
  have I1:Inv X pins σ H { s with heap:=h' }:=I.turned (t':=s.toks) (λb o hb e=>(sb.2 b hb).trans e) f0 f1 f3 f4 f5;obtain⟨oi,e,c,dd⟩:=id st';rw[g4];exact⟨.ref b,rfl,k6 (s:={ s with heap:=h' }) e c dd (by decide) ⟨.ref b,H,I1,rfl,⟨rfl,k,v,b,g1,rfl,g2⟩,st',λb hb=>(hf b hb).1⟩⟩
 done:=by
  intro X hP hw hK hc i pins s σ H E I hf st hg;subst hP hw hK;obtain⟨hi,hq⟩:=hg;obtain⟨rd,ys,r,he⟩:=rD I.hok hq hx hd;obtain⟨f0,f1,f2,f3,f4,f5⟩:=hf it (by simp);exact BY (I.ok.hd hc) st rd (by rw[j8 r he]; exact hi) λh' eb=>⟨rfl,I.turned (t':=s.toks) (λb o hb e=>eb b o hb e) f0 f1 f3 f4 f5⟩
 self:=λ_ _ _ _ _ st h=>wpAny_pyIter_keyiter st h
theorem Inv.iy(I:Inv X pins σ H s)(e:H a=some (.dT xs)){o:Obj}(ho:s.heap.get? a=some o):Inv X pins σ (upd H a (.frz o (.dT xs))) s:=by
 have ok:a_ X.prog X.w H s.heap a (.dT xs):=I.hok a _ e;refine I.write (x:=a) (e:=a) (o:=.frz o (.dT xs)) (h':=s.heap) (t':=s.toks) (by rw[e]; trivial) (.inl rfl) (λ_ _ _ q=>q) ⟨o,ho⟩ ⟨ho,?_⟩;obtain⟨z,y,ys,r,rest⟩:=ok;refine⟨z,y,ys,KT.keeps r λb zs q=>?_,rest⟩;rw[aF]; exact q;rintro rfl; rw[e] at q; cases q
noncomputable def iD(tl:TE):TI:=λσ H R=>tl σ H λx H1=>∃a xs,x=.ref a/\((H1 a=some (.dT xs)/\∀o,R (Itd o a xs) (upd H1 a (.frz o (.dT xs))))\/∃o,H1 a=some (.frz o (.dT xs))/\R (Itd o a xs) H1)
theorem DS{tg l:Expr}{tl:TE}(hl:PE X l tl):PI X tg l (iD tl):=by
 intro pins s σ H R I h;refine thn (hl pins s σ H _ I h) λv s1 ⟨x,H1,I1,r1,q1⟩=>?_
 obtain⟨a,xs,e,q1⟩:=q1;subst e;cases r1
 have fin:∀{H2:Hp} {o:Obj},Inv X pins σ H2 s1->H2 a=some (.frz o (.dT xs))->R (Itd o a xs) H2->wpAny (model X.prog X.w) X.A (pyIter (.ref a)) (PIE X pins σ tg R) X.xe s1:=λ{H2 o} I2 h2 q=>by
  obtain⟨g1,g2⟩:=(show s1.heap.get? a=some o/\a_ X.prog X.w H2 s1.heap a (.dT xs) from I2.hok a _ h2)
  obtain⟨_,hsys,ys,o',es,ep,r,h1,hx,hd,h4⟩:=kZ g2;rw[g1] at h1; cases h1;refine Ag hsys ⟨o,g1,hx,hd⟩ ?_;refine⟨s1.heap.objs.size,[s1.heap.objs.size],_,_,H2,rfl,I2.kept (t':=s1.toks) λb o e=>Zg _ e,G8 a _ xs hx hd,⟨_,Zw _ rfl,rfl,rfl⟩,λb hb=>?_,q⟩;have e:b=s1.heap.objs.size:=by simpa using hb
  subst e;exact I2.ic (Zm _) (I2.hok.fresh (Zm _))
 rcases q1 with⟨e,q⟩|⟨o,e,q⟩
 ·obtain⟨_,_,ys,o,es,ep,r,h1,_⟩:=kZ (show a_ X.prog X.w H1 s1.heap a (.dT xs) from I1.hok a _ e);exact fin (I1.iy e h1) cH (q o)
 ·exact fin I1 e q
end
end L2

namespace L2
open PySem PySem.Spec PyProof.Rows PySem.W
section
variable{prog:WZ}{w:W2}{A:Around}{E:WS}{s:WX}{d r:Addr}{es:Array DictEntry}{ep:Nat}
theorem BH{Q:WS}(hd:(d==sysModules)=false)(hm:bM s.heap d es ep)
  (hQ:Q (.ref s.heap.objs.size) { s with heap:=s.heap.push { cls:=.type "dict_values",data:=.fields #[.ref d] } }):wpAny (model prog w) A (call (.builtin "dict.values") [.ref d]) Q E s:=by
 have hT:=hm.typeIs;refine ZT PySem.F.slot_dict_values hT PySem.F.entry_dict_values ?_ (PySem.F.args_dict_values_1 _);refine Za ?_;unfold Builtin.Dict.noArgs;refine Za (Wm hT ?_);show wpAny _ _ (pure d) _ _ s;refine Zc ?_;show wpAny _ _ (Builtin.Dict.showsAll d>>=_) _ _ s;unfold Builtin.Dict.showsAll;rw[Zh (by rw[hd]; exact Zz)];refine Za (Zc ?_);exact Za (Z0 (Zc ⟨_,rfl,hQ⟩))
theorem bM.at{h h':Heap}(x:bM h d es ep)(k:∀o,h.get? d=some o->h'.get? d=some o):bM h' d es ep:=let⟨o,e,y⟩:=x; ⟨o,k o e,y⟩
theorem JV(hh:A.handled=none)(I d:Addr)(hne:d≠I)(es:Array DictEntry)(ep:Nat) :
  Walks prog w A I [I,d] [I] es.size (λi v=>∃h:i<es.size,v=es[i].val) (λi h=>h.IsValIter I d i es.size ep/\bM h d es ep) where
 sub:=λb hb=>by simp at hb; simp[hb]
 frame:=λ_ _ _ st hk=>⟨st.1.at λo e=>hk I (by simp) o e,st.2.at λo e=>hk d (by simp) o e⟩
 item:=λi s Q E hi st hQ=>AI st.1 st.2 hi λh' hit' hs'=>hQ _ h' s.toks ⟨hi,rfl⟩ ⟨hit',st.2.at λo e=>hs'.extBut d o hne e⟩ λb o hb e=>hs'.extBut b o (λh=>hb (by simp[h])) e
 done:=λs Q E st hQ=>AE hh st.1 st.2 (Zm _) λh' he'=>hQ h' s.toks λb o hb e=>he' b o (λh=>hb (by simp[h])) e
 self:=λ_ _ _ _ st hQ=>wpAny_pyIter_valiter st.1 hQ
theorem zm:KdlSrc prog w "dict_values" r d es.size (λi v=>∃h:i<es.size,v=es[i].val) (λh=>h.IsValuesView r d/\bM h d es ep) where
 type:=λ_ hm=>hm.1.typeIs
 there:=λ_ hm=>⟨let⟨_,ho,_⟩:=hm.1; Zp ho,let⟨_,ho,_⟩:=hm.2; Zp ho⟩
 keep:=λ_ _ hm hk=>⟨let⟨o,ho,x⟩:=hm.1; ⟨o,hk r (.inl rfl) o ho,x⟩,hm.2.at λo e=>hk d (.inr rfl) o e⟩
 notList:=by decide
 notTuple:=by decide
 hint:=λ_ _ _ _ hm hq=>kdl_hint_values hm.1.typeIs hq
 iter:=λ_ _ hh hm=>⟨_,_,(λ_ _ hq=>Iw hm.1 hm.2 hq),JV hh _ d (ZF (let⟨_,ho,_⟩:=hm.2; Zp ho)) es ep,⟨⟨_,Zw _ rfl,rfl,rfl⟩,hm.2.at λo e=>Zg _ e⟩⟩
end
noncomputable def Io(to:TE):TE:=λσ H Q=>to σ H λx H1=>∃a xs,x=.ref a/\(H1 a=some (.dT xs)\/∃o,H1 a=some (.frz o (.dT xs)))/\∀p,H1 p=none->Q (.ref p) (upd H1 p (.lst (xs.map (·.2))))
theorem Paired.t9{α β:Type}{R:α->β->Prop}:∀{xs:List α} {ys:List β},xs.length=ys.length->(∀(i:Nat) x y,xs[i]?=some x->ys[i]?=some y->R x y)->Paired R xs ys
 | [],[],_,_=>.nil
 | [],_::_,h,_=>by simp at h
 | _::_,[],h,_=>by simp at h
 | x::xs,y::ys,h,f=>.cons (f 0 x y rfl rfl) (Paired.t9 (by simpa using h) λi a b e1 e2=>f (i+1) a b (by simpa using e1) (by simpa using e2))
section
variable{X:Cx}{x:Str}{p pos cpos apos:Pos}{o:Expr}{to:TE}
theorem FD(hc:X.calm=true)(hg:Gl X x)(hm:X.mg x=none)(hv:bootBuiltins x=some (.type "list"))(ho:PE X o to)(hn:x≠"__name__")(hdb:(x==("__debug__" : Str))=false)
  (hbase:attributeBase o "values" X.env (eval o X.env)=eval o X.env) (hline:(apos.endLine==cpos.line)=true) :
  PE X (.Call (.Name x p) [.Call (.Attribute o "values" apos) [] [] cpos] [] pos) (Io to):=by
 intro pins s σ H Q I h;refine Xd (cY I hg hm hv ?_ hn hdb);refine Xm (e:=.Call (.Attribute o "values" apos) [] [] cpos) (rest:=[]) ?_ rfl rfl;refine XD ?_;refine wpAny_Call_method0_late hbase hline (thn (ho pins s σ H _ I h) λu s1 ⟨y,H1,I1,ry,a,xs,ey,hd,q1⟩=>?_);subst ey;obtain rfl:u=Value.ref a:=ry
 have ok:a_ X.prog X.w H1 s1.heap a (.dT xs):=by
  rcases hd with e|⟨ob,e⟩
  ·exact I1.hok a _ e
  ·exact(show s1.heap.get? a=some ob/\a_ X.prog X.w H1 s1.heap a (.dT xs) from I1.hok a _ e).2
 obtain⟨hz,hsys,ys,ob,es,ep,kt,h1,hx,hdt,h4⟩:=kZ ok;have rd:bM s1.heap a es ep:=⟨ob,h1,hx,hdt⟩
 refine⟨"dict","dict.values",PySem.F.plainAttrs_dict,PySem.F.slot_dict_values,PySem.F.type_dict_values,rd.typeIs,λb q=>?_,?_⟩
 ·cases q;exact⟨ob,h1,hx.2.1⟩
 ·refine Wg rfl (PySem.evalArgs_none ?_);refine BH hsys rd ?_;refine XN ?_;have hsz:=j8 kt h4;refine kdl_call (zm (es:=es) (ep:=ep)) (I1.ok.hd hc) ⟨⟨_,Zw _ rfl,rfl,rfl⟩,rd.at λo e=>Zg _ e⟩ (by rw[hsz]; exact hz) λh' tk acc' c' hk hD hacc=>?_
  have kp:∀b o,s1.heap.get? b=some o->h'.get? b=some o:=λb o e=>hk b o (Zg _ e)
  have hle:s1.heap.objs.size<=(s1.heap.push { cls:=.type "dict_values",data:=.fields #[.ref a] }).objs.size:=by rw[Xw]; exact XU _
  have vals:Vals (xs.map (·.2)) acc'.toList:=by
   refine Paired.t9 (by rw[Zb]; exact hsz.symm.trans (hacc.1.symm.trans ZE.symm)) λi v u e1 e2=>?_
   rw[ZR] at e2;obtain⟨hi,rfl⟩:=hacc.2 i u e2;obtain⟨k,v',b,u',g1,_,g3,_,g5⟩:=sV kt h4 hi;rw[ZL,g1] at e1;cases e1;rw[g5]; exact g3
  refine⟨.ref _,_,I1.laid (h':=h') (t':=tk) (o:=.lst (xs.map (·.2))) kp hle ⟨by rw[Zb]; exact hz,acc'.toList,c',vals,by rw[Array.toArray_toList]; exact hD⟩,rfl,q1 _ (I1.hok.fresh hle)⟩
end
end L2
namespace L2
open PySem PySem.Spec PyProof.Rows
noncomputable def b9(acc:WU)(x:Int):List Int:=if acc.contains x then acc else acc++[x]
theorem xZ(acc:WU)(x:Int):step_dedup acc x=b9 acc x:=by
 unfold step_dedup b9
 have e:acc.any (·==x)=acc.contains x:=by
  rw[X2,QT,QQ];constructor
  ·rintro⟨y,h1,h2⟩; rw[<- eq_of_beq h2]; exact h1
  ·intro h; exact⟨x,h,Xi x⟩
 rw[e]
theorem FL(ns:WU):firstMet (λi=>ns.getD i 0) ns.length=ns.foldl b9 []:=by
 unfold firstMet
 have e:(List.range ns.length).map (λi=>ns.getD i 0)=ns:=by
  refine List.ext_getElem (by simp) λi h1 h2=>?_
  simp[ZJ,Ze h2]
 rw[e,show step_dedup=b9 from funext λa=>funext λb=>xZ a b]
noncomputable def ze(K:WV)(te:TE):TE:=λσ H Q=>te σ H λx H1=>∃(a:Addr) (ns:WU),x=.ref a/\SqL K H1 a (ns.map V.int)/\ns.length<=1000/\Q (.int ((ns.foldl b9 []).length:Int)) H1
section
variable{X:Cx}{x y:Str}{p p' pos pos':Pos}{a:Expr}{ta:TE}
theorem wM:∀{ns:WU} {its:WW},Vals (ns.map V.int) its->IntsAre its ns
 | [],_,.nil=>.nil
 | n::r,_,.cons h t=>by
  obtain⟨u,rfl⟩:=h;exact .cons n u (wM t)
theorem jV:∀(xs acc:WU),(xs.foldl b9 acc).length<=acc.length+xs.length
 | [],acc=>by simp
 | x::r,acc=>by
  have h:=jV r (b9 acc x)
  have h2:(b9 acc x).length<=acc.length+1:=by
   unfold b9;split
   ·omega
   ·simp
  rw[Ws,Zy]; omega
theorem zT(hc:X.calm=true)(hg:Gl X x)(hm:X.mg x=none)(hv:bootBuiltins x=some (.builtin "len"))(hg':Gl X y)(hm':X.mg y=none)(hv':bootBuiltins y=some (.type "set"))(ha:PE X a ta)
  (hn:x≠"__name__") (hdb:(x==("__debug__" : Str))=false) (hn':y≠"__name__") (hdb':(y==("__debug__" : Str))=false) (hs:starEach [a] X.env=(false,eval a X.env)::starEach [] X.env) :
  PE X (.Call (.Name x p) [.Call (.Name y p') [a] [] pos'] [] pos) (ze X.K ta):=by
 intro pins s σ H Q I h;refine Xd (cY I hg hm hv ?_ hn hdb);refine X3 (e:=.Call (.Name y p') [a] [] pos') (rest:=[]) ?_ rfl rfl;refine XD ?_;refine Xd (cY I hg' hm' hv' ?_ hn' hdb');refine Xm (e:=a) (rest:=[]) ?_ hs rfl;rw[hs];refine XD (thn (ha pins s σ H _ I h) λu s1 ⟨v,H1,I1,r1,b,ns,e,sq,hz,q⟩=>XN ?_);subst e;cases r1;obtain⟨its,rv,pl,_⟩:=I1.list sq;have hl:its.length=ns.length:=by rw[<- rv.length,Zb]
 refine call_set_list (ns:=ns) (I1.ok.hd hc) pl.isList (wM rv) (by rw[Zk,hl]; unfold scanBound; omega) λh' tk st k1=>?_
 rw[show its.toArray.size=ns.length from hl,FL] at st;obtain⟨o,es,ep,t,ho,hex,hd,_,_,_,hf,hsz⟩:=st
 refine XN (call_len_set (s:={ s1 with heap:=h',toks:=tk }) ho hex hd hf (by
  have:=jV ns [];simp at this;omega) ?_)
 rw[hsz];exact⟨.int _,H1,(I1.kept (h':=h') (t':=tk) λb o e=>k1 b o (Zp e) e).tok _,⟨_,rfl⟩,q⟩
end
end L2

namespace L2
open PySem PySem.Spec PyProof.Rows
theorem Ck:typeLookup (Value.type "list") (Str.ofString "keys")=pure none:=by
 rw[Wu,QP]; rfl
theorem GY:typeLookup (Value.type "list") (Str.ofString "__getattr__")=pure none:=by
 rw[Wu,QP]; rfl
theorem pP:isSubtype (Value.type "AttributeError") (Value.type "AttributeError")=pure true:=by
 rw[isSubtype_type]; rfl
theorem zU:typeName (Value.type "list")=pure "list":=by
 unfold typeName;rw[find?_eq_fast]; rfl
section
variable{prog:WZ}{w:W2}{A:Around}{E:WS}{h:Heap}{g:Array GenState}{d:Drawn}{t:Nat}{os:OsState}{a:Addr}{o:Obj}{tk:Tok}
theorem A2{n:Nat}{Q:String->Shared->Prop}(hT:(⟨h,g,d,t,os⟩:Shared).TypeIs (.ref a) "list")(hq:Q "list" ⟨h,g,d,t,os⟩):wpAny (model prog w) A (typeNameOfCut n (.ref a)) Q E ⟨h,g,d,t,os⟩:=by
 unfold typeNameOfCut shownTypeOf;refine Za (Za (XT hT ?_));refine XB (by decide +kernel) (Zc ?_);show wpAny _ _ (typeName (.type "list")) _ _ _;exact Xz zU hq
theorem IA{Q:Fin->Shared->Prop}(hA:A.handled=none)(hx:h.get? a=some o)(hc:o.cls=.type "list")(hn:o.dict=none)(hd:∃items n,o.data=.seq items n)
  (hq:∀h' tk e,h.NewAttrErr h' e (.ref a) "keys"->E (.ref e) ⟨h',g,d,tk,os⟩) :
  wpAny (model prog w) A (Builtin.«object.__getattribute__» ⟨[.ref a,.str "keys" tk],[]⟩) Q E ⟨h,g,d,t,os⟩:=by
 have hT:(⟨h,g,d,t,os⟩:Shared).TypeIs (.ref a) "list":=⟨o,hx,hc⟩
 obtain⟨oc,od,oda,os'⟩:=o;dsimp only at hc hn hd;obtain⟨items,n,hd⟩:=hd;subst hc hn hd;unfold Builtin.«object.__getattribute__»;unfold slotArgs;refine Za ?_;refine XB rfl (XB rfl (Zc (Za ?_)));unfold Builtin.ObjectAttr.attrName;refine Zc (Za (XT hT (Za ?_)));unfold Builtin.ObjectAttr.find;refine Za (Xz Ck (Za ?_));show wpAny _ _ (pure none) _ _ _;refine Zc (Za ?_);show wpAny _ _ (pure none) _ _ _;refine Zc ?_;show wpAny _ _ (Builtin.ObjectAttr.ownThenClass _ _ _ _) _ _ _;unfold Builtin.ObjectAttr.ownThenClass;refine Za ?_;unfold Builtin.ObjectAttr.inOwnDict Builtin.ObjectAttr.ownDict loadHead;refine Za (Za (Za (wpAny_loadPart hx (Zc ?_))));show wpAny _ _ (instanceDict a false) _ _ _;unfold instanceDict;refine Za (wpAny_loadPart hx ?_);refine Qv rfl (Zc ?_);show wpAny _ _ (pure none) _ _ _;refine Zc ?_;refine Za ?_;unfold Builtin.ObjectAttr.copiedAttributeGuard;refine XB (by decide +kernel) (Zc ?_);show wpAny _ _ (rule _>>=_) _ _ _;refine Za (QA (Zc ?_));refine XB (by decide +kernel) (XB (by decide +kernel) ?_);unfold Builtin.ObjectAttr.noSuchAttribute;refine Za (A2 hT ?_);exact wpAny_raiseAttrError hA (λh' tk' e he=>hq h' tk' e he) (by decide +kernel)
theorem Ih{Q:Option Value->Shared->Prop}(hA:A.handled=none)(hx:h.get? a=some o)(hc:o.cls=.type "list")(hn:o.dict=none)(hd:∃items n,o.data=.seq items n)
  (hq:∀h' tk,(∀b ob,h.get? b=some ob->h'.get? b=some ob)->Q none ⟨h',g,d,tk,os⟩) :
  wpAny (model prog w) A (getAttr? (.ref a) "keys") Q E ⟨h,g,d,t,os⟩:=by
 have f2:=F.slot_list_getattribute.lookup;have f3:=F.slot_list_getattribute.bind (Value.ref a);have hT:(⟨h,g,d,t+1,os⟩:Shared).TypeIs (.ref a) "list":=⟨o,hx,hc⟩
 unfold getAttr? getAttrBy? getAttrBy;refine Za (wpAny_mkText (Za (XJ (Xg (Za (XT hT (Za (Xz f2 ?_))))))));refine XB rfl ?_;unfold getAttrByItsOwn hookBefore;refine Za (XB rfl (Zc (Za (XJ (Xg ?_)))));unfold callGetattribute boundAndCalled;refine XB rfl (Za (Xz f3 (wpAny_call ?_)));refine codeAny_call_builtin F.slot_list_getattribute.plain F.entry_list_ga (F.slot_list_getattribute.check _ _ _ _ _ _ _ _ hT (F.args_list_getattribute_2 _ _) ?_);refine IA hA hx hc hn hd λh' tk' e he=>?_
 obtain⟨t1,u1,hth⟩:=he.there;have hTe:∀k,(⟨h',g,d,k,os⟩:Shared).TypeIs (.ref e) "AttributeError":=λk=>⟨_,hth,rfl⟩
 show wpAny _ _ (getattributeRaised _ _ _ _ _ _ _) _ _ _;unfold getattributeRaised;refine Za (Qd (hTe _) pP (Qv rfl (Za ?_)));unfold hookBehind;refine XB rfl (Xz GY ?_);unfold hookOrError;dsimp only;unfold attributeErrorLeaves;refine Qv rfl (Za (wpAny_throw ?_));exact Za (Qd (hTe _) pP (Qv rfl (Zc (hq h' tk' he.keeps))))
def ig(h:Heap)(v:Value)(n:Int):Prop:=∃p u x,v=.ref p/\IsTup h p #[.int n u,x]
theorem ig.ext{h h':Heap}{v:Value}{n:Int}(x:ig h v n)(k:∀b o,v=.ref b->h.get? b=some o->h'.get? b=some o):ig h' v n:=by
 obtain⟨p,u,x,rfl,o,ho,y⟩:=x;exact⟨p,u,x,rfl,o,k p o rfl ho,y⟩
noncomputable def keysOf(kvs:List (Int×Value)):List Int:=kvs.map (·.1)
theorem Al(kvs:List (Int×Value))(k:Int)(v:Value):keysOf (stored kvs k v)=b9 (keysOf kvs) k:=by
 unfold stored b9 keysOf
 have e:(kvs.any λkv=>decide (kv.1=k))=(kvs.map (·.1)).contains k:=by
  rw[X2,QT,QQ,ZA];constructor
  ·rintro⟨y,h1,h2⟩; exact⟨y,h1,Zl h2⟩
  ·rintro⟨y,h1,h2⟩; exact⟨y,h1,Zj h2⟩
 rw[e];split
 ·rw[Xr]
  exact Wy λx _=>by
   show(if x.1=k then(x.1,v) else x).1=x.1;split<;>rfl
 ·rw[ZK]; rfl
theorem wO:entryFor table "dict.update.loop" = some Builtin.«dict.update.loop»:=entryFor_of_tree rfl
section
variable{prog:WZ}{w:W2}{A:Around}
theorem GA{R:Result->Shared->Prop}{I l D:Addr}{items:W5}{ns:WU}(hh:A.handled=none)(hI:l≠I)(hD:D≠I)(hDl:D≠l)(hs:items.size=ns.length)(hz:ns.length<=1000) :
  ∀(k i:Nat) (j:Int) (u:Tok) (s:WX) (kvs:List (Int×Value)),ns.length-i=k->i<=ns.length->s.heap.IsListIter I l i->s.heap.IsList l items ->
   (∀(i:Nat) v n,items[i]?=some v->ns[i]?=some n->ig s.heap v n/\v≠.ref D/\v≠.ref I)->s.heap.DictOf (intKind prog w) D kvs->keysOf kvs=(ns.take i).foldl b9 [] ->
   (∀h' tk kvs',(∀b o,b≠D->b≠I->s.heap.get? b=some o->h'.get? b=some o)->h'.DictOf (intKind prog w) D kvs'->keysOf kvs'=ns.foldl b9 []->R (.ok (.ret .none)) { s with heap:=h',toks:=tk }) ->
   codeAny (model prog w) A (.builtin "dict.update.loop" ⟨[.ref D,.ref I,.int j u,.none],[]⟩) R s:=by
 intro k
 induction k with
 | zero =>
  intro i j u s kvs e1 e2 hit hl hp hD' hk hR;have ei:i=ns.length:=by omega
  subst ei;refine Xq wO ?_;unfold Builtin.«dict.update.loop»;dsimp only;refine Za ((Walks.list (A:=A.under _) hh I l hI items).done s _ _ ⟨by rw[hs]; exact hit,hl⟩ λh' tk kp=>?_);dsimp only;refine Za ?_;unfold Builtin.Dict.addKeywords;refine Za (Zc (Zc ?_));rw[Z4] at hk;have kp':∀b o,b≠I->s.heap.get? b=some o->h'.get? b=some o:=λb o hb e=>kp b o (by simpa using hb) e
  refine Zc (hR h' tk kvs (λb o _ hb e=>kp' b o hb e) ?_ hk);obtain⟨o,es,ep,ho,r⟩:=hD';exact⟨o,es,ep,kp' D o hD ho,r⟩
 | succ k ih =>
  intro i j u s kvs e1 e2 hit hl hp hD' hk hR;refine Xq wO ?_;unfold Builtin.«dict.update.loop»;dsimp only;refine Za ((Walks.list (A:=A.under _) hh I l hI items).item i s _ _ (by omega) ⟨hit,hl⟩ λv h' tk hv st kp=>?_);have kp':∀b o,b≠I->s.heap.get? b=some o->h'.get? b=some o:=λb o hb e=>kp b o (by simpa using hb) e
  have hi:i<ns.length:=by omega
  have hn:ns[i]?=some ns[i]:=Ze hi;obtain⟨hpa,hvD,hvI⟩:=hp i v _ hv hn;have hpa':ig h' v ns[i]:=hpa.ext λb o eb e=>kp' b o (λq=>hvI (by rw[eb,q])) e
  have hD2:h'.DictOf (intKind prog w) D kvs:=by
   obtain⟨o,es,ep,ho,r⟩:=hD';exact⟨o,es,ep,kp' D o hD ho,r⟩
  obtain⟨p,u',x,rfl,o,ho,oc,n,od⟩:=hpa';have hT:({ s with heap:=h',toks:=tk }:Shared).TypeIs (.ref p) "tuple":=⟨o,ho,oc⟩
  have hkl:kvs.length<=1000:=by
   have e:=Xs List.length hk;unfold keysOf at e;rw[Zb] at e;have:=jV (ns.take i) [];have h3:(ns.take i).length<=ns.length:=List.length_take_le' _ _;simp only[Xh] at this;omega
  dsimp only;refine Za (Xg (Za (wpAny_tryCatch ?_)));unfold Builtin.Dict.pairItems;refine Za (XT hT (Qv (by decide +kernel) (Za (Wa ho od (Zc ?_)))));show wpAny _ _ (holding [.int ns[i] u',x] (dictSet D (.int ns[i] u') x)) _ _ _;refine Xg (wpAny_dictSet_pairs (knd:=intKind prog w) (k:=ns[i]) (kvs:=kvs) (by simp[intKind,Value.isInt]) hD2 (λh2 hd2 hs2=>?_) (by unfold sizeLine; omega));refine Zc ⟨Q5 _ (by decide +kernel),?_⟩;have kp2:∀b o,b≠D->b≠I->s.heap.get? b=some o->h2.get? b=some o:=λb o b1 b2 e=>(hs2.2 b b1).trans (kp' b o b2 e)
  refine ih (i+1) (j+1) 0 { s with heap:=h2,toks:=tk+1 } (stored kvs ns[i] x) (by omega) (by omega) ?_ ?_ ?_ hd2 ?_ ?_
  ·obtain⟨o,ho,y⟩:=st.1;exact⟨o,(hs2.2 I (Ne.symm hD)).trans ho,y⟩
  ·obtain⟨o,ho,y⟩:=st.2;exact⟨o,(hs2.2 l (Ne.symm hDl)).trans ho,y⟩
  ·intro m v n q1 q2;obtain⟨r1,r2,r3⟩:=hp m v n q1 q2;exact⟨r1.ext λb o eb e=>kp2 b o (λq=>r2 (by rw[eb,q])) (λq=>r3 (by rw[eb,q])) e,r2,r3⟩
  ·rw[Al,hk,List.take_succ,hn,WM]; rfl
  ·intro h3 tk3 kvs3 k3 d3 q3;exact hR h3 tk3 kvs3 (λb o b1 b2 e=>k3 b o b1 b2 (kp2 b o b1 b2 e)) d3 q3
theorem Ek{E:WS}{s:WX}{l:Addr}{items:W5}{ns:WU}{Q:WS}(hh:A.handled=none)(hl:PlainL s.heap l items)(hs:items.size=ns.length)(hz:ns.length<=1000)
  (hp:∀(i:Nat) v n,items[i]?=some v->ns[i]?=some n->ig s.heap v n)
  (hQ:∀h' tk kvs,h'.DictOf (intKind prog w) s.heap.objs.size kvs->keysOf kvs=ns.foldl b9 []->(∀b o,s.heap.get? b=some o->h'.get? b=some o)->Q (.ref s.heap.objs.size) { s with heap:=h',toks:=tk }) :
  wpAny (model prog w) A (call (.type "dict") [.ref l]) Q E s:=by
 refine callType_codes F.kt_called_dict (F.kt_typeCall_dict_1 _) F.entry_dict_init (kt_code_dict_new (Q₁:=λv s1=>v=.ref s.heap.objs.size/\s1={ s with heap:=s.heap.push { cls:=.type "dict",data:=.dict #[] } }) (.ref l) ⟨rfl,rfl⟩) λobj s₁ ⟨eo,es⟩=>?_
 subst eo es;have hnew:(s.heap.push { cls:=Value.type "dict",data:=Data.dict #[] }).DictOf (intKind prog w) s.heap.objs.size []:=Heap.DictOf.new s.heap;have kp0:∀b o,s.heap.get? b=some o->(s.heap.push { cls:=Value.type "dict",data:=Data.dict #[] }).get? b=some o:=λb o e=>Zg _ e
 refine⟨hnew.typeIs,F.args_dict_init_2 _ _,?_⟩;unfold Builtin.«dict.__init__»;refine Za ?_;unfold Builtin.Dict.selfAndRest;refine Za (Wm hnew.typeIs ?_);refine Za (Zc (Zc ?_));show wpAny _ _ (Builtin.Dict.updateFrom _ _ _ _ _) _ _ _;unfold Builtin.Dict.updateFrom;obtain⟨o,n,ho,oc,on,od⟩:=hl;have ho1:=kp0 l o ho;have hll:l<s.heap.objs.size:=Zp ho;refine Za (XT ⟨o,ho1,oc⟩ (Qv (by decide +kernel) (Za ?_)));refine Ih hh ho1 oc on ⟨_,_,od⟩ λh1 tk1 k1=>?_
 refine Qv rfl (Za (QA (Za ?_)));have hl1:h1.IsList l items:=⟨o,k1 _ _ ho1,oc,n,od⟩
 refine We (s:={ s with heap:=h1,toks:=tk1 }) hl1 (Zc ⟨Q5 _ (by decide +kernel),?_⟩)
 have hsz:s.heap.objs.size<h1.objs.size:=by
  obtain⟨o',es',ep',ho',_⟩:=hnew;exact Zp (k1 _ _ ho')
 have kp1:∀b o,s.heap.get? b=some o->(h1.push { cls:=Value.type "list_iterator",data:=Data.fields #[Value.ref l,Value.int 0 0] }).get? b=some o:=λb o e=>Zg _ (k1 _ _ (kp0 _ _ e))
 refine GA (A:=A.in1) (I:=h1.objs.size) (l:=l) (D:=s.heap.objs.size) (items:=items) (ns:=ns) hh (ZF (Qj hll hsz)) (ZF hsz) (X1 hll) hs hz ns.length 0 0 0 _ [] (by omega) (by omega) ?_ ?_ ?_ ?_ rfl ?_
 ·exact⟨_,Zw _ rfl,rfl,rfl⟩
 ·exact⟨o,kp1 _ _ ho,oc,n,od⟩
 ·intro i v m e1 e2;have pa:=hp i v m e1 e2;refine⟨pa.ext λb o _ e=>kp1 b o e,?_,?_⟩
  ·rintro rfl;obtain⟨p,u,x,e,o',ho',_⟩:=pa;cases e;exact absurd (Zp ho') (XI _)
  ·rintro rfl;obtain⟨p,u,x,e,o',ho',_⟩:=pa;cases e;exact absurd (Zp ho') (Nat.not_lt.mpr (Qi hsz))
 ·obtain⟨o',es',ep',ho',r⟩:=hnew;exact⟨o',es',ep',Zg _ (k1 _ _ ho'),r⟩
 ·intro h' tk kvs' kp hd hk;exact⟨rfl,hQ h' tk kvs' hd hk λb o' e=>kp b o' (ZF (Zp e)) (ZF (Qj (Zp e) hsz)) (kp1 b o' e)⟩
end
end
noncomputable def xO(K:WV)(te:TE):TE:=λσ H Q=>te σ H λx H1=>∃(a:Addr) (ps:W8) (ns:WU),x=.ref a/\SqL K H1 a ps/\Paired (λv n=>∃b z,v=V.ref b/\SqT K H1 b [.int n,z]) ps ns/\ns.length<=1000/\Q (.int ((ns.foldl b9 []).length:Int)) H1
theorem uQ{α β:Type}{R:α->β->Prop}:∀{xs:List α} {ys:List β} {i:Nat} {y:β},Paired R xs ys->ys[i]?=some y->∃x,xs[i]?=some x/\R x y
 | _,_,i,_,.nil,e=>by simp at e
 | _,_,0,_,.cons h _,e=>by cases e; exact⟨_,rfl,h⟩
 | _,_,i+1,_,.cons _ t,e=>uQ (i:=i) t e
section
variable{X:Cx}{x y:Str}{p p' pos pos':Pos}{a:Expr}{ta:TE}
theorem za(hc:X.calm=true)(hg:Gl X x)(hm:X.mg x=none)(hv:bootBuiltins x=some (.builtin "len"))(hg':Gl X y)(hm':X.mg y=none)(hv':bootBuiltins y=some (.type "dict"))(ha:PE X a ta)
  (hn:x≠"__name__") (hdb:(x==("__debug__" : Str))=false) (hn':y≠"__name__") (hdb':(y==("__debug__" : Str))=false) (hs:starEach [a] X.env=(false,eval a X.env)::starEach [] X.env) :
  PE X (.Call (.Name x p) [.Call (.Name y p') [a] [] pos'] [] pos) (xO X.K ta):=by
 intro pins s σ H Q I h;refine Xd (cY I hg hm hv ?_ hn hdb);refine X3 (e:=.Call (.Name y p') [a] [] pos') (rest:=[]) ?_ rfl rfl;refine XD ?_;refine Xd (cY I hg' hm' hv' ?_ hn' hdb');refine Xm (e:=a) (rest:=[]) ?_ hs rfl;rw[hs];refine XD (thn (ha pins s σ H _ I h) λu s1 ⟨v,H1,I1,r1,b,ps,ns,e,sq,pr,hz,q⟩=>XN ?_);subst e;cases r1;obtain⟨its,rv,pl,_⟩:=I1.list sq;have hl:its.length=ns.length:=by rw[<- rv.length,pr.length]
 refine Ek (ns:=ns) (I1.ok.hd hc) pl (by rw[Zk,hl]) hz (λi v n e1 e2=>?_) λh' tk kvs st kk k1=>?_
 ·rw[List.getElem?_toArray] at e1;obtain⟨y,ey,c,z,rfl,sq2⟩:=uQ pr e2;obtain⟨v',ev',rr⟩:=rv.get ey;rw[e1] at ev'; cases ev';cases rr;obtain⟨its2,rv2,tp,_⟩:=I1.tuple sq2
  cases rv2 with
  | cons h1 t1 =>
   obtain⟨u2,rfl⟩:=h1
   cases t1 with
   | cons h2 t2 =>
    cases t2;exact⟨_,_,_,rfl,tp⟩
 ·have hkl:kvs.length=(ns.foldl b9 []).length:=by rw[<- kk]; unfold keysOf; rw[Zb]
  have hle:=jV ns [];simp only[Xh] at hle;refine XN (call_len_dict (s:={ s1 with heap:=h',toks:=tk }) ?_ st (by rw[hkl]; omega) ?_)
  ·exact ZW.mpr (X1 I1.big)
  rw[hkl];exact⟨.int _,H1,(I1.kept (h':=h') (t':=tk) λb o e=>k1 b o e).tok _,⟨_,rfl⟩,q⟩
end
end L2

namespace L2
open PySem PySem.Spec PyProof.Rows
theorem BF(n:Nat):(sliceRange (sliceBounds none none (some (-1)) n).1 (sliceBounds none none (some (-1)) n).2.1 (sliceBounds none none (some (-1)) n).2.2)=(List.range n).map λk=>n-1-k:=by
 have e1:sliceBounds none none (some (-1)) n=((n:Int)-1,-1,-1):=rfl;rw[e1]
 have hc:(if(-1:Int)>0 then(if(n:Int)-1 < -1 then(-1-((n:Int)-1) + -1-1) / -1 else 0) else(if(n:Int)-1 > -1 then((n:Int)-1 - -1 - -1-1)/(- -1) else 0)).toNat=n:=by
  rw[Zh (by decide)]
  by_cases h:(n:Int)-1 > -1
  ·rw[Zf h,show(- -1:Int)=1 from rfl,WO]; omega
  ·rw[Zh h]; omega
 show(List.range (if(-1:Int)>0 then(if(n:Int)-1 < -1 then(-1-((n:Int)-1) + -1-1) / -1 else 0) else(if(n:Int)-1 > -1 then((n:Int)-1 - -1 - -1-1)/(- -1) else 0)).toNat).map (λ(k:Nat)=>((n:Int)-1 + -1*(k:Int)).toNat)=_;rw[hc];exact Wy λk _=>by omega
theorem vC{α:Type}:∀xs:List α,(List.range xs.length).filterMap (λk=>xs[k]?)=xs
 | []=>rfl
 | x::r=>by
  rw[Zy,List.range_succ_eq_map,List.filterMap_cons_some (f:=λk=>(x::r)[k]?) (a:=0) (b:=x) rfl,WD];exact Xs (x :: ·) (vC r)
theorem wY{α β:Type}{f g:α->Option β}:∀{xs:List α},(∀x∈xs,f x=g x)->xs.filterMap f=xs.filterMap g
 | [],_=>rfl
 | x::r,h=>by
  have ih:=wY (xs:=r) λy hy=>h y (Zr _ hy)
  rw[Xk,Xk,h x Zo,ih]
theorem Fc(its:WW):slicePick its.toArray none none (some (-1))=its.reverse.toArray:=by
 unfold slicePick;rw[BF,Zk,WD];congr 1;have e:=vC its.reverse;rw[Qc] at e;refine Eq.trans (wY λk hk=>?_) e;have hk:=Z7.mp hk;show its.toArray[its.length-1-k]?=its.reverse[k]?;rw[Wn hk,<- ZR]
noncomputable def HQ(K:WV)(te ts:TE):TE:=λσ H Q=>te σ H λx H1=>ts σ H1 λy H2=>y=.int (-1)/\∃a xs,x=.ref a/\SqL K H2 a xs/\∀p,H2 p=none->Q (.ref p) (upd H2 p (.lst xs.reverse))
section
variable{X:Cx}{e st:Expr}{te ts:TE}{pos p2:Pos}
theorem JJ(he:PE X e te)(hs:PE X st ts):PE X (.Subscript e (.Slice none none (some st) p2) pos) (HQ X.K te ts):=by
 intro pins s σ H Q I h;refine Subscript_ (thn (he pins s σ H _ I h) λv s1 ⟨x,H1,I1,r1,q1⟩=>?_);refine wpAny_Slice ?_;rw[evalPart_none];refine Zc (Zc ?_);rw[evalPart_some];refine thn (hs pins s1 σ H1 _ I1 q1) λu s2 ⟨y,H2,I2,r2,ey,a,xs,ex,hx,q⟩=>?_
 subst ex ey;cases r1;obtain⟨t,rfl⟩:=r2;have I4:Inv X pins σ H2 { s2 with heap:=s2.heap.push { cls:=.type "slice",data:=.fields #[.none,.none,.int (-1) t] } }:=I2.kept (t':=s2.toks) λb ob q=>Zg _ q
 obtain⟨its,r,ht,hz⟩:=I4.list hx;have hlen:=r.length;show wpAny (model X.prog X.w) X.A (subscriptTail e (.Slice none none (some st) p2) (.ref a) (.ref s2.heap.objs.size)) (EP X pins σ Q) X.xe { s2 with heap:=s2.heap.push { cls:=.type "slice",data:=.fields #[.none,.none,.int (-1) t] } };refine tail_any (ops:=[.ref a,.ref s2.heap.objs.size]) ht.isList.typeIs slot_list_getitem.lookup ?_ (by with_unfolding_all rfl);refine wpAny_getItem_list_slice ht.isList (Heap.IsSliceOf.new ..) .none .none (.int (-1) t) (by simp) ?_ (by rw[Zk]<;>omega);rw[Fc];have hfr:=I4.hok.fresh (Zm _);refine⟨.ref _,_,I4.laid (t':=s2.toks) (o:=.lst xs.reverse) (λb ob q=>Zg _ q) (Zm _) ?_,rfl,q _ hfr⟩;exact⟨by rw[Qc]; exact hz,_,0,Vals.reverse r,Zw _ rfl⟩
noncomputable def Kf(ta tb:TE):TE:=λσ H Q=>ta σ H λx H1=>tb σ H1 λy H2=>∃c d,x=.bl c/\y=.bl d/\Q (.bl (c != d)) H2
end
end L2

namespace EV
open PySem
inductive D where
 | non|bl (b:Bool)|int (i:Int)|str (x:Str)|tup (ds:List D)|loc (l:Nat)|exn (c:Str)|fro (ds:List D)
 deriving Inhabited
abbrev Yb:=List (List Int×D)
abbrev Ya:=List D
mutual
noncomputable def D.dec:(a b:D)->Decidable (a=b)
 | .non,b=>match b with|.non=>.isTrue rfl|.bl _|.int _|.str _|.tup _|.loc _|.exn _|.fro _=>.isFalse (λh=>nomatch h)
 | .bl x,b=>match b with
  | .bl y=>if h:x=y then .isTrue (by rw[h]) else .isFalse (λe=>h (D.bl.inj e))
  | .non|.int _|.str _|.tup _|.loc _|.exn _|.fro _=>.isFalse (λh=>nomatch h)
 | .int x,b=>match b with
  | .int y=>if h:x=y then .isTrue (by rw[h]) else .isFalse (λe=>h (D.int.inj e))
  | .non|.bl _|.str _|.tup _|.loc _|.exn _|.fro _=>.isFalse (λh=>nomatch h)
 | .str x,b=>match b with
  | .str y=>if h:x=y then .isTrue (by rw[h]) else .isFalse (λe=>h (D.str.inj e))
  | .non|.bl _|.int _|.tup _|.loc _|.exn _|.fro _=>.isFalse (λh=>nomatch h)
 | .tup x,b=>match b with
  | .tup y=>match D.decs x y with
   | .isTrue h=>.isTrue (by rw[h])
   | .isFalse h=>.isFalse (λe=>h (D.tup.inj e))
  | .non|.bl _|.int _|.str _|.loc _|.exn _|.fro _=>.isFalse (λh=>nomatch h)
 | .loc x,b=>match b with
  | .loc y=>if h:x=y then .isTrue (by rw[h]) else .isFalse (λe=>h (D.loc.inj e))
  | .non|.bl _|.int _|.str _|.tup _|.exn _|.fro _=>.isFalse (λh=>nomatch h)
 | .exn x,b=>match b with
  | .exn y=>if h:x=y then .isTrue (by rw[h]) else .isFalse (λe=>h (D.exn.inj e))
  | .non|.bl _|.int _|.str _|.tup _|.loc _|.fro _=>.isFalse (λh=>nomatch h)
 | .fro x,b=>match b with
  | .fro y=>match D.decs x y with
   | .isTrue h=>.isTrue (by rw[h])
   | .isFalse h=>.isFalse (λe=>h (D.fro.inj e))
  | .non|.bl _|.int _|.str _|.loc _|.exn _|.tup _=>.isFalse (λh=>nomatch h)
noncomputable def D.decs:(a b:Ya)->Decidable (a=b)
 | [],[]=>.isTrue rfl
 | [],_::_=>.isFalse (λh=>nomatch h)
 | _::_,[]=>.isFalse (λh=>nomatch h)
 | x::xs,y::ys=>match D.dec x y with
  | .isFalse h=>.isFalse (λe=>h (Qa e).1)
  | .isTrue h=>match D.decs xs ys with
   | .isTrue h'=>.isTrue (by rw[h,h'])
   | .isFalse h'=>.isFalse (λe=>h' (Qa e).2)
end
noncomputable instance:DecidableEq D:=D.dec
inductive Cell where
 | lst (ds:Ya)|dct (kvs:Yb)|fdc (kvs:Yb)
 deriving DecidableEq,Inhabited
abbrev af:=List Cell
inductive Res(α:Type) where
 | ok (a:α) (S:af)|exc (c:Str) (S:af)|bad
noncomputable def M(α:Type):=af->Res α
noncomputable instance:Monad M where
 pure a:=λS=>.ok a S
 bind m f:=λS=>match m S with
  | .ok a S'=>f a S'
  | .exc c S'=>.exc c S'
  | .bad=>.bad
theorem c_{α β:Type}(m:M α)(f:α->M β)(S:af):(m>>=f) S=match m S with|.ok a S'=>f a S'|.exc c S'=>.exc c S'|.bad=>.bad:=rfl
theorem aj{α β:Type}{m:M α}{f:α->M β}{S S':af}{a:α}(h:m S=.ok a S'):(m>>=f) S=f a S':=by rw[c_,h]
theorem cM{α β:Type}{m:M α}{f:α->M β}{S S':af}{c:Str}(h:m S=.exc c S'):(m>>=f) S=.exc c S':=by rw[c_,h]
theorem aZ{α β:Type}{m:M α}{f:α->M β}{S:af}(h:m S=.bad):(m>>=f) S=.bad:=by rw[c_,h]
noncomputable def bad{α:Type}:M α:=λ_=>.bad
noncomputable def opt{α:Type}:Option α->M α
 | some a=>pure a
 | none=>bad
noncomputable def alloc(c:Cell):M D:=λS=>.ok (.loc S.length) (S++[c])
noncomputable def quiet{α:Type}(m:M α):M α:=λS=>match m S with
 | .ok a S'=>.ok a S'
 | _=>.bad
noncomputable def aP:Nat:=16777216
noncomputable def fits(n:Nat):Bool:=decide (n<=aP)
noncomputable def fC(n:Nat):Bool:=decide (n<aP)
noncomputable def guard{α:Type}(b:Bool)(m:M α):M α:=match b with
 | true=>m
 | false=>bad
noncomputable def listAt(S:af)(l:Nat):Option (List D):=match S[l]? with
 | some (.lst ds)=>some ds
 | _=>none
noncomputable def items:D->M (List D)
 | .tup ds=>pure ds
 | .loc l=>λS=>match listAt S l with
  | some ds=>.ok ds S
  | none=>.bad
 | .fro ds=>pure ds
 | _=>bad
noncomputable def bG:D->M (List D)
 | .loc l=>items (.loc l)
 | .fro ds=>pure ds
 | _=>bad
noncomputable def asL(S:af):D->Option (List D)
 | .loc l=>listAt S l
 | .fro ds=>some ds
 | _=>none
noncomputable def i2b(b:Bool):Int:=if b then 1 else 0
noncomputable def bD:D->D->Option Bool
 | .non,.non=>some true
 | .non,.bl _|.non,.int _|.non,.str _|.bl _,.non|.int _,.non|.str _,.non=>some false
 | .bl a,.bl b=>some (a==b)
 | .bl a,.int b=>some (i2b a==b)
 | .int a,.bl b=>some (a==i2b b)
 | .int a,.int b=>some (a==b)
 | .str a,.str b=>some (a==b)
 | .bl _,.str _|.int _,.str _|.str _,.bl _|.str _,.int _=>some false
 | _,_=>none
noncomputable def bx(f:D->D->Option Bool):List D->List D->Option Bool
 | x::xs,y::ys=>match f x y,bx f xs ys with
  | some a,some b=>some (a&&b)
  | _,_=>none
 | _,_=>some true
inductive Kd where|flat|tup|list|other
noncomputable def D.kd:D->Kd
 | .non|.bl _|.int _|.str _=>.flat
 | .tup _=>.tup
 | .loc _|.fro _=>.list
 | .exn _=>.other
noncomputable def D.its:D->List D
 | .tup ds=>ds
 | _=>[]
noncomputable def eqD:Nat->af->D->D->Option Bool
 | 0,_,_,_=>none
 | n+1,S,a,b=>match a.kd,b.kd with
  | .flat,.flat=>bD a b
  | .tup,.tup=>(bx (eqD n S) a.its b.its).map λr=>r&&(a.its.length==b.its.length)
  | .list,.list=>match asL S a,asL S b with
   | some xs,some ys=>if xs.length=ys.length then bx (eqD n S) xs ys else some false
   | _,_=>none
  | .list,.tup=>(asL S a).map λ_=>false
  | .tup,.list=>(asL S b).map λ_=>false
  | .list,.flat=>(asL S a).map λ_=>false
  | .flat,.list=>(asL S b).map λ_=>false
  | .tup,.flat=>some false
  | .flat,.tup=>some false
  | _,_=>none
noncomputable def deep:Nat:=12
noncomputable def eqM(a b:D):M Bool:=λS=>match eqD deep S a b with
 | some k=>.ok k S
 | none=>.bad
noncomputable def inL(S:af)(x:D):List D->Option Bool
 | []=>some false
 | y::ys=>match eqD deep S y x,inL S x ys with
  | some a,some b=>some (a||b)
  | _,_=>none
inductive Op2 where|add|sub|mul|fdiv|mod|pow
inductive Cm where|lt|le|gt|ge|eq|ne|isin|bK|din|dnin|nisB
inductive Ty where|int|bool|str|list|tuple|dict|cls (c:Str)
 deriving DecidableEq
inductive Bi where|len|inst (t:Ty)|all|any|sum|min|max|sorted|sortedSet|list|tuple|int|abs|rangeT|rangeL|vals|lenS|rev|lenD
inductive Me where|append|extend
noncomputable def small(i:Int):Bool:=decide (-(2^64)<i/\i<2^64)
noncomputable def bg(l:Nat)(f:List D->M D):M D:=λS=>match S[l]? with
 | some (.lst ds)=>f ds S
 | _=>.bad
noncomputable def put(l:Nat)(c:Cell):M D:=λS=>.ok .non (S.set l c)
noncomputable def Dn(a b:Nat):M D:=bg a λxs=>bg b λys=>guard (fits (xs.length+ys.length)) (alloc (.lst (xs++ys)))
noncomputable def zD:D->D->M D
 | .int i,.int j=>pure (.int (i+j))
 | .loc a,.loc b=>Dn a b
 | _,_=>bad
noncomputable def F5:D->D->M D
 | .int i,.int j=>pure (.int (i-j))
 | _,_=>bad
noncomputable def J7(l:Nat)(j:Int):M D:=bg l λxs=>guard (decide (-(2^63)<=j)&&decide (j<2^63)&&fits (xs.length*j.toNat)) (alloc (.lst (List.replicate j.toNat xs).flatten))
noncomputable def II:D->D->M D
 | .int i,.int j=>guard (small i||small j) (pure (.int (i*j)))
 | _,_=>bad
noncomputable def AX:D->D->M D
 | .int i,.int j=>guard (decide (0<j)&&decide (j<1073741824)) (pure (.int (i/j)))
 | _,_=>bad
noncomputable def CL:D->D->M D
 | .int i,.int j=>guard (decide (0<j)) (pure (.int (i%j)))
 | _,_=>bad
noncomputable def JI:D->D->M D
 | .int i,.int j=>guard (decide (0<=j)&&decide (j<=1000)&&decide (i.natAbs<2^64)) (pure (.int (i^j.toNat)))
 | _,_=>bad
noncomputable def opD:Op2->D->D->M D
 | .add=>zD
 | .sub=>F5
 | .mul=>II
 | .fdiv=>AX
 | .mod=>CL
 | .pow=>JI
noncomputable def gx(p:Int->Int->Bool):D->D->M D
 | .int i,.int j=>pure (.bl (p i j))
 | _,_=>bad
noncomputable def inA(neg:Bool)(a:D)(ys:Ya):M D:=λS=>match inL S a ys with
 | some k=>.ok (.bl (k != neg)) S
 | none=>.bad
noncomputable def inM(neg:Bool)(a b:D):M D:=do
 let ys <- items b
 inA neg a ys
noncomputable def allInts:List D->Option (List Int)
 | []=>some []
 | .int i::r=>(allInts r).map (i :: ·)
 | _=>none
noncomputable def cj(kvs:Yb)(k:WU):Option D:=(kvs.find? λkv=>decide (kv.1=k)).map (·.2)
noncomputable def iW(kvs:Yb)(k:WU)(d:D):List (List Int×D) :=
 if(kvs.any λkv=>decide (kv.1=k))=true then kvs.map (λkv=>if kv.1=k then(kv.1,d) else kv) else kvs++[(k,d)]
noncomputable def b6(l:Nat)(f:List (List Int×D)->M D):M D:=λS=>match S[l]? with
 | some (.dct kvs)=>f kvs S
 | some (.fdc kvs)=>f kvs S
 | _=>.bad
noncomputable def jl:D->D->M D
 | .loc l,.tup ds=>do
  let k <- opt (allInts ds)
  b6 l λkvs=>opt (cj kvs k)
 | _,_=>bad
noncomputable def jR(neg:Bool):D->D->M D
 | .tup ds,.loc l=>do
  let k <- opt (allInts ds)
  b6 l λkvs=>pure (.bl ((cj kvs k).isSome != neg))
 | _,_=>bad
noncomputable def uN:D->M D
 | .loc l=>b6 l λkvs=>guard (fits kvs.length) (alloc (.lst (kvs.map (·.2))))
 | _=>bad
noncomputable def iX(acc:WU)(x:Int):List Int:=if acc.contains x then acc else acc++[x]
noncomputable def dZ(xs:WU):Nat:=(xs.foldl iX []).length
noncomputable def FA:D->D->M D
 | .bl a,.bl b=>pure (.bl (a != b))
 | _,_=>bad
noncomputable def eF:D->D->Bool
 | .bl _,.int _=>false
 | .int _,.bl _=>false
 | .tup _,.str _=>true
 | a,b=>match a.kd,b.kd with
  | .flat,.flat=>true
  | .tup,.tup=>true
  | .list,.list=>true
  | _,_=>false
noncomputable def cmD:Cm->D->D->M D
 | .lt=>gx λi j=>decide (i<j)
 | .le=>gx λi j=>decide (i<=j)
 | .gt=>gx λi j=>decide (j<i)
 | .ge=>gx λi j=>decide (j<=i)
 | .eq=>λa b=>do pure (.bl (<- eqM a b))
 | .ne=>λa b=>guard (eF a b) (do pure (.bl (!(<- eqM a b))))
 | .isin=>inM false
 | .bK=>inM true
 | .din=>jR false
 | .dnin=>jR true
 | .nisB=>FA
noncomputable def truth:D->M Bool
 | .bl b=>pure b
 | .non=>pure false
 | .int i=>pure (i != 0)
 | .tup ds=>pure (!ds.isEmpty)
 | .loc l=>do
  let xs <- items (.loc l)
  pure (!xs.isEmpty)
 | .fro ds=>pure (!ds.isEmpty)
 | _=>bad
noncomputable def ixN(n:Nat)(i:Int):Option Nat:=if 0<=i then(if i<n then some i.toNat else none) else if -(n:Int)<=i then some (i+n).toNat else none
noncomputable def atI(xs:Ya)(i:Int):Option D:=(ixN xs.length i).bind λj=>xs[j]?
noncomputable def ixD(a i:D):M D:=match i with
 | .int j=>do
  let xs <- items a
  opt (atI xs j)
 | _=>bad
noncomputable def Ei:D->D->D->M D
 | .loc l,.int k,d=>bg l λxs=>match ixN xs.length k with
  | some j=>put l (.lst (xs.set j d))
  | none=>bad
 | _,_,_=>bad
noncomputable def sIx(n d:Nat):Option Int->Nat
 | none=>d
 | some v=>if v<0 then(v+(n:Int)).toNat else min v.toNat n
noncomputable def cut(xs:Ya)(lo hi:Option Int):List D:=(xs.drop (sIx xs.length 0 lo)).take (sIx xs.length xs.length hi-sIx xs.length 0 lo)
noncomputable def slD(a:D)(lo hi:Option Int):M D:=match a with
 | .tup xs=>pure (.tup (cut xs lo hi))
 | .loc l=>do
  let xs <- items (.loc l)
  alloc (.lst (cut xs lo hi))
 | .fro xs=>alloc (.lst (cut xs lo hi))
 | _=>bad
noncomputable def cS:List D->Option (List Bool)
 | []=>some []
 | .bl i::r=>(cS r).map (i :: ·)
 | _=>none
noncomputable def ins(i:Int):List Int->List Int
 | []=>[i]
 | j::r=>if i<=j then i::j::r else j::ins i r
noncomputable def g6:List Int->List Int
 | []=>[]
 | i::r=>ins i (g6 r)
abbrev Sub:=Str->Str->Bool
noncomputable def ff(sub:Sub)(S:af):D->Ty->Option Bool
 | .non,t=>match t with|.cls _=>none|_=>some false
 | .bl _,t=>match t with|.cls _=>none|.int=>some true|.bool=>some true|_=>some false
 | .int _,t=>match t with|.cls _=>none|.int=>some true|_=>some false
 | .str _,t=>match t with|.cls _=>none|.str=>some true|_=>some false
 | .tup _,t=>match t with|.cls _=>none|.tuple=>some true|_=>some false
 | .loc l,t=>match S[l]?,t with
  | _,.cls _=>none
  | some (.lst _),.list=>some true
  | some (.lst _),_=>some false
  | some (.dct _),_=>none
  | some (.fdc _),_=>none
  | none,_=>none
 | .fro _,t=>match t with|.cls _=>none|.list=>some true|_=>some false
 | .exn c,t=>match t with|.cls d=>some (sub c d)|_=>none
noncomputable def lexLe:List Int->List Int->Bool
 | [],_=>true
 | _::_,[]=>false
 | a::r,b::q=>if a<b then true else if a=b then lexLe r q else false
noncomputable def bV(t:WU):List (List Int)->List (List Int)
 | []=>[t]
 | u::r=>if t=u then u::r else if lexLe t u then t::u::r else u::bV t r
noncomputable def bf:List (List Int)->List (List Int)
 | []=>[]
 | t::r=>bV t (bf r)
noncomputable def tups:List D->Option (List (List Int))
 | []=>some []
 | .tup ds::r=>match allInts ds,tups r with
  | some t,some q=>some (t::q)
  | _,_=>none
 | _=>none
noncomputable def rng(lo hi step:Int):List Int :=
 if 0<step then(List.range ((hi-lo+step-1)/step).toNat).map λ(k:Nat)=>lo+k*step
 else if step<0 then(List.range ((lo-hi-step-1)/(-step)).toNat).map λ(k:Nat)=>lo+k*step
 else[]
noncomputable def near(i:Int):Bool:=decide (-(2^62)<=i/\i<2^62)
noncomputable def dO:List D->Option (List Int)
 | [.int j]=>if near j then some (rng 0 j 1) else none
 | [.int i,.int j]=>if near i&&near j then some (rng i j 1) else none
 | [.int i,.int j,.int k]=>if near i&&near j&&decide (k=-1) then some (rng i j k) else none
 | _=>none
noncomputable def CY:List Int->M D
 | []=>bad
 | i::r=>pure (.int (r.foldl min i))
noncomputable def oj:List Int->M D
 | []=>bad
 | i::r=>pure (.int (r.foldl max i))
noncomputable def min2:D->D->M D
 | .int i,.int j=>pure (.int (if j<i then j else i))
 | _,_=>bad
noncomputable def max2:D->D->M D
 | .int i,.int j=>pure (.int (if j>i then j else i))
 | _,_=>bad
noncomputable def toInt:D->M D
 | .int i=>pure (.int i)
 | .bl b=>pure (.int (i2b b))
 | _=>bad
noncomputable def Jk:D->M D
 | .int i=>pure (.int (if i<0 then -i else i))
 | _=>bad
noncomputable def iF(sub:Sub)(t:Ty)(a:D):M D:=λS=>match ff sub S a t with
 | some k=>.ok (.bl k) S
 | none=>.bad
noncomputable def J9:D->M D
 | .tup ds=>pure (.tup ds)
 | a=>do pure (.tup (<- items a))
noncomputable def l9:Option (List (List Int))->M D
 | some ts=>guard (decide (ts.length<64)&&decide ts.Nodup&&ts.all λt=>!t.isEmpty) (alloc (.lst ((bf ts).map λt=>.tup (t.map .int))))
 | none=>bad
noncomputable def Bp(r:M D):Option (List Int)->M D
 | some is=>guard (decide (is.length<64)) (alloc (.lst ((g6 is).map .int)))
 | none=>r
noncomputable def lD(ds:Ya):M D:=Bp (l9 (tups ds)) (allInts ds)
noncomputable def mC:D->Option Int
 | .tup [.int n,_]=>some n
 | _=>none
noncomputable def firstsP:List D->Option (List Int)
 | []=>some []
 | d::r=>match mC d,firstsP r with
  | some n,some ns=>some (n::ns)
  | _,_=>none
noncomputable def bi1(sub:Sub):Bi->D->M D
 | .len,a=>do
  let ds <- items a
  pure (.int ds.length)
 | .inst t,a=>iF sub t a
 | .all,a=>do
  let ds <- items a
  let bs <- opt (cS ds)
  pure (.bl (bs.all id))
 | .any,a=>do
  let ds <- items a
  let bs <- opt (cS ds)
  pure (.bl (bs.any id))
 | .sum,a=>do
  let ds <- items a
  let is <- opt (allInts ds)
  pure (.int is.sum)
 | .min,a=>do
  let ds <- items a
  let is <- opt (allInts ds)
  CY is
 | .max,a=>do
  let ds <- items a
  let is <- opt (allInts ds)
  oj is
 | .sorted,a=>do
  let ds <- items a
  lD ds
 | .sortedSet,a=>do
  let ds <- bG a
  let ts <- opt (tups ds)
  guard (decide (ts.length<=18)&&ts.all λt=>!t.isEmpty) (alloc (.lst ((bf ts).map λt=>.tup (t.map .int))))
 | .list,a=>do
  let ds <- items a
  alloc (.lst ds)
 | .tuple,a=>do
  let ds <- items a
  pure (.tup ds)
 | .int,a=>toInt a
 | .abs,a=>Jk a
 | .vals,a=>uN a
 | .lenS,a=>do
  let ds <- bG a
  let is <- opt (allInts ds)
  guard (decide (is.length<=18)) (pure (.int (dZ is)))
 | .rev,a=>do
  let ds <- bG a
  alloc (.lst ds.reverse)
 | .lenD,a=>do
  let ds <- bG a
  let is <- opt (firstsP ds)
  guard (decide (is.length<=18)) (pure (.int (dZ is)))
 | .rangeT,_=>bad
 | .rangeL,_=>bad
noncomputable def bi2:Bi->D->D->M D
 | .min=>min2
 | .max=>max2
 | _=>λ_ _=>bad
noncomputable def biR:Bi->List D->M D
 | .rangeT,as=>do
  let is <- opt (dO as)
  guard (fits is.length) (pure (.tup (is.map .int)))
 | .rangeL,as=>do
  let is <- opt (dO as)
  guard (fits is.length) (alloc (.lst (is.map .int)))
 | _,_=>bad
noncomputable def Bi.isR:Bi->Bool
 | .rangeT=>true
 | .rangeL=>true
 | _=>false
noncomputable def biD(sub:Sub)(b:Bi)(as:Ya):M D:=match b.isR with
 | true=>biR b as
 | false=>match as with
  | [a]=>bi1 sub b a
  | [a,c]=>bi2 b a c
  | _=>bad
noncomputable def GZ:D->D->M D
 | .loc l,d=>bg l λds=>guard (fC ds.length) (put l (.lst (ds++[d])))
 | _,_=>bad
noncomputable def Eo:D->D->M D
 | .loc l,.loc k=>bg l λds=>bg k λes=>guard (fits (ds.length+es.length)) (put l (.lst (ds++es)))
 | _,_=>bad
noncomputable def iO:D->M D
 | .loc l=>bg l λds=>match ds.getLast? with
  | some d=>λS=>.ok d (S.set l (.lst ds.dropLast))
  | none=>bad
 | _=>bad
noncomputable def meD(m:Me)(o:D)(as:Ya):M D:=match as with
 | [d]=>match m with
  | .append=>GZ o d
  | .extend=>Eo o d
 | _=>bad
inductive Tg where
 | one (i:Nat)|many (is:List Nat)
abbrev Sg:=List (Option D)
noncomputable def Tg.has:Tg->Nat->Bool
 | .one i,j=>i==j
 | .many is,j=>is.contains j
noncomputable def cy:List Nat->List D->Sg->Sg
 | i::is,d::ds,σ=>cy is ds (σ.set i (some d))
 | _,_,σ=>σ
noncomputable def aT:Tg->D->Sg->M Sg
 | .one i,d,σ=>pure (σ.set i (some d))
 | .many is,.tup ds,σ=>guard (decide (ds.length=is.length)) (pure (cy is ds σ))
 | _,_,_=>bad
inductive E where
 | v (i:Nat)|c (d:D)|bin (op:Op2) (a b:E)|cmp (op:Cm) (a b:E)|chn (o o':Cm) (a b c:E)|and (a b:E)|or (a b:E)|not (a:E)|neg (a:E)|isN (a:E)|notN (a:E)|ite (c a b:E)
 | nl|cs (a r:E)|tup (es:E)|lst (es:E)|ix (a i:E)|sl (a lo hi:E)|call (f:Str) (es:E)|bi (b:Bi) (es:E)|me (m:Me) (o es:E)
 | iSeq (a:E)|iEnum (a:E)|iRng (es:E)|iZip (es:E)|comp (k:Nat) (elt:E) (t:Tg) (it ife:E)|dget (o es:E)|dnew|dgv (o i:E)|iDct (o:E)|pop (o:E)
structure Src where
 its:List D
 l:Option Nat
 raw:List D
noncomputable def aL(s:Src):M Unit:=match s.l with
 | none=>pure ()
 | some l=>λS=>match listAt S l with
  | some ds=>guard (decide (ds=s.raw)) (pure ()) S
  | none=>.bad
noncomputable def srcOf:D->M Src
 | .tup ds=>pure ⟨ds,none,ds⟩
 | .loc l=>do
  let ds <- items (.loc l)
  pure ⟨ds,some l,ds⟩
 | .fro ds=>pure ⟨ds,none,ds⟩
 | _=>bad
noncomputable def iZ:D->M Src
 | .loc l=>λS=>match S[l]? with
  | some (.dct kvs)=>.ok ⟨kvs.map λkv=>.tup (kv.1.map .int),none,[]⟩ (S.set l (.fdc kvs))
  | some (.fdc kvs)=>.ok ⟨kvs.map λkv=>.tup (kv.1.map .int),none,[]⟩ S
  | _=>.bad
 | _=>bad
noncomputable def uI:List D->List D->List D
 | x::r,y::q=>.tup [x,y]::uI r q
 | _,_=>[]
noncomputable def Cy:List D->M Src
 | [.tup xs,.tup ys]=>pure ⟨uI xs ys,none,[]⟩
 | _=>bad
noncomputable def num(k:Nat):List D->List D
 | []=>[]
 | d::r=>.tup [.int k,d]::num (k+1) r
noncomputable def bE(s:Src)(f:D->M (Option D)):List D->M (List D)
 | []=>do
  aL s
  pure []
 | d::ds=>do
  aL s
  let y <- f d
  let ys <- bE s f ds
  pure (match y with|some y=>y::ys|none=>ys)
noncomputable def fN:D->M (Option Int)
 | .int i=>pure (some i)
 | _=>bad
noncomputable def D.dz(S:af):D->Bool
 | .loc l=>match S[l]? with|some (.lst _)=>true|_=>false
 | _=>false
noncomputable def lu{α:Type}(x:D)(m:M α):M α:=λS=>guard (x.dz S) m S
noncomputable def e_(l:Nat)(f:List (List Int×D)->M D):M D:=λS=>match S[l]? with
 | some (.dct kvs)=>f kvs S
 | _=>.bad
noncomputable def A9(a:D)(ds:Ya):M D:=match a with
 | .loc l=>do
  let k <- opt (allInts ds)
  e_ l λkvs=>opt (cj kvs k)
 | _=>bad
noncomputable def p8(a:D)(ds:Ya)(d:D):M D:=match a with
 | .loc l=>do
  let k <- opt (allInts ds)
  e_ l λkvs=>guard (fC kvs.length) (put l (.dct (iW kvs k d)))
 | _=>bad
noncomputable def i_(a:D):D->D->M D
 | .tup ds,d=>p8 a ds d
 | _,_=>bad
noncomputable def bu(σ:Sg)(i:Nat):M D:=match σ[i]? with
 | some (some d)=>pure d
 | _=>bad
noncomputable def E.bq:E->Bool
 | .nl=>true
 | _=>false
section
variable(sub:Sub)(cf:Str->List D->M D)
mutual
noncomputable def ev:E->Sg->M D
 | .v i,σ=>bu σ i
 | .c d,_=>pure d
 | .bin op a b,σ=>do
  let x <- ev a σ
  let y <- ev b σ
  opD op x y
 | .cmp op a b,σ=>do
  let x <- ev a σ
  let y <- ev b σ
  cmD op x y
 | .chn o o' a b c,σ=>do
  let x <- ev a σ
  let y <- ev b σ
  match <- cmD o x y with
   | .bl true=>do
    let z <- ev c σ
    cmD o' y z
   | .bl false=>pure (.bl false)
   | _=>bad
 | .and a b,σ=>do
  match <- ev a σ with
   | .bl true=>ev b σ
   | .bl false=>pure (.bl false)
   | _=>bad
 | .or a b,σ=>do
  match <- ev a σ with
   | .bl true=>pure (.bl true)
   | .bl false=>ev b σ
   | _=>bad
 | .not a,σ=>do
  match <- ev a σ with
   | .bl b=>pure (.bl (!b))
   | _=>bad
 | .neg a,σ=>do
  match <- ev a σ with
   | .int i=>pure (.int (-i))
   | _=>bad
 | .isN a,σ=>do
  let x <- ev a σ
  pure (.bl (decide (x=.non)))
 | .notN a,σ=>do
  let x <- ev a σ
  pure (.bl (!decide (x=.non)))
 | .ite c a b,σ=>do
  if <- evT c σ then ev a σ else ev b σ
 | .tup es,σ=>do
  let ds <- evs es σ
  guard (fits ds.length) (pure (.tup ds))
 | .lst es,σ=>do
  let ds <- evs es σ
  guard (fits ds.length) (alloc (.lst ds))
 | .ix a i,σ=>do
  let x <- ev a σ
  let y <- ev i σ
  ixD x y
 | .sl a lo hi,σ=>do
  let x <- ev a σ
  let l <- (if lo.bq then pure none else do fN (<- ev lo σ))
  let h <- (if hi.bq then pure none else do fN (<- ev hi σ))
  slD x l h
 | .call f es,σ=>do
  let ds <- evs es σ
  cf f ds
 | .bi b es,σ=>do
  let ds <- evs es σ
  biD sub b ds
 | .me m o es,σ=>do
  let x <- ev o σ
  lu x (do
   let ds <- evs es σ
   meD m x ds)
 | .comp k elt t it ife,σ=>do
  let s <- evI it σ
  let ys <- quiet (bE s (λd=>do
   let σ' <- aT t d (σ++List.replicate k none)
   if <- (if ife.bq then pure true else evT ife σ') then do
    let y <- ev elt σ'
    pure (some y)
   else pure none) s.its)
  guard (fits ys.length) (alloc (.lst ys))
 | .dget o es,σ=>do
  let x <- ev o σ
  let ds <- evs es σ
  guard (fits ds.length) (A9 x ds)
 | .dnew,_=>alloc (.dct [])
 | .dgv o i,σ=>do
  let x <- ev o σ
  let y <- ev i σ
  jl x y
 | .iDct _,_=>bad
 | .pop o,σ=>do
  let x <- ev o σ
  iO x
 | .nl,_=>bad
 | .cs _ _,_=>bad
 | .iSeq _,_=>bad
 | .iEnum _,_=>bad
 | .iRng _,_=>bad
 | .iZip _,_=>bad
noncomputable def evT:E->Sg->M Bool
 | .and a b,σ=>do
  if <- evT a σ then evT b σ else pure false
 | .or a b,σ=>do
  if <- evT a σ then pure true else evT b σ
 | .not a,σ=>do
  let b <- evT a σ
  pure (!b)
 | .v i,σ=>bu σ i>>=truth
 | .c d,_=>pure d>>=truth
 | .cmp op a b,σ=>do
  let x <- ev a σ
  let y <- ev b σ
  truth (<- cmD op x y)
 | .chn o o' a b c,σ=>do
  let x <- ev a σ
  let y <- ev b σ
  if <- truth (<- cmD o x y) then do
   let z <- ev c σ
   truth (<- cmD o' y z)
  else pure false
 | .isN a,σ=>do
  let x <- ev a σ
  pure (decide (x=.non))
 | .notN a,σ=>do
  let x <- ev a σ
  pure (!decide (x=.non))
 | .ix a i,σ=>(do
  let x <- ev a σ
  let y <- ev i σ
  ixD x y)>>=truth
 | .call f es,σ=>(do
  let ds <- evs es σ
  cf f ds)>>=truth
 | .bi b es,σ=>(do
  let ds <- evs es σ
  biD sub b ds)>>=truth
 | _,_=>bad
noncomputable def evs:E->Sg->M (List D)
 | .nl,_=>pure []
 | .cs a r,σ=>do
  let x <- ev a σ
  let xs <- evs r σ
  pure (x::xs)
 | _,_=>bad
noncomputable def evI:E->Sg->M Src
 | .iSeq a,σ=>do srcOf (<- ev a σ)
 | .iEnum a,σ=>do
  let s <- srcOf (<- ev a σ)
  pure { s with its:=num 0 s.its }
 | .iRng es,σ=>do
  let is <- opt (dO (<- evs es σ))
  pure ⟨is.map .int,none,[]⟩
 | .iZip es,σ=>do Cy (<- evs es σ)
 | .iDct a,σ=>do iZ (<- ev a σ)
 | _,_=>bad
end
end
inductive S where
 | ret (e:E)|retN|set (t:Tg) (e:E)|setIx (o i e:E)|dset (o es e:E)|dsv (o i e:E)|ex (e:E)|ite (c:E) (a b:S)|forS (t:Tg) (it:E) (b:S)|whl (c:E) (b:S)|rais (c:Str)|tryR (f:Str) (es:E) (c:Str) (d:D)|tryE (f:Str) (es:E) (c:Str) (d:D)
 | skip|seq (a b:S)|brk|cont
inductive Fl where
 | nx (σ:Sg)|rt (d:D)|bk (σ:Sg)|ct (σ:Sg)
noncomputable def forL(s:Src)(f:D->Sg->M Fl):List D->Sg->M Fl
 | [],σ=>do
  aL s
  pure (.nx σ)
 | d::ds,σ=>do
  aL s
  match <- f d σ with
   | .nx σ'=>forL s f ds σ'
   | .ct σ'=>forL s f ds σ'
   | .bk σ'=>pure (.nx σ')
   | .rt d=>pure (.rt d)
noncomputable def bQ(c:Sg->M Bool)(f:Sg->M Fl):Nat->Sg->M Fl
 | 0,_=>bad
 | n+1,σ=>do
  if <- c σ then do
   match <- f σ with
    | .nx σ'=>bQ c f n σ'
    | .ct σ'=>bQ c f n σ'
    | .bk σ'=>pure (.nx σ')
    | .rt d=>pure (.rt d)
  else pure (.nx σ)
noncomputable def yR(c:Str)(d:D)(m:M D):M D:=λS=>match m S with
 | .ok v S'=>.ok v S'
 | .exc c' S'=>if c'=c then .ok d S' else .bad
 | .bad=>.bad
noncomputable def Dm(c:Str)(d:D)(σ:Sg)(m:M D):M Fl:=λS=>match m S with
 | .ok _ S'=>.ok (.nx σ) S'
 | .exc c' S'=>if c'=c then .ok (.rt d) S' else .bad
 | .bad=>.bad
noncomputable def iu:Nat:=1000000
section
variable(sub:Sub)(cf:Str->List D->M D)
noncomputable def exec:S->Sg->M Fl
 | .ret e,σ=>do
  let d <- ev sub cf e σ
  pure (.rt d)
 | .retN,_=>pure (.rt .non)
 | .set t e,σ=>do
  let d <- ev sub cf e σ
  let σ' <- aT t d σ
  pure (.nx σ')
 | .setIx o i e,σ=>do
  let d <- ev sub cf e σ
  let a <- ev sub cf o σ
  let k <- ev sub cf i σ
  let _ <- Ei a k d
  pure (.nx σ)
 | .dset o es e,σ=>do
  let d <- ev sub cf e σ
  let a <- ev sub cf o σ
  let ks <- evs sub cf es σ
  let _ <- guard (fits ks.length) (p8 a ks d)
  pure (.nx σ)
 | .dsv o i e,σ=>do
  let d <- ev sub cf e σ
  let a <- ev sub cf o σ
  let k <- ev sub cf i σ
  let _ <- i_ a k d
  pure (.nx σ)
 | .ex e,σ=>do
  let _ <- ev sub cf e σ
  pure (.nx σ)
 | .ite c a b,σ=>do
  if <- evT sub cf c σ then exec a σ else exec b σ
 | .forS t it b,σ=>quiet (do
  let s <- evI sub cf it σ
  forL s (λd σ=>do
   let σ' <- aT t d σ
   exec b σ') s.its σ)
 | .whl c b,σ=>quiet (bQ (evT sub cf c) (exec b) iu σ)
 | .rais c,_=>λ_=>.bad
 | .tryR f es c d,σ=>do
  let ds <- quiet (evs sub cf es σ)
  let v <- yR c d (cf f ds)
  pure (.rt v)
 | .tryE f es c d,σ=>do
  let ds <- quiet (evs sub cf es σ)
  Dm c d σ (cf f ds)
 | .skip,σ=>pure (.nx σ)
 | .seq a b,σ=>do
  match <- exec a σ with
   | .nx σ'=>exec b σ'
   | f=>pure f
 | .brk,σ=>pure (.bk σ)
 | .cont,σ=>pure (.ct σ)
end
mutual
noncomputable def D.low(n:Nat):D->Bool
 | .tup ds=>D.lows n ds
 | .fro ds=>D.lows n ds
 | .loc l=>decide (l<n)
 | _=>true
noncomputable def D.lows(n:Nat):List D->Bool
 | []=>true
 | d::r=>D.low n d&&D.lows n r
end
noncomputable def Cell.low(n:Nat):Cell->Bool
 | .lst ds=>D.lows n ds
 | .dct _=>false
 | .fdc _=>false
noncomputable def leave(S:af)(d:D)(S':af):Res D :=
 if S'.take S.length=S then
  if d.low S.length then .ok d S
  else match d with
   | .loc l=>match S'[l]? with
    | some c=>if c.low S.length then .ok (.loc S.length) (S++[c]) else .ok d S'
    | none=>.ok d S'
   | _=>.ok d S'
 else .ok d S'
structure Fn where
 par:Nat
 names:Nat
 body:S
abbrev Prg:=List (Str×Fn)
noncomputable def iV(S:af):Res Fl->Res D
 | .ok (.rt d) S'=>leave S d S'
 | .ok (.nx _) S'=>leave S .non S'
 | .ok (.bk _) _=>.bad
 | .ok (.ct _) _=>.bad
 | .exc c S'=>if S'.take S.length=S then .exc c S else .exc c S'
 | .bad=>.bad
noncomputable def frame(F:Fn)(ds:Ya):Sg:=ds.map some++List.replicate (F.names-ds.length) none
noncomputable def ah(sub:Sub)(P:Prg):Nat->Str->List D->M D
 | 0,_,_=>bad
 | n+1,f,ds=>λS=>match P.lookup f with
  | none=>.bad
  | some F=>if ds.length=F.par then iV S (exec sub (ah sub P n) F.body (frame F ds) S) else .bad
theorem sW{sub:Sub}{P:Prg}{n:Nat}{f:Str}{ds:Ya}{S:af}{F:Fn}(h:P.lookup f=some F)(hl:ds.length=F.par):ah sub P (n+1) f ds S=iV S (exec sub (ah sub P n) F.body (frame F ds) S):=by
 show(match P.lookup f with|none=>Res.bad|some F=>if ds.length=F.par then iV S (exec sub (ah sub P n) F.body (frame F ds) S) else .bad)=_;rw[h]; simp only[hl,Xu]
theorem Aa{sub:Sub}{P:Prg}{n:Nat}{f:Str}{ds:Ya}{S:af}{F:Fn}(h:P.lookup f=some F)(hl:ds.length≠F.par):ah sub P (n+1) f ds S=.bad:=by
 show(match P.lookup f with|none=>Res.bad|some F=>if ds.length=F.par then iV S (exec sub (ah sub P n) F.body (frame F ds) S) else .bad)=_;rw[h]; simp only[hl,ZM]
end EV

namespace EV
open PySem PySem.Spec PyProof.Rows L2
theorem Paired.get{α β:Type}{F:α->β->Prop}:∀{xs:List α} {ys:List β} {i:Nat} {x:α},Paired F xs ys->xs[i]?=some x->∃y,ys[i]?=some y/\F x y
 | _,_,_,_,.nil,e=>by simp at e
 | _,_,0,_,.cons r _,e=>by simp at e; subst e; exact⟨_,rfl,r⟩
 | _,_,i+1,x,.cons _ t,e=>by
  obtain⟨u,h1,h2⟩:=Paired.get (i:=i) (x:=x) t (by simpa using e);exact⟨u,by simpa using h1,h2⟩
theorem Paired.get'{α β:Type}{F:α->β->Prop}{xs:List α}{ys:List β}{i:Nat}{y:β}(p:Paired F xs ys)(e:ys[i]?=some y):∃x,xs[i]?=some x/\F x y:=by
 have hl:=p.length;have hi:i<xs.length:=by rw[hl]; exact(Zi.mp e).1
 obtain⟨y',e',f⟩:=Paired.get p (Ze hi);rw[e] at e'; cases e';exact⟨_,Ze hi,f⟩
theorem Paired.step{α β:Type}{F:α->β->Prop}{ds:List α}{vs:List β}{n:Nat}(h:Paired F ds vs)(hl:ds.length=n+1):∃d r v q,ds=d::r/\vs=v::q/\F d v/\Paired F r q/\r.length=n:=by
 cases h with
 | nil=>cases hl
 | cons f t=>exact⟨_,_,_,_,rfl,rfl,f,t,Nat.succ.inj hl⟩
theorem Paired.last{α β:Type}{F:α->β->Prop}{ds:List α}{vs:List β}(h:Paired F ds vs)(hl:ds.length=0):ds=[]/\vs=[]:=by
 cases h with
 | nil=>exact⟨rfl,rfl⟩
 | cons f t=>cases hl
theorem Paired.app{α β:Type}{F:α->β->Prop}:∀{a c:List α} {b d:List β},Paired F a b->Paired F c d->Paired F (a++c) (b++d)
 | _,_,_,_,.nil,s=>s
 | _,_,_,_,.cons r t,s=>.cons r (Paired.app t s)
theorem Paired.tak{α β:Type}{F:α->β->Prop}:∀{a:List α} {b:List β} (n:Nat),Paired F a b->Paired F (a.take n) (b.take n)
 | _,_,0,_=>.nil
 | _,_,_+1,.nil=>.nil
 | _,_,n+1,.cons r t=>.cons r (Paired.tak n t)
theorem Paired.drp{α β:Type}{F:α->β->Prop}:∀{a:List α} {b:List β} (n:Nat),Paired F a b->Paired F (a.drop n) (b.drop n)
 | _,_,0,r=>r
 | _,_,_+1,.nil=>.nil
 | _,_,n+1,.cons _ t=>Paired.drp n t
theorem Paired.imp{α β:Type}{F G:α->β->Prop}(f:∀a b,F a b->G a b):∀{l₁:List α} {l₂:List β},Paired F l₁ l₂->Paired G l₁ l₂
 | _,_,.nil=>.nil
 | _,_,.cons r t=>.cons (f _ _ r) (Paired.imp f t)
theorem Paired.of_get{α β:Type}{F:α->β->Prop}:∀{xs:List α} {ys:List β},xs.length=ys.length->(∀(i:Nat) x y,xs[i]?=some x->ys[i]?=some y->F x y)->Paired F xs ys
 | [],[],_,_=>.nil
 | [],_::_,h,_=>by simp at h
 | _::_,[],h,_=>by simp at h
 | x::xs,y::ys,h,f=>.cons (f 0 x y rfl rfl) (Paired.of_get (by simpa using h) λi a b e1 e2=>f (i+1) a b (by simpa using e1) (by simpa using e2))
structure Gx where
 K:PySem.W.Frag
def Fro(K:WV)(H:Hp)(a:Addr)(xs:W8):Prop:=(∃o,H a=some (.frz o (.lst xs)))\/∀H:Hp,SqL K H a xs
theorem Fro.sq{K:WV}{H:Hp}{a:Addr}{xs:W8}(h:Fro K H a xs):SqL K H a xs:=by
 rcases h with⟨o,h⟩|h
 ·exact .inl (.inr ⟨o,h⟩)
 ·exact h H
set_option genInjectivity false in
inductive Rep(Γ:Gx)(ι:W0)(H:Hp):D->V->Prop
 | non:Rep Γ ι H .non .non
 | bl (b:Bool):Rep Γ ι H (.bl b) (.bl b)
 | int (i:Int):Rep Γ ι H (.int i) (.int i)
 | str (x:Str):Rep Γ ι H (.str x) (.str x)
 | tup {ds:Ya} {a:Addr} {xs:W8}:SqT Γ.K H a xs->ds.length=xs.length->(∀(i:Nat) d v,ds[i]?=some d->xs[i]?=some v->Rep Γ ι H d v)->(∀k,allInts ds=some k->H a=some (.tup xs))->Rep Γ ι H (.tup ds) (.ref a)
 | fro {ds:Ya} {a:Addr} {xs:W8}:Fro Γ.K H a xs->ds.length=xs.length->(∀(i:Nat) d v,ds[i]?=some d->xs[i]?=some v->Rep Γ ι H d v)->Rep Γ ι H (.fro ds) (.ref a)
 | loc {l:Nat} {a:Addr}:ι[l]?=some a->Rep Γ ι H (.loc l) (.ref a)
abbrev aA(Γ:Gx)(ι:W0)(H:Hp):List D->List V->Prop:=Paired (Rep Γ ι H)
theorem Rep.sY{Γ:Gx}{ι:W0}{H:Hp}{ds:Ya}{a:Addr}{xs:W8}(h:SqT Γ.K H a xs)(p:aA Γ ι H ds xs)(hk:∀k,allInts ds=some k->H a=some (.tup xs)):Rep Γ ι H (.tup ds) (.ref a) :=
 .tup h p.length (λi d v e1 e2=>by
  obtain⟨y,e,f⟩:=Paired.get p e1;rw[e2] at e; cases e; exact f) hk
theorem Rep.jX{Γ:Gx}{ι:W0}{H:Hp}{ds:Ya}{a:Addr}{xs:W8}(h:H a=some (.tup xs))(p:aA Γ ι H ds xs):Rep Γ ι H (.tup ds) (.ref a):=.sY (.of h) p λ_ _=>h
theorem Rep.fz{Γ:Gx}{ι:W0}{H:Hp}{ds:Ya}{v:V}(h:Rep Γ ι H (.fro ds) v):∃a xs,v=.ref a/\Fro Γ.K H a xs/\aA Γ ι H ds xs:=by
 cases h with
 | fro h1 h2 h3=>exact⟨_,_,rfl,h1,Paired.of_get h2 h3⟩
theorem Rep.cg{Γ:Gx}{ι:W0}{H:Hp}{ds:Ya}{v:V}(h:Rep Γ ι H (.tup ds) v):∃a xs,v=.ref a/\SqT Γ.K H a xs/\aA Γ ι H ds xs:=by
 cases h with
 | tup h1 h2 h3 _=>exact⟨_,_,rfl,h1,Paired.of_get h2 h3⟩
structure Ext(ι ι':W0)(H H':Hp):Prop where
 pre:ι<+:ι'
 tup:∀a xs,H a=some (.tup xs)->H' a=some (.tup xs)
 frz:∀a o u,H a=some (.frz o u)->H' a=some (.frz o u)
 oth:∀a o,H a=some o->a∉ι->H' a=some o
 fresh:∀a∈ι',a∉ι->H a=none
section
variable{ι ι1 ι2:W0}{H H1 H2:Hp}
theorem Ext.refl:Ext ι ι H H:=⟨ZQ _,λ_ _ h=>h,λ_ _ _ h=>h,λ_ _ h _=>h,λ_ h n=>absurd h n⟩
theorem Ext.trans(a:Ext ι ι1 H H1)(b:Ext ι1 ι2 H1 H2):Ext ι ι2 H H2 where
 pre:=a.pre.trans b.pre
 tup:=λx xs h=>b.tup x xs (a.tup x xs h)
 frz:=λx o u h=>b.frz x o u (a.frz x o u h)
 oth:=λx o h n=>b.oth x o (a.oth x o h n) λm=>by
  have:=a.fresh x m n;rw[h] at this; cases this
 fresh:=λx m n=>by
  by_cases h1:x∈ι1
  ·exact a.fresh x h1 n
  ·have:=b.fresh x m h1
   cases q:H x with
   | none=>rfl
   | some o=>rw[a.oth x o q n] at this; cases this
theorem Ext.laid{p:Addr}{o:HO}(hp:H p=none):Ext ι ι H (upd H p o) :=
 ⟨ZQ _,λa xs h=>by rw[aF (bF h hp)]; exact h,λa o u h=>by rw[aF (bF h hp)]; exact h,λa o h _=>by rw[aF (bF h hp)]; exact h,λ_ h n=>absurd h n⟩
theorem Ext.more{p:Addr}{o:HO}(hp:H p=none):Ext ι (ι++[p]) H (upd H p o) :=
 ⟨Zd _ _,λa xs h=>by rw[aF (bF h hp)]; exact h,λa o u h=>by rw[aF (bF h hp)]; exact h,λa o h _=>by rw[aF (bF h hp)]; exact h,λa h n=>by
  rcases ZB.mp h with z|z
  ·exact absurd z n
  ·have:a=p:=by simpa using z
   rw[this]; exact hp⟩
theorem fV{α:Type}{xs ys:List α}(h:xs<+:ys){i:Nat}{x:α}(e:xs[i]?=some x):ys[i]?=some x:=by
 obtain⟨t,rfl⟩:=h;rw[ZC (Zi.mp e).1];exact e
end
section
variable{Γ:Gx}{ι ι1:W0}{H H1:Hp}
theorem Ext.sqT(e:Ext ι ι1 H H1){a:Addr}{xs:W8}(h:SqT Γ.K H a xs):SqT Γ.K H1 a xs:=by
 rcases h with(h|⟨o,h⟩)|h
 ·exact .inl (.inl (e.tup _ _ h))
 ·exact .inl (.inr ⟨o,e.frz _ _ _ h⟩)
 ·exact .inr h
theorem Ext.fro(e:Ext ι ι1 H H1){a:Addr}{xs:W8}(h:Fro Γ.K H a xs):Fro Γ.K H1 a xs:=by
 rcases h with⟨o,h⟩|h
 ·exact .inl ⟨o,e.frz _ _ _ h⟩
 ·exact .inr h
theorem Rep.ext(e:Ext ι ι1 H H1){d:D}{v:V}(h:Rep Γ ι H d v):Rep Γ ι1 H1 d v:=by
 induction h with
 | non=>exact .non
 | bl b=>exact .bl b
 | int i=>exact .int i
 | str x=>exact .str x
 | tup h1 h2 h3 h4 ih=>exact .tup (e.sqT h1) h2 ih λk q=>e.tup _ _ (h4 k q)
 | fro h1 h2 h3 ih=>exact .fro (e.fro h1) h2 ih
 | loc h=>exact .loc (fV e.pre h)
theorem aA.ext(e:Ext ι ι1 H H1){ds:Ya}{vs:W8}(h:aA Γ ι H ds vs):aA Γ ι1 H1 ds vs:=Paired.imp (λ_ _ r=>Rep.ext e r) h
end
abbrev aJ(Γ:Gx)(ι:W0)(H:Hp):List (List Int×D)->List (List Key×V)->Prop:=Paired λp q=>q.1=p.1.map Sum.inl/\Rep Γ ι H p.2 q.2
noncomputable def jU(Γ:Gx)(ι:W0)(H:Hp)(a:Addr):Cell->Prop
 | .lst ds=>∃xs,H a=some (.lst xs)/\aA Γ ι H ds xs
 | .dct kvs=>∃xs,H a=some (.dT xs)/\aJ Γ ι H kvs xs
 | .fdc kvs=>∃xs,(∃o,H a=some (.frz o (.dT xs)))/\aJ Γ ι H kvs xs
structure ao(Γ:Gx)(ι:W0)(H:Hp)(S:af):Prop where
 len:ι.length=S.length
 nd:ι.Nodup
 cell:∀(l:Nat) c,S[l]?=some c->∃a,ι[l]?=some a/\jU Γ ι H a c
structure aU(Γ:Gx)(ι:W0)(H:Hp)(σ:L2.St)(σd:Sg):Prop where
 len:σ.length=σd.length
 var:∀(i:Nat) d,σd[i]?=some (some d)->∃v,σ[i]?=some (some v)/\Rep Γ ι H d v
theorem aU.ext{Γ:Gx}{ι ι1:W0}{H H1:Hp}{σ:L2.St}{σd:Sg}(e:Ext ι ι1 H H1)(h:aU Γ ι H σ σd):aU Γ ι1 H1 σ σd :=
 ⟨h.len,λi d q=>let⟨v,a,b⟩:=h.var i d q; ⟨v,a,b.ext e⟩⟩
abbrev XW:=Str->af->List Addr->Hp->Prop
def Out{α:Type}(Γ:Gx)(xw:XW)(ι:W0)(H:Hp)(r:Res α)(k:α->af->List Addr->Hp->Prop):Prop:=match r with
 | .ok a S'=>∀ι' H',Ext ι ι' H H'->ao Γ ι' H' S'->k a S' ι' H'
 | .exc c S'=>∀ι' H',Ext ι ι' H H'->ao Γ ι' H' S'->xw c S' ι' H'
 | .bad=>False
section
variable{Γ:Gx}{xw:XW}{ι ι1:W0}{H H1:Hp}{α β:Type}
theorem Out.step{r:Res α}{k:α->af->List Addr->Hp->Prop}(h:Out Γ xw ι H r k)(e:Ext ι ι1 H H1):Out Γ xw ι1 H1 r k:=by
 cases r with
 | ok a S'=>exact λι' H' e' s'=>h ι' H' (e.trans e') s'
 | exc c S'=>exact λι' H' e' s'=>h ι' H' (e.trans e') s'
 | bad=>exact h
theorem Out.mono{r:Res α}{k k':α->af->List Addr->Hp->Prop}(h:Out Γ xw ι H r k)(f:∀a S' ι' H',Ext ι ι' H H'->ao Γ ι' H' S'->k a S' ι' H'->k' a S' ι' H'):Out Γ xw ι H r k':=by
 cases r with
 | ok a S'=>exact λι' H' e' s'=>f _ _ _ _ e' s' (h ι' H' e' s')
 | exc c S'=>exact h
 | bad=>exact h
theorem Out.bind{m:M α}{f:α->M β}{S:af}{k:β->af->List Addr->Hp->Prop}(h:Out Γ xw ι H ((m>>=f) S) k) :
  Out Γ xw ι H (m S) (λa S' ι' H'=>ao Γ ι' H' S'/\Ext ι ι' H H'/\Out Γ xw ι' H' (f a S') k):=by
 rw[c_] at h
 cases q:m S with
 | ok a S'=>rw[q] at h; exact λι' H' e' s'=>⟨s',e',Out.step h e'⟩
 | exc c S'=>rw[q] at h; exact h
 | bad=>rw[q] at h; exact h
theorem Out.here{a:α}{S:af}{k:α->af->List Addr->Hp->Prop}(h:Out Γ xw ι H (.ok a S) k)(s:ao Γ ι H S):k a S ι H:=h ι H .refl s
theorem Out.quiet{m:M α}{S:af}{k:α->af->List Addr->Hp->Prop}(h:Out Γ xw ι H (quiet m S) k)(xw':XW):Out Γ xw' ι H (m S) k:=by
 unfold EV.quiet at h
 cases q:m S with
 | ok a S'=>rw[q] at h; exact h
 | exc c S'=>rw[q] at h; exact h.elim
 | bad=>rw[q] at h; exact h.elim
end
noncomputable def tM(Γ:Gx)(xw:XW)(m:Sg->M D):TE:=λσ H Q=>∃σd ι S,aU Γ ι H σ σd/\ao Γ ι H S/\Out Γ xw ι H (m σd S) λd _ ι' H'=>∀v,Rep Γ ι' H' d v->Q v H'
noncomputable def tMT(Γ:Gx)(xw:XW)(m:Sg->M Bool):TT:=λσ H Q=>∃σd ι S,aU Γ ι H σ σd/\ao Γ ι H S/\Out Γ xw ι H (m σd S) λb _ _ H'=>Q b H'
noncomputable def tMA(Γ:Gx)(xw:XW)(m:Sg->M (List D)):TA:=λσ H Q=>∃σd ι S,aU Γ ι H σ σd/\ao Γ ι H S/\Out Γ xw ι H (m σd S) λds _ ι' H'=>∀vs,aA Γ ι' H' ds vs->Q vs H'
theorem PE.imp{X:Cx}{e:Expr}{t t':TE}(h:PE X e t)(f:∀σ H Q,t' σ H Q->t σ H Q):PE X e t':=λpins s σ H Q I q=>h pins s σ H Q I (f σ H Q q)
theorem PT.imp{X:Cx}{e:Expr}{t t':TT}(h:PT X e t)(f:∀σ H Q,t' σ H Q->t σ H Q):PT X e t':=λpins s σ H Q I q=>h pins s σ H Q I (f σ H Q q)
theorem PW.imp{X:Cx}{e:Expr}{t t':TT}(h:PW X e t)(f:∀σ H Q,t' σ H Q->t σ H Q):PW X e t':=λw pins s σ H Q I q=>h w pins s σ H Q I (f σ H Q q)
theorem PA.imp{X:Cx}{e:W7}{t t':TA}(h:PA X e t)(f:∀σ H Q,t' σ H Q->t σ H Q):PA X e t':=λp pins s σ H Q I q=>h p pins s σ H Q I (f σ H Q q)
theorem PS.imp{X:Cx}{e:Stmt}{t t':TS}(h:PS X e t)(f:∀D σ H,t' D σ H->t D σ H):PS X e t':=λpins s σ H D I q=>h pins s σ H D I (f D σ H q)
theorem PSs.imp{X:Cx}{e:List Stmt}{t t':TS}(h:PSs X e t)(f:∀D σ H,t' D σ H->t D σ H):PSs X e t':=λpins s σ H D I q=>h pins s σ H D I (f D σ H q)
section
variable{Γ:Gx}{xw:XW}{σ:L2.St}{H:Hp}
def sS(Γ:Gx)(xw:XW)(f:D->M D)(x:V)(H:Hp)(Q:VK):Prop:=∃ι S dx,ao Γ ι H S/\Rep Γ ι H dx x/\Out Γ xw ι H (f dx S) λd _ ι' H'=>∀v,Rep Γ ι' H' d v->Q v H'
noncomputable def aV(Γ:Gx)(xw:XW)(f:D->D->M D)(x y:V)(H:Hp)(Q:VK):Prop :=
 ∃ι S dx dy,ao Γ ι H S/\Rep Γ ι H dx x/\Rep Γ ι H dy y/\Out Γ xw ι H (f dx dy S) λd _ ι' H'=>∀v,Rep Γ ι' H' d v->Q v H'
def c5(Γ:Gx)(xw:XW)(f:List D->M D)(xs:W8)(H:Hp)(Q:VK):Prop:=∃ι S ds,ao Γ ι H S/\aA Γ ι H ds xs/\Out Γ xw ι H (f ds S) λd _ ι' H'=>∀v,Rep Γ ι' H' d v->Q v H'
theorem xP{ma:Sg->M D}{f:D->M D}{Q:VK}(h:tM Γ xw (λσ=>ma σ>>=f) σ H Q):tM Γ xw ma σ H λx H1=>sS Γ xw f x H1 Q:=by
 obtain⟨σd,ι,S,he,hs,ho⟩:=h;exact⟨σd,ι,S,he,hs,ho.bind.mono λd S' ι' H' _ _ ⟨s',e',o'⟩ v r=>⟨ι',S',d,s',r,o'⟩⟩
theorem mT{ma mb:Sg->M D}{f:D->D->M D}{Q:VK}(h:tM Γ xw (λσ=>ma σ>>=λx=>mb σ>>=λy=>f x y) σ H Q) :
  tM Γ xw ma σ H λx H1=>tM Γ xw mb σ H1 λy H2=>aV Γ xw f x y H2 Q:=by
 obtain⟨σd,ι,S,he,hs,ho⟩:=h;exact⟨σd,ι,S,he,hs,ho.bind.mono λd S' ι' H' _ _ ⟨s',e',o'⟩ v r=>⟨σd,ι',S',he.ext e',s',o'.bind.mono λd2 S2 ι2 H2 _ _ ⟨s2,e2,o2⟩ v2 r2=>⟨ι2,S2,d,d2,s2,r.ext e2,r2,o2⟩⟩⟩
theorem rP{ma:Sg->M (List D)}{f:List D->M D}{Q:VK}(h:tM Γ xw (λσ=>ma σ>>=f) σ H Q):tMA Γ xw ma σ H λxs H1=>c5 Γ xw f xs H1 Q:=by
 obtain⟨σd,ι,S,he,hs,ho⟩:=h;exact⟨σd,ι,S,he,hs,ho.bind.mono λd S' ι' H' _ _ ⟨s',e',o'⟩ v r=>⟨ι',S',d,s',r,o'⟩⟩
end
end EV

namespace EV
open PySem PySem.Spec PyProof.Rows L2
open PySem.SeqAt (EqAt RcAt)
section
variable{X:Cx}{Γ:Gx}{xw:XW}{pins:WT}{σ:L2.St}{H:Hp}{s:WX}{ι:W0}{S:af}
theorem ao.list(hS:ao Γ ι H S){d:D}{v:V}{ds:Ya}(r:Rep Γ ι H d v)(h:asL S d=some ds):∃a xs,v=.ref a/\SqL Γ.K H a xs/\aA Γ ι H ds xs:=by
 cases d with
 | loc l =>
  cases r with
  | loc q =>
   have h':listAt S l=some ds:=h;unfold listAt at h';split at h'
   ·rename_i es e;cases h';obtain⟨a,ha,xs,hx,r⟩:=hS.cell l _ e;rw[q] at ha; cases ha;exact⟨_,xs,rfl,.of hx,r⟩
   ·cases h'
 | fro es =>
  cases h;obtain⟨a,xs,rfl,hf,rs⟩:=r.fz;exact⟨a,xs,rfl,hf.sq,rs⟩
 | _=>cases h
theorem ao.lst(hS:ao Γ ι H S){l:Nat}{ds:Ya}(h:S[l]?=some (.lst ds)):∃a xs,ι[l]?=some a/\H a=some (.lst xs)/\aA Γ ι H ds xs:=by
 obtain⟨a,ha,xs,hx,r⟩:=hS.cell l _ h;exact⟨a,xs,ha,hx,r⟩
theorem wC{l:Nat}:items (.loc l) S=match listAt S l with|some ds=>.ok ds S|none=>.bad:=rfl
theorem gW{α:Type}:∀{xs:List α} {i j:Nat} {x:α},xs.Nodup->xs[i]?=some x->xs[j]?=some x->i=j
 | [],_,_,_,_,h,_=>by simp at h
 | y::r,0,0,_,_,_,_=>rfl
 | y::r,0,j+1,x,nd,h1,h2=>by
  simp at h1 h2;subst h1;exact absurd (ZD h2) (Xf.mp nd).1
 | y::r,i+1,0,x,nd,h1,h2=>by
  simp at h1 h2;subst h2;exact absurd (ZD h1) (Xf.mp nd).1
 | y::r,i+1,j+1,x,nd,h1,h2=>by
  exact Xs (· + 1) (gW (i:=i) (j:=j) (Xf.mp nd).2 (by simpa using h1) (by simpa using h2))
theorem gk{f:D->D->Option Bool}:∀{xs ys:Ya} {k:Bool},bx f xs ys=some k->∃e:Nat->Bool,(∀(j:Nat) x y,xs[j]?=some x->ys[j]?=some y->f x y=some (e j))/\k=(List.range (min xs.length ys.length)).all e
 | [],ys,k,h=>⟨λ_=>true,λj x y e1 e2=>by simp at e1,by simp only[bx] at h; cases h; simp⟩
 | _::_,[],k,h=>⟨λ_=>true,λj x y e1 e2=>by simp at e2,by simp only[bx] at h; cases h; simp⟩
 | x::xs,y::ys,k,h=>by
  simp only[bx] at h;split at h
  ·rename_i a b e1 e2;cases h;obtain⟨e,he,hk⟩:=gk e2;refine⟨λj=>match j with|0=>a|j+1=>e j,λj u v q1 q2=>?_,?_⟩
   ·cases j with
    | zero=>simp at q1 q2; subst q1; subst q2; exact e1
    | succ j=>exact he j u v (by simpa using q1) (by simpa using q2)
   ·rw[show min (x::xs).length (y::ys).length=min xs.length ys.length+1 by simp only[Zy]; omega,List.range_succ_eq_map,WG,WQ];rw[hk];rfl
  ·cases h
theorem Rep.lE{d1 d2:D}{x:V}(q1:Rep Γ ι H d1 x)(q2:Rep Γ ι H d2 x)(e:d1.kd=.flat):d2.kd=.flat:=by
 have h1:Ar x=true:=by cases q1<;>first|rfl|cases e
 cases q2<;>first|rfl|cases h1
theorem Rep.Aj{d1 d2:D}{x:V}(q1:Rep Γ ι H d1 x)(q2:Rep Γ ι H d2 x)(e:d1.kd=.flat):d1=d2:=by
 cases q1<;>first|(cases e; done)|(cases q2; rfl)
theorem Cs{d:D}{k:Bool}(h:bD d d=some k):k=true:=by
 cases d<;>first|(cases h; done)|exact(Option.some.inj h).symm|exact(Option.some.inj h).symm.trans (beq_self_eq_true _)
theorem BU(hK:Γ.K=X.K)(I:Inv X pins σ H s)(hS:ao Γ ι H S):∀(m:Nat) (d1 d2:D) (k:Bool) (x:V),eqD m S d1 d2=some k->Rep Γ ι H d1 x->Rep Γ ι H d2 x->k=true:=by
 obtain⟨K⟩:=Γ;have hK':K=X.K:=hK;subst hK'
 have all:∀(m:Nat),(∀(d1 d2:D) (k:Bool) (x:V),eqD m S d1 d2=some k->Rep ⟨X.K⟩ ι H d1 x->Rep ⟨X.K⟩ ι H d2 x->k=true) ->
   ∀(ds es:Ya) (xs:W8) (r:Bool),aA ⟨X.K⟩ ι H ds xs->aA ⟨X.K⟩ ι H es xs->bx (eqD m S) ds es=some r->r=true:=by
  intro m ihm ds es xs r p1 p2 hr;obtain⟨e,he,hk2⟩:=gk hr;have l1:=p1.length;have l2:=p2.length;rw[hk2,Z9];intro j hj;rw[Z7] at hj;have hj1:j<ds.length:=by omega
  have hj2:j<es.length:=by omega
  obtain⟨y1,a1,a2⟩:=Paired.get p1 (Ze hj1);obtain⟨y2,a3,a4⟩:=Paired.get p2 (Ze hj2);rw[a1] at a3; cases a3;exact ihm _ _ _ y1 (he j _ _ (Ze hj1) (Ze hj2)) a2 a4
 intro m
 induction m with
 | zero=>intro d1 d2 k x h; simp[eqD] at h
 | succ m ihm =>
  intro d1 d2 k x h q1 q2;have hall:=all m ihm
  have tl:∀{es:Ya} {a:Addr} {d:D},(∃xs,SqT X.K H a xs)->∀{z},asL S d=some z->Rep ⟨X.K⟩ ι H d (.ref a)->False:=λ{es a d} ht {z} hz hr=>by
   obtain⟨xs,ht⟩:=ht;obtain⟨b,ys,e,sb,_⟩:=hS.list hr hz;cases e;obtain⟨its,_,pl,_⟩:=I.list sb;obtain⟨its2,_,pt,_⟩:=I.tuple ht;exact absurd rfl (SeqAt.ne_of_list_tuple pl.isList pt)
  cases e1:d1.kd<;>cases e2:d2.kd<;>simp only[eqD,e1,e2] at h
  ·have e:=Rep.Aj q1 q2 e1;rw[<- e] at h;exact Cs h
  ·rw[Rep.lE q1 q2 e1] at e2; cases e2
  ·rw[Rep.lE q1 q2 e1] at e2; cases e2
  ·cases h
  ·rw[Rep.lE q2 q1 e2] at e1; cases e1
  ·cases d1<;>first|(cases e1; done)|skip;cases d2<;>first|(cases e2; done)|skip;obtain⟨a,xs,rfl,t1,p1⟩:=q1.cg;obtain⟨b,ys,eb,t2,p2⟩:=q2.cg;cases eb;have e:xs=ys:=I.lz t1 t2;subst e;simp only[ZG] at h;obtain⟨r,hr,hk⟩:=h;have hl:(D.its (D.tup _)).length=(D.its (D.tup _)).length:=(p1.length).trans p2.length.symm;rw[<- hk,hall _ _ xs r p1 p2 hr,hl]; simp
  ·simp only[ZG] at h;obtain⟨z,hz,_⟩:=h;cases d1<;>first|(cases e1; done)|skip;obtain⟨a,xs,rfl,t1,p1⟩:=q1.cg;exact(tl (es:=[]) ⟨xs,t1⟩ hz q2).elim
  ·cases h
  ·rw[Rep.lE q2 q1 e2] at e1; cases e1
  ·simp only[ZG] at h;obtain⟨z,hz,_⟩:=h;cases d2<;>first|(cases e2; done)|skip;obtain⟨a,xs,rfl,t1,p1⟩:=q2.cg;exact(tl (es:=[]) ⟨xs,t1⟩ hz q1).elim
  ·split at h
   ·rename_i ds es hd he;obtain⟨a,xs,rfl,s1,p1⟩:=hS.list q1 hd;obtain⟨b,ys,eb,s2,p2⟩:=hS.list q2 he;cases eb;have e:xs=ys:=I.kr s1 s2;subst e;rw[Zf (p1.length.trans p2.length.symm)] at h;exact hall _ _ xs k p1 p2 h
   ·cases h
  ·cases h
  ·cases h
  ·cases h
  ·cases h
  ·cases h
theorem CU{A:Around}{d1 d2:D}{k:Bool}{x1 x2:V}{u1 u2:Value}(h:bD d1 d2=some k)(r1:Rep Γ ι H d1 x1)(r2:Rep Γ ι H d2 x2)(v1:RelV x1 u1)(v2:RelV x2 u2)(e1:d1.kd=.flat)(e2:d2.kd=.flat):RcAt A s u1 u2 k/\EqAt A s u1 u2 k:=by
 cases r1<;>first|(cases e1; done)|skip
 all_goals (cases r2<;>first|(cases e2; done)|skip)
 ·cases v1; cases v2; cases Option.some.inj h; exact⟨RcAt.none_none,EqAt.same _⟩
 ·cases v1; cases v2; cases Option.some.inj h; exact⟨.none_bool _,.none_bool _⟩
 ·cases v1; obtain⟨t,rfl⟩:=v2; cases Option.some.inj h; exact⟨.none_int _ t,.none_int _ t⟩
 ·cases v1; obtain⟨t,rfl⟩:=v2; cases Option.some.inj h; exact⟨.none_str _ t,.none_str _ t⟩
 ·cases v1; cases v2; cases Option.some.inj h; exact⟨.bool_none _,.bool_none _⟩
 ·cases v1; cases v2; cases Option.some.inj h; exact⟨.bool_bool _ _,.bool_bool _ _⟩
 ·cases v1; obtain⟨t,rfl⟩:=v2; cases Option.some.inj h; exact⟨.bool_int _ _ t,.bool_int _ _ t⟩
 ·cases v1; obtain⟨t,rfl⟩:=v2; cases Option.some.inj h; exact⟨.bool_str _ _ t,.bool_str _ _ t⟩
 ·obtain⟨ta,rfl⟩:=v1; cases v2; cases Option.some.inj h; exact⟨.int_none _ ta,.int_none _ ta⟩
 ·obtain⟨ta,rfl⟩:=v1; cases v2; cases Option.some.inj h; exact⟨.int_bool _ ta _,.int_bool _ ta _⟩
 ·obtain⟨ta,rfl⟩:=v1; obtain⟨t,rfl⟩:=v2; cases Option.some.inj h; exact⟨.int_int _ ta _ t,.int_int _ ta _ t⟩
 ·obtain⟨ta,rfl⟩:=v1; obtain⟨t,rfl⟩:=v2; cases Option.some.inj h; exact⟨.int_str _ ta _ t,.int_str _ ta _ t⟩
 ·obtain⟨ta,rfl⟩:=v1; cases v2; cases Option.some.inj h; exact⟨.str_none _ ta,.str_none _ ta⟩
 ·obtain⟨ta,rfl⟩:=v1; cases v2; cases Option.some.inj h; exact⟨.str_bool _ ta _,.str_bool _ ta _⟩
 ·obtain⟨ta,rfl⟩:=v1; obtain⟨t,rfl⟩:=v2; cases Option.some.inj h; exact⟨.str_int _ ta _ t,.str_int _ ta _ t⟩
 ·obtain⟨ta,rfl⟩:=v1; obtain⟨t,rfl⟩:=v2; cases Option.some.inj h; exact⟨.str_str _ ta _ t,.str_str _ ta _ t⟩
theorem mS(hK:Γ.K=X.K)(I:Inv X pins σ H s)(hS:ao Γ ι H S):∀(n:Nat) (A:Around) (d1 d2:D) (k:Bool) (x1 x2:V) (u1 u2:Value),eqD n S d1 d2=some k->Rep Γ ι H d1 x1->Rep Γ ι H d2 x2->RelV x1 u1->RelV x2 u2->A.units+n<cLine ->
  RcAt A s u1 u2 k/\EqAt A s u1 u2 k:=by
 have same:=BU hK I hS;obtain⟨K⟩:=Γ;have hK':K=X.K:=hK;subst hK';intro n
 induction n with
 | zero=>intro A d1 d2 k x1 x2 u1 u2 h; simp[eqD] at h
 | succ n ih =>
  intro A d1 d2 k x1 x2 u1 u2 h r1 r2 v1 v2 hu;have hu0:A.units<cLine:=by omega
  have hu1:A.in1.units+n<cLine:=by show A.units+1+n<cLine; omega
  have h0:=h
  have each:∀{ds es:Ya} {xs ys:W8} {its1 its2:WW} {e:Nat->Bool},aA ⟨X.K⟩ ι H ds xs->aA ⟨X.K⟩ ι H es ys->Vals xs its1->Vals ys its2 ->
    (∀(j:Nat) x y,ds[j]?=some x->es[j]?=some y->eqD n S x y=some (e j))->∀(j:Nat) (h1:j<its1.toArray.size) (h2:j<its2.toArray.size),EqAt A.in1 s its1.toArray[j] its2.toArray[j] (e j):=by
   intro ds es xs ys its1 its2 e rp1 rp2 rv1 rv2 he j h1 h2;rw[Zk] at h1 h2;have l1:=rp1.length;have l2:=rp2.length;have l3:=rv1.length;have l4:=rv2.length;have j1:j<ds.length:=by omega
   have j2:j<es.length:=by omega
   obtain⟨y1,a1,a2⟩:=Paired.get rp1 (Ze j1);obtain⟨y2,a3,a4⟩:=Paired.get rp2 (Ze j2);obtain⟨w1,z1,z2⟩:=rv1.get a1;obtain⟨w2,z3,z4⟩:=rv2.get a3;have:=(ih A.in1 ds[j] es[j] (e j) y1 y2 w1 w2 (he j _ _ (Ze j1) (Ze j2)) a2 a4 z2 z4 hu1).2
   have q1:its1.toArray[j]'(by rw[Zk]; exact h1)=w1:=by
    have:its1[j]?=some its1[j]:=Ze h1;rw[z1] at this; cases this; rfl
   have q2:its2.toArray[j]'(by rw[Zk]; exact h2)=w2:=by
    have:its2[j]?=some its2[j]:=Ze h2;rw[z3] at this; cases this; rfl
   rw[q1,q2]; exact this
  have lst:∀{d:D} {x:V} {u:Value} {zs:Ya},Rep ⟨X.K⟩ ι H d x->RelV x u->asL S d=some zs->∃a xs its,x=.ref a/\u=.ref a/\aA ⟨X.K⟩ ι H zs xs/\Vals xs its/\s.heap.IsList a its.toArray:=λ{d x u zs} r rv hz=>by
   obtain⟨b,ys,e,sb,rp⟩:=hS.list r hz;subst e;cases rv;obtain⟨its,rv,p,_⟩:=I.list sb;exact⟨b,ys,its,rfl,rfl,rp,rv,p.isList⟩
  have tpl:∀{ds:Ya} {x:V} {u:Value},Rep ⟨X.K⟩ ι H (.tup ds) x->RelV x u->∃a xs its,x=.ref a/\u=.ref a/\aA ⟨X.K⟩ ι H ds xs/\Vals xs its/\s.heap.IsTuple a its.toArray:=λ{ds x u} r rv=>by
   obtain⟨a,xs,e,t,p⟩:=r.cg;subst e;cases rv;obtain⟨its,rv,p2,_⟩:=I.tuple t;exact⟨a,xs,its,rfl,rfl,p,rv,p2⟩
  cases e1:d1.kd<;>cases e2:d2.kd<;>simp only[eqD,e1,e2] at h
  ·exact CU h r1 r2 v1 v2 e1 e2
  ·cases h;cases d2<;>first|(cases e2; done)|skip;obtain⟨a,xs,its,rfl,rfl,_,_,p⟩:=tpl r2 v2;cases r1<;>first|(cases e1; done)|skip
   ·cases v1; exact⟨.none_tuple p hu0,.none_tuple p hu0⟩
   ·cases v1; exact⟨.bool_tuple _ p hu0,.bool_tuple _ p hu0⟩
   ·obtain⟨ta,rfl⟩:=v1; exact⟨.int_tuple _ ta p hu0,.int_tuple _ ta p hu0⟩
   ·obtain⟨ta,rfl⟩:=v1; exact⟨.str_tuple _ ta p hu0,.str_tuple _ ta p hu0⟩
  ·simp only[ZG] at h;obtain⟨z,hz,rfl⟩:=h;obtain⟨a,xs,its,rfl,rfl,_,_,p⟩:=lst r2 v2 hz;cases r1<;>first|(cases e1; done)|skip
   ·cases v1; exact⟨.none_list p hu0,.none_list p hu0⟩
   ·cases v1; exact⟨.bool_list _ p hu0,.bool_list _ p hu0⟩
   ·obtain⟨ta,rfl⟩:=v1; exact⟨.int_list _ ta p hu0,.int_list _ ta p hu0⟩
   ·obtain⟨ta,rfl⟩:=v1; exact⟨.str_list _ ta p hu0,.str_list _ ta p hu0⟩
  ·cases h
  ·cases h;cases d1<;>first|(cases e1; done)|skip;obtain⟨a,xs,its,rfl,rfl,_,_,p⟩:=tpl r1 v1;cases r2<;>first|(cases e2; done)|skip
   ·cases v2; exact⟨.tuple_none p hu0,.tuple_none p hu0⟩
   ·cases v2; exact⟨.tuple_bool _ p hu0,.tuple_bool _ p hu0⟩
   ·obtain⟨ta,rfl⟩:=v2; exact⟨.tuple_int _ ta p hu0,.tuple_int _ ta p hu0⟩
   ·obtain⟨ta,rfl⟩:=v2; exact⟨.tuple_str _ ta p hu0,.tuple_str _ ta p hu0⟩
  ·cases d1<;>first|(cases e1; done)|skip;cases d2<;>first|(cases e2; done)|skip;obtain⟨a,xs,its1,rfl,rfl,rp1,rv1,p1⟩:=tpl r1 v1;obtain⟨b,ys,its2,rfl,rfl,rp2,rv2,p2⟩:=tpl r2 v2;simp only[ZG] at h;obtain⟨r,hr,hk⟩:=h;obtain⟨e,he,hk2⟩:=gk hr
   have rc:RcAt A s (.ref a) (.ref b) k:=by
    have:=RcAt.tuples (A:=A) (e:=e) p1 p2 hu0 (each rp1 rp2 rv1 rv2 he);rw[Zk,Zk,<- rv1.length,<- rv2.length,<- rp1.length,<- rp2.length] at this;rw[<- hk,hk2]; exact this
   refine⟨rc,?_⟩
   by_cases hab:a=b
   ·subst hab;rw[same _ _ _ k _ h0 r1 r2]; exact EqAt.same _
   ·exact .of_refs hab rc
  ·simp only[ZG] at h;obtain⟨z,hz,rfl⟩:=h;cases d1<;>first|(cases e1; done)|skip;obtain⟨a,xs,its1,rfl,rfl,rp1,rv1,p1⟩:=tpl r1 v1;obtain⟨b,ys,its2,rfl,rfl,rp2,rv2,p2⟩:=lst r2 v2 hz;exact⟨.tuple_list p1 p2 hu0,.tuple_list p1 p2 hu0⟩
  ·cases h
  ·simp only[ZG] at h;obtain⟨z,hz,rfl⟩:=h;obtain⟨a,xs,its,rfl,rfl,_,_,p⟩:=lst r1 v1 hz;cases r2<;>first|(cases e2; done)|skip
   ·cases v2; exact⟨.list_none p hu0,.list_none p hu0⟩
   ·cases v2; exact⟨.list_bool _ p hu0,.list_bool _ p hu0⟩
   ·obtain⟨ta,rfl⟩:=v2; exact⟨.list_int _ ta p hu0,.list_int _ ta p hu0⟩
   ·obtain⟨ta,rfl⟩:=v2; exact⟨.list_str _ ta p hu0,.list_str _ ta p hu0⟩
  ·simp only[ZG] at h;obtain⟨z,hz,rfl⟩:=h;cases d2<;>first|(cases e2; done)|skip;obtain⟨a,xs,its1,rfl,rfl,rp1,rv1,p1⟩:=tpl r2 v2;obtain⟨b,ys,its2,rfl,rfl,rp2,rv2,p2⟩:=lst r1 v1 hz;exact⟨.list_tuple p2 p1 hu0,.list_tuple p2 p1 hu0⟩
  ·split at h
   ·rename_i ds es hd he;obtain⟨a,xs,its1,rfl,rfl,rp1,rv1,p1⟩:=lst r1 v1 hd;obtain⟨b,ys,its2,rfl,rfl,rp2,rv2,p2⟩:=lst r2 v2 he;have e1:its1.toArray.size=ds.length:=by rw[Zk,<- rv1.length,<- rp1.length]
    have e2:its2.toArray.size=es.length:=by rw[Zk,<- rv2.length,<- rp2.length]
    have rc:RcAt A s (.ref a) (.ref b) k:=by
     by_cases hlen:ds.length=es.length
     ·rw[Zf hlen] at h;obtain⟨e,he',hk2⟩:=gk h;have:=RcAt.lists (A:=A) (e:=e) p1 p2 (by omega) hu0 (each rp1 rp2 rv1 rv2 he');rw[e1] at this; rw[hk2,<- hlen,Nat.min_self]; exact this
     ·rw[Zh hlen] at h;cases h;exact RcAt.lists_lengths p1 p2 (by rw[e1,e2]; simpa using hlen) hu0
    refine⟨rc,?_⟩
    by_cases hab:a=b
    ·subst hab;rw[same _ _ _ k _ h0 r1 r2]; exact EqAt.same _
    ·exact .of_refs hab rc
   ·cases h
  ·cases h
  ·cases h
  ·cases h
  ·cases h
  ·cases h
end
end EV

namespace HT
open PySem PyProof.Rows
section
variable{prog:WZ}{w:W2}{A:Around}{E:WS}{s:WX}
theorem Dp{t sl:Addr}{items:W5}{vl vu:Value}{lo hi:Option Int}{Q:WS}(ht:IsTup s.heap t items)(hs:s.heap.IsSliceOf sl vl vu .none)(pl:IsPart vl lo)(pu:IsPart vu hi)
  (hw:sIx items.size 0 lo=0/\sIx items.size items.size hi=items.size) (h:Q (.ref t) s):wpAny (model prog w) A (getItem (.ref t) (.ref sl)) Q E s:=by
 obtain⟨os,hos,hcs,hds⟩:=id hs;have hTs:s.TypeIs (.ref sl) "slice":=⟨os,hos,hcs⟩
 unfold getItem
 try with_reducible refine Xg ?_
 first|refine Za (Zc ?_)|skip
 refine Za (wpAny_sequenceKey ht.typeIs (by decide) ?_)
 refine Za (ZY (name:=Str.ofString "__getitem__") ht.typeIs X0
  (ZT X0 ht.typeIs entry_tuple_getitem ?_ (args_tuple_getitem _ _)))
 show wpAny _ _ (Builtin.Tuple.tupleItemsOf (.ref t)>>=_) _ _ s;refine Za (tupleItemsOf_ ht ?_);refine Za (XT hTs ?_);rw[Zf (by decide)];refine Za (uG hs pl pu ?_)
 have hyes:(((sIx items.size 0 lo:Nat):Int)==0&&(1:Int)==1&&(sIx items.size items.size hi-sIx items.size 0 lo)==items.size)=true:=by
  rw[hw.1,hw.2]; simp
 show wpAny _ _ (if(((sIx items.size 0 lo:Nat):Int)==0&&(1:Int)==1&&(sIx items.size items.size hi-sIx items.size 0 lo)==items.size)=true then _ else _) _ _ s;rw[Zf hyes]
 have hx:∀{P:Bool->Shared->Prop},P true s->wpAny (model prog w) A.in1 (Builtin.Tuple.tupleIsExact (.ref t)) P E s:=λ{P} hp=>by
  unfold Builtin.Tuple.tupleIsExact;refine Za (XT ht.typeIs (Zc ?_));simpa using hp
 refine Za (hx ?_);rw[Zf rfl];exact Za (QA (Zc ⟨_,rfl,Zc h⟩))
end
end HT
namespace EV
open PySem PySem.Spec PyProof.Rows L2
open PySem.SeqAt (EqAt RcAt)
section
variable{X:Cx}{Γ:Gx}{xw:XW}{pins:WT}{σ:L2.St}{H:Hp}{s:WX}{ι:W0}{S:af}
theorem ao.new(hS:ao Γ ι H S){p:Addr}(hp:H p=none):p∉ι:=λm=>by
 obtain⟨l,e⟩:=ZP m;have hl:l<S.length:=by rw[<- hS.len]; exact(Zi.mp e).1
 obtain⟨a,ha,c⟩:=hS.cell l S[l] (Ze hl);rw[e] at ha; cases ha
 cases q:S[l] with
 | lst ds=>rw[q] at c; obtain⟨xs,hx,_⟩:=c; rw[hp] at hx; cases hx
 | dct kvs=>rw[q] at c; obtain⟨xs,hx,_⟩:=c; rw[hp] at hx; cases hx
 | fdc kvs=>rw[q] at c; obtain⟨xs,⟨o,hx⟩,_⟩:=c; rw[hp] at hx; cases hx
theorem jU.ext{ι1:W0}{H1:Hp}(e:Ext ι ι1 H H1){a:Addr}{c:Cell}(h:jU Γ ι H a c)(hl:∀o,H a=some o->H1 a=some o):jU Γ ι1 H1 a c:=by
 cases c with
 | lst ds=>obtain⟨xs,hx,r⟩:=h; exact⟨xs,hl _ hx,aA.ext e r⟩
 | dct kvs=>obtain⟨xs,hx,r⟩:=h; exact⟨xs,hl _ hx,Paired.imp (λ_ _ q=>⟨q.1,q.2.ext e⟩) r⟩
 | fdc kvs=>obtain⟨xs,⟨o,hx⟩,r⟩:=h; exact⟨xs,⟨o,hl _ hx⟩,Paired.imp (λ_ _ q=>⟨q.1,q.2.ext e⟩) r⟩
theorem ao.more(hS:ao Γ ι H S){p:Addr}(hp:H p=none){ds:Ya}{xs:W8}(r:aA Γ ι H ds xs):ao Γ (ι++[p]) (upd H p (.lst xs)) (S++[.lst ds]):=by
 have e:Ext ι (ι++[p]) H (upd H p (.lst xs)):=Ext.more hp;refine⟨by simp[hS.len],XQ.mpr ⟨hS.nd,by simp,?_⟩,λl c h=>?_⟩
 ·intro a ha b hb;have:b=p:=by simpa using hb
  subst this;exact λz=>hS.new hp (z▸ha)
 ·by_cases hl:l<S.length
  ·rw[ZC hl] at h;obtain⟨a,ha,c1⟩:=hS.cell l c h;exact⟨a,fV e.pre ha,c1.ext e λys hy=>by rw[aF (bF hy hp)]; exact hy⟩
  ·rw[ZO (by omega)] at h
   have hl2:l-S.length=0:=by
    have:=(Zi.mp h).1;simp at this; omega
   rw[hl2] at h;have h':(Cell.lst ds)=c:=by simpa using h
   subst h';have e1:l=ι.length:=by rw[hS.len]; omega
   subst e1;exact⟨p,by simp,xs,cH,aA.ext e r⟩
theorem ao.laid(hS:ao Γ ι H S){p:Addr}(hp:H p=none)(o:HO):ao Γ ι (upd H p o) S :=
 ⟨hS.len,hS.nd,λl c h=>let⟨a,ha,c1⟩:=hS.cell l c h; ⟨a,ha,c1.ext (Ext.laid hp) λys hy=>by rw[aF (bF hy hp)]; exact hy⟩⟩
theorem Out.alloc{Q:VK}{ds:Ya}{xs:W8}{p:Addr}(ho:Out Γ xw ι H (alloc (.lst ds) S) λd _ ι' H'=>∀v,Rep Γ ι' H' d v->Q v H')(hS:ao Γ ι H S)(hp:H p=none)(r:aA Γ ι H ds xs):Q (.ref p) (upd H p (.lst xs)) :=
 ho (ι++[p]) _ (Ext.more hp) (hS.more hp r) _ (.loc (by rw[<- hS.len]; simp))
theorem Out.tup{Q:VK}{ds:Ya}{xs:W8}{p:Addr}(ho:Out Γ xw ι H (.ok (.tup ds) S) λd _ ι' H'=>∀v,Rep Γ ι' H' d v->Q v H')(hS:ao Γ ι H S)(hp:H p=none)(r:aA Γ ι H ds xs):Q (.ref p) (upd H p (.tup xs)) :=
 ho ι _ (Ext.laid hp) (hS.laid hp _) _ (.jX cH (aA.ext (Ext.laid hp) r))
theorem Out.val{Q:VK}{d:D}{v:V}(ho:Out Γ xw ι H (.ok d S) λd _ ι' H'=>∀v,Rep Γ ι' H' d v->Q v H')(hS:ao Γ ι H S)(r:Rep Γ ι H d v):Q v H:=ho.here hS v r
theorem Out.guard{α:Type}{b:Bool}{m:M α}{k:α->af->List Addr->Hp->Prop}(h:Out Γ xw ι H (EV.guard b m S) k):b=true/\Out Γ xw ι H (m S) k:=by
 cases b with
 | true=>exact⟨rfl,h⟩
 | false=>exact h.elim
theorem jd{n:Nat}(h:fits n=true):n<=sizeLine:=Zl h
theorem vB{n:Nat}(h:fC n=true):n<sizeLine:=Zl h
theorem Out.opt{α β:Type}{o:Option α}{f:α->M β}{k:β->af->List Addr->Hp->Prop}(h:Out Γ xw ι H ((EV.opt o>>=f) S) k):∃a,o=some a/\Out Γ xw ι H (f a S) k:=by
 cases o with
 | none=>exact h.elim
 | some a=>exact⟨a,rfl,h⟩
theorem Out.bg{l:Nat}{f:List D->M D}{k:D->af->List Addr->Hp->Prop}(h:Out Γ xw ι H (EV.bg l f S) k):∃ds,S[l]?=some (.lst ds)/\Out Γ xw ι H (f ds S) k:=by
 have e:EV.bg l f S=match S[l]? with|some (.lst ds)=>f ds S|_=>.bad:=rfl
 rw[e] at h
 cases q:S[l]? with
 | none=>rw[q] at h; exact h.elim
 | some c =>
  rw[q] at h
  cases c with
  | lst ds=>exact⟨ds,rfl,h⟩
  | dct kvs=>exact h.elim
  | fdc kvs=>exact h.elim
theorem Bu(hK:Γ.K=X.K):OpR X (binaryOp .Add) (aV Γ xw (opD .add)):=by
 intro pins s σ H x y v u Q I rx ry h;obtain⟨ι,S,dx,dy,hS,r1,r2,ho⟩:=h
 cases dx with
 | int i =>
  cases dy with
  | int j=>cases r1; cases r2; exact DE pins s σ H _ _ v u Q I rx ry ⟨i,j,rfl,rfl,Out.val ho hS (.int _)⟩
  | _=>exact ho.elim
 | loc l =>
  cases dy with
  | loc m =>
   obtain⟨ds,e1,ho⟩:=Out.bg ho;obtain⟨es,e2,ho⟩:=Out.bg ho;obtain⟨hz,ho⟩:=Out.guard ho;obtain⟨a,xs,ha,hx,p1⟩:=hS.lst e1;obtain⟨b,ys,hb,hy,p2⟩:=hS.lst e2
   cases r1 with
   | loc q1 =>
    cases r2 with
    | loc q2 =>
     rw[ha] at q1; cases q1;rw[hb] at q2; cases q2;exact Cn pins s σ H _ _ v u Q I rx ry ⟨a,b,xs,ys,rfl,rfl,hx,hy,by rw[<- p1.length,<- p2.length]; exact jd hz,λp hp=>Out.alloc ho hS hp (Paired.app p1 p2)⟩
  | _=>exact ho.elim
 | _=>exact ho.elim
theorem Gb:OpR X (binaryOp .Sub) (aV Γ xw (opD .sub)):=by
 intro pins s σ H x y v u Q I rx ry h;obtain⟨ι,S,dx,dy,hS,r1,r2,ho⟩:=h
 cases dx with
 | int i =>
  cases dy with
  | int j=>cases r1; cases r2; exact DG pins s σ H _ _ v u Q I rx ry ⟨i,j,rfl,rfl,Out.val ho hS (.int _)⟩
  | _=>exact ho.elim
 | _=>exact ho.elim
theorem GB(hK:Γ.K=X.K):OpR X (binaryOp .Mult) (aV Γ xw (opD .mul)):=by
 intro pins s σ H x y v u Q I rx ry h;obtain⟨ι,S,dx,dy,hS,r1,r2,ho⟩:=h
 cases dx with
 | int i =>
  cases dy with
  | int j =>
   cases r1; cases r2;obtain⟨hz,ho⟩:=Out.guard ho;refine BJ pins s σ H _ _ v u Q I rx ry ⟨i,j,rfl,rfl,?_,Out.val ho hS (.int _)⟩;rcases Bool.or_eq_true_iff.mp hz with hz|hz
   ·exact .inl (Zl hz)
   ·exact .inr (Zl hz)
  | _=>exact ho.elim
 | _=>exact ho.elim
theorem IF:OpR X (binaryOp .FloorDiv) (aV Γ xw (opD .fdiv)):=by
 intro pins s σ H x y v u Q I rx ry h;obtain⟨ι,S,dx,dy,hS,r1,r2,ho⟩:=h
 cases dx with
 | int i =>
  cases dy with
  | int j =>
   cases r1; cases r2;obtain⟨hz,ho⟩:=Out.guard ho;rw[Zv] at hz;exact JE pins s σ H _ _ v u Q I rx ry ⟨i,j,rfl,rfl,⟨Zl hz.1,Zl hz.2⟩,Out.val ho hS (.int _)⟩
  | _=>exact ho.elim
 | _=>exact ho.elim
theorem B0:OpR X (binaryOp .Mod) (aV Γ xw (opD .mod)):=by
 intro pins s σ H x y v u Q I rx ry h;obtain⟨ι,S,dx,dy,hS,r1,r2,ho⟩:=h
 cases dx with
 | int i =>
  cases dy with
  | int j =>
   cases r1; cases r2;obtain⟨hz,ho⟩:=Out.guard ho;exact Cb pins s σ H _ _ v u Q I rx ry ⟨i,j,rfl,rfl,Zl hz,Out.val ho hS (.int _)⟩
  | _=>exact ho.elim
 | _=>exact ho.elim
theorem CI:OpR X (binaryOp .Pow) (aV Γ xw (opD .pow)):=by
 intro pins s σ H x y v u Q I rx ry h;obtain⟨ι,S,dx,dy,hS,r1,r2,ho⟩:=h
 cases dx with
 | int i =>
  cases dy with
  | int j =>
   cases r1; cases r2;obtain⟨hz,ho⟩:=Out.guard ho;rw[Zv,Zv] at hz;have h2:j<=1000:=Zl hz.1.2;exact IL pins s σ H _ _ v u Q I rx ry ⟨i,j,rfl,rfl,⟨Zl hz.1.1,by omega,Zl hz.2⟩,Out.val ho hS (.int _)⟩
  | _=>exact ho.elim
 | _=>exact ho.elim
theorem kH{op:CmpOp}{p:Int->Int->Bool}(h0:OpR X (compareOp op) (rI0 λi j=>.bl (p i j))):OpR X (compareOp op) (aV Γ xw (gx p)):=by
 intro pins s σ H x y v u Q I rx ry h;obtain⟨ι,S,dx,dy,hS,r1,r2,ho⟩:=h
 cases dx with
 | int i =>
  cases dy with
  | int j=>cases r1; cases r2; exact h0 pins s σ H _ _ v u Q I rx ry ⟨i,j,rfl,rfl,Out.val ho hS (.bl _)⟩
  | _=>exact ho.elim
 | _=>exact ho.elim
theorem xS:OpR X (compareOp .Lt) (aV Γ xw (cmD .lt)):=kH xJ
theorem CS:OpR X (compareOp .LtE) (aV Γ xw (cmD .le)):=kH Dc
theorem DA:OpR X (compareOp .Gt) (aV Γ xw (cmD .gt)):=kH BW
theorem Cf:OpR X (compareOp .GtE) (aV Γ xw (cmD .ge)):=kH IQ
theorem qk{dx dy:D}{f:Bool->M D}{k:D->af->List Addr->Hp->Prop}(ho:Out Γ xw ι H ((eqM dx dy>>=f) S) k):∃b,eqD deep S dx dy=some b/\Out Γ xw ι H (f b S) k:=by
 rw[c_] at ho;unfold eqM at ho
 cases q:eqD deep S dx dy with
 | none=>rw[q] at ho; exact ho.elim
 | some b=>rw[q] at ho; exact⟨b,rfl,ho⟩
theorem s_eq(hK:Γ.K=X.K)(hu:X.A.units+64<cLine):OpR X (compareOp .Eq) (aV Γ xw (cmD .eq)):=by
 intro pins s σ H x y v u Q I rx ry h;obtain⟨ι,S,dx,dy,hS,r1,r2,ho⟩:=h;obtain⟨k,q,ho⟩:=qk ho;have:=(mS hK I hS deep X.A dx dy k x y v u q r1 r2 rx ry (by unfold deep; omega)).1;exact this X.prog X.w X.xe _ ⟨.bl k,H,I,rfl,Out.val ho hS (.bl _)⟩
end
end EV

namespace EV
open PySem PySem.Spec PyProof.Rows L2
open PySem.SeqAt (EqAt RcAt)
section
variable{X:Cx}{Γ:Gx}{xw:XW}{pins:WT}{σ:L2.St}{H:Hp}{s:WX}{ι:W0}{S:af}
theorem qu(hK:Γ.K=X.K)(I:Inv X pins σ H s)(hS:ao Γ ι H S){n:Nat}{A:Around}(hu:A.units+n<cLine){ds es:Ya}{xs ys:W8}{its1 its2:WW}{e:Nat->Bool}(rp1:aA Γ ι H ds xs)(rp2:aA Γ ι H es ys)
  (rv1:Vals xs its1) (rv2:Vals ys its2) (he:∀(j:Nat) x y,ds[j]?=some x->es[j]?=some y->eqD n S x y=some (e j)) (j:Nat) (h1:j<its1.toArray.size) (h2:j<its2.toArray.size):EqAt A s its1.toArray[j] its2.toArray[j] (e j):=by
 rw[Zk] at h1 h2;have l1:=rp1.length;have l2:=rp2.length;have l3:=rv1.length;have l4:=rv2.length;have j1:j<ds.length:=by omega
 have j2:j<es.length:=by omega
 obtain⟨y1,a1,a2⟩:=Paired.get rp1 (Ze j1);obtain⟨y2,a3,a4⟩:=Paired.get rp2 (Ze j2);obtain⟨w1,z1,z2⟩:=rv1.get a1;obtain⟨w2,z3,z4⟩:=rv2.get a3;have:=(mS hK I hS n A ds[j] es[j] (e j) y1 y2 w1 w2 (he j _ _ (Ze j1) (Ze j2)) a2 a4 z2 z4 hu).2
 have q1:its1.toArray[j]'(by rw[Zk]; exact h1)=w1:=by
  have:its1[j]?=some its1[j]:=Ze h1;rw[z1] at this; cases this; rfl
 have q2:its2.toArray[j]'(by rw[Zk]; exact h2)=w2:=by
  have:its2[j]?=some its2[j]:=Ze h2;rw[z3] at this; cases this; rfl
 rw[q1,q2]; exact this
theorem F9(n:Nat)(S:af)(xs ys:Ya):eqD (n+1) S (.tup xs) (.tup ys)=(bx (eqD n S) xs ys).map λr=>r&&(xs.length==ys.length):=rfl
theorem Ef(n:Nat)(S:af)(a b:D)(h1:a.kd=.list)(h2:b.kd=.list):eqD (n+1) S a b=match asL S a,asL S b with
  | some xs,some ys=>if xs.length=ys.length then bx (eqD n S) xs ys else some false
  | _,_=>none:=by simp only[eqD,h1,h2]<;>rfl
theorem DW{a b:D}(h:eF a b=true):(a.kd=.flat/\b.kd=.flat)\/(a.kd=.tup/\b.kd=.tup)\/(a.kd=.list/\b.kd=.list)\/∃xs y,a=.tup xs/\b=.str y:=by
 cases a<;>cases b<;>first|exact .inl ⟨rfl,rfl⟩|exact .inr (.inl ⟨rfl,rfl⟩)|exact .inr (.inr (.inl ⟨rfl,rfl⟩))|exact .inr (.inr (.inr ⟨_,_,rfl,rfl⟩))|cases h
theorem EH{S:af}{a b:D}(e1:a.kd=.flat)(e2:b.kd=.flat):eqD deep S a b=bD a b:=by
 show eqD (11+1) S a b=_;simp only[eqD,e1,e2]
theorem Gg{S:af}{a b:D}{x y:V}{k:Bool}(hn:eF a b=true)(q:eqD deep S a b=some k)(r1:Rep Γ ι H a x)(r2:Rep Γ ι H b y)(e1:a.kd=.flat)(e2:b.kd=.flat):xB x y=true/\(decide (x=y))=k:=by
 rw[EH e1 e2] at q;clear S;cases r1<;>first|(cases e1; done)|skip
 all_goals (cases r2<;>first|(cases e2; done)|(cases hn; done)|skip)
 all_goals (refine⟨rfl,?_⟩; cases Option.some.inj q; first|rfl|(rw[show(decide _:Bool)=_ from lM]; done)|(rw[show(decide _:Bool)=_ from lM])|rw[ri]|rw[wV]|simp)
theorem FE(hK:Γ.K=X.K)(hu:X.A.units+64<cLine):OpR X (compareOp .NotEq) (aV Γ xw (cmD .ne)):=by
 intro pins s σ H x y v u Q I rx ry h;obtain⟨ι,S,dx,dy,hS,r1,r2,ho⟩:=h;obtain⟨hn,ho⟩:=Out.guard ho;obtain⟨k,q,ho⟩:=qk ho;have fin:Q (.bl (!k)) H:=Out.val ho hS (.bl _);have hu0:X.A.units<cLine:=by omega
 have hd:deep=11+1:=rfl;rcases DW hn with⟨e1,e2⟩|⟨e1,e2⟩|⟨e1,e2⟩|⟨xs0,y0,rfl,rfl⟩
 ·obtain⟨z1,z2⟩:=Gg hn q r1 r2 e1 e2;exact zR pins s σ H _ _ v u Q I rx ry ⟨z1,by rw[z2]; exact fin⟩
 ·-- tuples
  cases dx<;>first|(cases e1; done)|skip;cases dy<;>first|(cases e2; done)|skip;obtain⟨a,xs,rfl,t1,p1⟩:=r1.cg;obtain⟨b,ys,rfl,t2,p2⟩:=r2.cg;cases rx;cases ry;rw[hK] at t1 t2;obtain⟨its1,rv1,pt1,_⟩:=I.tuple t1;obtain⟨its2,rv2,pt2,_⟩:=I.tuple t2;rw[hd,F9,ZG] at q;obtain⟨r,hr,hk⟩:=q;obtain⟨e,he,hk2⟩:=gk hr;refine NEQ.Fo (same:=e) pt1 pt2 hu0 (qu hK I hS (by show X.A.units+1+11<_; omega) p1 p2 rv1 rv2 he) ?_;rw[Zk,Zk,<- rv1.length,<- rv2.length,<- p1.length,<- p2.length,<- hk2,hk];exact⟨.bl (!k),H,I,rfl,fin⟩
 ·-- lists
  rw[hd,Ef _ _ _ _ e1 e2] at q;split at q
  ·rename_i ds es h1 h2;obtain⟨a,xs,rfl,s1,p1⟩:=hS.list r1 h1;obtain⟨b,ys,rfl,s2,p2⟩:=hS.list r2 h2;cases rx;cases ry;rw[hK] at s1 s2;obtain⟨its1,rv1,pl1,_⟩:=I.list s1;obtain⟨its2,rv2,pl2,_⟩:=I.list s2;have z1:its1.toArray.size=ds.length:=by rw[Zk,<- rv1.length,<- p1.length]
   have z2:its2.toArray.size=es.length:=by rw[Zk,<- rv2.length,<- p2.length]
   by_cases hlen:ds.length=es.length
   ·rw[Zf hlen] at q;obtain⟨e,he,hk2⟩:=gk q;refine NEQ.JF (same:=e) pl1.isList pl2.isList (by omega) hu0 (qu hK I hS (by show X.A.units+1+11<_; omega) p1 p2 rv1 rv2 he) ?_;rw[z1,show(List.range ds.length).all e=k by rw[hk2,<- hlen,Nat.min_self]];exact⟨.bl (!k),H,I,rfl,fin⟩
   ·rw[Zh hlen] at q;cases q;exact NEQ.Ju pl1.isList pl2.isList (by rw[z1,z2]; simpa using hlen) hu0 ⟨.bl true,H,I,rfl,fin⟩
  ·cases q
 ·-- a tuple and a text
  cases(show some false=some k from q);obtain⟨a,xs,rfl,t1,p1⟩:=r1.cg;cases r2;cases rx;obtain⟨tk,rfl⟩:=(show ∃tk,u=Value.str y0 tk from ry)
  rw[hK] at t1;obtain⟨its1,rv1,pt1,_⟩:=I.tuple t1;exact PySem.SeqAt.RcNeAt.tuple_str y0 tk pt1 hu0 _ _ _ _ ⟨.bl true,H,I,rfl,fin⟩
theorem Rep.inj(hK:Γ.K=X.K)(I:Inv X pins σ H s)(hS:ao Γ ι H S){d:D}{v:V}(r:Rep Γ ι H d v):∀{d':D},Rep Γ ι H d' v->d=d':=by
 obtain⟨K⟩:=Γ;have hK':K=X.K:=hK;subst hK'
 have tl:∀{a:Addr} {xs ys:W8},SqT X.K H a xs->SqL X.K H a ys->False:=λ{a xs ys} ht hl=>by
  obtain⟨its,_,pl,_⟩:=I.list hl;obtain⟨its2,_,pt,_⟩:=I.tuple ht;exact absurd rfl (SeqAt.ne_of_list_tuple pl.isList pt)
 have td:∀{a:Addr} {xs:W8} {kvs:W9},SqT X.K H a xs->H a=some (.dT kvs)->False:=λ{a xs kvs} ht hd=>by
  obtain⟨its2,_,⟨o,e1,_,n,e2⟩,_⟩:=I.tuple ht;obtain⟨_,_,_,_,o',es,ep,h1,_,h2,_⟩:=(show a_ X.prog X.w H s.heap a (.dT kvs) from I.hok a _ hd)
  rw[e1] at h1; cases h1;rw[e2] at h2; cases h2
 have tf:∀{a:Addr} {xs:W8} {o:Obj} {kvs:W9},SqT X.K H a xs->H a=some (.frz o (.dT kvs))->False:=λ{a xs o kvs} ht hd=>by
  obtain⟨its2,_,⟨o1,e1,_,n,e2⟩,_⟩:=I.tuple ht;obtain⟨g1,_,_,_,_,o',es,ep,h1,_,h2,_⟩:=(show s.heap.get? a=some o/\a_ X.prog X.w H s.heap a (.dT kvs) from I.hok a _ hd)
  rw[e1] at h1; cases h1;rw[e2] at h2; cases h2
 have tll:∀{l:Nat} {a:Addr} {xs:W8},SqT X.K H a xs->((∃ys,H a=some (.lst ys))\/(∃ys,H a=some (.dT ys))\/∃o ys,H a=some (.frz o (.dT ys)))->False:=λ{l a xs} ht h=>by
  rcases h with⟨ys,hy⟩|⟨ys,hy⟩|⟨o,ys,hy⟩
  ·exact tl ht (.of hy)
  ·exact td ht hy
  ·exact tf ht hy
 have ll:∀{l:Nat} {a:Addr},ι[l]?=some a->(∃xs,H a=some (.lst xs))\/(∃xs,H a=some (.dT xs))\/∃o xs,H a=some (.frz o (.dT xs)):=λ{l a} q=>by
  have hl:l<S.length:=by rw[<- hS.len]; exact(Zi.mp q).1
  obtain⟨b,hb,c⟩:=hS.cell l S[l] (Ze hl);rw[q] at hb; cases hb
  cases e:S[l] with
  | lst ds=>rw[e] at c; obtain⟨xs,hx,_⟩:=c; exact .inl ⟨xs,hx⟩
  | dct kvs=>rw[e] at c; obtain⟨xs,hx,_⟩:=c; exact .inr (.inl ⟨xs,hx⟩)
  | fdc kvs=>rw[e] at c; obtain⟨xs,⟨o,hx⟩,_⟩:=c; exact .inr (.inr ⟨o,xs,hx⟩)
 have fl:∀{l:Nat} {a:Addr} {xs:W8},Fro X.K H a xs->ι[l]?=some a->False:=λ{l a xs} hf q=>by
  obtain⟨ob,hy,hno⟩:∃ob,H a=some ob/\∀o us,ob≠.frz o (.lst us):=by
   rcases ll q with⟨ys,hy⟩|⟨ys,hy⟩|⟨o',ys,hy⟩
   ·exact⟨_,hy,λ_ _ z=>by cases z⟩
   ·exact⟨_,hy,λ_ _ z=>by cases z⟩
   ·exact⟨_,hy,λ_ _ z=>by cases z⟩
  rcases hf with⟨o,hf⟩|hf
  ·rw[hy] at hf; exact hno _ _ (Z1 hf)
  ·rcases hf (λ_=>none) with(z|⟨_,z⟩)|z
   ·cases z
   ·cases z
   ·obtain⟨o,_,_,hk,_⟩:=z;have hb:X.base.get? a=some o:=I.ok.mod.kin a o hk;have:=(I.bs a o hb).2;rw[hy] at this; cases this
 induction r with
 | non=>intro d' r'; cases r'; rfl
 | bl b=>intro d' r'; cases r'; rfl
 | int i=>intro d' r'; cases r'; rfl
 | str x=>intro d' r'; cases r'; rfl
 | @tup ds a xs t1 l1 p1 k1 ih =>
  intro d' r'
  cases r' with
  | @tup es _ ys t2 l2 p2 _ =>
   have e:xs=ys:=I.lz t1 t2;subst e;congr 1;refine QL λj=>?_
   by_cases hj:j<ds.length
   ·have h1:=Ze hj;have h2:es[j]?=some es[j]:=Ze (by omega);have h3:xs[j]?=some xs[j]:=Ze (by omega);rw[h1,h2,ih j _ _ h1 h3 (p2 j _ _ h2 h3)]
   ·rw[XC (by omega),XC (by omega)]
  | fro f2 _ _=>exact(tl t1 f2.sq).elim
  | loc q=>exact(tll (l:=0) t1 (ll q)).elim
 | @fro ds a xs f1 l1 p1 ih =>
  intro d' r'
  cases r' with
  | tup t2 _ _ _=>exact(tl t2 f1.sq).elim
  | @fro es _ ys f2 l2 p2 =>
   have e:xs=ys:=I.kr f1.sq f2.sq;subst e;congr 1;refine QL λj=>?_
   by_cases hj:j<ds.length
   ·have h1:=Ze hj;have h2:es[j]?=some es[j]:=Ze (by omega);have h3:xs[j]?=some xs[j]:=Ze (by omega);rw[h1,h2,ih j _ _ h1 h3 (p2 j _ _ h2 h3)]
   ·rw[XC (by omega),XC (by omega)]
  | loc q=>exact(fl f1 q).elim
 | @loc l a q =>
  intro d' r'
  cases r' with
  | tup t2 _ _ _=>exact(tll (l:=0) t2 (ll q)).elim
  | fro f2 _ _=>exact(fl f2 q).elim
  | loc q'=>rw[gW hS.nd q q']
theorem xg{x:D}:∀{ys:Ya} {k:Bool},inL S x ys=some k->(∀y∈ys,eqD deep S y x=some ((eqD deep S y x).getD false))/\k=ys.any λy=>(eqD deep S y x).getD false
 | [],k,h=>⟨λy hy=>absurd hy (by simp),by cases h; rfl⟩
 | y::ys,k,h=>by
  simp only[inL] at h;split at h
  ·rename_i a b e1 e2;cases h;obtain⟨he,hk⟩:=xg e2;refine⟨λz hz=>?_,?_⟩
   ·rcases Zx.mp hz with rfl|hz
    ·simp[e1]
    ·exact he z hz
   ·rw[X8,<- hk]; simp[e1]
  ·cases h
theorem kh(hK:Γ.K=X.K)(I:Inv X pins σ H s)(hS:ao Γ ι H S){A:Around}(hu:A.units+deep<cLine){dx:D}{x:V}{v:Value}(r1:Rep Γ ι H dx x)(rx:RelV x v){ds:Ya}{xs:W8}{its:WW}{k:Bool}(h:inL S dx ds=some k)
  (p:aA Γ ι H ds xs) (rv:Vals xs its):∃e:Value->Bool,(∀y,y∈its.toArray->EqAt A s y v (e y))/\its.toArray.any e=k:=by
 classical
 obtain⟨h1,h2⟩:=xg h
 have key:∀(d:D) (w:V) (u:Value),d∈ds->Rep Γ ι H d w->RelV w u->∀(d':D) (w':V),Rep Γ ι H d' w'->RelV w' u->d'=d:=λd w u _ r q d' w' r' q'=>by
  have e:w'=w:=q'.inj q;subst e;exact(Rep.inj hK I hS r' r)
 refine⟨λu=>decide (∃d w,d∈ds/\Rep Γ ι H d w/\RelV w u/\(eqD deep S d dx).getD false=true),λu hu'=>?_,?_⟩
 ·have hm:u∈its:=by simpa using hu'
  obtain⟨j,hj⟩:=ZP hm;obtain⟨w,hw,q⟩:=Paired.get' rv hj;obtain⟨d,hd,r⟩:=Paired.get' p hw;have hd':=ZD hd;have e:=(mS hK I hS deep A d dx _ w x u v (h1 d hd') r r1 q rx hu).2
  have:decide (∃d w,d∈ds/\Rep Γ ι H d w/\RelV w u/\(eqD deep S d dx).getD false=true)=(eqD deep S d dx).getD false:=by
   cases z:(eqD deep S d dx).getD false with
   | true=>exact Zj ⟨d,w,hd',r,q,z⟩
   | false =>
    refine Zt ?_;rintro⟨d',w',_,r',q',z'⟩;rw[key d w u hd' r q d' w' r' q',z] at z';cases z'
  show EqAt A s u v (decide (∃d w,d∈ds/\Rep Γ ι H d w/\RelV w u/\(eqD deep S d dx).getD false=true));rw[this]; exact e
 ·rw[h2];rw[X2];simp only[Array.any_eq_true',QT,decide_eq_true_eq];constructor
  ·rintro⟨u,hu',d,w,hd,r,q,z⟩;exact⟨d,hd,z⟩
  ·rintro⟨d,hd,z⟩;obtain⟨j,hj⟩:=ZP hd;obtain⟨w,hw,r⟩:=Paired.get p hj;obtain⟨u,hu',q⟩:=rv.get hw;exact⟨u,by simpa using ZD hu',d,w,hd,r,q,z⟩
theorem iY(d:D)(S:af):(∃ds,items d S=.ok ds S)\/items d S=.bad:=by
 cases d with
 | tup ds=>exact .inl ⟨ds,rfl⟩
 | fro ds=>exact .inl ⟨ds,rfl⟩
 | loc l =>
  rw[wC]
  cases listAt S l with
  | none=>exact .inr rfl
  | some ds=>exact .inl ⟨ds,rfl⟩
 | _=>exact .inr rfl
theorem Out.items{α:Type}{d:D}{f:List D->M α}{k:α->af->List Addr->Hp->Prop}(ho:Out Γ xw ι H ((EV.items d>>=f) S) k):∃ds,EV.items d S=.ok ds S/\Out Γ xw ι H (f ds S) k:=by
 rcases iY d S with⟨ds,e⟩|e
 ·rw[aj e] at ho; exact⟨ds,e,ho⟩
 ·rw[aZ e] at ho; exact ho.elim
theorem Out.tZ{α:Type}{o:Option α}{k:α->af->List Addr->Hp->Prop}(ho:Out Γ xw ι H (EV.opt o S) k):∃a,o=some a/\Out Γ xw ι H (.ok a S) k:=by
 cases o with
 | none=>exact ho.elim
 | some a=>exact⟨a,rfl,ho⟩
theorem pV{neg:Bool}{a b:D}{k:D->af->List Addr->Hp->Prop}(ho:Out Γ xw ι H (inM neg a b S) k):∃ds c,items b S=.ok ds S/\inL S a ds=some c/\Out Γ xw ι H (.ok (.bl (c != neg)) S) k:=by
 obtain⟨ds,e,ho⟩:=Out.items ho;unfold inA at ho
 cases q:inL S a ds with
 | none=>rw[q] at ho; exact ho.elim
 | some c=>rw[q] at ho; exact⟨ds,c,e,q,ho⟩
theorem cJ(hS:ao Γ ι H S){d:D}{v:V}{ds:Ya}{S':af}(r:Rep Γ ι H d v)(h:items d S=.ok ds S'):S'=S/\∃a xs,v=.ref a/\(SqL Γ.K H a xs\/SqT Γ.K H a xs)/\aA Γ ι H ds xs/\(∀l,d=.loc l->SqL Γ.K H a xs):=by
 cases d with
 | tup es=>cases h; obtain⟨a,xs,e,t,p⟩:=r.cg; exact⟨rfl,a,xs,e,.inr t,p,λl e=>by cases e⟩
 | fro es=>cases h; obtain⟨a,xs,e,f,p⟩:=r.fz; exact⟨rfl,a,xs,e,.inl f.sq,p,λl e=>by cases e⟩
 | loc l =>
  have h':(match listAt S l with|some ds=>Res.ok ds S|none=>.bad)=.ok ds S':=h
  cases q:listAt S l with
  | none=>rw[q] at h'; cases h'
  | some es =>
   rw[q] at h';cases h';obtain⟨a,xs,e,t,p⟩:=hS.list r (show asL S (.loc l)=some ds from q);exact⟨rfl,a,xs,e,.inl t,p,λ_ _=>t⟩
 | _=>cases h
theorem Jl(hK:Γ.K=X.K)(hu:X.A.units+64<cLine):OpR X (compareOp .In) (aV Γ xw (inM false)):=by
 intro pins s σ H x y v u Q I rx ry h;obtain⟨ι,S,dx,dy,hS,r1,r2,ho⟩:=h;obtain⟨ds,c,h1,h2,ho⟩:=pV ho;have fin:Q (.bl c) H:=by have:=Out.val ho hS (.bl _); simpa using this
 obtain⟨_,a,xs,rfl,sq,p,_⟩:=cJ hS r2 h1;cases ry;rw[hK] at sq;rcases sq with sq|sq
 ·obtain⟨its,rv,pl,_⟩:=I.list sq;obtain⟨e,he,hk⟩:=kh hK I hS (A:=X.A.in1) (by show X.A.units+1+12<cLine; omega) r1 rx h2 p rv;exact SeqAt.in_listAt e pl.isList he (by rw[hk]; exact⟨.bl c,H,I,rfl,fin⟩)
 ·obtain⟨its,rv,pl,_⟩:=I.tuple sq;obtain⟨e,he,hk⟩:=kh hK I hS (A:=X.A.in1) (by show X.A.units+1+12<cLine; omega) r1 rx h2 p rv;exact SeqAt.in_tupleAt e pl he (by rw[hk]; exact⟨.bl c,H,I,rfl,fin⟩)
theorem GX(hK:Γ.K=X.K)(hu:X.A.units+64<cLine):OpR X (compareOp .NotIn) (aV Γ xw (inM true)):=by
 intro pins s σ H x y v u Q I rx ry h;obtain⟨ι,S,dx,dy,hS,r1,r2,ho⟩:=h;obtain⟨ds,c,h1,h2,ho⟩:=pV ho;have fin:Q (.bl (!c)) H:=by have:=Out.val ho hS (.bl _); simpa using this
 obtain⟨_,a,xs,rfl,sq,p,_⟩:=cJ hS r2 h1;cases ry;rw[hK] at sq;rcases sq with sq|sq
 ·obtain⟨its,rv,pl,_⟩:=I.list sq;obtain⟨e,he,hk⟩:=kh hK I hS (A:=X.A.in1) (by show X.A.units+1+12<cLine; omega) r1 rx h2 p rv;exact SeqAt.notIn_listAt e pl.isList he (by rw[hk]; exact⟨.bl (!c),H,I,rfl,fin⟩)
 ·obtain⟨its,rv,pl,_⟩:=I.tuple sq;obtain⟨e,he,hk⟩:=kh hK I hS (A:=X.A.in1) (by show X.A.units+1+12<cLine; omega) r1 rx h2 p rv;exact SeqAt.notIn_tupleAt e pl he (by rw[hk]; exact⟨.bl (!c),H,I,rfl,fin⟩)
theorem E4(hK:Γ.K=X.K):qP X (λx H Q=>∃ι S d,ao Γ ι H S/\Rep Γ ι H d x/\Out Γ xw ι H (truth d S) λb _ _ H'=>Q b H'):=by
 intro pins s σ H x v Q I rx h;obtain⟨ι,S,d,hS,r,ho⟩:=h;refine FO pins s σ H x v Q I rx ?_
 cases d with
 | bl b=>cases r; exact⟨b,rfl,ho.here hS⟩
 | non=>cases r; exact⟨false,rfl,ho.here hS⟩
 | int i=>cases r; exact⟨_,rfl,ho.here hS⟩
 | tup ds =>
  obtain⟨a,xs,rfl,t,p⟩:=r.cg;rw[hK] at t;refine⟨!ds.isEmpty,.inr (.inl ⟨xs,t,?_⟩),ho.here hS⟩;cases p<;>rfl
 | fro ds =>
  obtain⟨a,xs,rfl,t,p⟩:=r.fz;have t:=t.sq;rw[hK] at t;refine⟨!ds.isEmpty,.inl ⟨xs,t,?_⟩,ho.here hS⟩;cases p<;>rfl
 | loc l =>
  obtain⟨ds,q,ho'⟩:=Out.items ho;obtain⟨_,a,xs,rfl,_,p,t⟩:=cJ hS r q
  ·have t:=t l rfl;rw[hK] at t;refine⟨!ds.isEmpty,.inl ⟨xs,t,?_⟩,ho'.here hS⟩;cases p<;>rfl
 | _=>exact ho.elim
theorem Dq{ds:Ya}{xs:W8}{i:Int}{d:D}(p:aA Γ ι H ds xs)(h:EV.atI ds i=some d):∃v,L2.atI xs i=some v/\Rep Γ ι H d v:=by
 unfold EV.atI at h
 cases e:EV.ixN ds.length i with
 | none=>rw[e] at h; cases h
 | some j =>
  rw[e] at h;obtain⟨v,hv,r⟩:=Paired.get p h;refine⟨v,?_,r⟩;have e':L2.ixN xs.length i=some j:=by rw[<- p.length]; exact e
  unfold L2.atI;rw[e'];exact hv
theorem Di(hK:Γ.K=X.K):IxR X (aV Γ xw ixD):=by
 intro value slice pins s σ H x y v u Q I rx ry h hsub;obtain⟨ι,S,dx,dy,hS,r1,r2,ho⟩:=h
 cases dy with
 | int j =>
  cases r2;obtain⟨ds,q,ho'⟩:=Out.items ho;obtain⟨d,q2,ho'⟩:=Out.tZ ho';obtain⟨_,a,xs,rfl,sq,p,_⟩:=cJ hS r1 q
  ·rw[hK] at sq
   ·obtain⟨w,hw,rw'⟩:=Dq p q2;have fin:=Out.val ho' hS rw';rcases sq with sq|sq
    ·exact xN value slice pins s σ H _ _ v u Q I rx ry ⟨a,xs,j,w,rfl,rfl,sq,hw,fin⟩ hsub
    ·exact Ge value slice pins s σ H _ _ v u Q I rx ry ⟨a,xs,j,w,rfl,rfl,sq,hw,fin⟩ hsub
 | _=>exact ho.elim
theorem F7:SlR X (λx lo hi H Q=>∃a xs,x=.ref a/\SqT X.K H a xs/\(HT.sIx xs.length 0 lo=0/\HT.sIx xs.length xs.length hi=xs.length)/\Q (.ref a) H):=by
 intro pins s σ H x v vl vu lo hi sl Q I rx hs pl pu h;obtain⟨a,xs,rfl,hx,hw,q⟩:=h;cases rx;obtain⟨its,r,ht,hz⟩:=I.tuple hx;have hlen:its.toArray.size=xs.length:=by rw[Zk]; exact r.length.symm
 exact⟨"tuple",_,PyProof.Rows.slot_tuple_getitem.lookup,ht.typeIs,HT.Dp ht hs pl pu (by rw[hlen]; exact hw) ⟨.ref a,H,I,rfl,q⟩⟩
theorem o7{ds:Ya}{xs:W8}(p:aA Γ ι H ds xs)(lo hi:Option Int):aA Γ ι H (cut ds lo hi) (dM xs lo hi):=by
 have e:∀n d o,EV.sIx n d o=HT.sIx n d o:=λn d o=>by cases o<;>rfl
 unfold cut dM;rw[e,e,p.length];exact Paired.tak _ (Paired.drp _ p)
theorem An(hK:Γ.K=X.K):SlR X (λx lo hi H Q=>∃ι S d,ao Γ ι H S/\Rep Γ ι H d x/\Out Γ xw ι H (slD d lo hi S) λd _ ι' H'=>∀v,Rep Γ ι' H' d v->Q v H'):=by
 intro pins s σ H x v vl vu lo hi sl Q I rx hs pl pu h;obtain⟨ι,S,d,hS,r,ho⟩:=h
 cases d with
 | tup ds =>
  obtain⟨a,xs,rfl,t,p⟩:=r.cg;rw[hK] at t;have pc:=o7 p lo hi
  by_cases hw:HT.sIx xs.length 0 lo=0/\HT.sIx xs.length xs.length hi=xs.length
  ·have e:dM xs lo hi=xs:=by unfold dM; rw[hw.1,hw.2]; simp
   have e2:cut ds lo hi=ds:=by
    have es:∀n d o,EV.sIx n d o=HT.sIx n d o:=λn d o=>by cases o<;>rfl
    unfold cut;rw[es,es,p.length,hw.1,hw.2,<- p.length]; simp
   refine F7 pins s σ H _ v vl vu lo hi sl Q I rx hs pl pu ⟨a,xs,rfl,t,hw,Out.val ho hS (by rw[e2]; exact r)⟩
  ·exact CA pins s σ H _ v vl vu lo hi sl Q I rx hs pl pu ⟨a,xs,rfl,t,hw,λq hq=>Out.tup ho hS hq pc⟩
 | fro ds =>
  obtain⟨a,xs,rfl,t,p⟩:=r.fz;have t:=t.sq;rw[hK] at t;exact sZ pins s σ H _ v vl vu lo hi sl Q I rx hs pl pu ⟨a,xs,rfl,t,λq hq=>Out.alloc ho hS hq (o7 p lo hi)⟩
 | loc l =>
  obtain⟨ds,q,ho'⟩:=Out.items ho;obtain⟨_,a,xs,rfl,_,p,t⟩:=cJ hS r q
  ·have t:=t l rfl;rw[hK] at t;exact sZ pins s σ H _ v vl vu lo hi sl Q I rx hs pl pu ⟨a,xs,rfl,t,λq hq=>Out.alloc ho' hS hq (o7 p lo hi)⟩
 | _=>exact ho.elim
end
end EV

namespace EV
open PySem PySem.Spec PyProof.Rows L2
theorem ints_map:∀{ds:Ya} {is:WU},allInts ds=some is->ds=is.map D.int
 | [],is,h=>by cases h; rfl
 | d::r,is,h=>by
  cases d with
  | int i =>
   simp only[allInts,ZG] at h;obtain⟨js,e,rfl⟩:=h;rw[ints_map e]; rfl
  | _=>cases h
theorem r9:∀{ds:Ya} {is:List Bool},cS ds=some is->ds=is.map D.bl
 | [],is,h=>by cases h; rfl
 | d::r,is,h=>by
  cases d with
  | bl i =>
   simp only[cS,ZG] at h;obtain⟨js,e,rfl⟩:=h;rw[r9 e]; rfl
  | _=>cases h
theorem gB{Γ:Gx}{ι:W0}{H:Hp}:∀{is:WU} {xs:W8},aA Γ ι H (is.map D.int) xs->xs=is.map V.int
 | [],_,.nil=>rfl
 | i::r,_,.cons (b:=y) h t=>by
  cases h;rw[gB t]; rfl
theorem ve{Γ:Gx}{ι:W0}{H:Hp}:∀{is:List Bool} {xs:W8},aA Γ ι H (is.map D.bl) xs->xs=is.map V.bl
 | [],_,.nil=>rfl
 | i::r,_,.cons (b:=y) h t=>by
  cases h;rw[ve t]; rfl
theorem iH{Γ:Gx}{ι:W0}{H:Hp}:∀(is:WU),aA Γ ι H (is.map D.int) (is.map V.int)
 | []=>.nil
 | i::r=>.cons (.int i) (iH r)
theorem qm:∀t:List Int,allInts (t.map D.int)=some t
 | []=>rfl
 | a::r=>by show(allInts (r.map D.int)).map (a :: ·)=_; rw[qm r]; rfl
theorem Rep.trk{Γ:Gx}{ι:W0}{H:Hp}{t:WU}{v:V}(r:Rep Γ ι H (.tup (t.map D.int)) v):∃c,v=.ref c/\H c=some (.tup (t.map V.int)):=by
 cases r with
 | tup h1 h2 h3 h4=>exact⟨_,rfl,by rw[<- gB (Paired.of_get h2 h3)]; exact h4 t (qm t)⟩
theorem vF(is:WU):∀k,preSum (λi=>is.getD i 0) k=(is.take k).sum
 | 0=>by simp[preSum]
 | k+1=>by
  rw[preSum,vF is k,List.take_add_one,Wv];congr 1;rw[ZJ];cases is[k]?<;>simp
theorem range_all(bs:List Bool):(List.range bs.length).all (λi=>bs.getD i false)=bs.all id:=by
 rw[X2,Z9,Z9];constructor
 ·intro h b hb;obtain⟨i,e⟩:=ZP hb;have:=h i (by rw[Z7]; exact(Zi.mp e).1);rw[ZJ,e] at this;exact this
 ·intro h i hi;rw[Z7] at hi;rw[ZJ,Ze hi];exact h _ (Xj hi)
theorem sA:∀(r:WU) (i:Int),i<=r.foldl max i/\∀a∈r,a<=r.foldl max i
 | [],i=>⟨Int.le_refl _,λa h=>absurd h (by simp)⟩
 | b::r,i=>by
  obtain⟨h1,h2⟩:=sA r (max i b);simp only[Ws];refine⟨by omega,λa ha=>?_⟩;rcases Zx.mp ha with rfl|ha
  ·omega
  ·exact h2 a ha
theorem rC:∀(r:WU) (i:Int),r.foldl max i=i\/r.foldl max i∈r
 | [],i=>.inl rfl
 | b::r,i=>by
  simp only[Ws];rcases rC r (max i b) with h|h
  ·rw[h]
   by_cases hb:b<=i
   ·exact .inl (by omega)
   ·exact .inr (by rw[show max i b=b by omega]; exact Zo)
  ·exact .inr (Zr _ h)
theorem lR(i:Int):∀r:List Int,(ins i r).Perm (i::r)
 | []=>.refl _
 | j::r=>by
  simp only[ins];split
  ·exact .refl _
  ·exact((lR i r).cons j).trans (.swap i j r)
theorem o_:∀r:List Int,(g6 r).Perm r
 | []=>.refl _
 | i::r=>(lR i _).trans ((o_ r).cons i)
theorem tF(i:Int):∀{r:WU},r.Pairwise (·<=·)->(ins i r).Pairwise (·<=·)
 | [],_=>by simp[ins]
 | j::r,h=>by
  simp only[ins];split
  ·rename_i hij;refine XH.mpr ⟨λa ha=>?_,h⟩;rcases Zx.mp ha with rfl|ha
   ·exact hij
   ·exact Int.le_trans hij ((XH.mp h).1 a ha)
  ·rename_i hij;refine XH.mpr ⟨λa ha=>?_,tF i (XH.mp h).2⟩;rcases Zx.mp ((lR i r).mem_iff.mp ha) with rfl|ha
   ·omega
   ·exact(XH.mp h).1 a ha
theorem rg:∀r:List Int,(g6 r).Pairwise (·<=·)
 | []=>.nil
 | i::r=>tF i (rg r)
section
variable{X:Cx}{Γ:Gx}{xw:XW}{pins:WT}{σ:L2.St}{H:Hp}{s:WX}{ι:W0}{S:af}{sub:Sub}
theorem jy{b:Bi}{xs:W8}{Q:VK}(hb:b.isR=false)(hb2:∀a c S,bi2 b a c S=.bad)(h:c5 Γ xw (biD sub b) xs H Q) :
  ∃ι S a x,xs=[x]/\ao Γ ι H S/\Rep Γ ι H a x/\Out Γ xw ι H (bi1 sub b a S) λd _ ι' H'=>∀v,Rep Γ ι' H' d v->Q v H':=by
 obtain⟨ι,S,ds,hS,r,ho⟩:=h;unfold biD at ho;rw[hb] at ho
 match ds,r with
 | [],.nil=>exact ho.elim
 | [a],.cons (b:=x) ra .nil=>exact⟨ι,S,a,x,rfl,hS,ra,ho⟩
 | [a,c],_ =>
  have ho':Out Γ xw ι H (bi2 b a c S) _:=ho;rw[hb2] at ho';exact ho'.elim
 | _::_::_::_,_=>exact ho.elim
theorem lO(hK:Γ.K=X.K)(I:Inv X pins σ H s){a:Addr}{xs:W8}(sq:SqL Γ.K H a xs\/SqT Γ.K H a xs):∃its:List Value,Vals xs its/\∀(A:Around) (E:WS) (Q:WS),A.handled=none ->
  (∀(I0:Addr) (fp:W0) (St:Nat->Heap->Prop) (s2:WX),Walks X.prog X.w A I0 fp [I0] its.toArray.size (λi v=>its.toArray[i]?=some v) St->St 0 s2.heap->(∀b∈fp,b<s2.heap.objs.size) ->
   (∀h' tk,(∀b o,b ∉ [I0]->s2.heap.get? b=some o->h'.get? b=some o)->Inv X pins σ H { s2 with heap:=h',toks:=tk })->Q (.ref I0) s2)->wpAny (model X.prog X.w) A (pyIter (.ref a)) Q E s:=by
 rw[hK] at sq;rcases sq with sq|sq
 ·obtain⟨its,rv,pl,_⟩:=I.list sq;refine⟨its,rv,λA E Q hh hQ=>We pl.isList ?_⟩;obtain⟨o,ho,_⟩:=id pl.isList;have hlt:=Zp ho;refine hQ s.heap.objs.size _ _ _ (Walks.list hh _ a (ZF hlt) its.toArray) ⟨⟨_,Zw _ rfl,rfl,rfl⟩,pl.isList.at λo e=>Zg _ e⟩ (λb hb=>?_) λh' tk hk=>?_
  ·rw[Xw];rcases Zx.mp hb with rfl|hb
   ·exact XG _
   ·have:b=a:=by simpa using hb
    subst this; exact X7 hlt
  ·exact I.kept λb u e=>hk b u (by simpa using ZF (Zp e)) (Zg _ e)
 ·obtain⟨its,rv,pl,_⟩:=I.tuple sq;refine⟨its,rv,λA E Q hh hQ=>QC (show s.heap.IsTuple a its.toArray from pl) ?_⟩;obtain⟨o,ho,hc,hd⟩:=id pl;have hlt:=Zp ho;refine hQ s.heap.objs.size _ _ _ (Walks.tuple hh _ a (ZF hlt) its.toArray) ⟨⟨_,Zw _ rfl,rfl,rfl⟩,⟨o,Zg _ ho,hc,hd⟩⟩ (λb hb=>?_) λh' tk hk=>?_
  ·rw[Xw];rcases Zx.mp hb with rfl|hb
   ·exact XG _
   ·have:b=a:=by simpa using hb
    subst this; exact X7 hlt
  ·exact I.kept λb u e=>hk b u (by simpa using ZF (Zp e)) (Zg _ e)
theorem oM{is:WU}{its:WW}(rv:Vals (is.map V.int) its){i:Nat}{v:Value}(h:its.toArray[i]?=some v):∃t,v=.int (is.getD i 0) t:=by
 have h':its[i]?=some v:=by simpa using h
 obtain⟨x,hx,r⟩:=Paired.get' rv h';rw[ZL,ZG] at hx;obtain⟨j,hj,rfl⟩:=hx;obtain⟨t,rfl⟩:=r;exact⟨t,by rw[ZJ,hj]; rfl⟩
theorem Js{is:List Bool}{its:WW}(rv:Vals (is.map V.bl) its){i:Nat}{v:Value}(h:its.toArray[i]?=some v):v=.bool (is.getD i false):=by
 have h':its[i]?=some v:=by simpa using h
 obtain⟨x,hx,r⟩:=Paired.get' rv h';rw[ZL,ZG] at hx;obtain⟨j,hj,rfl⟩:=hx;cases r;rw[ZJ,hj]; rfl
theorem BA(hK:Γ.K=X.K):cF X (.builtin "len") (c5 Γ xw (biD sub .len)):=by
 intro pins s σ H xs us Q I rs h;obtain⟨ι,S,a,x,rfl,hS,r,ho⟩:=jy rfl (λ_ _ _=>rfl) h;obtain⟨ds,q,ho⟩:=Out.items ho;obtain⟨_,p,ys,rfl,sq,rp,_⟩:=cJ hS r q;rw[hK] at sq;refine Fx pins s σ H _ us Q I rs ⟨p,ys,rfl,sq,?_⟩;rw[<- rp.length];exact Out.val ho hS (.int _)
theorem zd(hK:Γ.K=X.K)(hc:X.calm=true):cF X (.builtin "all") (c5 Γ xw (biD sub .all)):=by
 intro pins s σ H xs us Q I rs h;obtain⟨ι,S,a,x,rfl,hS,r,ho⟩:=jy rfl (λ_ _ _=>rfl) h;obtain⟨ds,q,ho⟩:=Out.items ho;obtain⟨bs,q2,ho⟩:=Out.opt ho;obtain⟨_,p,ys,rfl,sq,rp,_⟩:=cJ hS r q;rw[r9 q2] at rp;have e:=ve rp;subst e;obtain⟨u,rfl,ru⟩:=rs.one;cases ru;obtain⟨its,rv,wk⟩:=lO hK I sq;refine call_all_walk (wk X.A.in1 _ _ (I.ok.hd hc) λI0 fp St s2 W st fl inv=>⟨I0,fp,[I0],_,_,St,λi=>bs.getD i false,rfl,W,st,λi v s' Q' E' hv hq=>?_,λh' tk hk=>?_⟩)
 ·rw[Js rv hv]; exact Xp hq
 ·have hl:its.toArray.size=bs.length:=by rw[Zk,<- rv.length,Zb]
  rw[hl,range_all];exact⟨.bl _,H,inv h' tk hk,rfl,Out.val ho hS (.bl _)⟩
theorem yc(hK:Γ.K=X.K)(hc:X.calm=true):cF X (.builtin "sum") (c5 Γ xw (biD sub .sum)):=by
 intro pins s σ H xs us Q I rs h;obtain⟨ι,S,a,x,rfl,hS,r,ho⟩:=jy rfl (λ_ _ _=>rfl) h;obtain⟨ds,q,ho⟩:=Out.items ho;obtain⟨is,q2,ho⟩:=Out.opt ho;obtain⟨_,p,ys,rfl,sq,rp,_⟩:=cJ hS r q;rw[ints_map q2] at rp;have e:=gB rp;subst e;obtain⟨u,rfl,ru⟩:=rs.one;cases ru;obtain⟨its,rv,wk⟩:=lO hK I sq;refine call_sum_walkG (wk X.A.in1 _ _ (I.ok.hd hc) λI0 fp St s2 W st fl inv=>⟨I0,fp,[I0],_,_,St,λi=>is.getD i 0,rfl,W,st,fl,λi v hv=>oM rv hv,λh' tk t' hk=>?_⟩);have hl:its.toArray.size=is.length:=by rw[Zk,<- rv.length,Zb]
 rw[hl,vF,Z4];exact⟨.int _,H,inv h' tk hk,⟨_,rfl⟩,Out.val ho hS (.int _)⟩
end
end EV

namespace EV
open PySem PySem.Spec PyProof.Rows L2
section
variable{X:Cx}{Γ:Gx}{xw:XW}{pins:WT}{σ:L2.St}{H:Hp}{s:WX}{ι:W0}{S:af}{sub:Sub}
theorem xM{b:Bi}{xs:W8}{Q:VK}(hb:b.isR=false)(h:c5 Γ xw (biD sub b) xs H Q) :
  (∃ι S a x,xs=[x]/\ao Γ ι H S/\Rep Γ ι H a x/\Out Γ xw ι H (bi1 sub b a S) λd _ ι' H'=>∀v,Rep Γ ι' H' d v->Q v H') \/
  (∃ι S a c x y,xs=[x,y]/\ao Γ ι H S/\Rep Γ ι H a x/\Rep Γ ι H c y/\Out Γ xw ι H (bi2 b a c S) λd _ ι' H'=>∀v,Rep Γ ι' H' d v->Q v H'):=by
 obtain⟨ι,S,ds,hS,r,ho⟩:=h;unfold biD at ho;rw[hb] at ho
 have hl:ds.length=1\/ds.length=2\/ds=[]\/∃a c e q,ds=a::c::e::q:=by
  rcases ds with _|⟨a,_|⟨c,_|⟨e,q⟩⟩⟩
  ·exact .inr (.inr (.inl rfl))
  ·exact .inl rfl
  ·exact .inr (.inl rfl)
  ·exact .inr (.inr (.inr ⟨_,_,_,_,rfl⟩))
 rcases hl with hl|hl|rfl|⟨_,_,_,_,rfl⟩
 ·obtain⟨a,_,x,_,rfl,rfl,ra,r,hl⟩:=Paired.step r hl;obtain⟨rfl,rfl⟩:=Paired.last r hl;exact .inl ⟨ι,S,a,x,rfl,hS,ra,ho⟩
 ·obtain⟨a,_,x,_,rfl,rfl,ra,r,hl⟩:=Paired.step r hl;obtain⟨c,_,y,_,rfl,rfl,rc,r,hl⟩:=Paired.step r hl;obtain⟨rfl,rfl⟩:=Paired.last r hl;exact .inr ⟨ι,S,a,c,x,y,rfl,hS,ra,rc,ho⟩
 ·exact ho.elim
 ·exact ho.elim
theorem Em{is:WU}{i:Int}{r:WU}(h:is=i::r){M:Int}(hm:M∈is)(hle:∀a∈is,a<=M):M=r.foldl max i:=by
 subst h;obtain⟨h1,h2⟩:=sA r i
 have e1:M<=r.foldl max i:=by
  rcases Zx.mp hm with rfl|hm
  ·exact h1
  ·exact h2 M hm
 have e2:r.foldl max i<=M:=by
  rcases rC r i with h|h
  ·rw[h]; exact hle i Zo
  ·exact hle _ (Zr _ h)
 omega
theorem getD_in{is:WU}{j:Nat}(h:j<is.length):is.getD j 0∈is:=by
 rw[ZJ,Ze h];exact Xj h
theorem Eh(hK:Γ.K=X.K)(hc:X.calm=true):cF X (.builtin "max") (c5 Γ xw (biD sub .max)):=by
 intro pins s σ H xs us Q I rs h;rcases xM rfl h with⟨ι,S,a,x,rfl,hS,r,ho⟩|⟨ι,S,a,c,x,y,rfl,hS,r1,r2,ho⟩
 ·obtain⟨ds,q,ho⟩:=Out.items ho;obtain⟨is,q2,ho⟩:=Out.opt ho;obtain⟨_,p,ys,rfl,sq,rp,_⟩:=cJ hS r q;rw[ints_map q2] at rp;have e:=gB rp;subst e;obtain⟨u,rfl,ru⟩:=rs.one;cases ru
  cases hi:is with
  | nil=>rw[hi] at ho; exact ho.elim
  | cons i0 r0 =>
   rw[hi] at ho;have fin:Q (.int (r0.foldl max i0)) H:=Out.val ho hS (.int _);obtain⟨its,rv,wk⟩:=lO hK I sq;have hl:its.toArray.size=is.length:=by rw[Zk,<- rv.length,Zb]
   refine call_max_walk (wk X.A.in1 _ _ (I.ok.hd hc) λI0 fp St s2 W st fl inv=>⟨I0,fp,[I0],_,_,St,λi j=>decide (is.getD i 0>is.getD j 0),rfl,W,st,fl,by rw[hl,hi]; simp,CmpOf.ints_gt (λi=>is.getD i 0) λi v hv=>oM rv hv,λv h' tk hv hk=>?_⟩);obtain⟨t,rfl⟩:=oM rv hv;obtain⟨h1,h2⟩:=argBest_gt (λi=>is.getD i 0) (its.toArray.size-1);have hpos:0<is.length:=by rw[hi]; simp
   have e:is.getD (argBest (λi j=>decide (is.getD i 0>is.getD j 0)) (its.toArray.size-1)) 0=r0.foldl max i0:=Em hi (getD_in (by omega)) λb hb=>by
    obtain⟨j,ej⟩:=ZP hb;have hj:=(Zi.mp ej).1;have:=h2 j (by omega);rw[show is.getD j 0=b by rw[ZJ,ej]; rfl] at this;exact this
   rw[e];exact⟨.int _,H,inv h' tk hk,⟨_,rfl⟩,fin⟩
 ·cases a with
  | int i =>
   cases c with
   | int j=>cases r1; cases r2; exact Ij hc pins s σ H _ us Q I rs ⟨i,j,rfl,Out.val ho hS (.int _)⟩
   | _=>exact ho.elim
  | _=>exact ho.elim
theorem ly(hS:ao Γ ι H S){d:D}{v:V}{ds:Ya}{S':af}(r:Rep Γ ι H d v)(h:bG d S=.ok ds S'):S'=S/\∃a xs,v=.ref a/\SqL Γ.K H a xs/\aA Γ ι H ds xs:=by
 cases d with
 | fro es=>cases h; obtain⟨a,xs,e,f,p⟩:=r.fz; exact⟨rfl,a,xs,e,f.sq,p⟩
 | loc l=>obtain⟨e,a,xs,e2,_,p,t⟩:=cJ hS r (show items (.loc l) S=.ok ds S' from h); exact⟨e,a,xs,e2,t l rfl,p⟩
 | _=>cases h
theorem Ji(d:D)(S:af):(∃ds,bG d S=.ok ds S)\/bG d S=.bad:=by
 cases d with
 | fro ds=>exact .inl ⟨ds,rfl⟩
 | loc l=>exact iY (.loc l) S
 | _=>exact .inr rfl
theorem Out.bG{α:Type}{d:D}{f:List D->M α}{k:α->af->List Addr->Hp->Prop}(ho:Out Γ xw ι H ((EV.bG d>>=f) S) k):∃ds,EV.bG d S=.ok ds S/\Out Γ xw ι H (f ds S) k:=by
 rcases Ji d S with⟨ds,e⟩|e
 ·rw[aj e] at ho; exact⟨ds,e,ho⟩
 ·rw[aZ e] at ho; exact ho.elim
theorem qU:∀{vs:WW} {ns:WU},IntsAre vs ns->Vals (ns.map V.int) vs
 | _,_,.nil=>.nil
 | _,_,.cons n t h=>.cons ⟨t,rfl⟩ (qU h)
theorem E1(hK:Γ.K=X.K):cF X (.type "tuple") (c5 Γ xw (biD sub .tuple)):=by
 intro pins s σ H xs us Q I rs h;obtain⟨ι,S,a,x,rfl,hS,r,ho⟩:=jy rfl (λ_ _ _=>rfl) h;obtain⟨ds,q,ho2⟩:=Out.items ho;have r0:=r;obtain⟨_,p,ys,rfl,sq,rp,hloc⟩:=cJ hS r q;rw[hK] at sq
 cases a with
 | tup es =>
  cases q;obtain⟨b,xs,e,t,_⟩:=r0.cg;cases e;rw[hK] at t;exact oE pins s σ H _ us Q I rs ⟨p,xs,rfl,.inr ⟨t,Out.val ho2 hS r0⟩⟩
 | fro es =>
  cases q;obtain⟨b,xs,e,t,rp2⟩:=r0.fz;cases e;have t:=t.sq;rw[hK] at t;exact oE pins s σ H _ us Q I rs ⟨p,xs,rfl,.inl ⟨t,λl hl=>Out.tup ho2 hS hl rp2⟩⟩
 | loc l =>
  have t:=hloc l rfl;rw[hK] at t;exact oE pins s σ H _ us Q I rs ⟨p,ys,rfl,.inl ⟨t,λl hl=>Out.tup ho2 hS hl rp⟩⟩
 | _=>cases q
noncomputable def Ty.name:Ty->Option String
 | .int=>some "int" | .bool=>some "bool" | .str=>some "str" | .list=>some "list" | .tuple=>some "tuple" | .dict=>some "dict" | .cls _=>none
theorem DL(hK:Γ.K=X.K)(I:Inv X pins σ H s)(hS:ao Γ ι H S){t:Ty}{T:String}(ht:t.name=some T){d:D}{x:V}{v:Value}(r:Rep Γ ι H d x)(rx:RelV x v){k:Bool}(h:ff sub S d t=some k){A:Around}{E:WS}{Q:WS}
  (hq:∀tk,Q (.bool k) { s with toks:=tk }):wpAny (model X.prog X.w) A (call (.builtin "isinstance") [v,.type T]) Q E s:=by
 have seqL:∀{a:Addr} {xs:W8},SqL X.K H a xs->∀{b:Bool},PySem.W.kitOne X.K (.type "list") (.type T)=some b->(∀tk,Q (.bool b) { s with toks:=tk })->wpAny (model X.prog X.w) A (call (.builtin "isinstance") [.ref a,.type T]) Q E s:=λ{a xs} sq {b} e hq=>by
  obtain⟨its,_,pl,_⟩:=I.list sq;obtain⟨o,h1,h2,_⟩:=pl.isList;exact QG PySem.W.kitx_list I.kIn ⟨o,h1,h2⟩ e (λz=>nomatch z) hq
 cases d with
 | non=>cases r; cases rx; cases t<;>cases ht<;>cases h<;>exact QG PySem.W.kitx_none I.kIn True.intro (by rfl) (λz=>nomatch z) hq
 | bl b=>cases r; cases rx; cases t<;>cases ht<;>cases h<;>exact QG PySem.W.kitx_bool I.kIn True.intro (by rfl) (λz=>nomatch z) hq
 | int b=>cases r; obtain⟨tk,rfl⟩:=rx; cases t<;>cases ht<;>cases h<;>exact QG PySem.W.kitx_int I.kIn True.intro (by rfl) (λz=>nomatch z) hq
 | str b=>cases r; obtain⟨tk,rfl⟩:=rx; cases t<;>cases ht<;>cases h<;>exact QG PySem.W.kitx_str I.kIn True.intro (by rfl) (λz=>nomatch z) hq
 | tup ds =>
  obtain⟨a,xs,rfl,sq,_⟩:=r.cg;cases rx;rw[hK] at sq;obtain⟨its,_,pl,_⟩:=I.tuple sq;obtain⟨o,h1,h2,_⟩:=pl;cases t<;>cases ht<;>cases h<;>exact QG PySem.W.kitx_tuple I.kIn ⟨o,h1,h2⟩ (by rfl) (λz=>nomatch z) hq
 | fro ds =>
  obtain⟨a,xs,rfl,sq,_⟩:=r.fz;cases rx;have sq:=sq.sq;rw[hK] at sq;cases t<;>cases ht<;>cases h<;>exact seqL sq (by rfl) hq
 | loc l =>
  cases r with
  | loc ql =>
   cases rx;simp only[ff] at h
   cases q:S[l]? with
   | none=>rw[q] at h; cases t<;>cases ht<;>cases h
   | some c =>
    rw[q] at h
    cases c with
    | lst ds =>
     obtain⟨a,xs,ha,hx,_⟩:=hS.lst q;rw[ql] at ha; cases ha;cases t<;>cases ht<;>cases h<;>exact seqL (.of hx) (by rfl) hq
    | dct kvs=>cases t<;>cases ht<;>cases h
    | fdc kvs=>cases t<;>cases ht<;>cases h
 | exn c=>cases r
end
end EV

namespace EV
open PySem PySem.Spec PyProof.Rows L2
section
variable{X:Cx}{Γ:Gx}{xw:XW}{a b c:Expr}{ma mb mc:Sg->M D}{pos:Pos}
theorem yg{i:Nat}{x:Str}(hN:X.N[i]?=some x)(hv:Vis X.env.scope x)(hd:(x==("__debug__" : Str))=false)(hcd:(x==("__classdict__" : Str))=false):PE X (.Name x pos) (tM Γ xw λσ=>bu σ i) :=
 PE.imp (IB hN hv hd hcd) λσ H Q h=>by
  obtain⟨σd,ι,S,he,hs,ho⟩:=h;have ho:Out Γ xw ι H (bu σd i S) λd _ ι' H'=>∀v,Rep Γ ι' H' d v->Q v H':=ho
  cases q:σd[i]? with
  | none=>rw[show bu σd i S=.bad by unfold bu; rw[q]; rfl] at ho; exact ho.elim
  | some o =>
   cases o with
   | none=>rw[show bu σd i S=.bad by unfold bu; rw[q]; rfl] at ho; exact ho.elim
   | some d =>
    rw[show bu σd i S=.ok d S by unfold bu; rw[q]; rfl] at ho;obtain⟨v,hv,r⟩:=he.var i d q;exact⟨v,hv,ho.here hs v r⟩
theorem gA{e:Expr}{d:D}{v:V}(h:PE X e (tC v))(r:∀ι H,Rep Γ ι H d v):PE X e (tM Γ xw λ_=>pure d) :=
 PE.imp h λσ H Q h=>by
  obtain⟨σd,ι,S,he,hs,ho⟩:=h;exact ho.here hs v (r _ _)
theorem z6{op:Operator}{f:D->D->M D}(ho:OpR X (binaryOp op) (aV Γ xw f))(ha:PE X a (tM Γ xw ma))(hb:PE X b (tM Γ xw mb)):PE X (.BinOp a op b pos) (tM Γ xw λσ=>ma σ>>=λx=>mb σ>>=λy=>f x y) :=
 PE.imp (HP ho ha hb) λ_ _ _ h=>mT h
theorem sO{op:CmpOp}{f:D->D->M D}(ho:OpR X (compareOp op) (aV Γ xw f))(ha:PE X a (tM Γ xw ma))(hb:PE X b (tM Γ xw mb))(hm:behindInMarks op b=false):PE X (.Compare a [op] [b] pos) (tM Γ xw λσ=>ma σ>>=λx=>mb σ>>=λy=>f x y) :=
 PE.imp (CM ho ha hb hm) λ_ _ _ h=>mT h
theorem G_{rest:W7}(ha:PE X a (tM Γ xw ma))(hb:PE X (.BoolOp .And (b::rest) pos) (tM Γ xw mb)):PE X (.BoolOp .And (a::b::rest) pos) (tM Γ xw λσ=>ma σ>>=λx=>match x with|.bl true=>mb σ|.bl false=>pure (.bl false)|_=>bad) :=
 PE.imp (Jb ha hb) λσ H Q h=>by
  obtain⟨σd,ι,S,he,hs,ho⟩:=h;refine⟨σd,ι,S,he,hs,ho.bind.mono λd S' ι' H' _ _ ⟨s',e',o'⟩ v r=>?_⟩
  cases d with
  | bl k =>
   cases r;refine⟨k,rfl,?_⟩
   cases k with
   | true=>rw[Zf rfl]; exact⟨σd,ι',S',he.ext e',s',o'⟩
   | false=>rw[Zh Zz]; exact o'.here s' _ (.bl _)
  | _=>exact o'.elim
theorem zV{rest:W7}(ha:PE X a (tM Γ xw ma))(hb:PE X (.BoolOp .Or (b::rest) pos) (tM Γ xw mb)):PE X (.BoolOp .Or (a::b::rest) pos) (tM Γ xw λσ=>ma σ>>=λx=>match x with|.bl true=>pure (.bl true)|.bl false=>mb σ|_=>bad) :=
 PE.imp (GW ha hb) λσ H Q h=>by
  obtain⟨σd,ι,S,he,hs,ho⟩:=h;refine⟨σd,ι,S,he,hs,ho.bind.mono λd S' ι' H' _ _ ⟨s',e',o'⟩ v r=>?_⟩
  cases d with
  | bl k =>
   cases r;refine⟨k,rfl,?_⟩
   cases k with
   | false=>rw[Zh Zz]; exact⟨σd,ι',S',he.ext e',s',o'⟩
   | true=>rw[Zf rfl]; exact o'.here s' _ (.bl _)
  | _=>exact o'.elim
theorem zg(ha:PE X a (tM Γ xw ma)):PE X (.UnaryOp .Not a pos) (tM Γ xw λσ=>ma σ>>=λx=>match x with|.bl b=>pure (.bl (!b))|_=>bad) :=
 PE.imp (EC ha) λσ H Q h=>by
  obtain⟨σd,ι,S,he,hs,ho⟩:=h;refine⟨σd,ι,S,he,hs,ho.bind.mono λd S' ι' H' _ _ ⟨s',e',o'⟩ v r=>?_⟩
  cases d with
  | bl k=>cases r; exact⟨k,rfl,o'.here s' _ (.bl _)⟩
  | _=>exact o'.elim
theorem uV(ha:PE X a (tM Γ xw ma)):PE X (.UnaryOp .USub a pos) (tM Γ xw λσ=>ma σ>>=λx=>match x with|.int i=>pure (.int (-i))|_=>bad) :=
 PE.imp (y_ Ft ha) λσ H Q h=>by
  obtain⟨σd,ι,S,he,hs,ho⟩:=h;refine⟨σd,ι,S,he,hs,ho.bind.mono λd S' ι' H' _ _ ⟨s',e',o'⟩ v r=>?_⟩
  cases d with
  | int k=>cases r; exact⟨k,rfl,o'.here s' _ (.int _)⟩
  | _=>exact o'.elim
theorem kX{ι:W0}{H:Hp}{d:D}{v:V}(r:Rep Γ ι H d v):decide (v=.non)=decide (d=.non):=by
 cases r<;>simp
theorem AU{j pos'}(ha:PE X a (tM Γ xw ma)):PE X (.Compare a [.Is] [.Constant .none j pos'] pos) (tM Γ xw λσ=>ma σ>>=λx=>pure (.bl (decide (x=.non)))) :=
 PE.imp (tL (vI ha)) λσ H Q h=>by
  obtain⟨σd,ι,S,he,hs,ho⟩:=h;refine⟨σd,ι,S,he,hs,ho.bind.mono λd S' ι' H' _ _ ⟨s',e',o'⟩ v r=>?_⟩;show Q (.bl (decide (v=.non))) H';rw[kX r]; exact o'.here s' _ (.bl _)
theorem Fv{j pos'}(ha:PE X a (tM Γ xw ma)):PE X (.Compare a [.IsNot] [.Constant .none j pos'] pos) (tM Γ xw λσ=>ma σ>>=λx=>pure (.bl (!decide (x=.non)))) :=
 PE.imp (tL (vV ha)) λσ H Q h=>by
  obtain⟨σd,ι,S,he,hs,ho⟩:=h;refine⟨σd,ι,S,he,hs,ho.bind.mono λd S' ι' H' _ _ ⟨s',e',o'⟩ v r=>?_⟩;show Q (.bl (!decide (v=.non))) H';rw[kX r]; exact o'.here s' _ (.bl _)
theorem Dg{op op':CmpOp}{f f':D->D->M D}(ho:OpR X (compareOp op) (aV Γ xw f))(ho':OpR X (compareOp op') (aV Γ xw f'))(ha:PE X a (tM Γ xw ma))(hb:PE X b (tM Γ xw mb))(hc:PE X c (tM Γ xw mc))(hm:lastMarks [op,op'] [b,c]=false) :
  PE X (.Compare a [op,op'] [b,c] pos) (tM Γ xw λσ=>ma σ>>=λx=>mb σ>>=λy=>f x y>>=λr=>match r with|.bl true=>mc σ>>=λz=>f' y z|.bl false=>pure (.bl false)|_=>bad) :=
 PE.imp (yb ho ho' ha hb hc hm) λσ H Q h=>by
  obtain⟨σd,ι,S,he,hs,ho⟩:=h;refine⟨σd,ι,S,he,hs,ho.bind.mono λd S' ι' H' _ _ ⟨s',e',o'⟩ v r=>⟨σd,ι',S',he.ext e',s',o'.bind.mono λd2 S2 ι2 H2 _ _ ⟨s2,e2,o2⟩ v2 r2=>⟨ι2,S2,d,d2,s2,r.ext e2,r2,o2.bind.mono λd3 S3 ι3 H3 _ _ ⟨s3,e3,o3⟩ v3 r3=>?_⟩⟩⟩
  cases d3 with
  | bl k =>
   cases r3;refine⟨k,rfl,?_⟩
   cases k with
   | true =>
    rw[Zf rfl];exact⟨σd,ι3,S3,(he.ext (e'.trans e2)).ext e3,s3,o3.bind.mono λd4 S4 ι4 H4 _ _ ⟨s4,e4,o4⟩ v4 r4=>⟨ι4,S4,d2,d4,s4,(r2.ext e3).ext e4,r4,o4⟩⟩
   | false=>rw[Zh Zz]; exact o3.here s3 _ (.bl _)
  | _=>exact o3.elim
theorem HX{e:Expr}{m:Sg->M D}(hK:Γ.K=X.K)(h:PE X e (tM Γ xw m))(he:∀whole,isTrue e X.env whole=(do let v <- whole; standAt e.pos; holding [v] (truthy v))):PT X e (tMT Γ xw λσ=>m σ>>=truth):=by
 intro pins s σ H Q I hw;obtain⟨σd,ι,S,hE,hs,ho⟩:=hw;refine isTrue_plain (thn (h pins s σ H (λx H'=>∃ι S d,ao Γ ι H' S/\Rep Γ ι H' d x/\Out Γ xw ι H' (truth d S) λb _ _ H'=>Q b H') I ⟨σd,ι,S,hE,hs,ho.bind.mono λd S' ι' H' _ _ ⟨s',e',o'⟩ v r=>⟨ι',S',d,s',r,o'⟩⟩) λv s1 ⟨x,H1,I1,r1,q1⟩=>?_) (he _);exact E4 hK pins s1 σ H1 x v Q I1 r1 q1
theorem rQ{op:CmpOp}{f:D->D->M D}(hbl:∀x y S d S',f x y S=.ok d S'->∃k,d=.bl k)(ho:OpR X (compareOp op) (aV Γ xw f))(ha:PE X a (tM Γ xw ma))(hb:PE X b (tM Γ xw mb))(hm:behindInMarks op b=false) :
  PT X (.Compare a [op] [b] pos) (tMT Γ xw λσ=>ma σ>>=λx=>mb σ>>=λy=>f x y>>=λr=>truth r) :=
 PT.imp (yK ho ha hb hm) λσ H Q h=>by
  obtain⟨σd,ι,S,he,hs,ho⟩:=h;refine⟨σd,ι,S,he,hs,ho.bind.mono λd S' ι' H' _ _ ⟨s',e',o'⟩ v r=>⟨σd,ι',S',he.ext e',s',o'.bind.mono λd2 S2 ι2 H2 _ _ ⟨s2,e2,o2⟩ v2 r2=>⟨ι2,S2,d,d2,s2,r.ext e2,r2,?_⟩⟩⟩
  cases q:f d d2 S2 with
  | bad=>rw[aZ q] at o2; exact o2.elim
  | exc c S3=>rw[cM q] at o2; exact o2
  | ok d3 S3 =>
   rw[aj q] at o2;obtain⟨k,rfl⟩:=hbl _ _ _ _ _ q;intro ι3 H3 e3 s3 v3 r3;cases r3;exact⟨k,rfl,(o2.step e3).here s3⟩
theorem z0{op op':CmpOp}{f f':D->D->M D}(hbl:∀x y S d S',f x y S=.ok d S'->∃k,d=.bl k)(hbl':∀x y S d S',f' x y S=.ok d S'->∃k,d=.bl k)(ho:OpR X (compareOp op) (aV Γ xw f))(ho':OpR X (compareOp op') (aV Γ xw f'))(ha:PE X a (tM Γ xw ma))(hb:PE X b (tM Γ xw mb))(hc:PE X c (tM Γ xw mc))(hm:lastMarks [op,op'] [b,c]=false) :
  PT X (.Compare a [op,op'] [b,c] pos) (tMT Γ xw λσ=>ma σ>>=λx=>mb σ>>=λy=>f x y>>=λr=>truth r>>=λk=>if k=true then mc σ>>=λz=>f' y z>>=λq=>truth q else pure false) :=
 PT.imp (yT ho ho' ha hb hc hm) λσ H Q h=>by
  obtain⟨σd,ι,S,he,hs,ho⟩:=h;refine⟨σd,ι,S,he,hs,ho.bind.mono λd S' ι' H' _ _ ⟨s',e',o'⟩ v r=>⟨σd,ι',S',he.ext e',s',o'.bind.mono λd2 S2 ι2 H2 _ _ ⟨s2,e2,o2⟩ v2 r2=>⟨ι2,S2,d,d2,s2,r.ext e2,r2,?_⟩⟩⟩
  cases q:f d d2 S2 with
  | bad=>rw[aZ q] at o2; exact o2.elim
  | exc c S3=>rw[cM q] at o2; exact o2
  | ok d3 S3 =>
   rw[aj q] at o2;obtain⟨k,rfl⟩:=hbl _ _ _ _ _ q;intro ι3 H3 e3 s3 v3 r3;cases r3;refine⟨k,rfl,?_⟩;have o3:=o2.step e3
   cases k with
   | false=>rw[Zh Zz]; exact⟨false,rfl,o3.here s3⟩
   | true =>
    rw[Zf rfl];have o3:Out Γ xw ι3 H3 ((mc σd>>=λz=>f' d2 z>>=λq=>truth q) S3) _:=o3;refine⟨σd,ι3,S3,(he.ext (e'.trans e2)).ext e3,s3,o3.bind.mono λd4 S4 ι4 H4 _ _ ⟨s4,e4,o4⟩ v4 r4=>⟨ι4,S4,d2,d4,s4,(r2.ext e3).ext e4,r4,?_⟩⟩
    cases q4:f' d2 d4 S4 with
    | bad=>rw[aZ q4] at o4; exact o4.elim
    | exc c S5=>rw[cM q4] at o4; exact o4
    | ok d5 S5 =>
     rw[aj q4] at o4;obtain⟨k5,rfl⟩:=hbl' _ _ _ _ _ q4;intro ι5 H5 e5 s5 v5 r5;cases r5;exact⟨k5,rfl,(o4.step e5).here s5⟩
theorem jZ{j pos'}(ha:PE X a (tM Γ xw ma)):PT X (.Compare a [.Is] [.Constant .none j pos'] pos) (tMT Γ xw λσ=>ma σ>>=λx=>pure (decide (x=.non))) :=
 PT.imp (vz (vI ha)) λσ H Q h=>by
  obtain⟨σd,ι,S,he,hs,ho⟩:=h;refine⟨σd,ι,S,he,hs,ho.bind.mono λd S' ι' H' _ _ ⟨s',e',o'⟩ v r=>⟨_,rfl,?_⟩⟩;rw[kX r]; exact o'.here s'
theorem uF{j pos'}(ha:PE X a (tM Γ xw ma)):PT X (.Compare a [.IsNot] [.Constant .none j pos'] pos) (tMT Γ xw λσ=>ma σ>>=λx=>pure (!decide (x=.non))) :=
 PT.imp (vz (vV ha)) λσ H Q h=>by
  obtain⟨σd,ι,S,he,hs,ho⟩:=h;refine⟨σd,ι,S,he,hs,ho.bind.mono λd S' ι' H' _ _ ⟨s',e',o'⟩ v r=>⟨_,rfl,?_⟩⟩;rw[kX r]; exact o'.here s'
variable{na nb:Sg->M Bool}
theorem sR{rest:W7}(ha:PT X a (tMT Γ xw na))(hb:PW X (.BoolOp .And (b::rest) pos) (tMT Γ xw nb)):PW X (.BoolOp .And (a::b::rest) pos) (tMT Γ xw λσ=>na σ>>=λk=>if k=true then nb σ else pure false) :=
 PW.imp (Im ha hb) λσ H Q h=>by
  obtain⟨σd,ι,S,he,hs,ho⟩:=h;refine⟨σd,ι,S,he,hs,ho.bind.mono λk S' ι' H' _ _ ⟨s',e',o'⟩=>?_⟩
  cases k with
  | true=>rw[Zf rfl]; exact⟨σd,ι',S',he.ext e',s',o'⟩
  | false=>rw[Zh Zz]; exact o'.here s'
theorem vK{rest:W7}(ha:PT X a (tMT Γ xw na))(hb:PW X (.BoolOp .Or (b::rest) pos) (tMT Γ xw nb)):PW X (.BoolOp .Or (a::b::rest) pos) (tMT Γ xw λσ=>na σ>>=λk=>if k=true then pure true else nb σ) :=
 PW.imp (G4 ha hb) λσ H Q h=>by
  obtain⟨σd,ι,S,he,hs,ho⟩:=h;refine⟨σd,ι,S,he,hs,ho.bind.mono λk S' ι' H' _ _ ⟨s',e',o'⟩=>?_⟩
  cases k with
  | false=>rw[Zh Zz]; exact⟨σd,ι',S',he.ext e',s',o'⟩
  | true=>rw[Zf rfl]; exact o'.here s'
theorem Au(ha:PT X a (tMT Γ xw na)):PT X (.UnaryOp .Not a pos) (tMT Γ xw λσ=>na σ>>=λk=>pure (!k)) :=
 PT.imp (ya ha) λσ H Q h=>by
  obtain⟨σd,ι,S,he,hs,ho⟩:=h;exact⟨σd,ι,S,he,hs,ho.bind.mono λk S' ι' H' _ _ ⟨s',e',o'⟩=>o'.here s'⟩
theorem Av(hc:PT X c (tMT Γ xw na))(ha:PE X a (tM Γ xw ma))(hb:PE X b (tM Γ xw mb)):PE X (.IfExp c a b pos) (tM Γ xw λσ=>na σ>>=λk=>if k=true then ma σ else mb σ) :=
 PE.imp (A1 hc ha hb) λσ H Q h=>by
  obtain⟨σd,ι,S,he,hs,ho⟩:=h;refine⟨σd,ι,S,he,hs,ho.bind.mono λk S' ι' H' _ _ ⟨s',e',o'⟩=>?_⟩
  cases k with
  | true=>rw[Zf rfl]; exact⟨σd,ι',S',he.ext e',s',o'⟩
  | false=>rw[Zh Zz]; exact⟨σd,ι',S',he.ext e',s',o'⟩
theorem IS:PA X [] (tMA Γ xw λ_=>pure []) :=
 PA.imp oY λσ H Q h=>by
  obtain⟨σd,ι,S,he,hs,ho⟩:=h;exact ho.here hs [] .nil
theorem GQ{es:W7}{m:Sg->M (List D)}(ha:PE X a (tM Γ xw ma))(hr:PA X es (tMA Γ xw m))(hs:starEach (a::es) X.env=(false,eval a X.env)::starEach es X.env):PA X (a::es) (tMA Γ xw λσ=>ma σ>>=λx=>m σ>>=λxs=>pure (x::xs)) :=
 PA.imp (kG ha hr hs) λσ H Q h=>by
  obtain⟨σd,ι,S,he,hs,ho⟩:=h;exact⟨σd,ι,S,he,hs,ho.bind.mono λd S' ι' H' _ _ ⟨s',e',o'⟩ v r=>⟨σd,ι',S',he.ext e',s',o'.bind.mono λds S2 ι2 H2 _ _ ⟨s2,e2,o2⟩ vs rs=>o2.here s2 _ (.cons (r.ext e2) rs)⟩⟩
theorem I_{es:W7}{k:Nat}{m:Sg->M (List D)}(h:PA X es (tMA Γ xw m)):PE X (.Tuple es k pos) (tM Γ xw λσ=>m σ>>=λds=>guard (fits ds.length) (pure (.tup ds))) :=
 PE.imp (Cp h) λσ H Q h=>by
  obtain⟨σd,ι,S,he,hs,ho⟩:=h;refine⟨σd,ι,S,he,hs,ho.bind.mono λds S' ι' H' _ _ ⟨s',e',o'⟩ vs rs=>?_⟩;obtain⟨hz,o'⟩:=Out.guard o';exact⟨by rw[<- rs.length]; exact jd hz,λp hp=>Out.tup o' s' hp rs⟩
theorem EA{es:W7}{m:Sg->M (List D)}(h:PA X es (tMA Γ xw m)):PE X (.List es pos) (tM Γ xw λσ=>m σ>>=λds=>guard (fits ds.length) (alloc (.lst ds))) :=
 PE.imp (B4 h) λσ H Q h=>by
  obtain⟨σd,ι,S,he,hs,ho⟩:=h;refine⟨σd,ι,S,he,hs,ho.bind.mono λds S' ι' H' _ _ ⟨s',e',o'⟩ vs rs=>?_⟩;obtain⟨hz,o'⟩:=Out.guard o';exact⟨by rw[<- rs.length]; exact jd hz,λp hp=>Out.alloc o' s' hp rs⟩
theorem B7(hK:Γ.K=X.K)(ha:PE X a (tM Γ xw ma))(hb:PE X b (tM Γ xw mb))(hs:mO b):PE X (.Subscript a b pos) (tM Γ xw λσ=>ma σ>>=λx=>mb σ>>=λy=>ixD x y) :=
 PE.imp (F1 (Di hK) ha hb hs) λ_ _ _ h=>mT h
noncomputable def tMO(Γ:Gx)(xw:XW)(m:Sg->M (Option Int)):TO:=λσ H Q=>∃σd ι S,aU Γ ι H σ σd/\ao Γ ι H S/\Out Γ xw ι H (m σd S) λo _ _ H'=>Q o H'
theorem PO.imp{e:Option Expr}{t t':TO}(h:PO X e t)(f:∀σ H Q,t' σ H Q->t σ H Q):PO X e t':=λpins s σ H Q I q=>h pins s σ H Q I (f σ H Q q)
theorem xV:PO X none (tMO Γ xw λ_=>pure none):=PO.imp ye λσ H Q h=>by
 obtain⟨σd,ι,S,he,hs,ho⟩:=h;exact ho.here hs
theorem F8(ha:PE X a (tM Γ xw ma)):PO X (some a) (tMO Γ xw λσ=>ma σ>>=fN):=PO.imp (yp ha) λσ H Q h=>by
 obtain⟨σd,ι,S,he,hs,ho⟩:=h;refine⟨σd,ι,S,he,hs,ho.bind.mono λd S' ι' H' _ _ ⟨s',e',o'⟩ v r=>?_⟩
 cases d with
 | int i=>cases r; exact⟨i,rfl,o'.here s'⟩
 | _=>exact o'.elim
theorem JP{lo hi:Option Expr}{ml mh:Sg->M (Option Int)}{p2:Pos}(hK:Γ.K=X.K)(ha:PE X a (tM Γ xw ma))(hl:PO X lo (tMO Γ xw ml))(hh:PO X hi (tMO Γ xw mh)) :
  PE X (.Subscript a (.Slice lo hi none p2) pos) (tM Γ xw λσ=>ma σ>>=λx=>ml σ>>=λl=>mh σ>>=λh=>slD x l h) :=
 PE.imp (GN (An hK) ha hl hh) λσ H Q h=>by
  obtain⟨σd,ι,S,he,hs,ho⟩:=h;exact⟨σd,ι,S,he,hs,ho.bind.mono λd S' ι' H' _ _ ⟨s',e',o'⟩ v r=>⟨σd,ι',S',he.ext e',s',o'.bind.mono λl S2 ι2 H2 _ _ ⟨s2,e2,o2⟩=>⟨σd,ι2,S2,(he.ext e').ext e2,s2,o2.bind.mono λu S3 ι3 H3 _ _ ⟨s3,e3,o3⟩=>⟨ι3,S3,d,s3,(r.ext e2).ext e3,o3⟩⟩⟩⟩
theorem iC{id:String}{x:Str}{p:Pos}{es:W7}{m:Sg->M (List D)}{f:List D->M D}(hc:cF X (.builtin id) (c5 Γ xw f))(hg:Gl X x)(hm:X.mg x=none)(hv:bootBuiltins x=some (.builtin id))(ha:PA X (a::es) (tMA Γ xw m))(hn:x≠"__name__")(hdb:(x==("__debug__" : Str))=false)
  (he:starEach (a::es) X.env=(false,eval a X.env)::starEach es X.env) (hpl:(backTo pos (starEach es X.env)).any (·.1)=false):PE X (.Call (.Name x p) (a::es) [] pos) (tM Γ xw λσ=>m σ>>=f) :=
 PE.imp (uB hc hg hm hv ha hn hdb he hpl) λ_ _ _ h=>rP h
theorem zB{T:String}{x:Str}{p:Pos}{es:W7}{m:Sg->M (List D)}{f:List D->M D}(hc:cF X (.type T) (c5 Γ xw f))(hg:Gl X x)(hm:X.mg x=none)(hv:bootBuiltins x=some (.type T))(ha:PA X (a::es) (tMA Γ xw m))(hn:x≠"__name__")(hdb:(x==("__debug__" : Str))=false)
  (he:starEach (a::es) X.env=(false,eval a X.env)::starEach es X.env) (hpl:(backTo pos (starEach es X.env)).any (·.1)=false):PE X (.Call (.Name x p) (a::es) [] pos) (tM Γ xw λσ=>m σ>>=f) :=
 PE.imp (B5 hc hg hm hv ha hn hdb he hpl) λ_ _ _ h=>rP h
theorem BX{sub:Sub}{t:Ty}{T:String}{x y:Str}{p p':Pos}(hK:Γ.K=X.K)(ht:t.name=some T)(hg:Gl X x)(hm:X.mg x=none)(hv:bootBuiltins x=some (.builtin "isinstance"))(hg':Gl X y)(hm':X.mg y=none)(hv':bootBuiltins y=some (.type T))(ha:PE X a (tM Γ xw ma))
  (hn:x≠"__name__") (hdb:(x==("__debug__" : Str))=false) (hn':y≠"__name__") (hdb':(y==("__debug__" : Str))=false) (hst:starEach [a,.Name y p'] X.env=(false,eval a X.env)::starEach [.Name y p'] X.env) :
  PE X (.Call (.Name x p) [a,.Name y p'] [] pos) (tM Γ xw λσ=>ma σ>>=λd=>iF sub t d):=by
 have hy:PE X (.Name y p') (tC (.ty T)):=B6 hg' hm' hv' rfl hn' hdb'
 have hc:cF X (.builtin "isinstance") (λxs H Q=>∃x,xs=[x,.ty T]/\sS Γ xw (iF sub t) x H Q):=by
  intro pins s σ H xs us Q I rs h;obtain⟨x,rfl,ι,S,d,hS,r,ho⟩:=h;obtain⟨u1,u2,rfl,r1,r2⟩:=rs.two;cases r2;unfold iF at ho
  cases q:ff sub S d t with
  | none=>rw[q] at ho; exact ho.elim
  | some k =>
   rw[q] at ho;exact DL hK I hS ht r r1 q λtk=>⟨.bl k,H,I.tok _,rfl,Out.val ho hS (.bl _)⟩
 refine PE.imp (uB hc hg hm hv (kG ha (kG hy oY rfl) hst) hn hdb hst rfl) λσ H Q h=>?_
 obtain⟨σd,ι,S,he,hs,ho⟩:=h;exact⟨σd,ι,S,he,hs,ho.bind.mono λd S' ι' H' _ _ ⟨s',e',o'⟩ v r=>⟨v,rfl,ι',S',d,s',r,o'⟩⟩
end
end EV

namespace EV
open PySem PySem.Spec PyProof.Rows L2
section
variable{X:Cx}{Γ:Gx}{xw:XW}{ι ι':W0}{H H':Hp}{S:af}{σ:L2.St}
theorem Rep.move(hp:ι<+:ι')(ht:∀a xs,H a=some (.tup xs)->H' a=some (.tup xs))(hf:∀a o u,H a=some (.frz o u)->H' a=some (.frz o u)){d:D}{v:V}(h:Rep Γ ι H d v):Rep Γ ι' H' d v:=by
 induction h with
 | non=>exact .non
 | bl b=>exact .bl b
 | int i=>exact .int i
 | str x=>exact .str x
 | tup h1 h2 h3 h4 ih =>
  refine .tup ?_ h2 ih λk q=>ht _ _ (h4 k q)
  rcases h1 with(h|⟨o,h⟩)|h
  ·exact .inl (.inl (ht _ _ h))
  ·exact .inl (.inr ⟨o,hf _ _ _ h⟩)
  ·exact .inr h
 | fro h1 h2 h3 ih =>
  refine .fro ?_ h2 ih;rcases h1 with⟨o,h⟩|h
  ·exact .inl ⟨o,hf _ _ _ h⟩
  ·exact .inr h
 | loc h=>exact .loc (fV hp h)
theorem uq{a:Addr}{xs ys:W8}(h:H a=some (.lst xs)):∀b zs,H b=some (.tup zs)->upd H a (.lst ys) b=some (.tup zs):=λb zs e=>by
 rw[aF (nN e h (by intro z; cases z))]; exact e
theorem vv{a:Addr}{xs ys:W8}(h:H a=some (.lst xs)):∀b o u,H b=some (.frz o u)->upd H a (.lst ys) b=some (.frz o u):=λb o u e=>by
 rw[aF (nN e h (by intro z; cases z))]; exact e
theorem Rep.write{a:Addr}{xs ys:W8}(h:H a=some (.lst xs)){d:D}{v:V}(r:Rep Γ ι H d v):Rep Γ ι (upd H a (.lst ys)) d v:=r.move (ZQ _) (uq h) (vv h)
theorem aA.write{a:Addr}{xs ys:W8}(h:H a=some (.lst xs)){ds:Ya}{vs:W8}(r:aA Γ ι H ds vs):aA Γ ι (upd H a (.lst ys)) ds vs:=Paired.imp (λ_ _ r=>Rep.write h r) r
theorem aU.write{a:Addr}{xs ys:W8}(h:H a=some (.lst xs)){σd:Sg}(e:aU Γ ι H σ σd):aU Γ ι (upd H a (.lst ys)) σ σd:=⟨e.len,λi d q=>let⟨v,e1,r⟩:=e.var i d q; ⟨v,e1,r.write h⟩⟩
theorem Ext.write{a:Addr}{xs ys:W8}(h:H a=some (.lst xs))(hm:a∈ι):Ext ι ι H (upd H a (.lst ys)) :=
 ⟨ZQ _,uq h,vv h,λb o e n=>by rw[aF (λz=>n (by rw[z]; exact hm))]; exact e,λ_ h n=>absurd h n⟩
theorem ao.write(hS:ao Γ ι H S){l:Nat}{a:Addr}{xs ys:W8}{es ds:Ya}(hl:S[l]?=some (.lst es))(ha:ι[l]?=some a)(h:H a=some (.lst xs))(r:aA Γ ι H ds ys):ao Γ ι (upd H a (.lst ys)) (S.set l (.lst ds)):=by
 refine⟨by rw[XR]; exact hS.len,hS.nd,λm c hm=>?_⟩
 by_cases e:m=l
 ·subst e;rw[Xb (Zi.mp hl).1] at hm;cases hm;exact⟨a,ha,ys,cH,aA.write h r⟩
 ·rw[ZX (Ne.symm e)] at hm;obtain⟨b,hb,c1⟩:=hS.cell m c hm;have hne:b≠a:=λz=>e (gW hS.nd hb (z▸ha))
  refine⟨b,hb,?_⟩
  cases c with
  | lst zs=>obtain⟨ws,hw,rw'⟩:=c1; exact⟨ws,by rw[aF hne]; exact hw,aA.write h rw'⟩
  | dct kvs=>obtain⟨ws,hw,rw'⟩:=c1; exact⟨ws,by rw[aF hne]; exact hw,Paired.imp (λ_ _ q=>⟨q.1,Rep.write h q.2⟩) rw'⟩
  | fdc kvs=>obtain⟨ws,⟨o,hw⟩,rw'⟩:=c1; exact⟨ws,⟨o,by rw[aF hne]; exact hw⟩,Paired.imp (λ_ _ q=>⟨q.1,Rep.write h q.2⟩) rw'⟩
theorem ao.other(hS:ao Γ ι H S){a:Addr}{xs ys:W8}(h:H a=some (.lst xs))(hn:a∉ι):ao Γ ι (upd H a (.lst ys)) S :=
 ⟨hS.len,hS.nd,λm c hm=>by
  obtain⟨b,hb,c1⟩:=hS.cell m c hm;have hne:b≠a:=λz=>hn (z▸ZD hb)
  refine⟨b,hb,?_⟩
  cases c with
  | lst zs=>obtain⟨ws,hw,rw'⟩:=c1; exact⟨ws,by rw[aF hne]; exact hw,aA.write h rw'⟩
  | dct kvs=>obtain⟨ws,hw,rw'⟩:=c1; exact⟨ws,by rw[aF hne]; exact hw,Paired.imp (λ_ _ q=>⟨q.1,Rep.write h q.2⟩) rw'⟩
  | fdc kvs=>obtain⟨ws,⟨o,hw⟩,rw'⟩:=c1; exact⟨ws,⟨o,by rw[aF hne]; exact hw⟩,Paired.imp (λ_ _ q=>⟨q.1,Rep.write h q.2⟩) rw'⟩⟩
theorem aU.set{σd:Sg}(e:aU Γ ι H σ σd)(i:Nat){d:D}{v:V}(r:Rep Γ ι H d v):aU Γ ι H (σ.set i (some v)) (σd.set i (some d)):=by
 refine⟨by rw[XR,XR]; exact e.len,λj d' h=>?_⟩
 by_cases hij:j=i
 ·subst hij
  have hj:j<σd.length:=by
   have:=(Zi.mp h).1;rw[XR] at this; exact this
  rw[Xb hj] at h;cases h;exact⟨v,by rw[Xb (by rw[e.len]; exact hj)],r⟩
 ·rw[ZX (Ne.symm hij)] at h;obtain⟨w,hw,rw'⟩:=e.var j d' h;exact⟨w,by rw[ZX (Ne.symm hij)]; exact hw,rw'⟩
theorem aU.more{σd:Sg}(e:aU Γ ι H σ σd)(k:Nat):aU Γ ι H (σ++List.replicate k none) (σd++List.replicate k none):=by
 refine⟨by simp[e.len],λj d h=>?_⟩
 by_cases hj:j<σd.length
 ·rw[ZC hj] at h;obtain⟨w,hw,r⟩:=e.var j d h;exact⟨w,by rw[ZC (by rw[e.len]; exact hj)]; exact hw,r⟩
 ·rw[ZO (by omega),Qb] at h;split at h<;>cases h
theorem Bw:MtR X "list.append" (λx xs H Q=>∃ι S dx ds,ao Γ ι H S/\Rep Γ ι H dx x/\aA Γ ι H ds xs/\Out Γ xw ι H (meD .append dx ds S) λd _ ι' H'=>∀v,Rep Γ ι' H' d v->Q v H'):=by
 intro pins s σ H x xs v us Q I rx rs h;obtain⟨ι,S,dx,ds,hS,r1,r2,ho⟩:=h
 match ds,r2 with
 | [],_=>exact ho.elim
 | _::_::_,_=>exact ho.elim
 | [d],.cons (b:=y) rd .nil =>
  cases dx with
  | loc l =>
   obtain⟨es,e,ho⟩:=Out.bg ho;obtain⟨hz,ho⟩:=Out.guard ho;obtain⟨a,ws,ha,hx,p⟩:=hS.lst e
   cases r1 with
   | loc q =>
    rw[ha] at q; cases q;refine sr pins s σ H _ _ v us Q I rx rs ⟨a,ws,y,rfl,rfl,hx,by rw[<- p.length]; exact vB hz,?_⟩;exact ho ι _ (Ext.write hx (ZD ha)) (hS.write e ha hx (Paired.app p (.cons rd .nil))) _ .non
  | _=>exact ho.elim
theorem Be:MtR X "list.extend" (λx xs H Q=>∃ι S dx ds,ao Γ ι H S/\Rep Γ ι H dx x/\aA Γ ι H ds xs/\Out Γ xw ι H (meD .extend dx ds S) λd _ ι' H'=>∀v,Rep Γ ι' H' d v->Q v H'):=by
 intro pins s σ H x xs v us Q I rx rs h;obtain⟨ι,S,dx,ds,hS,r1,r2,ho⟩:=h
 match ds,r2 with
 | [],_=>exact ho.elim
 | _::_::_,_=>exact ho.elim
 | [d],.cons (b:=y) rd .nil =>
  cases dx with
  | loc l =>
   cases d with
   | loc m =>
    obtain⟨es,e,ho⟩:=Out.bg ho;obtain⟨fs,e2,ho⟩:=Out.bg ho;obtain⟨hz,ho⟩:=Out.guard ho;obtain⟨a,ws,ha,hx,p⟩:=hS.lst e;obtain⟨b,zs,hb,hy,p2⟩:=hS.lst e2
    cases r1 with
    | loc q =>
     cases rd with
     | loc q2 =>
      rw[ha] at q; cases q;rw[hb] at q2; cases q2;refine HJ pins s σ H _ _ v us Q I rx rs ⟨a,b,ws,zs,rfl,rfl,hx,hy,by rw[<- p.length,<- p2.length]; exact jd hz,?_⟩;exact ho ι _ (Ext.write hx (ZD ha)) (hS.write e ha hx (Paired.app p p2)) _ .non
   | _=>exact ho.elim
  | _=>exact ho.elim
theorem wL{o a:Expr}{es:W7}{me:Me}{name:Str}{apos cpos:Pos}{id:String}{mo:Sg->M D}{m:Sg->M (List D)}(hK:Γ.K=X.K)(pa:PlainAttrs "list")(slot:Slot "list" name id)(hty:typeOf (.builtin id)=pure (.type "method_descriptor"))
  (hm:MtR X id (λx xs H Q=>∃ι S dx ds,ao Γ ι H S/\Rep Γ ι H dx x/\aA Γ ι H ds xs/\Out Γ xw ι H (meD me dx ds S) λd _ ι' H'=>∀v,Rep Γ ι' H' d v->Q v H')) (ho:PE X o (tM Γ xw mo)) (ha:PA X (a::es) (tMA Γ xw m))
  (hbase:attributeBase o name X.env (eval o X.env)=eval o X.env)
  (hfew:((backTo cpos (starEach (a::es) X.env)).all (λx=>!x.1)&&(backToKw cpos (keywordEach [] X.env)).all (λx=>x.1.isSome)&&decide ((a::es).length+([]:List Keyword).length+(if([]:List Keyword).isEmpty then 0 else 1)<30))=true)
  (hline:(apos.endLine==cpos.line)=true) (hs:starEach (a::es) X.env=(false,eval a X.env)::starEach es X.env) (hplain:(backTo cpos (starEach es X.env)).any (·.1)=false) :
  PE X (.Call (.Attribute o name apos) (a::es) [] cpos) (tM Γ xw λσ=>mo σ>>=λx=>lu x (m σ>>=λds=>meD me x ds)) :=
 PE.imp (Hs pa slot hty hm ho ha hbase hfew hline hs hplain) λσ H Q h=>by
  obtain⟨σd,ι,S,he,hs,ho⟩:=h;refine⟨σd,ι,S,he,hs,ho.bind.mono λd S' ι' H' _ _ ⟨s',e',o'⟩ v r=>?_⟩;obtain⟨hl,o'⟩:=Out.guard (b:=d.dz S') o'
  cases d with
  | loc l =>
   have r0:=r
   cases r with
   | loc q =>
    have hlt:l<S'.length:=by rw[<- s'.len]; exact(Zi.mp q).1
    obtain⟨b,hb,c⟩:=s'.cell l S'[l] (Ze hlt);rw[q] at hb; cases hb
    cases e:S'[l] with
    | lst ds =>
     rw[e] at c;obtain⟨xs,hx,_⟩:=c;refine⟨.inl ⟨rfl,xs,.of hx⟩,σd,ι',S',he.ext e',s',o'.bind.mono λds S2 ι2 H2 _ _ ⟨s2,e2,o2⟩ vs rs=>⟨ι2,S2,.loc l,ds,s2,r0.ext e2,rs,o2⟩⟩
    | dct kvs =>
     have:S'[l]?=some (.dct kvs):=by rw[Ze hlt,e]
     have hl:(match S'[l]? with|some (.lst _)=>true|_=>false)=true:=hl;rw[this] at hl; cases hl
    | fdc kvs =>
     have:S'[l]?=some (.fdc kvs):=by rw[Ze hlt,e]
     have hl:(match S'[l]? with|some (.lst _)=>true|_=>false)=true:=hl;rw[this] at hl; cases hl
  | _=>exact absurd hl Zz
end
end EV

namespace EV
open PySem PySem.Spec PyProof.Rows L2
def lW(Γ:Gx)(src:Src)(J:It)(ι0:W0)(H0:Hp):Prop:=∀ι H S,Ext ι0 ι H0 H->ao Γ ι H S->aL src S=.ok () S ->
 (∀(i:Nat) d,src.its[i]?=some d->J.go i H/\∀x H',J.yld i H x H'->Ext ι ι H H'/\ao Γ ι H' S/\Rep Γ ι H' d x)/\J.stop src.its.length H
noncomputable def tMI(Γ:Gx)(xw:XW)(m:Sg->M Src):TI:=λσ H R=>∃σd ι S,aU Γ ι H σ σd/\ao Γ ι H S/\Out Γ xw ι H (m σd S) λsrc _ ι' H'=>∀J,lW Γ src J ι' H'->R J H'
theorem j9(src:Src)(S:af):aL src S=.ok () S\/aL src S=.bad:=by
 unfold aL
 cases src.l with
 | none=>exact .inl rfl
 | some l =>
  dsimp only
  cases listAt S l with
  | none=>exact .inr rfl
  | some ds =>
   by_cases h:ds=src.raw
   ·exact .inl (by simp only[h,decide_true]; rfl)
   ·exact .inr (by simp only[h,decide_false]; rfl)
section
variable{X:Cx}{Γ:Gx}{xw:XW}{tg a:Expr}{ma:Sg->M D}{pos:Pos}
theorem PI.imp{iter:Expr}{t t':TI}(h:PI X tg iter t)(f:∀σ H R,t' σ H R->t σ H R):PI X tg iter t':=λpins s σ H R I q=>h pins s σ H R I (f σ H R q)
noncomputable def iSq(K:WV)(tl:TE):TI:=λσ H R=>tl σ H λx H1=>∃a,x=.ref a/\(((∃xs,SqL K H1 a xs)/\R (Itl K a) H1)\/((∃xs,SqT K H1 a xs)/\R (Itt K a) H1))
theorem yf{l:Expr}{tl:TE}(hl:PE X l tl):PI X tg l (iSq X.K tl):=by
 intro pins s σ H R I h;refine thn (hl pins s σ H _ I h) λv s1 ⟨x,H1,I1,r1,q1⟩=>?_
 obtain⟨a,e,q1⟩:=q1;subst e;cases r1;rcases q1 with⟨⟨xs,hq⟩,q⟩|⟨⟨xs,hq⟩,q⟩
 ·have hc:PE X l (λσ H Q=>True->True->tl σ H Q):=λpins s σ H Q I h=>hl pins s σ H Q I (h trivial trivial)
  obtain⟨its,rv,p,hz⟩:=I1.list hq;refine We p.isList ?_;refine⟨s1.heap.objs.size,[s1.heap.objs.size],_,_,H1,rfl,I1.kept (t':=s1.toks) λb o e=>Zg _ e,Es a _,⟨_,Zw _ rfl,rfl,rfl⟩,λb hb=>?_,q⟩;have e:b=s1.heap.objs.size:=by simpa using hb
  subst e;exact I1.ic (Zm _) (I1.hok.fresh (Zm _))
 ·obtain⟨its,rv,p,hz⟩:=I1.tuple hq;refine QC (show s1.heap.IsTuple a its.toArray from p) ?_;refine⟨s1.heap.objs.size,[s1.heap.objs.size],_,_,H1,rfl,I1.kept (t':=s1.toks) λb o e=>Zg _ e,Il a _,⟨_,Zw _ rfl,rfl,rfl⟩,λb hb=>?_,q⟩;have e:b=s1.heap.objs.size:=by simpa using hb
  subst e;exact I1.ic (Zm _) (I1.hok.fresh (Zm _))
theorem xF{ι:W0}{H:Hp}{S:af}{d:D}{v:V}{src:Src}{S':af}(hS:ao Γ ι H S)(r:Rep Γ ι H d v)(h:srcOf d S=.ok src S'):S'=S/\src.its=src.raw/\aL src S=.ok () S/\∃a tup,v=.ref a/\(∃xs,SqB Γ.K H tup a xs) /\
  ∀ι1 H1 S1,Ext ι ι1 H H1->ao Γ ι1 H1 S1->aL src S1=.ok () S1->∃xs,SqB Γ.K H1 tup a xs/\aA Γ ι1 H1 src.raw xs:=by
 cases d with
 | tup ds =>
  cases h;obtain⟨a,xs,e,t,p⟩:=r.cg;exact⟨rfl,rfl,rfl,a,true,e,⟨xs,t⟩,λι1 H1 S1 e1 _ _=>⟨xs,e1.sqT t,aA.ext e1 p⟩⟩
 | fro ds =>
  cases h;obtain⟨a,xs,e,t,p⟩:=r.fz;exact⟨rfl,rfl,rfl,a,false,e,⟨xs,t.sq⟩,λι1 H1 S1 e1 _ _=>⟨xs,(e1.fro t).sq,aA.ext e1 p⟩⟩
 | loc l =>
  have h:(items (.loc l)>>=λds=>pure (⟨ds,some l,ds⟩:Src)) S=.ok src S':=h;rcases iY (.loc l) S with⟨ds,e⟩|e
  ·rw[aj e] at h;cases h;obtain⟨_,a,xs,e2,_,p,t⟩:=cJ hS r e;subst e2
   have hl:listAt S l=some ds:=by
    rw[wC] at e
    cases q:listAt S l with
    | none=>rw[q] at e; cases e
    | some es=>rw[q] at e; cases e; rfl
   refine⟨rfl,rfl,?_,a,false,rfl,⟨xs,t l rfl⟩,λι1 H1 S1 e1 s1 st=>?_⟩
   ·unfold aL; simp only[hl,decide_true]; rfl
   ·have hl1:listAt S1 l=some ds:=by
     unfold aL at st;dsimp only at st
     cases q:listAt S1 l with
     | none=>rw[q] at st; cases st
     | some es =>
      rw[q] at st
      by_cases h:es=ds
      ·rw[h]
      ·simp only[h,decide_false] at st; cases st
    obtain⟨b,ys,e3,sb,p1⟩:=s1.list (r.ext e1) (show asL S1 (.loc l)=some ds from hl1);cases e3;exact⟨ys,sb,p1⟩
  ·rw[aZ e] at h; cases h
 | _=>cases h
theorem pK(d:D)(S:af):(∃src,srcOf d S=.ok src S)\/srcOf d S=.bad:=by
 cases d with
 | tup ds=>exact .inl ⟨_,rfl⟩
 | fro ds=>exact .inl ⟨_,rfl⟩
 | loc l =>
  show(∃src,(items (.loc l)>>=λds=>pure (⟨ds,some l,ds⟩:Src)) S=.ok src S)\/(items (.loc l)>>=λds=>pure (⟨ds,some l,ds⟩:Src)) S=.bad;rcases iY (.loc l) S with⟨ds,e⟩|e
  ·rw[aj e]; exact .inl ⟨_,rfl⟩
  ·rw[aZ e]; exact .inr rfl
 | _=>exact .inr rfl
theorem EI(hK:Γ.K=X.K)(ha:PE X a (tM Γ xw ma)):PI X tg a (tMI Γ xw λσ=>ma σ>>=srcOf) :=
 PI.imp (yf ha) λσ H R h=>by
  obtain⟨σd,ι,S,he,hs,ho⟩:=h;refine⟨σd,ι,S,he,hs,ho.bind.mono λd S' ι' H' _ _ ⟨s',e',o'⟩ v r=>?_⟩;rcases pK d S' with⟨src,q⟩|q
  ·rw[q] at o';obtain⟨_,e1,st,a,tup,rfl,⟨xs,sq⟩,hall⟩:=xF s' r q;refine⟨a,rfl,?_⟩;have fin:=o'.here s'
   cases tup with
   | true =>
    refine .inr ⟨⟨xs,by rw[<- hK]; exact sq⟩,fin _ λι1 H1 S1 e2 s1 st1=>?_⟩;obtain⟨ys,sq1,p1⟩:=hall ι1 H1 S1 e2 s1 st1;have sq1:SqT X.K H1 a ys:=by rw[<- hK]; exact sq1
    rw[e1];refine⟨λi d hd=>?_,ys,sq1,by rw[p1.length]; exact Zm _⟩;obtain⟨y,hy,r1⟩:=Paired.get p1 hd
    exact⟨⟨ys,y,sq1,hy⟩,λx H' ⟨e3,hx⟩=>by
     subst e3;have:=hx ys sq1;rw[hy] at this; cases this;exact⟨.refl,s1,r1⟩⟩
   | false =>
    refine .inl ⟨⟨xs,by rw[<- hK]; exact sq⟩,fin _ λι1 H1 S1 e2 s1 st1=>?_⟩;obtain⟨ys,sq1,p1⟩:=hall ι1 H1 S1 e2 s1 st1;have sq1:SqL X.K H1 a ys:=by rw[<- hK]; exact sq1
    rw[e1];refine⟨λi d hd=>?_,ys,sq1,by rw[p1.length]; exact Zm _⟩;obtain⟨y,hy,r1⟩:=Paired.get p1 hd
    exact⟨⟨ys,y,sq1,hy⟩,λx H' ⟨e3,hx⟩=>by
     subst e3;have:=hx ys sq1;rw[hy] at this; cases this;exact⟨.refl,s1,r1⟩⟩
  ·rw[q] at o'; exact o'.elim
theorem wj:∀{ds:Ya} {k i:Nat} {d:D},(num k ds)[i]?=some d->∃e,ds[i]?=some e/\d=.tup [.int ((k+i:Nat):Int),e]
 | [],k,i,d,h=>by simp[num] at h
 | x::r,k,0,d,h=>by simp[num] at h; exact⟨x,rfl,by rw[<- h]; simp⟩
 | x::r,k,i+1,d,h=>by
  have h:(num (k+1) r)[i]?=some d:=by simpa [num] using h
  obtain⟨e,h1,h2⟩:=wj h;exact⟨e,by simpa using h1,by rw[h2]; congr 3; omega⟩
theorem u7:∀(ds:Ya) (k:Nat),(num k ds).length=ds.length
 | [],_=>rfl
 | _::r,k=>by simp[num,u7 r]
theorem Af{p:Pos}{elts:W7}{k1:Nat}{tp:Pos}(hK:Γ.K=X.K)(hg:Gl X "enumerate")(hm:X.mg "enumerate" = none)(hv:bootBuiltins "enumerate" = some (.type "enumerate"))(ha:PE X a (tM Γ xw ma))(hs:starEach [a] X.env=[(false,eval a X.env)]) :
  PI X (.Tuple elts k1 tp) (.Call (.Name "enumerate" p) [a] [] pos) (tMI Γ xw λσ=>ma σ>>=λd=>srcOf d>>=λs=>pure { s with its:=num 0 s.its }) :=
 PI.imp (Bv hg hm hv (kG ha oY (by rw[hs]; rfl)) hs) λσ H R h=>by
  obtain⟨σd,ι,S,he,hs,ho⟩:=h;refine⟨σd,ι,S,he,hs,ho.bind.mono λd S' ι' H' _ _ ⟨s',e',o'⟩ v r=>?_⟩;rcases pK d S' with⟨src,q⟩|q
  ·rw[aj q] at o';obtain⟨_,e1,st,a,tup,rfl,⟨xs,sq⟩,hall⟩:=xF s' r q;have fin:=o'.here s';refine⟨tup,a,rfl,⟨xs,by rw[<- hK]; exact sq⟩,fin _ λι1 H1 S1 e2 s1 st1=>?_⟩;obtain⟨ys,sq1,p1⟩:=hall ι1 H1 S1 e2 s1 st1;have sq1:SqB X.K H1 tup a ys:=by rw[<- hK]; exact sq1
   refine⟨λi d hd=>?_,ys,sq1,by show ys.length<=(num 0 src.its).length; rw[u7,e1,p1.length]; exact Zm _⟩;obtain⟨e,he',rfl⟩:=wj hd;rw[e1] at he';obtain⟨y,hy,r1⟩:=Paired.get p1 he';refine⟨⟨ys,y,sq1,hy⟩,?_⟩;rintro x H' ⟨z,p,hz,hp,rfl,rfl⟩;have hz:=hz ys sq1;rw[hy] at hz; cases hz;refine⟨Ext.laid hp,s1.laid hp _,.jX cH (.cons ?_ (.cons (r1.ext (Ext.laid hp)) .nil))⟩;rw[XV]; exact .int _
  ·rw[aZ q] at o'; exact o'.elim
theorem zv(lo hi:Int):rng lo hi 1=(List.range (hi-lo).toNat).map λ(k:Nat)=>lo+k:=by
 unfold rng;rw[Zf (by decide)];have:(hi-lo+1-1)/1=hi-lo:=by rw[WO]; omega
 rw[this];simp
theorem DI{n i k:Nat}(h:(List.range n)[i]?=some k):k=i/\i<n:=by
 obtain⟨h1,h2⟩:=Zi.mp h;rw[List.getElem_range] at h2;rw[ZS] at h1;exact⟨h2.symm,h1⟩
theorem Ec{ι:W0}{H:Hp}(lo hi:Int):lW Γ ⟨(rng lo hi 1).map .int,none,[]⟩ (Itr lo (hi-lo).toNat) ι H:=λι1 H1 S1 e s1 st=>by
 rw[zv,Xr];refine⟨λi d hd=>?_,by show(hi-lo).toNat<=_; simp⟩;have hd:((List.range (hi-lo).toNat).map (D.int∘λ(k:Nat)=>lo+k))[i]?=some d:=hd;rw[ZL,ZG] at hd;obtain⟨k,hk,rfl⟩:=hd;obtain⟨rfl,hlt⟩:=DI hk;exact⟨hlt,λx H' ⟨e1,e2⟩=>by subst e1; subst e2; exact⟨.refl,s1,.int _⟩⟩
theorem z5{i:Int}(h:near i=true):-(2^62)<=i/\i<2^62:=Zl h
variable{b c:Expr}{m:Sg->M (List D)}{p:Pos}
theorem Out.monoE{α:Type}{r:Res α}{ι:W0}{H:Hp}{k k':α->af->List Addr->Hp->Prop}(h:Out Γ xw ι H r k)(f:∀a S' ι' H',r=.ok a S'->Ext ι ι' H H'->ao Γ ι' H' S'->k a S' ι' H'->k' a S' ι' H'):Out Γ xw ι H r k':=by
 cases r with
 | ok a S'=>exact λι' H' e' s'=>f _ _ _ _ rfl e' s' (h ι' H' e' s')
 | exc c S'=>exact h
 | bad=>exact h
theorem JK(hg:Gl X "range")(hm:X.mg "range" = none)(ha:PA X [a] (tMA Γ xw m))(hs:starEach [a] X.env=[(false,eval a X.env)])(hlen:∀σ S ds S',m σ S=.ok ds S'->ds.length=1) :
  PI X tg (.Call (.Name "range" p) [a] [] pos) (tMI Γ xw λσ=>m σ>>=λds=>opt (dO ds)>>=λis=>pure ⟨is.map .int,none,[]⟩) :=
 PI.imp (Jx hg hm ha hs) λσ H R h=>by
  obtain⟨σd,ι,S,he,hs,ho⟩:=h;refine⟨σd,ι,S,he,hs,Out.monoE ho.bind λds S' ι' H' eq _ _ ⟨s',e',o'⟩ vs rs=>?_⟩;have hl:=hlen _ _ _ _ eq;obtain⟨is,q,o'⟩:=Out.opt o';have fin:=o'.here s';obtain⟨d,_,_,_,rfl,rfl,r,rs,hl⟩:=Paired.step rs hl;obtain⟨rfl,rfl⟩:=Paired.last rs hl
  (
   cases r with
   | int j =>
    simp only[dO] at q;split at q
    ·rename_i hn;cases q;have hn:=z5 hn;refine⟨j,rfl,hn.1,hn.2,fin _ ?_⟩;have:=Ec (Γ:=Γ) (ι:=ι') (H:=H') 0 j;rw[Int.sub_zero] at this;exact this
    ·cases q
   | _=>cases q)
noncomputable def tMG(Γ:Gx)(t:Tg):TG:=λv σ H Q=>∃σd ι S d σd',aU Γ ι H σ σd/\ao Γ ι H S/\Rep Γ ι H d v/\aT t d σd S=.ok σd' S/\∀σ',aU Γ ι H σ' σd'->(∀j,t.has j=false->σ'[j]?=σ[j]?)->Q σ' H
theorem PG.imp{target:Expr}{t t':TG}(h:PG X target t)(f:∀v σ H Q,t' v σ H Q->t v σ H Q):PG X target t':=λpins s σ H v u Q I r q=>h pins s σ H v u Q I r (f v σ H Q q)
theorem Ib{i:Nat}{x:Str}(hN:X.N.Nodup)(hi:X.N[i]?=some x)(hx:Loc X.env.scope x)(hf:X.fn x=true\/X.env.scope.names.lookup x=some .local):PG X (.Name x pos) (tMG Γ (.one i)) :=
 PG.imp (w6 hN hi hx hf) λv σ H Q h=>by
  obtain⟨σd,ι,S,d,σd',he,hs,r,hb,q⟩:=h;cases hb;exact q _ (he.set i r) λj hj=>by rw[ZX (by intro z; subst z; simp[Tg.has] at hj)]
noncomputable def nK:List Nat->TGs
 | []=>u5
 | i::r=>vJ (i9 i) (nK r)
noncomputable def k7(X:Cx):List Expr->List Nat->Prop:=Paired λe i=>∃x p,e=.Name x p/\X.N[i]?=some x/\Loc X.env.scope x/\(X.fn x=true\/X.env.scope.names.lookup x=some .local)
theorem wo(hN:X.N.Nodup):∀{es:W7} {is:List Nat},k7 X es is->PGs X es (nK is)
 | _,_,.nil=>BI
 | _,_,.cons ⟨x,p,e,h1,h2,h3⟩ r=>by
  subst e;exact yx (w6 hN h1 h2 h3) (wo hN r) rfl
theorem oB:∀{es:W7} {is:List Nat},k7 X es is->(assignEach es X.env).length=is.length/\(assignEach es X.env).findIdx? (·.1)=none
 | _,_,.nil=>⟨rfl,rfl⟩
 | _,_,.cons ⟨x,p,e,h1,h2,h3⟩ r=>by
  subst e;obtain⟨a,b⟩:=oB r;refine⟨Xs (· + 1) a,?_⟩;show List.findIdx? (·.1) ((false,_)::assignEach _ X.env)=none;rw[List.findIdx?_cons];simp only[Zu,ZM];rw[b]; rfl
theorem qi{ι:W0}{H:Hp}{Q:L2.St->Hp->Prop}:∀{is:List Nat} {ds:Ya} {xs:W8} {σ:L2.St} {σd:Sg},ds.length=is.length->aA Γ ι H ds xs->aU Γ ι H σ σd->(∀σ',aU Γ ι H σ' (cy is ds σd)->(∀j,is.contains j=false->σ'[j]?=σ[j]?)->Q σ' H)->nK is xs σ H Q
 | [],[],_,σ,σd,_,.nil,he,q=>⟨rfl,q _ he λ_ _=>rfl⟩
 | i::is,d::ds,_,σ,σd,hl,.cons (b:=v) r rr,he,q=>⟨v,_,rfl,qi (by simpa using hl) rr (he.set i r) λσ' h' hl'=>q σ' h' λj hj=>by
   rw[List.contains_cons,Bool.or_eq_false_iff] at hj;rw[hl' j hj.2,ZX (by intro z; subst z; simp at hj)]⟩
 | [],_::_,_,_,_,hl,_,_,_=>by simp at hl
 | _::_,[],_,_,_,hl,_,_,_=>by simp at hl
theorem JD{es:W7}{is:List Nat}{k:Nat}(hK:Γ.K=X.K)(hc:X.calm=true)(hN:X.N.Nodup)(hn:k7 X es is):PG X (.Tuple es k pos) (tMG Γ (.many is)) :=
 PG.imp (Fq hc (wo hN hn) (oB hn).1 (oB hn).2) λv σ H Q h=>by
  obtain⟨σd,ι,S,d,σd',he,hs,r,hb,q⟩:=h
  cases d with
  | tup ds =>
   obtain⟨a,xs,rfl,t,p⟩:=r.cg;have hb:guard (decide (ds.length=is.length)) (pure (cy is ds σd):M Sg) S=.ok σd' S:=hb
   by_cases hl:ds.length=is.length
   ·rw[show decide (ds.length=is.length)=true from Zj hl] at hb;cases hb;exact⟨a,xs,rfl,by rw[<- hK]; exact t,by rw[<- p.length]; exact hl,qi hl p he q⟩
   ·rw[show decide (ds.length=is.length)=false from Zt hl] at hb;cases hb
  | _=>cases hb
theorem ng(t:Tg)(d:D)(σ:Sg)(S:af):(∃σ',aT t d σ S=.ok σ' S/\σ'.length=σ.length)\/aT t d σ S=.bad:=by
 have hlen:∀(is:List Nat) (ds:Ya) (σ:Sg),(cy is ds σ).length=σ.length:=by
  intro is
  induction is with
  | nil=>intro ds σ; cases ds<;>rfl
  | cons i r ih=>intro ds σ; cases ds with
   | nil=>rfl
   | cons d ds=>show(cy r ds (σ.set i (some d))).length=_; rw[ih,XR]
 cases t with
 | one i=>exact .inl ⟨_,rfl,by rw[XR]⟩
 | many is =>
  cases d with
  | tup ds =>
   show(∃σ',guard (decide (ds.length=is.length)) (pure (cy is ds σ):M Sg) S=.ok σ' S/\_)\/guard (decide (ds.length=is.length)) (pure (cy is ds σ):M Sg) S=.bad
   by_cases hl:ds.length=is.length
   ·rw[show decide (ds.length=is.length)=true from Zj hl];exact .inl ⟨_,rfl,hlen _ _ _⟩
   ·rw[show decide (ds.length=is.length)=false from Zt hl];exact .inr rfl
  | _=>exact .inr rfl
theorem Out.aT{α:Type}{t:Tg}{d:D}{σd:Sg}{ι:W0}{H:Hp}{S:af}{f:Sg->M α}{k:α->af->List Addr->Hp->Prop}(ho:Out Γ xw ι H ((EV.aT t d σd>>=f) S) k):∃σd',EV.aT t d σd S=.ok σd' S/\σd'.length=σd.length/\Out Γ xw ι H (f σd' S) k:=by
 rcases ng t d σd S with⟨σ',e,l⟩|e
 ·rw[aj e] at ho; exact⟨σ',e,l,ho⟩
 ·rw[aZ e] at ho; exact ho.elim
end
end EV

namespace EV
open PySem PySem.Spec PyProof.Rows L2
section
variable{X:Cx}{Γ:Gx}{xw:XW}{a b:Expr}{m:Sg->M (List D)}{pos:Pos}
end
end EV

namespace EV
open PySem PySem.Spec PyProof.Rows L2
noncomputable def XF:XW:=λ_ _ _ _=>False
section
variable{Γ:Gx}{xw:XW}{ι ι':W0}{H H':Hp}{S:af}{σ:L2.St}
theorem ao.take(hS:ao Γ ι H S){l:Addr}{xs:W8}{ds:Ya}(hn:l∉ι)(h:H l=some (.lst xs))(r:aA Γ ι H ds xs):ao Γ (ι++[l]) H (S++[.lst ds]):=by
 have mv:∀{d:D} {v:V},Rep Γ ι H d v->Rep Γ (ι++[l]) H d v:=λr=>r.move (Zd _ _) (λ_ _ e=>e) λ_ _ _ e=>e
 refine⟨by simp[hS.len],XQ.mpr ⟨hS.nd,by simp,?_⟩,λm c hm=>?_⟩
 ·intro a ha b hb;have:b=l:=by simpa using hb
  subst this;exact λz=>hn (z▸ha)
 ·by_cases hl:m<S.length
  ·rw[ZC hl] at hm;obtain⟨a,ha,c1⟩:=hS.cell m c hm;refine⟨a,fV (Zd _ _) ha,?_⟩
   cases c with
   | lst zs=>obtain⟨ws,hw,rw'⟩:=c1; exact⟨ws,hw,Paired.imp (λ_ _ r=>mv r) rw'⟩
   | dct kvs=>obtain⟨ws,hw,rw'⟩:=c1; exact⟨ws,hw,Paired.imp (λ_ _ q=>⟨q.1,mv q.2⟩) rw'⟩
   | fdc kvs=>obtain⟨ws,hw,rw'⟩:=c1; exact⟨ws,hw,Paired.imp (λ_ _ q=>⟨q.1,mv q.2⟩) rw'⟩
  ·rw[ZO (by omega)] at hm
   have hl2:m-S.length=0:=by
    have:=(Zi.mp hm).1;simp at this; omega
   rw[hl2] at hm;have h':(Cell.lst ds)=c:=by simpa using hm
   subst h';have e1:m=ι.length:=by rw[hS.len]; omega
   subst e1;exact⟨l,by simp,xs,h,Paired.imp (λ_ _ r=>mv r) r⟩
theorem Ext.past(e:Ext ι ι' H H'){l:Addr}{ys:W8}(hl:H l=none):Ext ι ι' H (upd H' l (.lst ys)) :=
 ⟨e.pre,λa xs h=>by rw[aF (bF h hl)]; exact e.tup a xs h,λa o u h=>by rw[aF (bF h hl)]; exact e.frz a o u h,λa o h n=>by rw[aF (bF h hl)]; exact e.oth a o h n,e.fresh⟩
theorem Ext.bK(e:Ext ι ι' H H'){l:Addr}{o:HO}(h:H l=some o)(hn:l∉ι):H' l=some o/\l∉ι':=⟨e.oth l o h hn,λm=>by have:=e.fresh l m hn; rw[h] at this; cases this⟩
theorem HH{src:Src}{f:D->M (Option D)}{post:Ya}{S2:af}(h:bE src f [] S=.ok post S2):aL src S=.ok () S/\post=[]/\S2=S:=by
 have h:(aL src>>=λ_=>pure []) S=.ok post S2:=h;rcases j9 src S with e|e
 ·rw[aj e] at h; cases h; exact⟨e,rfl,rfl⟩
 ·rw[aZ e] at h; cases h
theorem Dt{src:Src}{f:D->M (Option D)}{d:D}{rest post:Ya}{S2:af}(h:bE src f (d::rest) S=.ok post S2) :
  aL src S=.ok () S/\∃y S3 post',f d S=.ok y S3/\bE src f rest S3=.ok post' S2/\post=(match y with|some y=>y::post'|none=>post'):=by
 have h:(aL src>>=λ_=>f d>>=λy=>bE src f rest>>=λys=>pure (match y with|some y=>y::ys|none=>ys)) S=.ok post S2:=h;rcases j9 src S with e|e
 ·rw[aj e] at h
  cases q:f d S with
  | bad=>rw[aZ q] at h; cases h
  | exc c S3=>rw[cM q] at h; cases h
  | ok y S3 =>
   rw[aj q] at h
   cases q2:bE src f rest S3 with
   | bad=>rw[aZ q2] at h; cases h
   | exc c S4=>rw[cM q2] at h; cases h
   | ok ys S4=>rw[aj q2] at h; cases h; exact⟨e,y,S3,ys,rfl,q2,rfl⟩
 ·rw[aZ e] at h; cases h
end
section
variable{X:Cx}{Γ:Gx}{xw:XW}{scope:Scope}{N':W4}{k:Nat}{elt iter tg:Expr}{ifs:W7}{pos:Pos}{mi:Sg->M Src}{t:Tg}{nt:Sg->M Bool}{me:Sg->M D}
noncomputable def k8(k:Nat)(mi:Sg->M Src)(t:Tg)(nt:Sg->M Bool)(me:Sg->M D):Sg->M D:=λσ=>mi σ>>=λs =>
 quiet (bE s (λd=>aT t d (σ++List.replicate k none)>>=λσ'=>nt σ'>>=λb=>if b=true then me σ'>>=λy=>pure (some y) else pure none) s.its)>>=λys=>guard (fits ys.length) (alloc (.lst ys))
theorem pM(hslot:∀j,j<X.N.length->t.has j=false){σ:L2.St}(hσ:σ.length=X.N.length){H:Hp}{Q:VK}(h:tM Γ xw (k8 k mi t nt me) σ H Q):l8 k (tMI Γ xw mi) (tMG Γ t) (tMT Γ XF nt) (tM Γ XF me) σ H Q:=by
 obtain⟨σd,ι,S,hE,hS,ho⟩:=h;refine⟨σd,ι,S,hE,hS,ho.bind.mono λsrc S1 ι1 H1 _ _ ⟨s1,e1,o1⟩ J hJ l hl=>?_⟩;generalize hf:(λd=>aT t d (σd++List.replicate k none)>>=λσ'=>nt σ'>>=λb=>if b=true then me σ'>>=λy=>pure (some y) else pure none)=f at o1
 cases q:bE src f src.its S1 with
 | bad=>rw[aZ (show quiet (bE src f src.its) S1=.bad by unfold quiet; rw[q])] at o1; exact o1.elim
 | exc c S2=>rw[aZ (show quiet (bE src f src.its) S1=.bad by unfold quiet; rw[q])] at o1; exact o1.elim
 | ok ys S2 =>
  rw[aj (show quiet (bE src f src.its) S1=.ok ys S2 by unfold quiet; rw[q])] at o1;obtain⟨hz,o1⟩:=Out.guard o1;have hz:=jd hz
  refine⟨λi m H=>∃ι' S' pre post xs,i<=src.its.length/\m=src.its.length-i/\Ext ι1 ι' H1 H/\ao Γ ι' H S'/\l∉ι'/\H l=some (.lst xs)/\aA Γ ι' H pre xs/\bE src f (src.its.drop i) S'=.ok post S2/\ys=pre++post/\aU Γ ι' H σ σd,
   ⟨src.its.length,ι1,S1,[],ys,[],Xe _,rfl,Ext.laid hl,s1.laid hl _,s1.new hl,cH,.nil,q,rfl,(hE.ext e1).ext (Ext.laid hl)⟩,?_⟩
  rintro i m H ⟨ι',S',pre,post,xs,hi,rfl,eH,sH,ln,hH,rp,hc,hys,eE⟩
  by_cases hlt:i<src.its.length
  ·rw[Xt hlt] at hc;obtain⟨st,y,S3,post',hfd,hc',hpost⟩:=Dt hc;obtain⟨jgo,jyld⟩:=(hJ ι' H S' eH sH st).1 i src.its[i] (Ze hlt);refine .inr ⟨jgo,λx H' yl=>?_⟩;obtain⟨eX,sX,rX⟩:=jyld x H' yl;obtain⟨hH',_⟩:=eX.bK hH ln;rw[<- hf] at hfd;have hfd:(aT t src.its[i] (σd++List.replicate k none)>>=λσ'=>nt σ'>>=λb=>if b=true then me σ'>>=λy=>pure (some y) else pure none) S'=.ok y S3:=hfd
   obtain⟨σd',hb⟩:∃σd',aT t src.its[i] (σd++List.replicate k none) S'=.ok σd' S':=by
    rcases ng t src.its[i] (σd++List.replicate k none) S' with⟨σd',hb,_⟩|hb
    ·exact⟨σd',hb⟩
    ·rw[aZ hb] at hfd; cases hfd
   rw[aj hb] at hfd;refine⟨σd++List.replicate k none,ι',S',src.its[i],σd',(eE.ext eX).more k,sX,rX,hb,λσ' hE' hK=>⟨λj v hj=>?_,?_⟩⟩
   ·rw[hK j (hslot j ?_)]; exact hj
    by_cases hjl:j<σ.length
    ·omega
    ·rw[ZO (by omega),Qb] at hj;split at hj<;>cases hj
   ·cases qn:nt σd' S' with
    | bad=>rw[aZ qn] at hfd; cases hfd
    | exc c S4=>rw[cM qn] at hfd; cases hfd
    | ok b S4 =>
     rw[aj qn] at hfd;refine⟨σd',ι',S',hE',sX,?_⟩;rw[qn];intro ι3 H3 e3 s3;obtain⟨hH3,ln3⟩:=e3.bK hH' ln;have eA:Ext ι1 ι3 H1 H3:=(eH.trans eX).trans e3
     cases b with
     | false =>
      rw[Zh Zz] at hfd ⊢;cases hfd;exact⟨src.its.length-(i+1),by omega,ι3,_,pre,post',xs,hlt,rfl,eA,s3,ln3,hH3,aA.ext e3 (aA.ext eX rp),hc',by rw[hys,hpost],(eE.ext eX).ext e3⟩
     | true =>
      rw[Zf rfl] at hfd ⊢;refine⟨σd',ι3,S4,hE'.ext e3,s3,?_⟩
      cases qe:me σd' S4 with
      | bad=>rw[aZ qe] at hfd; cases hfd
      | exc c S5=>rw[cM qe] at hfd; cases hfd
      | ok yd S5 =>
       rw[aj qe] at hfd;cases hfd;intro ι4 H4 e4 s4 v rv;obtain⟨hH4,ln4⟩:=e4.bK hH3 ln3;have rp4:aA Γ ι4 H4 pre xs:=aA.ext e4 (aA.ext e3 (aA.ext eX rp));refine⟨xs,hH4,?_,src.its.length-(i+1),by omega,ι4,_,pre++[yd],post',xs++[v],hlt,rfl,(eA.trans e4).past hl,s4.other hH4 ln4,ln4,cH,aA.write hH4 (Paired.app rp4 (.cons rv .nil)),hc',by rw[hys,hpost]; simp,(((eE.ext eX).ext e3).ext e4).write hH4⟩;have:=rp4.length;rw[hys,hpost,Zn,Zy] at hz;omega
  ·have ei:i=src.its.length:=by omega
   subst ei;rw[List.drop_length] at hc;obtain⟨st,rfl,rfl⟩:=HH hc;refine .inl ⟨(hJ ι' H S2 eH sH st).2,?_⟩;rw[XA] at hys;subst hys;refine o1 (ι'++[l]) H ⟨eH.pre.trans (Zd _ _),eH.tup,eH.frz,eH.oth,λa ha hn=>?_⟩ (sH.take ln hH rp) _ (.loc (by rw[<- sH.len]; simp));rcases ZB.mp ha with z|z
   ·exact eH.fresh a z hn
   ·have:a=l:=by simpa using z
    rw[this]; exact hl
theorem BN(C:eT X scope N' k)(hc:X.calm=true)(hslot:∀j,j<X.N.length->t.has j=false)(hi:PI X tg iter (tMI Γ xw mi))(hg:∀cl fp s3 H3,PG (aS X scope cl N' fp s3 H3) tg (tMG Γ t))(htt:∀cl fp s3 H3,PF (aS X scope cl N' fp s3 H3) ifs (tMT Γ XF nt))(hte:∀cl fp s3 H3,PE (aS X scope cl N' fp s3 H3) elt (tM Γ XF me))
  (hs:∀x,foldedSetIterable iter X.env x=pure x):PE X (.ListComp elt [⟨tg,iter,ifs,0⟩] scope pos) (tM Γ xw (k8 k mi t nt me)):=by
 intro pins s σ H Q I h;exact Ed C hc hi hg htt hte hs pins s σ H Q I (pM hslot I.len h)
noncomputable def FlK(Γ:Gx)(D:Ends):Fl->af->List Addr->Hp->Prop
 | .nx σ',_,ι',H'=>∀σv,aU Γ ι' H' σv σ'->D.nx σv H'
 | .rt d,_,ι',H'=>∀v,Rep Γ ι' H' d v->D.rt v H'
 | .bk σ',_,ι',H'=>∀σv,aU Γ ι' H' σv σ'->D.bk σv H'
 | .ct σ',_,ι',H'=>∀σv,aU Γ ι' H' σv σ'->D.ct σv H'
noncomputable def tMS(Γ:Gx)(xw:XW)(m:Sg->M Fl):TS:=λD σ H=>∃σd ι S,aU Γ ι H σ σd/\ao Γ ι H S/\Out Γ xw ι H (m σd S) (FlK Γ D)
variable{e:Expr}{ma:Sg->M D}{na:Sg->M Bool}{ms ms2:Sg->M Fl}{st:Stmt}{sts sts2:List Stmt}
theorem JR(he:PE X e (tM Γ xw ma)):PS X (.Return (some e) pos) (tMS Γ xw λσ=>ma σ>>=λd=>pure (.rt d)) :=
 PS.imp (BP he) λD σ H h=>by
  obtain⟨σd,ι,S,hE,hs,ho⟩:=h;exact⟨σd,ι,S,hE,hs,ho.bind.mono λd S' ι' H' _ _ ⟨s',e',o'⟩ v r=>o'.here s' v r⟩
theorem AO:PS X (.Return none pos) (tMS Γ xw λ_=>pure (.rt .non)) :=
 PS.imp Hz λD σ H h=>by
  obtain⟨σd,ι,S,hE,hs,ho⟩:=h;exact ho.here hs _ .non
theorem DN(he:PE X e (tM Γ xw ma))(hs:swapsWith e none pos.line X.env=pure false):PS X (.Expr e pos) (tMS Γ xw λσ=>ma σ>>=λ_=>pure (.nx σ)) :=
 PS.imp (Fe he hs) λD σ H h=>by
  obtain⟨σd,ι,S,hE,hs,ho⟩:=h;exact⟨σd,ι,S,hE,hs,ho.bind.mono λd S' ι' H' _ _ ⟨s',e',o'⟩ v r=>o'.here s' _ (hE.ext e')⟩
theorem Bg:PS X (.Pass pos) (tMS Γ xw λσ=>pure (.nx σ)) :=
 PS.imp Gk λD σ H h=>by
  obtain⟨σd,ι,S,hE,hs,ho⟩:=h;exact ho.here hs _ hE
theorem Cq{x j p2}:PS X (.Expr (.Constant (.str x) j p2) pos) (tMS Γ xw λσ=>pure (.nx σ)) :=
 PS.imp G6 λD σ H h=>by
  obtain⟨σd,ι,S,hE,hs,ho⟩:=h;exact ho.here hs _ hE
theorem CV{D:Ends}{σ:L2.St}{H:Hp}(h:tMS Γ xw (λσ=>ma σ>>=λd=>aT t d σ>>=λσ'=>pure (.nx σ')) D σ H):lK (tM Γ xw ma) (tMG Γ t) D σ H:=by
 obtain⟨σd,ι,S,hE,hs,ho⟩:=h;refine⟨σd,ι,S,hE,hs,ho.bind.mono λd S' ι' H' _ _ ⟨s',e',o'⟩ v r=>?_⟩;obtain⟨σd',hb,_,o'⟩:=Out.aT o';exact⟨σd,ι',S',d,σd',hE.ext e',s',r,hb,λσ' hE' _=>o'.here s' _ hE'⟩
theorem lI(he:PE X e (tM Γ xw ma))(hg:PG X tg (tMG Γ t))(hs:swapsWithSole [tg] e pos.line X.env=pure false)(hw:swappedStores [tg] e X.env=pure none)(h1:(assignEach [tg] X.env).map (·.2)=[assign tg X.env]) :
  PS X (.Assign [tg] e pos) (tMS Γ xw λσ=>ma σ>>=λd=>aT t d σ>>=λσ'=>pure (.nx σ')):=PS.imp (yi he hg hs hw h1) λD σ H h=>CV h
theorem E5{j:Nat}{y:Str}{py spos:Pos}(C:eT X scope N' k)(hc:X.calm=true)(hslot:∀j,j<X.N.length->t.has j=false)(hi:PI X tg iter (tMI Γ xw mi))(hg:∀cl fp s3 H3,PG (aS X scope cl N' fp s3 H3) tg (tMG Γ t))(htt:∀cl fp s3 H3,PF (aS X scope cl N' fp s3 H3) ifs (tMT Γ XF nt))(hte:∀cl fp s3 H3,PE (aS X scope cl N' fp s3 H3) elt (tM Γ XF me))
  (hN:X.N.Nodup) (hj:X.N[j]?=some y) (hy:X.env.scope.names.lookup y=some .local) (hsw:swapsWith (.ListComp elt [⟨tg,iter,ifs,0⟩] scope pos) (some (.Name y py)) spos.line X.env=pure true) (hs:∀x,foldedSetIterable iter X.env x=pure x) :
  PS X (.Assign [.Name y py] (.ListComp elt [⟨tg,iter,ifs,0⟩] scope pos) spos) (tMS Γ xw λσ=>k8 k mi t nt me σ>>=λd=>aT (.one j) d σ>>=λσ'=>pure (.nx σ')):=by
 intro pins s σ H D I h;refine HV C hc hi hg htt hte hN hj hy hsw hs pins s σ H D I ?_
 have h1:tM Γ xw (k8 k mi t nt me) σ H (λx H1=>i9 j x σ H1 D.nx):=by
  obtain⟨σd,ι,S,hE,hS,ho⟩:=h;refine⟨σd,ι,S,hE,hS,ho.bind.mono λd S' ι' H' _ _ ⟨s',e',o'⟩ v r=>?_⟩;exact o'.here s' _ ((hE.ext e').set j r)
 exact pM hslot I.len h1
theorem yz{c:Expr}(hc:PT X c (tMT Γ xw na))(ha:PSs X sts (tMS Γ xw ms))(hb:PSs X sts2 (tMS Γ xw ms2)):PS X (.If c sts sts2 pos) (tMS Γ xw λσ=>na σ>>=λk=>if k=true then ms σ else ms2 σ) :=
 PS.imp (F3 hc ha hb) λD σ H h=>by
  obtain⟨σd,ι,S,hE,hs,ho⟩:=h;refine⟨σd,ι,S,hE,hs,ho.bind.mono λk S' ι' H' _ _ ⟨s',e',o'⟩=>?_⟩
  cases k with
  | true=>rw[Zf rfl]; exact⟨σd,ι',S',hE.ext e',s',o'⟩
  | false=>rw[Zh Zz]; exact⟨σd,ι',S',hE.ext e',s',o'⟩
theorem xH:PSs X [] (tMS Γ xw λσ=>pure (.nx σ)) :=
 PSs.imp H_ λD σ H h=>by
  obtain⟨σd,ι,S,hE,hs,ho⟩:=h;exact ho.here hs _ hE
theorem JW(h1:PS X st (tMS Γ xw ms)):PSs X [st] (tMS Γ xw ms):=IU h1
theorem Hq(h1:PS X st (tMS Γ xw ms))(h2:PSs X sts (tMS Γ xw ms2)):PSs X (st::sts) (tMS Γ xw λσ=>ms σ>>=λf=>match f with|.nx σ'=>ms2 σ'|f=>pure f) :=
 PSs.imp (D4 h1 h2) λD σ H h=>by
  obtain⟨σd,ι,S,hE,hs,ho⟩:=h;refine⟨σd,ι,S,hE,hs,ho.bind.mono λf S' ι' H' _ _ ⟨s',e',o'⟩=>?_⟩
  cases f with
  | nx σ'=>exact λσv hv=>⟨σ',ι',S',hv,s',o'⟩
  | rt d=>exact λv r=>o'.here s' v r
  | bk σ'=>exact λσv hv=>o'.here s' σv hv
  | ct σ'=>exact λσv hv=>o'.here s' σv hv
end
end EV

namespace EV
open PySem PySem.Spec PyProof.Rows L2
section
variable{X:Cx}{Γ:Gx}{xw:XW}{pins:WT}{σ:L2.St}{H:Hp}{s:WX}{ι:W0}{S:af}
theorem u_(k:WU):(k.map V.int)=(k.map (Sum.inl:Int->Key)).map kV:=by
 rw[Xr]; rfl
theorem nE:∀{a b:WU},a.map (Sum.inl:Int->Key)=b.map Sum.inl->a=b
 | [],[],_=>rfl
 | [],_::_,h=>by cases h
 | _::_,[],h=>by cases h
 | a::r,b::q,h=>by
  obtain⟨h1,h2⟩:=Qa h;rw[Sum.inl.inj h1,nE h2]
theorem mq(a b:WU):decide (a.map (Sum.inl:Int->Key)=b.map Sum.inl)=decide (a=b):=by
 by_cases h:a=b
 ·rw[Zj h,Zj (by rw[h])]
 ·rw[Zt h,Zt λe=>h (nE e)]
theorem aJ.get{k:WU}:∀{kvs:Yb} {xs:W9} {d:D},aJ Γ ι H kvs xs->cj kvs k=some d->∃v,b8 xs (k.map Sum.inl)=some v/\Rep Γ ι H d v
 | _,_,d,.nil,h=>by cases h
 | p::r,q::t,d,.cons e u,h=>by
  unfold cj at h;unfold b8;rw[ZU] at h ⊢;rw[e.1,mq]
  cases c:decide (p.1=k) with
  | true =>
   rw[c] at h;cases h;exact⟨q.2,rfl,e.2⟩
  | false =>
   rw[c] at h;exact aJ.get u h
theorem aJ.any(k:WU):∀{kvs:Yb} {xs:W9},aJ Γ ι H kvs xs->(xs.any λkv=>decide (kv.1=k.map Sum.inl))=kvs.any λkv=>decide (kv.1=k)
 | _,_,.nil=>rfl
 | p::r,q::t,.cons e u=>by
  rw[X8,X8,aJ.any k u,e.1,mq]
theorem aJ.repl(k:WU){d:D}{v:V}(rv:Rep Γ ι H d v):∀{kvs:Yb} {xs:W9},aJ Γ ι H kvs xs->aJ Γ ι H (kvs.map λkv=>if kv.1=k then(kv.1,d) else kv) (xs.map λkv=>if kv.1=k.map Sum.inl then(kv.1,v) else kv)
 | _,_,.nil=>.nil
 | p::r,q::t,.cons e u=>by
  rw[ZI,ZI];refine .cons ?_ (aJ.repl k rv u)
  by_cases h:p.1=k
  ·rw[Zf h,Zf (by rw[e.1,h])];exact⟨e.1,rv⟩
  ·rw[Zh h,Zh λz=>h (nE (by rw[<- e.1,z]))];exact e
theorem aJ.snoc{k:WU}{d:D}{v:V}(rv:Rep Γ ι H d v):∀{kvs:Yb} {xs:W9},aJ Γ ι H kvs xs->aJ Γ ι H (kvs++[(k,d)]) (xs++[(k.map Sum.inl,v)])
 | _,_,.nil=>.cons ⟨rfl,rv⟩ .nil
 | _::_,_::_,.cons e u=>.cons e (aJ.snoc rv u)
theorem aJ.put{k:WU}{d:D}{v:V}(rv:Rep Γ ι H d v){kvs:Yb}{xs:W9}(r:aJ Γ ι H kvs xs):aJ Γ ι H (iW kvs k d) (putK xs (k.map Sum.inl) v):=by
 unfold iW putK;rw[aJ.any k r];split
 ·exact aJ.repl k rv r
 ·exact aJ.snoc rv r
theorem tK{a:Addr}{xs ys:W9}(h:H a=some (.dT xs)):∀b zs,H b=some (.tup zs)->upd H a (.dT ys) b=some (.tup zs):=λb zs e=>by
 rw[aF]; exact e;rintro rfl; rw[h] at e; cases e
theorem uZ{a:Addr}{xs ys:W9}(h:H a=some (.dT xs)):∀b o u,H b=some (.frz o u)->upd H a (.dT ys) b=some (.frz o u):=λb o u e=>by
 rw[aF]; exact e;rintro rfl; rw[h] at e; cases e
theorem Rep.fj{a:Addr}{xs ys:W9}(h:H a=some (.dT xs)){d:D}{v:V}(r:Rep Γ ι H d v):Rep Γ ι (upd H a (.dT ys)) d v:=r.move (ZQ _) (tK h) (uZ h)
theorem ao.dct(hS:ao Γ ι H S){l:Nat}{kvs:Yb}(h:S[l]?=some (.dct kvs)):∃a xs,ι[l]?=some a/\H a=some (.dT xs)/\aJ Γ ι H kvs xs:=by
 obtain⟨a,ha,xs,hx,r⟩:=hS.cell l _ h;exact⟨a,xs,ha,hx,r⟩
theorem ao.fj(hS:ao Γ ι H S){l:Nat}{a:Addr}{xs ys:W9}{es kvs:Yb}(hl:S[l]?=some (.dct es))(ha:ι[l]?=some a)(h:H a=some (.dT xs))(r:aJ Γ ι H kvs ys):ao Γ ι (upd H a (.dT ys)) (S.set l (.dct kvs)):=by
 refine⟨by rw[XR]; exact hS.len,hS.nd,λm c hm=>?_⟩
 by_cases e:m=l
 ·subst e;rw[Xb (Zi.mp hl).1] at hm;cases hm;exact⟨a,ha,ys,cH,Paired.imp (λ_ _ q=>⟨q.1,Rep.fj h q.2⟩) r⟩
 ·rw[ZX (Ne.symm e)] at hm;obtain⟨b,hb,c1⟩:=hS.cell m c hm;have hne:b≠a:=λz=>e (gW hS.nd hb (z▸ha))
  refine⟨b,hb,?_⟩
  cases c with
  | lst zs=>obtain⟨ws,hw,rw'⟩:=c1; exact⟨ws,by rw[aF hne]; exact hw,Paired.imp (λ_ _ q=>Rep.fj h q) rw'⟩
  | dct kvs=>obtain⟨ws,hw,rw'⟩:=c1; exact⟨ws,by rw[aF hne]; exact hw,Paired.imp (λ_ _ q=>⟨q.1,Rep.fj h q.2⟩) rw'⟩
  | fdc kvs=>obtain⟨ws,⟨o,hw⟩,rw'⟩:=c1; exact⟨ws,⟨o,by rw[aF hne]; exact hw⟩,Paired.imp (λ_ _ q=>⟨q.1,Rep.fj h q.2⟩) rw'⟩
theorem Ext.fj{a:Addr}{xs ys:W9}(h:H a=some (.dT xs))(hm:a∈ι):Ext ι ι H (upd H a (.dT ys)) :=
 ⟨ZQ _,tK h,uZ h,λb o e n=>by
  have hne:b≠a:=λz=>n (by rw[z]; exact hm)
  rw[aF hne]; exact e,λ_ h n=>absurd h n⟩
theorem ao.z_(hS:ao Γ ι H S){p:Addr}(hp:H p=none):ao Γ (ι++[p]) (upd H p (.dT [])) (S++[.dct []]):=by
 have e:Ext ι (ι++[p]) H (upd H p (.dT [])):=Ext.more hp;refine⟨by simp[hS.len],XQ.mpr ⟨hS.nd,by simp,?_⟩,λl c h=>?_⟩
 ·intro a ha b hb;have:b=p:=by simpa using hb
  subst this;exact λz=>hS.new hp (z▸ha)
 ·by_cases hl:l<S.length
  ·rw[ZC hl] at h;obtain⟨a,ha,c1⟩:=hS.cell l c h;exact⟨a,fV e.pre ha,c1.ext e λys hy=>by rw[aF (bF hy hp)]; exact hy⟩
  ·rw[ZO (by omega)] at h
   have hl2:l-S.length=0:=by
    have:=(Zi.mp h).1;simp at this; omega
   rw[hl2] at h;have h':(Cell.dct [])=c:=by simpa using h
   subst h';exact⟨p,by rw[ZO (by rw[hS.len]; omega),hS.len,hl2]; rfl,[],cH,.nil⟩
theorem x8{pos:Pos}:PE X (.Dict [] [] pos) (tM Γ xw λ_=>alloc (.dct [])) :=
 PE.imp yh λσ H Q h=>by
  obtain⟨σd,ι,S,he,hs,ho⟩:=h;exact λp hp=>ho (ι++[p]) _ (Ext.more hp) (hs.z_ hp) _ (.loc (by rw[<- hs.len]; simp))
theorem Out.e_{l:Nat}{f:List (List Int×D)->M D}{k:D->af->List Addr->Hp->Prop}(h:Out Γ xw ι H (EV.e_ l f S) k):∃kvs,S[l]?=some (.dct kvs)/\Out Γ xw ι H (f kvs S) k:=by
 have e:EV.e_ l f S=match S[l]? with|some (.dct kvs)=>f kvs S|_=>.bad:=rfl
 rw[e] at h
 cases q:S[l]? with
 | none=>rw[q] at h; exact h.elim
 | some c =>
  rw[q] at h
  cases c with
  | dct kvs=>exact⟨kvs,rfl,h⟩
  | lst ds=>exact h.elim
  | fdc kvs=>exact h.elim
end
end EV

namespace EV
open PySem PySem.Spec PyProof.Rows L2 TB
theorem w9:∀{t u:WU},t≠u->lexLe t u=true->aD t u=true
 | [],[],h,_=>absurd rfl h
 | [],_::_,_,_=>rfl
 | _::_,[],_,e=>by cases e
 | a::r,b::q,h,e=>by
  unfold lexLe at e;unfold aD
  by_cases ab:a=b
  ·subst ab;rw[Zh (Int.lt_irrefl a),Zf rfl] at e;rw[Zf rfl];exact w9 (λz=>h (by rw[z])) e
  ·rw[Zh ab]
   by_cases lt:a<b
   ·exact Zj lt
   ·rw[Zh lt,Zh ab] at e; cases e
theorem tV:∀{t u:WU},lexLe t u=false->aD u t=true
 | [],_,e=>by cases e
 | _::_,[],_=>rfl
 | a::r,b::q,e=>by
  unfold lexLe at e;unfold aD
  by_cases ab:a=b
  ·subst ab;rw[Zh (Int.lt_irrefl a),Zf rfl] at e;rw[Zf rfl];exact tV e
  ·rw[Zh λz=>ab z.symm]
   by_cases lt:a<b
   ·rw[Zf lt] at e; cases e
   ·exact Zj (by omega)
theorem gE(t x:WU):∀r,x∈bV t r ↔ x=t\/x∈r
 | []=>by unfold bV; simp
 | u::r=>by
  unfold bV
  by_cases e:t=u
  ·rw[Zf e]; subst e; simp
  ·rw[Zh e]
   by_cases l:lexLe t u=true
   ·rw[Zf l]; simp
   ·rw[Zh l,Zx,gE t x r,Zx]; constructor
    ·rintro(h|h|h)
     ·exact .inr (.inl h)
     ·exact .inl h
     ·exact .inr (.inr h)
    ·rintro(h|h|h)
     ·exact .inr (.inl h)
     ·exact .inl h
     ·exact .inr (.inr h)
theorem xA(t:WU):∀{r},r.Pairwise (λa b=>aD a b=true)->(bV t r).Pairwise (λa b=>aD a b=true)
 | [],_=>by unfold bV; exact List.pairwise_singleton _ _
 | u::r,h=>by
  unfold bV
  by_cases e:t=u
  ·rw[Zf e]; exact h
  ·rw[Zh e];obtain⟨h1,h2⟩:=XH.mp h
   by_cases l:lexLe t u=true
   ·rw[Zf l];have tu:=w9 e l;refine XH.mpr ⟨λx hx=>?_,h⟩;rcases Zx.mp hx with z|z
    ·rw[z]; exact tu
    ·exact lex_trans _ _ _ tu (h1 x z)
   ·rw[Zh l];have ut:=tV (Bool.eq_false_iff.mpr l);refine XH.mpr ⟨λx hx=>?_,xA t h2⟩;rcases(gE t x r).mp hx with z|z
    ·rw[z]; exact ut
    ·exact h1 x z
theorem jH:∀ts,(bf ts).Pairwise (λa b=>aD a b=true)
 | []=>.nil
 | t::r=>xA t (jH r)
theorem oV(x:WU):∀ts,x∈bf ts ↔ x∈ts
 | []=>Iff.rfl
 | t::r=>by
  show x∈bV t (bf r) ↔ _;rw[gE,oV x r,Zx]
theorem ud{l:WY}(h:l.Pairwise (λa b=>aD a b=true)):l.Nodup:=h.imp λ{a b} e q=>by
 rw[q,lex_irrefl] at e; cases e
theorem oS{ts ks:WY}(h:ks.Pairwise (λa b=>aD a b=true))(m:∀y,y∈ks ↔ y∈ts):ks=bf ts:=by
 have p:ks.Perm (bf ts):=(List.perm_ext_iff_of_nodup (ud h) (ud (jH ts))).mpr λy=>by rw[m,oV]
 refine p.eq_of_pairwise (λx y _ _ h1 h2=>?_) h (jH ts);have z:=lex_trans _ _ _ h1 h2;rw[lex_irrefl] at z; cases z
theorem jk(t:WU):∀r,(bV t r).length<=r.length+1
 | []=>Zm _
 | u::r=>by
  unfold bV
  by_cases e:t=u
  ·rw[Zf e]; exact XU _
  ·rw[Zh e]
   by_cases l:lexLe t u=true
   ·rw[Zf l]; exact Zm _
   ·rw[Zh l]; exact Nat.succ_le_succ (jk t r)
theorem jb:∀ts,(bf ts).length<=ts.length
 | []=>Zm _
 | t::r=>Z2 (jk t (bf r)) (Nat.succ_le_succ (jb r))
theorem nX:∀{ds:Ya} {ts:WY},tups ds=some ts->ds=ts.map λt=>.tup (t.map .int)
 | [],_,h=>by cases h; rfl
 | d::r,ts,h=>by
  cases d with
  | tup es =>
   unfold tups at h
   cases q1:allInts es with
   | none=>rw[q1] at h; cases h
   | some t =>
    cases q2:tups r with
    | none=>rw[q1,q2] at h; cases h
    | some q =>
     rw[q1,q2] at h; cases h;rw[ZI,<- nX q2,<- ints_map q1]
  | _=>cases h
section
variable{X:Cx}{Γ:Gx}{xw:XW}{ι:W0}{H:Hp}
theorem tU{P:WZ}{w:W2}:∀{ks:WU} {its:WW},Vals (ks.map V.int) its->ItemsAre (intKind P w) ks its
 | [],_,.nil=>.nil
 | k::r,_,.cons h t=>by
  obtain⟨u,rfl⟩:=h;exact .cons (Xi k) (tU t)
theorem gT{pins:WT}{σ:L2.St}{s:WX}{c:Addr}{ks:WU}(I:Inv X pins σ H s)(h:H c=some (.tup (ks.map V.int))):TK X.prog X.w s.heap ks c:=by
 obtain⟨its,r,⟨o,e1,e2,n,e3⟩,_⟩:=I.tuple (.of h);exact⟨o,its.toArray,n,e1,e2,e3,tU r⟩
theorem oQ:∀{out:WW} {ks:WY},out.length=ks.length->(∀(i:Nat) v k,out[i]?=some v->ks[i]?=some k->∃c,v=.ref c/\H c=some (.tup (k.map V.int)))->∃vs,Vals vs out/\aA Γ ι H (ks.map λt=>.tup (t.map .int)) vs
 | [],[],_,_=>⟨[],.nil,.nil⟩
 | [],_::_,hl,_=>by cases hl
 | _::_,[],hl,_=>by cases hl
 | v::o,k::r,hl,h=>by
  obtain⟨c,rfl,e⟩:=h 0 v k rfl rfl;obtain⟨vs,h1,h2⟩:=oQ (out:=o) (ks:=r) (Nat.succ.inj hl) λi v' k' e1 e2=>h (i+1) v' k' e1 e2
  exact⟨.ref c::vs,.cons rfl h1,.cons (.jX e (iH k)) h2⟩
theorem item_at:∀{ts:WY} {xs:W8} {its:WW} {i:Nat} {v:Value},aA Γ ι H (ts.map λt=>.tup (t.map .int)) xs->Vals xs its->its[i]?=some v->∃c t,v=.ref c/\ts[i]?=some t/\H c=some (.tup (t.map V.int))
 | [],_,_,_,_,.nil,.nil,e=>by simp at e
 | t::r,_,_,0,_,.cons a p,.cons b q,e=>by
  cases e;obtain⟨c,rfl,sq⟩:=a.trk;cases b;exact⟨c,t,rfl,rfl,sq⟩
 | t::r,_,_,i+1,_,.cons a p,.cons b q,e=>by
  obtain⟨c,u,e1,e2,e3⟩:=item_at (ts:=r) (i:=i) p q e;exact⟨c,u,e1,e2,e3⟩
theorem Jr{sub:Sub}{x y:Str}{p p' pos pos':Pos}{a:Expr}{ma:Sg->M D}(hK:Γ.K=X.K)(hc:X.calm=true)(hu:X.A.units+4<cLine)(hg:Gl X x)(hm:X.mg x=none)(hv:bootBuiltins x=some (.builtin "sorted"))
  (hg':Gl X y) (hm':X.mg y=none) (hv':bootBuiltins y=some (.type "set")) (ha:PE X a (tM Γ xw ma)) (hn:x≠"__name__") (hdb:(x==("__debug__" : Str))=false) (hn':y≠"__name__") (hdb':(y==("__debug__" : Str))=false)
  (hs:starEach [a] X.env=(false,eval a X.env)::starEach [] X.env):PE X (.Call (.Name x p) [.Call (.Name y p') [a] [] pos'] [] pos) (tM Γ xw λσ=>ma σ>>=λd=>bi1 sub .sortedSet d):=by
 intro pins s σ H Q I h;refine Xd (cY I hg hm hv ?_ hn hdb);refine X3 (e:=.Call (.Name y p') [a] [] pos') (rest:=[]) ?_ rfl rfl;refine XD ?_;refine Xd (cY I hg' hm' hv' ?_ hn' hdb');refine Xm (e:=a) (rest:=[]) ?_ hs rfl;rw[hs];refine XD (thn (ha pins s σ H _ I (xP h)) λu s1 ⟨v,H1,I1,r1,q1⟩=>XN ?_);obtain⟨ι,S,d,hS,r,ho⟩:=q1;obtain⟨ds,q,ho⟩:=Out.bG ho;obtain⟨ts,q2,ho⟩:=Out.opt ho;obtain⟨hz,ho⟩:=Out.guard ho;obtain⟨hz1,hz2⟩:=QU.mp hz;have hz1:ts.length<=18:=Zl hz1;obtain⟨_,pa,xs,rfl,sq,rp⟩:=ly hS r q;rw[nX q2] at rp;cases r1;rw[hK] at sq;obtain⟨its,rv,pl,_⟩:=I1.list sq;have hl:its.length=ts.length:=by rw[<- rv.length,<- rp.length,Zb]
 refine zc (val:=λi=>ts.getD i []) hu (I1.ok.hd hc) pl.isList (λi v e=>?_) (by rw[Zk]; omega) λh' tk md=>?_
 ·obtain⟨c,t,e1,e2,e3⟩:=item_at rp rv (by simpa using e);refine⟨c,e1,?_⟩;show TK X.prog X.w s1.heap (ts.getD i []) c;rw[ZJ,e2];exact gT I1 e3
 ·obtain⟨⟨L,tset,hL⟩,k1⟩:=md
  have hlt:s1.heap.objs.size<h'.objs.size:=by
   obtain⟨o,_,_,_,e,_⟩:=tset;exact Zp e
  have hmem:∀y,y∈L ↔ y∈ts:=λy=>by
   rw[hL];constructor
   ·rintro⟨j,h1,rfl⟩;rw[Zk,hl] at h1;show ts.getD j []∈ts;rw[ZJ,Ze h1];exact Xj h1
   ·intro hy;obtain⟨j,hj⟩:=ZP hy;exact⟨j,by rw[Zk,hl]; exact(Zi.mp hj).1,by show ts.getD j []=y; rw[ZJ,hj]; rfl⟩
  refine XN (Bm (s:={ s1 with heap:=h',toks:=tk }) (I1.ok.hd hc) tset (λks hk e=>?_) λh2 tk2 R ks hR hol so hm2 old=>?_)
  ·have:=Z9.mp hz2 ks ((hmem ks).mp hk);rw[e] at this; cases this
  ·obtain⟨out,n,eo,el,ev⟩:=hol;have kp:∀b o,s1.heap.get? b=some o->h2.get? b=some o:=λb o e=>old b o (Qj (Zp e) hlt) (k1 b o (Zp e) e)
   have e:ks=bf ts:=oS so λy=>by rw[hm2,hmem]
   subst e
   obtain⟨vs,w1,w2⟩:=oQ (Γ:=Γ) (ι:=ι) (H:=H1) el λi v k e1 e2=>by
    obtain⟨c,rfl,_,⟨_,hc2⟩,tk2⟩:=ev i v k e1 e2;obtain⟨j,hj⟩:=ZP hc2;obtain⟨c',t,e3,_,e4⟩:=item_at rp rv (by simpa using hj);cases e3;have:=IsTupleKey.inj tk2 (fm (gT I1 e4) λo e=>kp c o e);subst this;exact⟨c,rfl,e4⟩
   have hR2:s1.heap.objs.size<=R:=Z2 (Qi hlt) hR;refine⟨.ref R,_,I1.laid (h':=h2) (t':=tk2) (o:=.lst vs) kp hR2 ⟨?_,out,n,w1,eo⟩,rfl,Out.alloc ho hS (I1.hok.fresh hR2) w2⟩;rw[w1.length,el,XS];have:(bf ts).length<=ts.length:=jb ts;omega
theorem wI{xs:W8}{its:WW}{ts:WY}(rp:aA Γ ι H (ts.map λt=>.tup (t.map .int)) xs)(rv:Vals xs its){v:Value}(m:v∈its):∃c t,v=.ref c/\t∈ts/\H c=some (.tup (t.map V.int)):=by
 obtain⟨i,e⟩:=ZP m;obtain⟨c,t,e1,e2,e3⟩:=item_at rp rv e;exact⟨c,t,e1,ZD e2,e3⟩
theorem Hj(hK:Γ.K=X.K):cF X (.builtin "sorted") (c5 Γ xw (biD sub .sorted)):=by
 intro pins s σ H xs us Q I rs h;obtain⟨ι,S,a,x,rfl,hS,r,ho⟩:=jy rfl (λ_ _ _=>rfl) h;obtain⟨ds,q,ho⟩:=Out.items ho;obtain⟨_,p,ys,rfl,sq,rp,_⟩:=cJ hS r q;obtain⟨u,rfl,ru⟩:=rs.one;cases ru;rw[hK] at sq
 obtain⟨its,rv,x2⟩:∃its,Vals ys its/\Sq2 s.heap p its:=by
  rcases sq with sq|sq
  ·obtain⟨its,rv,pl,_⟩:=I.list sq;obtain⟨o,e1,e2,n,e3⟩:=pl.isList;exact⟨its,rv,"list",o,n,.inl rfl,e1,e2,e3⟩
  ·obtain⟨its,rv,⟨o,e1,e2,n,e3⟩,_⟩:=I.tuple sq;exact⟨its,rv,"tuple",o,n,.inr rfl,e1,e2,e3⟩
 have hp:H (s.heap.objs.size+1)=none:=I.hok.fresh (XU _);have ho:Out Γ xw ι H (lD ds S) λd _ ι' H'=>∀v,Rep Γ ι' H' d v->Q v H':=ho
 unfold lD at ho
 cases q2:allInts ds with
 | some is =>
  rw[q2] at ho;obtain⟨hz,ho⟩:=Out.guard ho;have hz:is.length<64:=Zl hz;rw[ints_map q2] at rp;have e:=gB rp;subst e;have hl:its.length=is.length:=by rw[<- rv.length,Zb]
  refine G7 (ns:=is) x2 (intsAre_of rv) (by omega) λout ns' a1 a2 a3=>?_
  obtain⟨ep,he⟩:=sortedAll_at s.heap its out.toArray;have e:ns'=g6 is:=(a2.trans (o_ is).symm).eq_of_pairwise (λx y _ _ h1 h2=>Int.le_antisymm h1 h2) a3 (rg is);subst e;refine⟨.ref (s.heap.objs.size+1),_,I.laid (t':=s.toks) (o:=.lst ((g6 is).map V.int)) (λb o q=>sortedAll_old q) (XU _) ⟨?_,out,ep,qU a1,he⟩,rfl,Out.alloc ho hS hp (iH _)⟩;rw[Zb,(o_ is).length_eq,XS]; omega
 | none =>
  rw[q2] at ho;have ho:Out Γ xw ι H (l9 (tups ds) S) λd _ ι' H'=>∀v,Rep Γ ι' H' d v->Q v H':=ho
  cases q2:tups ds with
  | some ts =>
   rw[q2] at ho;obtain⟨hz,ho⟩:=Out.guard ho;obtain⟨hz1,hz3⟩:=QU.mp hz;obtain⟨hz1,hz2⟩:=QU.mp hz1;have hz1:ts.length<64:=Zl hz1;have hz2:ts.Nodup:=Zl hz2;rw[nX q2] at rp;have hl:its.length=ts.length:=by rw[<- rv.length,<- rp.length,Zb]
   have hk:its.map (cN X.prog X.w s.heap)=ts:=by
    refine QL λi=>?_
    rw[ZL]
    by_cases hi:i<its.length
    ·obtain⟨c,t,e1,e2,e3⟩:=item_at rp rv (Ze hi);rw[Ze hi,e2,Option.map_some,e1,ie (gT I e3)]
    ·rw[XC (by omega),XC (by omega)]; rfl
   refine DF (key:=cN X.prog X.w s.heap) x2 (λv m=>?_) (by rw[hk]; exact hz2) (by omega) λout a1 a2=>?_
   ·obtain⟨c,t,e1,e2,e3⟩:=wI rp rv m;refine⟨c,e1,?_⟩;rw[e1,ie (gT I e3)];refine⟨gT I e3,λe=>?_⟩;have:=Z9.mp hz3 t e2;rw[e] at this; cases this
   ·obtain⟨ep,he⟩:=sortedAll_at s.heap its out.toArray;have e:out.map (cN X.prog X.w s.heap)=bf ts:=oS a2 λy=>by rw[(a1.map _).mem_iff,hk]
    obtain⟨vs,w1,w2⟩:=oQ (Γ:=Γ) (ι:=ι) (H:=H) (out:=out) (ks:=bf ts) (by rw[<- e,Zb]) λi v k e1 e2=>by
     obtain⟨c,t,e3,_,e4⟩:=wI rp rv (a1.mem_iff.mp (ZD e1));refine⟨c,e3,?_⟩;rw[<- e,ZL,e1,Option.map_some,e3,ie (gT I e4)] at e2;cases e2;exact e4
    refine⟨.ref (s.heap.objs.size+1),_,I.laid (t':=s.toks) (o:=.lst vs) (λb o q=>sortedAll_old q) (XU _) ⟨?_,out,ep,w1,he⟩,rfl,Out.alloc ho hS hp w2⟩;rw[w1.length,a1.length_eq,hl,XS]; omega
  | none =>
   rw[q2] at ho;exact ho.elim
end
end EV

namespace EV
open PySem PySem.Spec PyProof.Rows L2
section
variable{X:Cx}{Γ:Gx}{xw:XW}{iter tg c:Expr}{pos:Pos}{mi:Sg->M Src}{t:Tg}{mb:Sg->M Fl}{na:Sg->M Bool}{body:List Stmt}
theorem PS.nox{st:Stmt}{t:TS}(h:PS X.nox st t):PS X st t:=λpins s σ H D I hw =>
 XL (h pins s σ H D (I.dN _) hw) (λf s' q=>q.eV) λ_ _ e=>e.elim
theorem DJ{D:Ends}{σ:L2.St}{H:Hp}(h:tMS Γ XF (λσ=>mi σ>>=λs=>forL s (λd σ=>aT t d σ>>=λσ'=>mb σ') s.its σ) D σ H):wc (tMI Γ XF mi) (tMG Γ t) (tMS Γ XF mb) D σ H:=by
 obtain⟨σd,ι,S,hE,hS,ho⟩:=h;refine⟨σd,ι,S,hE,hS,ho.bind.mono λsrc S1 ι1 H1 _ _ ⟨s1,e1,o1⟩ J hJ=>?_⟩;generalize hf:(λd σ=>aT t d σ>>=λσ'=>mb σ')=f at o1;generalize hR:forL src f src.its σd S1=R0 at o1
 refine⟨λi m σ H=>∃ι' S' σd',i<=src.its.length/\m=src.its.length-i/\Ext ι1 ι' H1 H/\ao Γ ι' H S'/\aU Γ ι' H σ σd'/\forL src f (src.its.drop i) σd' S'=R0,
  ⟨src.its.length,ι1,S1,σd,Xe _,rfl,.refl,s1,hE.ext e1,hR⟩,?_⟩
 rintro i m σ H ⟨ι',S',σd',hi,rfl,eH,sH,eE,hc⟩
 by_cases hlt:i<src.its.length
 ·rw[Xt hlt] at hc;have hc:(aL src>>=λ_=>f src.its[i] σd'>>=λfl=>match fl with|.nx σ'=>forL src f (src.its.drop (i+1)) σ'|.ct σ'=>forL src f (src.its.drop (i+1)) σ'|.bk σ'=>pure (.nx σ')|.rt d=>pure (.rt d)) S'=R0:=hc;rcases j9 src S' with st|st
  ·rw[aj st] at hc;obtain⟨jgo,jyld⟩:=(hJ ι' H S' eH sH st).1 i src.its[i] (Ze hlt);refine .inr ⟨jgo,λσ' H'=>∃m',m'<src.its.length-i/\∃ι' S' σd',i+1<=src.its.length/\m'=src.its.length-(i+1)/\Ext ι1 ι' H1 H'/\ao Γ ι' H' S'/\aU Γ ι' H' σ' σd'/\forL src f (src.its.drop (i+1)) σd' S'=R0,λσ' H' h=>h,λx H' yl=>?_⟩;obtain⟨eX,sX,rX⟩:=jyld x H' yl;have hfd:f src.its[i] σd' S'=(aT t src.its[i] σd'>>=λσ'=>mb σ') S':=by rw[<- hf]
   rcases ng t src.its[i] σd' S' with⟨σd2,hb,_⟩|hb
   ·rw[aj hb] at hfd;refine⟨σd',ι',S',src.its[i],σd2,eE.ext eX,sX,rX,hb,λσ2 hE2 _=>⟨σd2,ι',S',hE2,sX,?_⟩⟩;have eA:=eH.trans eX
    cases qb:mb σd2 S' with
    | bad=>rw[qb] at hfd; rw[aZ hfd] at hc; rw[<- hc] at o1; exact o1.elim
    | exc c S3=>rw[qb] at hfd; rw[cM hfd] at hc; rw[<- hc] at o1; exact λι3 H3 e3 s3=>o1 ι3 H3 (eA.trans e3) s3
    | ok fl S3 =>
     rw[qb] at hfd;rw[aj hfd] at hc;intro ι3 H3 e3 s3
     cases fl with
     | nx σ'=>exact λσv hv=>⟨src.its.length-(i+1),by omega,ι3,S3,σ',hlt,rfl,eA.trans e3,s3,hv,hc⟩
     | ct σ'=>exact λσv hv=>⟨src.its.length-(i+1),by omega,ι3,S3,σ',hlt,rfl,eA.trans e3,s3,hv,hc⟩
     | bk σ'=>rw[<- hc] at o1; exact λσv hv=>o1 ι3 H3 (eA.trans e3) s3 σv hv
     | rt d=>rw[<- hc] at o1; exact λv r=>o1 ι3 H3 (eA.trans e3) s3 v r
   ·rw[aZ hb] at hfd; rw[aZ hfd] at hc; rw[<- hc] at o1; exact o1.elim
  ·rw[aZ st] at hc; rw[<- hc] at o1; exact o1.elim
 ·have ei:i=src.its.length:=by omega
  subst ei;rw[List.drop_length] at hc;have hc:(aL src>>=λ_=>pure (.nx σd')) S'=R0:=hc;rcases j9 src S' with st|st
  ·rw[aj st] at hc;rw[<- hc] at o1;exact .inl ⟨(hJ ι' H S' eH sH st).2,o1 ι' H eH sH σ eE⟩
  ·rw[aZ st] at hc; rw[<- hc] at o1; exact o1.elim
theorem GU(hcalm:X.calm=true)(hi:PI X.nox tg iter (tMI Γ XF mi))(hg:PG X.nox tg (tMG Γ t))(hb:PSs X.nox body (tMS Γ XF mb))(hs:∀x,foldedSetIterable iter X.env x=pure x) :
  PS X (.For tg iter body [] pos) (tMS Γ xw λσ=>quiet (mi σ>>=λs=>forL s (λd σ=>aT t d σ>>=λσ'=>mb σ') s.its σ)) :=
 PS.nox (PS.imp (ID (X:=X.nox) PassesOwn.never hcalm hi hg hb hs) λD σ H h=>by
  obtain⟨σd,ι,S,hE,hS,ho⟩:=h;exact DJ ⟨σd,ι,S,hE,hS,Out.quiet ho XF⟩)
theorem Ie{D:Ends}{σ:L2.St}{H:Hp}(h:tMS Γ XF (λσ=>bQ na mb iu σ) D σ H):pQ (tMT Γ XF na) (tMS Γ XF mb) D σ H:=by
 obtain⟨σd,ι,S,hE,hS,ho⟩:=h;have ho:Out Γ XF ι H (bQ na mb iu σd S) (FlK Γ D):=ho;generalize hR:bQ na mb iu σd S=R0 at ho;refine⟨λm σ H'=>∃ι' S' σd',Ext ι ι' H H'/\ao Γ ι' H' S'/\aU Γ ι' H' σ σd'/\bQ na mb m σd' S'=R0,⟨iu,ι,S,σd,.refl,hS,hE,hR⟩,?_⟩;rintro m σ H' ⟨ι',S',σd',eH,sH,eE,hc⟩
 cases m with
 | zero =>
  have hc:(Res.bad:Res Fl)=R0:=hc;rw[<- hc] at ho; exact ho.elim
 | succ n =>
  have hc:(na σd'>>=λk=>if k=true then mb σd'>>=λfl=>match fl with|.nx σ'=>bQ na mb n σ'|.ct σ'=>bQ na mb n σ'|.bk σ'=>pure (.nx σ')|.rt d=>pure (.rt d) else pure (.nx σd')) S'=R0:=hc;refine⟨σd',ι',S',eE,sH,?_⟩
  cases qn:na σd' S' with
  | bad=>rw[aZ qn] at hc; rw[<- hc] at ho; exact ho.elim
  | exc c S3=>rw[cM qn] at hc; rw[<- hc] at ho; exact λι3 H3 e3 s3=>ho ι3 H3 (eH.trans e3) s3
  | ok k S3 =>
   rw[aj qn] at hc;intro ι3 H3 e3 s3;have eA:=eH.trans e3
   cases k with
   | false =>
    rw[Zh Zz] at hc;rw[<- hc] at ho;exact Cu (ho ι3 H3 eA s3 σ (eE.ext e3))
   | true =>
    rw[Zf rfl] at hc;refine Ab ⟨λσ' H'=>∃m',m'<n+1/\∃ι' S' σd',Ext ι ι' H H'/\ao Γ ι' H' S'/\aU Γ ι' H' σ' σd'/\bQ na mb m' σd' S'=R0,λσ' H' h=>h,σd',ι3,S3,eE.ext e3,s3,?_⟩
    cases qb:mb σd' S3 with
    | bad=>rw[aZ qb] at hc; rw[<- hc] at ho; exact ho.elim
    | exc c S4=>rw[cM qb] at hc; rw[<- hc] at ho; exact λι4 H4 e4 s4=>ho ι4 H4 (eA.trans e4) s4
    | ok fl S4 =>
     rw[aj qb] at hc;intro ι4 H4 e4 s4
     cases fl with
     | nx σ'=>exact λσv hv=>⟨n,XG _,ι4,S4,σ',eA.trans e4,s4,hv,hc⟩
     | ct σ'=>exact λσv hv=>⟨n,XG _,ι4,S4,σ',eA.trans e4,s4,hv,hc⟩
     | bk σ'=>rw[<- hc] at ho; exact λσv hv=>ho ι4 H4 (eA.trans e4) s4 σv hv
     | rt d=>rw[<- hc] at ho; exact λv r=>ho ι4 H4 (eA.trans e4) s4 v r
theorem Cj(hc:PT X.nox c (tMT Γ XF na))(hb:PSs X.nox body (tMS Γ XF mb)):PS X (.While c body [] pos) (tMS Γ xw λσ=>quiet (bQ na mb iu σ)) :=
 PS.nox (PS.imp (yW (X:=X.nox) PassesOwn.never hc hb) λD σ H h=>by
  obtain⟨σd,ι,S,hE,hS,ho⟩:=h;exact Ie ⟨σd,ι,S,hE,hS,Out.quiet ho XF⟩)
end
section
variable{Γ:Gx}{ι ι':W0}{H H':Hp}{S S':af}
theorem fU:∀{ds:Ya} {n:Nat},D.lows n ds=true ↔ ∀(i:Nat) d,ds[i]?=some d->d.low n=true
 | [],n=>⟨λ_ i d h=>by simp at h,λ_=>rfl⟩
 | d::r,n=>by
  simp only[D.lows,Zv];constructor
  ·rintro⟨h1,h2⟩ i e h
   cases i with
   | zero=>simp at h; subst h; exact h1
   | succ i=>exact fU.mp h2 i e (by simpa using h)
  ·intro h;exact⟨h 0 d rfl,fU.mpr λi e q=>h (i+1) e (by simpa using q)⟩
theorem Rep.low{d:D}{v:V}(r:Rep Γ ι H d v):d.low ι.length=true:=by
 induction r with
 | tup h1 h2 h3 h4 ih =>
  show D.lows _ _=true;refine fU.mpr λi d e=>?_
  have hi:i<_:=(Zi.mp e).1;exact ih i d _ e (Ze (by omega))
 | fro h1 h2 h3 ih =>
  show D.lows _ _=true;refine fU.mpr λi d e=>?_
  have hi:i<_:=(Zi.mp e).1;exact ih i d _ e (Ze (by omega))
 | loc h=>exact Zj (Zi.mp h).1
 | _=>rfl
theorem Rep.cut(hp:ι<+:ι'){d:D}{v:V}(r:Rep Γ ι' H d v)(hl:d.low ι.length=true):Rep Γ ι H d v:=by
 induction r with
 | non=>exact .non
 | bl b=>exact .bl b
 | int i=>exact .int i
 | str x=>exact .str x
 | tup h1 h2 h3 h4 ih=>exact .tup h1 h2 (λi d v e1 e2=>ih i d v e1 e2 (fU.mp hl i d e1)) h4
 | fro h1 h2 h3 ih=>exact .fro h1 h2 λi d v e1 e2=>ih i d v e1 e2 (fU.mp hl i d e1)
 | @loc l a h =>
  have hlt:l<ι.length:=Zl hl;obtain⟨t,rfl⟩:=hp;rw[ZC hlt] at h;exact .loc h
theorem aA.low{ds:Ya}{vs:W8}(r:aA Γ ι H ds vs):D.lows ι.length ds=true:=fU.mpr λi d e=>let⟨_,_,r'⟩:=Paired.get r e; r'.low
theorem aA.cut(hp:ι<+:ι'):∀{ds:Ya} {vs:W8},aA Γ ι' H ds vs->D.lows ι.length ds=true->aA Γ ι H ds vs
 | _,_,.nil,_=>.nil
 | _,_,.cons r t,h=>by
  rw[D.lows,Zv] at h;exact .cons (r.cut hp h.1) (aA.cut hp t h.2)
theorem aJ.cut(hp:ι<+:ι'):∀{kvs:Yb} {xs ys:W9} {H0:Hp},aJ Γ ι' H kvs xs->aJ Γ ι H0 kvs ys->aJ Γ ι H kvs xs
 | _,_,_,_,.nil,_=>.nil
 | _,_,_,_,.cons r t,.cons r0 t0=>.cons ⟨r.1,r.2.cut hp r0.2.low⟩ (aJ.cut hp t t0)
theorem Ext.back(e:Ext ι ι' H H'):Ext ι ι H H':=⟨ZQ _,e.tup,e.frz,e.oth,λ_ h n=>absurd h n⟩
theorem ao.back(e:Ext ι ι' H H')(h0:ao Γ ι H S)(h1:ao Γ ι' H' S')(ht:S'.take S.length=S):ao Γ ι H' S:=by
 refine⟨h0.len,h0.nd,λl c hc=>?_⟩;have hl:l<S.length:=(Zi.mp hc).1;have hc':S'[l]?=some c:=by rw[<- ht,QZ hl] at hc; exact hc
 obtain⟨a,ha,c1⟩:=h1.cell l c hc';obtain⟨b,hb,c0⟩:=h0.cell l c hc;have:=fV e.pre hb;rw[ha] at this; cases this;refine⟨a,hb,?_⟩
 cases c with
 | lst ds=>obtain⟨xs,hx,r⟩:=c1; obtain⟨ys,_,r0⟩:=c0; exact⟨xs,hx,aA.cut e.pre r r0.low⟩
 | dct kvs=>obtain⟨xs,hx,r⟩:=c1; obtain⟨ys,_,r0⟩:=c0; exact⟨xs,hx,aJ.cut e.pre r r0⟩
 | fdc kvs=>obtain⟨xs,hx,r⟩:=c1; obtain⟨ys,_,r0⟩:=c0; exact⟨xs,hx,aJ.cut e.pre r r0⟩
theorem se{xw:XW}{d:D}{v:V}{Q:VK}(h0:ao Γ ι H S)(e:Ext ι ι' H H')(h1:ao Γ ι' H' S')(r:Rep Γ ι' H' d v)(ho:Out Γ xw ι H (leave S d S') λd _ ι' H'=>∀v,Rep Γ ι' H' d v->Q v H'):Q v H':=by
 unfold leave at ho
 by_cases ht:S'.take S.length=S
 ·rw[Zf ht] at ho
  by_cases hl:d.low S.length=true
  ·rw[Zf hl] at ho;exact ho ι H' e.back (ao.back e h0 h1 ht) v (r.cut e.pre (by rw[h0.len]; exact hl))
  ·rw[Zh hl] at ho;have dflt:Out Γ xw ι H (.ok d S') (λd _ ι' H'=>∀v,Rep Γ ι' H' d v->Q v H')->Q v H':=λho=>ho ι' H' e h1 v r
   cases d with
   | loc l =>
    dsimp only at ho
    cases q:S'[l]? with
    | none=>rw[q] at ho; exact dflt ho
    | some c =>
     rw[q] at ho;dsimp only at ho
     by_cases hc:c.low S.length=true
     ·rw[Zf hc] at ho
      cases r with
      | @loc _ a hla =>
       have hge:¬l<S.length:=λz=>hl (Zj z)
       have hna:a∉ι:=λz=>by
        obtain⟨j,hj⟩:=ZP z;have hj1:=(Zi.mp hj).1;have:=gW h1.nd hla (fV e.pre hj);rw[h0.len] at hj1;omega
       have hHa:H a=none:=e.fresh a (ZD hla) hna;have pre2:ι<+:ι++[a]:=Zd _ _;refine ho (ι++[a]) H' ⟨pre2,e.tup,e.frz,e.oth,λb hb hn=>?_⟩ ?_ _ (.loc (by rw[<- h0.len]; simp))
       ·rcases ZB.mp hb with z|z
        ·exact absurd z hn
        ·have:b=a:=by simpa using z
         rw[this]; exact hHa
       ·have hb:=ao.back e h0 h1 ht;obtain⟨b,hb2,c1⟩:=h1.cell l c q;rw[hla] at hb2; cases hb2
        cases c with
        | lst ds =>
         obtain⟨xs,hx,rr⟩:=c1;exact hb.take hna hx (aA.cut e.pre rr (by rw[h0.len]; exact hc))
        | dct kvs=>cases hc
        | fdc kvs=>cases hc
     ·rw[Zh hc] at ho; exact dflt ho
   | _=>exact dflt ho
 ·rw[Zh ht] at ho;exact ho ι' H' e h1 v r
end
end EV

namespace PySem
open Sem (wp)
open AutoSeq1 (wpAny_loadPart')
section
variable{prog:WZ}{w:W2}{A:Around}{E:WS}{s:WX}
end
section
variable{prog:WZ}{w:W2}{A:Around}{E:WS}{s:WX}
end
end PySem
namespace EV
open PySem PySem.Spec PyProof.Rows L2
section
variable{X:Cx}{Γ:Gx}{xw:XW}{sub:Sub}{a b:W6}{ta:TA}{p pos:Pos}
end
end EV

namespace EV
open PySem PySem.Spec PyProof.Rows L2
section
variable{X:Cx}{Γ:Gx}{xw:XW}{pins:WT}{σ:L2.St}{H:Hp}{s:WX}{ι:W0}{S:af}
theorem ao.tab(hS:ao Γ ι H S){l:Nat}{kvs:Yb}(h:S[l]?=some (.dct kvs)\/S[l]?=some (.fdc kvs)):∃a xs,ι[l]?=some a/\(H a=some (.dT xs)\/∃o,H a=some (.frz o (.dT xs)))/\aJ Γ ι H kvs xs:=by
 rcases h with h|h
 ·obtain⟨a,ha,xs,hx,r⟩:=hS.cell l _ h;exact⟨a,xs,ha,.inl hx,r⟩
 ·obtain⟨a,ha,xs,hx,r⟩:=hS.cell l _ h;exact⟨a,xs,ha,.inr hx,r⟩
theorem Out.b6{l:Nat}{f:List (List Int×D)->M D}{k:D->af->List Addr->Hp->Prop}(h:Out Γ xw ι H (EV.b6 l f S) k):∃kvs,(S[l]?=some (.dct kvs)\/S[l]?=some (.fdc kvs))/\Out Γ xw ι H (f kvs S) k:=by
 have e:EV.b6 l f S=match S[l]? with|some (.dct kvs)=>f kvs S|some (.fdc kvs)=>f kvs S|_=>.bad:=rfl
 rw[e] at h
 cases q:S[l]? with
 | none=>rw[q] at h; exact h.elim
 | some c =>
  rw[q] at h
  cases c with
  | dct kvs=>exact⟨kvs,.inl rfl,h⟩
  | fdc kvs=>exact⟨kvs,.inr rfl,h⟩
  | lst ds=>exact h.elim
theorem Rep.key{ds:Ya}{k:WU}{v:V}(r:Rep Γ ι H (.tup ds) v)(q:allInts ds=some k):∃b,v=.ref b/\H b=some (.tup ((k.map (Sum.inl:Int->Key)).map kV)):=by
 rw[ints_map q] at r;obtain⟨b,e,h⟩:=r.trk;exact⟨b,e,by rw[<- u_]; exact h⟩
theorem aJ.none{k:WU}:∀{kvs:Yb} {xs:W9},aJ Γ ι H kvs xs->cj kvs k=none->b8 xs (k.map Sum.inl)=none
 | _,_,.nil,_=>rfl
 | p::r,q::t,.cons e u,h=>by
  unfold cj at h;unfold b8;rw[ZU] at h ⊢;rw[e.1,mq]
  cases c:decide (p.1=k) with
  | true=>rw[c] at h; cases h
  | false=>rw[c] at h; exact aJ.none u h
theorem aJ.some(k:WU){kvs:Yb}{xs:W9}(r:aJ Γ ι H kvs xs):(b8 xs (k.map Sum.inl)).isSome=(cj kvs k).isSome:=by
 cases q:cj kvs k with
 | none=>rw[aJ.none r q]; rfl
 | some d=>obtain⟨v,e,_⟩:=aJ.get r q; rw[e]; rfl
theorem uT{a b:Addr}{xs:W9}{k:List Key}(e:H a=some (.dT xs)\/∃o,H a=some (.frz o (.dT xs)))(eb:H b=some (.tup (k.map kV))):fR H a (.ref b) (b8 xs k):=.inr ⟨xs,k,b,e,rfl,eb,rfl⟩
theorem FF{o i:Expr}{pos:Pos}{mo mi:Sg->M D}(hu:X.A.units+1<cLine)(ho:PE X o (tM Γ xw mo))(hi:PE X i (tM Γ xw mi))(hs:mP i):PE X (.Subscript o i pos) (tM Γ xw λσ=>mo σ>>=λx=>mi σ>>=λy=>jl x y) :=
 PE.imp (xU hu ho hi hs) λσ H Q h=>by
  obtain⟨σd,ι,S,he,hs,ho⟩:=h;refine⟨σd,ι,S,he,hs,ho.bind.mono λd S1 ι1 H1 _ _ ⟨s1,e1,o1⟩ x rx=>?_⟩;refine⟨σd,ι1,S1,he.ext e1,s1,o1.bind.mono λd2 S2 ι2 H2 _ _ ⟨s2,e2,o2⟩ y ry=>?_⟩;have rx:=rx.ext e2
  cases d with
  | loc l =>
   cases d2 with
   | tup ds =>
    obtain⟨k,q,o2⟩:=Out.opt o2;obtain⟨kvs,q2,o2⟩:=Out.b6 o2;obtain⟨d3,q3,o2⟩:=Out.tZ o2;obtain⟨b,rfl,hb⟩:=ry.key q
    cases rx with
    | @loc _ a hl =>
     obtain⟨a',xs,ha,hx,dr⟩:=s2.tab q2;rw[hl] at ha; cases ha;obtain⟨v,hv,rv⟩:=aJ.get dr q3;exact⟨a,v,rfl,by rw[<- hv]; exact uT hx hb,o2.here s2 v rv⟩
   | _=>exact o2.elim
  | _=>exact o2.elim
theorem rm{neg:Bool}{x y d:D}{S S':af}(h:jR neg x y S=.ok d S'):∃k,d=.bl k:=by
 cases x with
 | tup ds =>
  cases y with
  | loc l =>
   have h:(opt (allInts ds)>>=λk=>b6 l λkvs=>pure (.bl ((cj kvs k).isSome != neg))) S=.ok d S':=h
   cases q:allInts ds with
   | none=>rw[q] at h; cases h
   | some k =>
    rw[q] at h;have h:b6 l (λkvs=>pure (.bl ((cj kvs k).isSome != neg))) S=.ok d S':=h;unfold b6 at h
    cases q2:S[l]? with
    | none=>rw[q2] at h; cases h
    | some c =>
     rw[q2] at h
     cases c with
     | lst ds=>cases h
     | dct kvs=>cases h; exact⟨_,rfl⟩
     | fdc kvs=>cases h; exact⟨_,rfl⟩
  | _=>cases h
 | _=>cases h
theorem vn{neg:Bool}{dx dy:D}{x y:V}{Q:VK}(hS:ao Γ ι H S)(r1:Rep Γ ι H dx x)(r2:Rep Γ ι H dy y)(ho:Out Γ xw ι H (jR neg dx dy S) λd _ ι' H'=>∀v,Rep Γ ι' H' d v->Q v H') :
  ∃a o,y=.ref a/\fR H a x o/\Q (.bl (o.isSome != neg)) H:=by
 cases dx with
 | tup ds =>
  cases dy with
  | loc l =>
   obtain⟨k,q,ho⟩:=Out.opt ho;obtain⟨kvs,q2,ho⟩:=Out.b6 ho;obtain⟨b,rfl,hb⟩:=r1.key q
   cases r2 with
   | @loc _ a hl =>
    obtain⟨a',xs,ha,hx,dr⟩:=hS.tab q2;rw[hl] at ha; cases ha;refine⟨a,_,rfl,uT hx hb,?_⟩;rw[aJ.some k dr];exact Out.val ho hS (.bl _)
  | _=>exact ho.elim
 | _=>exact ho.elim
theorem Hw(hu:X.A.units+1<cLine):OpR X (compareOp .In) (aV Γ xw (cmD .din)):=by
 intro pins s σ H x y v u Q I rx ry h;obtain⟨ι,S,dx,dy,hS,r1,r2,ho⟩:=h;obtain⟨a,o,rfl,g,q⟩:=vn hS r1 r2 ho;obtain rfl:u=Value.ref a:=ry;refine Hh hu I g rx λs3 I3=>⟨.bl o.isSome,H,I3,rfl,?_⟩
 cases o<;>exact q
theorem Hi(hu:X.A.units+1<cLine):OpR X (compareOp .NotIn) (aV Γ xw (cmD .dnin)):=by
 intro pins s σ H x y v u Q I rx ry h;obtain⟨ι,S,dx,dy,hS,r1,r2,ho⟩:=h;obtain⟨a,o,rfl,g,q⟩:=vn hS r1 r2 ho;obtain rfl:u=Value.ref a:=ry;refine zX hu I g rx λs3 I3=>⟨.bl (!o.isSome),H,I3,rfl,?_⟩
 cases o<;>exact q
theorem BE{o i e:Expr}{pos p:Pos}{mo mi me:Sg->M D}(hu:X.A.units+1<cLine)(he:PE X e (tM Γ xw me))(ho:PE X o (tM Γ xw mo))(hi:PE X i (tM Γ xw mi))
  (hw:swapsWith e (some (.Subscript o i p)) pos.line X.env=pure false) :
  PS X (.Assign [.Subscript o i p] e pos) (tMS Γ xw λσ=>me σ>>=λd=>mo σ>>=λa=>mi σ>>=λk=>i_ a k d>>=λ_=>pure (.nx σ)):=by
 refine PS.imp (Am hu ho hi he hw) λD σ H h=>?_
 obtain⟨σd,ι,S,hE,hs,ho⟩:=h;refine⟨σd,ι,S,hE,hs,ho.bind.mono λd S1 ι1 H1 _ _ ⟨s1,e1,o1⟩ v rv=>?_⟩;refine⟨σd,ι1,S1,hE.ext e1,s1,o1.bind.mono λa S2 ι2 H2 _ _ ⟨s2,e2,o2⟩ ov ro=>?_⟩;refine⟨σd,ι2,S2,(hE.ext e1).ext e2,s2,o2.bind.mono λky S3 ι3 H3 _ _ ⟨s3,e3,o3⟩ kv rk=>?_⟩;have o3:=o3.bind
 cases ky with
 | tup ds =>
  cases a with
  | loc l =>
   obtain⟨k,q,o3⟩:=Out.opt o3;obtain⟨kvs,q2,o3⟩:=Out.e_ o3;obtain⟨hz2,o3⟩:=Out.guard o3;obtain⟨b,rfl,hb⟩:=rk.key q;have ro:=ro.ext e3
   cases ro with
   | @loc _ a hl =>
    obtain⟨a',xs,ha,hx,dr⟩:=s3.dct q2;rw[hl] at ha; cases ha;have rv2:=(rv.ext e2).ext e3;refine⟨a,_,rfl,jx.t hx hb ?_,?_⟩
    ·have:kvs.length=xs.length:=dr.length;rw[<- this];exact vB hz2
    ·have ew:=Ext.fj (ys:=putK xs (k.map Sum.inl) v) hx (ZD hl);obtain⟨s5,e5,o5⟩:=o3 ι3 _ ew (s3.fj q2 hl hx (aJ.put rv2 dr));exact o5.here s5 _ ((((hE.ext e1).ext e2).ext e3).ext ew)
  | _=>exact o3.elim
 | _=>exact o3.elim
theorem rH{a b:Addr}{xs:W9}{o:Obj}{u:HO}(h:H a=some (.dT xs))(e:H b=some u)(hu:u≠.dT xs):upd H a (.frz o (.dT xs)) b=some u:=by
 rw[aF]
 ·exact e
 ·intro z;rw[z,h] at e;exact hu (Z1 e).symm
theorem Ext.iy{a:Addr}{xs:W9}{o:Obj}(h:H a=some (.dT xs))(hm:a∈ι):Ext ι ι H (upd H a (.frz o (.dT xs))) where
 pre:=ZQ _
 tup:=λb zs e=>rH h e (λz=>by cases z)
 frz:=λb o u e=>rH h e (λz=>by cases z)
 oth:=λb o e n=>by rw[aF (λz=>n (by rw[z]; exact hm))]; exact e
 fresh:=λ_ h n=>absurd h n
theorem ao.iy(hS:ao Γ ι H S){l:Nat}{a:Addr}{xs:W9}{kvs:Yb}{o:Obj}(hl:S[l]?=some (.dct kvs))(ha:ι[l]?=some a)(h:H a=some (.dT xs))(r:aJ Γ ι H kvs xs):ao Γ ι (upd H a (.frz o (.dT xs))) (S.set l (.fdc kvs)):=by
 have e:=Ext.iy (o:=o) h (ZD ha);refine⟨by rw[XR]; exact hS.len,hS.nd,λm c hm=>?_⟩
 by_cases em:m=l
 ·subst em;rw[Xb (Zi.mp hl).1] at hm;cases hm;exact⟨a,ha,xs,⟨o,cH⟩,Paired.imp (λ_ _ q=>⟨q.1,q.2.ext e⟩) r⟩
 ·rw[ZX (Ne.symm em)] at hm;obtain⟨b,hb,c1⟩:=hS.cell m c hm;have hne:b≠a:=λz=>em (gW hS.nd hb (z▸ha))
  exact⟨b,hb,c1.ext e λo ho=>by rw[aF hne]; exact ho⟩
theorem sI{a:Addr}{xs:W9}{kvs:Yb}{o:Obj}(h:H a=some (.frz o (.dT xs)))(r:aJ Γ ι H kvs xs):lW Γ ⟨kvs.map λkv=>.tup (kv.1.map .int),none,[]⟩ (Itd o a xs) ι H:=λι1 H1 S1 e s1 st=>by
 have h1:=e.frz _ _ _ h;refine⟨λi d hd=>?_,by rw[Zb,r.length]; exact Zm _,h1⟩;have hd:(kvs.map λkv=>D.tup (kv.1.map .int))[i]?=some d:=hd;rw[ZL,ZG] at hd;obtain⟨p,hp,rfl⟩:=hd;obtain⟨q,hq,e1,_⟩:=Paired.get r hp;refine⟨⟨(Zi.mp hq).1,h1⟩,?_⟩;rintro x H' ⟨rfl,k,v,b,g1,rfl,g2⟩;rw[hq] at g1; cases g1;have e1:k=p.1.map Sum.inl:=e1;rw[e1,<- u_] at g2;exact⟨.refl,s1,.jX g2 (iH _)⟩
theorem Ah{tg a:Expr}{ma:Sg->M D}(ha:PE X a (tM Γ xw ma)):PI X tg a (tMI Γ xw λσ=>ma σ>>=λd=>iZ d) :=
 PI.imp (DS ha) λσ H R h=>by
  obtain⟨σd,ι,S,he,hs,ho⟩:=h;refine⟨σd,ι,S,he,hs,ho.bind.mono λd S' ι' H' _ _ ⟨s',e',o'⟩ v r=>?_⟩
  cases d with
  | loc l =>
   have e:iZ (.loc l) S'=match S'[l]? with
    | some (.dct kvs)=>.ok ⟨kvs.map λkv=>.tup (kv.1.map .int),none,[]⟩ (S'.set l (.fdc kvs))
    | some (.fdc kvs)=>.ok ⟨kvs.map λkv=>.tup (kv.1.map .int),none,[]⟩ S'
    | _=>.bad:=rfl
   rw[e] at o'
   cases r with
   | @loc _ a hl =>
    cases q:S'[l]? with
    | none=>rw[q] at o'; exact o'.elim
    | some c =>
     rw[q] at o'
     cases c with
     | lst ds=>exact o'.elim
     | dct kvs =>
      obtain⟨a',xs,ha',hx,dr⟩:=s'.dct q;rw[hl] at ha'; cases ha';refine⟨a,xs,rfl,.inl ⟨hx,λo=>?_⟩⟩;have ek:=Ext.iy (o:=o) hx (ZD hl);exact o' ι' _ ek (s'.iy q hl hx dr) _ (sI cH (Paired.imp (λ_ _ q=>⟨q.1,q.2.ext ek⟩) dr))
     | fdc kvs =>
      obtain⟨a',ha',xs,⟨o,hx⟩,dr⟩:=s'.cell l _ q;rw[hl] at ha'; cases ha';exact⟨a,xs,rfl,.inr ⟨o,hx,o' ι' _ .refl s' _ (sI hx dr)⟩⟩
  | _=>exact o'.elim
theorem aJ.vals:∀{kvs:Yb} {xs:W9},aJ Γ ι H kvs xs->aA Γ ι H (kvs.map (·.2)) (xs.map (·.2))
 | _,_,.nil=>.nil
 | _::_,_::_,.cons e u=>.cons e.2 (aJ.vals u)
theorem Hr{sub:Sub}{x:Str}{p pos cpos apos:Pos}{o:Expr}{mo:Sg->M D}(hc:X.calm=true)(hg:Gl X x)(hm:X.mg x=none)(hv:bootBuiltins x=some (.type "list"))(ho:PE X o (tM Γ xw mo))(hnm:∃y q,o=.Name y q)(hline:(apos.endLine==cpos.line)=true)(hn:x≠"__name__")(hdb:(x==("__debug__" : Str))=false) :
  PE X (.Call (.Name x p) [.Call (.Attribute o "values" apos) [] [] cpos] [] pos) (tM Γ xw λσ=>mo σ>>=λd=>bi1 sub .vals d) :=
 PE.imp (FD hc hg hm hv ho hn hdb (by obtain⟨y,q,rfl⟩:=hnm; rfl) hline) λσ H Q h=>by
  obtain⟨σd,ι,S,he,hs,ho⟩:=h;refine⟨σd,ι,S,he,hs,ho.bind.mono λd S' ι' H' _ _ ⟨s',e',o'⟩ v r=>?_⟩;have o':Out Γ xw ι' H' (uN d S') λd _ ι' H'=>∀v,Rep Γ ι' H' d v->Q v H':=o'
  cases d with
  | loc l =>
   obtain⟨kvs,q,o'⟩:=Out.b6 o';obtain⟨hz,o'⟩:=Out.guard o'
   cases r with
   | @loc _ a hl =>
    obtain⟨a',xs,ha',hx,dr⟩:=s'.tab q;rw[hl] at ha'; cases ha';exact⟨a,xs,rfl,hx,λp hp=>Out.alloc o' s' hp (aJ.vals dr)⟩
  | _=>exact o'.elim
theorem BD{sub:Sub}{x y:Str}{p p' pos pos':Pos}{a:Expr}{ma:Sg->M D}(hK:Γ.K=X.K)(hc:X.calm=true)(hg:Gl X x)(hm:X.mg x=none)(hv:bootBuiltins x=some (.builtin "len"))
  (hg':Gl X y) (hm':X.mg y=none) (hv':bootBuiltins y=some (.type "set")) (ha:PE X a (tM Γ xw ma)) (hn:x≠"__name__") (hdb:(x==("__debug__" : Str))=false) (hn':y≠"__name__") (hdb':(y==("__debug__" : Str))=false)
  (hs:starEach [a] X.env=(false,eval a X.env)::starEach [] X.env):PE X (.Call (.Name x p) [.Call (.Name y p') [a] [] pos'] [] pos) (tM Γ xw λσ=>ma σ>>=λd=>bi1 sub .lenS d) :=
 PE.imp (zT hc hg hm hv hg' hm' hv' ha hn hdb hn' hdb' hs) λσ H Q h=>by
  obtain⟨σd,ι,S,he,hs,ho⟩:=h;refine⟨σd,ι,S,he,hs,ho.bind.mono λd S' ι' H' _ _ ⟨s',e',o'⟩ v r=>?_⟩;obtain⟨ds,q,o'⟩:=Out.bG o';obtain⟨is,q2,o'⟩:=Out.opt o';obtain⟨hz,o'⟩:=Out.guard o';have hz:is.length<=18:=Zl hz;obtain⟨_,pa,xs,rfl,sq,rp⟩:=ly s' r q;rw[ints_map q2] at rp;have ev:=gB rp;subst ev;rw[hK] at sq;exact⟨pa,is,rfl,sq,by omega,Out.val o' s' (.int _)⟩
theorem DY{d:D}{n:Int}{v:V}(h:mC d=some n)(r:Rep Γ ι H d v):∃b z,v=V.ref b/\SqT Γ.K H b [.int n,z]:=by
 unfold mC at h;split at h
 ·cases h;obtain⟨a,xs,rfl,sq,rp⟩:=r.cg
  cases rp with
  | cons h1 t1 =>
   cases h1
   cases t1 with
   | cons h2 t2 =>
    cases t2;exact⟨_,_,rfl,sq⟩
 ·cases h
theorem sE:∀{ds:Ya} {ns:WU} {xs:W8},firstsP ds=some ns->aA Γ ι H ds xs->Paired (λv n=>∃b z,v=V.ref b/\SqT Γ.K H b [.int n,z]) xs ns
 | [],_,_,h,.nil=>by cases h; exact .nil
 | d::r,ns,_,h,.cons e t=>by
  unfold firstsP at h;split at h
  ·rename_i n ns' q1 q2;cases h;exact .cons (DY q1 e) (sE q2 t)
  ·cases h
theorem AA{sub:Sub}{x y:Str}{p p' pos pos':Pos}{a:Expr}{ma:Sg->M D}(hK:Γ.K=X.K)(hc:X.calm=true)(hg:Gl X x)(hm:X.mg x=none)(hv:bootBuiltins x=some (.builtin "len"))
  (hg':Gl X y) (hm':X.mg y=none) (hv':bootBuiltins y=some (.type "dict")) (ha:PE X a (tM Γ xw ma)) (hn:x≠"__name__") (hdb:(x==("__debug__" : Str))=false) (hn':y≠"__name__") (hdb':(y==("__debug__" : Str))=false)
  (hs:starEach [a] X.env=(false,eval a X.env)::starEach [] X.env):PE X (.Call (.Name x p) [.Call (.Name y p') [a] [] pos'] [] pos) (tM Γ xw λσ=>ma σ>>=λd=>bi1 sub .lenD d) :=
 PE.imp (za hc hg hm hv hg' hm' hv' ha hn hdb hn' hdb' hs) λσ H Q h=>by
  obtain⟨σd,ι,S,he,hs,ho⟩:=h;refine⟨σd,ι,S,he,hs,ho.bind.mono λd S' ι' H' _ _ ⟨s',e',o'⟩ v r=>?_⟩;obtain⟨ds,q,o'⟩:=Out.bG o';obtain⟨is,q2,o'⟩:=Out.opt o';obtain⟨hz,o'⟩:=Out.guard o';have hz:is.length<=18:=Zl hz;obtain⟨_,pa,xs,rfl,sq,rp⟩:=ly s' r q;rw[hK] at sq;exact⟨pa,xs,is,rfl,sq,hK▸sE q2 rp,by omega,Out.val o' s' (.int _)⟩
theorem CB{ds:Ya}{xs:W8}(p:aA Γ ι H ds xs):aA Γ ι H ds.dropLast xs.dropLast:=by
 rw[List.dropLast_eq_take,List.dropLast_eq_take,p.length];exact Paired.tak _ p
theorem yM{o:Expr}{apos cpos:Pos}{mo:Sg->M D}(ho:PE X o (tM Γ xw mo))(hbase:attributeBase o "pop" X.env (eval o X.env)=eval o X.env)(hline:(apos.endLine==cpos.line)=true) :
  PE X (.Call (.Attribute o "pop" apos) [] [] cpos) (tM Γ xw λσ=>mo σ>>=λx=>iO x) :=
 PE.imp (JC Wb PySem.F.slot_list_pop PySem.F.type_list_pop Aq ho hbase hline) λσ H Q h=>by
  obtain⟨σd,ι,S,he,hs,ho⟩:=h;refine⟨σd,ι,S,he,hs,ho.bind.mono λd S' ι' H' _ _ ⟨s',e',o'⟩ v r=>?_⟩
  cases d with
  | loc l =>
   obtain⟨ds,e,o'⟩:=Out.bg o';obtain⟨a,ws,ha,hx,p⟩:=s'.lst e
   cases r with
   | loc q =>
    rw[ha] at q; cases q
    cases g:ds.getLast? with
    | none=>rw[g] at o'; exact o'.elim
    | some y =>
     rw[g] at o';rw[List.getLast?_eq_getElem?] at g;obtain⟨w,hw,rw'⟩:=Paired.get p g;refine⟨.inl ⟨rfl,ws,.of hx⟩,a,ws,w,rfl,rfl,hx,by rw[<- p.length]; exact hw,?_⟩;have ew:=Ext.write (ys:=ws.dropLast) hx (ZD ha);exact o' ι' _ ew (s'.write e ha hx (CB p)) _ (rw'.ext ew)
  | _=>exact o'.elim
theorem qa:OpR X (compareOp .IsNot) (aV Γ xw (cmD .nisB)):=by
 intro pins s σ H x y v u Q I rx ry h;obtain⟨ι,S,dx,dy,hS,r1,r2,ho⟩:=h
 cases dx with
 | bl a =>
  cases dy with
  | bl b =>
   cases r1; cases r2;cases rx; cases ry;exact isnot_bool ⟨.bl _,H,I,rfl,Out.val ho hS (.bl _)⟩
  | _=>exact ho.elim
 | _=>exact ho.elim
theorem zy{ds:Ya}{xs:W8}(p:aA Γ ι H ds xs):aA Γ ι H ds.reverse xs.reverse:=Paired.of_get (by rw[Qc,Qc]; exact p.length) λi d v e1 e2=>by
 have hi:i<ds.length:=by have:=(Zi.mp e1).1; rw[Qc] at this; exact this
 rw[Wn hi] at e1;rw[Wn (by rw[<- p.length]; exact hi),<- p.length] at e2;obtain⟨w,hw,r⟩:=Paired.get p e1;rw[e2] at hw; cases hw; exact r
theorem E0{sub:Sub}{e st:Expr}{pos p2:Pos}{ma:Sg->M D}(hK:Γ.K=X.K)(he:PE X e (tM Γ xw ma))(hs:PE X st (tM Γ xw λ_=>pure (.int (-1)))):PE X (.Subscript e (.Slice none none (some st) p2) pos) (tM Γ xw λσ=>ma σ>>=λd=>bi1 sub .rev d) :=
 PE.imp (JJ he hs) λσ H Q h=>by
  obtain⟨σd,ι,S,hE,hs,ho⟩:=h;refine⟨σd,ι,S,hE,hs,ho.bind.mono λd S1 ι1 H1 _ _ ⟨s1,e1,o1⟩ v r=>?_⟩;refine⟨σd,ι1,S1,hE.ext e1,s1,λι2 H2 e2 s2 y ry=>?_⟩;cases ry;obtain⟨ds,q,o1⟩:=Out.bG o1;obtain⟨_,pa,xs,rfl,sq,rp⟩:=ly s2 (r.ext e2) q;rw[hK] at sq;exact⟨rfl,pa,xs,rfl,sq,λp hp=>Out.alloc (o1.step e2) s2 hp (zy rp)⟩
end
end EV

namespace EV
open PySem
inductive GE where|fn|val (d:D)|cls
structure TC where
 sc:Scope
 N:List Str
 inF:Str->Bool
 top:Bool
 gt:List (Str×GE)
noncomputable def idx:List Str->Str->Option Nat
 | [],_=>none
 | y::r,x=>if y=x then some 0 else(idx r x).map (· + 1)
noncomputable def fF(sc:Scope)(x:Str):Bool:=match sc.names.lookup x with
 | some .local=>true
 | some .cell=>true
 | some .free=>true
 | _=>false
noncomputable def dY(c:TC)(x:Str):Bool:=match c.sc.names.lookup x with
 | some .local=>true
 | some .cell=>c.inF x
 | _=>false
noncomputable def glB(c:TC)(x:Str):Bool:=decide (c.sc.names.lookup x=some .globalImplicit)
noncomputable def fu(x:Str):Bool:=!(x==("__debug__" : Str))&&!(x==("__classdict__" : Str))
noncomputable def op2:Operator->Option Op2
 | .Add=>some .add
 | .Sub=>some .sub
 | .Mult=>some .mul
 | .FloorDiv=>some .fdiv
 | .Mod=>some .mod
 | .Pow=>some .pow
 | _=>none
noncomputable def cmO:CmpOp->Option Cm
 | .Lt=>some .lt
 | .LtE=>some .le
 | .Gt=>some .gt
 | .GtE=>some .ge
 | .Eq=>some .eq
 | .NotEq=>some .ne
 | .In=>some .isin
 | .NotIn=>some .bK
 | _=>none
noncomputable def gU:PySem.Expr->Bool
 | .Name x _=>decide (x = "kept")
 | _=>false
noncomputable def FQ:CmpOp->Option Cm
 | .In=>some .din
 | .NotIn=>some .dnin
 | _=>none
noncomputable def nq(op:CmpOp)(b:W6):Option Cm:=if gU b then FQ op else cmO op
noncomputable def vO:Const->Option E
 | .none=>some (.c .non)
 | .bool b=>some (.c (.bl b))
 | .int i=>some (.c (.int i))
 | .str s=>some (.c (.str s))
 | _=>none
noncomputable def mY(c:TC)(x:Str):Option E :=
 if fu x then
  if fF c.sc x then(idx c.N x).map .v
  else if glB c x then match c.gt.lookup x with
   | some (.val d)=>some (.c d)
   | _=>none
  else none
 else none
noncomputable def d9(c:TC)(x:Str):Bool:=glB c x&&(c.gt.lookup x).isNone
noncomputable def oz(x:Str):Option Bi :=
 if x = "len" then some .len else if x = "all" then some .all else if x = "sum" then some .sum
 else if x = "max" then some .max else if x = "sorted" then some .sorted else if x = "tuple" then some .tuple else none
noncomputable def oO(x:Str):Option Ty :=
 if x = "int" then some .int else if x = "bool" then some .bool else if x = "str" then some .str else if x = "list" then some .list else if x = "tuple" then some .tuple else if x = "dict" then some .dict else none
noncomputable def ni(x:Str):Option Me:=if x = "append" then some .append else if x = "extend" then some .extend else none
noncomputable def b5(f:PySem.Expr->Option E):List PySem.Expr->Option E
 | []=>some .nl
 | e::r=>match f e,b5 f r with
  | some a,some b=>some (.cs a b)
  | _,_=>none
noncomputable def trO(f:PySem.Expr->Option E):Option PySem.Expr->Option E
 | none=>some .nl
 | some e=>match f e with
  | some .nl=>none
  | o=>o
noncomputable def fH(c:TC):List PySem.Expr->Option (List Nat)
 | []=>some []
 | .Name x _::r=>if dY c x then match idx c.N x,fH c r with
   | some i,some is=>some (i::is)
   | _,_=>none
  else none
 | _=>none
noncomputable def iM(c:TC):PySem.Expr->Option Tg
 | .Name x _=>if dY c x then(idx c.N x).map .one else none
 | .Tuple es _ _=>(fH c es).map .many
 | _=>none
noncomputable def isTup:PySem.Expr->Bool
 | .Tuple _ _ _=>true
 | _=>false
noncomputable def mF(c:TC)(x:Str):Bool:=d9 c x&&decide (x = "range")
noncomputable def lQ(c:TC)(x:Str):Bool:=d9 c x&&decide (x = "enumerate")
noncomputable def Kc(c:TC)(x:Str):Bool:=d9 c x&&decide (x = "zip")
noncomputable def pair(es:W7):Bool:=decide (es.length=2)
noncomputable def few(es:W7):Bool:=decide (es.length=1)
noncomputable def nv:PySem.Expr->Bool
 | .Set _ _ _=>false
 | _=>true
noncomputable def trI(f:PySem.Expr->Option E)(c:TC)(tg:W6)(e:W6):Option E :=
 if nv e then match e with
  | .Call (.Name x _) args [] _ =>
   if mF c x then(if few args then(b5 f args).map .iRng else none)
   else if lQ c x then match isTup tg,args with
    | true,[a]=>(f a).map .iEnum
    | _,_=>none
   else(f e).map .iSeq
  | _=>if gU e then(f e).map .iDct else(f e).map .iSeq
 else none
noncomputable def mangle(x:Str):Str:=⟨#[0]++x.cps⟩
noncomputable def ju(scope sc:Scope):Scope :=
 { scope with names:=scope.names.map λ(n,k)=>if(k==.free&&sc.kind==.function&&sc.names.lookup n==some .cell) then(n,.cell) else(n,k) }
noncomputable def isFree(scope:Scope)(x:Str):Bool:=scope.names.any λy=>decide (y.1=x)&&decide (y.2=.free)
noncomputable def own(scope:Scope):List Str:=(scope.names.filter λy=>decide (y.2=.local)||decide (y.2=.cell)).map (·.1)
noncomputable def gm(scope:Scope)(x:Str):Str:=if isFree scope x then x else mangle x
noncomputable def inComp(c:TC)(scope:Scope):TC:={ c with sc:=ju scope c.sc,N:=c.N.map (gm scope)++own scope,inF:=λx=>decide (scope.names.lookup x=some .cell),top:=false }
noncomputable def ir:List Str->Bool
 | []=>true
 | x::r=>!(r.any λy=>decide (y=x))&&ir r
noncomputable def nD(c:TC)(scope:Scope):Bool :=
 scope.names.all (λy=>!decide (y.2=.free)||(match c.sc.names.lookup y.1 with|some .cell=>true|some .free=>true|_=>false)) &&
 ir (scope.names.map (·.1))&&decide (scope.kind=.function) &&
 scope.names.all (λy=>!decide (y.2=.local)||decide (scope.names.lookup y.1=some .local)) &&
 ir (c.N.map (gm scope)++own scope) &&
 c.N.all (λx=>if isFree scope x then !decide ((ju scope c.sc).names.lookup x=some .local) else !fF (ju scope c.sc) (mangle x))
noncomputable def Tg.uv(n:Nat):Tg->Bool
 | .one i=>decide (n<=i)
 | .many is=>is.all λi=>decide (n<=i)
noncomputable def jP:PySem.Expr->Bool
 | .Call _ [] [] _=>false
 | _=>true
noncomputable def two(es:W7):Bool:=decide (es.length=1)||decide (es.length=2)
noncomputable def jL(c:TC)(x:Str):Bool:=d9 c x&&decide (x = "set")
noncomputable def sU(c:TC)(x:Str):Bool:=d9 c x&&decide (x = "dict")
noncomputable def nF:List PySem.Expr->Bool
 | [_]=>true
 | _=>false
noncomputable def n5(c:TC)(x:Str):List PySem.Expr->Option (Bi×List PySem.Expr)
 | [.Call (.Name r _) ra [] _]=>if decide (x = "sorted")&&jL c r&&nF ra then some (.sortedSet,ra) else if decide (x = "len")&&jL c r&&nF ra then some (.lenS,ra) else if decide (x = "len")&&sU c r&&nF ra then some (.lenD,ra) else none
 | [.Call (.Attribute o name apos) [] [] cpos]=>if decide (x = "list")&&gU o&&decide (name = "values")&&(apos.endLine==cpos.line) then some (.vals,[o]) else none
 | _=>none
noncomputable def oU:CmpOp->Option Bool
 | .Is=>some true
 | .IsNot=>some false
 | _=>none
noncomputable def v8:PySem.Expr->Bool
 | .Constant k _ _=>(match k with
  | .none=>true
  | _=>false)
 | _=>false
noncomputable def zO:PySem.Expr->Bool
 | .Constant k _ _=>(match k with
  | .bool _=>true
  | _=>false)
 | _=>false
noncomputable def xx:PySem.Expr->Bool
 | .UnaryOp .USub (.Constant k _ _) _=>(match k with
  | .int i=>decide (i=1)
  | _=>false)
 | _=>false
noncomputable def pq:PySem.Expr->Bool
 | .Constant k _ _=>(match k with
  | .str _=>true
  | _=>false)
 | _=>false
noncomputable def J3:List PySem.Expr->Bool
 | [e]=>pq e
 | _=>false
noncomputable def trE:Nat->TC->PySem.Expr->Option E
 | 0,_,_=>none
 | n+1,c,e=>match e with
  | .Name x _=>mY c x
  | .Constant k _ _=>vO k
  | .BinOp a op b _=>match op2 op,trE n c a,trE n c b with
   | some o,some a',some b'=>some (.bin o a' b')
   | _,_,_=>none
  | .UnaryOp op a _=>match op,trE n c a with
   | .Not,some a'=>some (.not a')
   | .USub,some a'=>some (.neg a')
   | _,_=>none
  | .BoolOp op vs p=>match vs with
   | []=>none
   | [a]=>trE n c a
   | a::b::r=>match op,trE n c a,trE n c (.BoolOp op (b::r) p) with
    | .And,some a',some b'=>some (.and a' b')
    | .Or,some a',some b'=>some (.or a' b')
    | _,_,_=>none
  | .IfExp t a b _=>match trE n c t,trE n c a,trE n c b with
   | some t',some a',some b'=>some (.ite t' a' b')
   | _,_,_=>none
  | .Compare a ops cs _=>match ops,cs with
   | [op],[b]=>match oU op with
    | some k=>if v8 b then(trE n c a).map (λx=>bif k then .isN x else .notN x) else if !k&&zO b then(match trE n c a,trE n c b with
      | some a',some b'=>some (.cmp .nisB a' b')
      | _,_=>none) else none
    | none=>match nq op b,trE n c a,trE n c b,behindInMarks op b with
     | some o,some a',some b',false=>some (.cmp o a' b')
     | _,_,_,_=>none
   | [op,op'],[b,d]=>match cmO op,cmO op',trE n c a,trE n c b,trE n c d,lastMarks [op,op'] [b,d] with
    | some o,some o',some a',some b',some d',false=>some (.chn o o' a' b' d')
    | _,_,_,_,_,_=>none
   | _,_=>none
  | .Tuple es _ _=>(b5 (trE n c) es).map .tup
  | .List es _=>(b5 (trE n c) es).map .lst
  | .Dict ks vs _=>match ks,vs with
   | [],[]=>some .dnew
   | _,_=>none
  | .Subscript a i _=>match i with
   | .Slice lo hi none _=>match trE n c a,trO (trE n c) lo,trO (trE n c) hi with
    | some a',some l,some h=>some (.sl a' l h)
    | _,_,_=>none
   | .Slice lo hi (some st) _=>if lo.isNone&&hi.isNone&&xx st then(trE n c a).map (λa'=>.bi .rev (.cs a' .nl)) else none
   | .Tuple es _ _=>none
   | i=>match trE n c a,trE n c i with
    | some a',some i'=>if gU a then some (.dgv a' i') else some (.ix a' i')
    | _,_=>none
  | .Call f args kws cpos=>match f,kws with
   | .Name x _,[] =>
    if fu x&&glB c x then match c.gt.lookup x with
     | some .fn=>(b5 (trE n c) args).map (.call x)
     | some _=>none
     | none =>
      if x = "isinstance" then match args with
       | [a,.Name y _]=>if fu y&&d9 c y then match oO y,trE n c a with
         | some t,some a'=>some (.bi (.inst t) (.cs a' .nl))
         | _,_=>none
        else none
       | _=>none
      else match n5 c x args with
       | some (b,ra)=>(b5 (trE n c) ra).map (.bi b)
       | none=>match args with
        | []=>none
        | a::r=>match oz x,b5 (trE n c) (a::r) with
         | some b,some es=>some (.bi b es)
         | _,_=>none
    else none
   | .Attribute o name apos,[]=>match args with
    | []=>if decide (name = "pop")&&jP o&&(apos.endLine==cpos.line) then(trE n c o).map .pop else none
    | a::r=>if jP o&&(apos.endLine==cpos.line)&&decide (args.length<20) then match ni name,trE n c o,b5 (trE n c) (a::r) with
      | some m,some o',some es=>some (.me m o' es)
      | _,_,_=>none
     else none
   | _,_=>none
  | .ListComp elt gens scope _=>match gens with
   | [⟨tg,iter,ifs,asy⟩]=>if asy=0&&nD c scope then
     match trI (trE n c) c tg iter,iM (inComp c scope) tg,trE n (inComp c scope) elt,(match ifs with|[]=>some .nl|[t]=>trO (trE n (inComp c scope)) (some t)|_=>none) with
     | some it,some t,some el,some tt=>if t.uv c.N.length then some (.comp (own scope).length el t it tt) else none
     | _,_,_,_=>none
    else none
   | _=>none
  | _=>none
noncomputable def gH:PySem.Expr->Bool
 | .ListComp _ _ _ _=>false
 | .SetComp _ _ _ _=>false
 | .DictComp _ _ _ _ _=>false
 | _=>true
noncomputable def v_:PySem.Expr->PySem.Expr->Bool
 | .Name _ _,_=>true
 | .Tuple _ _ _,v=>!isTup v&&gH v
 | _,_=>false
noncomputable def cR(f:Stmt->Option S):List Stmt->Option S
 | []=>some .skip
 | [s]=>f s
 | s::r=>match f s,cR f r with
  | some a,some b=>some (.seq a b)
  | _,_=>none
noncomputable def nh:PySem.Expr->Option S
 | .Call (.Name x _) _ _ _=>some (.rais x)
 | _=>none
noncomputable def Et:PySem.Expr->Bool
 | .Slice _ _ _ _=>false
 | .Tuple _ _ _=>false
 | _=>true
noncomputable def lX(f:PySem.Expr->Option E)(e:W6):PySem.Expr->Option S
 | .Subscript o (.Tuple es _ _) _=>none
 | .Subscript o i _=>if gH e&&Et i then match f o,f i,f e with
   | some a,some b,some d=>if gU o then some (.dsv a b d) else none
   | _,_,_=>none
  else none
 | _=>none
noncomputable def trS(m:Nat):Nat->TC->Stmt->Option S
 | 0,_,_=>none
 | n+1,c,s=>match s with
  | .Return none _=>some .retN
  | .Return (some e) _=>(trE m c e).map .ret
  | .Expr e _=>if pq e then some .skip else if gH e then(trE m c e).map .ex else none
  | .Pass _=>some .skip
  | .Assign ts e _=>match ts with
   | [tg]=>if v_ tg e then match iM c tg,trE m c e with
     | some t,some e'=>some (.set t e')
     | _,_=>none
    else lX (trE m c) e tg
   | _=>none
  | .If t a b _=>match trE m c t,cR (trS m n c) a,cR (trS m n c) b with
   | some t',some a',some b'=>some (.ite t' a' b')
   | _,_,_=>none
  | .For tg it body els _=>match els,iM c tg,trI (trE m c) c tg it,cR (trS m n c) body with
   | [],some t,some i,some b=>some (.forS t i b)
   | _,_,_,_=>none
  | .While t body els _=>match els,trE m c t,cR (trS m n c) body with
   | [],some t',some b=>some (.whl t' b)
   | _,_,_=>none
  | .Raise (some e) none _=>nh e
  | _=>none
noncomputable def depth:Nat:=60
noncomputable def argNames(a:Arguments):List Str:=a.args.map (·.arg)
noncomputable def jY(a:Arguments):Bool:=a.posonlyargs.isEmpty&&a.vararg.isNone&&a.kwonlyargs.isEmpty&&a.kw_defaults.isEmpty&&a.kwarg.isNone&&a.defaults.isEmpty
noncomputable def namesOf(a:Arguments)(sc:Scope):List Str:=argNames a++(sc.names.filter λy=>(decide (y.2=.local)||decide (y.2=.cell))&&!((argNames a).any λx=>decide (x=y.1))).map (·.1)
noncomputable def fM(gt:List (Str×GE))(a:Arguments)(sc:Scope):TC:=⟨sc,namesOf a sc,λ_=>true,true,gt⟩
noncomputable def dm(a:Arguments)(sc:Scope):Bool :=
 jY a&&decide (sc.kind=.function)&&!sc.isCoroutine&&!sc.isGenerator&&ir (namesOf a sc)&&(argNames a).all (λx=>match sc.names.lookup x with|some .local=>true|some .cell=>true|_=>false)&&sc.names.all λy=>!decide (y.2=.free)
noncomputable def trF(gt:List (Str×GE)):Stmt->Option Fn
 | .FunctionDef _ a body _ _ _ sc _ _ _=>if dm a sc then(cR (trS depth depth (fM gt a sc)) body).map λb=>⟨(argNames a).length,(namesOf a sc).length,b⟩ else none
 | _=>none
end EV

namespace EV
open PySem PySem.Spec PyProof.Rows L2
theorem jv:∀{l:W4} {x:Str} {i:Nat},idx l x=some i->l[i]?=some x
 | [],_,_,h=>by cases h
 | y::r,x,i,h=>by
  unfold idx at h
  by_cases e:y=x
  ·rw[Zf e] at h; cases h; subst e; rfl
  ·rw[Zh e] at h
   cases q:idx r x with
   | none=>rw[q] at h; cases h
   | some j=>rw[q] at h; cases h; show r[j]?=some x; exact jv q
theorem j4:∀{l:W4},ir l=true->l.Nodup
 | [],_=>QM
 | x::r,h=>by
  rw[ir,Zv] at h;refine Xf.mpr ⟨λm=>?_,j4 h.2⟩;have:(r.any λy=>decide (y=x))=true:=QT.mpr ⟨x,m,Zj rfl⟩;rw[this] at h; exact absurd h.1 (by simp)
theorem AF{sc:Scope}{x:Str}(h:fF sc x=true):Vis sc x:=by
 unfold fF at h;unfold Vis
 cases q:sc.names.lookup x with
 | none=>rw[q] at h; cases h
 | some k=>rw[q] at h; cases k<;>first|exact .inl rfl|exact .inr (.inl rfl)|exact .inr (.inr rfl)|cases h
theorem zu{sc:Scope}{x:Str}(h:Vis sc x):fF sc x=true:=by
 unfold fF;rcases h with h|h|h<;>rw[h]
theorem uM{x:Str}(h:fu x=true):(x==("__debug__" : Str))=false/\(x==("__classdict__" : Str))=false:=by
 unfold fu at h;rw[Zv] at h;exact⟨by simpa using h.1,by simpa using h.2⟩
structure Cok(c:TC)(X:Cx):Prop where
 sc:X.env.scope=c.sc
 N:X.N=c.N
 nd:X.N.Nodup
 kind:c.sc.kind=.function
 fn:∀x,c.inF x=true->X.fn x=true
 stk:c.top=true->X.stack=X.env::X.outer/\X.env.frame=some X.env.locals
theorem Cok.gl{c:TC}{X:Cx}(C:Cok c X){x:Str}(h:glB c x=true):Gl X x:=by
 show X.env.scope.names.lookup x=_;rw[C.sc]; exact Zl h
theorem Cok.loc{c:TC}{X:Cx}(C:Cok c X){x:Str}(h:dY c x=true):L2.Loc X.env.scope x/\(X.fn x=true\/X.env.scope.names.lookup x=some .local):=by
 unfold dY at h;unfold L2.Loc;rw[C.sc]
 cases q:c.sc.names.lookup x with
 | none=>rw[q] at h; cases h
 | some k =>
  rw[q] at h
  cases k with
  | «local»=>exact⟨.inl rfl,.inr rfl⟩
  | cell=>exact⟨.inr rfl,.inl (C.fn x h)⟩
  | _=>cases h
theorem CH{scope:Scope}{env:Env}:relabel scope env=ju scope env.scope:=rfl
noncomputable def dS:List Str:=["len","all","any","sum","min","max","sorted","abs","list","tuple","int","bool","str","dict","range","enumerate","isinstance","set","zip","ValueError"]
section
variable(Γ:Gx)(W:XW->Prop)(CX:CXT)(EW:XW->XK)
noncomputable def spF(g:List D->M D)(n:Nat):Sp:=λvs H Q E=>vs.length=n/\∃xw,W xw/\E=EW xw/\∃ι S ds,ao Γ ι H S/\aA Γ ι H ds vs/\Out Γ xw ι H (g ds S) λd _ ι' H'=>∀v,Rep Γ ι' H' d v->Q v H'
noncomputable def EWx(K:WV):XW->XK:=λxw cls _ H'=>∃c C,cls=.ref C/\PySem.W.nsIn K mainGlobals c=some (some (.ref C))/\∃S ι,xw c S ι H'
theorem ewF{K:WV}{cls:Value}{o:Option Addr}{H:Hp}(h:EWx K XF cls o H):False:=by
 obtain⟨_,_,_,_,_,_,z⟩:=h;exact z
def ClsAt(K:WV)(x:Str):Prop:=∃C newId initId B bmB,PySem.W.nsIn K mainGlobals x=some (some (.ref C))/\PySem.W.excIn K C bmB newId=true/\ExcBaseFacts B newId initId bmB/\PySem.W.kitOne K (.ref C) (.type "ValueError")=some true /\
 (∃L,PySem.W.nsIn K mainGlobals "LapError" = some (some (.ref L))/\PySem.W.kitOne K (.ref C) (.ref L)=some true) /\
 (x = "NoLoop"->∀P,PySem.W.nsIn K mainGlobals "NoPlan" = some (some (.ref P))->HA K C/\PySem.W.kitOne K (.ref C) (.ref P)=some false)
structure Fam(gt:List (Str×GE))(cf:Str->List D->M D)(X:Cx)(xw:XW):Prop where
 hK:Γ.K=X.K
 calm:X.calm=true
 un:X.A.units+64<cLine
 blt:∀x∈dS,gt.lookup x=none->X.mg x=none
 val:∀x d,gt.lookup x=some (.val d)->∃u v,X.mg x=some u/\RelV v u/\∀ι H,Rep Γ ι H d v
 fn:∀x,gt.lookup x=some .fn->∃k f fd ps,d8 X.prog X.w X.K X.mg X.base CX k f fd ps (spF Γ W EW (cf x) ps.length)/\bY k X.A/\X.mg x=some (.ref f)/\PySem.W.keepIn X.K (.ref f)=true/\Binds X.K fd ps []/\∀ds S,ds.length≠ps.length->cf x ds S=.bad
 pass:Passes CX X (EW xw)
 rp:Passes (CXr X.prog X.w) X (EW xw)
 cls:∀x,gt.lookup x=some .cls->ClsAt X.K x/\∀C,PySem.W.nsIn X.K mainGlobals x=some (some (.ref C))->X.mg x=some (.ref C)
 cx:CX=CXe X.prog X.w
 ew:EW=EWx X.K
 wt:∀xw,W xw
end
section
variable{Γ:Gx}{W:XW->Prop}{CX:CXT}{EW:XW->XK}{gt:List (Str×GE)}{cf:Str->List D->M D}{X:Cx}{xw:XW}
theorem Fam.noR(F:Fam Γ W CX EW gt cf X xw){st:Heap->Heap->Addr->Addr->Prop}{outer:List Env}{H:Hp}{s:WX}{e:Value}{s':WX}(h:CXg st X.prog X.w outer H s (EW XF) e s'):False:=by
 obtain⟨_,_,_,_,_,_,_,_,_,_,_,_,z⟩:=h;rw[F.ew] at z;exact ewF z
theorem Fam.noF(F:Fam Γ W CX EW gt cf X xw){outer:List Env}{H:Hp}{s:WX}{e:Value}{s':WX}(h:CX outer H s (EW XF) e s'):False:=by
 rw[F.cx] at h;exact F.noR h
theorem Fam.ok(F:Fam Γ W CX EW gt cf X xw):W xw:=F.wt xw
theorem Fam.nox(F:Fam Γ W CX EW gt cf X xw):Fam Γ W CX EW gt cf X.nox XF :=
 ⟨F.hK,F.calm,F.un,F.blt,F.val,F.fn,λ_ _ _ _ _ _ _ h=>(F.noF h).elim,λ_ _ _ _ _ _ _ h=>(F.noR h).elim,F.cls,F.cx,F.ew,F.wt⟩
theorem Fam.comp(F:Fam Γ W CX EW gt cf X xw)(scope:Scope)(cl:List (Str×Addr))(N':W4)(fp:W0)(s3:WX)(H3:Hp):Fam Γ W CX EW gt cf (aS X scope cl N' fp s3 H3) XF :=
 ⟨F.hK,F.calm,F.un,F.blt,F.val,F.fn,λ_ _ _ _ _ _ _ h=>(F.noF h).elim,λ_ _ _ _ _ _ _ h=>(F.noR h).elim,F.cls,F.cx,F.ew,F.wt⟩
theorem Cok.nox{c:TC}(C:Cok c X):Cok c X.nox:=⟨C.sc,C.N,C.nd,C.kind,C.fn,C.stk⟩
end
theorem BV{scope:Scope}{x:Str}(h:isFree scope x=true):(x,NameKind.free)∈scope.names:=by
 obtain⟨⟨n,k⟩,m,e⟩:=QT.mp h;rw[Zv] at e;obtain⟨e1,e2⟩:=e;have e1:n=x:=Zl e1;have e2:k=.free:=Zl e2;subst e1; subst e2; exact m
theorem tG{c:TC}{X:Cx}{scope:Scope}(C:Cok c X)(h:nD c scope=true):eT X scope (inComp c scope).N (own scope).length /\
  ∀cl fp s3 H3,Cok (inComp c scope) (aS X scope cl (inComp c scope).N fp s3 H3):=by
 unfold nD at h;simp only[Zv] at h;obtain⟨⟨⟨⟨⟨h1,h2⟩,h3⟩,h4⟩,h5⟩,h6⟩:=h;rw[Z9] at h1 h4 h6;have hrel:relabel scope X.env=ju scope c.sc:=by rw[CH,C.sc]
 refine⟨⟨λy hy hf=>?_,j4 h2,Zl h3,λy hy hl=>?_,?_,λi x hi hx hv=>?_⟩,λcl fp s3 H3=>⟨hrel,rfl,j4 h5,?_,λ_ h=>h,λz=>by cases z⟩⟩
 ·have:=h1 y hy;rw[Bool.or_eq_true] at this;rcases this with z|z
  ·rw[hf] at z; simp at z
  ·show X.env.scope.names.lookup y.1=_\/X.env.scope.names.lookup y.1=_;rw[C.sc]
   cases q:c.sc.names.lookup y.1 with
   | none=>rw[q] at z; cases z
   | some k=>rw[q] at z; cases k<;>first|exact .inl rfl|exact .inr rfl|cases z
 ·have:=h4 y hy;rw[Bool.or_eq_true] at this;rcases this with z|z
  ·rw[hl] at z; simp at z
  ·exact Zl z
 ·show(c.N.map (gm scope)++own scope).length=_;rw[Zn,Zb,C.N]
 ·have hx:(c.N.map (gm scope)++own scope)[i]?=some x:=hx;have hi':i<c.N.length:=by rw[<- C.N]; exact hi
  rw[ZC (by rw[Zb]; exact hi'),ZL,Ze hi'] at hx;have hx:gm scope c.N[i]=x:=Z1 hx;have hm:=h6 c.N[i] (Xj hi');rw[hrel] at hv ⊢;unfold gm at hx
  by_cases hf:isFree scope c.N[i]=true
  ·rw[Zf hf] at hx hm;subst hx;refine⟨by rw[C.N]; exact Ze hi',BV hf,λz=>?_⟩;rw[z] at hm; simp at hm
  ·rw[Zh hf] at hx hm;subst hx;rw[zu hv] at hm; simp at hm
 ·exact Zl h3
end EV

namespace EV
open PySem PySem.Spec PyProof.Rows L2
theorem dj{n:Nat}{c:TC}{a:W6}{a':E}(h:trE n c a=some a'):∀es env,starEach (a::es) env=(false,eval a env)::starEach es env:=by
 cases n with
 | zero=>cases h
 | succ n=>cases a<;>first|(intro _ _; rfl)|cases h
theorem dc{f:PySem.Expr->Option E}{e:W6}{r:W7}{es:E}(h:b5 f (e::r)=some es):∃a b,f e=some a/\b5 f r=some b/\es=.cs a b:=by
 unfold b5 at h
 cases q:f e with
 | none=>rw[q] at h; cases h
 | some a =>
  rw[q] at h
  cases q2:b5 f r with
  | none=>rw[q2] at h; cases h
  | some b=>rw[q2] at h; cases h; exact⟨a,b,rfl,rfl,rfl⟩
theorem jf{n:Nat}{c:TC}:∀{es:W7} {es':E},b5 (trE n c) es=some es'->∀env pos,(backTo pos (starEach es env)).any (·.1)=false/\(backTo pos (starEach es env)).all (λx=>!x.1)=true
 | [],_,_,_,_=>⟨rfl,rfl⟩
 | e::r,_,h,env,pos=>by
  obtain⟨a,b,h1,h2,_⟩:=dc h;rw[dj h1];obtain⟨z1,z2⟩:=jf h2 env pos;constructor
  ·show(List.map _ ((false,eval e env)::starEach r env)).any _=false;rw[ZI,X8];have:(List.map (λx:Bool×Sem Value=>(x.1,if x.1=true then do let v <- x.2; standAt pos; pure v else x.2)) (starEach r env)).any (·.1)=false:=z1;simpa using this
  ·show(List.map _ ((false,eval e env)::starEach r env)).all _=true;rw[ZI,WG];have:(List.map (λx:Bool×Sem Value=>(x.1,if x.1=true then do let v <- x.2; standAt pos; pure v else x.2)) (starEach r env)).all (λx=>!x.1)=true:=z2;simpa using this
section
variable{Γ:Gx}{W:XW->Prop}{CX:CXT}{EW:XW->XK}{gt:List (Str×GE)}{cf:Str->List D->M D}{sub:Sub}{X:Cx}{xw:XW}
theorem zY(hw:W xw){ps:W4}{m:Sg->M (List D)}{i:Str}(hb:∀ds S,ds.length≠ps.length->cf i ds S=.bad){σ:L2.St}{H:Hp}{Q:VK}(h:tM Γ xw (λσ=>m σ>>=cf i) σ H Q) :
  o9 (spF Γ W EW (cf i) ps.length) [] (EW xw) (tMA Γ xw m) σ H Q:=by
 obtain⟨σd,ι,S,he,hs,ho⟩:=h;refine⟨σd,ι,S,he,hs,ho.bind.mono λds S' ι' H' _ _ ⟨s',e',o'⟩ vs rs=>?_⟩;show spF Γ W EW (cf i) ps.length (vs++[]) H' Q (EW xw);rw[XA];refine⟨?_,xw,hw,rfl,ι',S',ds,s',rs,o'⟩
 by_cases hl:ds.length=ps.length
 ·rw[<- rs.length]; exact hl
 ·rw[hb ds S' hl] at o'; exact o'.elim
theorem Jc(F:Fam Γ W CX EW gt cf X xw){x:Str}(hx:gt.lookup x=some .fn)(hg:Gl X x)(hdb:(x==("__debug__" : Str))=false){a:W6}{es:W7}{m:Sg->M (List D)}{p pos:Pos}
  (ha:PA X (a::es) (tMA Γ xw m)) (he:starEach (a::es) X.env=(false,eval a X.env)::starEach es X.env) (hpl:(backTo pos (starEach es X.env)).any (·.1)=false) :
  PE X (.Call (.Name x p) (a::es) [] pos) (tM Γ xw λσ=>m σ>>=cf x):=by
 obtain⟨k,f,fd,ps,hf,hr,hm,hk,hb,hl⟩:=F.fn x hx;exact PE.imp (GJ hf hr hg hm hk hb .nil F.pass ha hdb he hpl) λσ H Q h=>zY F.ok hl h
theorem Ce(F:Fam Γ W CX EW gt cf X xw){x:Str}(hx:gt.lookup x=some .fn)(hg:Gl X x)(hdb:(x==("__debug__" : Str))=false){p pos:Pos} :
  PE X (.Call (.Name x p) [] [] pos) (tM Γ xw λ_=>cf x []):=by
 obtain⟨k,f,fd,ps,hf,hr,hm,hk,hb,hl⟩:=F.fn x hx;refine PE.imp (xK hf hr hg hm hk hb .nil F.pass hdb) λσ H Q h=>?_
 obtain⟨σd,ι,S,he,hs,ho⟩:=h;have ho:Out Γ xw ι H (cf x [] S) λd x ι' H'=>∀(v:V),Rep Γ ι' H' d v->Q v H':=ho
 refine⟨?_,xw,F.ok,rfl,ι,S,[],hs,.nil,ho⟩
 by_cases hz:([]:List D).length=ps.length
 ·exact hz
 ·rw[hl [] S hz] at ho; exact ho.elim
theorem ua(F:Fam Γ W CX EW gt cf X xw){x:Str}(h:gt.lookup x=none)(hm:x∈dS):X.mg x=none:=F.blt x hm h
theorem zk(F:Fam Γ W CX EW gt cf X xw){x:Str}{b:Bi}(hb:oz x=some b)(hn:gt.lookup x=none)(hg:Gl X x){a:W6}{es:W7}{m:Sg->M (List D)}{p pos:Pos}
  (ha:PA X (a::es) (tMA Γ xw m)) (he:starEach (a::es) X.env=(false,eval a X.env)::starEach es X.env) (hpl:(backTo pos (starEach es X.env)).any (·.1)=false) :
  PE X (.Call (.Name x p) (a::es) [] pos) (tM Γ xw λσ=>m σ>>=biD sub b):=by
 have hm:x∈dS->X.mg x=none:=ua F hn;unfold oz at hb
 by_cases e:x = "len"
 ·subst e; rw[Zf rfl] at hb; cases hb;exact iC (BA F.hK) hg (hm (by decide +kernel)) PySem.boot_len ha (by decide +kernel) (by decide +kernel) he hpl
 rw[Zh e] at hb; clear e
 by_cases e:x = "all"
 ·subst e; rw[Zf rfl] at hb; cases hb;exact iC (zd F.hK F.calm) hg (hm (by decide +kernel)) boot_all ha (by decide +kernel) (by decide +kernel) he hpl
 rw[Zh e] at hb; clear e
 by_cases e:x = "sum"
 ·subst e; rw[Zf rfl] at hb; cases hb;exact iC (yc F.hK F.calm) hg (hm (by decide +kernel)) boot_sum ha (by decide +kernel) (by decide +kernel) he hpl
 rw[Zh e] at hb; clear e
 by_cases e:x = "max"
 ·subst e; rw[Zf rfl] at hb; cases hb;exact iC (Eh F.hK F.calm) hg (hm (by decide +kernel)) boot_max ha (by decide +kernel) (by decide +kernel) he hpl
 rw[Zh e] at hb; clear e
 by_cases e:x = "sorted"
 ·subst e; rw[Zf rfl] at hb; cases hb;exact iC (Hj F.hK) hg (hm (by decide +kernel)) boot_sorted ha (by decide +kernel) (by decide +kernel) he hpl
 rw[Zh e] at hb; clear e
 by_cases e:x = "tuple"
 ·subst e; rw[Zf rfl] at hb; cases hb;exact zB (E1 F.hK) hg (hm (by decide +kernel)) PyProof.Rows.boot_tuple ha (by decide +kernel) (by decide +kernel) he hpl
 rw[Zh e] at hb; clear e;cases hb
theorem xX(F:Fam Γ W CX EW gt cf X xw){y:Str}{t:Ty}(hb:oO y=some t)(hn:gt.lookup y=none):∃T,t.name=some T/\bootBuiltins y=some (.type T)/\X.mg y=none/\y≠"__name__"/\(y==("__debug__" : Str))=false:=by
 have hm:y∈dS->X.mg y=none:=ua F hn;unfold oO at hb
 by_cases e:y = "int"
 ·subst e; rw[Zf rfl] at hb; cases hb;exact⟨_,rfl,PyProof.Rows.boot_int,hm (by decide +kernel),by decide +kernel,by decide +kernel⟩
 rw[Zh e] at hb; clear e
 by_cases e:y = "bool"
 ·subst e; rw[Zf rfl] at hb; cases hb;exact⟨_,rfl,PyProof.Rows.boot_bool,hm (by decide +kernel),by decide +kernel,by decide +kernel⟩
 rw[Zh e] at hb; clear e
 by_cases e:y = "str"
 ·subst e; rw[Zf rfl] at hb; cases hb;exact⟨_,rfl,PyProof.Rows.boot_str,hm (by decide +kernel),by decide +kernel,by decide +kernel⟩
 rw[Zh e] at hb; clear e
 by_cases e:y = "list"
 ·subst e; rw[Zf rfl] at hb; cases hb;exact⟨_,rfl,PyProof.Rows.boot_list,hm (by decide +kernel),by decide +kernel,by decide +kernel⟩
 rw[Zh e] at hb; clear e
 by_cases e:y = "tuple"
 ·subst e; rw[Zf rfl] at hb; cases hb;exact⟨_,rfl,PyProof.Rows.boot_tuple,hm (by decide +kernel),by decide +kernel,by decide +kernel⟩
 rw[Zh e] at hb; clear e
 by_cases e:y = "dict"
 ·subst e; rw[Zf rfl] at hb; cases hb;exact⟨_,rfl,PyProof.Rows.boot_dict,hm (by decide +kernel),by decide +kernel,by decide +kernel⟩
 rw[Zh e] at hb; cases hb
theorem yN{o:W6}{name:Str}{env:Env}(hc0:jP o=true):attributeBase o name env (eval o env)=eval o env:=by
 unfold attributeBase
 cases o with
 | Call f as ks p =>
  cases as with
  | cons _ _=>cases f<;>rfl
  | nil =>
   cases ks with
   | nil=>cases hc0
   | cons _ _=>cases f<;>rfl
 | _=>rfl
theorem EL(F:Fam Γ W CX EW gt cf X xw){name:Str}{me:Me}(hb:ni name=some me){o a:W6}{es:W7}{apos cpos:Pos}{mo:Sg->M D}{m:Sg->M (List D)}
  (ho:PE X o (tM Γ xw mo)) (ha:PA X (a::es) (tMA Γ xw m)) (hc0:jP o=true) (hlen:(a::es).length<20) (hall:(backTo cpos (starEach (a::es) X.env)).all (λx=>!x.1)=true)
  (hline:(apos.endLine==cpos.line)=true) (hs:starEach (a::es) X.env=(false,eval a X.env)::starEach es X.env) (hplain:(backTo cpos (starEach es X.env)).any (·.1)=false) :
  PE X (.Call (.Attribute o name apos) (a::es) [] cpos) (tM Γ xw λσ=>mo σ>>=λx=>lu x (m σ>>=λds=>meD me x ds)):=by
 have hbase:attributeBase o name X.env (eval o X.env)=eval o X.env:=by
  unfold attributeBase
  cases o with
  | Call f as ks p =>
   cases as with
   | cons _ _=>cases f<;>rfl
   | nil =>
    cases ks with
    | nil=>cases hc0
    | cons _ _=>cases f<;>rfl
  | _=>rfl
 have hfew:((backTo cpos (starEach (a::es) X.env)).all (λx=>!x.1)&&(backToKw cpos (keywordEach [] X.env)).all (λx=>x.1.isSome)&&decide ((a::es).length+([]:List Keyword).length+(if([]:List Keyword).isEmpty then 0 else 1)<30))=true:=by
  rw[hall];show(true&&true&&decide ((a::es).length+0+0<30))=true;rw[Zj (show(a::es).length+0+0<30 by omega)];rfl
 unfold ni at hb
 by_cases e:name = "append"
 ·subst e; rw[Zf rfl] at hb; cases hb;exact wL F.hK Wb PySem.F.slot_list_append PySem.F.type_list_append Bw ho ha hbase hfew hline hs hplain
 rw[Zh e] at hb; clear e
 by_cases e:name = "extend"
 ·subst e; rw[Zf rfl] at hb; cases hb;exact wL F.hK Wb PySem.F.slot_list_extend PySem.F.type_list_extend Be ho ha hbase hfew hline hs hplain
 rw[Zh e] at hb; cases hb
end
end EV

namespace EV
open PySem PySem.Spec PyProof.Rows L2
section
variable(Γ:Gx)(sub:Sub)(cf:Str->List D->M D)
structure ClE(X:Cx)(xw:XW)(e:W6)(e':E):Prop where
 pe:PE X e (tM Γ xw (ev sub cf e'))
 pt:PT X e (tMT Γ xw (evT sub cf e'))
 pw:(∃op vs p,e=.BoolOp op vs p)->PW X e (tMT Γ xw (evT sub cf e'))
end
section
variable{Γ:Gx}{W:XW->Prop}{CX:CXT}{EW:XW->XK}{gt:List (Str×GE)}{cf:Str->List D->M D}{sub:Sub}{X:Cx}{xw:XW}
theorem tQ{e:W6}:PT X e (tMT Γ xw λ_=>bad):=λ_ _ _ _ _ _ h=>by
 obtain⟨_,_,_,_,_,ho⟩:=h;exact ho.elim
theorem noBool{e:W6}(h:∀op vs p,e≠.BoolOp op vs p){P:Prop}:(∃op vs p,e=.BoolOp op vs p)->P:=λ⟨op,vs,p,q⟩=>(h op vs p q).elim
theorem bC{e:W6}{e':E}(hK:Γ.K=X.K)(h:PE X e (tM Γ xw (ev sub cf e')))(he:∀whole,isTrue e X.env whole=(do let v <- whole; standAt e.pos; holding [v] (truthy v)))
  (hb:(evT sub cf e'=λσ=>ev sub cf e' σ>>=truth)\/evT sub cf e'=λ_=>bad) (hn:∀op vs p,e≠.BoolOp op vs p):ClE Γ sub cf X xw e e':=by
 refine⟨h,?_,noBool hn⟩;rcases hb with q|q
 ·rw[q]; exact HX hK h he
 ·rw[q]; exact tQ
theorem En{c:TC}{x:Str}{p:Pos}{e':E}(F:Fam Γ W CX EW c.gt cf X xw)(C:Cok c X)(h:mY c x=some e'):ClE Γ sub cf X xw (.Name x p) e':=by
 unfold mY at h
 by_cases h1:fu x=true
 ·rw[Zf h1] at h;obtain⟨d1,d2⟩:=uM h1
  by_cases h2:fF c.sc x=true
  ·rw[Zf h2] at h
   cases q:idx c.N x with
   | none=>rw[q] at h; cases h
   | some i =>
    rw[q] at h; cases h;exact bC F.hK (yg (by rw[C.N]; exact jv q) (by rw[C.sc]; exact AF h2) d1 d2) (λ_=>rfl) (.inl rfl) (λ_ _ _ z=>nomatch z)
  ·rw[Zh h2] at h
   by_cases h3:glB c x=true
   ·rw[Zf h3] at h
    cases q:c.gt.lookup x with
    | none=>rw[q] at h; cases h
    | some g =>
     rw[q] at h
     cases g with
     | val d =>
      cases h;obtain⟨u,v,hm,r,hv⟩:=F.val x d q;exact bC F.hK (gA (xQ (C.gl h3) hm r d1) hv) (λ_=>rfl) (.inl rfl) (λ_ _ _ z=>nomatch z)
     | _=>cases h
   ·rw[Zh h3] at h; cases h
 ·rw[Zh h1] at h; cases h
theorem HF{k:Const}{j:Nat}{p:Pos}{e':E}(hK:Γ.K=X.K)(h:vO k=some e'):ClE Γ sub cf X xw (.Constant k j p) e':=by
 cases k<;>first|(cases h; done)|skip
 ·cases h; exact bC hK (gA GS λ_ _=>.non) (λ_=>rfl) (.inl rfl) (λ_ _ _ z=>nomatch z)
 ·cases h; exact bC hK (gA GR λ_ _=>.bl _) (λ_=>rfl) (.inl rfl) (λ_ _ _ z=>nomatch z)
 ·cases h; exact bC hK (gA rJ λ_ _=>.int _) (λ_=>rfl) (.inl rfl) (λ_ _ _ z=>nomatch z)
 ·cases h; exact bC hK (gA Gw λ_ _=>.str _) (λ_=>rfl) (.inl rfl) (λ_ _ _ z=>nomatch z)
theorem B9(hK:Γ.K=X.K){op:Operator}{o:Op2}(h:op2 op=some o):OpR X (binaryOp op) (aV Γ xw (opD o)):=by
 cases op<;>cases h
 ·exact Bu hK
 ·exact Gb
 ·exact GB hK
 ·exact B0
 ·exact CI
 ·exact IF
theorem jr(F:Fam Γ W CX EW gt cf X xw){op:CmpOp}{o:Cm}(h:cmO op=some o):OpR X (compareOp op) (aV Γ xw (cmD o)):=by
 cases op<;>cases h
 ·exact s_eq F.hK F.un
 ·exact FE F.hK F.un
 ·exact xS
 ·exact CS
 ·exact DA
 ·exact Cf
 ·exact Jl F.hK F.un
 ·exact GX F.hK F.un
theorem s_(F:Fam Γ W CX EW gt cf X xw){op:CmpOp}{b:W6}{o:Cm}(h:nq op b=some o):OpR X (compareOp op) (aV Γ xw (cmD o)):=by
 unfold nq at h;split at h
 ·have hu:=F.un;cases op<;>cases h
  ·exact Hw (by omega)
  ·exact Hi (by omega)
 ·exact jr F h
theorem ku{o:Cm}:∀(x y:D) (S:af) (d:D) (S':af),cmD o x y S=.ok d S'->∃k,d=.bl k:=by
 intro x y S d S' h
 have intc:∀p:Int->Int->Bool,gx p x y S=.ok d S'->∃k,d=.bl k:=λp h=>by
  cases x<;>first|(cases h; done)|skip;cases y<;>first|(cases h; done)|skip;cases h; exact⟨_,rfl⟩
 have inc:∀neg,inM neg x y S=.ok d S'->∃k,d=.bl k:=λneg h=>by
  unfold inM at h;rcases iY y S with⟨ds,e⟩|e
  ·rw[aj e] at h;unfold inA at h
   cases q:inL S x ds with
   | none=>rw[q] at h; cases h
   | some k=>rw[q] at h; cases h; exact⟨_,rfl⟩
  ·rw[aZ e] at h; cases h
 cases o with
 | lt=>exact intc _ h
 | le=>exact intc _ h
 | gt=>exact intc _ h
 | ge=>exact intc _ h
 | eq =>
  have h:(eqM x y>>=λb=>pure (.bl b)) S=.ok d S':=h;rw[c_] at h;unfold eqM at h
  cases q:eqD deep S x y with
  | none=>rw[q] at h; cases h
  | some k=>rw[q] at h; cases h; exact⟨_,rfl⟩
 | ne =>
  have h:guard (eF x y) (eqM x y>>=λb=>pure (.bl (!b))) S=.ok d S':=h
  cases q:eF x y with
  | false=>rw[q] at h; cases h
  | true =>
   rw[q] at h;have h:(eqM x y>>=λb=>pure (.bl (!b))) S=.ok d S':=h;rw[c_] at h;unfold eqM at h
   cases q:eqD deep S x y with
   | none=>rw[q] at h; cases h
   | some k=>rw[q] at h; cases h; exact⟨_,rfl⟩
 | isin=>exact inc _ h
 | bK=>exact inc _ h
 | nisB =>
  cases x<;>first|(cases h; done)|skip;cases y<;>first|(cases h; done)|skip;cases h; exact⟨_,rfl⟩
 | din=>exact rm h
 | dnin=>exact rm h
theorem fK{c:TC}{n:Nat}(F:Fam Γ W CX EW c.gt cf X xw)(C:Cok c X)(ih:∀e e',trE n c e=some e'->ClE Γ sub cf X xw e e'):∀{es:W7} {es':E},b5 (trE n c) es=some es'->PA X es (tMA Γ xw (evs sub cf es'))
 | [],_,h=>by cases h; exact IS
 | e::r,_,h=>by
  obtain⟨a,b,h1,h2,rfl⟩:=dc h;exact GQ (ih e a h1).pe (fK F C ih h2) (dj h1 r X.env)
theorem tw{c:TC}{n:Nat}(ih:∀e e',trE n c e=some e'->ClE Γ sub cf X xw e e'){o:Option PySem.Expr}{e':E}(h:trO (trE n c) o=some e'):PO X o (tMO Γ xw λσ=>if e'.bq=true then pure none else ev sub cf e' σ>>=fN):=by
 cases o with
 | none=>cases h; exact xV
 | some e =>
  have h:(match trE n c e with|some .nl=>none|o=>o)=some e':=h
  cases q:trE n c e with
  | none=>rw[q] at h; cases h
  | some f =>
   rw[q] at h
   have hf:f=e'/\f.bq=false:=by
    cases f<;>first|(cases h; done)|(cases h; exact⟨rfl,rfl⟩)
   obtain⟨rfl,hn⟩:=hf;rw[hn];simp only[Zu,ZM];exact F8 (ih e f q).pe
theorem jN{c:TC}(hK:Γ.K=X.K)(hc:X.calm=true)(C:Cok c X){tg:W6}{t:Tg}(h:iM c tg=some t):PG X tg (tMG Γ t):=by
 have names:∀(es:W7) (is:List Nat),fH c es=some is->k7 X es is:=by
  intro es
  induction es with
  | nil=>intro is h; cases h; exact .nil
  | cons e r ih =>
   intro is h
   cases e with
   | Name x p =>
    unfold fH at h
    by_cases hl:dY c x=true
    ·rw[Zf hl] at h
     cases q:idx c.N x with
     | none=>rw[q] at h; cases h
     | some i =>
      rw[q] at h
      cases q2:fH c r with
      | none=>rw[q2] at h; cases h
      | some js =>
       rw[q2] at h; cases h;exact .cons ⟨x,p,rfl,by rw[C.N]; exact jv q,(C.loc hl).1,(C.loc hl).2⟩ (ih js q2)
    ·rw[Zh hl] at h; cases h
   | _=>cases h
 cases tg with
 | Name x p =>
  have h:(if dY c x=true then(idx c.N x).map Tg.one else none)=some t:=h
  by_cases hl:dY c x=true
  ·rw[Zf hl] at h
   cases q:idx c.N x with
   | none=>rw[q] at h; cases h
   | some i =>
    rw[q] at h; cases h;exact Ib C.nd (by rw[C.N]; exact jv q) (C.loc hl).1 (C.loc hl).2
  ·rw[Zh hl] at h; cases h
 | Tuple es k p =>
  have h:(fH c es).map Tg.many=some t:=h
  cases q:fH c es with
  | none=>rw[q] at h; cases h
  | some is =>
   rw[q] at h; cases h;exact JD hK hc C.nd (names es is q)
 | _=>cases h
theorem xR{e:W6}(h:nv e=true)(env:Env):∀x,foldedSetIterable e env x=pure x:=by
 intro x;cases e<;>first|rfl|cases h
theorem gy{c:TC}(C:Cok c X){x:Str}(h:d9 c x=true):Gl X x/\c.gt.lookup x=none:=by
 unfold d9 at h;rw[Zv] at h;exact⟨C.gl h.1,by simpa using h.2⟩
theorem sC{f:PySem.Expr->Option E}:∀{es:W7} {es':E},b5 f es=some es'->∀(σ:Sg) (S:af) (ds:Ya) (S':af),evs sub cf es' σ S=.ok ds S'->ds.length=es.length
 | [],_,h,σ,S,ds,S',q=>by
  cases h;have q:(Res.ok [] S:Res (List D))=.ok ds S':=q;cases q; rfl
 | e::r,_,h,σ,S,ds,S',q=>by
  obtain⟨a,b,h1,h2,rfl⟩:=dc h;have q:(ev sub cf a σ>>=λx=>evs sub cf b σ>>=λxs=>pure (x::xs)) S=.ok ds S':=q
  cases q1:ev sub cf a σ S with
  | ok d S1 =>
   rw[aj q1] at q
   cases q2:evs sub cf b σ S1 with
   | ok xs S2 =>
    rw[aj q2] at q;cases q;show xs.length+1=r.length+1;rw[sC h2 σ S1 xs _ q2]
   | exc k S2=>rw[cM q2] at q; cases q
   | bad=>rw[aZ q2] at q; cases q
  | exc k S2=>rw[cM q1] at q; cases q
  | bad=>rw[aZ q1] at q; cases q
theorem m9{c:TC}{n:Nat}(F:Fam Γ W CX EW c.gt cf X xw)(C:Cok c X)(ih:∀e e',trE n c e=some e'->ClE Γ sub cf X xw e e'){tg e:W6}{e':E}(h:trI (trE n c) c tg e=some e') :
  PI X tg e (tMI Γ xw (evI sub cf e'))/\∀x,foldedSetIterable e X.env x=pure x:=by
 unfold trI at h
 by_cases hs:nv e=true
 ·rw[Zf hs] at h;refine⟨?_,xR hs X.env⟩
  have seq:(trE n c e).map E.iSeq=some e'->PI X tg e (tMI Γ xw (evI sub cf e')):=λh=>by
   cases q:trE n c e with
   | none=>rw[q] at h; cases h
   | some a=>rw[q] at h; cases h; exact EI F.hK (ih e a q).pe
  split at h
  ·rename_i x p args pos
   by_cases hr:mF c x=true
   ·rw[Zf hr] at h;unfold mF at hr;rw[Zv] at hr;have hx:x = "range":=Zl hr.2;subst hx;obtain⟨hg,hn⟩:=gy C hr.1;have hm:X.mg "range" = none:=F.blt _ (by decide +kernel) hn
    by_cases hf:few args=true
    ·rw[Zf hf] at h
     cases q:b5 (trE n c) args with
     | none=>rw[q] at h; cases h
     | some es =>
      rw[q] at h; cases h;have ha:=fK F C ih q;have hl:=sC (sub:=sub) (cf:=cf) q
      match args,q,ha,hl,hf with
      | [],_,_,_,hf=>exact absurd hf (by decide)
      | [a],q,ha,hl,_ =>
       obtain⟨a',b',q1,q2,_⟩:=dc q;exact JK hg hm ha (dj q1 [] X.env) hl
      | _::_::_,_,_,_,hf =>
       have:=Zl hf;simp at this
    ·rw[Zh hf] at h; cases h
   ·rw[Zh hr] at h
    by_cases he:lQ c x=true
    ·rw[Zf he] at h;unfold lQ at he;rw[Zv] at he;have hx:x = "enumerate":=Zl he.2;subst hx;obtain⟨hg,hn⟩:=gy C he.1;have hm:X.mg "enumerate" = none:=F.blt _ (by decide +kernel) hn
     cases tg with
     | Tuple es k tp =>
      match args,h with
      | [a],h =>
       have h:(trE n c a).map E.iEnum=some e':=h
       cases q:trE n c a with
       | none=>rw[q] at h; cases h
       | some a'=>rw[q] at h; cases h; exact Af F.hK hg hm boot_enumerate (ih a a' q).pe (dj q [] X.env)
      | [],h=>cases h
      | _::_::_,h=>cases h
     | _=>cases h
    ·rw[Zh he] at h;exact seq h
  ·split at h
   ·cases q:trE n c e with
    | none=>rw[q] at h; cases h
    | some a=>rw[q] at h; cases h; exact Ah (ih e a q).pe
   ·exact seq h
 ·rw[Zh hs] at h; cases h
end
end EV

namespace EV
open PySem PySem.Spec PyProof.Rows L2
section
variable{Γ:Gx}{W:XW->Prop}{CX:CXT}{EW:XW->XK}{cf:Str->List D->M D}{sub:Sub}
theorem C9{α:Type}{m m':M α}(h:∀S,m S=m' S):m=m':=funext h
theorem gO(m:M D)(f:List D->M D):((m>>=λx=>(pure []:M (List D))>>=λxs=>pure (x::xs))>>=f)=(m>>=λx=>f [x]):=by
 refine C9 λS=>?_
 rw[c_,c_,c_];cases m S<;>rfl
theorem cX{α β:Type}{o:Option α}{f:α->β}{d:β}(h:o.map f=some d):∃a,o=some a/\d=f a:=by
 cases o with
 | none=>cases h
 | some a=>cases h; exact⟨a,rfl,rfl⟩
theorem wR{t:Tg}{n:Nat}(h:t.uv n=true):∀j,j<n->t.has j=false:=by
 intro j hj
 cases t with
 | one i =>
  have:n<=i:=Zl h;show(i==j)=false;simp; omega
 | many is =>
  show is.contains j=false;have h:(is.all λi=>decide (n<=i))=true:=h;rw[Z9] at h
  cases q:is.contains j with
  | false=>rfl
  | true =>
   have hm:j∈is:=QQ.mp q;have:=Zl (h j hm);omega
theorem A7{o:W6}(h:gU o=true):∃x p,o=.Name x p:=by
 cases o with
 | Name x p=>exact⟨x,p,rfl⟩
 | _=>cases h
theorem z9{c:TC}{n:Nat}{X:Cx}{xw:XW}(F:Fam Γ W CX EW c.gt cf X xw)(C:Cok c X)(ih:∀e e',trE n c e=some e'->ClE Γ sub cf X xw e e'){x:Str}{args ra:W7}{b:Bi}{es:E}{p pos:Pos}(hn:c.gt.lookup x=none)(hg:Gl X x)
  (h:n5 c x args=some (b,ra)) (h1:b5 (trE n c) ra=some es):PE X (.Call (.Name x p) args [] pos) (tM Γ xw (ev sub cf (.bi b es))):=by
 unfold n5 at h;split at h
 ·rename_i r p1 ra' p2;split at h
  ·rename_i hx;simp only[Zv] at hx;obtain⟨⟨hx1,hx2⟩,hx3⟩:=hx;have hx:x = "sorted":=Zl hx1;subst hx;unfold jL at hx2;rw[Zv] at hx2;have hr:r = "set":=Zl hx2.2;subst hr;obtain⟨hgr,hnr⟩:=gy C hx2.1;cases h
   match ra,h1,hx3 with
   | [a],h1,_ =>
    obtain⟨a',b',q1,q2,q3⟩:=dc h1;cases q2;cases q3
    have key:(λσ=>ev sub cf (.bi .sortedSet (.cs a' .nl)) σ)=λσ=>ev sub cf a' σ>>=λd=>bi1 sub .sortedSet d:=by
     funext σ;exact gO (ev sub cf a' σ) (biD sub .sortedSet)
    show PE X _ (tM Γ xw (λσ=>ev sub cf (.bi .sortedSet (.cs a' .nl)) σ));rw[key];have hu:=F.un;exact Jr F.hK F.calm (by omega) hg (F.blt _ (by decide +kernel) hn) boot_sorted hgr (F.blt _ (by decide +kernel) hnr) boot_set (ih a a' q1).pe (by decide +kernel) (by decide +kernel) (by decide +kernel) (by decide +kernel) (dj q1 [] X.env)
  ·split at h
   ·rename_i hx;simp only[Zv] at hx;obtain⟨⟨hx1,hx2⟩,hx3⟩:=hx;have hx:x = "len":=Zl hx1;subst hx;unfold jL at hx2;rw[Zv] at hx2;have hr:r = "set":=Zl hx2.2;subst hr;obtain⟨hgr,hnr⟩:=gy C hx2.1;cases h
    match ra,h1,hx3 with
    | [a],h1,_ =>
     obtain⟨a',b',q1,q2,q3⟩:=dc h1;cases q2;cases q3
     have key:(λσ=>ev sub cf (.bi .lenS (.cs a' .nl)) σ)=λσ=>ev sub cf a' σ>>=λd=>bi1 sub .lenS d:=by
      funext σ;exact gO (ev sub cf a' σ) (biD sub .lenS)
     show PE X _ (tM Γ xw (λσ=>ev sub cf (.bi .lenS (.cs a' .nl)) σ));rw[key];exact BD F.hK F.calm hg (F.blt _ (by decide +kernel) hn) PySem.boot_len hgr (F.blt _ (by decide +kernel) hnr) boot_set (ih a a' q1).pe (by decide +kernel) (by decide +kernel) (by decide +kernel) (by decide +kernel) (dj q1 [] X.env)
   ·split at h
    ·rename_i hx;simp only[Zv] at hx;obtain⟨⟨hx1,hx2⟩,hx3⟩:=hx;have hx:x = "len":=Zl hx1;subst hx;unfold sU at hx2;rw[Zv] at hx2;have hr:r = "dict":=Zl hx2.2;subst hr;obtain⟨hgr,hnr⟩:=gy C hx2.1;cases h
     match ra,h1,hx3 with
     | [a],h1,_ =>
      obtain⟨a',b',q1,q2,q3⟩:=dc h1;cases q2;cases q3
      have key:(λσ=>ev sub cf (.bi .lenD (.cs a' .nl)) σ)=λσ=>ev sub cf a' σ>>=λd=>bi1 sub .lenD d:=by
       funext σ;exact gO (ev sub cf a' σ) (biD sub .lenD)
      show PE X _ (tM Γ xw (λσ=>ev sub cf (.bi .lenD (.cs a' .nl)) σ));rw[key];exact AA F.hK F.calm hg (F.blt _ (by decide +kernel) hn) PySem.boot_len hgr (F.blt _ (by decide +kernel) hnr) boot_dict (ih a a' q1).pe (by decide +kernel) (by decide +kernel) (by decide +kernel) (by decide +kernel) (dj q1 [] X.env)
    ·cases h
 ·rename_i o name apos cpos;split at h
  ·rename_i hx;simp only[Zv] at hx;obtain⟨⟨⟨hx1,hx2⟩,hx3⟩,hx4⟩:=hx;have hx:x = "list":=Zl hx1;subst hx;have hy:name = "values":=Zl hx3;subst hy;cases h;obtain⟨a',b',q1,q2,q3⟩:=dc h1;cases q2;cases q3
   have key:(λσ=>ev sub cf (.bi .vals (.cs a' .nl)) σ)=λσ=>ev sub cf a' σ>>=λd=>bi1 sub .vals d:=by
    funext σ;exact gO (ev sub cf a' σ) (biD sub .vals)
   show PE X _ (tM Γ xw (λσ=>ev sub cf (.bi .vals (.cs a' .nl)) σ));rw[key];exact Hr F.calm hg (F.blt _ (by decide +kernel) hn) PyProof.Rows.boot_list (ih o a' q1).pe (A7 hx2) hx4 (by decide +kernel) (by decide +kernel)
  ·cases h
 ·cases h
theorem yw{X:Cx}{xw:XW}{st:W6}(h:xx st=true):PE X st (tM Γ xw λ_=>pure (.int (-1))):=by
 cases st with
 | UnaryOp op e p =>
  cases op with
  | USub =>
   cases e with
   | Constant k j q =>
    cases k with
    | int i =>
     have hi:i=1:=Zl h;subst hi;exact PE.imp (uV (gA rJ λ_ _=>.int 1)) λσ H Q h=>h
    | _=>cases h
   | _=>cases h
  | _=>cases h
 | _=>cases h
theorem G0{b:W6}(h:v8 b=true):∃j p,b=.Constant .none j p:=by
 cases b with
 | Constant k j p=>cases k<;>first|exact⟨_,_,rfl⟩|cases h
 | _=>cases h
theorem Ez{b:W6}(h:pq b=true):∃x j p,b=.Constant (.str x) j p:=by
 cases b with
 | Constant k j p=>cases k<;>first|exact⟨_,_,_,rfl⟩|cases h
 | _=>cases h
theorem yj{op:CmpOp}(h:oU op=some true):op=.Is:=by cases op<;>first|rfl|cases h
theorem rA{op:CmpOp}(h:oU op=some false):op=.IsNot:=by cases op<;>first|rfl|cases h
theorem gD:∀(n:Nat) (c:TC) (e:W6) (e':E),trE n c e=some e'->∀(X:Cx) (xw:XW),Fam Γ W CX EW c.gt cf X xw->Cok c X->ClE Γ sub cf X xw e e':=by
 intro n
 induction n with
 | zero=>intro c e e' h; cases h
 | succ n ihn =>
  intro c e e' h X xw F C;have ih:∀e e',trE n c e=some e'->ClE Γ sub cf X xw e e':=λe e' h=>ihn c e e' h X xw F C
  cases e with
  | Name x p=>exact En F C h
  | Constant k j p=>exact HF F.hK h
  | BinOp a op b p =>
   simp only[trE] at h;split at h
   rotate_left
   ·cases h
   rename_i o a' b' h1 h2 h3;cases h;exact bC F.hK (z6 (B9 F.hK h1) (ih a a' h2).pe (ih b b' h3).pe) (λ_=>rfl) (.inr rfl) (λ_ _ _ z=>nomatch z)
  | UnaryOp op a p =>
   cases op with
   | Not =>
    obtain⟨a',h1,rfl⟩:∃a',trE n c a=some a'/\e'=.not a':=by
     cases q:trE n c a with
     | none=>simp only[trE,q] at h; cases h
     | some a'=>simp only[trE,q] at h; cases h; exact⟨a',rfl,rfl⟩
    exact⟨zg (ih a a' h1).pe,Au (ih a a' h1).pt,λ⟨_,_,_,z⟩=>by cases z⟩
   | USub =>
    obtain⟨a',h1,rfl⟩:∃a',trE n c a=some a'/\e'=.neg a':=by
     cases q:trE n c a with
     | none=>simp only[trE,q] at h; cases h
     | some a'=>simp only[trE,q] at h; cases h; exact⟨a',rfl,rfl⟩
    exact bC F.hK (uV (ih a a' h1).pe) (λ_=>rfl) (.inr rfl) (λ_ _ _ z=>nomatch z)
   | _ =>
    exfalso
    cases q:trE n c a with
    | none=>simp only[trE,q] at h; cases h
    | some a'=>simp only[trE,q] at h; cases h
  | BoolOp op vs p =>
   match vs,h with
   | [],h=>cases h
   | [a],h =>
    have h:trE n c a=some e':=h;have ca:=ih a e' h
    cases op with
    | And=>exact⟨λpins s σ H Q I hw=>wm ca.pe pins s σ H Q I hw,(uA ca.pt).pt,λ_=>uA ca.pt⟩
    | Or=>exact⟨λpins s σ H Q I hw=>wm ca.pe pins s σ H Q I hw,(u6 ca.pt).pt,λ_=>u6 ca.pt⟩
   | a::b::r,h =>
    cases op with
    | And =>
     obtain⟨a',b',h1,h2,rfl⟩:∃a' b',trE n c a=some a'/\trE n c (.BoolOp .And (b::r) p)=some b'/\e'=.and a' b':=by
      cases q:trE n c a with
      | none=>simp only[trE,q] at h; cases h
      | some a' =>
       cases q2:trE n c (.BoolOp .And (b::r) p) with
       | none=>simp only[trE,q,q2] at h; cases h
       | some b'=>simp only[trE,q,q2] at h; cases h; exact⟨a',b',rfl,rfl,rfl⟩
     have ca:=ih _ _ h1;have cb:=ih _ _ h2;exact⟨G_ ca.pe cb.pe,(sR ca.pt (cb.pw ⟨_,_,_,rfl⟩)).pt,λ_=>sR ca.pt (cb.pw ⟨_,_,_,rfl⟩)⟩
    | Or =>
     obtain⟨a',b',h1,h2,rfl⟩:∃a' b',trE n c a=some a'/\trE n c (.BoolOp .Or (b::r) p)=some b'/\e'=.or a' b':=by
      cases q:trE n c a with
      | none=>simp only[trE,q] at h; cases h
      | some a' =>
       cases q2:trE n c (.BoolOp .Or (b::r) p) with
       | none=>simp only[trE,q,q2] at h; cases h
       | some b'=>simp only[trE,q,q2] at h; cases h; exact⟨a',b',rfl,rfl,rfl⟩
     have ca:=ih _ _ h1;have cb:=ih _ _ h2;exact⟨zV ca.pe cb.pe,(vK ca.pt (cb.pw ⟨_,_,_,rfl⟩)).pt,λ_=>vK ca.pt (cb.pw ⟨_,_,_,rfl⟩)⟩
  | IfExp t a b p =>
   simp only[trE] at h;split at h
   rotate_left
   ·cases h
   rename_i t' a' b' h1 h2 h3;cases h;refine⟨Av (ih t t' h1).pt (ih a a' h2).pe (ih b b' h3).pe,tQ,λ⟨_,_,_,z⟩=>by cases z⟩
  | Tuple es k p =>
   obtain⟨es',h1,rfl⟩:=cX (f:=E.tup) h;exact bC F.hK (I_ (fK F C ih h1)) (λ_=>rfl) (.inr rfl) (λ_ _ _ z=>nomatch z)
  | Dict ks vs p =>
   simp only[trE] at h;split at h
   ·cases h;exact bC F.hK x8 (λ_=>rfl) (.inr rfl) (λ_ _ _ z=>nomatch z)
   ·cases h
  | List es p =>
   obtain⟨es',h1,rfl⟩:=cX (f:=E.lst) h;exact bC F.hK (EA (fK F C ih h1)) (λ_=>rfl) (.inr rfl) (λ_ _ _ z=>nomatch z)
  | Compare a ops cs p =>
   simp only[trE] at h;split at h
   ·rename_i op b;split at h
    ·rename_i k hk;split at h
     ·rename_i hb;obtain⟨j,p',rfl⟩:=G0 hb;obtain⟨a',h1,rfl⟩:=cX (f:=λx=>bif k then E.isN x else E.notN x) h
      cases k with
      | true =>
       cases yj hk;exact⟨AU (ih a a' h1).pe,jZ (ih a a' h1).pe,λ⟨_,_,_,z⟩=>by cases z⟩
      | false =>
       cases rA hk;exact⟨Fv (ih a a' h1).pe,uF (ih a a' h1).pe,λ⟨_,_,_,z⟩=>by cases z⟩
     ·split at h
      ·rename_i hb2;rw[Zv] at hb2;split at h
       ·rename_i a' b' h1 h2;cases h;have hk2:k=false:=by cases k with|true=>cases hb2.1|false=>rfl
        subst hk2;cases rA hk;exact⟨sO (f:=cmD .nisB) qa (ih a a' h1).pe (ih b b' h2).pe (kK _ (by decide) (by decide)),rQ (ku (o:=.nisB)) qa (ih a a' h1).pe (ih b b' h2).pe (kK _ (by decide) (by decide)),λ⟨_,_,_,z⟩=>by cases z⟩
       ·cases h
      ·cases h
    ·split at h
     ·rename_i o a' b' h1 h2 h3 h4;cases h;exact⟨sO (s_ F h1) (ih a a' h2).pe (ih b b' h3).pe h4,rQ ku (s_ F h1) (ih a a' h2).pe (ih b b' h3).pe h4,λ⟨_,_,_,z⟩=>by cases z⟩
     ·cases h
   ·rename_i op op' b d;split at h
    ·rename_i o o' a' b' d' h1 h2 h3 h4 h5 h6;cases h;exact⟨Dg (jr F h1) (jr F h2) (ih a a' h3).pe (ih b b' h4).pe (ih d d' h5).pe h6,z0 ku ku (jr F h1) (jr F h2) (ih a a' h3).pe (ih b b' h4).pe (ih d d' h5).pe h6,λ⟨_,_,_,z⟩=>by cases z⟩
    ·cases h
   ·cases h
  | Subscript a i p =>
   simp only[trE] at h;split at h
   ·rename_i lo hi p2;split at h
    ·rename_i a' l u h1 h2 h3;cases h;exact bC F.hK (JP F.hK (ih a a' h1).pe (tw ih h2) (tw ih h3)) (λ_=>rfl) (.inr rfl) (λ_ _ _ z=>nomatch z)
    ·cases h
   ·rename_i lo hi st p2;split at h
    ·rename_i hx;simp only[Zv] at hx;obtain⟨⟨x1,x2⟩,x3⟩:=hx;obtain⟨a',h1,rfl⟩:=cX (f:=λa'=>E.bi .rev (.cs a' .nl)) h
     cases lo with
     | some _=>cases x1
     | none =>
      cases hi with
      | some _=>cases x2
      | none =>
       have key:(λσ=>ev sub cf (.bi .rev (.cs a' .nl)) σ)=λσ=>ev sub cf a' σ>>=λd=>bi1 sub .rev d:=by
        funext σ;exact gO (ev sub cf a' σ) (biD sub .rev)
       refine bC F.hK ?_ (λ_=>rfl) (.inl rfl) (λ_ _ _ z=>nomatch z);show PE X _ (tM Γ xw (λσ=>ev sub cf (.bi .rev (.cs a' .nl)) σ));rw[key];exact E0 F.hK (ih a a' h1).pe (yw x3)
    ·cases h
   ·cases h
   ·rename_i hs1 hs2 hs3;split at h
    ·rename_i a' i' h1 h2
     have hp:mO i:=by
      intro o j
      cases i with
      | Slice lo hi st p2 =>
       cases st with
       | none=>exact(hs1 lo hi p2 rfl).elim
       | some x=>exact(hs2 lo hi x p2 rfl).elim
      | _=>rfl
     split at h
     ·cases h;exact bC F.hK (FF (by have:=F.un; omega) (ih a a' h1).pe (ih i i' h2).pe hp) (λ_=>rfl) (.inr rfl) (λ_ _ _ z=>nomatch z)
     ·cases h;exact bC F.hK (B7 F.hK (ih a a' h1).pe (ih i i' h2).pe hp) (λ_=>rfl) (.inl rfl) (λ_ _ _ z=>nomatch z)
    ·cases h
  | Call f args kws cpos =>
   simp only[trE] at h;split at h
   ·rename_i x p
    by_cases hx:(fu x&&glB c x)=true
    ·rw[Zf hx] at h;rw[Zv] at hx;have hd:=(uM hx.1).1;have hg:=C.gl hx.2;split at h
     ·rename_i hi;obtain⟨es',h1,rfl⟩:=cX (f:=E.call x) h
      cases args with
      | nil =>
       cases h1;refine bC F.hK ?_ (λ_=>rfl) (.inl rfl) (λ_ _ _ z=>nomatch z);exact Ce F hi hg hd
      | cons a r =>
       obtain⟨a',b',q1,q2,_⟩:=dc h1;exact bC F.hK (Jc F hi hg hd (fK F C ih h1) (dj q1 r X.env) (jf q2 X.env cpos).1) (λ_=>rfl) (.inl rfl) (λ_ _ _ z=>nomatch z)
     ·cases h
     ·rename_i hn
      by_cases hi:x = "isinstance"
      ·rw[Zf hi] at h;subst hi;split at h
       ·rename_i a y p2
        by_cases hy:(fu y&&d9 c y)=true
        ·rw[Zf hy] at h;rw[Zv] at hy;split at h
         ·rename_i t a' h1 h2;cases h;obtain⟨hg2,hn2⟩:=gy C hy.2;obtain⟨T,t1,t2,t3,t4,t5⟩:=xX F h1 hn2;have hm:X.mg "isinstance" = none:=F.blt _ (by decide +kernel) hn
          have key:(λσ=>ev sub cf (.bi (.inst t) (.cs a' .nl)) σ)=λσ=>ev sub cf a' σ>>=λd=>iF sub t d:=by
           funext σ;exact gO (ev sub cf a' σ) (biD sub (.inst t))
          refine bC F.hK ?_ (λ_=>rfl) (.inl rfl) (λ_ _ _ z=>nomatch z);show PE X _ (tM Γ xw (λσ=>ev sub cf (.bi (.inst t) (.cs a' .nl)) σ));rw[key];exact BX F.hK t1 hg hm boot_isinstance hg2 t3 t2 (ih a a' h2).pe (by decide +kernel) (by decide +kernel) t4 t5 (dj h2 _ X.env)
         ·cases h
        ·rw[Zh hy] at h; cases h
       ·cases h
      ·rw[Zh hi] at h;split at h
       ·rename_i b ra hr;obtain⟨es,h1,rfl⟩:=cX (f:=E.bi b) h;exact bC F.hK (z9 F C ih hn hg hr h1) (λ_=>rfl) (.inl rfl) (λ_ _ _ z=>nomatch z)
       ·split at h
        ·cases h
        ·rename_i a r hrn;split at h
         ·rename_i b es h1 h2;cases h;obtain⟨a',b',q1,q2,_⟩:=dc h2;exact bC F.hK (zk F h1 hn hg (fK F C ih h2) (dj q1 r X.env) (jf q2 X.env cpos).1) (λ_=>rfl) (.inl rfl) (λ_ _ _ z=>nomatch z)
         ·cases h
    ·rw[Zh hx] at h; cases h
   ·rename_i o name apos;split at h
    ·split at h
     ·rename_i hx;simp only[Zv] at hx;obtain⟨⟨x1,x2⟩,x3⟩:=hx;have x1:name = "pop":=Zl x1;subst x1;obtain⟨o',h1,rfl⟩:=cX (f:=E.pop) h;exact bC F.hK (yM (ih o o' h1).pe (yN x2) x3) (λ_=>rfl) (.inr rfl) (λ_ _ _ z=>nomatch z)
     ·cases h
    ·rename_i a r;split at h
     ·rename_i hx;simp only[Zv] at hx;obtain⟨⟨x1,x2⟩,x3⟩:=hx;split at h
      ·rename_i m o' es h1 h2 h3;cases h;obtain⟨a',b',q1,q2,_⟩:=dc h3;exact bC F.hK (EL F h1 (ih o o' h2).pe (fK F C ih h3) x1 (Zl x3) (jf h3 X.env cpos).2 x2 (dj q1 r X.env) (jf q2 X.env cpos).1) (λ_=>rfl) (.inr rfl) (λ_ _ _ z=>nomatch z)
      ·cases h
     ·cases h
   ·cases h
  | ListComp elt gens scope p =>
   simp only[trE] at h;split at h
   ·rename_i tg iter ifs asy;split at h
    ·rename_i hx;rw[Zv] at hx;have ha:asy=0:=Zl hx.1;subst ha;obtain⟨CO,CK⟩:=tG C hx.2;split at h
     ·rename_i it t el tt h1 h2 h3 h4;split at h
      ·rename_i hge;cases h;obtain⟨PI1,hs⟩:=m9 F C ih h1
       have ihc:∀cl fp s3 H3 e e',trE n (inComp c scope) e=some e'->ClE Γ sub cf (aS X scope cl (inComp c scope).N fp s3 H3) XF e e' :=
        λcl fp s3 H3 e e' h=>ihn (inComp c scope) e e' h _ XF (F.comp scope cl _ fp s3 H3) (CK cl fp s3 H3)
       have htt:∀cl fp s3 H3,PF (aS X scope cl (inComp c scope).N fp s3 H3) ifs (tMT Γ XF λσ=>if tt.bq=true then pure true else evT sub cf tt σ):=λcl fp s3 H3=>by
        match ifs,h4 with
        | [],h4 =>
         cases h4
         exact λpins s σ H Q I h=>wJ pins s σ H Q I (by
          obtain⟨σd,ι,S,he,hs,ho⟩:=h;exact ho.here hs)
        | [t0],h4 =>
         have h4:(match trE n (inComp c scope) t0 with|some .nl=>none|o=>o)=some tt:=h4
         cases q:trE n (inComp c scope) t0 with
         | none=>rw[q] at h4; cases h4
         | some f =>
          rw[q] at h4
          have hf:f=tt/\f.bq=false:=by
           cases f<;>first|(cases h4; done)|(cases h4; exact⟨rfl,rfl⟩)
          obtain⟨rfl,hn⟩:=hf;rw[hn];simp only[Zu,ZM];exact qv (ihc cl fp s3 H3 t0 f q).pt
        | _::_::_,h4=>cases h4
       refine bC F.hK ?_ (λ_=>rfl) (.inr rfl) (λ_ _ _ z=>nomatch z);exact BN CO F.calm (by rw[C.N]; exact wR hge) PI1 (λcl fp s3 H3=>jN (X:=aS X scope cl (inComp c scope).N fp s3 H3) F.hK F.calm (CK cl fp s3 H3) h2) htt (λcl fp s3 H3=>(ihc cl fp s3 H3 elt el h3).pe) hs
      ·cases h
     ·cases h
    ·cases h
   ·cases h
  | _=>cases h
end
end EV

namespace EV
open PySem PySem.Spec PyProof.Rows L2
section
variable{Γ:Gx}{W:XW->Prop}{CX:CXT}{EW:XW->XK}{cf:Str->List D->M D}{sub:Sub}
theorem yt{n:Nat}{c:TC}{elt:W6}{gens:List Comprehension}{scope:Scope}{p:Pos}{e':E}(h:trE n c (.ListComp elt gens scope p)=some e'){X:Cx}{xw:XW}(F:Fam Γ W CX EW c.gt cf X xw)(C:Cok c X) :
  ∃tg iter ifs it t el tt,gens=[⟨tg,iter,ifs,0⟩]/\e'=.comp (own scope).length el t it tt/\eT X scope (inComp c scope).N (own scope).length/\(∀j,j<X.N.length->t.has j=false)/\PI X tg iter (tMI Γ xw (evI sub cf it)) /\
   (∀cl fp s3 H3,PG (aS X scope cl (inComp c scope).N fp s3 H3) tg (tMG Γ t))/\(∀cl fp s3 H3,PF (aS X scope cl (inComp c scope).N fp s3 H3) ifs (tMT Γ XF λσ=>if tt.bq=true then pure true else evT sub cf tt σ)) /\
   (∀cl fp s3 H3,PE (aS X scope cl (inComp c scope).N fp s3 H3) elt (tM Γ XF (ev sub cf el)))/\∀x,foldedSetIterable iter X.env x=pure x:=by
 cases n with
 | zero=>cases h
 | succ n =>
  have ih:∀e e',trE n c e=some e'->ClE Γ sub cf X xw e e':=λe e' h=>gD n c e e' h X xw F C
  simp only[trE] at h;split at h
  ·rename_i tg iter ifs asy;split at h
   ·rename_i hx;rw[Zv] at hx;have ha:asy=0:=Zl hx.1;subst ha;obtain⟨CO,CK⟩:=tG C hx.2;split at h
    ·rename_i it t el tt h1 h2 h3 h4;split at h
     ·rename_i hge;cases h;obtain⟨PI1,hs⟩:=m9 F C ih h1
      have ihc:∀cl fp s3 H3 e e',trE n (inComp c scope) e=some e'->ClE Γ sub cf (aS X scope cl (inComp c scope).N fp s3 H3) XF e e' :=
       λcl fp s3 H3 e e' h=>gD n (inComp c scope) e e' h _ XF (F.comp scope cl _ fp s3 H3) (CK cl fp s3 H3)
      have htt:∀cl fp s3 H3,PF (aS X scope cl (inComp c scope).N fp s3 H3) ifs (tMT Γ XF λσ=>if tt.bq=true then pure true else evT sub cf tt σ):=λcl fp s3 H3=>by
       match ifs,h4 with
       | [],h4 =>
        cases h4
        exact λpins s σ H Q I h=>wJ pins s σ H Q I (by
         obtain⟨σd,ι,S,he,hs,ho⟩:=h;exact ho.here hs)
       | [t0],h4 =>
        have h4:(match trE n (inComp c scope) t0 with|some .nl=>none|o=>o)=some tt:=h4
        cases q:trE n (inComp c scope) t0 with
        | none=>rw[q] at h4; cases h4
        | some f =>
         rw[q] at h4
         have hf:f=tt/\f.bq=false:=by
          cases f<;>first|(cases h4; done)|(cases h4; exact⟨rfl,rfl⟩)
         obtain⟨rfl,hn⟩:=hf;rw[hn];simp only[Zu,ZM];exact qv (ihc cl fp s3 H3 t0 f q).pt
       | _::_::_,h4=>cases h4
      exact⟨tg,iter,ifs,it,t,el,tt,rfl,rfl,CO,by rw[C.N]; exact wR hge,PI1,λcl fp s3 H3=>jN (X:=aS X scope cl (inComp c scope).N fp s3 H3) F.hK F.calm (CK cl fp s3 H3) h2,htt,λcl fp s3 H3=>(ihc cl fp s3 H3 elt el h3).pe,hs⟩
     ·cases h
    ·cases h
   ·cases h
  ·cases h
theorem jI{e:W6}(h:gH e=true)(t:Option PySem.Expr)(l:Nat)(env:Env):swapsWith e t l env=pure false:=by
 cases e<;>first|rfl|cases h
theorem zJ{m:Nat}{c:TC}{X:Cx}{xw:XW}(F:Fam Γ W CX EW c.gt cf X xw)(C:Cok c X){tg e:W6}{t:Tg}{e':E}{pos:Pos}(ha:v_ tg e=true)(h1:iM c tg=some t)(h2:trE m c e=some e') :
  PS X (.Assign [tg] e pos) (tMS Γ xw (exec sub cf (.set t e'))):=by
 have hg:PG X tg (tMG Γ t):=jN F.hK F.calm C h1;have he:=(gD (sub:=sub) m c e e' h2 X xw F C).pe
 cases tg with
 | Name y py =>
  by_cases hc:gH e=true
  ·exact lI he hg (show swapsWithSole [.Name y py] e pos.line X.env=pure false from jI hc (some (.Name y py)) pos.line X.env) rfl rfl
  ·cases e with
   | ListComp elt gens scope p =>
    obtain⟨tg,iter,ifs,it,t2,el,tt,rfl,rfl,CO,hslot,PI1,PG1,PF1,PE1,hs⟩:=yt (sub:=sub) h2 F C;have h1':(if dY c y=true then(idx c.N y).map Tg.one else none)=some t:=h1
    by_cases hl:dY c y=true
    ·rw[Zf hl] at h1';obtain⟨j,hj,rfl⟩:=cX h1'
     have sw:swapsWith (.ListComp elt [⟨tg,iter,ifs,0⟩] scope p) (some (.Name y py)) pos.line X.env=pure (X.env.blockKind==.function&&X.env.kindOf y==some .local&&py.line==p.line
      &&!(scope.names.any λ(n,k)=>n==y&&(k==.local||k==.cell))):=rfl
     cases q:(X.env.blockKind==.function&&X.env.kindOf y==some .local&&py.line==p.line&&!(scope.names.any λ(n,k)=>n==y&&(k==.local||k==.cell))) with
     | true =>
      rw[q] at sw;simp only[Zv] at q;have hy:X.env.scope.names.lookup y=some .local:=eq_of_beq q.1.1.2;exact E5 CO F.calm hslot PI1 PG1 PF1 PE1 C.nd (by rw[C.N]; exact jv hj) hy sw hs
     | false =>
      rw[q] at sw;exact lI he hg sw rfl rfl
    ·rw[Zh hl] at h1'; cases h1'
   | SetComp _ _ _ _=>cases m<;>cases h2
   | DictComp _ _ _ _ _=>cases m<;>cases h2
   | _=>exact absurd rfl hc
 | Tuple es k p =>
  have ha:(!isTup e&&gH e)=true:=ha;rw[Zv] at ha;refine lI he hg (show swapsWithSole [.Tuple es k p] e pos.line X.env=pure false from jI ha.2 (some (.Tuple es k p)) pos.line X.env) ?_ rfl;cases e<;>first|rfl|exact absurd ha.1 (by simp[isTup])
 | _=>cases ha
theorem HD{m:Nat}{c:TC}{X:Cx}{xw:XW}(F:Fam Γ W CX EW c.gt cf X xw)(C:Cok c X){tg e:W6}{s':S}{pos:Pos}(h:lX (trE m c) e tg=some s'):PS X (.Assign [tg] e pos) (tMS Γ xw (exec sub cf s')):=by
 have ce:∀{e e'},trE m c e=some e'->PE X e (tM Γ xw (ev sub cf e')):=λ{e e'} h=>(gD m c e e' h X xw F C).pe
 unfold lX at h;split at h
 ·cases h
 ·rename_i o i p _;split at h
  ·rename_i ha;rw[Zv] at ha;split at h
   ·rename_i a b d h1 h2 h3;split at h
    ·cases h;exact BE (by have:=F.un; omega) (ce h3) (ce h1) (ce h2) (jI ha.1 (some (.Subscript o i p)) pos.line X.env)
    ·cases h
   ·cases h
  ·cases h
 ·cases h
theorem gG{f:Stmt->Option S}{X:Cx}{xw:XW}(ih:∀s s',f s=some s'->PS X s (tMS Γ xw (exec sub cf s'))):∀{ss:List Stmt} {s':S},cR f ss=some s'->PSs X ss (tMS Γ xw (exec sub cf s'))
 | [],_,h=>by cases h; exact xH
 | [s],_,h=>JW (ih _ _ h)
 | s::s2::r,s',h=>by
  have h:(match f s,cR f (s2::r) with|some a,some b=>some (.seq a b)|_,_=>none)=some s':=h;split at h
  ·rename_i a b h1 h2;cases h;exact Hq (ih s a h1) (gG ih h2)
  ·cases h
theorem Ep{X:Cx}{xw:XW}{e:W6}{s':S}{pos:Pos}(h:nh e=some s'):PS X (.Raise (some e) none pos) (tMS Γ xw (exec sub cf s')):=by
 unfold nh at h;split at h
 ·cases h;intro pins s D σ H I h;obtain⟨_,_,_,_,_,ho⟩:=h;exact ho.elim
 ·cases h
theorem AS(m:Nat):∀(n:Nat) (c:TC) (s:Stmt) (s':S),trS m n c s=some s'->∀(X:Cx) (xw:XW),Fam Γ W CX EW c.gt cf X xw->Cok c X->PS X s (tMS Γ xw (exec sub cf s')):=by
 intro n
 induction n with
 | zero=>intro c s s' h; cases h
 | succ n ihn =>
  intro c s s' h X xw F C;have ih:∀s s',trS m n c s=some s'->PS X s (tMS Γ xw (exec sub cf s')):=λs s' h=>ihn c s s' h X xw F C
  have ihx:∀s s',trS m n c s=some s'->PS X.nox s (tMS Γ XF (exec sub cf s')):=λs s' h=>ihn c s s' h X.nox XF F.nox C.nox
  have ce:∀{e e'},trE m c e=some e'->ClE Γ sub cf X xw e e':=λ{e e'} h=>gD m c e e' h X xw F C
  have cx:∀{e e'},trE m c e=some e'->ClE Γ sub cf X.nox XF e e':=λ{e e'} h=>gD m c e e' h X.nox XF F.nox C.nox
  cases s with
  | Return v p =>
   cases v with
   | none=>cases h; exact AO
   | some e =>
    obtain⟨e',h1,rfl⟩:=cX (f:=S.ret) h;exact JR (ce h1).pe
  | Expr e p =>
   simp only[trS] at h;split at h
   ·rename_i hd;obtain⟨x,j,q,rfl⟩:=Ez hd;cases h; exact Cq
   ·split at h
    ·rename_i hn;obtain⟨e',h1,rfl⟩:=cX (f:=S.ex) h;exact DN (ce h1).pe (jI hn _ _ _)
    ·cases h
  | Pass p=>cases h; exact Bg
  | Assign ts e p =>
   simp only[trS] at h;split at h
   ·rename_i tg;split at h
    ·rename_i ha;split at h
     ·rename_i t e' h1 h2;cases h;exact zJ F C ha h1 h2
     ·cases h
    ·exact HD F C h
   ·cases h
  | If t a b p =>
   simp only[trS] at h;split at h
   ·rename_i t' a' b' h1 h2 h3;cases h;exact yz (ce h1).pt (gG ih h2) (gG ih h3)
   ·cases h
  | For tg it body els p =>
   simp only[trS] at h;split at h
   ·rename_i t i b h1 h2 h3;cases h;obtain⟨PI1,hs⟩:=m9 (X:=X.nox) (xw:=XF) F.nox C.nox (λe e' h=>cx h) h2;exact GU F.calm PI1 (jN (X:=X.nox) F.hK F.calm C.nox h1) (gG ihx h3) hs
   ·cases h
  | While t body els p =>
   simp only[trS] at h;split at h
   ·rename_i t' b h1 h2;cases h;exact Cj (cx h1).pt (gG ihx h2)
   ·cases h
  | Raise e cause p =>
   cases e with
   | none=>cases cause<;>cases h
   | some e =>
    cases cause with
    | none=>exact Ep h
    | some _=>cases h
  | _=>cases h
end
end EV

namespace EV
open PySem PySem.Spec PyProof.Rows L2
theorem lV:∀{ns:W4} {us:WW} {i:Nat} {x:Str} {u:Value},ns.Nodup->ns[i]?=some x->us[i]?=some u->(ns.zip us).lookup x=some u
 | [],_,_,_,_,_,h,_=>by simp at h
 | _::_,[],_,_,_,_,_,h=>by simp at h
 | y::ns,v::us,0,x,u,_,h1,h2=>by
  simp at h1 h2; subst h1; subst h2;simp[List.lookup]
 | y::ns,v::us,i+1,x,u,nd,h1,h2=>by
  have h1':ns[i]?=some x:=by simpa using h1
  have hne:¬x=y:=λe=>by
   subst e; exact(Xf.mp nd).1 (ZD h1')
  have hb:(x==y)=false:=by simpa using hne
  show List.lookup x ((y,v)::ns.zip us)=some u;rw[Z8,hb];exact lV (Xf.mp nd).2 h1' (by simpa using h2)
theorem zK{ns:W4}{us:WW}(nd:ns.Nodup)(hl:us.length=ns.length):ns.filterMap (λn=>((ns.zip us).lookup n).map (n,·))=ns.zip us:=by
 have all:∀(ms:W4) (vs:WW),vs.length=ms.length->(∀(i:Nat) x u,ms[i]?=some x->vs[i]?=some u->(ns.zip us).lookup x=some u)->ms.filterMap (λn=>((ns.zip us).lookup n).map (n,·))=ms.zip vs:=by
  intro ms
  induction ms with
  | nil=>intro vs _ _; rfl
  | cons m ms ih =>
   intro vs hl h
   cases vs with
   | nil=>simp at hl
   | cons v vs =>
    rw[Xk,h 0 m v rfl rfl];show(m,v)::_=(m,v)::ms.zip vs;rw[ih vs (by simpa using hl) λi x u h1 h2=>h (i+1) x u (by simpa using h1) (by simpa using h2)]
 exact all ns us hl λi x u h1 h2=>lV nd h1 h2
theorem uC{x qual:Str}{a:Arguments}{body:List Stmt}{sc:Scope}{kV doc pm cdv ct:Value}{an:Option Addr}(hp:jY a=true)(nd:(argNames a).Nodup){us:WW}(hl:us.length=(argNames a).length) :
  bindArgs (PySem.W.fnOf x qual a body sc .none kV doc pm an cdv ct) ⟨us,[]⟩=pure ((argNames a).zip us):=by
 obtain⟨po,as,va,ko,kd,kw,df⟩:=a;unfold jY at hp;simp only[Zv,List.isEmpty_iff,Option.isNone_iff_eq_none] at hp;obtain⟨⟨⟨⟨⟨rfl,rfl⟩,rfl⟩,rfl⟩,rfl⟩,rfl⟩:=hp;have nd:(as.map (·.arg)).Nodup:=nd;have hl:us.length=(as.map (·.arg)).length:=hl;show bindArgs _ _=pure ((as.map (·.arg)).zip us);unfold bindArgs;simp only[PySem.W.fnOf,Qw,QE,XA];generalize as.map (·.arg)=ns at nd hl;have hnot:¬us.length>ns.length:=by rw[hl]; exact XI _
 have hmiss:(List.take ns.length ns).filter (λn=>((ns.zip us).lookup n).isNone)=[]:=by
  rw[List.filter_eq_nil_iff];intro n hn;obtain⟨i,hi⟩:=ZP (X6 hn);have hi':i<us.length:=by rw[hl]; exact(Zi.mp hi).1
  rw[lV nd hi (Ze hi')];simp
 have hb:=zK nd hl;have hd:seqItems? .none=pure none:=rfl;rw[hd];have hz:(#[]:Array Value).toList=[]:=rfl;have hdec:decide (us.length>ns.length)=false:=Zt hnot;simp only[List.forIn_nil,pure_bind,Option.getD_none,hz,Xh,Nat.zero_sub,List.drop_nil,Wt,hmiss,hdec,XY,Zu,ZM,List.isEmpty_nil,Qr,List.zip_nil_right,hb]
noncomputable def mK(xw:XW):XW:=λc _ _ H=>∃S ι,xw c S ι H
structure Txt(K:WV)(mg:W1)(gt:List (Str×GE))(defs:List (Str×Stmt)):Prop where
 fn:∀x,gt.lookup x=some .fn->∃st f fd,defs.lookup x=some st/\mg x=some (.ref f)/\Fun K x x st f fd
 blt:∀x∈dS,gt.lookup x=none->mg x=none
 val:∀x d,gt.lookup x=some (.val d)->∃u v,mg x=some u/\RelV v u/\∀ι H,Rep ⟨K⟩ ι H d v
 cls:∀x,gt.lookup x=some .cls->ClsAt K x/\∀C,PySem.W.nsIn K mainGlobals x=some (some (.ref C))->mg x=some (.ref C)
theorem FH{Γ:Gx}{ι:W0}{H:Hp}{ds:Ya}{vs:W8}(rs:aA Γ ι H ds vs)(N:W4){k:Nat}(hk:k=N.length):aU Γ ι H (L2.start N vs) (ds.map some++List.replicate (k-ds.length) none):=by
 have hl:=rs.length;refine⟨by unfold L2.start; simp[hl,hk],λi d h=>?_⟩
 by_cases hi:i<ds.length
 ·rw[ZC (by simpa using hi),ZL] at h
  have h:ds[i]?=some d:=by
   rw[Ze hi] at h ⊢;simpa using h
  obtain⟨v,hv,r⟩:=Paired.get rs h;refine⟨v,?_,r⟩;unfold L2.start;rw[ZC (by rw[Zb,<- hl]; exact hi),ZL,hv];rfl
 ·rw[ZO (by simpa using hi),Qb] at h;split at h<;>cases h
theorem n6{a:Arguments}{sc:Scope}(h:dm a sc=true):nM (namesOf a sc) (argNames a) sc/\jY a=true:=by
 unfold dm at h;simp only[Zv] at h;obtain⟨⟨⟨⟨⟨⟨h1,h2⟩,h3⟩,h4⟩,h5⟩,h6⟩,h7⟩:=h;rw[Z9] at h6 h7;refine⟨⟨Zl h2,by simpa using h3,by simpa using h4,j4 h5,?_,λx hx=>?_,λy hy hf=>?_⟩,h1⟩
 ·unfold namesOf; rw[List.take_append_of_le_length (Zm _),Z4]
 ·have:=h6 x hx
  cases q:sc.names.lookup x with
  | none=>rw[q] at this; cases this
  | some k=>rw[q] at this; cases k<;>first|exact .inl rfl|exact .inr rfl|cases this
 ·have:=h7 y hy;rw[hf] at this; simp at this
theorem uP{CX:CXT}{P:WZ}{w:W2}{K:WV}{mg:W1}{base:Heap}{N:W4}{qual:Str}{scope:Scope}{f:Addr}{cd:Value}{A:Around}{outer:List Env}{s:WX}{H:Hp}{E:XK}{pins:WT}{σ:L2.St}{H1:Hp}{s1:WX}(I:Inv (cZ CX P w K mg base N qual scope f cd A outer s H E) pins σ H1 s1):A.frames=some outer:=by
 have z:A.frames.map (envOfC qual scope s.heap.objs.size f cd :: ·)=some (envOfC qual scope s.heap.objs.size f cd::outer):=I.ok.frames
 cases q:A.frames with
 | none=>rw[q] at z; cases z
 | some l=>rw[q] at z; cases z; rfl
section
variable{P:WZ}{w:W2}{K:WV}{mg:W1}{base:Heap}{W:XW->Prop}{sub:Sub}{gt:List (Str×GE)}{defs:List (Str×Stmt)}{Pd:Prg}
theorem Ba(T:Txt K mg gt defs)(hW:∀xw,W xw)(hP:∀x st,defs.lookup x=some st->∃F,trF gt st=some F/\Pd.lookup x=some F) :
  ∀(n:Nat) (x:Str) (st:Stmt) (f:Addr) (fd:FuncData),defs.lookup x=some st->Fun K x x st f fd->d8 P w K mg base (CXe P w) n f fd (argNames (c8 st)) (spF ⟨K⟩ W (EWx K) (ah sub Pd n x) (argNames (c8 st)).length):=by
 intro n
 induction n with
 | zero =>
  intro x st f fd _ _;refine⟨λvs H Q E h=>h.1,λA outer s H args us vs Q E _ _ _ _ h=>?_⟩;obtain⟨_,_,_,_,_,_,_,_,_,ho⟩:=h;exact ho.elim
 | succ n ih =>
  intro x st f fd hst Fu;obtain⟨F,hF,hPi⟩:=hP x st hst
  cases st with
  | FunctionDef x0 a body d1 d2 d3 sc d4 d5 d6 =>
   have hF:(if dm a sc=true then(cR (trS depth depth (fM gt a sc)) body).map λb=>(⟨(argNames a).length,(namesOf a sc).length,b⟩:Fn) else none)=some F:=hF
   by_cases hs:dm a sc=true
   ·rw[Zf hs] at hF;obtain⟨b,hb,rfl⟩:=cX hF;obtain⟨SC,hpl⟩:=n6 hs;obtain⟨oc,od,kV,doc,pm,an,cdv,ct,osl,rfl,lk,hcd⟩:=Fu.ex;refine IZ (N:=namesOf a sc) lk hcd SC (λvs H Q E h=>h.1) λA outer s H vs Q E hr hsp=>?_
    obtain⟨hl,xw,hw,rfl,ι,S,ds,hS,rs,ho⟩:=hsp
    have hew:∀C H,EWx K (mK xw) (.ref C) none H->EWx K xw (.ref C) none H:=λC H z=>by
     obtain⟨c,C',z1,z2,_,_,S',ι',z3⟩:=z;exact⟨c,C',z1,z2,S',ι',z3⟩
    have FM:Fam ⟨K⟩ W (CXe P w) (EWx K) gt (ah sub Pd n) (cZ (CXe P w) P w K mg base (namesOf a sc) x sc f cdv A outer s H (EWx K xw)) (mK xw):=by
     refine⟨rfl,rfl,hr.units,T.blt,T.val,λy hy=>?_,λpins σ H1 s1 v s2 I hx=>tX (λ_ _ _ _ z=>.inr z) hew (uP I) I hx,λpins σ H1 s1 v s2 I hx=>tX (λ_ _ _ _ z=>.inl z) hew (uP I) I hx,T.cls,rfl,rfl,hW⟩;obtain⟨st2,f2,fd2,h1,h2,h3⟩:=T.fn y hy;obtain⟨F2,hF2,hPj⟩:=hP y st2 h1
     have hb2:Binds K fd2 (argNames (c8 st2)) []:=by
      cases st2 with
      | FunctionDef x1 a1 body1 e1 e2 e3 sc1 e4 e5 e6 =>
       have hF2:(if dm a1 sc1=true then(cR (trS depth depth (fM gt a1 sc1)) body1).map λb=>(⟨(argNames a1).length,(namesOf a1 sc1).length,b⟩:Fn) else none)=some F2:=hF2
       by_cases hs1:dm a1 sc1=true
       ·obtain⟨SC1,hpl1⟩:=n6 hs1;refine h3.binds λ_ _ _ _ _ _ us hl=>?_
        have nd1:(argNames a1).Nodup:=by rw[<- SC1.pre]; exact SC1.nd.sublist (WI _ _)
        exact uC hpl1 nd1 hl
       ·rw[Zh hs1] at hF2; cases hF2
      | _=>cases hF2
     refine⟨n,f2,fd2,argNames (c8 st2),ih y st2 f2 fd2 h1 h3,hr,h2,h3.kp,hb2,λds S hne=>?_⟩
     cases n with
     | zero=>rfl
     | succ n =>
      have hpar:F2.par=(argNames (c8 st2)).length:=by
       cases st2 with
       | FunctionDef x1 a1 body1 e1 e2 e3 sc1 e4 e5 e6 =>
        have hF2:(if dm a1 sc1=true then(cR (trS depth depth (fM gt a1 sc1)) body1).map λb=>(⟨(argNames a1).length,(namesOf a1 sc1).length,b⟩:Fn) else none)=some F2:=hF2
        by_cases hs1:dm a1 sc1=true
        ·rw[Zf hs1] at hF2;obtain⟨b1,_,rfl⟩:=cX hF2;rfl
        ·rw[Zh hs1] at hF2; cases hF2
       | _=>cases hF2
      exact Aa hPj (by rw[hpar]; exact hne)
    have CK:Cok (fM gt a sc) (cZ (CXe P w) P w K mg base (namesOf a sc) x sc f cdv A outer s H (EWx K xw)):=⟨rfl,rfl,SC.nd,SC.kind,λ_ _=>rfl,λ_=>⟨rfl,rfl⟩⟩
    refine⟨tMS ⟨K⟩ (mK xw) (exec sub (ah sub Pd n) b),gG (λs s' h=>AS depth depth (fM gt a sc) s s' h _ _ FM CK) hb,?_⟩;have hdl:ds.length=(argNames a).length:=rs.length.trans hl;refine⟨ds.map some++List.replicate ((namesOf a sc).length-ds.length) none,ι,S,FH rs _ rfl,hS,?_⟩;have ho:Out ⟨K⟩ xw ι H (ah sub Pd (n+1) x ds S) _:=ho;rw[sW hPi hdl] at ho;unfold frame at ho
    cases q:exec sub (ah sub Pd n) b (ds.map some++List.replicate ((namesOf a sc).length-ds.length) none) S with
    | bad=>rw[q] at ho; exact ho.elim
    | exc k S' =>
     rw[q] at ho;intro ι' H' e' s';have ho:Out ⟨K⟩ xw ι H (if S'.take S.length=S then .exc k S else .exc k S') _:=ho
     by_cases ht:S'.take S.length=S
     ·rw[Zf ht] at ho;exact⟨S,ι,ho ι H' e'.back (ao.back e' hS s' ht)⟩
     ·rw[Zh ht] at ho;exact⟨S',ι',ho ι' H' e' s'⟩
    | ok fl S' =>
     rw[q] at ho;intro ι' H' e' s'
     cases fl with
     | nx σ'=>exact λσv hv=>se hS e' s' .non ho
     | rt d=>exact λv r=>se hS e' s' r ho
     | bk σ'=>exact ho.elim
     | ct σ'=>exact ho.elim
   ·rw[Zh hs] at hF; cases hF
  | _=>cases hF
end
end EV

namespace EV
open PySem PySem.Spec PyProof.Rows L2
inductive dG(K:WV):List (Str×Stmt)->Prop
 | nil:dG K []
 | cons {x:Str} {st:Stmt} {r:List (Str×Stmt)} {f:Addr} {oc:Value} {od an:Option Addr} {osl:Array (Option Value)} {kV doc pm cdv ct:Value} :
   PySem.W.nsIn K mainGlobals x=some (some (.ref f)) ->
   K.lookup f=some ⟨oc,od,.func (PySem.W.fnOf x x (c8 st) (jh st) (i7 st) .none kV doc pm an cdv ct),osl⟩ ->
   PySem.W.codeIn K cdv x=true->PySem.W.keepIn K (.ref f)=true->dG K r->dG K ((x,st)::r)
inductive eU:D->Value->Prop
 | non:eU .non .none
 | bl (b:Bool):eU (.bl b) (.bool b)
 | int (i:Int) (t:Tok):eU (.int i) (.int i t)
 | str (x:Str) (t:Tok):eU (.str x) (.str x t)
inductive e8:List D->List Value->Prop
 | nil:e8 [] []
 | cons {d:D} {u:Value} {ds:Ya} {us:WW}:eU d u->e8 ds us->e8 (d::ds) (u::us)
inductive cC(K:WV):List (Str×D)->Prop
 | nil:cC K []
 | flat {x:Str} {d:D} {u:Value} {r:List (Str×D)}:PySem.W.nsIn K mainGlobals x=some (some u)->eU d u->cC K r->cC K ((x,d)::r)
 | tup {x:Str} {ds:Ya} {a:Addr} {od:Option Addr} {us:WW} {n:Nat} {sl:Array (Option Value)} {r:List (Str×D)}:PySem.W.nsIn K mainGlobals x=some (some (.ref a)) ->
   K.lookup a=some ⟨.type "tuple",od,.seq us.toArray n,sl⟩->us.length<=1000->allInts ds=none->e8 ds us->cC K r->cC K ((x,.tup ds)::r)
inductive dR(K:WV):List Str->Prop
 | nil:dR K []
 | cons {x:Str} {r:W4}:PySem.W.nsIn K mainGlobals x=some none->dR K r->dR K (x::r)
noncomputable def jE:D->V
 | .bl b=>.bl b
 | .int i=>.int i
 | .str x=>.str x
 | _=>.non
theorem eU.rel{d:D}{u:Value}(h:eU d u):RelV (jE d) u/\∀Γ ι H,Rep Γ ι H d (jE d):=by
 cases h with
 | non=>exact⟨rfl,λ_ _ _=>.non⟩
 | bl b=>exact⟨rfl,λ_ _ _=>.bl b⟩
 | int i t=>exact⟨⟨t,rfl⟩,λ_ _ _=>.int i⟩
 | str x t=>exact⟨⟨t,rfl⟩,λ_ _ _=>.str x⟩
theorem e8.rel:∀{ds:Ya} {us:WW},e8 ds us->Vals (ds.map jE) us/\∀Γ ι H,aA Γ ι H ds (ds.map jE)
 | _,_,.nil=>⟨.nil,λ_ _ _=>.nil⟩
 | _,_,.cons h r=>⟨.cons h.rel.1 (e8.rel r).1,λΓ ι H=>.cons (h.rel.2 Γ ι H) ((e8.rel r).2 Γ ι H)⟩
theorem dG.get{K:WV}:∀{fns:List (Str×Stmt)} {x:Str} {st:Stmt},dG K fns->(x,st)∈fns->∃f fd,PySem.W.nsIn K mainGlobals x=some (some (.ref f))/\Fun K x x st f fd
 | _,_,_,.nil,h=>by simp at h
 | _,_,_,.cons a l c k r,h=>by
  rcases Zx.mp h with e|h
  ·cases e; exact⟨_,_,a,BR l c k⟩
  ·exact dG.get r h
theorem cC.get{K:WV}:∀{vals:List (Str×D)} {x:Str} {d:D},cC K vals->(x,d)∈vals->∃u v,PySem.W.nsIn K mainGlobals x=some (some u)/\RelV v u/\∀ι H,Rep ⟨K⟩ ι H d v
 | _,_,_,.nil,h=>by simp at h
 | _,x,d,.flat a f r,h=>by
  rcases Zx.mp h with e|h
  ·cases e; exact⟨_,_,a,f.rel.1,λι H=>f.rel.2 _ ι H⟩
  ·exact cC.get r h
 | _,x,d,.tup a l z no f r,h=>by
  rcases Zx.mp h with e|h
  ·cases e;refine⟨_,.ref _,a,rfl,λι H=>?_⟩;have hz:∀{us:WW},us.length<=1000->us.toArray.size<=sizeLine:=λ{us} h=>by rw[Zk,XS]; omega
   exact .sY (.inr ⟨_,_,_,l,rfl,rfl,hz z,by simpa using f.rel.1⟩) (f.rel.2 _ ι H) λk q=>by rw[no] at q; cases q
  ·exact cC.get r h
theorem dR.get{K:WV}:∀{l:W4} {x:Str},dR K l->x∈l->PySem.W.nsIn K mainGlobals x=some none
 | _,_,.nil,h=>by simp at h
 | _,_,.cons a r,h=>by
  rcases Zx.mp h with rfl|h
  ·exact a
  ·exact dR.get r h
inductive e9(K:WV):List Str->Prop
 | nil:e9 K []
theorem e9.get{K:WV}{l:W4}{x:Str}(c:e9 K l)(h:x∈l):ClsAt K x:=by
 cases c; cases h
noncomputable def dP(fns:List (Str×Stmt))(vals:List (Str×D))(cls:W4):List (Str×GE):=(fns.map λp=>(p.1,.fn))++(vals.map λp=>(p.1,.val p.2))++cls.map λx=>(x,.cls)
theorem mU{α β γ:Type}{f:Str×α->Str×β}(hf:∀p,(f p).1=p.1){g:Str×α->γ}:∀{l:List (Str×α)} {x:Str} {b:β},(l.map f).lookup x=some b->∃p∈l,p.1=x/\(f p).2=b/\l.lookup x=some p.2
 | [],_,_,h=>by simp at h
 | p::r,x,b,h=>by
  have e:f p=(p.1,(f p).2):=by rw[<- hf p]
  rw[ZI,e,Z8] at h;obtain⟨y,a⟩:=p
  cases q:x==y with
  | true =>
   simp only[q] at h;have e:x=y:=by simpa using q
   subst e;exact⟨(x,a),Zo,rfl,by simpa using h,by rw[Z8,q]⟩
  | false =>
   simp only[q] at h;obtain⟨p,h1,h2,h3,h4⟩:=mU hf (g:=g) h;exact⟨p,Zr _ h1,h2,h3,by rw[Z8,q]; exact h4⟩
theorem m5{β:Type}:∀{l m:List (Str×β)} {x:Str},(l++m).lookup x=(match l.lookup x with|some b=>some b|none=>m.lookup x)
 | [],m,x=>by simp
 | (y,a)::r,m,x=>by
  rw[XX,Z8,Z8]
  cases x==y with
  | true=>rfl
  | false=>exact m5
theorem ja{α:Type}:∀{l:List (Str×α)} {x:Str} {a:α},l.lookup x=some a->(x,a)∈l
 | [],_,_,h=>by simp at h
 | (y,b)::r,x,a,h=>by
  rw[Z8] at h
  cases q:x==y with
  | true =>
   rw[q] at h;have e:x=y:=by simpa using q
   subst e;have e:b=a:=by simpa using h
   subst e;exact Zo
  | false=>rw[q] at h; exact Zr _ (ja h)
theorem qp{K:WV}{h:Heap}{mg:W1}{fns:List (Str×Stmt)}{vals:List (Str×D)}{cls:W4}(X:K.In h)(G:h.Ns mainGlobals mg)(hd:dG K fns)(hv:cC K vals)(hc:∀x∈cls,ClsAt K x)
  (hb:∀x∈dS,(dP fns vals cls).lookup x=none->PySem.W.nsIn K mainGlobals x=some none):Txt K mg (dP fns vals cls) fns where
 fn:=λx hx=>by
  unfold dP at hx;rw[m5,m5] at hx
  cases q:(fns.map λp=>(p.1,GE.fn)).lookup x with
  | some b =>
   obtain⟨p,h1,h2,_,h4⟩:=mU (g:=λ_=>()) (f:=λp=>(p.1,GE.fn)) (λ_=>rfl) q;obtain⟨y,st⟩:=p;have h2:y=x:=h2;subst h2;obtain⟨f,fd,a,F⟩:=hd.get h1;exact⟨st,f,fd,h4,WH X G a,F⟩
  | none =>
   rw[q] at hx
   cases q2:(vals.map λp=>(p.1,GE.val p.2)).lookup x with
   | some b =>
    rw[q2] at hx;obtain⟨p,h1,h2,h3,_⟩:=mU (g:=λ_=>()) (f:=λp=>(p.1,GE.val p.2)) (λ_=>rfl) q2;have hx:b=.fn:=by simpa using hx
    rw[hx] at h3; cases h3
   | none =>
    rw[q2] at hx;have hm:=ja hx;obtain⟨p,_,e⟩:=ZA.mp hm; cases e
 blt:=λx hx hn=>PySem.W.mg_none_of X G (hb x hx hn)
 val:=λx d hx=>by
  have hm:=ja hx;unfold dP at hm;rcases ZB.mp hm with hm|hm
  ·rcases ZB.mp hm with hm|hm
   ·obtain⟨p,hp,e⟩:=ZA.mp hm; cases e
   ·obtain⟨p,hp,e⟩:=ZA.mp hm;cases e;obtain⟨u,v,a,r,q⟩:=hv.get hp;exact⟨u,v,WH X G a,r,q⟩
  ·obtain⟨p,_,e⟩:=ZA.mp hm; cases e
 cls:=λx hx=>by
  have hm:=ja hx;unfold dP at hm
  have hx:x∈cls:=by
   rcases ZB.mp hm with hm|hm
   ·rcases ZB.mp hm with hm|hm
    ·obtain⟨p,_,e⟩:=ZA.mp hm; cases e
    ·obtain⟨p,_,e⟩:=ZA.mp hm; cases e
   ·obtain⟨p,hp,e⟩:=ZA.mp hm; cases e; exact hp
  exact⟨hc x hx,λC a=>WH X G a⟩
theorem Iv{K:WV}{H:Hp}{a:Addr}{ns:WU}(hO:jt H)(hS:SqL K H a (ns.map V.int)):ao ⟨K⟩ [] H []/\aA ⟨K⟩ [] H [.fro (ns.map .int)] [.ref a]:=by
 refine⟨⟨rfl,QM,λl c h=>by simp at h⟩,.cons ?_ .nil⟩;have hp:aA ⟨K⟩ [] H (ns.map D.int) (ns.map V.int):=iH ns
 have hf:Fro K H a (ns.map V.int):=by
  rcases hS with(h|⟨o,h⟩)|h
  ·rcases hO a with z|⟨o,xs,z⟩
   ·rw[h] at z; cases z
   ·rw[h] at z; cases z
  ·exact .inl ⟨o,h⟩
  ·exact .inr λH=>.inr h
 exact .fro hf (by simp) λi d v e1 e2=>by
  obtain⟨y,e,f⟩:=Paired.get hp e1;rw[e2] at e; cases e; exact f
theorem DU{fns:List (Str×Stmt)}{gt:List (Str×GE)}{Pd:Prg}(hP:fns.map (λp=>(p.1,trF gt p.2))=Pd.map λp=>(p.1,some p.2)):∀x st,fns.lookup x=some st->∃F,trF gt st=some F/\Pd.lookup x=some F:=by
 have all:∀(fns:List (Str×Stmt)) (Pd:Prg),(fns.map (λp=>(p.1,trF gt p.2))=Pd.map λp=>(p.1,some p.2))->∀x st,fns.lookup x=some st->∃F,trF gt st=some F/\Pd.lookup x=some F:=by
  intro fns
  induction fns with
  | nil=>intro Pd _ x st h; simp at h
  | cons p r ih =>
   intro Pd hP x st h
   cases Pd with
   | nil=>simp at hP
   | cons F Pd =>
    obtain⟨y,st0⟩:=p;obtain⟨y2,F⟩:=F;rw[ZI,ZI] at hP;injection hP with e1 e2;have e1a:y=y2:=Xs Prod.fst e1;have e1b:trF gt st0=some F:=Xs Prod.snd e1;subst e1a;rw[Z8] at h;rw[Z8]
    cases q:x==y with
    | true =>
     rw[q] at h;have h:st0=st:=by simpa using h
     subst h;exact⟨F,e1b,rfl⟩
    | false=>rw[q] at h; exact ih Pd e2 x st h
 exact all fns Pd hP
theorem Cz{l:PySem.W.OpenLaw}{q:WZ}{loose:W4}{XP:(Str->Option Value)->Heap->Prop}{YP:World->Heap->Prop}{d:DefRec}{K:Params->PySem.W.Frag}{fns:List (Str×Stmt)}{vals:List (Str×D)}{cls:W4}{Pd:Prg}{sub:Sub}{n:Nat}{st:Stmt}{x:Str}
  (hn:l.most=some 63) (hdf:d.params.defaults=[]) (hr:bY n callerA) (hY:∀(w:W2) (h:Heap),YP w h->(K w.params).In h)
  (hP:fns.map (λp=>(p.1,trF (dP fns vals cls) p.2))=Pd.map λp=>(p.1,some p.2)) (hL:fns.lookup d.name=some st) (hx:argNames (c8 st)=[x])
  (hT:∀w:World,∀h:Heap,(K w.params).In h->dG (K w.params) fns/\cC (K w.params) vals/\e9 (K w.params) cls/\∀x∈dS,(dP fns vals cls).lookup x=none->PySem.W.nsIn (K w.params) mainGlobals x=some none)
  (hmain:∀ns:List Int,ns.length<=63->∃S',ah sub Pd n d.name [.fro (ns.map .int)] []=.ok (.bl true) S') :
  PySem.W.WalkO q loose XP YP l.row.toRowW d [] (λf vs=>PySem.call f vs):=by
 have hP':=DU hP;refine L2.tW (n:=63) (k:=n) (x:=x) (CX:=λw=>CXe l.prog w) (sp:=λw=>spF ⟨K w.params⟩ (λ_=>True) (EWx (K w.params)) (ah sub Pd n d.name) 1) hn (by decide) hdf hr hY (λw mg fa h KX G hmg=>?_) (λw H a ns hl hO hS=>?_) λ_ _ _ _ _ ⟨_,_,_,_,_,_,_,_,_,_,_,_,z⟩=>z
 ·obtain⟨h1,h2,h4,h3⟩:=hT w h KX;have T:=qp KX G h1 h2 (λx hx=>h4.get hx) h3;obtain⟨f,fd,a,F⟩:=h1.get (ja hL);have e:=hmg.symm.trans (WH KX G a);cases e;refine⟨fd,λs u=>?_,λbase kb nb=>?_⟩
  ·obtain⟨F2,hF2,_⟩:=hP' d.name st hL;obtain⟨oc,od,kV,doc,pm,an,cdv,ct,osl,rfl,lk,hcd⟩:=F.ex
   cases st with
   | FunctionDef x1 a1 body1 e1 e2 e3 sc1 e4 e5 e6 =>
    have hF2:(if dm a1 sc1=true then(cR (trS depth depth (fM (dP fns vals cls) a1 sc1)) body1).map λb=>(⟨(argNames a1).length,(namesOf a1 sc1).length,b⟩:Fn) else none)=some F2:=hF2
    by_cases hs1:dm a1 sc1=true
    ·obtain⟨SC1,hpl1⟩:=n6 hs1;have nd1:(argNames a1).Nodup:=by rw[<- SC1.pre]; exact SC1.nd.sublist (WI _ _)
     have hx:argNames a1=[x]:=hx;have:=uC (x:=d.name) (qual:=d.name) (body:=body1) (sc:=sc1) (kV:=kV) (doc:=doc) (pm:=pm) (cdv:=cdv) (ct:=ct) (an:=an) hpl1 nd1 (us:=[u]) (by rw[hx]; rfl);rw[hx] at this;exact .of_eq this
    ·rw[Zh hs1] at hF2; cases hF2
   | _=>cases hF2
  ·have T':=qp kb nb h1 h2 (λx hx=>h4.get hx) h3;have:=Ba (sub:=sub) (P:=l.prog) (w:=w) (base:=base) T' (W:=λ_=>True) (λ_=>trivial) hP' n d.name st fa fd hL F;rw[hx] at this;exact this
 ·obtain⟨hs,rs⟩:=Iv hO hS;obtain⟨S',hm⟩:=hmain ns hl;refine⟨rfl,XF,trivial,funext λ_=>funext λ_=>funext λ_=>propext ⟨λz=>z.elim,λz=>(ewF z).elim⟩,[],[],[.fro (ns.map .int)],hs,rs,?_⟩;rw[hm];intro ι' H' _ _ v r;cases r;rfl
end EV

namespace EV
open PySem
variable{α β:Type}
noncomputable def Res.bind(r:Res α)(f:α->af->Res β):Res β:=match r with
 | .ok a S=>f a S
 | .exc c S=>.exc c S
 | .bad=>.bad
@[simp]theorem Res.aj(a:α)(S:af)(f:α->af->Res β):(Res.ok a S).bind f=f a S:=id rfl
@[simp]theorem Res.cM(c:Str)(S:af)(f:α->af->Res β):(Res.exc c S:Res α).bind f=.exc c S:=id rfl
@[simp]theorem Res.aZ(f:α->af->Res β):(Res.bad:Res α).bind f=.bad:=id rfl
theorem aq(m:M α)(f:α->M β)(S:af):(m>>=f) S=(m S).bind λa S'=>f a S':=by
 rw[c_]; cases m S<;>rfl
@[simp]theorem Gr(a:α)(S:af):(pure a:M α) S=.ok a S:=id rfl
@[simp]theorem gf(b:Bool)(m:M α)(S:af):guard b m S=if b=true then m S else .bad:=by cases b<;>rfl
@[simp]theorem cO(a:α)(S:af):opt (some a) S=.ok a S:=id rfl
@[simp]theorem uO(c:Cell)(S:af):alloc c S=.ok (.loc S.length) (S++[c]):=id rfl
theorem Fw(m:M α)(S:af):quiet m S=match m S with|.ok a S'=>.ok a S'|_=>.bad:=rfl
theorem fW{m:M α}{S S':af}{a:α}(h:m S=.ok a S'):quiet m S=.ok a S':=by rw[Fw,h]
section
variable(sub:Sub)(cf:Str->List D->M D)(σ:Sg)(S:af)
@[simp]theorem EB(i:Nat):ev sub cf (.v i) σ S=bu σ i S:=id rfl
@[simp]theorem zf(o:Op2)(a b:E):ev sub cf (.bin o a b) σ S=(ev sub cf a σ S).bind λx S1=>(ev sub cf b σ S1).bind λy S2=>opD o x y S2:=by
 show(ev sub cf a σ>>=λx=>ev sub cf b σ>>=λy=>opD o x y) S=_;simp only[aq]
@[simp]theorem wU(o:Cm)(a b:E):ev sub cf (.cmp o a b) σ S=(ev sub cf a σ S).bind λx S1=>(ev sub cf b σ S1).bind λy S2=>cmD o x y S2:=by
 show(ev sub cf a σ>>=λx=>ev sub cf b σ>>=λy=>cmD o x y) S=_;simp only[aq]
@[simp]theorem BK(o o':Cm)(a b c:E):ev sub cf (.chn o o' a b c) σ S=(ev sub cf a σ S).bind λx S1=>(ev sub cf b σ S1).bind λy S2=>(cmD o x y S2).bind λr S3=>match r with
  | .bl true=>(ev sub cf c σ S3).bind λz S4=>cmD o' y z S4
  | .bl false=>.ok (.bl false) S3
  | _=>.bad:=by
 show(ev sub cf a σ>>=λx=>ev sub cf b σ>>=λy=>cmD o x y>>=λr=>match r with|.bl true=>ev sub cf c σ>>=λz=>cmD o' y z|.bl false=>pure (D.bl false)|_=>bad) S=_;simp only[aq];congr 1; funext x S1; congr 1; funext y S2; congr 1; funext r S3;cases r<;>first|rfl|(rename_i b; cases b<;>simp[aq])
@[simp]theorem sL(a b:E):ev sub cf (.and a b) σ S=(ev sub cf a σ S).bind λr S1=>match r with|.bl true=>ev sub cf b σ S1|.bl false=>.ok (.bl false) S1|_=>.bad:=by
 show(ev sub cf a σ>>=λr=>match r with|.bl true=>ev sub cf b σ|.bl false=>pure (D.bl false)|_=>bad) S=_;rw[aq]; congr 1; funext r S1;cases r<;>first|rfl|(rename_i b; cases b<;>rfl)
@[simp]theorem E2(a:E):ev sub cf (.neg a) σ S=(ev sub cf a σ S).bind λr S1=>match r with|.int i=>.ok (.int (-i)) S1|_=>.bad:=by
 show(ev sub cf a σ>>=λr=>match r with|.int i=>pure (D.int (-i))|_=>bad) S=_;rw[aq]; congr 1; funext r S1; cases r<;>rfl
@[simp]theorem w_(c a b:E):ev sub cf (.ite c a b) σ S=(evT sub cf c σ S).bind λk S1=>if k=true then ev sub cf a σ S1 else ev sub cf b σ S1:=by
 show(evT sub cf c σ>>=λk=>if k=true then ev sub cf a σ else ev sub cf b σ) S=_;rw[aq]; congr 1; funext k S1; cases k<;>rfl
@[simp]theorem Eg:evs sub cf .nl σ S=.ok [] S:=id rfl
@[simp]theorem wG(a r:E):evs sub cf (.cs a r) σ S=(ev sub cf a σ S).bind λx S1=>(evs sub cf r σ S1).bind λxs S2=>.ok (x::xs) S2:=by
 show(ev sub cf a σ>>=λx=>evs sub cf r σ>>=λxs=>pure (x::xs)) S=_;simp only[aq]; rfl
@[simp]theorem zp(es:E):ev sub cf (.tup es) σ S=(evs sub cf es σ S).bind λds S1=>if fits ds.length=true then .ok (.tup ds) S1 else .bad:=by
 show(evs sub cf es σ>>=λds=>guard (fits ds.length) (pure (D.tup ds))) S=_;rw[aq]; simp only[gf,Gr]
@[simp]theorem CJ(es:E):ev sub cf (.lst es) σ S=(evs sub cf es σ S).bind λds S1=>if fits ds.length=true then .ok (.loc S1.length) (S1++[.lst ds]) else .bad:=by
 show(evs sub cf es σ>>=λds=>guard (fits ds.length) (alloc (.lst ds))) S=_;rw[aq]; simp only[gf,uO]
@[simp]theorem zE(a i:E):ev sub cf (.ix a i) σ S=(ev sub cf a σ S).bind λx S1=>(ev sub cf i σ S1).bind λy S2=>ixD x y S2:=by
 show(ev sub cf a σ>>=λx=>ev sub cf i σ>>=λy=>ixD x y) S=_;simp only[aq]
noncomputable def fP(e:E)(S:af):Res (Option Int):=if e.bq=true then .ok none S else(ev sub cf e σ S).bind λd S1=>fN d S1
@[simp]theorem Fz(a lo hi:E):ev sub cf (.sl a lo hi) σ S=(ev sub cf a σ S).bind λx S1=>(fP sub cf σ lo S1).bind λl S2=>(fP sub cf σ hi S2).bind λh S3=>slD x l h S3:=by
 show(ev sub cf a σ>>=λx=>(if lo.bq=true then pure none else ev sub cf lo σ>>=fN)>>=λl=>(if hi.bq=true then pure none else ev sub cf hi σ>>=fN)>>=λh=>slD x l h) S=_;simp only[aq];congr 1; funext x S1;unfold fP;cases lo.bq<;>cases hi.bq<;>simp[aq]
@[simp]theorem Dw(f:Str)(es:E):ev sub cf (.call f es) σ S=(evs sub cf es σ S).bind λds S1=>cf f ds S1:=by
 show(evs sub cf es σ>>=λds=>cf f ds) S=_;rw[aq]
@[simp]theorem Bh(b:Bi)(es:E):ev sub cf (.bi b es) σ S=(evs sub cf es σ S).bind λds S1=>biD sub b ds S1:=by
 show(evs sub cf es σ>>=λds=>biD sub b ds) S=_;rw[aq]
@[simp]theorem uR(m:Me)(o es:E):ev sub cf (.me m o es) σ S=(ev sub cf o σ S).bind λx S1=>if x.dz S1=true then(evs sub cf es σ S1).bind λds S2=>meD m x ds S2 else .bad:=by
 show(ev sub cf o σ>>=λx=>lu x (evs sub cf es σ>>=λds=>meD m x ds)) S=_;rw[aq]; congr 1; funext x S1;show guard (x.dz S1) (evs sub cf es σ>>=λds=>meD m x ds) S1=_;rw[gf,aq]
theorem d_(k:Nat)(el:E)(t:Tg)(it tt:E):ev sub cf (.comp k el t it tt) σ S=(evI sub cf it σ S).bind λs S1=>(quiet (bE s (λd=>aT t d (σ++List.replicate k none)>>=λσ'=>(if tt.bq=true then pure true else evT sub cf tt σ')>>=λb=>if b=true then ev sub cf el σ'>>=λy=>pure (some y) else pure none) s.its) S1).bind λys S2=>if fits ys.length=true then .ok (.loc S2.length) (S2++[.lst ys]) else .bad:=by
 show(evI sub cf it σ>>=λs=>quiet (bE s (λd=>aT t d (σ++List.replicate k none)>>=λσ'=>(if tt.bq=true then pure true else evT sub cf tt σ')>>=λb=>if b=true then ev sub cf el σ'>>=λy=>pure (some y) else pure none) s.its)>>=λys=>guard (fits ys.length) (alloc (.lst ys))) S=_;simp only[aq,gf,uO]
@[simp]theorem rE(a b:E):evT sub cf (.and a b) σ S=(evT sub cf a σ S).bind λk S1=>if k=true then evT sub cf b σ S1 else .ok false S1:=by
 show(evT sub cf a σ>>=λk=>if k=true then evT sub cf b σ else pure false) S=_;rw[aq]; congr 1; funext k S1; cases k<;>rfl
@[simp]theorem sy(a b:E):evT sub cf (.or a b) σ S=(evT sub cf a σ S).bind λk S1=>if k=true then .ok true S1 else evT sub cf b σ S1:=by
 show(evT sub cf a σ>>=λk=>if k=true then pure true else evT sub cf b σ) S=_;rw[aq]; congr 1; funext k S1; cases k<;>rfl
@[simp]theorem ET(a:E):evT sub cf (.not a) σ S=(evT sub cf a σ S).bind λk S1=>.ok (!k) S1:=by
 show(evT sub cf a σ>>=λk=>pure (!k)) S=_;rw[aq]; rfl
@[simp]theorem BB(o:Cm)(a b:E):evT sub cf (.cmp o a b) σ S=(ev sub cf a σ S).bind λx S1=>(ev sub cf b σ S1).bind λy S2=>(cmD o x y S2).bind λr S3=>truth r S3:=by
 show(ev sub cf a σ>>=λx=>ev sub cf b σ>>=λy=>cmD o x y>>=λr=>truth r) S=_;simp only[aq]
@[simp]theorem FP(o o':Cm)(a b c:E):evT sub cf (.chn o o' a b c) σ S=(ev sub cf a σ S).bind λx S1=>(ev sub cf b σ S1).bind λy S2=>(cmD o x y S2).bind λr S3=>(truth r S3).bind λk S4=>if k=true then(ev sub cf c σ S4).bind λz S5=>(cmD o' y z S5).bind λr S6=>truth r S6 else .ok false S4:=by
 show(ev sub cf a σ>>=λx=>ev sub cf b σ>>=λy=>cmD o x y>>=λr=>truth r>>=λk=>if k=true then ev sub cf c σ>>=λz=>cmD o' y z>>=λr=>truth r else pure false) S=_;simp only[aq];congr 1; funext x S1; congr 1; funext y S2; congr 1; funext r S3; congr 1; funext k S4;cases k<;>simp[aq]
@[simp]theorem zS(a:E):evT sub cf (.isN a) σ S=(ev sub cf a σ S).bind λr S1=>.ok (decide (r=.non)) S1:=by
 show(ev sub cf a σ>>=λr=>pure (decide (r=.non))) S=_;rw[aq]; rfl
@[simp]theorem C7(a:E):evT sub cf (.notN a) σ S=(ev sub cf a σ S).bind λr S1=>.ok (!decide (r=.non)) S1:=by
 show(ev sub cf a σ>>=λr=>pure (!decide (r=.non))) S=_;rw[aq]; rfl
@[simp]theorem Gh(f:Str)(es:E):evT sub cf (.call f es) σ S=(ev sub cf (.call f es) σ S).bind λd S1=>truth d S1:=by
 show(ev sub cf (.call f es) σ>>=truth) S=_;rw[aq]
@[simp]theorem GK(b:Bi)(es:E):evT sub cf (.bi b es) σ S=(ev sub cf (.bi b es) σ S).bind λd S1=>truth d S1:=by
 show(ev sub cf (.bi b es) σ>>=truth) S=_;rw[aq]
@[simp]theorem ER(a:E):evI sub cf (.iSeq a) σ S=(ev sub cf a σ S).bind λd S1=>srcOf d S1:=by
 show(ev sub cf a σ>>=srcOf) S=_;rw[aq]
@[simp]theorem CD(a:E):evI sub cf (.iEnum a) σ S=(ev sub cf a σ S).bind λd S1=>(srcOf d S1).bind λs S2=>.ok { s with its:=num 0 s.its } S2:=by
 show(ev sub cf a σ>>=λd=>srcOf d>>=λs=>pure { s with its:=num 0 s.its }) S=_;simp only[aq]; rfl
@[simp]theorem Bd(es:E):evI sub cf (.iRng es) σ S=(evs sub cf es σ S).bind λds S1=>(opt (dO ds) S1).bind λis S2=>.ok ⟨is.map .int,none,[]⟩ S2:=by
 show(evs sub cf es σ>>=λds=>opt (dO ds)>>=λis=>pure (⟨is.map .int,none,[]⟩:Src)) S=_;simp only[aq]; rfl
@[simp]theorem Jo(e:E):exec sub cf (.ret e) σ S=(ev sub cf e σ S).bind λd S1=>.ok (.rt d) S1:=by
 show(ev sub cf e σ>>=λd=>pure (Fl.rt d)) S=_;rw[aq]; rfl
@[simp]theorem xh(t:Tg)(e:E):exec sub cf (.set t e) σ S=(ev sub cf e σ S).bind λd S1=>(aT t d σ S1).bind λσ' S2=>.ok (.nx σ') S2:=by
 show(ev sub cf e σ>>=λd=>aT t d σ>>=λσ'=>pure (Fl.nx σ')) S=_;simp only[aq]; rfl
@[simp]theorem qd(e:E):exec sub cf (.ex e) σ S=(ev sub cf e σ S).bind λ_ S1=>.ok (.nx σ) S1:=by
 show(ev sub cf e σ>>=λ_=>pure (Fl.nx σ)) S=_;rw[aq]; rfl
@[simp]theorem ur(c:E)(a b:EV.S):exec sub cf (.ite c a b) σ S=(evT sub cf c σ S).bind λk S1=>if k=true then exec sub cf a σ S1 else exec sub cf b σ S1:=by
 show(evT sub cf c σ>>=λk=>if k=true then exec sub cf a σ else exec sub cf b σ) S=_;rw[aq]; congr 1; funext k S1; cases k<;>rfl
theorem Gf(t:Tg)(it:E)(b:EV.S):exec sub cf (.forS t it b) σ S=quiet (evI sub cf it σ>>=λs=>forL s (λd σ=>aT t d σ>>=λσ'=>exec sub cf b σ') s.its σ) S:=rfl
noncomputable def jT(b:EV.S)(r:Res Fl):Res Fl:=r.bind λf S1=>match f with|.nx σ'=>exec sub cf b σ' S1|f=>.ok f S1
@[simp]theorem yy(b:EV.S)(σ':Sg)(S1:af):jT sub cf b (.ok (.nx σ') S1)=exec sub cf b σ' S1:=id rfl
@[simp]theorem DH(b:EV.S)(d:D)(S1:af):jT sub cf b (.ok (.rt d) S1)=.ok (.rt d) S1:=id rfl
@[simp]theorem vc(a b:EV.S):exec sub cf (.seq a b) σ S=jT sub cf b (exec sub cf a σ S):=by
 show(exec sub cf a σ>>=λf=>match f with|.nx σ'=>exec sub cf b σ'|f=>pure f) S=_;rw[aq]; unfold jT; congr 1; funext f S1; cases f<;>rfl
end
theorem Az{sub:Sub}{cf:Str->List D->M D}{σ σ':Sg}{S S':af}{a r:EV.S}(h:exec sub cf a σ S=.ok (.nx σ') S'):exec sub cf (.seq a r) σ S=exec sub cf r σ' S':=by
 rw[vc,h,yy]
theorem HZ(σ:Sg)(i:Nat)(S:af):bu σ i S=match σ[i]? with|some (some d)=>.ok d S|_=>.bad:=by
 unfold bu
 cases σ[i]? with
 | none=>rfl
 | some x=>cases x<;>rfl
@[simp]theorem J0(d:D)(σ:Sg)(S:af):bu (some d::σ) 0 S=.ok d S:=id rfl
@[simp]theorem Ke(x:Option D)(σ:Sg)(i:Nat)(S:af):bu (x::σ) (i+1) S=bu σ i S:=id rfl
@[simp]theorem iP(i:Nat)(d:D)(σ:Sg)(S:af):aT (.one i) d σ S=.ok (σ.set i (some d)) S:=id rfl
@[simp]theorem lU(is:List Nat)(ds:Ya)(σ:Sg)(S:af):aT (.many is) (.tup ds) σ S=if ds.length=is.length then .ok (cy is ds σ) S else .bad:=by
 show guard (decide (ds.length=is.length)) (pure (cy is ds σ)) S=_;simp
@[simp]theorem lC(i j:Int)(S:af):opD .add (.int i) (.int j) S=.ok (.int (i+j)) S:=id rfl
@[simp]theorem f6(i j:Int)(S:af):opD .sub (.int i) (.int j) S=.ok (.int (i-j)) S:=id rfl
@[simp]theorem Ad(i j:Int)(S:af):opD .mul (.int i) (.int j) S=if(small i||small j)=true then .ok (.int (i*j)) S else .bad:=by
 show guard _ _ S=_;simp
@[simp]theorem G2(i j:Int)(S:af):opD .fdiv (.int i) (.int j) S=if(decide (0<j)&&decide (j<1073741824))=true then .ok (.int (i/j)) S else .bad:=by
 show guard _ _ S=_;simp
theorem JZ(i j:Int)(S:af):opD .pow (.int i) (.int j) S=if(decide (0<=j)&&decide (j<=1000)&&decide (i.natAbs<2^64))=true then .ok (.int (i^j.toNat)) S else .bad:=by
 show guard _ _ S=_;simp
@[simp]theorem x9(i j:Int)(S:af):opD .mod (.int i) (.int j) S=if 0<j then .ok (.int (i%j)) S else .bad:=by
 show guard _ _ S=_;simp
@[simp]theorem C5{n:Nat}(h:n<=1000):fits n=true:=Zj (by unfold aP; omega)
@[simp]theorem lT(i j:Int)(S:af):cmD .lt (.int i) (.int j) S=.ok (.bl (decide (i<j))) S:=id rfl
@[simp]theorem iL(i j:Int)(S:af):cmD .le (.int i) (.int j) S=.ok (.bl (decide (i<=j))) S:=id rfl
@[simp]theorem iK(i j:Int)(S:af):cmD .gt (.int i) (.int j) S=.ok (.bl (decide (j<i))) S:=id rfl
@[simp]theorem ED(i j:Int)(S:af):cmD .ge (.int i) (.int j) S=.ok (.bl (decide (j<=i))) S:=id rfl
theorem kR(x y:D)(S:af):cmD .eq x y S=match eqD deep S x y with|some k=>.ok (.bl k) S|none=>.bad:=by
 show(eqM x y>>=λb=>pure (D.bl b)) S=_;rw[aq];unfold eqM;cases eqD deep S x y<;>rfl
theorem tS(x y:D)(S:af):cmD .ne x y S=if eF x y=true then(match eqD deep S x y with|some k=>.ok (.bl (!k)) S|none=>.bad) else .bad:=by
 show guard (eF x y) (eqM x y>>=λb=>pure (D.bl (!b))) S=_;rw[gf,aq];unfold eqM;cases eqD deep S x y<;>rfl
@[simp]theorem eO(i j:Int)(S:af):cmD .eq (.int i) (.int j) S=.ok (.bl (i==j)) S:=id rfl
@[simp]theorem oA(i j:Str)(S:af):cmD .eq (.str i) (.str j) S=.ok (.bl (i==j)) S:=id rfl
@[simp]theorem vL(i j:Int)(S:af):cmD .ne (.int i) (.int j) S=.ok (.bl (!(i==j))) S:=id rfl
theorem bT{l:Nat}{ds:Ya}{S:af}(h:S[l]?=some (.lst ds)):items (.loc l) S=.ok ds S:=by
 show(match listAt S l with|some ds=>Res.ok ds S|none=>.bad)=_;unfold listAt; rw[h]
theorem lH(a:D)(j:Int)(S:af):ixD a (.int j) S=(items a S).bind λxs S1=>opt (atI xs j) S1:=by
 show(items a>>=λxs=>opt (atI xs j)) S=_;rw[aq]
@[simp]theorem IW(xs:Ya)(j:Int)(S:af):ixD (.tup xs) (.int j) S=opt (atI xs j) S:=by rw[lH]; rfl
@[simp]theorem yH(xs:Ya)(j:Int)(S:af):ixD (.fro xs) (.int j) S=opt (atI xs j) S:=by rw[lH]; rfl
theorem AG{l:Nat}{xs:Ya}{j:Int}{S:af}(h:S[l]?=some (.lst xs)):ixD (.loc l) (.int j) S=opt (atI xs j) S:=by rw[lH,bT h]; rfl
theorem nO{xs:Ya}{j:Nat}:atI xs (j:Int)=xs[j]?:=by
 unfold atI ixN;rw[Zf (by omega)]
 by_cases h:j<xs.length
 ·rw[Zf (by omega)]; simp
 ·rw[Zh (by omega)]; rw[XC (by omega)]; rfl
@[simp]theorem oZ(xs:Ya):atI xs 0=xs[0]?:=nO (j:=0)
@[simp]theorem o6(sub:Sub)(d:D)(S:af):biD sub .len [d] S=(items d S).bind λds S1=>.ok (.int ds.length) S1:=by
 show(items d>>=λds=>pure (D.int ds.length)) S=_;rw[aq]; rfl
@[simp]theorem IT(sub:Sub)(t:Ty)(d:D)(S:af):biD sub (.inst t) [d] S=match ff sub S d t with|some k=>.ok (.bl k) S|none=>.bad:=id rfl
@[simp]theorem DC(sub:Sub)(d:D)(S:af):biD sub .tuple [d] S=(items d S).bind λds S1=>.ok (.tup ds) S1:=by
 show(items d>>=λds=>pure (D.tup ds)) S=_;rw[aq]; rfl
theorem mW(sub:Sub)(d:D)(S:af):biD sub .all [d] S=(items d S).bind λds S1=>(opt (cS ds) S1).bind λbs S2=>.ok (.bl (bs.all id)) S2:=by
 show(items d>>=λds=>opt (cS ds)>>=λbs=>pure (D.bl (bs.all id))) S=_;simp only[aq]; rfl
theorem E6(sub:Sub)(d:D)(S:af):biD sub .sum [d] S=(items d S).bind λds S1=>(opt (allInts ds) S1).bind λis S2=>.ok (.int is.sum) S2:=by
 show(items d>>=λds=>opt (allInts ds)>>=λis=>pure (D.int is.sum)) S=_;simp only[aq]; rfl
theorem J1(sub:Sub)(d:D)(S:af):biD sub .max [d] S=(items d S).bind λds S1=>(opt (allInts ds) S1).bind λis S2=>oj is S2:=by
 show(items d>>=λds=>opt (allInts ds)>>=λis=>oj is) S=_;simp only[aq]
theorem lJ{l:Nat}{ds:Ya}{d:D}{S:af}(h:S[l]?=some (.lst ds))(hz:ds.length<aP):meD .append (.loc l) [d] S=.ok .non (S.set l (.lst (ds++[d]))):=by
 show bg l (λds=>guard (fC ds.length) (put l (.lst (ds++[d])))) S=_;unfold bg;rw[h];simp[fC,hz,put]
theorem l_{l k:Nat}{ds es:Ya}{S:af}(h:S[l]?=some (.lst ds))(h2:S[k]?=some (.lst es))(hz:ds.length+es.length<=aP):meD .extend (.loc l) [.loc k] S=.ok .non (S.set l (.lst (ds++es))):=by
 show bg l (λds=>bg k λes=>guard (fits (ds.length+es.length)) (put l (.lst (ds++es)))) S=_;unfold bg;rw[h];simp only;rw[h2];simp[fits,hz,put]
@[simp]theorem eG(S T:af)(c:Cell):(S++c::T)[S.length]?=some c:=by simp
@[simp]theorem DQ(S T:af)(k:Nat):(S++T)[S.length+k]?=T[k]?:=by
 rw[ZO (by omega)]; congr 1; omega
@[simp]theorem jm(S T:af)(c d:Cell):(S++c::T).set S.length d=S++d::T:=by simp
@[simp]theorem bS(S T:af):(S++T).take S.length=S:=by simp
theorem C_{S T:af}{xs:Ya}{d:D}(h:xs.length<=1000000):meD .append (.loc S.length) [d] (S++.lst xs::T)=.ok .non (S++.lst (xs++[d])::T):=by
 rw[lJ (ds:=xs) (eG S T _) (by unfold aP; omega),jm]
theorem cL{s:Src}{S:af}(h:s.l=none\/∃l,s.l=some l/\S[l]?=some (.lst s.raw)):aL s S=.ok () S:=by
 unfold aL;rcases h with h|⟨l,h,h2⟩
 ·rw[h]; rfl
 ·rw[h]; unfold listAt; simp[h2]
theorem j6(s:Src)(f:D->Sg->M Fl)(σ:Sg)(S:af):forL s f [] σ S=(aL s S).bind λ_ S1=>.ok (.nx σ) S1:=by
 show(aL s>>=λ_=>pure (Fl.nx σ)) S=_;rw[aq]; rfl
theorem jn(s:Src)(f:D->Sg->M Fl)(d:D)(ds:Ya)(σ:Sg)(S:af):forL s f (d::ds) σ S=(aL s S).bind λ_ S1=>(f d σ S1).bind λfl S2=>match fl with
  | .nx σ'=>forL s f ds σ' S2|.ct σ'=>forL s f ds σ' S2|.bk σ'=>.ok (.nx σ') S2|.rt d=>.ok (.rt d) S2:=by
 show(aL s>>=λ_=>f d σ>>=λfl=>match fl with|.nx σ'=>forL s f ds σ'|.ct σ'=>forL s f ds σ'|.bk σ'=>pure (Fl.nx σ')|.rt d=>pure (Fl.rt d)) S=_;simp only[aq];congr 1; funext _ S1; congr 1; funext fl S2; cases fl<;>rfl
theorem mV(s:Src)(f:D->M (Option D))(S:af):bE s f [] S=(aL s S).bind λ_ S1=>.ok [] S1:=by
 show(aL s>>=λ_=>pure []) S=_;rw[aq]; rfl
theorem kP(s:Src)(f:D->M (Option D))(d:D)(ds:Ya)(S:af):bE s f (d::ds) S=(aL s S).bind λ_ S1=>(f d S1).bind λy S2=>(bE s f ds S2).bind λys S3=>.ok (match y with|some y=>y::ys|none=>ys) S3:=by
 show(aL s>>=λ_=>f d>>=λy=>bE s f ds>>=λys=>pure (match y with|some y=>y::ys|none=>ys)) S=_;simp only[aq]; rfl
theorem o8{s:Src}{f:D->M (Option D)}{g:D->Option D}{S:af}(hs:aL s S=.ok () S):∀{its:Ya},(∀d∈its,f d S=.ok (g d) S)->bE s f its S=.ok (its.filterMap g) S
 | [],_=>by rw[mV,hs]; rfl
 | d::ds,h=>by
  rw[kP,hs];simp only[Res.aj];rw[h d Zo];simp only[Res.aj];rw[o8 hs λe he=>h e (Zr _ he)];simp only[Res.aj,Xk];cases g d<;>rfl
theorem Iq(S S':af)(d:D):iV S (.ok (.rt d) S')=leave S d S':=rfl
mutual
theorem sf:∀{d:D} {n m:Nat},n<=m->d.low n=true->d.low m=true
 | .tup ds,n,m,h,q=>i6 h q
 | .fro ds,n,m,h,q=>i6 h q
 | .loc l,n,m,h,q=>Zj (ZN (Zl q) h)
 | .non,_,_,_,_=>rfl
 | .bl _,_,_,_,_=>rfl
 | .int _,_,_,_,_=>rfl
 | .str _,_,_,_,_=>rfl
 | .exn _,_,_,_,_=>rfl
theorem i6:∀{ds:Ya} {n m:Nat},n<=m->D.lows n ds=true->D.lows m ds=true
 | [],_,_,_,_=>rfl
 | d::r,n,m,h,q=>by
  rw[D.lows,Zv] at q ⊢;exact⟨sf h q.1,i6 h q.2⟩
end
abbrev D.cl(d:D):Prop:=d.low 0=true
theorem bN{S S':af}{d:D}(h:d.cl)(ht:S'.take S.length=S):leave S d S'=.ok d S:=by
 unfold leave;rw[Zf ht,Zf (sf (Xe _) h)]
theorem leave_new{S T:af}{ds:Ya}{k:Nat}(h:T[k]?=some (.lst ds))(hc:D.lows 0 ds=true):leave S (.loc (S.length+k)) (S++T)=.ok (.loc S.length) (S++[.lst ds]):=by
 unfold leave;rw[Zf (by simp)];rw[Zh (by show ¬decide (S.length+k<S.length)=true; simp)];simp only;rw[DQ,h];simp only;rw[Zf (show Cell.low S.length (.lst ds)=true from i6 (Xe _) hc)]
theorem oJ{n:Nat}:∀{ds:Ya},D.lows n ds=true ↔ ∀d∈ds,d.low n=true
 | []=>by simp[D.lows]
 | d::r=>by rw[D.lows,Zv,oJ]; simp
theorem CQ{n:Nat}(is:WU):D.lows n (is.map .int)=true:=oJ.mpr λd h=>by
 obtain⟨i,_,rfl⟩:=ZA.mp h; rfl
theorem jJ{α:Type}{n:Nat}{f:α->D}(hf:∀a,(f a).low n=true)(l:List α):D.lows n (l.map f)=true:=oJ.mpr λd h=>by
 obtain⟨i,_,rfl⟩:=ZA.mp h; exact hf i
theorem Fi(is:List Bool):cS (is.map .bl)=some is:=by
 induction is with
 | nil=>rfl
 | cons i r ih=>simp[cS,ih]
section
variable{sub:Sub}{cf:Str->List D->M D}{σ:Sg}{S S1:af}{k i:Nat}{el it tt:E}{s:Src}
theorem JG{g:D->D}{p:D->Bool}(hn:tt.bq=false)(hi:evI sub cf it σ S=.ok s S1)(hs:aL s S1=.ok () S1)(hp:∀d∈s.its,evT sub cf tt ((σ++List.replicate k none).set i (some d)) S1=.ok (p d) S1)
  (hg:∀d∈s.its,p d=true->ev sub cf el ((σ++List.replicate k none).set i (some d)) S1=.ok (g d) S1) (hz:s.its.length<=aP) :
  ev sub cf (.comp k el (.one i) it tt) σ S=.ok (.loc S1.length) (S1++[.lst ((s.its.filter p).map g)]):=by
 rw[d_,hi];simp only[Res.aj]
 have:=o8 (s:=s) (f:=λd=>aT (.one i) d (σ++List.replicate k none)>>=λσ'=>(if tt.bq=true then pure true else evT sub cf tt σ')>>=λb=>if b=true then ev sub cf el σ'>>=λy=>pure (some y) else pure none) (g:=λd=>if p d=true then some (g d) else none) (S:=S1) hs (its:=s.its) (λd hd=>by
  simp only[aq,iP,Res.aj,hn,Zu,ZM];rw[hp d hd]
  cases q:p d with
  | false=>simp
  | true=>simp[aq,hg d hd q])
 rw[fW this]
 have e:s.its.filterMap (λd=>if p d=true then some (g d) else none)=(s.its.filter p).map g:=by
  induction s.its with
  | nil=>rfl
  | cons a r ih=>cases q:p a<;>simp[q,ih]
 rw[e]
 have hz':((s.its.filter p).map g).length<=aP:=by
  rw[Zb]; exact Z2 (Qp _ _) hz
 simp only[Res.aj];rw[Zf (show fits ((s.its.filter p).map g).length=true from Zj hz')]
theorem Ca{is:List Nat}{g:D->D}(hi:evI sub cf it σ S=.ok s S1)(hs:aL s S1=.ok () S1)(hg:∀d∈s.its,∃ds,d=.tup ds/\ds.length=is.length/\ev sub cf el (cy is ds (σ++List.replicate k none)) S1=.ok (g d) S1)(hz:s.its.length<=aP) :
  ev sub cf (.comp k el (.many is) it .nl) σ S=.ok (.loc S1.length) (S1++[.lst (s.its.map g)]):=by
 rw[d_,hi];simp only[Res.aj]
 have:=o8 (s:=s) (f:=λd=>aT (.many is) d (σ++List.replicate k none)>>=λσ'=>(if E.bq .nl=true then pure true else evT sub cf .nl σ')>>=λb=>if b=true then ev sub cf el σ'>>=λy=>pure (some y) else pure none) (g:=λd=>some (g d)) (S:=S1) hs (its:=s.its) (λd hd=>by
  obtain⟨ds,rfl,hl,hd⟩:=hg d hd;simp only[aq,lU,hl,Xu,Res.aj];show(ev sub cf el (cy is ds (σ++List.replicate k none))>>=λy=>pure (some y)) S1=_;rw[aq,hd]; rfl)
 rw[fW this];have e:s.its.filterMap (λd=>some (g d))=s.its.map g:=by rw[<- List.filterMap_eq_map]; rfl
 rw[e];simp[fits,hz]
end
@[simp]theorem J4(ds:Ya)(S:af):srcOf (.tup ds) S=.ok ⟨ds,none,ds⟩ S:=id rfl
theorem bZ{l:Nat}{ds:Ya}{S:af}(h:S[l]?=some (.lst ds)):srcOf (.loc l) S=.ok ⟨ds,some l,ds⟩ S:=by
 show(items (.loc l)>>=λds=>pure (⟨ds,some l,ds⟩:Src)) S=_;rw[aq,bT h]; rfl
theorem tR{sub:Sub}{S:af}{α:Type}(l:List α)(g:α->Bool):biD sub .all [.loc S.length] (S++[.lst (l.map λa=>.bl (g a))])=.ok (.bl (l.all g)) (S++[.lst (l.map λa=>.bl (g a))]):=by
 rw[mW,bT (ds:=l.map λa=>D.bl (g a)) (eG S [] _)];simp only[Res.aj];rw[show cS (l.map λa=>D.bl (g a))=some (l.map g) from by rw[<- Fi,Xr]; rfl];simp[WQ]
section
variable{sub:Sub}{cf:Str->List D->M D}{σ:Sg}{S S1 S2:af}{t:Tg}{it:E}{b:EV.S}{s:Src}{fl:Fl}
noncomputable def bH(sub:Sub)(cf:Str->List D->M D)(t:Tg)(b:EV.S):D->Sg->M Fl:=λd σ=>aT t d σ>>=λσ'=>exec sub cf b σ'
theorem nV(i:Nat)(b:EV.S)(d:D)(σ:Sg)(S:af):bH sub cf (.one i) b d σ S=exec sub cf b (σ.set i (some d)) S:=by
 unfold bH; rw[aq]; rfl
theorem Ip(is:List Nat)(b:EV.S)(ds:Ya)(σ:Sg)(S:af)(h:ds.length=is.length):bH sub cf (.many is) b (.tup ds) σ S=exec sub cf b (cy is ds σ) S:=by
 unfold bH; rw[aq,lU,Zf h]; rfl
theorem fh(hi:evI sub cf it σ S=.ok s S1)(hf:forL s (bH sub cf t b) s.its σ S1=.ok fl S2):exec sub cf (.forS t it b) σ S=.ok fl S2:=by
 rw[Gf];apply fW;rw[aq,hi];exact hf
end
section
variable{sub:Sub}{cf:Str->List D->M D}{s:Src}{i j l:Nat}{e:E}{g:D->D}
noncomputable def fO(i:Nat)(its:Ya)(σ:Sg):Sg:=match its.getLast? with
 | some d=>σ.set i (some d)
 | none=>σ
@[simp]theorem J5(i:Nat)(σ:Sg):fO i [] σ=σ:=id rfl
theorem B_(i:Nat)(d:D)(its:Ya)(σ:Sg):fO i (d::its) σ=fO i its (σ.set i (some d)):=by
 unfold fO;rw[List.getLast?_cons]
 cases q:its.getLast? with
 | none=>rfl
 | some e=>simp[Ww]
theorem iB{α:Type}{S:List α}{l:Nat}{c:α}(h:S[l]?=some c):S.set l c=S:=by
 apply QL;intro k;rw[List.getElem?_set];split
 ·rename_i e; subst e;split
  ·exact h.symm
  ·rename_i h2; exact absurd (Zi.mp h).1 h2
 ·rfl
theorem get_set{α:Type}{S:List α}{l:Nat}{c d:α}(h:S[l]?=some c):(S.set l d)[l]?=some d:=by
 rw[Xb (Zi.mp h).1]
theorem Cr{σ:Sg}{S:af}{xs:Ya}{d:D}(hj:σ[j]?=some (some (.loc l)))(hS:S[l]?=some (.lst xs))(he:ev sub cf e σ S=.ok d S)(hz:xs.length<aP) :
  exec sub cf (.ex (.me .append (.v j) (.cs e .nl))) σ S=.ok (.nx σ) (S.set l (.lst (xs++[d]))):=by
 have hv:bu σ j S=.ok (.loc l) S:=by rw[HZ,hj]
 have hL:(D.loc l).dz S=true:=by show(match S[l]? with|some (.lst _)=>true|_=>false)=true; rw[hS]
 simp only[qd,uR,EB,hv,Res.aj,hL,Xu,wG,he,Eg,lJ hS hz]
theorem uD{α:Type}{f g:α->D}(hij:i≠j):∀{ks:List α} {σ:Sg} {S:af} {xs:Ya},σ[j]?=some (some (.loc l))->S[l]?=some (.lst xs)->(∀ys,aL s (S.set l (.lst ys))=.ok () (S.set l (.lst ys))) ->
  (∀a∈ks,∀ys,ev sub cf e (σ.set i (some (f a))) (S.set l (.lst ys))=.ok (g a) (S.set l (.lst ys)))->xs.length+ks.length<=aP ->
  forL s (bH sub cf (.one i) (.ex (.me .append (.v j) (.cs e .nl)))) (ks.map f) σ S=.ok (.nx (fO i (ks.map f) σ)) (S.set l (.lst (xs++ks.map g)))
 | [],σ,S,xs,h1,h2,h3,h4,h5=>by
  have:=h3 xs;rw[iB h2] at this;rw[Qw,j6,this];simp[iB h2]
 | d::ks,σ,S,xs,h1,h2,h3,h4,h5=>by
  have hst:=h3 xs;rw[iB h2] at hst;rw[ZI,jn,hst];simp only[Res.aj,nV];have h1':(σ.set i (some (f d)))[j]?=some (some (.loc l)):=by rw[ZX hij]; exact h1
  have hd:=h4 d Zo xs;rw[iB h2] at hd;rw[Cr h1' h2 hd (by simp at h5; omega)];simp only[Res.aj]
  rw[uD hij (xs:=xs++[g d]) h1' (get_set h2) (λys=>by rw[Ww]; exact h3 ys)
   (λa ha ys=>by rw[Ww,Ww]; exact h4 a (Zr _ ha) ys) (by simp at h5 ⊢; omega)]
  rw[B_,Ww,ZI,Zq];rfl
end
theorem FZ{i:Nat}{its:Ya}{σ:Sg}(h:i<σ.length):∃x,fO i its σ=σ.set i x:=by
 unfold fO
 cases its.getLast? with
 | some d=>exact⟨_,rfl⟩
 | none=>exact⟨σ[i],(iB (Ze h)).symm⟩
theorem DR{i:Int}(h1:-1000000000<=i)(h2:i<=1000000000):near i=true:=Zj ⟨by omega,by omega⟩
theorem yC(j:Int):rng 0 j 1=(List.range j.toNat).map λ(k:Nat)=>(k:Int):=by
 unfold rng;rw[Zf (by decide)];have:(j-0+1-1)/1=j:=by rw[WO]; omega
 rw[this];simp
theorem yr{j:Int}(h1:-1000000000<=j)(h2:j<=1000000000):dO [.int j]=some ((List.range j.toNat).map λ(k:Nat)=>(k:Int)):=by
 show(if near j=true then some (rng 0 j 1) else none)=_;rw[Zf (DR h1 h2),yC]
theorem mz{sub:Sub}{cf:Str->List D->M D}{i j l:Nat}{it e:E}{σ:Sg}{S S1:af}{xs:Ya}{α:Type}{ks:List α}{f g:α->D}{o:Option Nat}{raw:Ya}
  (hit:evI sub cf it σ S=.ok ⟨ks.map f,o,raw⟩ S1) (hj:σ[j]?=some (some (.loc l))) (hS:S1[l]?=some (.lst xs)) (hij:i≠j) (hi:i<σ.length) (hst:∀ys,aL ⟨ks.map f,o,raw⟩ (S1.set l (.lst ys))=.ok () (S1.set l (.lst ys)))
  (he:∀a∈ks,∀ys,ev sub cf e (σ.set i (some (f a))) (S1.set l (.lst ys))=.ok (g a) (S1.set l (.lst ys))) (hz:xs.length+ks.length<=aP) :
  ∃x,exec sub cf (.forS (.one i) it (.ex (.me .append (.v j) (.cs e .nl)))) σ S=.ok (.nx (σ.set i x)) (S1.set l (.lst (xs++ks.map g))):=by
 obtain⟨x,hx⟩:=FZ (i:=i) (its:=ks.map f) (σ:=σ) hi;refine⟨x,?_⟩;rw[<- hx];exact fh hit (uD hij hj hS hst he hz)
theorem Fg{S:af}{a b:Nat}{xs ys:Ya}(ha:S[a]?=some (.lst xs))(hb:S[b]?=some (.lst ys)):eqD deep S (.loc a) (.loc b)=if xs.length=ys.length then bx (eqD 11 S) xs ys else some false:=by
 have e1:listAt S a=some xs:=by unfold listAt; rw[ha]
 have e2:listAt S b=some ys:=by unfold listAt; rw[hb]
 show(match listAt S a,listAt S b with|some xs,some ys=>if xs.length=ys.length then bx (eqD 11 S) xs ys else some false|_,_=>none)=_;rw[e1,e2]
theorem jc{S:af}{a b:Nat}{xs:Ya}(ha:S[a]?=some (.lst xs))(hb:S[b]?=some (.lst [])):cmD .eq (.loc a) (.loc b) S=.ok (.bl xs.isEmpty) S:=by
 rw[kR,Fg ha hb];cases xs<;>simp[bx]
theorem qo{s:Src}{f:D->Sg->M Fl}:∀{its:Ya} (I:Nat->Sg->af->Prop) {σ:Sg} {S:af},I 0 σ S->(∀i σ T,I i σ T->aL s T=.ok () T) ->
  (∀i (h:i<its.length) σ T,I i σ T->∃σ' T',f its[i] σ T=.ok (.nx σ') T'/\I (i+1) σ' T')->∃σ' T',forL s f its σ S=.ok (.nx σ') T'/\I its.length σ' T'
 | [],I,σ,S,h0,h1,_=>⟨σ,S,by rw[j6,h1 0 σ S h0]; rfl,h0⟩
 | d::ds,I,σ,S,h0,h1,h2=>by
  obtain⟨σ1,T1,e1,i1⟩:=h2 0 (by simp) σ S h0;obtain⟨σ2,T2,e2,i2⟩:=qo (its:=ds) (λi=>I (i+1)) i1 (λi=>h1 (i+1)) λi hi=>h2 (i+1) (by simpa using hi)
  refine⟨σ2,T2,?_,i2⟩;rw[jn,h1 0 σ S h0];simp only[Res.aj];rw[show f d σ S=.ok (.nx σ1) T1 from e1];exact e2
theorem g9{sub:Sub}{cf:Str->List D->M D}{t:Tg}{it:E}{b:EV.S}{σ:Sg}{S S1:af}{s:Src}(I:Nat->Sg->af->Prop)(hi:evI sub cf it σ S=.ok s S1)(h0:I 0 σ S1)(h1:∀i σ T,I i σ T->aL s T=.ok () T)
  (h2:∀i (h:i<s.its.length) σ T,I i σ T->∃σ' T',bH sub cf t b s.its[i] σ T=.ok (.nx σ') T'/\I (i+1) σ' T'):∃σ' T',exec sub cf (.forS t it b) σ S=.ok (.nx σ') T'/\I s.its.length σ' T':=by
 obtain⟨σ',T',e,i⟩:=qo I h0 h1 h2;exact⟨σ',T',fh hi e,i⟩
theorem mQ{α:Type}{s:Src}{fn:D->M (Option D)}{f:α->D}{g:α->Option D}{S:af}(hs:aL s S=.ok () S):∀{ks:List α},(∀a∈ks,fn (f a) S=.ok (g a) S)->bE s fn (ks.map f) S=.ok (ks.filterMap g) S
 | [],_=>by rw[Qw,mV,hs]; rfl
 | d::ds,h=>by
  rw[ZI,kP,hs];simp only[Res.aj];rw[h d Zo];simp only[Res.aj];rw[mQ hs λe he=>h e (Zr _ he)];simp only[Res.aj,Xk];cases g d<;>rfl
theorem fS{sub:Sub}{cf:Str->List D->M D}{σ:Sg}{S S1:af}{k i:Nat}{el it:E}{α:Type}{ks:List α}{f g:α->D}{o:Option Nat}{raw:Ya}(hi:evI sub cf it σ S=.ok ⟨ks.map f,o,raw⟩ S1)(hs:aL ⟨ks.map f,o,raw⟩ S1=.ok () S1)
  (hg:∀a∈ks,ev sub cf el ((σ++List.replicate k none).set i (some (f a))) S1=.ok (g a) S1) (hz:ks.length<=aP) :
  ev sub cf (.comp k el (.one i) it .nl) σ S=.ok (.loc S1.length) (S1++[.lst (ks.map g)]):=by
 rw[d_,hi];simp only[Res.aj]
 have:=mQ (s:=⟨ks.map f,o,raw⟩) (f:=f) (fn:=λd=>aT (.one i) d (σ++List.replicate k none)>>=λσ'=>(if E.bq .nl=true then pure true else evT sub cf .nl σ')>>=λb=>if b=true then ev sub cf el σ'>>=λy=>pure (some y) else pure none) (g:=λa=>some (g a)) (S:=S1) hs (ks:=ks) (λd hd=>by
  simp only[aq,iP,Res.aj];show(ev sub cf el ((σ++List.replicate k none).set i (some (f d)))>>=λy=>pure (some y)) S1=_;rw[aq,hg d hd]; rfl)
 rw[fW this];have e:ks.filterMap (λd=>some (g d))=ks.map g:=by rw[<- List.filterMap_eq_map]; rfl
 rw[e];simp only[Res.aj];rw[Zf (show fits (ks.map g).length=true from Zj (by rw[Zb]; exact hz))]
section
variable{sub:Sub}{cf:Str->List D->M D}{σ:Sg}{S:af}
theorem wW(n d m:Nat):sIx n d (some (m:Int))=min m n:=by
 show(if(m:Int)<0 then((m:Int)+(n:Int)).toNat else min (m:Int).toNat n)=_;rw[Zh (by omega)]; simp
theorem vo(n d:Nat):sIx n d none=d:=rfl
theorem r_(xs:Ya)(m:Nat):cut xs none (some (m:Int))=xs.take m:=by
 unfold cut;rw[wW,vo,List.drop_zero,Wt]
 by_cases h:m<=xs.length
 ·rw[Wx h]
 ·rw[Wl (by omega),Qh (Zm _),Qh (by omega)]
theorem tN(xs:Ya)(m:Nat):cut xs (some (m:Int)) none=xs.drop m:=by
 unfold cut;rw[wW,vo]
 by_cases h:m<=xs.length
 ·rw[Wx h,Qh (by simp)]
 ·rw[Wl (by omega),List.drop_eq_nil_of_le (Zm _),List.drop_eq_nil_of_le (by omega)];simp
end
theorem oF(ds:Ya):∀(k i:Nat) (h:i<(num k ds).length),(num k ds)[i]=.tup [.int ((k+i:Nat):Int),ds[i]'(by have:(num k ds).length=ds.length:=(by clear h; induction ds generalizing k with|nil=>rfl|cons _ _ ih=>simp[num,ih]); omega)]:=by
 induction ds with
 | nil=>intro k i h; simp[num] at h
 | cons d r ih =>
  intro k i h
  cases i with
  | zero=>simp[num]
  | succ i =>
   simp only[num,List.getElem_cons_succ];rw[ih (k+1) i (by simpa [num] using h)];congr 3;omega
theorem iS:∀(ds:Ya) (k:Nat),(num k ds).length=ds.length
 | [],_=>rfl
 | _::r,k=>by simp[num,iS r]
end EV

namespace GO
open PySem EV
theorem gz{S:af}{l:Nat}{ds:Ya}(h:S[l]?=some (.lst ds)):(D.loc l).dz S=true:=by show(match S[l]? with|some (.lst _)=>true|_=>false)=true; rw[h]
theorem A0(T:af)(ds:Ya):(D.loc T.length).dz (T++[.lst ds])=true:=gz (ds:=ds) (by simp)
theorem uf(T:af)(ds:Ya)(G:af):(D.loc T.length).dz (T++.lst ds::G)=true:=gz (ds:=ds) (by simp)
theorem J8(T:af)(ds:Ya)(G U:af):(D.loc T.length).dz ((T++.lst ds::G)++U)=true:=by rw[Zq,XX]; exact uf _ _ _
section
variable{sub:Sub}{cf:Str->List D->M D}{σ σ1:Sg}{S S1 S2 S3:af}{R:Res D}{RF:Res Fl}{x y z d:D}{ds:Ya}{a b c r es:E}{u v w:EV.S}
theorem r_v{i:Nat}(h:bu σ i S=.ok d S):ev sub cf (.v i) σ S=.ok d S:=h
theorem r_c:ev sub cf (.c d) σ S=.ok d S:=id rfl
theorem bz{o:Op2}(ha:ev sub cf a σ S=.ok x S1)(hb:ev sub cf b σ S1=.ok y S2)(h:opD o x y S2=R):ev sub cf (.bin o a b) σ S=R:=by rw[zf,ha,Res.aj,hb,Res.aj,h]
theorem aO{o:Cm}(ha:ev sub cf a σ S=.ok x S1)(hb:ev sub cf b σ S1=.ok y S2)(h:cmD o x y S2=R):ev sub cf (.cmp o a b) σ S=R:=by rw[wU,ha,Res.aj,hb,Res.aj,h]
theorem c9(ha:ev sub cf a σ S=.ok (.bl true) S1)(hb:ev sub cf b σ S1=R):ev sub cf (.and a b) σ S=R:=by rw[sL,ha]; exact hb
theorem iQ(ha:ev sub cf a σ S=.ok (.bl false) S1):ev sub cf (.and a b) σ S=.ok (.bl false) S1:=by rw[sL,ha]; rfl
theorem iT{i:Int}(ha:ev sub cf a σ S=.ok (.int i) S1):ev sub cf (.neg a) σ S=.ok (.int (-i)) S1:=by rw[E2,ha]; rfl
theorem CF(hc:evT sub cf c σ S=.ok true S1)(ha:ev sub cf a σ S1=R):ev sub cf (.ite c a b) σ S=R:=by rw[w_,hc,Res.aj,Zf rfl,ha]
theorem Hu(hc:evT sub cf c σ S=.ok false S1)(hb:ev sub cf b σ S1=R):ev sub cf (.ite c a b) σ S=R:=by rw[w_,hc,Res.aj,Zh (by decide),hb]
theorem ai:evs sub cf .nl σ S=.ok [] S:=id rfl
theorem aa(ha:ev sub cf a σ S=.ok x S1)(hr:evs sub cf r σ S1=.ok ds S2):evs sub cf (.cs a r) σ S=.ok (x::ds) S2:=by rw[wG,ha,Res.aj,hr,Res.aj]
theorem dQ(hs:evs sub cf es σ S=.ok ds S1)(hz:fits ds.length=true):ev sub cf (.tup es) σ S=.ok (.tup ds) S1:=by rw[zp,hs,Res.aj,Zf hz]
theorem br(hs:evs sub cf es σ S=.ok ds S1)(hz:fits ds.length=true):ev sub cf (.lst es) σ S=.ok (.loc S1.length) (S1++[.lst ds]):=by rw[CJ,hs,Res.aj,Zf hz]
theorem aC(ha:ev sub cf a σ S=.ok x S1)(hb:ev sub cf b σ S1=.ok y S2)(h:ixD x y S2=R):ev sub cf (.ix a b) σ S=R:=by rw[zE,ha,Res.aj,hb,Res.aj,h]
theorem jC{lo hi:E}{p q:Option Int}(ha:ev sub cf a σ S=.ok x S1)(hl:fP sub cf σ lo S1=.ok p S2)(hh:fP sub cf σ hi S2=.ok q S3)(h:slD x p q S3=R):ev sub cf (.sl a lo hi) σ S=R:=by
 rw[Fz,ha,Res.aj,hl,Res.aj,hh,Res.aj,h]
theorem aB{f:Str}(hs:evs sub cf es σ S=.ok ds S1)(h:cf f ds S1=R):ev sub cf (.call f es) σ S=R:=by rw[Dw,hs,Res.aj,h]
theorem aH{o:Bi}(hs:evs sub cf es σ S=.ok ds S1)(h:biD sub o ds S1=R):ev sub cf (.bi o es) σ S=R:=by rw[Bh,hs,Res.aj,h]
theorem gg{m:Me}{l:Nat}(ha:ev sub cf a σ S=.ok (.loc l) S1)(hs:evs sub cf es σ S1=.ok ds S2)(h:meD m (.loc l) ds S2=R)(hL:(D.loc l).dz S1=true:=by first|assumption|exact A0 _ _|exact uf _ _ _|exact gz (by assumption)):ev sub cf (.me m a es) σ S=R:=by
 rw[uR,ha,Res.aj,Zf hL,hs,Res.aj,h]
theorem nU{k:Bool}(h:ev sub cf a σ S=.ok (.bl k) S1)(ht:evT sub cf a σ S=(ev sub cf a σ S).bind λd S1=>truth d S1):evT sub cf a σ S=.ok k S1:=by rw[ht,h]; rfl
theorem bO{f:Str}{k:Bool}(h:ev sub cf (.call f es) σ S=.ok (.bl k) S1):evT sub cf (.call f es) σ S=.ok k S1:=nU h (Gh _ _ _ _ _ _)
theorem cA{o:Bi}{k:Bool}(h:ev sub cf (.bi o es) σ S=.ok (.bl k) S1):evT sub cf (.bi o es) σ S=.ok k S1:=nU h (GK _ _ _ _ _ _)
theorem aR{o:Cm}{k:Bool}(h:ev sub cf (.cmp o a b) σ S=.ok (.bl k) S1):evT sub cf (.cmp o a b) σ S=.ok k S1:=nU h (by
 rw[BB,wU]; cases ev sub cf a σ S<;>simp[Res.bind]; rename_i q Q; cases ev sub cf b σ Q<;>simp[Res.bind])
theorem eY{k:Bool}(ha:evT sub cf a σ S=.ok true S1)(hb:evT sub cf b σ S1=.ok k S2):evT sub cf (.and a b) σ S=.ok k S2:=by rw[rE,ha,Res.aj,Zf rfl,hb]
theorem gp(ha:evT sub cf a σ S=.ok false S1):evT sub cf (.and a b) σ S=.ok false S1:=by rw[rE,ha,Res.aj,Zh (by decide)]
theorem iN(ha:evT sub cf a σ S=.ok true S1):evT sub cf (.or a b) σ S=.ok true S1:=by rw[sy,ha,Res.aj,Zf rfl]
theorem b_{k:Bool}(ha:evT sub cf a σ S=.ok false S1)(hb:evT sub cf b σ S1=.ok k S2):evT sub cf (.or a b) σ S=.ok k S2:=by rw[sy,ha,Res.aj,Zh (by decide),hb]
theorem aW{k:Bool}(ha:evT sub cf a σ S=.ok k S1):evT sub cf (.not a) σ S=.ok (!k) S1:=by rw[ET,ha,Res.aj]
theorem t_k{k k':Bool}(h:evT sub cf a σ S=.ok k' S1)(e:k'=k):evT sub cf a σ S=.ok k S1:=by rw[h,e]
theorem x_(h:Nat.ble ds.length 1000=true):fits ds.length=true:=C5 (Nat.le_of_ble_eq_true h)
theorem gb{i j:Int}(h:0<j):opD .mod (.int i) (.int j) S=.ok (.int (i%j)) S:=by rw[x9,Zf h]
theorem qf{i j:Int}(h:(small i||small j)=true):opD .mul (.int i) (.int j) S=.ok (.int (i*j)) S:=by rw[Ad,Zf h]
theorem qA{i:Int}(h:-1000000000000<i/\i<1000000000000):small i=true:=Zj ⟨by omega,by omega⟩
theorem nZ{i j:Int}(h:-1000000000000<i/\i<1000000000000):opD .mul (.int i) (.int j) S=.ok (.int (i*j)) S:=qf (by rw[qA h,Bool.true_or])
theorem qh{i j:Int}(h:-1000000000000<j/\j<1000000000000):opD .mul (.int i) (.int j) S=.ok (.int (i*j)) S:=qf (by rw[qA h,WR])
theorem vf{i j:Int}(h:0<j/\j<1073741824):opD .fdiv (.int i) (.int j) S=.ok (.int (i/j)) S:=by rw[G2,Zf (by rw[Zj h.1,Zj h.2]; rfl)]
theorem aI{xs:Ya}{j:Int}(h:atI xs j=some d):ixD (.tup xs) (.int j) S=.ok d S:=by rw[IW,h,cO]
theorem qR{xs:Ya}{j:Int}(h:atI xs j=some d):ixD (.fro xs) (.int j) S=.ok d S:=by rw[yH,h,cO]
theorem ez{xs:Ya}{j:Int}{l:Nat}(hl:S[l]?=some (.lst xs))(h:atI xs j=some d):ixD (.loc l) (.int j) S=.ok d S:=by rw[AG hl,h,cO]
theorem fL{xs:Ya}:biD sub .len [.tup xs] S=.ok (.int xs.length) S:=by rw[o6]; rfl
theorem sJ{xs:Ya}:biD sub .len [.fro xs] S=.ok (.int xs.length) S:=by rw[o6]; rfl
theorem fG{xs:Ya}{l:Nat}(hl:S[l]?=some (.lst xs)):biD sub .len [.loc l] S=.ok (.int xs.length) S:=by rw[o6,bT hl]; rfl
theorem eS{xs:Ya}{l:Nat}(hl:S[l]?=some (.lst xs)):biD sub .tuple [.loc l] S=.ok (.tup xs) S:=by rw[DC,bT hl]; rfl
theorem cG{t:Ty}{k:Bool}(h:ff sub S x t=some k):biD sub (.inst t) [x] S=.ok (.bl k) S:=by rw[IT,h]
theorem az{α:Type}(T:List α)(c:α):(T++[c])[T.length]?=some c:=by simp
theorem vX{T:af}{xs:Ya}{j:Int}(h:atI xs j=some d):ixD (.loc T.length) (.int j) (T++[.lst xs])=.ok d (T++[.lst xs]):=ez (az T _) h
theorem wA{T:af}{xs:Ya}:biD sub .tuple [.loc T.length] (T++[.lst xs])=.ok (.tup xs) (T++[.lst xs]):=eS (az T _)
theorem E7{T:af}{xs:Ya}:biD sub .len [.loc T.length] (T++[.lst xs])=.ok (.int xs.length) (T++[.lst xs]):=fG (az T _)
theorem bw{s:Src}(ha:ev sub cf a σ S=.ok x S1)(h:srcOf x S1=.ok s S2):evI sub cf (.iSeq a) σ S=.ok s S2:=by rw[ER,ha,Res.aj,h]
theorem F6{is:WU}(hs:evs sub cf es σ S=.ok ds S1)(h:dO ds=some is):evI sub cf (.iRng es) σ S=.ok ⟨is.map .int,none,[]⟩ S1:=by rw[Bd,hs,Res.aj,h,cO,Res.aj]
theorem iI{j:Int}{k:Nat}{f:Nat->D}(hs:evs sub cf es σ S=.ok [.int j] S1)(hj:j=(k:Int))(hk:k<=1000000)(hf:∀i:Nat,f i=.int (i:Int)):evI sub cf (.iRng es) σ S=.ok ⟨(List.range k).map f,none,[]⟩ S1:=by
 subst hj;rw[F6 hs (yr (by omega) (by omega)),Z5,Xr,show(D.int∘λk:Nat=>(k:Int))=f from funext λi=>(hf i).symm]
theorem aN{i:Nat}(h:ev sub cf a σ S=.ok d S1):exec sub cf (.set (.one i) a) σ S=.ok (.nx (σ.set i (some d))) S1:=by rw[xh,h,Res.aj,iP,Res.aj]
theorem GF{is:List Nat}(h:ev sub cf a σ S=.ok (.tup ds) S1)(hl:ds.length=is.length):exec sub cf (.set (.many is) a) σ S=.ok (.nx (cy is ds σ)) S1:=by rw[xh,h,Res.aj,lU,Zf hl,Res.aj]
theorem fk(h:ev sub cf a σ S=.ok d S1):exec sub cf (.ex a) σ S=.ok (.nx σ) S1:=by rw[qd,h,Res.aj]
theorem aE(h:ev sub cf a σ S=.ok d S1):exec sub cf (.ret a) σ S=.ok (.rt d) S1:=by rw[Jo,h,Res.aj]
theorem bA(hc:evT sub cf c σ S=.ok true S1)(h:exec sub cf u σ S1=RF):exec sub cf (.ite c u v) σ S=RF:=by rw[ur,hc,Res.aj,Zf rfl,h]
theorem aK(hc:evT sub cf c σ S=.ok false S1)(h:exec sub cf v σ S1=RF):exec sub cf (.ite c u v) σ S=RF:=by rw[ur,hc,Res.aj,Zh (by decide),h]
theorem ak(hu:exec sub cf u σ S=.ok (.nx σ1) S1)(h:exec sub cf v σ1 S1=RF):exec sub cf (.seq u v) σ S=RF:=(Az hu).trans h
theorem bP(hu:exec sub cf u σ S=.ok (.rt d) S1):exec sub cf (.seq u v) σ S=.ok (.rt d) S1:=by rw[vc,hu,DH]
theorem aM:exec sub cf .skip σ S=.ok (.nx σ) S:=id rfl
theorem x_call{P:Prg}{n:Nat}{f:Str}{F:Fn}(hP:P.lookup f=some F)(hl:ds.length=F.par)(hb:exec sub (ah sub P n) F.body (frame F ds) S=.ok (.rt d) S1)(h:leave S d S1=R):ah sub P (n+1) f ds S=R:=by
 rw[sW hP hl,hb,Iq,h]
theorem kE{s:Src}{f:D->Sg->M Fl}{ds:Ya}(hs:aL s S=.ok () S)(hb:f d σ S=.ok (.nx σ1) S1)(h:forL s f ds σ1 S1=RF):forL s f (d::ds) σ S=RF:=by
 rw[jn,hs,Res.aj,hb]; exact h
theorem dw{i:Nat}(h:exec sub cf u (σ.set i (some d)) S=RF):bH sub cf (.one i) u d σ S=RF:=(nV i u d σ S).trans h
theorem wD{is:List Nat}(hl:ds.length=is.length)(h:exec sub cf u (cy is ds σ) S=RF):bH sub cf (.many is) u (.tup ds) σ S=RF:=(Ip is u ds σ S hl).trans h
theorem JS{P:Prg}{n:Nat}{f:Str}{F:Fn}(hP:P.lookup f=some F)(hl:ds.length=F.par)(hb:exec sub (ah sub P n) F.body (frame F ds) S=RF)(h:∃S',RF=.ok (.rt d) S'/\S'.take S.length=S)(hc:d.cl):ah sub P (n+1) f ds S=.ok d S:=by
 obtain⟨S',e,ht⟩:=h;exact x_call hP hl (hb.trans e) (bN hc ht)
end
end GO

namespace RL
open PySem EV GO
noncomputable def l5:Fn:=⟨3,3,(.seq (.ite (.or (.not (.bi (.inst .int) (.cs (.v 0) .nl))) (.bi (.inst .bool) (.cs (.v 0) .nl)))
  (.ret (.c (.bl false)))
  .skip)
 (.ret (.chn .le .le (.v 1) (.v 0) (.v 2))))⟩
noncomputable def tD:Fn:=⟨1,1,(.ret (.call "is_whole" (.cs (.v 0) (.cs (.c (.int 0)) (.cs (.bin .sub (.c (.int 9973)) (.c (.int 1))) .nl)))))⟩
noncomputable def jQ:Fn:=⟨3,3,(.ret (.and (.bi (.inst .tuple) (.cs (.v 0) .nl)) (.chn .le .le (.v 1) (.bi .len (.cs (.v 0) .nl)) (.v 2))))⟩
noncomputable def wX:Fn:=⟨1,1,(.ret (.and (.call "is_row" (.cs (.v 0) (.cs (.c (.int 2)) (.cs (.c (.int 2)) .nl)))) (.and (.call "is_whole" (.cs (.ix (.v 0) (.c (.int 0))) (.cs (.c (.int 1)) (.cs (.c (.int 3)) .nl)))) (.call "is_whole" (.cs (.ix (.v 0) (.c (.int 1))) (.cs (.c (.int 1)) (.cs (.c (.int 4)) .nl)))))))⟩
noncomputable def xr:Fn:=⟨1,1,(.ret (.and (.call "is_row" (.cs (.v 0) (.cs (.c (.int 1)) (.cs (.c (.int 3)) .nl)))) (.bi .all (.cs (.comp 2 (.call "is_crew" (.cs (.v 2) .nl)) (.one 2) (.iSeq (.v 0)) .nl) .nl))))⟩
noncomputable def vm:Fn:=⟨3,4,(.seq (.ite (.or (.not (.call "is_row" (.cs (.v 0) (.cs (.c (.int 3)) (.cs (.c (.int 3)) .nl))))) (.not (.call "is_whole" (.cs (.ix (.v 0) (.c (.int 2))) (.cs (.c (.int 0)) (.cs (.c (.int 3)) .nl))))))
  (.ret (.c (.bl false)))
  .skip)
 (.seq (.set (.one 3) (.ite (.cmp .eq (.ix (.v 0) (.c (.int 2))) (.c (.int 0))) (.v 1) (.v 2)))
 (.ret (.call "is_whole" (.cs (.ix (.v 0) (.c (.int 1))) (.cs (.c (.int 0)) (.cs (.bin .sub (.v 3) (.c (.int 1))) .nl)))))))⟩
noncomputable def qY:Fn:=⟨4,4,(.seq (.ite (.or (.not (.call "is_row" (.cs (.v 0) (.cs (.c (.int 2)) (.cs (.c (.int 3)) .nl))))) (.not (.bi (.inst .str) (.cs (.ix (.v 0) (.c (.int 0))) .nl))))
  (.ret (.c (.bl false)))
  .skip)
 (.seq (.ite (.cmp .eq (.ix (.v 0) (.c (.int 0))) (.c (.str "work")))
  (.ret (.call "is_work_source" (.cs (.v 0) (.cs (.v 1) (.cs (.v 2) .nl)))))
  .skip)
 (.seq (.ite (.cmp .ne (.bi .len (.cs (.v 0) .nl)) (.c (.int 2)))
  (.ret (.c (.bl false)))
  .skip)
 (.seq (.ite (.cmp .eq (.ix (.v 0) (.c (.int 0))) (.c (.str "input")))
  (.ret (.call "is_whole" (.cs (.ix (.v 0) (.c (.int 1))) (.cs (.c (.int 0)) (.cs (.bin .sub (.v 3) (.c (.int 1))) .nl)))))
  .skip)
 (.ret (.and (.cmp .eq (.ix (.v 0) (.c (.int 0))) (.c (.str "value"))) (.call "is_value" (.cs (.ix (.v 0) (.c (.int 1))) .nl))))))))⟩
noncomputable def uH:Fn:=⟨1,1,(.ret (.and (.call "is_row" (.cs (.v 0) (.cs (.c (.int 3)) (.cs (.c (.int 3)) .nl)))) (.bi .all (.cs (.comp 2 (.call "is_value" (.cs (.v 2) .nl)) (.one 2) (.iSeq (.v 0)) .nl) .nl))))⟩
noncomputable def sj:Fn:=⟨5,6,(.seq (.ite (.not (.call "is_row" (.cs (.v 0) (.cs (.c (.int 5)) (.cs (.c (.int 5)) .nl)))))
  (.ret (.c (.bl false)))
  .skip)
 (.seq (.ite (.or (.not (.call "is_whole" (.cs (.ix (.v 0) (.c (.int 0))) (.cs (.c (.int 0)) (.cs (.bin .sub (.v 4) (.c (.int 1))) .nl))))) (.not (.call "is_whole" (.cs (.ix (.v 0) (.c (.int 1))) (.cs (.c (.int 1)) (.cs (.c (.int 8)) .nl))))))
  (.ret (.c (.bl false)))
  .skip)
 (.seq (.ite (.or (.not (.bi (.inst .str) (.cs (.ix (.v 0) (.c (.int 2))) .nl))) (.cmp .bK (.ix (.v 0) (.c (.int 2))) (.c (.tup [(.str "plus"),(.str "less"),(.str "times"),(.str "least"),(.str "greatest")]))))
  (.ret (.c (.bl false)))
  .skip)
 (.seq (.set (.one 5) (.ix (.v 0) (.c (.int 3))))
 (.seq (.ite (.or (.not (.call "is_row" (.cs (.v 5) (.cs (.c (.int 1)) (.cs (.c (.int 3)) .nl))))) (.not (.call "are_starts" (.cs (.ix (.v 0) (.c (.int 4))) .nl))))
  (.ret (.c (.bl false)))
  .skip)
 (.ret (.bi .all (.cs (.comp 2 (.call "is_source" (.cs (.v 7) (.cs (.v 1) (.cs (.v 2) (.cs (.v 3) .nl))))) (.one 7) (.iSeq (.v 5)) .nl) .nl))))))))⟩
noncomputable def t7:Fn:=⟨3,4,(.seq (.ite (.not (.call "is_row" (.cs (.v 0) (.cs (.c (.int 1)) (.cs (.c (.int 8)) .nl)))))
  (.ret (.c (.bl false)))
  .skip)
 (.seq (.set (.one 3) (.bi .len (.cs (.v 0) .nl)))
 (.ret (.bi .all (.cs (.comp 3 (.call "is_work" (.cs (.v 6) (.cs (.v 5) (.cs (.v 3) (.cs (.v 1) (.cs (.v 2) .nl)))))) (.many [5,6]) (.iEnum (.v 0)) .nl) .nl)))))⟩
noncomputable def uE:Fn:=⟨2,4,(.seq (.ite (.not (.call "is_row" (.cs (.v 0) (.cs (.c (.int 1)) (.cs (.v 1) .nl)))))
  (.ret (.c (.bl false)))
  .skip)
 (.seq (.set (.one 2) (.c (.int 0)))
 (.seq (.forS (.one 3) (.iSeq (.v 0))
  (.seq (.ite (.not (.call "is_whole" (.cs (.v 3) (.cs (.v 2) (.cs (.bin .sub (.v 1) (.c (.int 1))) .nl)))))
  (.ret (.c (.bl false)))
  .skip)
 (.set (.one 2) (.bin .add (.v 3) (.c (.int 1))))))
 (.ret (.c (.bl true))))))⟩
noncomputable def uw:Fn:=⟨1,1,(.seq (.ite (.not (.call "is_row" (.cs (.v 0) (.cs (.c (.int 4)) (.cs (.c (.int 4)) .nl)))))
  (.ret (.c (.bl false)))
  .skip)
 (.seq (.ite (.or (.not (.call "is_whole" (.cs (.ix (.v 0) (.c (.int 0))) (.cs (.c (.int 0)) (.cs (.c (.int 6)) .nl))))) (.not (.call "are_crews" (.cs (.ix (.v 0) (.c (.int 1))) .nl))))
  (.ret (.c (.bl false)))
  .skip)
 (.ret (.and (.call "are_works" (.cs (.ix (.v 0) (.c (.int 2))) (.cs (.ix (.v 0) (.c (.int 0))) (.cs (.bi .len (.cs (.ix (.v 0) (.c (.int 1))) .nl)) .nl)))) (.call "are_outs" (.cs (.ix (.v 0) (.c (.int 3))) (.cs (.bi .len (.cs (.ix (.v 0) (.c (.int 2))) .nl)) .nl)))))))⟩
noncomputable def rZ:Fn:=⟨1,1,(.seq (.ite (.not (.call "is_loop" (.cs (.v 0) .nl)))
  (.rais "NoLoop")
  .skip)
 (.ret (.v 0)))⟩
noncomputable def dB:List Str:=["plus","less","times","least","greatest"]
def Kg(S:af):Prop:=∀(l:Nat) c,S[l]?=some c->∃ds,c=.lst ds
def Has(P:Prg)(x:String)(F:Fn):Prop:=P.lookup (Str.ofString x)=some F
inductive Srs where|val (v:Int)|inp (k:Nat)|wrk (w b:Nat)
noncomputable def Srs.toD:Srs->D
 | .val v=>.tup [.str "value",.int v]
 | .inp k=>.tup [.str "input",.int k]
 | .wrk w b=>.tup [.str "work",.int w,.int b]
structure Wk where
 crew:Nat
 long:Nat
 doing:Str
 srcs:List Srs
 starts:List Int
noncomputable def Wk.toD(w:Wk):D:=.tup [.int w.crew,.int w.long,.str w.doing,.tup (w.srcs.map Srs.toD),.tup (w.starts.map .int)]
structure Lp where
 streams:Nat
 crews:List (Nat×Nat)
 works:List Wk
 outs:List Nat
noncomputable def cD(c:Nat×Nat):D:=.tup [.int c.1,.int c.2]
noncomputable def bI(k:Nat):D:=.int k
noncomputable def Lp.toD(l:Lp):D:=.tup [.int l.streams,.tup (l.crews.map cD),.tup (l.works.map Wk.toD),.tup (l.outs.map bI)]
noncomputable def Srs.WF(own many streams:Nat):Srs->Prop
 | .val v=>0<=v/\v<=9972
 | .inp k=>k<streams
 | .wrk w b=>b<=3/\w<(if b=0 then own else many)
structure Wk.WF(own many streams ncrews:Nat)(w:Wk):Prop where
 crew:w.crew<ncrews
 long:1<=w.long/\w.long<=8
 doing:w.doing∈dB
 some:1<=w.srcs.length/\w.srcs.length<=3
 srcs:∀s∈w.srcs,s.WF own many streams
 three:w.starts.length=3
 starts:∀v∈w.starts,0<=v/\v<=9972
noncomputable def dX:Nat->Nat->List Nat->Prop
 | _,_,[]=>True
 | many,least,k::r=>least<=k/\k<many/\dX many (k+1) r
structure Lp.WF(l:Lp):Prop where
 streams:l.streams<=6
 ncrews:1<=l.crews.length/\l.crews.length<=3
 crews:∀c∈l.crews,(1<=c.1/\c.1<=3)/\(1<=c.2/\c.2<=4)
 nworks:1<=l.works.length/\l.works.length<=8
 works:∀(i:Nat) w,l.works[i]?=some w->w.WF i l.works.length l.streams l.crews.length
 nouts:1<=l.outs.length
 outs:dX l.works.length 0 l.outs
structure HB(P:Prg):Prop where
 whole:Has P "is_whole" l5
 value:Has P "is_value" tD
 row:Has P "is_row" jQ
 crew:Has P "is_crew" wX
 crews:Has P "are_crews" xr
 worksource:Has P "is_work_source" vm
 source:Has P "is_source" qY
 starts:Has P "are_starts" uH
 work:Has P "is_work" sj
 works:Has P "are_works" t7
 outs:Has P "are_outs" uE
 loop:Has P "is_loop" uw
 checked:Has P "checked" rZ
variable{sub:Sub}{P:Prg}{n:Nat}{S:af}
@[simp]theorem dJ(S T:af)(b:Bool):leave S (.bl b) (S++T)=.ok (.bl b) S:=bN rfl (bS _ _)
@[simp]theorem cB(S:af)(b:Bool):leave S (.bl b) S=.ok (.bl b) S:=bN rfl (Z4)
@[simp]theorem kU(S T:af)(b:Int):leave S (.int b) (S++T)=.ok (.int b) S:=bN rfl (bS _ _)
@[simp]theorem nP(S:af)(b:Int):leave S (.int b) S=.ok (.int b) S:=bN rfl (Z4)
theorem short{ds:Ya}{k:Int}(h:(ds.length:Int)<=k)(hk:k<=1000):ds.length<=aP:=by unfold aP; omega
theorem tT{σ:Sg}{cf:Str->List D->M D}{a b c:E}{i j k:Int}(ha:ev sub cf a σ S=.ok (.int i) S)(hb:ev sub cf b σ S=.ok (.int j) S)(hc:ev sub cf c σ S=.ok (.int k) S)(h1:i<=j)(h2:j<=k) :
  ev sub cf (.chn .le .le a b c) σ S=.ok (.bl true) S:=by
 rw[BK,ha,Res.aj,hb,Res.aj,iL,Res.aj,Zj h1];show(ev sub cf c σ S).bind _=_;rw[hc,Res.aj,iL,Zj h2]
theorem cV(h:Has P "is_whole" l5){i lo hi:Int}(h1:lo<=i)(h2:i<=hi):ah sub P (n+1) "is_whole" [.int i,.int lo,.int hi] S=.ok (.bl true) S :=
 x_call h rfl (ak (aK (b_ (aW (k:=true) (cA (aH (aa (r_v rfl) ai) (cG rfl)))) (k:=false) (cA (aH (aa (r_v rfl) ai) (cG rfl)))) aM) (aE (tT (r_v rfl) (r_v rfl) (r_v rfl) h1 h2))) (cB _ _)
theorem xo(h:HB P){v:Int}(h1:0<=v)(h2:v<=9972):ah sub P (n+2) "is_value" [.int v] S=.ok (.bl true) S :=
 x_call h.value rfl (aE (aB (aa (r_v rfl) (aa r_c (aa (bz r_c r_c (f6 _ _ _)) ai))) (cV h.whole h1 h2))) (cB _ _)
theorem gM(h:Has P "is_row" jQ){ds:Ya}{lo hi:Int}(h1:lo<=(ds.length:Int))(h2:(ds.length:Int)<=hi):ah sub P (n+1) "is_row" [.tup ds,.int lo,.int hi] S=.ok (.bl true) S :=
 x_call h rfl (aE (c9 (aH (aa (r_v rfl) ai) (cG rfl)) (tT (r_v rfl) (aH (aa (r_v rfl) ai) fL) (r_v rfl) h1 h2))) (cB _ _)
theorem gX(h:Has P "is_row" jQ){ds:Ya}{lo hi:Int}(m:Nat)(hm:ds.length=m)(h1:lo<=(m:Int))(h2:(m:Int)<=hi):ah sub P (n+1) "is_row" [.tup ds,.int lo,.int hi] S=.ok (.bl true) S :=
 gM h (by rw[hm]; exact h1) (by rw[hm]; exact h2)
theorem De(h:HB P){c:Nat×Nat}(hc:(1<=c.1/\c.1<=3)/\(1<=c.2/\c.2<=4)):ah sub P (n+2) "is_crew" [cD c] S=.ok (.bl true) S :=
 x_call h.crew rfl (aE (c9 (aB (aa (r_v rfl) (aa r_c (aa r_c ai))) (gX h.row 2 rfl (by decide) (by decide)))
  (c9 (aB (aa (aC (r_v rfl) r_c (aI rfl)) (aa r_c (aa r_c ai))) (cV h.whole (Ql.mpr hc.1.1) (Ql.mpr hc.1.2)))
   (aB (aa (aC (r_v rfl) r_c (aI rfl)) (aa r_c (aa r_c ai))) (cV h.whole (Ql.mpr hc.2.1) (Ql.mpr hc.2.2)))))) (cB _ _)
theorem oX{cf:Str->List D->M D}{σ:Sg}{i k:Nat}{el a:E}{α:Type}{l:List α}{f:α->D}(ha:ev sub cf a σ S=.ok (.tup (l.map f)) S)(hn:l.length<=1000)(h:∀x∈l,ev sub cf el ((σ++List.replicate k none).set i (some (f x))) S=.ok (.bl true) S) :
  ∃T,ev sub cf (.bi .all (.cs (.comp k el (.one i) (.iSeq a) .nl) .nl)) σ S=.ok (.bl true) (S++T):=by
 have hc:=fS (sub:=sub) (cf:=cf) (k:=k) (i:=i) (el:=el) (it:=.iSeq a) (σ:=σ) (S:=S) (S1:=S) (ks:=l) (f:=f) (g:=λ_=>.bl true) (o:=none) (raw:=l.map f) (bw ha rfl) rfl h (by unfold aP; omega);refine⟨[.lst (l.map λ_=>.bl true)],aH (R:=.ok (.bl true) _) (aa hc ai) ((tR l λ_=>true).trans ?_)⟩;rw[Z9.mpr λ_ _=>rfl]
theorem Ho(h:HB P){cs:List (Nat×Nat)}(h1:1<=cs.length)(h2:cs.length<=3)(hc:∀c∈cs,(1<=c.1/\c.1<=3)/\(1<=c.2/\c.2<=4)):ah sub P (n+3) "are_crews" [.tup (cs.map cD)] S=.ok (.bl true) S:=by
 obtain⟨T,e⟩:=oX (sub:=sub) (cf:=ah sub P (n+2)) (σ:=[some (.tup (cs.map cD))]) (S:=S) (i:=2) (k:=2) (el:=.call "is_crew" (.cs (.v 2) .nl)) (a:=.v 0) (l:=cs) (f:=cD) (r_v rfl) (by omega) (λc hm=>aB (aa (r_v rfl) ai) (De h (hc c hm)));exact x_call h.crews rfl (aE (c9 (aB (aa (r_v rfl) (aa r_c (aa r_c ai))) (gM h.row (by rw[Zb]; omega) (by rw[Zb]; omega))) e)) (dJ _ _ _)
theorem Ir(h:HB P){vs:WU}(h1:vs.length=3)(hv:∀v∈vs,0<=v/\v<=9972):ah sub P (n+3) "are_starts" [.tup (vs.map .int)] S=.ok (.bl true) S:=by
 obtain⟨T,e⟩:=oX (sub:=sub) (cf:=ah sub P (n+2)) (σ:=[some (.tup (vs.map .int))]) (S:=S) (i:=2) (k:=2) (el:=.call "is_value" (.cs (.v 2) .nl)) (a:=.v 0) (l:=vs) (f:=.int) (r_v rfl) (by omega) (λc hm=>aB (aa (r_v rfl) ai) (xo h (hv c hm).1 (hv c hm).2));exact x_call h.starts rfl (aE (c9 (aB (aa (r_v rfl) (aa r_c (aa r_c ai))) (gM h.row (by rw[Zb,h1]; decide) (by rw[Zb,h1]; decide))) e)) (dJ _ _ _)
theorem G9(h:HB P){x:D}{w b own many:Nat}(hb:b<=3)(hw:w<(if b=0 then own else many)):ah sub P (n+2) "is_work_source" [.tup [x,.int w,.int b],.int own,.int many] S=.ok (.bl true) S:=by
 have h0:∀k:Nat,(0:Int)<=(k:Int):=λk=>QH k
 refine x_call h.worksource rfl (ak (aK (b_ (aW (k:=true) (bO (aB (aa (r_v rfl) (aa r_c (aa r_c ai))) (gX h.row 3 rfl (by decide) (by decide)))))
  (k:=false) (aW (k:=true) (bO (aB (aa (aC (r_v rfl) r_c (aI rfl)) (aa r_c (aa r_c ai))) (cV h.whole (h0 b) (Ql.mpr hb)))))) aM)
  (ak (aN (d:=.int ((if b=0 then own else many:Nat):Int)) (S1:=S) ?_) (aE (aB (aa (aC (r_v rfl) r_c (aI rfl)) (aa r_c (aa (bz (r_v rfl) r_c (f6 _ _ _)) ai))) (cV h.whole (h0 w) (by omega)))))) (cB _ _)
 by_cases z:b=0
 ·rw[Zf z]; subst z;exact CF (S1:=S) (aR (aO (aC (r_v rfl) r_c (aI rfl)) r_c (eO _ _ _))) (r_v rfl)
 ·rw[Zh z];exact Hu (S1:=S) (t_k (aR (aO (aC (r_v rfl) r_c (aI rfl)) r_c (eO _ _ _))) (QF (by omega))) (r_v rfl)
theorem IC(h:HB P){s:Srs}{own many streams:Nat}(hs:s.WF own many streams):ah sub P (n+3) "is_source" [s.toD,.int own,.int many,.int streams] S=.ok (.bl true) S:=by
 have first:∀{x:Str} {r:Ya} {σ:Sg} (e:bu σ 0 S=.ok (.tup (.str x::r)) S) (m:Nat) (hm:(D.str x::r).length=m) (h1:2<=(m:Int)) (h2:(m:Int)<=3),evT sub (ah sub P (n+2)) (.or (.not (.call "is_row" (.cs (.v 0) (.cs (.c (.int 2)) (.cs (.c (.int 3)) .nl))))) (.not (.bi (.inst .str) (.cs (.ix (.v 0) (.c (.int 0))) .nl)))) σ S=.ok false S:=λ{x r σ} e m hm h1 h2 =>
  b_ (aW (k:=true) (bO (aB (aa (r_v e) (aa r_c (aa r_c ai))) (gX h.row m hm h1 h2)))) (k:=false) (aW (k:=true) (cA (aH (aa (aC (r_v e) r_c (aI (d:=.str x) (oZ _))) ai) (cG rfl))))
 have word:∀{x:Str} {r:Ya} {σ:Sg} (y:Str) {k:Bool} (e:bu σ 0 S=.ok (.tup (.str x::r)) S) (hk:(x==y)=k),ev sub (ah sub P (n+2)) (.cmp .eq (.ix (.v 0) (.c (.int 0))) (.c (.str y))) σ S=.ok (.bl k) S:=λy k e hk=>by
  rw[<- hk]; exact aO (aC (r_v e) r_c (aI (oZ _))) r_c (oA _ _ _)
 have two:∀{x y:D} {σ:Sg} (e:bu σ 0 S=.ok (.tup [x,y]) S),evT sub (ah sub P (n+2)) (.cmp .ne (.bi .len (.cs (.v 0) .nl)) (.c (.int 2))) σ S=.ok false S:=λe =>
  aR (aO (aH (aa (r_v e) ai) fL) r_c (vL _ _ _))
 cases s with
 | val v =>
  exact x_call h.source rfl (ak (aK (first (x:="value") rfl 2 rfl (by decide) (by decide)) aM) (ak (aK (aR (word "work" (x:="value") rfl (by decide +kernel))) aM) (ak (aK (two rfl) aM) (ak (aK (aR (word "input" (x:="value") rfl (by decide +kernel))) aM)
   (aE (c9 (word "value" (x:="value") rfl (by decide +kernel)) (aB (aa (aC (r_v rfl) r_c (aI rfl)) ai) (xo h hs.1 hs.2)))))))) (cB _ _)
 | inp k =>
  have hk:k<streams:=hs
  exact x_call h.source rfl (ak (aK (first (x:="input") rfl 2 rfl (by decide) (by decide)) aM) (ak (aK (aR (word "work" (x:="input") rfl (by decide +kernel))) aM) (ak (aK (two rfl) aM) (bP (bA (aR (word "input" (x:="input") rfl (by decide +kernel)))
   (aE (aB (aa (aC (r_v rfl) r_c (aI rfl)) (aa r_c (aa (bz (r_v rfl) r_c (f6 _ _ _)) ai))) (cV h.whole (QH k) (by omega))))))))) (cB _ _)
 | wrk w b =>
  exact x_call h.source rfl (ak (aK (first (x:="work") rfl 3 rfl (by decide) (by decide)) aM) (bP (bA (aR (word "work" (x:="work") rfl (by decide +kernel))) (aE (aB (aa (r_v rfl) (aa (r_v rfl) (aa (r_v rfl) ai))) (G9 h hs.1 hs.2)))))) (cB _ _)
theorem Aw{x:Str}(h:x∈dB):cmD .bK (.str x) (.tup [(.str "plus"),(.str "less"),(.str "times"),(.str "least"),(.str "greatest")]) S=.ok (.bl false) S:=by
 have h:x = "plus"\/x = "less"\/x = "times"\/x = "least"\/x = "greatest":=by simpa [dB] using h
 rcases h with rfl|rfl|rfl|rfl|rfl<;>rfl
theorem Jj(h:HB P){w:Wk}{own many streams ncrews:Nat}(hw:w.WF own many streams ncrews):ah sub P (n+4) "is_work" [w.toD,.int own,.int many,.int streams,.int ncrews] S=.ok (.bl true) S:=by
 have hc:=hw.crew;obtain⟨T,e⟩:=oX (sub:=sub) (cf:=ah sub P (n+3)) (σ:=[some w.toD,some (.int own),some (.int many),some (.int streams),some (.int ncrews),some (.tup (w.srcs.map Srs.toD))]) (S:=S) (i:=7) (k:=2) (el:=.call "is_source" (.cs (.v 7) (.cs (.v 1) (.cs (.v 2) (.cs (.v 3) .nl))))) (a:=.v 5) (l:=w.srcs) (f:=Srs.toD) (r_v rfl) (by have:=hw.some; omega) (λs hm=>aB (aa (r_v rfl) (aa (r_v rfl) (aa (r_v rfl) (aa (r_v rfl) ai)))) (IC h (hw.srcs s hm)))
 refine x_call h.work rfl (ak (aK (aW (k:=true) (bO (aB (aa (r_v rfl) (aa r_c (aa r_c ai))) (gX h.row 5 rfl (by decide) (by decide))))) aM)
  (ak (aK (b_ (aW (k:=true) (bO (aB (aa (aC (r_v rfl) r_c (aI rfl)) (aa r_c (aa (bz (r_v rfl) r_c (f6 _ _ _)) ai))) (cV h.whole (QH _) (by omega))))) (k:=false)
   (aW (k:=true) (bO (aB (aa (aC (r_v rfl) r_c (aI rfl)) (aa r_c (aa r_c ai))) (cV h.whole (Ql.mpr hw.long.1) (Ql.mpr hw.long.2)))))) aM)
  (ak (aK (b_ (aW (k:=true) (cA (aH (aa (aC (r_v rfl) r_c (aI rfl)) ai) (cG rfl)))) (aR (aO (aC (r_v rfl) r_c (aI rfl)) r_c (Aw hw.doing)))) aM)
  (ak (aN (aC (r_v rfl) r_c (aI rfl)))
  (ak (aK (b_ (aW (k:=true) (bO (aB (aa (r_v rfl) (aa r_c (aa r_c ai))) (gM h.row (ds:=w.srcs.map Srs.toD) ?_ ?_)))) (k:=false) (aW (k:=true) (bO (aB (aa (aC (r_v rfl) r_c (aI rfl)) ai) (Ir h hw.three hw.starts))))) aM)
  (aE e)))))) (dJ _ _ _)
 ·rw[Zb]; have:=hw.some; omega
 ·rw[Zb]; have:=hw.some; omega
theorem BC(h:HB P){ws:List Wk}{streams ncrews:Nat}(h1:1<=ws.length)(h2:ws.length<=8)(hw:∀(i:Nat) w,ws[i]?=some w->w.WF i ws.length streams ncrews):ah sub P (n+5) "are_works" [.tup (ws.map Wk.toD),.int streams,.int ncrews] S=.ok (.bl true) S:=by
 have hc:=Ca (sub:=sub) (cf:=ah sub P (n+4)) (k:=3) (is:=[5,6]) (el:=.call "is_work" (.cs (.v 6) (.cs (.v 5) (.cs (.v 3) (.cs (.v 1) (.cs (.v 2) .nl)))))) (it:=.iEnum (.v 0))
  (σ:=[some (.tup (ws.map Wk.toD)),some (.int streams),some (.int ncrews),some (.int ws.length)]) (S:=S) (S1:=S) (s:=⟨num 0 (ws.map Wk.toD),none,ws.map Wk.toD⟩) (g:=λ_=>.bl true) rfl rfl (λd hd=>by
   obtain⟨i,hi,rfl⟩:=List.mem_iff_getElem.mp hd;have hi':i<ws.length:=by rw[iS,Zb] at hi; exact hi
   refine⟨_,oF _ 0 i hi,rfl,?_⟩;rw[Qe,XV];exact aB (aa (r_v rfl) (aa (r_v rfl) (aa (r_v rfl) (aa (r_v rfl) (aa (r_v rfl) ai))))) (Jj h (hw i _ (Ze hi')))) (by unfold aP; rw[iS,Zb]; omega)
 have ha:ev sub (ah sub P (n+4)) (.bi .all (.cs (.comp 3 (.call "is_work" (.cs (.v 6) (.cs (.v 5) (.cs (.v 3) (.cs (.v 1) (.cs (.v 2) .nl)))))) (.many [5,6]) (.iEnum (.v 0)) .nl) .nl)) [some (.tup (ws.map Wk.toD)),some (.int streams),some (.int ncrews),some (.int ws.length)] S=.ok (.bl true) (S++[.lst ((num 0 (ws.map Wk.toD)).map λ_=>.bl true)]) :=
  aH (aa hc ai) ((tR _ λ_=>true).trans (by rw[Z9.mpr λ_ _=>rfl]))
 refine x_call h.works rfl (ak (aK (aW (k:=true) (bO (aB (aa (r_v rfl) (aa r_c (aa r_c ai))) (gM h.row (ds:=ws.map Wk.toD) ?_ ?_)))) aM)
  (ak (aN (d:=.int ws.length) (S1:=S) ?_) (aE ha))) (dJ _ _ _)
 ·rw[Zb]; omega
 ·rw[Zb]; omega
 ·have:=fL (sub:=sub) (S:=S) (xs:=ws.map Wk.toD);rw[Zb] at this;exact aH (aa (r_v rfl) ai) this
theorem sF(h:HB P){d0:D}{many:Nat}{s:Src}(hs:∀T,aL s T=.ok () T):∀(l:List Nat) (least:Nat) (x:Option D),dX many least l->∃σ',forL s (bH sub (ah sub P (n+1)) (.one 3) (.seq (.ite (.not (.call "is_whole" (.cs (.v 3) (.cs (.v 2) (.cs (.bin .sub (.v 1) (.c (.int 1))) .nl))))) (.ret (.c (.bl false))) .skip) (.set (.one 2) (.bin .add (.v 3) (.c (.int 1))))))
   (l.map bI) [some d0,some (.int many),some (.int least),x] S=.ok (.nx σ') S
 | [],least,x,_=>⟨_,by rw[Qw,j6,hs,Res.aj]⟩
 | k::r,least,x,⟨h1,h2,h3⟩=>by
  obtain⟨σ',e⟩:=sF h hs r (k+1) (some (bI k)) h3;refine⟨σ',?_⟩;rw[ZI,jn,hs,Res.aj,nV,ak (aK (aW (k:=true) (bO (aB (aa (r_v rfl) (aa (r_v rfl) (aa (bz (r_v rfl) r_c (f6 _ _ _)) ai))) (cV h.whole (Ql.mpr h1) (by omega))))) aM) (aN (bz (r_v rfl) r_c (lC _ _ _)))];exact e
theorem xE{many:Nat}:∀{l:List Nat} {least:Nat},dX many least l->least<=many->l.length+least<=many
 | [],_,_,h=>by simpa using h
 | k::r,least,⟨h1,h2,h3⟩,_=>by
  have:=xE h3 (by omega);simp only[Zy]; omega
theorem JB(h:HB P){os:List Nat}{many:Nat}(h1:1<=os.length)(hr:dX many 0 os):ah sub P (n+2) "are_outs" [.tup (os.map bI),.int many] S=.ok (.bl true) S:=by
 have hl:=xE hr (Xe _);obtain⟨σ',e⟩:=sF (sub:=sub) (n:=n) (S:=S) (d0:=.tup (os.map bI)) (s:=⟨os.map bI,none,os.map bI⟩) h (λ_=>rfl) os 0 none hr
 exact x_call h.outs rfl (ak (aK (aW (k:=true) (bO (aB (aa (r_v rfl) (aa r_c (aa (r_v rfl) ai))) (gM h.row (ds:=os.map bI) (by rw[Zb]; omega) (by rw[Zb]; omega))))) aM)
  (ak (aN r_c) (ak (fh (bw (r_v rfl) rfl) e) (aE r_c)))) (cB _ _)
theorem Cw(h:HB P){l:Lp}(hl:l.WF):ah sub P (n+6) "is_loop" [l.toD] S=.ok (.bl true) S:=by
 have e1:=fL (sub:=sub) (S:=S) (xs:=l.crews.map cD);have e2:=fL (sub:=sub) (S:=S) (xs:=l.works.map Wk.toD);rw[Zb] at e1 e2
 exact x_call h.loop rfl (ak (aK (aW (k:=true) (bO (aB (aa (r_v rfl) (aa r_c (aa r_c ai))) (gX h.row 4 rfl (by decide) (by decide))))) aM)
  (ak (aK (b_ (aW (k:=true) (bO (aB (aa (aC (r_v rfl) r_c (aI rfl)) (aa r_c (aa r_c ai))) (cV h.whole (QH _) (Ql.mpr hl.streams))))) (k:=false)
   (aW (k:=true) (bO (aB (aa (aC (r_v rfl) r_c (aI rfl)) ai) (Ho h hl.ncrews.1 hl.ncrews.2 hl.crews))))) aM)
  (aE (c9 (aB (aa (aC (r_v rfl) r_c (aI rfl)) (aa (aC (r_v rfl) r_c (aI rfl)) (aa (aH (aa (aC (r_v rfl) r_c (aI rfl)) ai) e1) ai))) (BC h hl.nworks.1 hl.nworks.2 hl.works))
   (aB (aa (aC (r_v rfl) r_c (aI rfl)) (aa (aH (aa (aC (r_v rfl) r_c (aI rfl)) ai) e2) ai)) (JB h hl.nouts hl.outs)))))) (cB _ _)
end RL

namespace RL
open PySem EV GO
section
local macro_rules|`(tactic| done)=>`(tactic| (first|with_reducible exact r_c|((with_reducible apply r_v); exact rfl)|with_reducible apply bz|with_reducible apply aO|with_reducible apply aC|with_reducible apply aB|with_reducible exact ai|with_reducible apply aa|with_reducible apply aH|with_reducible apply gg|with_reducible apply dQ|with_reducible apply br|((with_reducible apply x_); exact rfl)|with_reducible apply iT|with_reducible apply bO|with_reducible apply cA|with_reducible apply aR|with_reducible exact lC _ _ _|with_reducible exact f6 _ _ _|((with_reducible apply gb); first|decide|assumption|omega)|((with_reducible apply nZ); first|decide|omega)|((with_reducible apply qh); first|decide|omega)|((with_reducible apply vf); decide)|with_reducible exact lT _ _ _|with_reducible exact iL _ _ _|with_reducible exact iK _ _ _|with_reducible exact ED _ _ _|with_reducible exact eO _ _ _|with_reducible exact oA _ _ _|((with_reducible apply vX); assumption)|with_reducible exact wA|with_reducible exact E7|with_reducible exact fL|with_reducible exact sJ|((with_reducible apply aI); exact rfl)|with_reducible assumption|((apply gb); first|decide|assumption)|apply eO|apply oA))
noncomputable def rN:Fn:=⟨2,2,(.seq (.ite (.cmp .lt (.v 1) (.bi .len (.cs (.v 0) .nl)))
  (.ret (.ix (.v 0) (.v 1)))
  .skip)
 (.seq (.ite (.cmp .eq (.v 0) (.lst .nl))
  (.ret (.c (.int 0)))
  .skip)
 (.ret (.bin .add (.bin .mul (.ix (.v 0) (.bin .mod (.v 1) (.bi .len (.cs (.v 0) .nl)))) (.c (.int 31))) (.v 1)))))⟩
noncomputable def qH:Fn:=⟨3,4,(.seq (.set (.one 3) (.bin .mod (.bin .mul (.bin .add (.bin .add (.call "_law_cell_at" (.cs (.v 0) (.cs (.v 1) .nl))) (.bin .mul (.c (.int 7919)) (.v 1))) (.c (.int 1))) (.c (.int 48271))) (.c (.int 2147483647))))
 (.ret (.bin .mod (.bin .mod (.bin .add (.bin .add (.bin .mul (.v 3) (.v 3)) (.bin .mul (.c (.int 7)) (.v 3))) (.v 1)) (.c (.int 2147483629))) (.v 2))))⟩
noncomputable def w4:Fn:=⟨5,7,(.seq (.set (.one 5) (.call "_law_mixed" (.cs (.v 0) (.cs (.v 1) (.cs (.c (.int 7)) .nl)))))
 (.seq (.ite (.or (.cmp .eq (.v 5) (.c (.int 0))) (.and (.cmp .eq (.v 5) (.c (.int 1))) (.cmp .eq (.v 2) (.c (.int 0)))))
  (.ret (.tup (.cs (.c (.str "value")) (.cs (.call "_law_mixed" (.cs (.v 0) (.cs (.bin .add (.v 1) (.c (.int 1))) (.cs (.c (.int 9973)) .nl)))) .nl))))
  .skip)
 (.seq (.ite (.cmp .eq (.v 5) (.c (.int 1)))
  (.ret (.tup (.cs (.c (.str "input")) (.cs (.call "_law_mixed" (.cs (.v 0) (.cs (.bin .add (.v 1) (.c (.int 1))) (.cs (.v 2) .nl)))) .nl))))
  .skip)
 (.seq (.set (.one 6) (.call "_law_mixed" (.cs (.v 0) (.cs (.bin .add (.v 1) (.c (.int 1))) (.cs (.v 3) .nl)))))
 (.seq (.ite (.and (.cmp .lt (.v 6) (.v 4)) (.cmp .lt (.v 5) (.c (.int 5))))
  (.ret (.tup (.cs (.c (.str "work")) (.cs (.v 6) (.cs (.c (.int 0)) .nl)))))
  .skip)
 (.ret (.tup (.cs (.c (.str "work")) (.cs (.v 6) (.cs (.bin .add (.c (.int 1)) (.call "_law_mixed" (.cs (.v 0) (.cs (.bin .add (.v 1) (.c (.int 2))) (.cs (.c (.int 3)) .nl))))) .nl))))))))))⟩
noncomputable def tY:Fn:=⟨4,12,(.seq (.set (.many [4,5,6]) (.v 2))
 (.seq (.set (.one 7) (.lst .nl))
 (.seq (.forS (.one 8) (.iRng (.cs (.bin .add (.c (.int 1)) (.call "_law_mixed" (.cs (.v 0) (.cs (.bin .add (.v 1) (.c (.int 2))) (.cs (.c (.int 2)) .nl))))) .nl))
  (.ex (.me .append (.v 7) (.cs (.call "_law_source" (.cs (.v 0) (.cs (.bin .add (.bin .add (.v 1) (.c (.int 3))) (.bin .mul (.c (.int 3)) (.v 8))) (.cs (.v 4) (.cs (.v 6) (.cs (.v 3) .nl)))))) .nl))))
 (.seq (.set (.one 9) (.ix (.lst (.cs (.c (.str "plus")) (.cs (.c (.str "less")) (.cs (.c (.str "times")) (.cs (.c (.str "least")) (.cs (.c (.str "greatest")) .nl)))))) (.call "_law_mixed" (.cs (.v 0) (.cs (.v 1) (.cs (.c (.int 5)) .nl))))))
 (.seq (.set (.one 10) (.bin .add (.c (.int 1)) (.call "_law_mixed" (.cs (.v 0) (.cs (.bin .add (.v 1) (.c (.int 1))) (.cs (.ix (.lst (.cs (.c (.int 2)) (.cs (.c (.int 5)) .nl))) (.call "_law_mixed" (.cs (.v 0) (.cs (.bin .add (.v 1) (.c (.int 2))) (.cs (.c (.int 2)) .nl))))) .nl))))))
 (.seq (.set (.one 11) (.bi .tuple (.cs (.comp 2 (.call "_law_mixed" (.cs (.v 0) (.cs (.bin .add (.v 1) (.v 13)) (.cs (.c (.int 9973)) .nl)))) (.one 13) (.iSeq (.tup (.cs (.c (.int 0)) (.cs (.c (.int 5)) (.cs (.c (.int 6)) .nl))))) .nl) .nl)))
 (.ret (.tup (.cs (.call "_law_mixed" (.cs (.v 0) (.cs (.bin .add (.v 1) (.c (.int 7))) (.cs (.v 5) .nl)))) (.cs (.v 10) (.cs (.v 9) (.cs (.bi .tuple (.cs (.v 7) .nl)) (.cs (.v 11) .nl)))))))))))))⟩
noncomputable def uX:Fn:=⟨3,9,(.seq (.set (.one 3) (.call "_law_mixed" (.cs (.v 0) (.cs (.v 1) (.cs (.c (.int 3)) .nl)))))
 (.seq (.set (.one 4) (.bin .add (.c (.int 1)) (.call "_law_mixed" (.cs (.v 0) (.cs (.bin .add (.v 1) (.c (.int 1))) (.cs (.v 2) .nl))))))
 (.seq (.set (.one 5) (.lst .nl))
 (.seq (.forS (.one 6) (.iRng (.cs (.bin .add (.c (.int 1)) (.call "_law_mixed" (.cs (.v 0) (.cs (.bin .add (.v 1) (.c (.int 2))) (.cs (.c (.int 2)) .nl))))) .nl))
  (.ex (.me .append (.v 5) (.cs (.tup (.cs (.bin .add (.c (.int 1)) (.call "_law_mixed" (.cs (.v 0) (.cs (.bin .add (.bin .add (.v 1) (.c (.int 3))) (.v 6)) (.cs (.c (.int 2)) .nl))))) (.cs (.bin .add (.c (.int 1)) (.bin .fdiv (.call "_law_mixed" (.cs (.v 0) (.cs (.bin .add (.bin .add (.v 1) (.c (.int 5))) (.v 6)) (.cs (.c (.int 5)) .nl)))) (.c (.int 2)))) .nl))) .nl))))
 (.seq (.set (.one 7) (.lst .nl))
 (.seq (.forS (.one 6) (.iRng (.cs (.v 4) .nl))
  (.ex (.me .append (.v 7) (.cs (.call "_law_work" (.cs (.v 0) (.cs (.bin .add (.bin .add (.v 1) (.c (.int 7))) (.bin .mul (.c (.int 9)) (.v 6))) (.cs (.tup (.cs (.v 3) (.cs (.bi .len (.cs (.v 5) .nl)) (.cs (.v 4) .nl)))) (.cs (.v 6) .nl))))) .nl))))
 (.seq (.set (.one 8) (.comp 2 (.v 10) (.one 10) (.iRng (.cs (.v 4) .nl)) (.cmp .gt (.call "_law_mixed" (.cs (.v 0) (.cs (.bin .add (.bin .add (.v 1) (.c (.int 7))) (.v 10)) (.cs (.c (.int 3)) .nl)))) (.c (.int 0)))))
 (.seq (.ite (.cmp .eq (.v 8) (.lst .nl))
  (.set (.one 8) (.lst (.cs (.bin .sub (.v 4) (.c (.int 1))) .nl)))
  .skip)
 (.ret (.tup (.cs (.v 3) (.cs (.bi .tuple (.cs (.v 5) .nl)) (.cs (.bi .tuple (.cs (.v 7) .nl)) (.cs (.bi .tuple (.cs (.v 8) .nl)) .nl))))))))))))))⟩
theorem Srs.cl(s:Srs):s.toD.cl:=by cases s<;>rfl
theorem Wk.cl(w:Wk):w.toD.cl:=by
 show(true&&(true&&(true&&(D.lows 0 (w.srcs.map Srs.toD)&&(D.lows 0 (w.starts.map .int)&&true)))))=true;rw[jJ Srs.cl,CQ]; rfl
theorem Lp.cl(l:Lp):l.toD.cl:=by
 show(true&&(D.lows 0 (l.crews.map cD)&&(D.lows 0 (l.works.map Wk.toD)&&(D.lows 0 (l.outs.map bI)&&true))))=true;rw[jJ (f:=cD) λ_=>rfl,jJ Wk.cl,jJ (f:=bI) λ_=>rfl]; rfl
theorem tE{sub:Sub}{P:Prg}{n:Nat}{S:af}(h:HB P){l:Lp}(hw:l.WF):ah sub P (n+7) "checked" [l.toD] S=.ok l.toD S :=
 x_call h.checked rfl (ak (aK (aW (k:=true) (bO (aB (aa (r_v rfl) ai) (Cw h hw)))) aM) (aE (r_v rfl))) (bN l.cl Z4)
noncomputable def cellAt(ns:WU)(k:Int):Int:=if k<ns.length then ns.getD k.toNat 0 else if ns.length=0 then 0 else ns.getD (k%(ns.length:Int)).toNat 0*31+k
noncomputable def drawn(ns:WU)(k:Int):Int:=(cellAt ns k+7919*k+1)*48271%2147483647
noncomputable def mixed(ns:WU)(k m:Int):Int:=(drawn ns k*drawn ns k+7*drawn ns k+k)%2147483629%m
theorem Br(ns:WU)(k:Int){m:Int}(h:0<m):0<=mixed ns k m/\mixed ns k m<m:=⟨Wq _ (by omega),Q3 _ h⟩
structure HG(P:Prg):Prop where
 cell:Has P "_law_cell_at" rN
 mix:Has P "_law_mixed" qH
 source:Has P "_law_source" w4
 work:Has P "_law_work" tY
 loop:Has P "_law_loop" uX
variable{sub:Sub}{P:Prg}{n:Nat}{S:af}
theorem qX{ns:WU}{k:Int}(h0:0<=k)(h:k<ns.length):atI (ns.map D.int) k=some (.int (ns.getD k.toNat 0)):=by
 obtain⟨j,rfl⟩:=Int.eq_ofNat_of_zero_le h0;rw[nO];have hj:j<ns.length:=by omega
 simp[hj]
theorem eq_empty(ns:WU)(S:af):cmD .eq (.fro (ns.map .int)) (.loc S.length) (S++[.lst []])=.ok (.bl (decide (ns.length=0))) (S++[.lst []]):=by
 rw[kR]
 have:eqD deep (S++[.lst []]) (.fro (ns.map .int)) (.loc S.length)=some (decide (ns.length=0)):=by
  show(match some (ns.map D.int),listAt (S++[.lst []]) S.length with|some xs,some ys=>if xs.length=ys.length then bx _ xs ys else some false|_,_=>none)=_;have e:listAt (S++[.lst []]) S.length=some []:=by unfold listAt; simp
  rw[e];cases ns<;>simp[bx]
 rw[this]
theorem CZ(h:HG P)(ns:WU){k:Int}(hk:0<=k):ah sub P (n+1) "_law_cell_at" [.fro (ns.map .int),.int k] S=.ok (.int (cellAt ns k)) S:=by
 have hl:∀S:af,biD sub .len [.fro (ns.map .int)] S=.ok (.int ns.length) S:=λS=>by
  have:=sJ (sub:=sub) (S:=S) (xs:=ns.map .int);rw[Zb] at this;exact this
 have e1:∀{b:Bool},decide (k<(ns.length:Int))=b->evT sub (ah sub P n) (.cmp .lt (.v 1) (.bi .len (.cs (.v 0) .nl))) [some (.fro (ns.map .int)),some (.int k)] S=.ok b S:=λe=>t_k (aR (aO (r_v rfl) (aH (aa (r_v rfl) ai) (hl _)) (lT _ _ _))) e
 have e2:∀{b:Bool},decide (ns.length=0)=b->evT sub (ah sub P n) (.cmp .eq (.v 0) (.lst .nl)) [some (.fro (ns.map .int)),some (.int k)] S=.ok b (S++[.lst []]):=λe=>t_k (aR (aO (r_v rfl) (br ai rfl) (eq_empty ns S))) e
 unfold cellAt
 by_cases h1:k<ns.length
 ·rw[Zf h1];exact x_call h.cell rfl (bP (bA (e1 (Zj h1)) (aE (aC (r_v rfl) (r_v rfl) (qR (qX hk h1)))))) (nP _ _)
 rw[Zh h1]
 by_cases h2:ns.length=0
 ·rw[Zf h2];exact x_call h.cell rfl (ak (aK (e1 (Zt h1)) aM) (bP (bA (e2 (Zj h2)) (aE r_c)))) (kU _ _ _)
 ·rw[Zh h2];have h3:0<(ns.length:Int):=by omega
  exact x_call h.cell rfl (ak (aK (e1 (Zt h1)) aM) (ak (aK (e2 (Zt h2)) aM) (aE (bz (bz (aC (r_v rfl) (bz (r_v rfl) (aH (aa (r_v rfl) ai) (hl _)) (gb h3)) (qR (qX (Wq k (by omega)) (Q3 k h3)))) r_c (qh (by decide))) (r_v rfl) (lC _ _ _))))) (kU _ _ _)
theorem yU(h:HG P)(ns:WU){k m:Int}(hk:0<=k)(hm:0<m):ah sub P (n+2) "_law_mixed" [.fro (ns.map .int),.int k,.int m] S=.ok (.int (mixed ns k m)) S:=by
 have hc:=CZ (sub:=sub) (n:=n) (S:=S) h ns hk;have h1:0<=drawn ns k:=Wq _ (by decide);have h2:drawn ns k<2147483647:=Q3 _ (by decide);refine x_call h.mix rfl (ak (aN (d:=.int (drawn ns k)) (S1:=S) ?_) (aE (d:=.int (mixed ns k m)) (S1:=S) ?_)) (bN rfl (by simp))<;>(repeat' done)
structure Mix(P:Prg)(mx:List Int->Int->Int->Int):Prop where
 ok:∀{sub:Sub} {n:Nat} {S:af} (ns:WU) {k m:Int},0<=k->0<m->ah sub P (n+2) "_law_mixed" [.fro (ns.map .int),.int k,.int m] S=.ok (.int (mx ns k m)) S
 rng:∀(ns:WU) (k:Int) {m:Int},0<m->0<=mx ns k m/\mx ns k m<m
theorem Dj(h:HG P):∃mx,Mix P mx:=⟨mixed,λns _ _ hk hm=>yU h ns hk hm,λns k _ h=>Br ns k h⟩
variable{mx:List Int->Int->Int->Int}
noncomputable def eK(mx:List Int->Int->Int->Int)(ns:WU)(at':Int)(streams many own:Nat):Srs :=
 if mx ns at' 7=0\/(mx ns at' 7=1/\streams=0) then .val (mx ns (at' + 1) 9973)
 else if mx ns at' 7=1 then .inp (mx ns (at' + 1) streams).toNat
 else if(mx ns (at' + 1) many).toNat<own/\mx ns at' 7<5 then .wrk (mx ns (at' + 1) many).toNat 0
 else .wrk (mx ns (at' + 1) many).toNat (1+mx ns (at' + 2) 3).toNat
theorem Gs(S:af)(s:Srs):leave S s.toD S=.ok s.toD S:=bN s.cl (by simp)
theorem toNat_cast{i:Int}(h:0<=i):((i.toNat:Nat):Int)=i:=Wz h
theorem IG(h:HG P)(M:Mix P mx)(ns:WU){at':Int}{streams many own:Nat}(hat:0<=at')(hm:0<many):ah sub P (n+3) "_law_source" [.fro (ns.map .int),.int at',.int streams,.int many,.int own] S=.ok (eK mx ns at' streams many own).toD S:=by
 have hm':(0:Int)<many:=by omega
 have a1:0<=at' + 1:=by omega
 have a2:0<=at' + 2:=by omega
 have m0:=M.ok (sub:=sub) (n:=n) (S:=S) ns (k:=at') (m:=7) hat (by decide);have r3:=M.rng ns (at' + 1) hm';have m1:=M.ok (sub:=sub) (n:=n) (S:=S) ns (k:=at' + 1) (m:=9973) a1 (by decide);have m3:=M.ok (sub:=sub) (n:=n) (S:=S) ns (k:=at' + 1) (m:=many) a1 hm';have m4:=M.ok (sub:=sub) (n:=n) (S:=S) ns (k:=at' + 2) (m:=3) a2 (by decide);have r4:=M.rng ns (at' + 2) (show(0:Int)<3 by decide);unfold eK;generalize hw:mx ns at' 7=w at m0;refine x_call (S1:=S) h.source rfl (ak (aN (d:=.int w) (S1:=S) (by(repeat' done))) ?_) (Gs S _)
 by_cases w0:w=0\/(w=1/\streams=0)
 ·rw[Zf w0];refine bP (bA (S1:=S) ?_ (show _=Res.ok (Fl.rt (.tup [.str "value",.int _])) S from aE (by(repeat' done))));rcases w0 with rfl|⟨rfl,rfl⟩
  ·exact iN (t_k (by(repeat' done)) rfl)
  ·exact b_ (t_k (S1:=S) (by(repeat' done)) rfl) (eY (t_k (S1:=S) (by(repeat' done)) rfl) (t_k (by(repeat' done)) rfl))
 ·rw[Zh w0];refine ak (aK (S1:=S) ?_ aM) ?_
  ·by_cases z:w=0
   ·exact(w0 (.inl z)).elim
   ·by_cases z1:w=1
    ·have hs2:¬(streams=0):=λq=>w0 (.inr ⟨z1,q⟩)
     exact b_ (t_k (S1:=S) (by(repeat' done)) (QF z)) (eY (t_k (S1:=S) (by(repeat' done)) (Q9.mpr z1)) (t_k (by(repeat' done)) (by simp[hs2])))
    ·exact b_ (t_k (S1:=S) (by(repeat' done)) (QF z)) (gp (t_k (by(repeat' done)) (QF z1)))
  ·by_cases w1:w=1
   ·have hs':(0:Int)<streams:=by have:¬streams=0:=λq=>w0 (.inr ⟨w1,q⟩); omega
    have m2:=M.ok (sub:=sub) (n:=n) (S:=S) ns (k:=at' + 1) (m:=streams) a1 hs';have r2:=toNat_cast (M.rng ns (at' + 1) hs').1;rw[Zf w1];refine bP (bA (S1:=S) (t_k (by(repeat' done)) (Q9.mpr w1)) ?_);show _=Res.ok (Fl.rt (.tup [.str "input",.int _])) S;rw[r2];exact aE (by(repeat' done))
   ·rw[Zh w1];have t3:=toNat_cast r3.1;generalize hv:mx ns (at' + 1) many=v at m3 r3 t3;refine ak (aK (S1:=S) (t_k (by(repeat' done)) (QF w1)) aM) (ak (aN (d:=.int v) (S1:=S) (by(repeat' done))) ?_)
    by_cases w2:v.toNat<own/\w<5
    ·rw[Zf w2];refine bP (bA (S1:=S) (eY (t_k (S1:=S) (by(repeat' done)) (Zj (by omega))) (t_k (by(repeat' done)) (Zj w2.2))) ?_);show _=Res.ok (Fl.rt (.tup [.str "work",.int _,.int 0])) S;rw[t3];exact aE (by(repeat' done))
    ·rw[Zh w2];refine ak (aK (S1:=S) ?_ aM) ?_
     ·by_cases w3:v<own
      ·exact eY (t_k (S1:=S) (by(repeat' done)) (Zj w3)) (t_k (by(repeat' done)) (Zt λz=>w2 ⟨by omega,z⟩))
      ·exact gp (t_k (by(repeat' done)) (Zt w3))
     ·show _=Res.ok (Fl.rt (.tup [.str "work",.int _,.int _])) S;rw[t3,toNat_cast (show 0<=1+mx ns (at' + 2) 3 by omega)];exact aE (by(repeat' done))
theorem JX(M:Mix P mx)(ns:WU)(at':Int){streams many own:Nat}(hm:0<many):(eK mx ns at' streams many own).WF own many streams:=by
 have r1:=M.rng ns (at' + 1) (show(0:Int)<9973 by decide);have r3:=M.rng ns (at' + 1) (show(0:Int)<many by omega);have r4:=M.rng ns (at' + 2) (show(0:Int)<3 by decide);unfold eK
 by_cases w0:mx ns at' 7=0\/(mx ns at' 7=1/\streams=0)
 ·rw[Zf w0]; exact⟨r1.1,by omega⟩
 ·rw[Zh w0]
  by_cases w1:mx ns at' 7=1
  ·rw[Zf w1];have hs:streams≠0:=λz=>w0 (.inr ⟨w1,z⟩)
   have r2:=M.rng ns (at' + 1) (show(0:Int)<streams by omega);show _<streams;omega
  ·rw[Zh w1];split
   ·rename_i h; exact⟨by omega,by simpa using h.1⟩
   ·refine⟨by omega,?_⟩;rw[Zh (by omega)];omega
noncomputable def cT(i:Int):Int:=if i=0 then 2 else 5
noncomputable def dF(mx:List Int->Int->Int->Int)(ns:WU)(at':Int)(streams ncrews many own:Nat):Wk where
 crew:=(mx ns (at' + 7) ncrews).toNat
 long:=(1+mx ns (at' + 1) (cT (mx ns (at' + 2) 2))).toNat
 doing:=dB.getD (mx ns at' 5).toNat "plus"
 srcs:=(List.range (1+mx ns (at' + 2) 2).toNat).map λ(k:Nat)=>eK mx ns (at' + 3+3*(k:Int)) streams many own
 starts:=[mx ns (at' + 0) 9973,mx ns (at' + 5) 9973,mx ns (at' + 6) 9973]
theorem dW(k:Nat):bI k=.int (k:Int):=rfl
theorem Jy{i:Int}(h:0<=i/\i<2):atI [D.int 2,D.int 5] i=some (.int (cT i)):=by
 rcases(show i=0\/i=1 by omega) with rfl|rfl<;>rfl
theorem Ct{i:Int}(h:0<=i/\i<5):atI [D.str "plus",D.str "less",D.str "times",D.str "least",D.str "greatest"] i=some (.str (dB.getD i.toNat "plus")):=by
 obtain⟨k,rfl⟩:=Int.eq_ofNat_of_zero_le h.1;rw[nO];have hk:k<5:=by omega
 exact(by decide:∀k:Fin 5,[D.str "plus",D.str "less",D.str "times",D.str "least",D.str "greatest"][k.1]?=some (.str (dB.getD ((k.1:Nat):Int).toNat "plus"))) ⟨k,hk⟩
theorem BL(h:HG P)(M:Mix P mx)(ns:WU){at':Int}{streams ncrews many own:Nat}(hat:0<=at')(hm:0<many)(hc:0<ncrews) :
  ah sub P (n+4) "_law_work" [.fro (ns.map .int),.int at',.tup [.int streams,.int ncrews,.int many],.int own] S=.ok (dF mx ns at' streams ncrews many own).toD S:=by
 have r2:=M.rng ns (at' + 2) (show(0:Int)<2 by decide);have rl:0<cT (mx ns (at' + 2) 2):=by unfold cT; split<;>decide
 have hn:(0:Int)<ncrews:=by omega
 have m (k m:Int) (hk:0<=k) (hm:0<m) (S:af):ah sub P (n+3) "_law_mixed" [.fro (ns.map .int),.int k,.int m] S=.ok (.int (mx ns k m)) S:=M.ok ns hk hm;have m2:=m (at' + 2) 2 (by omega) (by decide);have m0:=m at' 5 hat (by decide);have m7:=m (at' + 7) ncrews (by omega) hn;have m1:=m (at' + 1) (cT (mx ns (at' + 2) 2)) (by omega) rl;have hw:=Ct (M.rng ns at' (show(0:Int)<5 by decide));have h25:=Jy r2
 have val:(dF mx ns at' streams ncrews many own).toD=.tup [.int (mx ns (at' + 7) ncrews),.int (1+mx ns (at' + 1) (cT (mx ns (at' + 2) 2))),.str (dB.getD (mx ns at' 5).toNat "plus"),
   .tup ((List.range (1+mx ns (at' + 2) 2).toNat).map λ(k:Nat)=>(eK mx ns (at' + 3+3*(k:Int)) streams many own).toD),.tup [.int (mx ns (at' + 0) 9973),.int (mx ns (at' + 5) 9973),.int (mx ns (at' + 6) 9973)]]:=by
  have e1:=toNat_cast (M.rng ns (at' + 7) hn).1;have e2:=toNat_cast (i:=1+mx ns (at' + 1) (cT (mx ns (at' + 2) 2))) (by have:=M.rng ns (at' + 1) rl; omega);unfold dF Wk.toD;rw[e1,e2,Xr]; rfl
 have hcl:=(dF mx ns at' streams ncrews many own).cl;rw[val] at hcl ⊢;generalize hq:(1+mx ns (at' + 2) 2).toNat=q at hcl;have hq':(1+mx ns (at' + 2) 2)=(q:Int):=by omega
 obtain⟨x,loop⟩:=mz (sub:=sub) (cf:=ah sub P (n+3)) (i:=8) (j:=7) (l:=S.length)
   (it:=.iRng (.cs (.bin .add (.c (.int 1)) (.call "_law_mixed" (.cs (.v 0) (.cs (.bin .add (.v 1) (.c (.int 2))) (.cs (.c (.int 2)) .nl))))) .nl))
   (e:=.call "_law_source" (.cs (.v 0) (.cs (.bin .add (.bin .add (.v 1) (.c (.int 3))) (.bin .mul (.c (.int 3)) (.v 8))) (.cs (.v 4) (.cs (.v 6) (.cs (.v 3) .nl))))))
   (σ:=[some (.fro (ns.map .int)),some (.int at'),some (.tup [.int streams,.int ncrews,.int many]),some (.int own),some (.int streams),some (.int ncrews),some (.int many),some (.loc S.length),none,none,none,none])
   (S:=S++[.lst []]) (S1:=S++[.lst []]) (xs:=[]) (ks:=List.range q) (f:=bI) (g:=λ(k:Nat)=>(eK mx ns (at' + 3+3*(k:Int)) streams many own).toD) (o:=none) (raw:=[])
   (iI (by(repeat' (first|done|with_reducible exact m2 _))) hq' (by omega) dW) rfl (az _ _) (by decide) (WN (by exact Qx 3)) (λ_=>rfl)
   (λk _ ys=>by
    have:=IG (sub:=sub) (n:=n) (S:=List.set (S++[.lst []]) S.length (.lst ys)) h M ns (at':=at' + 3+3*(k:Int)) (streams:=streams) (many:=many) (own:=own) (by omega) hm;rw[dW]
    (repeat' done)) (by unfold aP; rw[ZS,Xh]; omega)
 rw[jm,QE] at loop
 have comp:∀(y:Option D) (d1 d2:D) (T:af),ev sub (ah sub P (n+3)) (.comp 2 (.call "_law_mixed" (.cs (.v 0) (.cs (.bin .add (.v 1) (.v 13)) (.cs (.c (.int 9973)) .nl)))) (.one 13) (.iSeq (.tup (.cs (.c (.int 0)) (.cs (.c (.int 5)) (.cs (.c (.int 6)) .nl))))) .nl)
   [some (.fro (ns.map .int)),some (.int at'),some (.tup [.int streams,.int ncrews,.int many]),some (.int own),some (.int streams),some (.int ncrews),some (.int many),some (.loc S.length),y,some d1,some d2,none] T =
   .ok (.loc T.length) (T++[.lst [.int (mx ns (at' + 0) 9973),.int (mx ns (at' + 5) 9973),.int (mx ns (at' + 6) 9973)]]):=λy d1 d2 T =>
  fS (ks:=[0,5,6]) (f:=D.int) (g:=λk=>.int (mx ns (at' + k) 9973)) (bw (x:=.tup [.int 0,.int 5,.int 6]) (by(repeat' done)) rfl) rfl (λk hk=>by
   have hk:0<=k:=by
    have:k=0\/k=5\/k=6:=by simpa using hk
    omega
   have:=m (at' + k) 9973 (by omega) (by decide) T
   (repeat' done)) (by decide)
 have go:∀(T:af),(S++.lst ((List.range q).map λ(k:Nat)=>(eK mx ns (at' + 3+3*(k:Int)) streams many own).toD)::T)[S.length]?=some (.lst ((List.range q).map λ(k:Nat)=>(eK mx ns (at' + 3+3*(k:Int)) streams many own).toD)):=λT=>eG S T _
 refine x_call h.work rfl (ak (GF (ds:=[.int streams,.int ncrews,.int many]) (r_v rfl) rfl) (ak (aN (br ai rfl)) (ak loop (ak (aN (by(repeat' (first|done|with_reducible exact m0 _))))
  (ak (aN (by(repeat' (first|done|with_reducible exact m2 _|with_reducible exact m1 _)))) (ak (aN (aH (aa (comp _ _ _ _) ai) wA)) (aE (dQ (aa (by(repeat' (first|done|with_reducible exact m7 _))) (aa (r_v rfl) (aa (r_v rfl) (aa (aH (aa (r_v rfl) ai) (eS (by rw[Zq,Zq,Zq]; exact go _))) (aa (r_v rfl) ai))))) rfl)))))))) (bN hcl (by rw[Zq,Zq,Zq]; exact bS _ _))
theorem HY(M:Mix P mx)(ns:WU)(at':Int){streams ncrews many own:Nat}(hm:0<many)(hc:0<ncrews):(dF mx ns at' streams ncrews many own).WF own many streams ncrews:=by
 have r2:=M.rng ns (at' + 2) (show(0:Int)<2 by decide);have r5:=M.rng ns at' (show(0:Int)<5 by decide);have rl:0<cT (mx ns (at' + 2) 2)/\cT (mx ns (at' + 2) 2)<=5:=by unfold cT; split<;>decide
 have r1:=M.rng ns (at' + 1) rl.1;have r7:=M.rng ns (at' + 7) (show(0:Int)<ncrews by omega);refine⟨?_,⟨?_,?_⟩,?_,⟨?_,?_⟩,λs hs=>?_,rfl,λv hv=>?_⟩
 ·show(mx ns (at' + 7) ncrews).toNat<ncrews; omega
 ·show 1<=(1+mx ns (at' + 1) (cT (mx ns (at' + 2) 2))).toNat; omega
 ·show(1+mx ns (at' + 1) (cT (mx ns (at' + 2) 2))).toNat<=8; omega
 ·show dB.getD (mx ns at' 5).toNat "plus"∈dB;rw[ZJ,Ze (show(mx ns at' 5).toNat<dB.length by show _<5; omega)];exact Xj _
 ·show 1<=((List.range (1+mx ns (at' + 2) 2).toNat).map _).length;rw[Zb,ZS]; omega
 ·show((List.range (1+mx ns (at' + 2) 2).toNat).map _).length<=3;rw[Zb,ZS]; omega
 ·obtain⟨k,_,rfl⟩:=ZA.mp hs;exact JX M ns _ hm
 ·have:∀k,0<=mx ns k 9973/\mx ns k 9973<=9972:=λk=>by have:=M.rng ns k (show(0:Int)<9973 by decide); omega
  have hv:v∈[mx ns (at' + 0) 9973,mx ns (at' + 5) 9973,mx ns (at' + 6) 9973]:=hv;simp at hv;rcases hv with rfl|rfl|rfl<;>exact this _
noncomputable def gY(mx:List Int->Int->Int->Int)(ns:WU)(at':Int)(k:Nat):Nat×Nat:=((1+mx ns (at' + 3+(k:Int)) 2).toNat,(1+mx ns (at' + 5+(k:Int)) 5/2).toNat)
noncomputable def cK(mx:List Int->Int->Int->Int)(ns:WU)(at':Int)(many:Nat):List Nat:=(List.range many).filter λk=>decide (0<mx ns (at' + 7+(k:Int)) 3)
noncomputable def cP(mx:List Int->Int->Int->Int)(ns:WU)(at' most:Int):Lp where
 streams:=(mx ns at' 3).toNat
 crews:=(List.range (1+mx ns (at' + 2) 2).toNat).map (gY mx ns at')
 works:=(List.range (1+mx ns (at' + 1) most).toNat).map λ(k:Nat)=>dF mx ns (at' + 7+9*(k:Int)) (mx ns at' 3).toNat (1+mx ns (at' + 2) 2).toNat (1+mx ns (at' + 1) most).toNat k
 outs:=if cK mx ns at' (1+mx ns (at' + 1) most).toNat=[] then[(1+mx ns (at' + 1) most).toNat-1] else cK mx ns at' (1+mx ns (at' + 1) most).toNat
theorem Ax(M:Mix P mx)(ns:WU){at' most:Int}{nc many:Nat}{os:List Nat}(hq:(1+mx ns (at' + 2) 2).toNat=nc)(hw:(1+mx ns (at' + 1) most).toNat=many)(ho:(if cK mx ns at' many=[] then[many-1] else cK mx ns at' many)=os):(cP mx ns at' most).toD =
  .tup [.int (mx ns at' 3),.tup ((List.range nc).map λ(k:Nat)=>cD (gY mx ns at' k)),.tup ((List.range many).map λ(k:Nat)=>(dF mx ns (at' + 7+9*(k:Int)) (mx ns at' 3).toNat nc many k).toD),.tup (os.map bI)]:=by
 have e0:=toNat_cast (M.rng ns at' (show(0:Int)<3 by decide)).1;unfold cP Lp.toD;simp only[hq,hw,ho,e0,Xr];rfl
theorem CC(h:HG P)(M:Mix P mx)(ns:WU){at' most:Int}(hat:0<=at')(hmo:0<most)(hmo2:most<=8) :
  ah sub P (n+5) "_law_loop" [.fro (ns.map .int),.int at',.int most] S=.ok (cP mx ns at' most).toD S:=by
 have r1:=M.rng ns (at' + 1) hmo;have r2:=M.rng ns (at' + 2) (show(0:Int)<2 by decide);have m (k m:Int) (hk:0<=k) (hm:0<m) (S:af):ah sub P (n+4) "_law_mixed" [.fro (ns.map .int),.int k,.int m] S=.ok (.int (mx ns k m)) S:=M.ok ns hk hm;have m0:=m at' 3 hat (by decide);have m1:=m (at' + 1) most (by omega) hmo;have m2:=m (at' + 2) 2 (by omega) (by decide);have e0:=toNat_cast (M.rng ns at' (show(0:Int)<3 by decide)).1;generalize hq:(1+mx ns (at' + 2) 2).toNat=nc;generalize hw:(1+mx ns (at' + 1) most).toNat=many;have hq':(1+mx ns (at' + 2) 2)=(nc:Int):=by omega
 have hw':(1+mx ns (at' + 1) most)=(many:Int):=by omega
 have hcl:=(cP mx ns at' most).cl;generalize ho:(if cK mx ns at' many=[] then[many-1] else cK mx ns at' many)=os;rw[Ax M ns hq hw ho] at hcl ⊢;generalize hs:(mx ns at' 3).toNat=streams at e0 hcl ⊢
 obtain⟨x,loop1⟩:=mz (sub:=sub) (cf:=ah sub P (n+4)) (i:=6) (j:=5) (l:=S.length) (it:=.iRng (.cs (.bin .add (.c (.int 1)) (.call "_law_mixed" (.cs (.v 0) (.cs (.bin .add (.v 1) (.c (.int 2))) (.cs (.c (.int 2)) .nl))))) .nl))
   (e:=.tup (.cs (.bin .add (.c (.int 1)) (.call "_law_mixed" (.cs (.v 0) (.cs (.bin .add (.bin .add (.v 1) (.c (.int 3))) (.v 6)) (.cs (.c (.int 2)) .nl))))) (.cs (.bin .add (.c (.int 1)) (.bin .fdiv (.call "_law_mixed" (.cs (.v 0) (.cs (.bin .add (.bin .add (.v 1) (.c (.int 5))) (.v 6)) (.cs (.c (.int 5)) .nl)))) (.c (.int 2)))) .nl)))
   (σ:=[some (.fro (ns.map .int)),some (.int at'),some (.int most),some (.int (mx ns at' 3)),some (.int (1+mx ns (at' + 1) most)),some (.loc S.length),none,none,none])
   (S:=S++[.lst []]) (S1:=S++[.lst []]) (xs:=[]) (ks:=List.range nc) (f:=bI) (g:=λ(k:Nat)=>cD (gY mx ns at' k)) (o:=none) (raw:=[])
   (iI (by(repeat' (first|done|with_reducible exact m2 _))) hq' (by omega) dW) rfl (az _ _) (by decide) (WN (by exact Qx 2)) (λ_=>rfl)
   (λk _ ys=>by
    have q1:=m (at' + 3+(k:Int)) 2 (by omega) (by decide);have q2:=m (at' + 5+(k:Int)) 5 (by omega) (by decide);have g1:=M.rng ns (at' + 3+(k:Int)) (show(0:Int)<2 by decide);have g2:=M.rng ns (at' + 5+(k:Int)) (show(0:Int)<5 by decide);have t1:=toNat_cast (i:=1+mx ns (at' + 3+(k:Int)) 2) (by omega);have t2:=toNat_cast (i:=1+mx ns (at' + 5+(k:Int)) 5/2) (by omega);rw[dW];unfold cD gY;rw[t1,t2]
    (repeat' (first|done|with_reducible exact q1 _|with_reducible exact q2 _))) (by unfold aP; rw[ZS,Xh]; omega)
 rw[jm,QE] at loop1;generalize hcr:((List.range nc).map λ(k:Nat)=>cD (gY mx ns at' k))=cr at loop1 hcl ⊢;have hcrl:cr.length=nc:=by rw[<- hcr,Zb,ZS]
 obtain⟨y,loop2⟩:=mz (sub:=sub) (cf:=ah sub P (n+4)) (i:=6) (j:=7) (l:=(S++[Cell.lst cr]).length) (it:=.iRng (.cs (.v 4) .nl))
   (e:=.call "_law_work" (.cs (.v 0) (.cs (.bin .add (.bin .add (.v 1) (.c (.int 7))) (.bin .mul (.c (.int 9)) (.v 6))) (.cs (.tup (.cs (.v 3) (.cs (.bi .len (.cs (.v 5) .nl)) (.cs (.v 4) .nl)))) (.cs (.v 6) .nl)))))
   (σ:=[some (.fro (ns.map .int)),some (.int at'),some (.int most),some (.int (mx ns at' 3)),some (.int (1+mx ns (at' + 1) most)),some (.loc S.length),x,some (.loc (S++[Cell.lst cr]).length),none])
   (S:=(S++[.lst cr])++[.lst []]) (S1:=(S++[.lst cr])++[.lst []]) (xs:=[]) (ks:=List.range many) (f:=bI)
   (g:=λ(k:Nat)=>(dF mx ns (at' + 7+9*(k:Int)) streams nc many k).toD) (o:=none) (raw:=[])
   (iI (by(repeat' done)) hw' (by omega) dW) rfl (az _ _) (by decide) (WN (by exact Qx 2)) (λ_=>rfl)
   (λk _ ys=>by
    rw[jm,dW];have hd:=BL (sub:=sub) (n:=n) (S:=(S++[.lst cr])++[.lst ys]) h M ns (at':=at' + 7+9*(k:Int)) (streams:=streams) (ncrews:=nc) (many:=many) (own:=k) (by omega) (by omega) (by omega);rw[e0,<- hw'] at hd
    have hl:biD sub .len [.loc S.length] ((S++[.lst cr])++[.lst ys])=.ok (.int (nc:Int)) ((S++[.lst cr])++[.lst ys]):=by
     rw[<- hcrl]; exact fG (by rw[Zq]; exact eG _ _ _)
    (repeat' done)) (by unfold aP; rw[ZS,Xh]; omega)
 rw[jm,QE] at loop2;generalize hwk:((List.range many).map λ(k:Nat)=>(dF mx ns (at' + 7+9*(k:Int)) streams nc many k).toD)=wk at loop2 hcl ⊢;generalize hT:(S++[Cell.lst cr])++[Cell.lst wk]=T at loop2;have gc:∀U:af,(T++U)[S.length]?=some (.lst cr):=λU=>by rw[<- hT,Zq,Zq]; exact eG _ _ _
 have gw:∀U:af,(T++U)[(S++[Cell.lst cr]).length]?=some (.lst wk):=λU=>by rw[<- hT,Zq]; exact eG _ _ _
 have tk:∀U:af,(T++U).take S.length=S:=λU=>by rw[<- hT,Zq,Zq]; exact bS _ _
 have comp:=JG (sub:=sub) (cf:=ah sub P (n+4)) (k:=2) (i:=10) (el:=.v 10) (it:=.iRng (.cs (.v 4) .nl)) (tt:=.cmp .gt (.call "_law_mixed" (.cs (.v 0) (.cs (.bin .add (.bin .add (.v 1) (.c (.int 7))) (.v 10)) (.cs (.c (.int 3)) .nl)))) (.c (.int 0)))
   (σ:=[some (.fro (ns.map .int)),some (.int at'),some (.int most),some (.int (mx ns at' 3)),some (.int (1+mx ns (at' + 1) most)),some (.loc S.length),y,some (.loc (S++[Cell.lst cr]).length),none]) (S:=T) (S1:=T) (s:=⟨(List.range many).map bI,none,[]⟩) (g:=id) (p:=λd=>match d with|.int k=>decide (0<mx ns (at' + 7+k) 3)|_=>false) rfl
   (iI (by(repeat' done)) hw' (by omega) dW) rfl
   (λd hd=>by
    obtain⟨k,_,rfl⟩:=ZA.mp hd;have:=m (at' + 7+(k:Int)) 3 (by omega) (by decide) T;rw[dW]
    (repeat' done))
   (λd hd _=>r_v rfl) (by unfold aP; rw[Zb,ZS]; omega)
 rw[List.map_id,List.filter_map,show List.filter ((λd=>match d with|.int k=>decide (0<mx ns (at' + 7+k) 3)|_=>false)∘bI) (List.range many)=cK mx ns at' many from rfl] at comp;refine JS h.loop rfl (ak (aN (by(repeat' (first|done|with_reducible exact m0 _)))) (ak (aN (by(repeat' (first|done|with_reducible exact m1 _)))) (ak (aN (br ai rfl)) (ak loop1 (ak (aN (br ai rfl)) (ak loop2 (ak (aN comp) rfl))))))) ?_ hcl
 cases hu:cK mx ns at' many with
 | nil =>
  rw[hu,Zf rfl] at ho;subst ho;have t3:((many-1:Nat):Int)=1+mx ns (at' + 1) most-1:=by omega
  have hE:cmD .eq (.loc T.length) (.loc (T++[Cell.lst []]).length) ((T++[.lst []])++[.lst []])=.ok (.bl true) ((T++[.lst []])++[.lst []]):=jc (xs:=[]) (by rw[Zq]; exact eG _ _ _) (az _ _);refine⟨_,ak (bA (aR (aO (r_v rfl) (br ai rfl) hE)) (aN (by(repeat' done)))) (aE (dQ (aa (r_v rfl) (aa (aH (aa (r_v rfl) ai) (eS ?_)) (aa (aH (aa (r_v rfl) ai) (eS ?_)) (aa (aH (aa (r_v rfl) ai) (eS ?_)) ai)))) rfl)),?_⟩
  ·rw[Zq,Zq]; exact gc _
  ·rw[Zq,Zq]; exact gw _
  ·rw[ZI,dW,t3]; exact az _ _
  ·rw[Zq,Zq]; exact tk _
 | cons a r =>
  rw[hu,Zh (by intro z; cases z)] at ho;subst ho;have hE:cmD .eq (.loc T.length) (.loc (T++[Cell.lst ((a::r).map bI)]).length) ((T++[.lst ((a::r).map bI)])++[.lst []])=.ok (.bl false) ((T++[.lst ((a::r).map bI)])++[.lst []]):=jc (xs:=(a::r).map bI) (by rw[Zq]; exact eG _ _ _) (az _ _);refine⟨_,ak (aK (aR (aO (r_v rfl) (br ai rfl) hE)) aM) (aE (dQ (aa (r_v rfl) (aa (aH (aa (r_v rfl) ai) (eS ?_)) (aa (aH (aa (r_v rfl) ai) (eS ?_)) (aa (aH (aa (r_v rfl) ai) (eS ?_)) ai)))) rfl)),?_⟩
  ·rw[Zq]; exact gc _
  ·rw[Zq]; exact gw _
  ·rw[Zq]; exact eG _ _ _
  ·rw[Zq]; exact tk _
theorem qG(p:Nat->Bool)(many:Nat):∀(k c:Nat),k+c<=many->dX many k ((List.range' k c).filter p)
 | k,0,_=>trivial
 | k,c+1,h=>by
  rw[List.range'_succ,List.filter_cons];have:=qG p many (k+1) c (by omega);split
  ·exact⟨Zm _,by omega,this⟩
  ·have low:∀(l:List Nat) (a b:Nat),a<=b->dX many b l->dX many a l:=by
    intro l
    cases l with
    | nil=>intros; trivial
    | cons x r=>intro a b hab ⟨h1,h2,h3⟩; exact⟨by omega,h2,h3⟩
   exact low _ _ _ (XU _) this
theorem zq(M:Mix P mx)(ns:WU){at' most:Int}(hmo:0<most)(hmo2:most<=8):(cP mx ns at' most).WF:=by
 have r0:=M.rng ns at' (show(0:Int)<3 by decide);have r1:=M.rng ns (at' + 1) hmo;have r2:=M.rng ns (at' + 2) (show(0:Int)<2 by decide);have hw:(cP mx ns at' most).works.length=(1+mx ns (at' + 1) most).toNat:=by simp[cP]
 have hc:(cP mx ns at' most).crews.length=(1+mx ns (at' + 2) 2).toNat:=by simp[cP]
 refine⟨?_,?_,λc hcm=>?_,?_,λi w hi=>?_,?_,?_⟩
 ·show(mx ns at' 3).toNat<=6; omega
 ·rw[hc]; omega
 ·obtain⟨k,_,rfl⟩:=ZA.mp hcm;have q1:=M.rng ns (at' + 3+(k:Int)) (show(0:Int)<2 by decide);have q2:=M.rng ns (at' + 5+(k:Int)) (show(0:Int)<5 by decide);simp only[gY];omega
 ·rw[hw]; omega
 ·rw[hw,hc];have hi':i<(1+mx ns (at' + 1) most).toNat:=by rw[<- hw]; exact(Zi.mp hi).1
  have hi:((List.range (1+mx ns (at' + 1) most).toNat).map λ(k:Nat)=>dF mx ns (at' + 7+9*(k:Int)) (mx ns at' 3).toNat (1+mx ns (at' + 2) 2).toNat (1+mx ns (at' + 1) most).toNat k)[i]?=some w:=hi;rw[ZL,List.getElem?_range hi'] at hi;cases hi;exact HY M ns _ (by omega) (by omega)
 ·show 1<=(if cK mx ns at' (1+mx ns (at' + 1) most).toNat=[] then[(1+mx ns (at' + 1) most).toNat-1] else cK mx ns at' (1+mx ns (at' + 1) most).toNat).length;split
  ·simp
  ·rename_i h; exact WA.mpr h
 ·rw[hw];show dX _ 0 (if cK mx ns at' (1+mx ns (at' + 1) most).toNat=[] then[(1+mx ns (at' + 1) most).toNat-1] else cK mx ns at' (1+mx ns (at' + 1) most).toNat);split
  ·exact⟨Xe _,by omega,trivial⟩
  ·unfold cK;rw[List.range_eq_range'];exact qG _ _ 0 _ (by omega)
end
end RL

namespace RL
open PySem EV GO
noncomputable def kQ:Fn:=⟨1,5,(.seq (.set (.one 1) (.ix (.call "checked" (.cs (.v 0) .nl)) (.c (.int 2))))
 (.seq (.set (.one 2) (.lst .nl))
 (.seq (.forS (.many [3,4]) (.iEnum (.v 1))
  (.ex (.me .extend (.v 2) (.cs (.comp 2 (.tup (.cs (.ix (.v 6) (.c (.int 1))) (.cs (.v 3) (.cs (.ix (.v 6) (.c (.int 2))) .nl)))) (.one 6) (.iSeq (.ix (.v 4) (.c (.int 3)))) (.cmp .eq (.ix (.v 6) (.c (.int 0))) (.c (.str "work")))) .nl))))
 (.ret (.bi .sortedSet (.cs (.v 2) .nl))))))⟩
noncomputable def tupI(t:WU):D:=.tup (t.map .int)
noncomputable def b7(behind:Nat):Srs->Option (List Int)
 | .wrk w b=>some [(w:Int),(behind:Int),(b:Int)]
 | _=>none
noncomputable def bB:Nat->List Wk->List (List Int)
 | _,[]=>[]
 | k,w::r=>w.srcs.filterMap (b7 k)++bB (k+1) r
theorem oq{sub:Sub}{cf:Str->List D->M D}{σ:Sg}{S S1:af}{k i:Nat}{el it tt:E}{α:Type}{ks:List α}{f:α->D}{g:α->Option D}{o:Option Nat}{raw:Ya}(hn:tt.bq=false)(hi:evI sub cf it σ S=.ok ⟨ks.map f,o,raw⟩ S1)(hs:aL ⟨ks.map f,o,raw⟩ S1=.ok () S1)
  (hp:∀a∈ks,evT sub cf tt ((σ++List.replicate k none).set i (some (f a))) S1=.ok (g a).isSome S1) (hg:∀a∈ks,∀d,g a=some d->ev sub cf el ((σ++List.replicate k none).set i (some (f a))) S1=.ok d S1) (hz:ks.length<=aP) :
  ev sub cf (.comp k el (.one i) it tt) σ S=.ok (.loc S1.length) (S1++[.lst (ks.filterMap g)]):=by
 rw[d_,hi];simp only[Res.aj]
 have:=mQ (s:=⟨ks.map f,o,raw⟩) (f:=f) (fn:=λd=>aT (.one i) d (σ++List.replicate k none)>>=λσ'=>(if tt.bq=true then pure true else evT sub cf tt σ')>>=λb=>if b=true then ev sub cf el σ'>>=λy=>pure (some y) else pure none) (g:=g) (S:=S1) hs (ks:=ks) (λd hd=>by
  simp only[aq,iP,Res.aj,hn,Zu,ZM];rw[hp d hd]
  cases q:g d with
  | none=>rfl
  | some y=>simp[aq,hg d hd y q])
 rw[fW this];simp only[Res.aj];rw[Zf (show fits (ks.filterMap g).length=true from Zj (Z2 (Q8 _ _) hz))]
theorem kL:∀(ws:List Wk) (k i:Nat) (h:i<ws.length),bB k (ws.take (i+1))=bB k (ws.take i)++(ws[i]).srcs.filterMap (b7 (k+i))
 | w::r,k,0,_=>by simp[bB]
 | w::r,k,i+1,h=>by
  have:=kL r (k+1) i (by simpa using h);simp only[List.take_succ_cons,bB,List.getElem_cons_succ];rw[this,Zq,show k+1+i=k+(i+1) by omega]
theorem j5:∀(ws:List Wk) (k:Nat),(∀w∈ws,w.srcs.length<=3)->(bB k ws).length<=3*ws.length
 | [],_,_=>Zm _
 | w::r,k,h=>by
  have h1:=j5 r (k+1) λv hv=>h v (Zr _ hv)
  have h2:=h w Zo;have h3:(w.srcs.filterMap (b7 k)).length<=w.srcs.length:=Q8 _ _;simp only[bB,Zn,Zy];omega
theorem kI:∀{ws:List Wk} {k:Nat} {t:WU},t∈bB k ws->∃i w b x,ws[i]?=some w/\Srs.wrk x b∈w.srcs/\t=[(x:Int),((k+i:Nat):Int),(b:Int)]
 | w::r,k,t,h=>by
  rcases ZB.mp h with h|h
  ·obtain⟨s,hs,e⟩:=QY.mp h
   cases s with
   | wrk x b=>cases e; exact⟨0,w,b,x,rfl,hs,rfl⟩
   | _=>cases e
  ·obtain⟨i,v,b,x,h1,h2,h3⟩:=kI h;exact⟨i+1,v,b,x,h1,h2,by rw[h3,show k+1+i=k+(i+1) by omega]⟩
theorem allI(t:WU):allInts (t.map .int)=some t:=by
 induction t with
 | nil=>rfl
 | cons a r ih=>show(allInts (r.map .int)).map (a :: ·)=_; rw[ih]; rfl
theorem pG:∀ts:List (List Int),tups (ts.map tupI)=some ts
 | []=>rfl
 | t::r=>by
  show(match allInts (t.map .int),tups (r.map tupI) with|some t,some q=>some (t::q)|_,_=>none)=_;rw[allI,pG r]
theorem JU(t:WU):D.lows 0 (t.map .int)=true:=by
 induction t with
 | nil=>rfl
 | cons a r ih=>show(D.low 0 (.int a)&&D.lows 0 (r.map .int))=true; rw[ih]; rfl
theorem gu(ts:WY):D.lows 0 (ts.map tupI)=true:=by
 induction ts with
 | nil=>rfl
 | cons t r ih=>show(D.lows 0 (t.map .int)&&D.lows 0 (r.map tupI))=true; rw[JU,ih]; rfl
section
variable{sub:Sub}{P:Prg}{n:Nat}{S:af}
theorem yX{cf:Str->List D->M D}{x0 x1 x2:Option D}{i:Nat}{w:Wk}{T:af}(hw:w.srcs.length<=3) :
  ev sub cf (.comp 2 (.tup (.cs (.ix (.v 6) (.c (.int 1))) (.cs (.v 3) (.cs (.ix (.v 6) (.c (.int 2))) .nl)))) (.one 6) (.iSeq (.ix (.v 4) (.c (.int 3)))) (.cmp .eq (.ix (.v 6) (.c (.int 0))) (.c (.str "work"))))
   [x0,x1,x2,some (.int (i:Int)),some w.toD] T=.ok (.loc T.length) (T++[.lst ((w.srcs.filterMap (b7 i)).map tupI)]):=by
 have h:=oq (sub:=sub) (cf:=cf) (k:=2) (i:=6) (el:=.tup (.cs (.ix (.v 6) (.c (.int 1))) (.cs (.v 3) (.cs (.ix (.v 6) (.c (.int 2))) .nl)))) (it:=.iSeq (.ix (.v 4) (.c (.int 3)))) (tt:=.cmp .eq (.ix (.v 6) (.c (.int 0))) (.c (.str "work")))
  (σ:=[x0,x1,x2,some (.int (i:Int)),some w.toD]) (S:=T) (S1:=T) (ks:=w.srcs) (f:=Srs.toD) (g:=λs=>(b7 i s).map tupI) (o:=none) (raw:=w.srcs.map Srs.toD) rfl (bw (aC (r_v rfl) r_c (aI rfl)) rfl) rfl
  (λs _=>by
   cases s with
   | val v=>exact aR (aO (aC (r_v rfl) r_c (aI rfl)) r_c rfl)
   | inp k=>exact aR (aO (aC (r_v rfl) r_c (aI rfl)) r_c rfl)
   | wrk x b=>exact aR (aO (aC (r_v rfl) r_c (aI rfl)) r_c rfl))
  (λs _ d hd=>by
   cases s with
   | val v=>cases hd
   | inp k=>cases hd
   | wrk x b =>
    cases hd;exact dQ (aa (aC (r_v rfl) r_c (aI rfl)) (aa (r_v rfl) (aa (aC (r_v rfl) r_c (aI rfl)) ai))) rfl)
  (by unfold aP; omega)
 rw[h,List.map_filterMap]
theorem xj{T:af}{a b:Cell}{G:af}:(T++a::G).set T.length b=T++b::G:=by
 rw[List.set_append_right _ _ (Zm _),Wr]; rfl
theorem gF{T:af}{a:Cell}{G:af}:(T++a::G)[T.length]?=some a:=by
 rw[ZO (Zm _),Wr]; rfl
theorem Ga{T:af}{k:Nat}{ts:WY}(hk:T[k]?=some (.lst (ts.map tupI)))(h1:ts.length<=18)(h2:(ts.all λt=>!t.isEmpty)=true):biD sub .sortedSet [.loc k] T=.ok (.loc T.length) (T++[.lst ((bf ts).map tupI)]):=by
 show(bG (.loc k)>>=λds=>opt (tups ds)>>=λts=>guard (decide (ts.length<=18)&&ts.all λt=>!t.isEmpty) (alloc (.lst ((bf ts).map λt=>.tup (t.map .int))))) T=_;have e:bG (.loc k) T=.ok (ts.map tupI) T:=bT hk;rw[aq,e];simp only[Res.aj];rw[aq,pG];simp only[cO,Res.aj];rw[h2,Zj h1];rfl
theorem fT{T:af}{ds:Ya}{m:Nat}(hm:S.length<=m)(ht:T.take S.length=S)(h:T[m]?=some (.lst ds))(hc:D.lows 0 ds=true):leave S (.loc m) T=.ok (.loc S.length) (S++[.lst ds]):=by
 unfold leave;rw[Zf ht,Zh (by show ¬decide (m<S.length)=true; simp; omega)];simp only[h];rw[Zf (show Cell.low S.length (.lst ds)=true from i6 (Xe _) hc)]
theorem lN(h:HB P)(hn:Has P "needs" kQ){l:Lp}(hl:l.WF)(h6:l.works.length<=6):ah sub P (n+8) "needs" [l.toD] S=.ok (.loc S.length) (S++[.lst ((bf (bB 0 l.works)).map tupI)]):=by
 have h3:∀w∈l.works,w.srcs.length<=3:=λw hw=>by
  obtain⟨i,hi⟩:=ZP hw;exact(hl.works i w hi).some.2
 have hnl:∀i,(bB 0 (l.works.take i)).length<=18:=λi=>by
  have:=j5 (l.works.take i) 0 λw hw=>h3 w (X6 hw)
  rw[Z3] at this;omega
 have hnum:(num 0 (l.works.map Wk.toD)).length=l.works.length:=by rw[iS,Zb]
 obtain⟨σ',T',e,x3,x4,G,rfl,rfl⟩:=g9 (sub:=sub) (cf:=ah sub P (n+7)) (t:=.many [3,4]) (it:=.iEnum (.v 1)) (b:=.ex (.me .extend (.v 2) (.cs (.comp 2 (.tup (.cs (.ix (.v 6) (.c (.int 1))) (.cs (.v 3) (.cs (.ix (.v 6) (.c (.int 2))) .nl)))) (.one 6) (.iSeq (.ix (.v 4) (.c (.int 3)))) (.cmp .eq (.ix (.v 6) (.c (.int 0))) (.c (.str "work")))) .nl)))
  (σ:=[some l.toD,some (.tup (l.works.map Wk.toD)),some (.loc S.length),none,none]) (S:=S++[.lst []]) (S1:=S++[.lst []]) (s:=⟨num 0 (l.works.map Wk.toD),none,l.works.map Wk.toD⟩)
  (λi σ T=>∃x3 x4 G,σ=[some l.toD,some (.tup (l.works.map Wk.toD)),some (.loc S.length),x3,x4]/\T=S++.lst ((bB 0 (l.works.take i)).map tupI)::G)
  (by simp) ⟨none,none,[],rfl,rfl⟩ (λ_ _ _ _=>rfl) (λi hi σ T ⟨x3,x4,G,hσ,hT⟩=>by
   subst hσ; subst hT;have hi':i<l.works.length:=by rw[<- hnum]; exact hi
   have hit:(num 0 (l.works.map Wk.toD))[i]=.tup [.int (i:Int),(l.works[i]).toD]:=by
    rw[oF]; simp
   show ∃σ' T',bH sub (ah sub P (n+7)) _ _ (num 0 (l.works.map Wk.toD))[i] _ _=_/\_;rw[hit];refine⟨_,_,wD rfl (fk (gg (r_v rfl) (aa (yX (h3 _ (Xj hi'))) ai) (l_ (l:=S.length) (ds:=(bB 0 (l.works.take i)).map tupI) (k:=(S++.lst ((bB 0 (l.works.take i)).map tupI)::G).length) ?_ (az _ _) ?_))),some (.int (i:Int)),some (l.works[i]).toD,G++[.lst (((l.works[i]).srcs.filterMap (b7 i)).map tupI)],rfl,?_⟩
   ·exact(ZC (by simp)).trans gF
   ·have h1:=hnl (i+1);rw[kL _ _ _ hi',Zn,XV] at h1;rw[Zb,Zb];unfold aP; omega
   ·rw[Zq,XX,xj,<- ZK,kL _ _ _ hi',XV])
 rw[hnum,Z4] at e
 have ne:((bB 0 l.works).all λt=>!t.isEmpty)=true:=Z9.mpr λt ht=>by
  obtain⟨i,w,b,x,_,_,rfl⟩:=kI ht;rfl
 have hl18:=hnl l.works.length;rw[Z4] at hl18;refine x_call (ds:=[l.toD]) hn rfl (ak (aN (aC (aB (aa (r_v rfl) ai) (tE h hl)) r_c (aI rfl))) (ak (aN (br ai rfl)) (ak e (aE (aH (aa (r_v rfl) ai) (Ga gF hl18 ne)))))) (fT (by simp) ?_ (az _ _) (gu _));rw[Zq,bS]
end
end RL

namespace RL
open PySem EV GO
noncomputable def fX:Fn:=⟨1,5,(.seq (.set (.one 1) (.lst .nl))
 (.seq (.forS (.many [2,3]) (.iEnum (.ix (.v 0) (.c (.int 2))))
  (.forS (.one 4) (.iSeq (.ix (.v 3) (.c (.int 3))))
  (.ite (.and (.cmp .eq (.ix (.v 4) (.c (.int 0))) (.c (.str "work"))) (.cmp .bK (.tup (.cs (.ix (.v 4) (.c (.int 1))) (.cs (.v 2) (.cs (.ix (.v 4) (.c (.int 2))) .nl)))) (.v 1)))
  (.ex (.me .append (.v 1) (.cs (.tup (.cs (.ix (.v 4) (.c (.int 1))) (.cs (.v 2) (.cs (.ix (.v 4) (.c (.int 2))) .nl)))) .nl)))
  .skip)))
 (.ret (.bi .sorted (.cs (.v 1) .nl)))))⟩
noncomputable def cE(acc:WY)(t:WU):List (List Int):=if t∈acc then acc else acc++[t]
noncomputable def uniq(acc ts:WY):List (List Int):=ts.foldl cE acc
theorem Ea(acc:WY)(t x:WU):x∈cE acc t ↔ x∈acc\/x=t:=by
 unfold cE;split
 ·rename_i h;exact⟨.inl,λq=>q.elim id λe=>e▸h⟩
 ·simp
theorem FN{acc:WY}(t:WU)(h:acc.Nodup):(cE acc t).Nodup:=by
 unfold cE;split
 ·exact h
 ·rename_i q;refine XQ.mpr ⟨h,by simp,λa ha b hb e=>?_⟩;rw[ZH.mp hb] at e;exact q (e▸ha)
theorem Bt(acc:WY)(t:WU):(cE acc t).length<=acc.length+1:=by
 unfold cE;split
 ·omega
 ·simp
theorem ow(x:WU):∀(ts acc:WY),x∈uniq acc ts ↔ x∈acc\/x∈ts
 | [],acc=>by unfold uniq; simp
 | t::r,acc=>by
  show x∈uniq (cE acc t) r ↔ _;rw[ow x r,Ea,Zx,or_assoc]
theorem uJ:∀(ts acc:WY),acc.Nodup->(uniq acc ts).Nodup
 | [],_,h=>h
 | t::r,_,h=>uJ r _ (FN t h)
theorem mL:∀(ts acc:WY),(uniq acc ts).length<=acc.length+ts.length
 | [],acc=>by unfold uniq; simp
 | t::r,acc=>by
  have h1:=mL r (cE acc t);have h2:=Bt acc t;show(uniq (cE acc t) r).length<=_;rw[Zy];omega
theorem vd(acc xs ys:WY):uniq acc (xs++ys)=uniq (uniq acc xs) ys:=WM
theorem DK(ts:WY):bf (uniq [] ts)=bf ts:=oS (jH _) λy=>by
 rw[oV,ow]; simp
noncomputable def lB:List Int->List Int->Bool
 | a::r,b::q=>(a==b)&&lB r q
 | _,_=>true
theorem xm:∀u t:List Int,(lB u t&&(u.length==t.length))=decide (u=t)
 | [],[]=>rfl
 | [],_::_=>rfl
 | _::_,[]=>rfl
 | a::r,b::q=>by
  have ih:=xm r q
  have e1:((a::r).length==(b::q).length)=(r.length==q.length):=by
   rw[Zy,Zy]
   by_cases h:r.length=q.length
   ·rw[h,Xi,Xi]
   ·rw[ZW.mpr h,ZW.mpr (by omega)]
  show((a==b)&&lB r q&&((a::r).length==(b::q).length))=_;rw[e1,Bool.and_assoc,ih]
  by_cases h:a=b
  ·subst h;rw[Xi,X9]
   by_cases h:r=q
   ·subst h; rw[Zj rfl,Zj rfl]
   ·rw[Zt h,Zt λe=>h (Qa e).2]
  ·rw[ZW.mpr h,XY,Zt λe=>h (Qa e).1]
theorem xC{S:af}(n:Nat):∀u t:List Int,bx (eqD (n+1) S) (u.map .int) (t.map .int)=some (lB u t)
 | [],[]=>rfl
 | [],_::_=>rfl
 | _::_,[]=>rfl
 | a::r,b::q=>by
  show(match eqD (n+1) S (.int a) (.int b),bx (eqD (n+1) S) (r.map .int) (q.map .int) with|some a,some b=>some (a&&b)|_,_=>none)=_;rw[xC n r q]; rfl
theorem Jg{S:af}(u t:WU):eqD deep S (tupI u) (tupI t)=some (decide (u=t)):=by
 show(bx (eqD 11 S) (u.map .int) (t.map .int)).map (λr=>r&&((u.map D.int).length==(t.map D.int).length))=_;rw[xC 10,Zb,Zb,<- xm]; rfl
theorem wH{S:af}(t:WU):∀ts:List (List Int),inL S (tupI t) (ts.map tupI)=some (decide (t∈ts))
 | []=>by simp[inL]
 | u::r=>by
  show(match eqD deep S (tupI u) (tupI t),inL S (tupI t) (r.map tupI) with|some a,some b=>some (a||b)|_,_=>none)=_;rw[Jg,wH t r];show some (decide (u=t)||decide (t∈r))=_;congr 1
  by_cases h:u=t
  ·subst h; simp
  ·rw[Zt h,Bool.false_or]
   by_cases q:t∈r
   ·rw[Zj q,Zj (Zr _ q)]
   ·rw[Zt q,Zt];intro z;rcases Zx.mp z with z|z
    ·exact h z.symm
    ·exact q z
section
variable{sub:Sub}{P:Prg}{n:Nat}{S:af}
theorem E8{T:af}{k:Nat}{ts:WY}{t:WU}(hk:T[k]?=some (.lst (ts.map tupI))):cmD .bK (tupI t) (.loc k) T=.ok (.bl (!decide (t∈ts))) T:=by
 show(items (.loc k)>>=λys=>inA true (tupI t) ys) T=_;rw[aq,bT hk];simp only[Res.aj];unfold inA;rw[wH];show Res.ok (D.bl (decide (t∈ts)!=true)) T=_;cases decide (t∈ts)<;>rfl
theorem JQ{T:af}{k:Nat}{ts:WY}(hk:T[k]?=some (.lst (ts.map tupI)))(h1:ts.length<64)(h2:ts.Nodup)(h3:(ts.all λt=>!t.isEmpty)=true):biD sub .sorted [.loc k] T=.ok (.loc T.length) (T++[.lst ((bf ts).map tupI)]):=by
 show(items (.loc k)>>=λds=>lD ds) T=_;rw[aq,bT hk];simp only[Res.aj]
 cases ts with
 | nil=>rfl
 | cons t r =>
  show l9 (tups ((t::r).map tupI)) T=_;rw[pG];show guard (decide ((t::r).length<64)&&decide (t::r).Nodup&&(t::r).all λt=>!t.isEmpty) (alloc (.lst ((bf (t::r)).map tupI))) T=_;rw[h3,Zj h1,Zj h2]; rfl
noncomputable def iJ:EV.S:=.ite (.and (.cmp .eq (.ix (.v 4) (.c (.int 0))) (.c (.str "work"))) (.cmp .bK (.tup (.cs (.ix (.v 4) (.c (.int 1))) (.cs (.v 2) (.cs (.ix (.v 4) (.c (.int 2))) .nl)))) (.v 1)))
  (.ex (.me .append (.v 1) (.cs (.tup (.cs (.ix (.v 4) (.c (.int 1))) (.cs (.v 2) (.cs (.ix (.v 4) (.c (.int 2))) .nl)))) .nl)))
  .skip
theorem need_one{cf:Str->List D->M D}{l0:D}{i:Nat}{w:D}{s:Srs}{acc:WY}(hz:acc.length<=1000) :
  exec sub cf iJ [some l0,some (.loc S.length),some (.int (i:Int)),some w,some s.toD] (S++[.lst (acc.map tupI)])=.ok (.nx [some l0,some (.loc S.length),some (.int (i:Int)),some w,some s.toD]) (S++[.lst ((match b7 i s with|some t=>cE acc t|none=>acc).map tupI)]):=by
 cases s with
 | val v=>exact aK (gp (aR (aO (aC (r_v rfl) r_c (aI rfl)) r_c rfl))) aM
 | inp k=>exact aK (gp (aR (aO (aC (r_v rfl) r_c (aI rfl)) r_c rfl))) aM
 | wrk x b =>
  have hn:=E8 (t:=[(x:Int),(i:Int),(b:Int)]) (az S (.lst (acc.map tupI)))
  have ht:evT sub cf (.and (.cmp .eq (.ix (.v 4) (.c (.int 0))) (.c (.str "work"))) (.cmp .bK (.tup (.cs (.ix (.v 4) (.c (.int 1))) (.cs (.v 2) (.cs (.ix (.v 4) (.c (.int 2))) .nl)))) (.v 1)))
    [some l0,some (.loc S.length),some (.int (i:Int)),some w,some (Srs.wrk x b).toD] (S++[.lst (acc.map tupI)])=.ok (!decide ([(x:Int),(i:Int),(b:Int)]∈acc)) (S++[.lst (acc.map tupI)]) :=
   eY (aR (aO (aC (r_v rfl) r_c (aI rfl)) r_c rfl)) (aR (aO (dQ (aa (aC (r_v rfl) r_c (aI rfl)) (aa (r_v rfl) (aa (aC (r_v rfl) r_c (aI rfl)) ai))) rfl) (r_v rfl) hn))
  show _=Res.ok (Fl.nx _) (S++[.lst ((cE acc [(x:Int),(i:Int),(b:Int)]).map tupI)]);unfold cE
  by_cases h:[(x:Int),(i:Int),(b:Int)]∈acc
  ·rw[Zf h];rw[Zj h] at ht;exact aK ht aM
  ·rw[Zh h];rw[Zt h] at ht;rw[ZK];exact bA ht (fk (gg (r_v rfl) (aa (dQ (aa (aC (r_v rfl) r_c (aI rfl)) (aa (r_v rfl) (aa (aC (r_v rfl) r_c (aI rfl)) ai))) rfl) ai) (C_ (by rw[Zb]; omega))))
theorem Ia(i:Nat)(s:Srs)(acc:WY)(ss:List Srs):uniq acc ((ss++[s]).filterMap (b7 i))=match b7 i s with|some t=>cE (uniq acc (ss.filterMap (b7 i))) t|none=>uniq acc (ss.filterMap (b7 i)):=by
 rw[List.filterMap_append,vd]
 cases h:b7 i s with
 | none=>rw[List.filterMap_cons_none h]; rfl
 | some t=>rw[List.filterMap_cons_some h]; rfl
theorem Ik{cf:Str->List D->M D}{l0:D}{i:Nat}{w:Wk}{acc:WY}{x4:Option D}(hz:acc.length<=100)(hw:w.srcs.length<=3) :
  ∃x4',exec sub cf (.forS (.one 4) (.iSeq (.ix (.v 3) (.c (.int 3)))) iJ) [some l0,some (.loc S.length),some (.int (i:Int)),some w.toD,x4] (S++[.lst (acc.map tupI)]) =
   .ok (.nx [some l0,some (.loc S.length),some (.int (i:Int)),some w.toD,x4']) (S++[.lst ((uniq acc (w.srcs.filterMap (b7 i))).map tupI)]):=by
 obtain⟨σ',T',e,x4',rfl,rfl⟩:=g9 (sub:=sub) (cf:=cf) (t:=.one 4) (it:=.iSeq (.ix (.v 3) (.c (.int 3)))) (b:=iJ) (σ:=[some l0,some (.loc S.length),some (.int (i:Int)),some w.toD,x4]) (S:=S++[.lst (acc.map tupI)]) (S1:=S++[.lst (acc.map tupI)]) (s:=⟨w.srcs.map Srs.toD,none,w.srcs.map Srs.toD⟩)
  (λj σ T=>∃x4,σ=[some l0,some (.loc S.length),some (.int (i:Int)),some w.toD,x4]/\T=S++[.lst ((uniq acc ((w.srcs.take j).filterMap (b7 i))).map tupI)])
  (bw (aC (r_v rfl) r_c (aI rfl)) rfl) ⟨x4,rfl,rfl⟩ (λ_ _ _ _=>rfl) (λj hj σ T ⟨x4,hσ,hT⟩=>by
   subst hσ; subst hT;have hj':j<w.srcs.length:=by simpa using hj
   have hit:(w.srcs.map Srs.toD)[j]'hj=(w.srcs[j]).toD:=Qe _;show ∃σ' T',bH sub cf (.one 4) iJ ((w.srcs.map Srs.toD)[j]'hj) _ _=_/\_;rw[hit];have h1:=mL ((w.srcs.take j).filterMap (b7 i)) acc;have h2:((w.srcs.take j).filterMap (b7 i)).length<=(w.srcs.take j).length:=Q8 _ _;rw[Z3] at h2;refine⟨_,_,dw (need_one (by omega)),some (w.srcs[j]).toD,rfl,?_⟩;rw[Qy hj',Ia])
 rw[Zb,Z4] at e;exact⟨x4',e⟩
theorem lA(hn:Has P "_law_needs" fX){l:Lp}(hl:l.WF)(h6:l.works.length<=6):ah sub P (n+1) "_law_needs" [l.toD] S=.ok (.loc S.length) (S++[.lst ((bf (bB 0 l.works)).map tupI)]):=by
 have h3:∀w∈l.works,w.srcs.length<=3:=λw hw=>by
  obtain⟨i,hi⟩:=ZP hw;exact(hl.works i w hi).some.2
 have hnl:∀i,(uniq [] (bB 0 (l.works.take i))).length<=18:=λi=>by
  have h1:=j5 (l.works.take i) 0 λw hw=>h3 w (X6 hw)
  have h2:=mL (bB 0 (l.works.take i)) [];rw[Z3] at h1;rw[Xh] at h2;omega
 have hnum:(num 0 (l.works.map Wk.toD)).length=l.works.length:=by rw[iS,Zb]
 obtain⟨σ',T',e,x2,x3,x4,rfl,rfl⟩:=g9 (sub:=sub) (cf:=ah sub P n) (t:=.many [2,3]) (it:=.iEnum (.ix (.v 0) (.c (.int 2)))) (b:=.forS (.one 4) (.iSeq (.ix (.v 3) (.c (.int 3)))) iJ)
  (σ:=[some l.toD,some (.loc S.length),none,none,none]) (S:=S++[.lst []]) (S1:=S++[.lst []]) (s:=⟨num 0 (l.works.map Wk.toD),none,l.works.map Wk.toD⟩)
  (λi σ T=>∃x2 x3 x4,σ=[some l.toD,some (.loc S.length),x2,x3,x4]/\T=S++[.lst ((uniq [] (bB 0 (l.works.take i))).map tupI)])
  (by rw[CD,aC (r_v rfl) r_c (aI rfl),Res.aj]; rfl) ⟨none,none,none,rfl,rfl⟩ (λ_ _ _ _=>rfl) (λi hi σ T ⟨x2,x3,x4,hσ,hT⟩=>by
   subst hσ; subst hT;have hi':i<l.works.length:=by rw[<- hnum]; exact hi
   have hit:(num 0 (l.works.map Wk.toD))[i]=.tup [.int (i:Int),(l.works[i]).toD]:=by
    rw[oF]; simp
   show ∃σ' T',bH sub (ah sub P n) _ _ (num 0 (l.works.map Wk.toD))[i] _ _=_/\_;rw[hit];have h1:=hnl i;obtain⟨x4',e⟩:=Ik (sub:=sub) (cf:=ah sub P n) (S:=S) (l0:=l.toD) (i:=i) (w:=l.works[i]) (acc:=uniq [] (bB 0 (l.works.take i))) (x4:=x4) (by omega) (h3 _ (Xj hi'));refine⟨_,_,wD rfl e,some (.int (i:Int)),some (l.works[i]).toD,x4',rfl,?_⟩;rw[kL _ _ _ hi',XV,vd])
 rw[hnum,Z4] at e
 have ne:((uniq [] (bB 0 l.works)).all λt=>!t.isEmpty)=true:=Z9.mpr λt ht=>by
  obtain⟨i,w,b,x,_,_,rfl⟩:=kI (((ow t _ _).mp ht).elim (λz=>by cases z) id);rfl
 have hl18:=hnl l.works.length;rw[Z4] at hl18;rw[<- DK];refine x_call (ds:=[l.toD]) hn rfl (ak (aN (br ai rfl)) (ak e (aE (aH (aa (r_v rfl) ai) (JQ (az _ _) (by omega) (uJ _ _ QM) ne))))) (fT (by simp) ?_ (az _ _) (gu _));rw[Zq,bS]
end
end RL

namespace RL
open PySem EV GO
noncomputable def qE:Fn:=⟨1,1,(.seq (.ite (.not (.call "is_whole" (.cs (.v 0) (.cs (.c (.int 1)) (.cs (.c (.int 200)) .nl)))))
  (.rais "NoGap")
  .skip)
 (.ret (.v 0)))⟩
section
variable{sub:Sub}{P:Prg}{n:Nat}{S:af}
theorem ji{xs:Ya}{k:Nat}{d:D}(h:xs[k]?=some d):atI xs (k:Int)=some d:=by
 unfold atI ixN;have hk:=(Zi.mp h).1;rw[Zf (QH k),Zf (Int.ofNat_lt.mpr hk),Z5];exact h
theorem D5{l:Lp}{i:Nat}(h:i<l.works.length):atI (l.works.map Wk.toD) (i:Int)=some (l.works.getD i ⟨0,0,"",[],[]⟩).toD:=ji (by rw[ZL,ZJ,Ze h]; rfl)
theorem J6{l:Lp}{k:Nat}{c:Nat×Nat}(h:l.crews[k]?=some c):atI (l.crews.map cD) (k:Int)=some (cD c):=ji (by rw[ZL,h]; rfl)
theorem l6{s:Src}{f:D->Sg->M Fl}{d y:D}{ds:Ya}{σ:Sg}{S1:af}(hs:aL s S=.ok () S)(hb:f d σ S=.ok (.rt y) S1):forL s f (d::ds) σ S=.ok (.rt y) S1:=by
 rw[jn,hs,Res.aj,hb]; rfl
theorem tP{s:Src}{f:D->Sg->M Fl}{σ:Sg}(hs:aL s S=.ok () S):forL s f [] σ S=.ok (.nx σ) S:=by
 rw[j6,hs]; rfl
theorem uF{cf:Str->List D->M D}{σ:Sg}{a:E}{x:D}{S1:af}(h:ev sub cf a σ S=.ok x S1):evT sub cf (.notN a) σ S=.ok (!decide (x=.non)) S1:=by
 rw[C7,h]; rfl
theorem J_{l:Lp}(hl:l.WF){i:Nat}{w:Wk}(h:l.works[i]?=some w):l.crews[w.crew]?=some (l.crews.getD w.crew (0,0)):=by
 have:=(hl.works i w h).crew;rw[ZJ,Ze this]; rfl
end
end RL

namespace WK
abbrev Nd:=List Int
abbrev Wlk:=List Nd
noncomputable def nA(t:Nd):Int:=t.getD 0 0
noncomputable def nB(t:Nd):Int:=t.getD 1 0
noncomputable def nC(t:Nd):Int:=t.getD 2 0
noncomputable def fst(w:Wlk):Int:=match w with|t::_=>nA t|[]=>0
noncomputable def lst:Wlk->Int
 | []=>0
 | [t]=>nB t
 | _::r=>lst r
noncomputable def Chn:Wlk->Prop
 | []=>True
 | [_]=>True
 | t::u::r=>nB t=nA u/\Chn (u::r)
noncomputable def ends(w:Wlk):List Int:=[fst w,lst w]
theorem Hg(t u:Nd)(r:Wlk):lst (t::u::r)=lst (u::r):=rfl
theorem iE:∀{p r:Wlk},p≠[]->fst (p++r)=fst p
 | [],_,h=>absurd rfl h
 | _::_,_,_=>rfl
theorem gZ:∀(p:Wlk) {r:Wlk},r≠[]->lst (p++r)=lst r
 | [],_,_=>rfl
 | [t],u::r,_=>rfl
 | [t],[],h=>absurd rfl h
 | t::u::p,r,h=>by
  show lst (t::((u::p)++r))=_;rw[XX,Hg,<- XX];exact gZ (u::p) h
theorem eZ:∀{p r:Wlk},p≠[]->r≠[]->(Chn (p++r) ↔ Chn p/\lst p=fst r/\Chn r)
 | [],_,h,_=>absurd rfl h
 | [t],[],_,h=>absurd rfl h
 | [t],u::r,_,_=>⟨λh=>⟨trivial,h.1,h.2⟩,λh=>⟨h.2.1,h.2.2⟩⟩
 | t::u::p,r,_,h=>by
  have ih:=eZ (p:=u::p) (r:=r) (by simp) h;show(nB t=nA u/\Chn ((u::p)++r)) ↔ (nB t=nA u/\Chn (u::p))/\lst (u::p)=fst r/\Chn r;rw[ih,and_assoc]
theorem twice:∀{w:Wlk},¬(w.map nA).Nodup->∃p t q u r,w=p++(t::q)++(u::r)/\nA t=nA u
 | [],h=>absurd QM h
 | t::r,h=>by
  by_cases hm:nA t∈r.map nA
  ·obtain⟨u,hu,e⟩:=ZA.mp hm;obtain⟨a,b,rfl⟩:=List.append_of_mem hu;exact⟨[],t,a,u,b,rfl,e.symm⟩
  ·have h':¬(r.map nA).Nodup:=λz=>h (by rw[ZI,Xf]; exact⟨hm,z⟩)
   obtain⟨p,a,q,u,b,rfl,e⟩:=twice h';exact⟨t::p,a,q,u,b,rfl,e⟩
section
variable(lg:Int->Int)(g:Int)
noncomputable def fD(w:Wlk):Int:=(w.map λt=>lg (nA t)).sum
noncomputable def fE(w:Wlk):Int:=(w.map nC).sum
noncomputable def wt(w:Wlk):Int:=fD lg w-g*fE w
theorem FJ(a b:Wlk):fD lg (a++b)=fD lg a+fD lg b:=by unfold fD; rw[ZK,Wv]
theorem E_(a b:Wlk):fE (a++b)=fE a+fE b:=by unfold fE; rw[ZK,Wv]
theorem jg(a b:Wlk):wt lg g (a++b)=wt lg g a+wt lg g b:=by
 unfold wt; rw[FJ,E_,Int.mul_add]; omega
structure Walk(st:List Nd)(w:Wlk):Prop where
 ne:w≠[]
 mem:∀t∈w,t∈st
 chn:Chn w
variable{lg g}{st:List Nd}
theorem Walk.one{t:Nd}(h:t∈st):Walk st [t]:=⟨by simp,λu hu=>by rw[ZH.mp hu]; exact h,trivial⟩
theorem Walk.snoc{w:Wlk}{t:Nd}(h:Walk st w)(ht:t∈st)(e:nA t=lst w):Walk st (w++[t]) :=
 ⟨by simp,λu hu=>by
  rcases ZB.mp hu with z|z
  ·exact h.mem u z
  ·rw[ZH.mp z]; exact ht,(eZ h.ne (by simp)).mpr ⟨h.chn,e.symm,trivial⟩⟩
theorem Walk.Hx{w:Wlk}{t:Nd}(hw:w≠[])(h:Walk st (w++[t])):Walk st w/\t∈st/\nA t=lst w:=by
 obtain⟨h1,h2,_⟩:=(eZ hw (by simp)).mp h.chn;exact⟨⟨hw,λu hu=>h.mem u (Xa _ hu),h1⟩,h.mem t (by simp),h2.symm⟩
def bR(w:Wlk):Prop:=fst w=lst w
def gP(lg:Int->Int)(g:Int)(st:List Nd)(m:Nat):Prop:=∀w,Walk st w->w.length=m->bR w->wt lg g w<=0
theorem Df{w:Wlk}(h:Walk st w)(hc:bR w)(hp:0<wt lg g w)(hf:∀m,0<m->m<w.length->gP lg g st m):(w.map nA).Nodup:=by
 refine Classical.byContradiction λhn=>?_
 obtain⟨p,t,q,u,r,rfl,e⟩:=twice hn;have c1:=(eZ (p:=p++(t::q)) (r:=u::r) (by simp) (by simp)).mp h.chn
 have hq:Chn (t::q):=by
  by_cases hp0:p=[]
  ·subst hp0; exact c1.1
  ·exact((eZ hp0 (by simp)).mp c1.1).2.2
 have lq:lst (t::q)=nA u:=by
  have:=c1.2.1;rw[gZ p (by simp)] at this;exact this
 have hmem:∀x,x∈p\/x∈t::q\/x∈u::r->x∈st:=λx hx=>h.mem x (by
  simp only[ZB];rcases hx with z|z|z
  ·exact .inl (.inl z)
  ·exact .inl (.inr z)
  ·exact .inr z)
 have wq:Walk st (t::q):=⟨by simp,λx hx=>hmem x (.inr (.inl hx)),hq⟩
 have wpr:Walk st (p++(u::r)):=⟨by simp,λx hx=>by
  rcases ZB.mp hx with z|z
  ·exact hmem x (.inl z)
  ·exact hmem x (.inr (.inr z)),by
  by_cases hp0:p=[]
  ·subst hp0; exact c1.2.2
  ·have:=(eZ hp0 (by simp)).mp c1.1;exact(eZ hp0 (by simp)).mpr ⟨this.1,by rw[this.2.1]; exact e,c1.2.2⟩⟩
 have cq:bR (t::q):=by show nA t=lst (t::q); rw[lq,e]
 have cpr:bR (p++(u::r)):=by
  have hc:fst (p++(t::q)++(u::r))=lst (p++(t::q)++(u::r)):=hc;rw[gZ _ (by simp)] at hc;show fst (p++(u::r))=lst (p++(u::r));rw[gZ _ (by simp),<- hc]
  by_cases hp0:p=[]
  ·subst hp0; show nA u=nA t; exact e.symm
  ·rw[iE hp0,Zq,iE hp0]
 have f1:=hf (t::q).length (by rw[Zy]; omega) (by simp only[Zn,Zy]; omega) _ wq rfl cq;have f2:=hf (p++(u::r)).length (by simp only[Zn,Zy]; omega) (by simp only[Zn,Zy]; omega) _ wpr rfl cpr;have e1:wt lg g (p++(t::q)++(u::r))=wt lg g p+wt lg g (t::q)+wt lg g (u::r):=by rw[jg,jg]
 have e2:wt lg g (p++(u::r))=wt lg g p+wt lg g (u::r):=by rw[jg]
 omega
end
section
variable{α:Type}
noncomputable def aQ(K:List (List Int×α))(k:WU):Option α:=(K.find? λe=>decide (e.1=k)).map (·.2)
noncomputable def bU(K:List (List Int×α))(k:WU)(d:α):List (List Int×α) :=
 if(K.any λe=>decide (e.1=k))=true then K.map (λe=>if e.1=k then(e.1,d) else e) else K++[(k,d)]
theorem fB:∀{K:List (List Int×α)} {k:WU} {a:α},aQ K k=some a->(k,a)∈K
 | [],_,_,h=>by cases h
 | e::r,k,a,h=>by
  unfold aQ at h;rw[ZU] at h
  by_cases q:e.1=k
  ·rw[Zj q] at h;cases h;subst q;exact Zo
  ·rw[Zt q] at h;exact Zr _ (fB h)
theorem qM{k:WU}{x:α}{Y:List (List Int×α)}:∀{K:List (List Int×α)},aQ K k=some x->aQ (K++Y) k=some x
 | [],h=>by cases h
 | e::r,h=>by
  unfold aQ at h ⊢;rw[XX,ZU];rw[ZU] at h
  by_cases q:e.1=k
  ·rw[Zj q] at h ⊢; exact h
  ·rw[Zt q] at h ⊢; exact qM h
theorem rS{k:WU}:∀{K:List (List Int×α)},aQ K k=none->(K.any λe=>decide (e.1=k))=false
 | [],_=>rfl
 | e::r,h=>by
  unfold aQ at h;rw[ZU] at h;rw[X8]
  by_cases q:e.1=k
  ·rw[Zj q] at h; cases h
  ·rw[Zt q] at h ⊢; exact rS h
theorem rO{k:WU}{a:α}:∀{K:List (List Int×α)},aQ K k=some a->(K.any λe=>decide (e.1=k))=true
 | [],h=>by cases h
 | e::r,h=>by
  unfold aQ at h;rw[ZU] at h;rw[X8]
  by_cases q:e.1=k
  ·rw[Zj q]; rfl
  ·rw[Zt q] at h ⊢; exact rO h
theorem uL{k:WU}{a:α}:∀{K:List (List Int×α)},aQ K k=none->aQ (K++[(k,a)]) k=some a
 | [],_=>by unfold aQ; rw[QE,ZU,Zj rfl]; rfl
 | e::r,h=>by
  unfold aQ at h ⊢;rw[XX,ZU];rw[ZU] at h
  by_cases q:e.1=k
  ·rw[Zj q] at h; cases h
  ·rw[Zt q] at h ⊢; exact uL h
theorem oG{k:WU}{a x:α}{j:WU}:∀{K:List (List Int×α)},aQ K j=some x->aQ (K.map λe=>if e.1=k then(e.1,a) else e) j=some (if j=k then a else x)
 | [],h=>by cases h
 | e::r,h=>by
  unfold aQ at h ⊢;rw[ZI,ZU];rw[ZU] at h;have e1:(if e.1=k then(e.1,a) else e).1=e.1:=by split<;>rfl
  rw[e1]
  by_cases q:e.1=j
  ·rw[Zj q] at h ⊢;cases h
   by_cases z:e.1=k
   ·rw[Zf z,Zf (by rw[<- q]; exact z)]; rfl
   ·rw[Zh z,Zh (by rw[<- q]; exact z)]; rfl
  ·rw[Zt q] at h ⊢;exact oG h
theorem xq{K:List (List Int×α)}{k:WU}{a:α}:aQ (bU K k a) k=some a:=by
 unfold bU
 cases q:aQ K k with
 | none=>rw[rS q,Zh (by decide)]; exact uL q
 | some x=>rw[rO q,Zf rfl,oG q,Zf rfl]
theorem Jw{K:List (List Int×α)}{k j:WU}{a x:α}(h:aQ K j=some x)(hj:j≠k):aQ (bU K k a) j=some x:=by
 unfold bU;split
 ·rw[oG h,Zh hj]
 ·exact qM h
theorem D9{K:List (List Int×α)}{k:WU}{a:α}{e:List Int×α}(h:e∈bU K k a):e∈K\/e=(k,a):=by
 unfold bU at h;split at h
 ·obtain⟨x,hx,rfl⟩:=ZA.mp h
  by_cases q:x.1=k
  ·rw[Zf q,q]; exact .inr rfl
  ·rw[Zh q]; exact .inl hx
 ·rcases ZB.mp h with z|z
  ·exact .inl z
  ·exact .inr (ZH.mp z)
theorem BQ(K:List (List Int×α))(k:WU)(a:α):(bU K k a).length<=K.length+1:=by
 unfold bU;split
 ·rw[Zb]; omega
 ·rw[Zn]; exact Zm _
theorem get_map{β:Type}(f:α->β)(k:WU):∀K:List (List Int×α),aQ (K.map λe=>(e.1,f e.2)) k=(aQ K k).map f
 | []=>rfl
 | e::r=>by
  have ih:=get_map f k r;unfold aQ at ih ⊢;rw[ZI,ZU,ZU]
  cases q:decide (e.1=k) with
  | true=>rfl
  | false=>exact ih
theorem HS{β:Type}(f:α->β)(k:WU)(a:α)(K:List (List Int×α)):bU (K.map λe=>(e.1,f e.2)) k (f a)=(bU K k a).map λe=>(e.1,f e.2):=by
 unfold bU;rw[List.any_map];have e1:((λe:List Int×β=>decide (e.1=k))∘λe:List Int×α=>(e.1,f e.2))=λe=>decide (e.1=k):=rfl
 rw[e1];split
 ·rw[Xr,Xr];refine Wy λe _=>?_
  show(if e.1=k then(e.1,f a) else(e.1,f e.2))=_
  by_cases q:e.1=k
  ·rw[Zf q]; show _=((if e.1=k then(e.1,a) else e).1,f (if e.1=k then(e.1,a) else e).2); rw[Zf q]
  ·rw[Zh q]; show _=((if e.1=k then(e.1,a) else e).1,f (if e.1=k then(e.1,a) else e).2); rw[Zh q]
 ·rw[ZK]; rfl
noncomputable def c6(en:α->List Int)(wf:α->Int)(K:List (List Int×α))(q:α):List (List Int×α):=match aQ K (en q) with
 | none=>bU K (en q) q
 | some x=>if wf x<wf q then bU K (en q) q else K
structure KOk(en:α->List Int)(wf:α->Int)(Q:List α)(K:List (List Int×α)):Prop where
 mem:∀e∈K,e.2∈Q/\e.1=en e.2
 all:∀q∈Q,∃x,aQ K (en q)=some x/\wf q<=wf x
 len:K.length<=Q.length
variable{en:α->List Int}{wf:α->Int}
theorem KOk.nil:KOk en wf [] []:=⟨λ_ h=>(by cases h),λ_ h=>(by cases h),Zm _⟩
theorem KOk.step{Q:List α}{K:List (List Int×α)}(h:KOk en wf Q K)(q:α):KOk en wf (Q++[q]) (c6 en wf K q):=by
 have put:(∀x,aQ K (en q)=some x->wf x<=wf q)->KOk en wf (Q++[q]) (bU K (en q) q):=λhx=>by
  refine⟨λe he=>?_,λp hp=>?_,?_⟩
  ·rcases D9 he with z|z
   ·exact⟨Xa _ (h.mem e z).1,(h.mem e z).2⟩
   ·subst z; exact⟨by simp,rfl⟩
  ·rcases ZB.mp hp with z|z
   ·obtain⟨x,h1,h2⟩:=h.all p z
    by_cases e:en p=en q
    ·rw[e] at h1 ⊢;exact⟨q,xq,Int.le_trans h2 (hx x h1)⟩
    ·exact⟨x,Jw h1 e,h2⟩
   ·rw[ZH.mp z];exact⟨q,xq,Int.le_refl _⟩
  ·have:=BQ K (en q) q;have:=h.len;rw[Zn]; simp; omega
 unfold c6
 cases e:aQ K (en q) with
 | none=>exact put λx hx=>by rw[e] at hx; cases hx
 | some x =>
  simp only;split
  ·rename_i hlt;exact put λy hy=>by rw[e] at hy; cases hy; omega
  ·rename_i hlt;refine⟨λe he=>⟨Xa _ (h.mem e he).1,(h.mem e he).2⟩,λp hp=>?_,?_⟩
   ·rcases ZB.mp hp with z|z
    ·exact h.all p z
    ·rw[ZH.mp z];exact⟨x,e,by omega⟩
   ·have:=h.len;rw[Zn]; omega
theorem KOk.fold:∀(R Q:List α) (K:List (List Int×α)),KOk en wf Q K->KOk en wf (Q++R) (R.foldl (c6 en wf) K)
 | [],Q,K,h=>by rw[XA]; exact h
 | q::R,Q,K,h=>by
  have:=KOk.fold R (Q++[q]) _ (h.step q);rw[Zq] at this;exact this
theorem KOk.of(Q:List α):KOk en wf Q (Q.foldl (c6 en wf) []):=KOk.fold Q [] [] .nil
end
section
variable{lg:Int->Int}{g:Int}{st:List Nd}
structure fQ(lg:Int->Int)(g:Int)(st:List Nd)(m:Nat)(Q:List Wlk):Prop where
 mem:∀w∈Q,Walk st w/\w.length=m
 all:∀w,Walk st w->w.length=m->∃x∈Q,ends x=ends w/\wt lg g w<=wt lg g x
theorem fQ.one:fQ lg g st 1 (st.map λt=>[t]):=⟨λw hw=>by
  obtain⟨t,ht,rfl⟩:=ZA.mp hw;exact⟨.one ht,rfl⟩,λw hw hl=>by
  match w,hl with
  | [t],_=>exact⟨[t],ZA.mpr ⟨t,hw.mem t (by simp),rfl⟩,rfl,Int.le_refl _⟩⟩
theorem wF{w:Wlk}(hw:w≠[])(t:Nd):ends (w++[t])=[fst w,nB t]:=by unfold ends; rw[iE hw,gZ _ (by simp)]; rfl
theorem t_{w x:Wlk}(h:ends w=ends x):fst w=fst x/\lst w=lst x:=by
 unfold ends at h;obtain⟨h1,h2⟩:=Qa h;exact⟨h1,(Qa h2).1⟩
theorem fQ.next{m:Nat}{V:List Wlk}(hm:0<m)(h1:∀w∈V,Walk st w/\w.length=m)(h2:∀w,Walk st w->w.length=m->∃x∈V,ends x=ends w/\wt lg g w<=wt lg g x){Q:List Wlk}
  (hQ:∀w,w∈Q ↔ ∃v∈V,∃t∈st,nA t=lst v/\w=v++[t]):fQ lg g st (m+1) Q:=by
 refine⟨λw hw=>?_,λw hw hl=>?_⟩
 ·obtain⟨v,hv,t,ht,e,rfl⟩:=(hQ w).mp hw;obtain⟨a,b⟩:=h1 v hv;exact⟨a.snoc ht e,by rw[Zn,b]; rfl⟩
 ·obtain⟨v,t,rfl⟩:∃v t,w=v++[t]:=⟨w.dropLast,w.getLast hw.ne,(List.dropLast_concat_getLast hw.ne).symm⟩
  have hl':v.length=m:=by rw[Zn] at hl; simpa using hl
  have hv:v≠[]:=λz=>by subst z; simp at hl'; omega
  obtain⟨a,b,c⟩:=hw.Hx hv;obtain⟨x,hx,e,le⟩:=h2 v a hl';obtain⟨e1,e2⟩:=t_ e;refine⟨x++[t],(hQ _).mpr ⟨x,hx,t,b,by rw[e2]; exact c,rfl⟩,?_,?_⟩
  ·rw[wF hv,wF (h1 x hx).1.ne,e1]
  ·rw[jg,jg]; omega
end
end WK

namespace WK
section
variable{lg:Int->Int}{g:Int}{st:List Nd}
structure Ring(st:List Nd)(w:Wlk):Prop where
 walk:Walk st w
 closed:bR w
 nodup:(w.map nA).Nodup
structure Row(st:List Nd)(w:Wlk):Prop where
 walk:Walk st w
 nodup:(w.map nA).Nodup
 least:∀t∈w,fst w<=nA t
noncomputable def dI(v:Wlk):Bool:=decide (fst v<lst v)&&!decide (lst v∈v.map nA)
theorem Row.one{t:Nd}(h:t∈st):Row st [t]:=⟨.one h,by simp,λu hu=>by rw[ZH.mp hu]; exact Int.le_refl _⟩
theorem Row.next{v:Wlk}{t:Nd}(hv:Row st v)(hg:dI v=true)(ht:t∈st)(e:nA t=lst v):Row st (v++[t]):=by
 obtain⟨g1,g2⟩:=QU.mp hg;have g1:=Zl g1
 have g2:lst v∉v.map nA:=by
  intro z;rw[Zj z] at g2; cases g2
 refine⟨hv.walk.snoc ht e,?_,λu hu=>?_⟩
 ·rw[ZK];refine XQ.mpr ⟨hv.nodup,by simp,λa ha b hb z=>?_⟩;have hb:b=nA t:=by simpa using hb
  rw[z,hb,e] at ha;exact g2 ha
 ·rw[iE hv.walk.ne];rcases ZB.mp hu with hu|hu
  ·exact hv.least u hu
  ·rw[ZH.mp hu,e]; omega
structure eg(st:List Nd)(Q R:List Wlk):Prop where
 rows:∀v∈Q,Row st v
 found:∀w∈R,Ring st w
 all:∀w,Ring st w->(∀t∈w,fst w<=nA t)->w∈R\/∃v∈Q,v<+:w
theorem eg.start:eg st (st.map λt=>[t]) []:=⟨λv hv=>by
  obtain⟨t,ht,rfl⟩:=ZA.mp hv;exact .one ht,λ_ h=>(by cases h),λw hw _=>by
  cases w with
  | nil=>exact absurd rfl hw.walk.ne
  | cons t r=>exact .inr ⟨[t],ZA.mpr ⟨t,hw.walk.mem t Zo,rfl⟩,⟨r,rfl⟩⟩⟩
theorem nS{v w:Wlk}(hv:v≠[])(hw:Ring st w)(hl:∀t∈w,fst w<=nA t)(hp:v<+:w):v=w/\bR v\/∃t,t∈st/\nA t=lst v/\v++[t]<+:w/\dI v=true/\¬bR v:=by
 obtain⟨r,rfl⟩:=hp
 cases r with
 | nil =>
  rw[XA] at hw ⊢;exact .inl ⟨rfl,hw.closed⟩
 | cons t r =>
  have c:=(eZ hv (by simp)).mp hw.walk.chn;have ht:nA t=lst v:=c.2.1.symm;have hn:=hw.nodup;rw[ZK] at hn;obtain⟨_,_,hd⟩:=XQ.mp hn
  have hnot:lst v∉v.map nA:=λz=>by
   rw[<- ht] at z;exact hd (nA t) z (nA t) Zo rfl
  have hf:fst v∈v.map nA:=by
   cases v with
   | nil=>exact absurd rfl hv
   | cons u q=>exact Zo
  have hne:fst v≠lst v:=λz=>hnot (z▸hf)
  have hle:fst v<=lst v:=by
   have:=hl t (ZZ _ Zo);rw[iE hv,ht] at this;exact this
  refine .inr ⟨t,hw.walk.mem t (ZZ _ Zo),ht,⟨r,by rw[Zq]; rfl⟩,?_,hne⟩;unfold dI;rw[Zj (show fst v<lst v by omega),Zt hnot]; rfl
theorem eg.step{Q R:List Wlk}{v:Wlk}(h:eg st (Q++[v]) R) :
  (bR v->eg st Q (R++[v]))/\(¬bR v->dI v=true->∀X:List Wlk,(∀w,w∈X ↔ ∃t∈st,nA t=lst v/\w=v++[t])->eg st (Q++X) R)/\(¬bR v->dI v=false->eg st Q R):=by
 have hv:=h.rows v (by simp)
 have split:∀w,Ring st w->(∀t∈w,fst w<=nA t)->w∈R\/(∃u∈Q,u<+:w)\/v<+:w:=λw hw hl=>by
  rcases h.all w hw hl with z|⟨u,hu,z⟩
  ·exact .inl z
  ·rcases ZB.mp hu with hu|hu
   ·exact .inr (.inl ⟨u,hu,z⟩)
   ·rw[ZH.mp hu] at z; exact .inr (.inr z)
 refine⟨λhc=>⟨λu hu=>h.rows u (Xa _ hu),λw hw=>?_,λw hw hl=>?_⟩,λhc hg X hX=>⟨λu hu=>?_,h.found,λw hw hl=>?_⟩,λhc hg=>⟨λu hu=>h.rows u (Xa _ hu),h.found,λw hw hl=>?_⟩⟩
 ·rcases ZB.mp hw with hw|hw
  ·exact h.found w hw
  ·rw[ZH.mp hw]; exact⟨hv.walk,hc,hv.nodup⟩
 ·rcases split w hw hl with z|z|z
  ·exact .inl (Xa _ z)
  ·exact .inr z
  ·rcases nS hv.walk.ne hw hl z with⟨e,_⟩|⟨_,_,_,_,_,e⟩
   ·rw[<- e]; exact .inl (by simp)
   ·exact absurd hc e
 ·rcases ZB.mp hu with hu|hu
  ·exact h.rows u (Xa _ hu)
  ·obtain⟨t,ht,e,rfl⟩:=(hX u).mp hu;exact hv.next hg ht e
 ·rcases split w hw hl with z|⟨u,hu,z⟩|z
  ·exact .inl z
  ·exact .inr ⟨u,Xa _ hu,z⟩
  ·rcases nS hv.walk.ne hw hl z with⟨_,e⟩|⟨t,ht,e,hp,_,_⟩
   ·exact absurd e hc
   ·exact .inr ⟨v++[t],ZZ _ ((hX _).mpr ⟨t,ht,e,rfl⟩),hp⟩
 ·rcases split w hw hl with z|z|z
  ·exact .inl z
  ·exact .inr z
  ·rcases nS hv.walk.ne hw hl z with⟨_,e⟩|⟨_,_,_,_,e,_⟩
   ·exact absurd e hc
   ·rw[hg] at e; cases e
theorem vS:∀{xs ys:WU},xs.Nodup->(∀x∈xs,x∈ys)->xs.length<=ys.length
 | [],_,_,_=>Xe _
 | x::r,ys,h,hs=>by
  obtain⟨h1,h2⟩:=Xf.mp h;have hx:=hs x Zo;have:=vS (xs:=r) (ys:=ys.erase x) h2 λy hy=>(List.mem_erase_of_ne (λ(e:y=x)=>h1 (by rw[<- e]; exact hy))).mpr (hs y (Zr _ hy))
  rw[List.length_erase_of_mem hx] at this;have:=List.length_pos_of_mem hx;rw[Zy]; omega
theorem short{n:Nat}{xs:WU}(h:xs.Nodup)(hs:∀x∈xs,0<=x/\x.toNat<n):xs.length<=n:=by
 have:=vS (ys:=(List.range n).map λ(i:Nat)=>(i:Int)) h λx hx=>ZA.mpr ⟨x.toNat,Z7.mpr (hs x hx).2,Wz (hs x hx).1⟩
 rw[Zb,ZS] at this;exact this
noncomputable def cost(Q:List Wlk):Nat:=(Q.map λv=>13^(5-v.length)).sum
theorem tO(a b:List Wlk):cost (a++b)=cost a+cost b:=by unfold cost; rw[ZK,Wv]
theorem oW{k c:Nat}:∀{X:List Wlk},X.length<=k->(∀v∈X,13^(5-v.length)<=c)->cost X<=k*c
 | [],_,_=>Xe _
 | v::r,hk,h=>by
  obtain⟨k',rfl⟩:∃k',k=k' + 1:=⟨k-1,by rw[Zy] at hk; omega⟩
  have h1:=h v Zo;have h2:=oW (k:=k') (c:=c) (X:=r) (by rw[Zy] at hk; omega) λu hu=>h u (Zr _ hu)
  show 13^(5-v.length)+cost r<=_;rw[Nat.add_mul,Nat.one_mul]; omega
theorem pZ{v:Wlk}:cost [v]=13^(5-v.length):=by show 13^(5-v.length)+0=_; omega
theorem HM{v:Wlk}{X:List Wlk}(h4:v.length<=4)(hk:X.length<=12)(hX:∀u∈X,u.length=v.length+1):cost X<cost [v]:=by
 have h1:=oW (c:=13^(4-v.length)) hk λu hu=>by rw[hX u hu,show 5-(v.length+1)=4-v.length by omega]; exact Zm _
 rw[pZ,show 5-v.length=(4-v.length)+1 by omega,WP];have:0<13^(4-v.length):=Nat.pow_pos (by decide);omega
end
end WK

namespace RL
open PySem EV GO WK
noncomputable def xD:Fn:=⟨2,2,(.ret (.bi .sum (.cs (.comp 2 (.ix (.ix (.ix (.v 0) (.c (.int 2))) (.ix (.v 3) (.c (.int 0)))) (.c (.int 1))) (.one 3) (.iSeq (.v 1)) .nl) .nl)))⟩
noncomputable def rz:Fn:=⟨1,1,(.ret (.bi .sum (.cs (.comp 2 (.ix (.v 2) (.c (.int 2))) (.one 2) (.iSeq (.v 0)) .nl) .nl)))⟩
noncomputable def qS:Fn:=⟨3,3,(.ret (.bin .sub (.call "longs_of" (.cs (.v 0) (.cs (.v 2) .nl))) (.bin .mul (.v 1) (.call "backs_of" (.cs (.v 2) .nl)))))⟩
noncomputable def qW:Fn:=⟨3,6,(.seq (.set (.one 3) .dnew)
 (.seq (.forS (.one 4) (.iSeq (.v 2))
  (.seq (.set (.one 5) (.tup (.cs (.ix (.ix (.v 4) (.c (.int 0))) (.c (.int 0))) (.cs (.ix (.ix (.v 4) (.neg (.c (.int 1)))) (.c (.int 1))) .nl))))
 (.ite (.or (.cmp .dnin (.v 5) (.v 3)) (.cmp .lt (.call "surplus" (.cs (.v 0) (.cs (.v 1) (.cs (.dgv (.v 3) (.v 5)) .nl)))) (.call "surplus" (.cs (.v 0) (.cs (.v 1) (.cs (.v 4) .nl))))))
  (.dsv (.v 3) (.v 5) (.v 4))
  .skip)))
 (.ret (.v 3))))⟩
noncomputable def jG:Fn:=⟨2,4,(.seq (.set (.one 2) (.lst .nl))
 (.seq (.forS (.one 3) (.iSeq (.v 0))
  (.ex (.me .extend (.v 2) (.cs (.comp 2 (.bin .add (.v 3) (.lst (.cs (.v 5) .nl))) (.one 5) (.iSeq (.v 1)) (.cmp .eq (.ix (.v 5) (.c (.int 0))) (.ix (.ix (.v 3) (.neg (.c (.int 1)))) (.c (.int 1))))) .nl))))
 (.ret (.v 2))))⟩
structure HW(P:Prg):Prop where
 fD:Has P "longs_of" xD
 fE:Has P "backs_of" rz
 surplus:Has P "surplus" qS
 longest:Has P "longest_walks" qW
 lengthened:Has P "lengthened" jG
noncomputable def aY(l:Lp)(x:Int):Int:=((l.works.getD x.toNat ⟨0,0,"",[],[]⟩).long:Int)
def bW(l:Lp)(t:Nd):Prop:=∃x i b:Nat,t=[(x:Int),(i:Int),(b:Int)]/\x<l.works.length/\i<l.works.length/\b<=3/\(b=0->x<i)
theorem EO{l:Lp}(hl:l.WF){t:Nd}(h:t∈bB 0 l.works):bW l t:=by
 obtain⟨i,w,b,x,h1,h2,h3⟩:=kI h;have hi:i<l.works.length:=(Zi.mp h1).1;have hs:=(hl.works i w h1).srcs _ h2;obtain⟨hb,hx⟩:b<=3/\x<(if b=0 then i else l.works.length):=hs;refine⟨x,i,b,by rw[h3,XV],?_,hi,hb,λe=>by rw[Zf e] at hx; exact hx⟩;split at hx<;>omega
def AtW(T:af)(q:Wlk×Nat):Prop:=T[q.2]?=some (.lst (q.1.map tupI))
theorem aG{T T':af}(h:T<+:T'){i:Nat}{c:Cell}(e:T[i]?=some c):T'[i]?=some c:=by
 obtain⟨t,rfl⟩:=h;rw[ZC (Zi.mp e).1]; exact e
theorem AtW.pre{T T':af}{q:Wlk×Nat}(h:AtW T q)(p:T<+:T'):AtW T' q:=aG p h
section
variable{sub:Sub}{P:Prg}{n:Nat}{S T:af}{l:Lp}
theorem j7{c:Nat}{is:WU}(h:S[c]?=some (.lst (is.map .int))):biD sub .sum [.loc c] S=.ok (.int is.sum) S:=by
 rw[E6,bT h,Res.aj,allI,cO,Res.aj]
theorem lY{t:Nd}(h:bW l t):(∃r,t.map D.int=.int (nA t)::.int (nB t)::.int (nC t)::r)/\0<=nA t/\(nA t).toNat<l.works.length/\0<=nB t/\(nB t).toNat<l.works.length/\0<=nC t/\nC t<=3/\(nC t=0->nA t<nB t):=by
 obtain⟨x,i,b,rfl,h1,h2,h3,h4⟩:=h;refine⟨⟨[],rfl⟩,?_⟩;show 0<=(x:Int)/\(x:Int).toNat<_/\0<=(i:Int)/\(i:Int).toNat<_/\0<=(b:Int)/\(b:Int)<=3/\((b:Int)=0->(x:Int)<(i:Int))
 omega
theorem fq{t:Nd}(h:bW l t):ixD (tupI t) (.int 0) T=.ok (.int (nA t)) T:=by
 obtain⟨x,i,b,rfl,_⟩:=h; exact aI rfl
theorem gJ{t:Nd}(h:bW l t):ixD (tupI t) (.int 1) T=.ok (.int (nB t)) T:=by
 obtain⟨x,i,b,rfl,_⟩:=h; exact aI rfl
theorem qz{t:Nd}(h:bW l t):ixD (tupI t) (.int 2) T=.ok (.int (nC t)) T:=by
 obtain⟨x,i,b,rfl,_⟩:=h; exact aI rfl
theorem EF{x:Int}(h0:0<=x)(h:x.toNat<l.works.length):atI (l.works.map Wk.toD) x=some (l.works.getD x.toNat ⟨0,0,"",[],[]⟩).toD:=by
 have:=D5 h;rw[Wz h0] at this;exact this
theorem ee{cf:Str->List D->M D}{σ:Sg}{c i m:Nat}{el:E}{w:Wlk}{f:Nd->Int}(hm:T[m]?=some (.lst (w.map tupI)))(hv:bu σ c T=.ok (.loc m) T)(hz:w.length<=1000)(he:∀t∈w,ev sub cf el ((σ++List.replicate 2 none).set i (some (tupI t))) T=.ok (.int (f t)) T) :
  ev sub cf (.comp 2 el (.one i) (.iSeq (.v c)) .nl) σ T=.ok (.loc T.length) (T++[.lst ((w.map f).map .int)]):=by
 rw[Xr];exact fS (ks:=w) (f:=tupI) (g:=λt=>.int (f t)) (o:=some m) (raw:=w.map tupI) (bw (r_v hv) (bZ hm)) (cL (.inr ⟨m,rfl,hm⟩)) he (by unfold aP; omega)
theorem pJ{cf:Str->List D->M D}{σ:Sg}{i:Nat}{t:Nd}(h0:bu σ 0 T=.ok l.toD T)(hi:bu σ i T=.ok (tupI t) T)(hn:bW l t):ev sub cf (.ix (.ix (.ix (.v 0) (.c (.int 2))) (.ix (.v i) (.c (.int 0)))) (.c (.int 1))) σ T=.ok (.int (aY l (nA t))) T:=by
 obtain⟨_,h1,h2,_⟩:=lY hn;exact aC (aC (aC (r_v h0) r_c (aI rfl)) (aC (r_v hi) r_c (fq hn)) (aI (EF h1 h2))) r_c (aI rfl)
theorem BG(hw:HW P){w:Wlk}{k:Nat}(h:AtW S (w,k))(hn:∀t∈w,bW l t)(hz:w.length<=1000):ah sub P (n+1) "longs_of" [l.toD,.loc k] S=.ok (.int (fD (aY l) w)) S :=
 x_call (ds:=[l.toD,.loc k]) hw.fD rfl (aE (aH (aa (ee h rfl hz λt ht=>pJ rfl rfl (hn t ht)) ai) (j7 (az _ _)))) (kU _ _ _)
theorem Fp(hw:HW P){w:Wlk}{k:Nat}(h:AtW S (w,k))(hn:∀t∈w,bW l t)(hz:w.length<=1000):ah sub P (n+1) "backs_of" [.loc k] S=.ok (.int (fE w)) S :=
 x_call (ds:=[.loc k]) hw.fE rfl (aE (aH (aa (ee h rfl hz λt ht=>aC (r_v rfl) r_c (qz (hn t ht))) ai) (j7 (az _ _)))) (kU _ _ _)
theorem kN(hw:HW P){w:Wlk}{k:Nat}{g:Int}(hg:0<=g/\g<=1000)(h:AtW S (w,k))(hn:∀t∈w,bW l t)(hz:w.length<=1000):ah sub P (n+2) "surplus" [l.toD,.int g,.loc k] S=.ok (.int (wt (aY l) g w)) S :=
 x_call (ds:=[l.toD,.int g,.loc k]) hw.surplus rfl (aE (bz (aB (aa (r_v rfl) (aa (r_v rfl) ai)) (BG hw h hn hz)) (bz (r_v rfl) (aB (aa (r_v rfl) ai) (Fp hw h hn hz)) (nZ (by omega))) (f6 _ _ _))) (nP _ _)
def TabAt(T:af)(l:Nat)(kvs:Yb):Prop:=T[l]?=some (.dct kvs)\/T[l]?=some (.fdc kvs)
theorem oH{T:af}{l:Nat}{kvs:Yb}(h:TabAt T l kvs)(f:List (List Int×D)->M D):b6 l f T=f kvs T:=by
 unfold b6;rcases h with h|h<;>rw[h]
theorem vW{l:Nat}{kvs:Yb}{k:WU}{d:D}(h:TabAt T l kvs)(e:aQ kvs k=some d):jl (.loc l) (tupI k) T=.ok d T:=by
 show(opt (allInts (k.map .int))>>=λk=>b6 l λkvs=>opt (cj kvs k)) T=_;rw[aq,allI,cO,Res.aj,oH h,show cj kvs k=some d from e,cO]
theorem F0{l:Nat}{kvs:Yb}{k:WU}(h:TabAt T l kvs):cmD .dnin (tupI k) (.loc l) T=.ok (.bl (!(aQ kvs k).isSome)) T:=by
 show(opt (allInts (k.map .int))>>=λk=>b6 l λkvs=>pure (.bl ((cj kvs k).isSome != true))) T=_;rw[aq,allI,cO,Res.aj,oH h];show Res.ok (D.bl ((cj kvs k).isSome != true)) T=_;rw[show cj kvs k=aQ kvs k from rfl];cases(aQ kvs k).isSome<;>rfl
theorem Ig{l:Nat}{kvs:Yb}{k:WU}{d:D}(h:T[l]?=some (.dct kvs))(hz:kvs.length<=1000000):i_ (.loc l) (tupI k) d T=.ok .non (T.set l (.dct (bU kvs k d))):=by
 show(opt (allInts (k.map .int))>>=λk=>e_ l λkvs=>guard (fC kvs.length) (put l (.dct (iW kvs k d)))) T=_;rw[aq,allI,cO,Res.aj];unfold e_;rw[h];show guard (fC kvs.length) (put l (.dct (iW kvs k d))) T=_;rw[show fC kvs.length=true from Zj (by unfold aP; omega)];rfl
theorem nR{cf:Str->List D->M D}{σ:Sg}{a b:E}{x y:D}{S1 S2:af}{R:Res D}(ha:ev sub cf a σ S=.ok x S1)(hb:ev sub cf b σ S1=.ok y S2)(h:jl x y S2=R):ev sub cf (.dgv a b) σ S=R:=by
 show(ev sub cf a σ>>=λx=>ev sub cf b σ>>=λy=>jl x y) S=R;rw[aq,ha,Res.aj,aq,hb,Res.aj,h]
theorem B8{cf:Str->List D->M D}{σ:Sg}{a b e:E}{x y d r:D}{S1 S2 S3 S4:af}(he:ev sub cf e σ S=.ok d S1)(ha:ev sub cf a σ S1=.ok x S2)(hb:ev sub cf b σ S2=.ok y S3)(h:i_ x y d S3=.ok r S4):exec sub cf (.dsv a b e) σ S=.ok (.nx σ) S4:=by
 show(ev sub cf e σ>>=λd=>ev sub cf a σ>>=λx=>ev sub cf b σ>>=λy=>i_ x y d>>=λ_=>pure (Fl.nx σ)) S=_;rw[aq,he,Res.aj,aq,ha,Res.aj,aq,hb,Res.aj,aq,h,Res.aj]; rfl
theorem Gy{cf:Str->List D->M D}{σ:Sg}:ev sub cf .dnew σ S=.ok (.loc S.length) (S++[.dct []]):=id rfl
noncomputable def kv(e:List Int×(Wlk×Nat)):List Int×D:=(e.1,.loc e.2.2)
noncomputable def wfQ(l:Lp)(g:Int)(q:Wlk×Nat):Int:=wt (aY l) g q.1
noncomputable def enQ(q:Wlk×Nat):List Int:=ends q.1
theorem l7{w:Wlk}(h:w≠[]):∃t,w.getLast?=some t/\t∈w/\lst w=nB t/\atI (w.map tupI) (-1)=some (tupI t):=by
 obtain⟨v,t,rfl⟩:∃v t,w=v++[t]:=⟨w.dropLast,w.getLast h,(List.dropLast_concat_getLast h).symm⟩
 refine⟨t,by simp,by simp,by rw[gZ _ (by simp)]; rfl,?_⟩;unfold atI ixN;rw[Zh (by decide),Zf (by rw[Zb,Zn]; simp; omega)];have e:(-1+((List.map tupI (v++[t])).length:Int)).toNat=v.length:=by rw[Zb,Zn]; simp; omega
 rw[e];show(List.map tupI (v++[t]))[v.length]?=_;simp
theorem rV{w:Wlk}(h:w≠[]):∃t,t∈w/\fst w=nA t/\atI (w.map tupI) 0=some (tupI t):=by
 cases w with
 | nil=>exact absurd rfl h
 | cons t r=>exact⟨t,by simp,rfl,by rw[oZ]; rfl⟩
theorem qZ{T:af}{a b:Cell}:(T++[a]).set T.length b=T++[b]:=by rw[List.set_append_right _ _ (Zm _),Wr]; rfl
noncomputable def oN:EV.S:=.seq (.set (.one 5) (.tup (.cs (.ix (.ix (.v 4) (.c (.int 0))) (.c (.int 0))) (.cs (.ix (.ix (.v 4) (.neg (.c (.int 1)))) (.c (.int 1))) .nl))))
 (.ite (.or (.cmp .dnin (.v 5) (.v 3)) (.cmp .lt (.call "surplus" (.cs (.v 0) (.cs (.v 1) (.cs (.dgv (.v 3) (.v 5)) .nl)))) (.call "surplus" (.cs (.v 0) (.cs (.v 1) (.cs (.v 4) .nl))))))
  (.dsv (.v 3) (.v 5) (.v 4))
  .skip)
structure cQ(l:Lp)(T:af)(q:Wlk×Nat):Prop where
 at':AtW T q
 ne:q.1≠[]
 nd:∀t∈q.1,bW l t
 len:q.1.length<=1000
theorem cQ.pre{q:Wlk×Nat}{T':af}(h:cQ l T q)(p:T<+:T'):cQ l T' q:=⟨h.at'.pre p,h.ne,h.nd,h.len⟩
theorem IV(hw:HW P){g:Int}(hg:0<=g/\g<=1000){K:List (List Int×(Wlk×Nat))}{q:Wlk×Nat}{x2 x5:Option D}(hq:cQ l S q)(hK:∀e∈K,cQ l S e.2)(hz:K.length<=1000000) :
  exec sub (ah sub P (n+2)) oN [some l.toD,some (.int g),x2,some (.loc S.length),some (.loc q.2),x5] (S++[.dct (K.map kv)]) =
   .ok (.nx [some l.toD,some (.int g),x2,some (.loc S.length),some (.loc q.2),some (tupI (enQ q))]) (S++[.dct ((c6 enQ (wfQ l g) K q).map kv)]):=by
 have pre:S<+:S++[.dct (K.map kv)]:=Zd _ _;have hq':=hq.pre pre;obtain⟨t,ht,e1,a1⟩:=rV hq.ne;obtain⟨u,_,hu,e2,a2⟩:=l7 hq.ne;have hL:(S++[Cell.dct (K.map kv)])[q.2]?=some (.lst (q.1.map tupI)):=hq'.at'
 have s1:exec sub (ah sub P (n+2)) (.set (.one 5) (.tup (.cs (.ix (.ix (.v 4) (.c (.int 0))) (.c (.int 0))) (.cs (.ix (.ix (.v 4) (.neg (.c (.int 1)))) (.c (.int 1))) .nl))))
   [some l.toD,some (.int g),x2,some (.loc S.length),some (.loc q.2),x5] (S++[.dct (K.map kv)])=.ok (.nx [some l.toD,some (.int g),x2,some (.loc S.length),some (.loc q.2),some (tupI (enQ q))]) (S++[.dct (K.map kv)]):=by
  have:=aN (sub:=sub) (cf:=ah sub P (n+2)) (σ:=[some l.toD,some (.int g),x2,some (.loc S.length),some (.loc q.2),x5]) (S:=S++[.dct (K.map kv)]) (i:=5) (dQ (aa (aC (aC (r_v (i:=4) rfl) r_c (ez hL a1)) r_c (fq (hq.nd t ht))) (aa (aC (aC (r_v (i:=4) rfl) (iT r_c) (ez hL a2)) r_c (gJ (hq.nd u hu))) ai)) rfl);rw[<- e1,<- e2] at this;exact this
 have hT:TabAt (S++[.dct (K.map kv)]) S.length (K.map kv):=.inl (az _ _);have hg2:aQ (K.map kv) (enQ q)=(aQ K (enQ q)).map λq=>D.loc q.2:=get_map (λq:Wlk×Nat=>D.loc q.2) (enQ q) K
 have s2:=kN (sub:=sub) (n:=n) hw hg hq'.at' hq.nd hq.len;have hin:=F0 (k:=enQ q) hT;rw[hg2,Wc] at hin
 have put:exec sub (ah sub P (n+2)) (.dsv (.v 3) (.v 5) (.v 4)) [some l.toD,some (.int g),x2,some (.loc S.length),some (.loc q.2),some (tupI (enQ q))] (S++[.dct (K.map kv)]) =
   .ok (.nx [some l.toD,some (.int g),x2,some (.loc S.length),some (.loc q.2),some (tupI (enQ q))]) (S++[.dct ((bU K (enQ q) q).map kv)]):=by
  have:=B8 (sub:=sub) (cf:=ah sub P (n+2)) (σ:=[some l.toD,some (.int g),x2,some (.loc S.length),some (.loc q.2),some (tupI (enQ q))]) (r_v (i:=4) rfl) (r_v (i:=3) rfl) (r_v (i:=5) rfl) (Ig (k:=enQ q) (d:=.loc q.2) (az S (.dct (K.map kv))) (by rw[Zb]; exact hz));rw[qZ,show bU (K.map kv) (enQ q) (.loc q.2)=(bU K (enQ q) q).map kv from HS (λq:Wlk×Nat=>D.loc q.2) (enQ q) q K] at this;exact this
 refine ak s1 ?_;unfold c6
 cases e:aQ K (enQ q) with
 | none =>
  rw[e] at hin;exact bA (iN (aR (aO (r_v rfl) (r_v rfl) hin))) put
 | some y =>
  rw[e] at hin hg2;have hy:=(hK _ (fB e)).pre pre;have s3:=kN (sub:=sub) (n:=n) hw hg hy.at' hy.nd hy.len
  have ht:evT sub (ah sub P (n+2)) (.or (.cmp .dnin (.v 5) (.v 3)) (.cmp .lt (.call "surplus" (.cs (.v 0) (.cs (.v 1) (.cs (.dgv (.v 3) (.v 5)) .nl)))) (.call "surplus" (.cs (.v 0) (.cs (.v 1) (.cs (.v 4) .nl))))))
    [some l.toD,some (.int g),x2,some (.loc S.length),some (.loc q.2),some (tupI (enQ q))] (S++[.dct (K.map kv)])=.ok (decide (wfQ l g y<wfQ l g q)) (S++[.dct (K.map kv)]) :=
   b_ (aR (aO (r_v rfl) (r_v rfl) hin)) (aR (aO (aB (aa (r_v rfl) (aa (r_v rfl) (aa (nR (r_v rfl) (r_v rfl) (vW hT hg2)) ai))) s3) (aB (aa (r_v rfl) (aa (r_v rfl) (aa (r_v rfl) ai))) s2) (lT _ _ _)))
  simp only
  by_cases hlt:wfQ l g y<wfQ l g q
  ·rw[Zf hlt];rw[Zj hlt] at ht;exact bA ht put
  ·rw[Zh hlt];rw[Zt hlt] at ht;exact aK ht aM
theorem C1{α:Type}{en:α->List Int}{wf:α->Int}{Q:List α}{e:List Int×α}(h:e∈Q.foldl (c6 en wf) []):e.2∈Q:=((KOk.of (en:=en) (wf:=wf) Q).mem e h).1
theorem JL(hw:HW P){g:Int}(hg:0<=g/\g<=1000){Q:List (Wlk×Nat)}{k:Nat}(hk:S[k]?=some (.lst (Q.map λq=>.loc q.2)))(hQ:∀q∈Q,cQ l S q)(hz:Q.length<=1000000) :
  ah sub P (n+3) "longest_walks" [l.toD,.int g,.loc k] S=.ok (.loc S.length) (S++[.dct ((Q.foldl (c6 enQ (wfQ l g)) []).map kv)]):=by
 have hkl:k<S.length:=(Zi.mp hk).1
 obtain⟨σ',T',e,x4,x5,rfl,rfl⟩:=g9 (sub:=sub) (cf:=ah sub P (n+2)) (t:=.one 4) (it:=.iSeq (.v 2)) (b:=oN) (σ:=[some l.toD,some (.int g),some (.loc k),some (.loc S.length),none,none]) (S:=S++[.dct []]) (S1:=S++[.dct []]) (s:=⟨Q.map λq=>.loc q.2,some k,Q.map λq=>.loc q.2⟩)
  (λi σ T=>∃x4 x5,σ=[some l.toD,some (.int g),some (.loc k),some (.loc S.length),x4,x5]/\T=S++[.dct (((Q.take i).foldl (c6 enQ (wfQ l g)) []).map kv)])
  (bw (r_v rfl) (bZ (by rw[ZC hkl]; exact hk))) ⟨none,none,rfl,rfl⟩
  (λi σ T ⟨_,_,_,hT⟩=>by subst hT; exact cL (.inr ⟨k,rfl,by rw[ZC hkl]; exact hk⟩))
  (λi hi σ T ⟨x4,x5,hσ,hT⟩=>by
   subst hσ; subst hT;have hi':i<Q.length:=by simpa using hi
   have hit:(Q.map λq=>D.loc q.2)[i]'hi=.loc (Q[i]).2:=Qe _;show ∃σ' T',bH sub (ah sub P (n+2)) (.one 4) oN ((Q.map λq=>D.loc q.2)[i]'hi) _ _=_/\_;rw[hit];have hl:=(KOk.of (en:=enQ) (wf:=wfQ l g) (Q.take i)).len;rw[Z3] at hl;refine⟨_,_,dw (IV hw hg (x2:=some (.loc k)) (hQ _ (Xj hi')) (λe he=>hQ _ (X6 (C1 he))) (by omega)),some (.loc (Q[i]).2),some (tupI (enQ Q[i])),rfl,?_⟩;rw[Qy hi',WM]; rfl)
 rw[Zb,Z4] at e;refine x_call (ds:=[l.toD,.int g,.loc k]) hw.longest rfl (ak (aN Gy) (ak e (aE (r_v rfl)))) ?_;unfold leave;rw[Zf (bS _ _),Zh (by show ¬decide (S.length<S.length)=true; simp)];simp only[az];rw[Zh (by show ¬Cell.low S.length (.dct _)=true; exact Zz)]
end
end RL

namespace RL
open PySem EV GO WK
section
variable{sub:Sub}{P:Prg}{n:Nat}{S T:af}{l:Lp}
theorem mj{α:Type}{s:Src}{fn:D->M (Option D)}{f:α->D}{p:α->Bool}{h:α->Wlk}{S0:af}(hs:∀T,S0<+:T->aL s T=.ok () T):∀(ks:List α) (T:af),S0<+:T ->
  (∀a∈ks,∀T,S0<+:T->(p a=false->fn (f a) T=.ok none T)/\(p a=true->∃T' l,fn (f a) T=.ok (some (.loc l)) T'/\T<+:T'/\S0.length<=l/\AtW T' (h a,l))) ->
  ∃(T':af) (Q:List (Wlk×Nat)),bE s fn (ks.map f) T=.ok (Q.map λq=>.loc q.2) T'/\T<+:T'/\Q.map (·.1)=(ks.filter p).map h/\∀q∈Q,AtW T' q/\S0.length<=q.2
 | [],T,hT,_=>⟨T,[],by rw[Qw,mV,hs T hT]; rfl,ZQ _,rfl,λ_ h=>by cases h⟩
 | a::r,T,hT,H=>by
  obtain⟨h1,h2⟩:=H a Zo T hT
  cases q:p a with
  | false =>
   obtain⟨T',Q,e,t1,t2,t3⟩:=mj hs r T hT λb hb=>H b (Zr _ hb)
   refine⟨T',Q,?_,t1,by rw[List.filter_cons_of_neg (by rw[q]; decide)]; exact t2,t3⟩;rw[ZI,kP,hs T hT,Res.aj,h1 q,Res.aj,e]; rfl
  | true =>
   obtain⟨T1,m,e1,p1,lm,a1⟩:=h2 q;obtain⟨T',Q,e,t1,t2,t3⟩:=mj hs r T1 (hT.trans p1) λb hb=>H b (Zr _ hb)
   refine⟨T',(h a,m)::Q,?_,p1.trans t1,?_,λx hx=>?_⟩
   ·rw[ZI,kP,hs T hT,Res.aj,e1,Res.aj,e]; rfl
   ·rw[List.filter_cons_of_pos q,ZI,ZI,t2]
   ·rcases Zx.mp hx with rfl|hx
    ·exact⟨a1.pre t1,lm⟩
    ·exact t3 x hx
theorem kY{cf:Str->List D->M D}{σ:Sg}{k i:Nat}{el it tt:E}{α:Type}{ks:List α}{f:α->D}{p:α->Bool}{h:α->Wlk}{o:Option Nat}{raw:Ya}(hi:evI sub cf it σ S=.ok ⟨ks.map f,o,raw⟩ S)(hs:∀T,S<+:T->aL ⟨ks.map f,o,raw⟩ T=.ok () T)
  (hp:∀a∈ks,∀T,S<+:T->(if tt.bq=true then(pure true:M Bool) else evT sub cf tt ((σ++List.replicate k none).set i (some (f a)))) T=.ok (p a) T)
  (hg:∀a∈ks,p a=true->∀T,S<+:T->∃T' l,ev sub cf el ((σ++List.replicate k none).set i (some (f a))) T=.ok (.loc l) T'/\T<+:T'/\S.length<=l/\AtW T' (h a,l)) (hz:ks.length<=aP) :
  ∃(T':af) (Q:List (Wlk×Nat)),ev sub cf (.comp k el (.one i) it tt) σ S=.ok (.loc T'.length) (T'++[.lst (Q.map λq=>.loc q.2)])/\S<+:T'/\Q.map (·.1)=(ks.filter p).map h/\∀q∈Q,AtW T' q/\S.length<=q.2:=by
 obtain⟨T',Q,e,t1,t2,t3⟩:=mj (s:=⟨ks.map f,o,raw⟩) (fn:=λd=>aT (.one i) d (σ++List.replicate k none)>>=λσ'=>(if tt.bq=true then pure true else evT sub cf tt σ')>>=λb=>if b=true then ev sub cf el σ'>>=λy=>pure (some y) else pure none) (f:=f) (p:=p) (h:=h) (S0:=S) hs ks S (ZQ _) (λa ha T hT=>by
  have e0:=hp a ha T hT
  have key:∀b,p a=b->(aT (.one i) (f a) (σ++List.replicate k none)>>=λσ'=>(if tt.bq=true then pure true else evT sub cf tt σ')>>=λb=>if b=true then ev sub cf el σ'>>=λy=>pure (some y) else pure none) T=(if b=true then ev sub cf el ((σ++List.replicate k none).set i (some (f a)))>>=λy=>pure (some y) else(pure none:M (Option D))) T:=λb hb=>by
   rw[aq,iP,Res.aj,aq,e0,Res.aj,hb]
  refine⟨λq=>?_,λq=>?_⟩
  ·rw[key false q]; rfl
  ·obtain⟨T',l,e1,p1,lm,a1⟩:=hg a ha q T hT;refine⟨T',l,?_,p1,lm,a1⟩;rw[key true q,Zf rfl,aq,e1,Res.aj]; rfl)
 have hl:Q.length<=aP:=by
  have:=Xs List.length t2;rw[Zb,Zb] at this;rw[this];exact Z2 (Qp _ _) hz
 refine⟨T',Q,?_,t1,t2,t3⟩;rw[d_,hi];simp only[Res.aj];rw[fW e];simp only[Res.aj];rw[Zf (show fits _=true from Zj (by rw[Zb]; exact hl))]
noncomputable def dh(v:Wlk)(t:Nd):Bool:=nA t==lst v
noncomputable def longer(st:List Nd)(V:List Wlk):List Wlk:=V.flatMap λv=>(st.filter (dh v)).map λt=>v++[t]
theorem AH{st:List Nd}{V:List Wlk}(w:Wlk):w∈longer st V ↔ ∃v∈V,∃t∈st,nA t=lst v/\w=v++[t]:=by
 unfold longer dh;rw[List.mem_flatMap];constructor
 ·rintro⟨v,hv,h⟩;obtain⟨t,ht,rfl⟩:=ZA.mp h;obtain⟨h1,h2⟩:=Qm.mp ht;exact⟨v,hv,t,h1,eq_of_beq h2,rfl⟩
 ·rintro⟨v,hv,t,ht,e,rfl⟩;exact⟨v,hv,ZA.mpr ⟨t,Qm.mpr ⟨ht,Q9.mpr e⟩,rfl⟩⟩
theorem nu(st:List Nd):∀V:List Wlk,(longer st V).length<=V.length*st.length
 | []=>by unfold longer; simp
 | v::r=>by
  have ih:=nu st r;unfold longer at ih ⊢;rw[List.flatMap_cons,Zn,Zb,Zy,Nat.add_mul,Nat.one_mul];have:=Qp (dh v) st;omega
noncomputable def qC:E:=.comp 2 (.bin .add (.v 3) (.lst (.cs (.v 5) .nl))) (.one 5) (.iSeq (.v 1)) (.cmp .eq (.ix (.v 5) (.c (.int 0))) (.ix (.ix (.v 3) (.neg (.c (.int 1)))) (.c (.int 1))))
theorem jz{a b:Nat}{xs ys:Ya}(ha:T[a]?=some (.lst xs))(hb:T[b]?=some (.lst ys))(hz:xs.length+ys.length<=1000000):opD .add (.loc a) (.loc b) T=.ok (.loc T.length) (T++[.lst (xs++ys)]):=by
 show bg a (λxs=>bg b λys=>guard (fits (xs.length+ys.length)) (alloc (.lst (xs++ys)))) T=_;unfold bg;rw[ha];show(match T[b]? with|some (.lst ds)=>_|_=>Res.bad)=_;rw[hb];show guard (fits (xs.length+ys.length)) (alloc (.lst (xs++ys))) T=_;rw[show fits (xs.length+ys.length)=true from Zj (by unfold aP; omega)]; rfl
theorem DT{cf:Str->List D->M D}{st:List Nd}{k:Nat}(hk:T[k]?=some (.lst (st.map tupI)))(hst:∀t∈st,bW l t)(hz:st.length<=1000){v:Wlk×Nat}(hv:cQ l T v){x0 x2:Option D} :
  ∃(T':af) (Q:List (Wlk×Nat)),ev sub cf qC [x0,some (.loc k),x2,some (.loc v.2)] T=.ok (.loc T'.length) (T'++[.lst (Q.map λq=>.loc q.2)])/\T<+:T'/\Q.map (·.1)=(st.filter (dh v.1)).map (λt=>v.1++[t])/\∀q∈Q,AtW T' q/\T.length<=q.2:=by
 obtain⟨u,_,hu,e2,a2⟩:=l7 hv.ne;refine kY (ks:=st) (f:=tupI) (p:=dh v.1) (h:=λt=>v.1++[t]) (o:=some k) (raw:=st.map tupI) (bw (r_v rfl) (bZ hk)) (λT' hT=>cL (.inr ⟨k,rfl,aG hT hk⟩)) (λt ht T' hT=>?_) (λt ht _ T' hT=>?_) (by unfold aP; omega)
 ·have hv':T'[v.2]?=some (.lst (v.1.map tupI)):=hv.at'.pre hT;show evT sub cf _ _ T'=_;have:=aR (sub:=sub) (cf:=cf) (aO (o:=.eq) (σ:=[x0,some (.loc k),x2,some (.loc v.2),none,some (tupI t)]) (S:=T') (aC (r_v (i:=5) rfl) r_c (fq (hst t ht))) (aC (aC (r_v (i:=3) rfl) (iT (r_c (d:=.int 1))) (ez hv' a2)) (r_c (d:=.int 1)) (gJ (hv.nd u hu))) (eO _ _ _));unfold dh;rw[e2];exact this
 ·have hv':T'[v.2]?=some (.lst (v.1.map tupI)):=hv.at'.pre hT;have hv2:(T'++[Cell.lst [tupI t]])[v.2]?=some (.lst (v.1.map tupI)):=aG (Zd _ _) hv';have hlen:=hv.len;have:=bz (sub:=sub) (cf:=cf) (o:=.add) (σ:=[x0,some (.loc k),x2,some (.loc v.2),none,some (tupI t)]) (S:=T') (r_v (i:=3) rfl) (br (aa (r_v (i:=5) rfl) ai) rfl) (jz hv2 (az _ _) (by rw[Zb]; simp; omega));refine⟨_,_,this,(Zd _ _).trans (Zd _ _),?_,?_⟩
  ·rw[Zn];have:=hT.length_le;omega
  ·show _[_]?=some (Cell.lst ((v.1++[t]).map tupI));rw[az,ZK]; rfl
theorem ia{T:af}{k:Nat}{q:Wlk×Nat}{c:Cell}(h:AtW T q)(hk:k≠q.2):AtW (T.set k c) q:=by
 show(T.set k c)[q.2]?=_;rw[ZX hk]; exact h
theorem A3(hw:HW P){st:List Nd}{k m:Nat}{V:List (Wlk×Nat)}(hk:S[k]?=some (.lst (st.map tupI)))(hst:∀t∈st,bW l t)(hm:S[m]?=some (.lst (V.map λq=>.loc q.2)))(hV:∀q∈V,cQ l S q)(hz:st.length<=1000)(hz2:V.length*st.length<=1000000) :
  ∃(T:af) (Q:List (Wlk×Nat)),ah sub P (n+1) "lengthened" [.loc m,.loc k] S=.ok (.loc S.length) T/\S<+:T/\T[S.length]?=some (.lst (Q.map λq=>.loc q.2))/\Q.map (·.1)=longer st (V.map (·.1))/\∀q∈Q,AtW T q/\S.length<q.2:=by
 have hml:m<S.length:=(Zi.mp hm).1
 obtain⟨σ',T',e,x3,Q,G,rfl,rfl,hQ,hA⟩:=g9 (sub:=sub) (cf:=ah sub P n) (t:=.one 3) (it:=.iSeq (.v 0)) (b:=.ex (.me .extend (.v 2) (.cs qC .nl))) (σ:=[some (.loc m),some (.loc k),some (.loc S.length),none]) (S:=S++[.lst []]) (S1:=S++[.lst []]) (s:=⟨V.map λq=>.loc q.2,some m,V.map λq=>.loc q.2⟩)
  (λi σ T=>∃(x3:Option D) (Q:List (Wlk×Nat)) (G:af),σ=[some (.loc m),some (.loc k),some (.loc S.length),x3]/\T=S++.lst (Q.map λq=>.loc q.2)::G/\Q.map (·.1)=longer st ((V.take i).map (·.1))/\∀q∈Q,AtW T q/\S.length<q.2)
  (bw (r_v rfl) (bZ (aG (Zd _ _) hm))) ⟨none,[],[],rfl,rfl,rfl,λ_ h=>by cases h⟩
  (λi σ T ⟨_,_,_,_,hT,_⟩=>by subst hT; exact cL (.inr ⟨m,rfl,aG (Zd _ _) hm⟩))
  (λi hi σ T ⟨x3,Q,G,hσ,hT,hQ,hA⟩=>by
   subst hσ;have hi':i<V.length:=by simpa using hi
   have hit:(V.map λq=>D.loc q.2)[i]'hi=.loc (V[i]).2:=Qe _;show ∃σ' T',bH sub (ah sub P n) (.one 3) _ ((V.map λq=>D.loc q.2)[i]'hi) _ _=_/\_;rw[hit];have hpre:S<+:T:=by subst hT; exact Zd _ _
   obtain⟨T1,Q1,e1,p1,q1,a1⟩:=DT (sub:=sub) (cf:=ah sub P n) (l:=l) (x0:=some (.loc m)) (x2:=some (.loc S.length)) (aG hpre hk) hst hz ((hV _ (Xj hi')).pre hpre);obtain⟨G1,rfl⟩:=p1;have hTl:S.length<T.length:=by subst hT; rw[Zn,Zy]; omega
   have hlst:T[S.length]?=some (.lst (Q.map λq=>.loc q.2)):=by subst hT; exact gF
   have hlst2:(T++G1++[Cell.lst (Q1.map λq=>.loc q.2)])[S.length]?=some (.lst (Q.map λq=>.loc q.2)):=aG ((Zd _ _).trans (Zd _ _)) hlst
   have n1:Q.length<=V.length*st.length:=by
    have h1:=Xs List.length hQ;rw[Zb] at h1;have h2:=nu st ((V.take i).map (·.1));rw[Zb,Z3] at h2;have h3:min i V.length*st.length<=V.length*st.length:=Nat.mul_le_mul_right _ (Nat.min_le_right _ _);omega
   have n2:Q1.length<=st.length:=by
    have h1:=Xs List.length q1;rw[Zb,Zb] at h1;have:=Qp (dh (V[i]).1) st;omega
   have ex:=l_ (S:=T++G1++[Cell.lst (Q1.map λq=>.loc q.2)]) hlst2 (az _ _) (by rw[Zb,Zb]; unfold aP; omega);refine⟨_,_,dw (fk (gg (l:=S.length) (r_v rfl) (aa e1 ai) ex (gz hlst))),some (.loc (V[i]).2),Q++Q1,(G++G1)++[Cell.lst (Q1.map λq=>.loc q.2)],rfl,?_,?_,?_⟩
   ·subst hT;rw[Zq,Zq,XX,xj,ZK,Zq]
   ·rw[ZK,hQ,q1,Qy hi',ZK];unfold longer;rw[List.flatMap_append];simp
   ·intro q hq;rcases ZB.mp hq with hq|hq
    ·obtain⟨b1,b2⟩:=hA q hq;exact⟨ia (b1.pre ((Zd _ _).trans (Zd _ _))) (by omega),b2⟩
    ·obtain⟨b1,b2⟩:=a1 q hq;exact⟨ia (b1.pre (Zd _ _)) (by omega),by omega⟩)
 rw[Zb,Z4] at hQ;have body:exec sub (ah sub P n) jG.body (frame jG [.loc m,.loc k]) S=.ok (.rt (.loc S.length)) (S++.lst (Q.map λq=>.loc q.2)::G):=ak (aN (br ai rfl)) (ak e (aE (r_v rfl)))
 by_cases hQ0:Q=[]
 ·subst hQ0;refine⟨S++[.lst []],[],x_call (ds:=[.loc m,.loc k]) hw.lengthened rfl body ?_,Zd _ _,az _ _,hQ,λ_ h=>by cases h⟩;exact fT (Zm _) (bS _ _) gF rfl
 ·refine⟨_,Q,x_call (ds:=[.loc m,.loc k]) hw.lengthened rfl body ?_,Zd _ _,gF,hQ,hA⟩;unfold leave;rw[Zf (bS _ _),Zh (by show ¬decide (S.length<S.length)=true; simp)];simp only[gF];rw[Zh];intro z;obtain⟨q,r,rfl⟩:=Qs hQ0;have z:(decide (q.2<S.length)&&D.lows S.length (r.map λq=>.loc q.2))=true:=z;rw[Zv] at z;have:=Zl z.1;have:=(hA q Zo).2;omega
end
end RL

namespace RL
open PySem EV GO WK
noncomputable def mw:Fn:=⟨2,7,(.seq (.set (.one 2) (.call "needs" (.cs (.v 0) .nl)))
 (.seq (.set (.one 3) (.comp 2 (.lst (.cs (.v 8) .nl)) (.one 8) (.iSeq (.v 2)) .nl))
 (.seq (.forS (.one 4) (.iRng (.cs (.bi .len (.cs (.ix (.v 0) (.c (.int 2))) .nl)) .nl))
  (.seq (.set (.one 5) (.call "longest_walks" (.cs (.v 0) (.cs (.v 1) (.cs (.v 3) .nl)))))
 (.seq (.forS (.one 6) (.iDct (.v 5))
  (.ite (.and (.cmp .eq (.ix (.v 6) (.c (.int 0))) (.ix (.v 6) (.c (.int 1)))) (.cmp .gt (.call "surplus" (.cs (.v 0) (.cs (.v 1) (.cs (.dgv (.v 5) (.v 6)) .nl)))) (.c (.int 0))))
  (.ret (.dgv (.v 5) (.v 6)))
  .skip))
 (.set (.one 3) (.call "lengthened" (.cs (.bi .vals (.cs (.v 5) .nl)) (.cs (.v 2) .nl)))))))
 (.ret (.c .non)))))⟩
noncomputable def jK:EV.S:=.ite (.and (.cmp .eq (.ix (.v 6) (.c (.int 0))) (.ix (.v 6) (.c (.int 1)))) (.cmp .gt (.call "surplus" (.cs (.v 0) (.cs (.v 1) (.cs (.dgv (.v 5) (.v 6)) .nl)))) (.c (.int 0))))
  (.ret (.dgv (.v 5) (.v 6)))
  .skip
noncomputable def j_:EV.S:=.seq (.set (.one 5) (.call "longest_walks" (.cs (.v 0) (.cs (.v 1) (.cs (.v 3) .nl)))))
 (.seq (.forS (.one 6) (.iDct (.v 5)) jK)
 (.set (.one 3) (.call "lengthened" (.cs (.bi .vals (.cs (.v 5) .nl)) (.cs (.v 2) .nl)))))
theorem jk(t:WU):∀ts:List (List Int),(bV t ts).length<=ts.length+1
 | []=>Zm _
 | u::r=>by
  unfold bV;split
  ·exact XU _
  ·split
   ·exact Zm _
   ·have:=jk t r;rw[Zy,Zy]; omega
theorem jb:∀ts:List (List Int),(bf ts).length<=ts.length
 | []=>Zm _
 | t::r=>by
  have h1:=jk t (bf r);have h2:=jb r;show(bV t (bf r)).length<=r.length+1;omega
theorem gE(t x:WU):∀ts:List (List Int),x∈bV t ts ↔ x=t\/x∈ts
 | []=>by unfold bV; simp
 | u::r=>by
  unfold bV;split
  ·rename_i h;subst h;constructor
   ·exact .inr
   ·rintro(rfl|h)
    ·exact Zo
    ·exact h
  ·split
   ·exact Zx
   ·rw[Zx,Zx,gE t x r];constructor
    ·rintro(h|h|h)
     ·exact .inr (.inl h)
     ·exact .inl h
     ·exact .inr (.inr h)
    ·rintro(h|h|h)
     ·exact .inr (.inl h)
     ·exact .inl h
     ·exact .inr (.inr h)
theorem qj(x:WU):∀ts:List (List Int),x∈bf ts ↔ x∈ts
 | []=>Iff.rfl
 | t::r=>by
  show x∈bV t (bf r) ↔ _;rw[gE,qj x r,Zx]
noncomputable def ay(l:Lp):List Nd:=bf (bB 0 l.works)
theorem bX{l:Lp}(hl:l.WF):∀t∈ay l,bW l t:=λt ht=>EO hl ((qj t _).mp ht)
theorem kq{l:Lp}(hl:l.WF)(h4:l.works.length<=4):(ay l).length<=12:=by
 have h1:=jb (bB 0 l.works)
 have h2:=j5 l.works 0 λw hw=>by
  obtain⟨i,hi⟩:=ZP hw;exact(hl.works i w hi).some.2
 unfold ay;omega
section
variable{sub:Sub}{P:Prg}{n:Nat}{S T:af}{l:Lp}
theorem AW{α:Type}{en:α->List Int}{wf:α->Int}{Q:List α}{K:List (List Int×α)}(h:KOk en wf Q K):∀e∈K,∃x,aQ K e.1=some x/\en x=e.1:=λe he=>by
 obtain⟨h1,h2⟩:=h.mem e he;obtain⟨x,hx,_⟩:=h.all _ h1;rw[<- h2] at hx;exact⟨x,hx,((h.mem _ (fB hx)).2).symm⟩
theorem uY(hw:HW P){g:Int}(hg:0<=g/\g<=1000){Q:List (Wlk×Nat)}{K:List (List Int×(Wlk×Nat))}{k:Nat}{x2 x3 x4:Option D}(hT:TabAt T k (K.map kv))(hK:KOk enQ (wfQ l g) Q K)(hQ:∀q∈Q,cQ l T q){s:Src}(hs:aL s T=.ok () T) :
  ∀(E:List (List Int×(Wlk×Nat))) (x6:Option D),(∀e∈E,e∈K) ->
   (∃q∈Q,forL s (bH sub (ah sub P (n+2)) (.one 6) jK) (E.map λe=>tupI e.1) [some l.toD,some (.int g),x2,x3,x4,some (.loc k),x6] T=.ok (.rt (.loc q.2)) T/\bR q.1/\0<wfQ l g q) \/
   (∃x6',forL s (bH sub (ah sub P (n+2)) (.one 6) jK) (E.map λe=>tupI e.1) [some l.toD,some (.int g),x2,x3,x4,some (.loc k),x6] T=.ok (.nx [some l.toD,some (.int g),x2,x3,x4,some (.loc k),x6']) T/\∀e∈E,∀q,aQ K e.1=some q->bR q.1->wfQ l g q<=0)
 | [],x6,_=>.inr ⟨x6,tP hs,λ_ h=>by cases h⟩
 | e::E,x6,hE=>by
  obtain⟨q,hq,he⟩:=AW hK e (hE e Zo);have hqQ:=(hK.mem _ (fB hq)).1;have gq:=hQ q hqQ;have he:e.1=[fst q.1,lst q.1]:=he.symm
  have hget:aQ (K.map kv) e.1=some (.loc q.2):=by
   rw[show aQ (K.map kv) e.1=(aQ K e.1).map λq=>D.loc q.2 from get_map (λq:Wlk×Nat=>D.loc q.2) e.1 K,hq]; rfl
  have d1:=vW hT hget;have s1:=kN (sub:=sub) (n:=n) hw hg gq.at' gq.nd gq.len;have i0:ixD (tupI e.1) (.int 0) T=.ok (.int (fst q.1)) T:=by rw[he]; exact aI rfl
  have i1:ixD (tupI e.1) (.int 1) T=.ok (.int (lst q.1)) T:=by rw[he]; exact aI rfl
  have t1:evT sub (ah sub P (n+2)) (.cmp .eq (.ix (.v 6) (.c (.int 0))) (.ix (.v 6) (.c (.int 1)))) [some l.toD,some (.int g),x2,x3,x4,some (.loc k),some (tupI e.1)] T=.ok (fst q.1==lst q.1) T:=aR (aO (aC (r_v rfl) r_c i0) (aC (r_v rfl) r_c i1) (eO _ _ _));have t2:evT sub (ah sub P (n+2)) (.cmp .gt (.call "surplus" (.cs (.v 0) (.cs (.v 1) (.cs (.dgv (.v 5) (.v 6)) .nl)))) (.c (.int 0))) [some l.toD,some (.int g),x2,x3,x4,some (.loc k),some (tupI e.1)] T=.ok (decide (0<wfQ l g q)) T:=aR (aO (aB (aa (r_v rfl) (aa (r_v rfl) (aa (nR (r_v rfl) (r_v rfl) d1) ai))) s1) r_c (iK _ _ _))
  have go:((fst q.1==lst q.1)&&decide (0<wfQ l g q))=false->bH sub (ah sub P (n+2)) (.one 6) jK (tupI e.1) [some l.toD,some (.int g),x2,x3,x4,some (.loc k),x6] T=.ok (.nx [some l.toD,some (.int g),x2,x3,x4,some (.loc k),some (tupI e.1)]) T:=λhb=>by
   refine dw (aK ?_ aM)
   cases c:(fst q.1==lst q.1) with
   | false=>rw[c] at t1; exact gp t1
   | true =>
    rw[c] at t1 hb;rw[X9] at hb;rw[hb] at t2;exact eY t1 t2
  by_cases hb:((fst q.1==lst q.1)&&decide (0<wfQ l g q))=true
  ·rw[Zv] at hb;rw[hb.1] at t1;rw[hb.2] at t2;refine .inl ⟨q,hqQ,?_,eq_of_beq hb.1,Zl hb.2⟩;exact l6 hs (dw (bA (eY t1 t2) (aE (nR (r_v rfl) (r_v rfl) d1))))
  ·have hb:((fst q.1==lst q.1)&&decide (0<wfQ l g q))=false:=by cases c:((fst q.1==lst q.1)&&decide (0<wfQ l g q)) with|true=>exact absurd c hb|false=>rfl
   rcases uY hw hg hT hK hQ hs E (some (tupI e.1)) λa ha=>hE a (Zr _ ha) with⟨y,hy,e1,e2,e3⟩|⟨x6',e1,e2⟩
   ·exact .inl ⟨y,hy,kE hs (go hb) e1,e2,e3⟩
   ·refine .inr ⟨x6',kE hs (go hb) e1,λa ha y hy hc=>?_⟩;rcases Zx.mp ha with rfl|ha
    ·rw[hq] at hy; cases hy;have hc:(fst q.1==lst q.1)=true:=Q9.mpr hc;rw[hc,X9] at hb;have:=WE hb;omega
    ·exact e2 a ha y hy hc
theorem Bq{k:Nat}{K:List (List Int×(Wlk×Nat))}(hT:TabAt T k (K.map kv))(hz:K.length<=1000000):biD sub .vals [.loc k] T=.ok (.loc T.length) (T++[.lst ((K.map (·.2)).map λq=>.loc q.2)]):=by
 show b6 k (λkvs=>guard (fits kvs.length) (alloc (.lst (kvs.map (·.2))))) T=_;rw[oH hT];rw[show fits (K.map kv).length=true from Zj (by rw[Zb]; unfold aP; omega)];show Res.ok (D.loc T.length) (T++[.lst ((K.map kv).map (·.2))])=_;rw[Xr,Xr]; rfl
theorem xY{cf:Str->List D->M D}{σ:Sg}{a:E}{k:Nat}{K:List (List Int×(Wlk×Nat))}(ha:ev sub cf a σ (T++[.dct (K.map kv)])=.ok (.loc T.length) (T++[.dct (K.map kv)])):evI sub cf (.iDct a) σ (T++[.dct (K.map kv)])=.ok ⟨K.map λe=>tupI e.1,none,[]⟩ (T++[.fdc (K.map kv)]):=by
 show(ev sub cf a σ>>=λd=>iZ d) (T++[.dct (K.map kv)])=_;rw[aq,ha,Res.aj];unfold iZ;simp only[az];rw[qZ,Xr]; rfl
structure RSt(l:Lp)(g:Int)(S0 T:af)(m:Nat)(Q:List (Wlk×Nat)):Prop where
 best:fQ (aY l) g (ay l) m (Q.map (·.1))
 at':∀q∈Q,AtW T q/\S0.length<=q.2
 len:Q.length<=12^m
theorem RSt.good{S0:af}{g:Int}{m:Nat}{Q:List (Wlk×Nat)}(hl:l.WF)(h:RSt l g S0 T m Q)(hm:m<=1000):∀q∈Q,cQ l T q:=λq hq=>by
 obtain⟨h1,h2⟩:=h.best.mem q.1 (ZA.mpr ⟨q,hq,rfl⟩);exact⟨(h.at' q hq).1,h1.ne,λt ht=>bX hl t (h1.mem t ht),by omega⟩
theorem rq{m:Nat}(h:m<=5):12^m<=248832:=Z2 (Nat.pow_le_pow_right (by decide) h) (by decide)
theorem EU(hw:HW P)(hl:l.WF)(h4:l.works.length<=4){g:Int}(hg:0<=g/\g<=1000){S0:af}{m k:Nat}{Q:List (Wlk×Nat)}{x4 x5 x6:Option D}(hm:1<=m/\m<=4)(hR:RSt l g S0 T m Q)(hk:T[k]?=some (.lst (Q.map λq=>.loc q.2)))(h0:S0.length<T.length)(hp:S0<+:T)(hs:T[S0.length]?=some (.lst ((ay l).map tupI))) :
  (∃q T',exec sub (ah sub P (n+3)) j_ [some l.toD,some (.int g),some (.loc S0.length),some (.loc k),x4,x5,x6] T=.ok (.rt (.loc q.2)) T'/\S0<+:T'/\AtW T' q/\S0.length<=q.2/\Walk (ay l) q.1/\q.1.length=m/\bR q.1/\0<wt (aY l) g q.1) \/
  (gP (aY l) g (ay l) m/\∃T' k' Q' x5' x6',exec sub (ah sub P (n+3)) j_ [some l.toD,some (.int g),some (.loc S0.length),some (.loc k),x4,x5,x6] T=.ok (.nx [some l.toD,some (.int g),some (.loc S0.length),some (.loc k'),x4,x5',x6']) T'/\T<+:T'/\RSt l g S0 T' (m+1) Q'/\T'[k']?=some (.lst (Q'.map λq=>.loc q.2))):=by
 have gQ:=hR.good hl (by omega);have hQz:Q.length<=248832:=Z2 hR.len (rq (by omega));have hst:=kq hl h4;have e1:=JL (sub:=sub) (n:=n) hw hg hk gQ (by omega);have hK:KOk enQ (wfQ l g) Q (Q.foldl (c6 enQ (wfQ l g)) []):=KOk.of Q;generalize hKe:Q.foldl (c6 enQ (wfQ l g)) []=K at e1 hK;have hKz:=hK.len;have pre:T<+:T++[.fdc (K.map kv)]:=Zd _ _;have hT:TabAt (T++[.fdc (K.map kv)]) T.length (K.map kv):=.inr (az _ _);have a1:=aN (sub:=sub) (cf:=ah sub P (n+3)) (σ:=[some l.toD,some (.int g),some (.loc S0.length),some (.loc k),x4,x5,x6]) (i:=5) (S:=T) (aB (aa (r_v (i:=0) rfl) (aa (r_v (i:=1) rfl) (aa (r_v (i:=3) rfl) ai))) e1);have it:=xY (sub:=sub) (cf:=ah sub P (n+3)) (σ:=[some l.toD,some (.int g),some (.loc S0.length),some (.loc k),x4,some (.loc T.length),x6]) (T:=T) (K:=K) (k:=0) (r_v (i:=5) rfl);rcases uY (sub:=sub) (n:=n+1) (x2:=some (.loc S0.length)) (x3:=some (.loc k)) (x4:=x4) hw hg hT hK (λq hq=>(gQ q hq).pre pre) (s:=⟨K.map λe=>tupI e.1,none,[]⟩) rfl K x6 (λ_ h=>h) with⟨q,hq,e2,c1,c2⟩|⟨x6',e2,c1⟩
 ·obtain⟨w1,w2⟩:=hR.best.mem q.1 (ZA.mpr ⟨q,hq,rfl⟩);exact .inl ⟨q,_,ak a1 (bP (fh it e2)),hp.trans pre,(hR.at' q hq).1.pre pre,(hR.at' q hq).2,w1,w2,c1,c2⟩
 ·refine .inr ⟨λw hw' hlw hc=>?_,?_⟩
  ·obtain⟨v,hv,he,hle⟩:=hR.best.all w hw' hlw;obtain⟨q,hq,rfl⟩:=ZA.mp hv;obtain⟨x,hx,hle2⟩:=hK.all q hq;have hxe:enQ x=enQ q:=((hK.mem _ (fB hx)).2).symm
   have hxc:bR x.1:=by
    obtain⟨z1,z2⟩:=t_ (hxe.trans he);show fst x.1=lst x.1;rw[z1,z2]; exact hc
   have:=c1 _ (fB hx) x hx hxc;have h5:wt (aY l) g q.1<=wt (aY l) g x.1:=hle2;have h6:wt (aY l) g x.1<=0:=this;omega
  ·have gV:∀q∈K.map (·.2),cQ l (T++[.fdc (K.map kv)]++[.lst ((K.map (·.2)).map λq=>.loc q.2)]) q:=λq hq=>by
    obtain⟨e,he,rfl⟩:=ZA.mp hq;exact((gQ _ (hK.mem e he).1).pre pre).pre (Zd _ _)
   obtain⟨T',Q',e3,p3,g3,m3,a3⟩:=A3 (sub:=sub) (P:=P) (n:=n+2) (S:=T++[.fdc (K.map kv)]++[.lst ((K.map (·.2)).map λq=>.loc q.2)]) (l:=l) (st:=ay l) (k:=S0.length) (m:=(T++[Cell.fdc (K.map kv)]).length) (V:=K.map (·.2)) hw
    (aG (pre.trans (Zd _ _)) hs) (bX hl) (az _ _) gV (by omega) (by
     rw[Zb];have:K.length*(ay l).length<=12^m*12:=Nat.mul_le_mul (Z2 hKz hR.len) hst;have h2:12^m*12<=248832:=by rw[<- WP]; exact rq (by omega)
     omega)
   have hv:=Bq (sub:=sub) (T:=T++[.fdc (K.map kv)]) (k:=T.length) (K:=K) hT (by omega);have a2:=aN (sub:=sub) (cf:=ah sub P (n+3)) (σ:=[some l.toD,some (.int g),some (.loc S0.length),some (.loc k),x4,some (.loc T.length),x6']) (i:=3) (S:=T++[.fdc (K.map kv)]) (aB (aa (aH (aa (r_v (i:=5) rfl) ai) hv) (aa (r_v (i:=2) rfl) ai)) e3);refine⟨T',_,Q',_,_,ak a1 (ak (fh it e2) a2),(pre.trans (Zd _ _)).trans p3,⟨?_,?_,?_⟩,g3⟩
   ·refine fQ.next (V:=(K.map (·.2)).map (·.1)) (by omega) (λw hw'=>?_) (λw hw' hlw=>?_) (λw=>by rw[m3]; exact AH w)
    ·obtain⟨q,hq,rfl⟩:=ZA.mp hw';obtain⟨e,he,rfl⟩:=ZA.mp hq;exact hR.best.mem _ (ZA.mpr ⟨_,(hK.mem e he).1,rfl⟩)
    ·obtain⟨v,hv,he,hle⟩:=hR.best.all w hw' hlw;obtain⟨q,hq,rfl⟩:=ZA.mp hv;obtain⟨x,hx,hle2⟩:=hK.all q hq;have hxe:enQ x=enQ q:=((hK.mem _ (fB hx)).2).symm;refine⟨x.1,ZA.mpr ⟨x,ZA.mpr ⟨_,fB hx,rfl⟩,rfl⟩,hxe.trans he,?_⟩;have h5:wt (aY l) g q.1<=wt (aY l) g x.1:=hle2;omega
   ·intro q hq;obtain⟨b1,b2⟩:=a3 q hq;refine⟨b1,?_⟩;rw[Zn,Zn] at b2;omega
   ·have h1:=Xs List.length m3;rw[Zb] at h1;have h2:=nu (ay l) ((K.map (·.2)).map (·.1));rw[Zb,Zb] at h2;have:K.length*(ay l).length<=12^m*12:=Nat.mul_le_mul (Z2 hKz hR.len) hst;rw[WP];omega
theorem vH(hw:HW P)(hl:l.WF)(h4:l.works.length<=4){g:Int}(hg:0<=g/\g<=1000){S0:af}{raw:Ya}{its0:Ya}:∀(its:Ya) (T:af) (m k:Nat) (Q:List (Wlk×Nat)) (x4 x5 x6:Option D),1<=m->m+its.length<=5->RSt l g S0 T m Q->T[k]?=some (.lst (Q.map λq=>.loc q.2))->S0.length<T.length->S0<+:T->T[S0.length]?=some (.lst ((ay l).map tupI))->(∀j,0<j->j<m->gP (aY l) g (ay l) j) ->
  (∃q T',forL ⟨its0,none,raw⟩ (bH sub (ah sub P (n+3)) (.one 4) j_) its [some l.toD,some (.int g),some (.loc S0.length),some (.loc k),x4,x5,x6] T=.ok (.rt (.loc q.2)) T'/\S0<+:T'/\AtW T' q/\S0.length<=q.2/\Walk (ay l) q.1/\q.1.length<m+its.length/\bR q.1/\0<wt (aY l) g q.1/\(q.1.map nA).Nodup) \/
  (∃σ' T',forL ⟨its0,none,raw⟩ (bH sub (ah sub P (n+3)) (.one 4) j_) its [some l.toD,some (.int g),some (.loc S0.length),some (.loc k),x4,x5,x6] T=.ok (.nx σ') T'/\S0<+:T'/\∀j,0<j->j<m+its.length->gP (aY l) g (ay l) j)
 | [],T,m,k,Q,x4,x5,x6,h1,h2,hR,hk,h0,hp,hs,hf=>.inr ⟨_,T,tP rfl,hp,hf⟩
 | d::its,T,m,k,Q,x4,x5,x6,h1,h2,hR,hk,h0,hp,hs,hf=>by
  rw[Zy] at h2;rcases EU (sub:=sub) (n:=n) (x4:=some d) (x5:=x5) (x6:=x6) hw hl h4 hg ⟨h1,by omega⟩ hR hk h0 hp hs with⟨q,T',e,p,a,b,w,wl,c,pos⟩|⟨fr,T',k',Q',x5',x6',e,p,hR',hk'⟩
  ·refine .inl ⟨q,T',l6 rfl (dw e),p,a,b,w,by rw[Zy]; omega,c,pos,Df w c pos λj j1 j2=>hf j j1 (by omega)⟩
  ·have:=vH hw hl h4 hg (raw:=raw) (its0:=its0) its T' (m+1) k' Q' (some d) x5' x6' (by omega) (by omega) hR' hk' (ZN h0 p.length_le) (hp.trans p) (aG p hs) (λj j1 j2=>by
    by_cases hj:j=m
    ·rw[hj]; exact fr
    ·exact hf j j1 (by omega))
   rw[Zy];rcases this with⟨q,T2,e2,r⟩|⟨σ2,T2,e2,r1,r2⟩
   ·refine .inl ⟨q,T2,kE rfl (dw e) e2,?_⟩;rw[show m+(its.length+1)=m+1+its.length by omega]; exact r
   ·refine .inr ⟨σ2,T2,kE rfl (dw e) e2,r1,?_⟩;rw[show m+(its.length+1)=m+1+its.length by omega]; exact r2
structure m8(l:Lp)(g:Int)(w:Wlk):Prop where
 walk:Walk (ay l) w
 len:w.length<=l.works.length
 closed:bR w
 pos:0<wt (aY l) g w
 nodup:(w.map nA).Nodup
theorem zW(h:HB P)(hn:Has P "needs" kQ)(hr:Has P "barring_ring" mw)(hw:HW P)(hl:l.WF)(h4:l.works.length<=4){g:Int}(hg:0<=g/\g<=1000) :
  (∃w,ah sub P (n+9) "barring_ring" [l.toD,.int g] S=.ok (.loc S.length) (S++[.lst (w.map tupI)])/\m8 l g w) \/
  (ah sub P (n+9) "barring_ring" [l.toD,.int g] S=.ok .non S/\∀j,0<j->j<=l.works.length->gP (aY l) g (ay l) j):=by
 have e1:=lN (sub:=sub) (n:=n) (S:=S) h hn hl (by omega);have hst:=kq hl h4
 obtain⟨T',Q,e2,p2,m2,a2⟩:=kY (sub:=sub) (cf:=ah sub P (n+8)) (σ:=[some l.toD,some (.int g),some (.loc S.length),none,none,none,none]) (S:=S++[.lst ((ay l).map tupI)]) (k:=2) (i:=8) (el:=.lst (.cs (.v 8) .nl)) (it:=.iSeq (.v 2)) (tt:=.nl) (ks:=ay l) (f:=tupI) (p:=λ_=>true) (h:=λt=>[t]) (o:=some S.length) (raw:=(ay l).map tupI)
  (bw (r_v rfl) (bZ (az _ _))) (λT hT=>cL (.inr ⟨_,rfl,aG hT (az _ _)⟩)) (λt ht T hT=>rfl) (λt ht _ T hT=>⟨_,_,br (aa (r_v rfl) ai) rfl,Zd _ _,hT.length_le,az _ _⟩) (by unfold aP; omega)
 have hp:S<+:T':=(Zd _ _).trans p2
 have hlen:S.length<T'.length:=by
  have:=p2.length_le;rw[Zn] at this;simp at this;omega
 have hf:(ay l).filter (λ_=>true)=ay l:=List.filter_eq_self.mpr λ_ _=>rfl
 rw[hf] at m2
 have hR:RSt l g S (T'++[.lst (Q.map λq=>.loc q.2)]) 1 Q:=⟨by rw[m2]; exact fQ.one,λq hq=>⟨(a2 q hq).1.pre (Zd _ _),by
   have:=(a2 q hq).2;rw[Zn] at this;omega⟩,by
   have:=Xs List.length m2;rw[Zb,Zb] at this;omega⟩
 have hs:(T'++[Cell.lst (Q.map λq=>.loc q.2)])[S.length]?=some (.lst ((ay l).map tupI)):=aG (p2.trans (Zd _ _)) (az _ _)
 have hit:evI sub (ah sub P (n+8)) (.iRng (.cs (.bi .len (.cs (.ix (.v 0) (.c (.int 2))) .nl)) .nl)) [some l.toD,some (.int g),some (.loc S.length),some (.loc T'.length),none,none,none] (T'++[.lst (Q.map λq=>.loc q.2)])=.ok ⟨(List.range l.works.length).map λ(i:Nat)=>.int (i:Int),none,[]⟩ (T'++[.lst (Q.map λq=>.loc q.2)]) :=
  iI (aa (aH (aa (aC (r_v rfl) r_c (aI rfl)) ai) fL) ai) (by rw[Zb]) (by omega) (λ_=>rfl)
 rcases vH (sub:=sub) (n:=n+5) (raw:=[]) (its0:=(List.range l.works.length).map λ(i:Nat)=>.int (i:Int)) hw hl h4 hg ((List.range l.works.length).map λ(i:Nat)=>.int (i:Int)) (T'++[.lst (Q.map λq=>.loc q.2)]) 1 T'.length Q none none none (by omega) (by rw[Zb,ZS]; omega) hR (az _ _) (by rw[Zn]; omega) (hp.trans (Zd _ _)) hs (λj j1 j2=>by omega) with⟨q,T2,e3,r1,r2,r3,r4,r5,r6,r7,r8⟩|⟨σ2,T2,e3,r1,r2⟩
 ·rw[Zb,ZS] at r5;refine .inl ⟨q.1,x_call (ds:=[l.toD,.int g]) hr rfl (ak (aN (aB (aa (r_v rfl) ai) e1)) (ak (aN e2) (bP (fh hit e3)))) (fT r3 ?_ r2 (gu _)),r4,by omega,r6,r7,r8⟩;obtain⟨G,rfl⟩:=r1;exact bS _ _
 ·rw[Zb,ZS] at r2;refine .inr ⟨x_call (ds:=[l.toD,.int g]) hr rfl (ak (aN (aB (aa (r_v rfl) ai) e1)) (ak (aN e2) (ak (fh hit e3) (aE r_c)))) (bN rfl ?_),λj j1 j2=>r2 j j1 (by omega)⟩;obtain⟨G,rfl⟩:=r1;exact bS _ _
end
end RL

namespace WK
theorem sP:∀{w:Wlk},w≠[]->Chn w->w.map nB=(w.map nA).drop 1++[lst w]
 | [],h,_=>absurd rfl h
 | [t],_,_=>rfl
 | t::u::r,_,c=>by
  have ih:=sP (w:=u::r) (by simp) c.2;rw[ZI,ih,c.1]; rfl
theorem yS{w:Wlk}(hn:w≠[])(hc:Chn w)(hcl:bR w):w.map nB=(w.map nA).drop 1++(w.map nA).take 1:=by
 rw[sP hn hc,show lst w=fst w from hcl.symm]
 cases w with
 | nil=>exact absurd rfl hn
 | cons t r=>rfl
theorem wz:∀(xs acc:WU),(acc++xs).Nodup->xs.foldl EV.iX acc=acc++xs
 | [],acc,_=>by simp
 | x::r,acc,h=>by
  have h1:x∉acc:=λz=>by
   have:=(XQ.mp h).2.2 x z x Zo;exact this rfl
  have e:EV.iX acc x=acc++[x]:=Zh (by rw[QQ]; exact h1);show r.foldl EV.iX (EV.iX acc x)=_;rw[e,wz r (acc++[x]) (by rw[Zq]; exact h),Zq]; rfl
theorem yQ{xs:WU}(h:xs.Nodup):EV.dZ xs=xs.length:=by
 unfold EV.dZ;rw[wz xs [] h]; rfl
end WK
namespace RL
open PySem EV GO WK
noncomputable def zpE:List Int->List Int->Bool
 | a::r,b::q=>(a==b)&&zpE r q
 | _,_=>true
theorem t6:∀u:List Int,zpE u u=true
 | []=>rfl
 | a::r=>by show((a==a)&&zpE r r)=true; rw[t6 r,Xi]; rfl
theorem oh{S:af}(n:Nat):∀u t:List Int,bx (eqD (n+1) S) (u.map .int) (t.map .int)=some (zpE u t)
 | [],[]=>rfl
 | [],_::_=>rfl
 | _::_,[]=>rfl
 | a::r,b::q=>by
  show(match eqD (n+1) S (.int a) (.int b),bx (eqD (n+1) S) (r.map .int) (q.map .int) with|some a,some b=>some (a&&b)|_,_=>none)=_;rw[oh n r q]; rfl
theorem Ai{S:af}(u t:WU):∃b,eqD deep S (tupI u) (tupI t)=some b/\(u=t->b=true):=by
 refine⟨zpE u t&&((u.map D.int).length==(t.map D.int).length),?_,λe=>?_⟩
 ·show(bx (eqD 11 S) (u.map .int) (t.map .int)).map (λr=>r&&((u.map D.int).length==(t.map D.int).length))=_;rw[oh 10]; rfl
 ·subst e; rw[t6,Xi]; rfl
theorem oR{S:af}(t:WU):∀ts:List (List Int),∃b,inL S (tupI t) (ts.map tupI)=some b/\(t∈ts->b=true)
 | []=>⟨false,rfl,λh=>by cases h⟩
 | u::r=>by
  obtain⟨a,e1,h1⟩:=Ai (S:=S) u t;obtain⟨b,e2,h2⟩:=oR (S:=S) t r;refine⟨a||b,?_,λh=>?_⟩
  ·show(match eqD deep S (tupI u) (tupI t),inL S (tupI t) (r.map tupI) with|some a,some b=>some (a||b)|_,_=>none)=_;rw[e1,e2]
  ·rcases Zx.mp h with rfl|h
   ·rw[h1 rfl]; rfl
   ·rw[h2 h,WR]
noncomputable def rT:Fn:=⟨2,2,(.ret (.and (.call "is_row" (.cs (.v 0) (.cs (.c (.int 3)) (.cs (.c (.int 3)) .nl)))) (.and (.bi .all (.cs (.comp 2 (.call "is_whole" (.cs (.v 3) (.cs (.c (.int 0)) (.cs (.c (.int 8)) .nl)))) (.one 3) (.iSeq (.v 0)) .nl) .nl)) (.cmp .isin (.v 0) (.v 1)))))⟩
noncomputable def wB:Fn:=⟨2,4,(.seq (.ite (.or (.not (.bi (.inst .list) (.cs (.v 0) .nl))) (.not (.chn .le .le (.c (.int 1)) (.bi .len (.cs (.v 0) .nl)) (.c (.int 8)))))
  (.ret (.c (.bl false)))
  .skip)
 (.seq (.ite (.not (.bi .all (.cs (.comp 2 (.call "is_need" (.cs (.v 5) (.cs (.v 1) .nl))) (.one 5) (.iSeq (.v 0)) .nl) .nl)))
  (.ret (.c (.bl false)))
  .skip)
 (.seq (.set (.one 2) (.comp 2 (.ix (.v 5) (.c (.int 0))) (.one 5) (.iSeq (.v 0)) .nl))
 (.seq (.set (.one 3) (.comp 2 (.ix (.v 5) (.c (.int 1))) (.one 5) (.iSeq (.v 0)) .nl))
 (.ret (.and (.cmp .eq (.v 3) (.bin .add (.sl (.v 2) (.c (.int 1)) .nl) (.sl (.v 2) .nl (.c (.int 1))))) (.cmp .eq (.bi .lenS (.cs (.v 2) .nl)) (.bi .len (.cs (.v 2) .nl)))))))))⟩
noncomputable def xu:Fn:=⟨3,4,(.seq (.set (.one 3) (.call "needs" (.cs (.v 0) .nl)))
 (.seq (.ex (.call "checked_gap" (.cs (.v 1) .nl)))
 (.ret (.and (.call "is_ring" (.cs (.v 2) (.cs (.v 3) .nl))) (.cmp .gt (.call "surplus" (.cs (.v 0) (.cs (.v 1) (.cs (.v 2) .nl)))) (.c (.int 0)))))))⟩
noncomputable def pR:Fn:=⟨2,2,(.seq (.ex (.call "checked" (.cs (.v 0) .nl)))
 (.ret (.call "barring_ring" (.cs (.v 0) (.cs (.call "checked_gap" (.cs (.v 1) .nl)) .nl)))))⟩
structure HR0(P:Prg):Prop where
 needs:Has P "needs" kQ
 gap:Has P "checked_gap" qE
 barring:Has P "barring_ring" mw
 walks:HW P
structure HR(P:Prg):Prop extends HR0 P where
 ring:Has P "ring" pR
 isneed:Has P "is_need" rT
 isring:Has P "is_ring" wB
 isbar:Has P "is_bar" xu
section
variable{sub:Sub}{P:Prg}{n:Nat}{S T:af}{l:Lp}
theorem D7{k:Nat}{ts:WY}{t:WU}(hk:T[k]?=some (.lst (ts.map tupI)))(h:t∈ts):cmD .isin (tupI t) (.loc k) T=.ok (.bl true) T:=by
 show(items (.loc k)>>=λys=>inA false (tupI t) ys) T=_;rw[aq,bT hk];simp only[Res.aj];unfold inA;obtain⟨b,e,hb⟩:=oR (S:=T) t ts;rw[e,hb h]; rfl
theorem n_(h:HB P)(hr:HR0 P){g:Int}(h1:1<=g)(h2:g<=200):ah sub P (n+2) "checked_gap" [.int g] S=.ok (.int g) S :=
 x_call (ds:=[.int g]) hr.gap rfl (ak (aK (aW (bO (aB (aa (r_v rfl) (aa r_c (aa r_c ai))) (cV h.whole h1 h2)))) aM) (aE (r_v rfl))) (nP _ _)
theorem sM{α:Type}{xs:List α}:biD sub .all [.loc T.length] (T++[.lst (xs.map λ_=>.bl true)])=.ok (.bl true) (T++[.lst (xs.map λ_=>.bl true)]):=by
 rw[mW,bT (az _ _),Res.aj]
 have e:∀xs:List α,cS (xs.map λ_=>D.bl true)=some (xs.map λ_=>true):=λxs=>by
  induction xs with
  | nil=>rfl
  | cons a r ih=>show(cS (r.map λ_=>D.bl true)).map (true :: ·)=_; rw[ih]; rfl
 rw[e,cO,Res.aj];have e2:(xs.map λ_=>true).all id=true:=by rw[WQ]; exact Z9.mpr λ_ _=>rfl
 rw[e2]
theorem EM(h:HB P)(hr:HR P){ts:List Nd}{k:Nat}{t:Nd}(hk:S[k]?=some (.lst (ts.map tupI)))(ht:t∈ts)(hn:bW l t)(h8:l.works.length<=8):ah sub P (n+2) "is_need" [tupI t,.loc k] S=.ok (.bl true) S:=by
 obtain⟨x,i,b,rfl,h1,h2,h3,_⟩:=hn
 have e:ev sub (ah sub P (n+1)) (.comp 2 (.call "is_whole" (.cs (.v 3) (.cs (.c (.int 0)) (.cs (.c (.int 8)) .nl)))) (.one 3) (.iSeq (.v 0)) .nl) [some (tupI [(x:Int),(i:Int),(b:Int)]),some (.loc k)] S=.ok (.loc S.length) (S++[.lst ([(x:Int),(i:Int),(b:Int)].map λ_=>.bl true)]) :=
  fS (ks:=[(x:Int),(i:Int),(b:Int)]) (f:=.int) (g:=λ_=>.bl true) (o:=none) (raw:=[(x:Int),(i:Int),(b:Int)].map .int) (bw (r_v rfl) rfl) rfl (λv hv=>by
   have hv':0<=v/\v<=8:=by
    simp only[Zx,List.not_mem_nil,or_false] at hv;rcases hv with rfl|rfl|rfl<;>omega
   exact aB (aa (r_v rfl) (aa r_c (aa r_c ai))) (cV h.whole hv'.1 hv'.2)) (by unfold aP; simp)
 exact x_call (ds:=[tupI [(x:Int),(i:Int),(b:Int)],.loc k]) hr.isneed rfl (aE (c9 (aB (aa (r_v rfl) (aa r_c (aa r_c ai))) (gX h.row 3 rfl (by decide) (by decide))) (c9 (aH (aa e ai) (sM (xs:=[(x:Int),(i:Int),(b:Int)]))) (aO (r_v rfl) (r_v rfl) (D7 (aG (Zd _ _) hk) ht))))) (dJ _ _ _)
theorem Jf(vs:Ya):cut vs (some 1) none=vs.drop 1:=by
 unfold cut sIx
 cases vs with
 | nil=>rfl
 | cons a r =>
  have:(if(1:Int)<0 then((1:Int)+((a::r).length:Int)).toNat else min (1:Int).toNat (a::r).length)=1:=by
   rw[Zh (by decide)]; simp
  simp
theorem Cv(vs:Ya):cut vs none (some 1)=vs.take 1:=by
 unfold cut sIx
 cases vs with
 | nil=>rfl
 | cons a r=>simp
theorem jF{c:Nat}{xs:Ya}{lo hi:Option Int}(h:T[c]?=some (.lst xs)):slD (.loc c) lo hi T=.ok (.loc T.length) (T++[.lst (cut xs lo hi)]):=by
 show(items (.loc c)>>=λxs=>alloc (.lst (cut xs lo hi))) T=_;rw[aq,bT h]; rfl
theorem Hl{c:Nat}{xs:WU}(h:T[c]?=some (.lst (xs.map .int)))(hz:xs.length<=18):biD sub .lenS [.loc c] T=.ok (.int (dZ xs:Int)) T:=by
 show(bG (.loc c)>>=λds=>opt (allInts ds)>>=λis=>guard (decide (is.length<=18)) (pure (D.int (dZ is)))) T=_;have e:bG (.loc c) T=.ok (xs.map .int) T:=bT h;rw[aq,e,Res.aj,aq,allI,cO,Res.aj,Zj hz]; rfl
theorem DB(h:HB P)(hr:HR P)(hl:l.WF)(h4:l.works.length<=4){g:Int}(h1:1<=g)(h2:g<=200) :
  (∃w,ah sub P (n+10) "ring" [l.toD,.int g] S=.ok (.loc S.length) (S++[.lst (w.map tupI)])/\m8 l g w) \/
  (ah sub P (n+10) "ring" [l.toD,.int g] S=.ok .non S/\∀j,0<j->j<=l.works.length->gP (aY l) g (ay l) j):=by
 have pre:∀{R:Res D},ah sub P (n+9) "barring_ring" [l.toD,.int g] S=R->∀{d S'},R=.ok d S'->∀{R2},leave S d S'=R2->ah sub P (n+10) "ring" [l.toD,.int g] S=R2:=λ{R} e {d S'} e2 {R2} e3 =>
  x_call (ds:=[l.toD,.int g]) hr.ring rfl (ak (fk (aB (aa (r_v rfl) ai) (tE (n:=n+2) h hl))) (aE (aB (aa (r_v rfl) (aa (aB (aa (r_v rfl) ai) (n_ (n:=n+7) h hr.toHR0 h1 h2)) ai)) (e.trans e2)))) e3
 rcases zW (sub:=sub) (n:=n) (S:=S) h hr.needs hr.barring hr.walks hl h4 (g:=g) ⟨by omega,by omega⟩ with⟨w,e,hb⟩|⟨e,hf⟩
 ·exact .inl ⟨w,pre e rfl (fT (Zm _) (bS _ _) (az _ _) (gu _)),hb⟩
 ·exact .inr ⟨pre e rfl (bN rfl Z4),hf⟩
end
end RL

namespace RL
open PySem EV GO WK
structure HC(P:Prg):Prop where
 up:Has P "rounded_up" f_rounded_up
 ringgap:Has P "ring_gap" f_ring_gap
 times:Has P "crew_times" f_crew_times
 barring:Has P "barring_crew" f_barring_crew
 crowd:Has P "crowd" f_crowd
 crewgap:Has P "crew_gap" f_crew_gap
section
variable{c:Sg->M Bool}{f:Sg->M Fl}{n:Nat}{σ σ':Sg}{S S1 S2:af}
theorem zH(hc:c σ S=.ok true S1)(hf:f σ S1=.ok (.nx σ') S2):bQ c f (n+1) σ S=bQ c f n σ' S2:=by
 show(c σ>>=λk=>if k=true then f σ>>=λfl=>match fl with|.nx σ'=>bQ c f n σ'|.ct σ'=>bQ c f n σ'|.bk σ'=>pure (.nx σ')|.rt d=>pure (.rt d) else pure (.nx σ)) S=_;rw[aq,hc,Res.aj,Zf rfl,aq,hf,Res.aj]
theorem z7(hc:c σ S=.ok false S1):bQ c f (n+1) σ S=.ok (.nx σ) S1:=by
 show(c σ>>=λk=>if k=true then f σ>>=λfl=>match fl with|.nx σ'=>bQ c f n σ'|.ct σ'=>bQ c f n σ'|.bk σ'=>pure (.nx σ')|.rt d=>pure (.rt d) else pure (.nx σ)) S=_;rw[aq,hc,Res.aj,Zh (by decide)]; rfl
end
section
variable{sub:Sub}{P:Prg}{n:Nat}{S T:af}{l:Lp}
end
end RL

namespace RL
open PySem EV GO WK
section
variable{sub:Sub}{P:Prg}{n:Nat}{S T:af}{l:Lp}
end
end RL

namespace RL
open PySem EV GO WK
theorem vR:∀u t:List Int,u.length=t.length->zpE u t=decide (u=t)
 | [],[],_=>rfl
 | [],_::_,h=>by cases h
 | _::_,[],h=>by cases h
 | a::r,b::q,h=>by
  have ih:=vR r q (by simpa using h);show((a==b)&&zpE r q)=_;rw[ih]
  by_cases e:a=b
  ·subst e;rw[Xi,X9]
   by_cases e2:r=q
   ·subst e2; rw[Zj rfl,Zj rfl]
   ·rw[Zt e2,Zt λz=>e2 (Qa z).2]
  ·rw[ZW.mpr e,XY,Zt λz=>e (Qa z).1]
noncomputable def turned(w:Wlk):Bool:=decide (w.map nB=(w.map nA).drop 1++(w.map nA).take 1)
noncomputable def once(w:Wlk):Bool:=decide (((dZ (w.map nA):Nat):Int)=((w.map nA).length:Int))
noncomputable def dg(w:Wlk):Bool:=!w.isEmpty&&(turned w&&once w)
section
variable{sub:Sub}{P:Prg}{n:Nat}{S T:af}{l:Lp}
theorem rf{a b:Nat}{xs ys:WU}(ha:T[a]?=some (.lst (xs.map .int)))(hb:T[b]?=some (.lst (ys.map .int)))(hl:xs.length=ys.length):cmD .eq (.loc a) (.loc b) T=.ok (.bl (decide (xs=ys))) T:=by
 rw[kR]
 have e:eqD deep T (.loc a) (.loc b)=some (decide (xs=ys)):=by
  show(match listAt T a,listAt T b with|some xs,some ys=>if xs.length=ys.length then bx (eqD 11 T) xs ys else some false|_,_=>none)=_;unfold listAt;rw[ha,hb];show(if(xs.map D.int).length=(ys.map D.int).length then bx (eqD 11 T) (xs.map .int) (ys.map .int) else some false)=_;rw[Zf (by rw[Zb,Zb]; exact hl),oh 10,vR _ _ hl]
 rw[e]
noncomputable def vG:E:=.or (.not (.bi (.inst .list) (.cs (.v 0) .nl))) (.not (.chn .le .le (.c (.int 1)) (.bi .len (.cs (.v 0) .nl)) (.c (.int 8))))
theorem uK{cf:Str->List D->M D}{m:Nat}{xs:Ya}{x1 x2 x3:Option D}(hm:S[m]?=some (.lst xs))(h8:xs.length<=8):evT sub cf vG [some (.loc m),x1,x2,x3] S=.ok xs.isEmpty S:=by
 refine b_ (S1:=S) (t_k (aW (cA (aH (aa (r_v rfl) ai) (cG (k:=true) (by show(match S[m]?,Ty.list with|_,.cls _=>none|some (.lst _),.list=>some true|some (.lst _),_=>some false|some (.dct _),_=>none|some (.fdc _),_=>none|none,_=>none)=_; rw[hm]))))) rfl) (t_k (aW (k:=!xs.isEmpty) ?_) (by rw[Bool.not_not]));rw[FP,r_c,Res.aj,aH (aa (r_v (i:=0) rfl) ai) (fG hm),Res.aj,iL,Res.aj]
 cases xs with
 | nil=>rfl
 | cons x r =>
  have h1:decide ((1:Int)<=((x::r).length:Int))=true:=Zj (by rw[Zy]; omega);rw[h1];show Res.bind (cmD .le (.int ((x::r).length:Int)) (.int 8) S) (λr S4=>truth r S4)=_;rw[iL,Res.aj,Zj (show(((x::r).length:Nat):Int)<=8 by omega)]; rfl
theorem wu{cf:Str->List D->M D}{σ:Sg}{i a:Nat}{A:WU}(ha:T[a]?=some (.lst (A.map .int)))(hv:∀T,bu σ i T=.ok (.loc a) T)(hz:A.length<=1000) :
  ∃T' k,ev sub cf (.bin .add (.sl (.v i) (.c (.int 1)) .nl) (.sl (.v i) .nl (.c (.int 1)))) σ T=.ok (.loc k) T'/\T<+:T'/\T'[k]?=some (.lst ((A.drop 1++A.take 1).map .int)):=by
 have s5:=jF (lo:=some 1) (hi:=none) ha;rw[Jf,<- List.map_drop] at s5;have p5:T<+:T++[Cell.lst ((A.drop 1).map D.int)]:=Zd _ _;have s6:=jF (lo:=none) (hi:=some 1) (aG p5 ha);rw[Cv,<- List.map_take] at s6;have s7:=jz (aG (Zd _ _) (az T (Cell.lst ((A.drop 1).map D.int)))) (az (T++[Cell.lst ((A.drop 1).map D.int)]) (Cell.lst ((A.take 1).map D.int))) (by rw[Zb,Zb,XE,Z3]; omega);rw[<- ZK] at s7;exact⟨_,_,bz (jC (r_v (hv _)) rfl rfl s5) (jC (r_v (hv _)) rfl rfl s6) s7,p5.trans ((Zd _ _).trans (Zd _ _)),az _ _⟩
theorem vA{w:Wlk}(h:w.isEmpty=false):(w.map nB).length=((w.map nA).drop 1++(w.map nA).take 1).length:=by
 cases w with
 | nil=>cases h
 | cons t r =>
  rw[Zn,XE,Z3,Zb,Zb,Zy];omega
theorem Jd(h:HB P)(hr:HR P)(hl:l.WF){w:Wlk}{k m:Nat}(hw:∀t∈w,t∈ay l)(h8:w.length<=8)(hk:S[k]?=some (.lst ((ay l).map tupI)))(hm:AtW S (w,m)):ah sub P (n+3) "is_ring" [.loc m,.loc k] S=.ok (.bl (dg w)) S:=by
 have hm:S[m]?=some (.lst (w.map tupI)):=hm;have hl8:=hl.nworks.2;have t1:=uK (sub:=sub) (cf:=ah sub P (n+2)) (x1:=some (.loc k)) (x2:=none) (x3:=none) hm (by rw[Zb]; exact h8)
 cases hw0:w.isEmpty with
 | true =>
  have e:w=[]:=List.isEmpty_iff.mp hw0;subst e;exact x_call (ds:=[.loc m,.loc k]) hr.isring rfl (bP (bA t1 (aE r_c))) (cB _ _)
 | false =>
  have t1:evT sub (ah sub P (n+2)) vG [some (.loc m),some (.loc k),none,none] S=.ok false S:=t_k t1 (by cases w with|nil=>cases hw0|cons _ _=>rfl)
  have e1:ev sub (ah sub P (n+2)) (.comp 2 (.call "is_need" (.cs (.v 5) (.cs (.v 1) .nl))) (.one 5) (.iSeq (.v 0)) .nl) [some (.loc m),some (.loc k),none,none] S=.ok (.loc S.length) (S++[.lst (w.map λ_=>.bl true)]) :=
   fS (ks:=w) (f:=tupI) (g:=λ_=>.bl true) (o:=some m) (raw:=w.map tupI) (bw (r_v rfl) (bZ hm)) (cL (.inr ⟨m,rfl,hm⟩)) (λt ht=>aB (aa (r_v rfl) (aa (r_v rfl) ai)) (EM h hr hk (hw t ht) (bX hl t (hw t ht)) hl8)) (by unfold aP; omega)
  have a1:=sM (sub:=sub) (T:=S) (xs:=w);have p2:S<+:S++[.lst (w.map λ_=>.bl true)]:=Zd _ _;generalize S++[.lst (w.map λ_=>.bl true)]=T2 at e1 a1 p2;have e2:=ee (sub:=sub) (cf:=ah sub P (n+2)) (σ:=[some (.loc m),some (.loc k),none,none]) (c:=0) (i:=5) (aG p2 hm) rfl (by omega) λt ht=>aC (r_v (i:=5) rfl) r_c (fq (bX hl t (hw t ht)))
  have p3:T2<+:T2++[Cell.lst ((w.map nA).map .int)]:=Zd _ _;have ha:(T2++[Cell.lst ((w.map nA).map .int)])[T2.length]?=some (.lst ((w.map nA).map .int)):=az _ _;generalize T2++[Cell.lst ((w.map nA).map .int)]=T3 at e2 p3 ha;have e3:=ee (sub:=sub) (cf:=ah sub P (n+2)) (σ:=[some (.loc m),some (.loc k),some (.loc T2.length),none]) (c:=0) (i:=5) (aG (p2.trans p3) hm) rfl (by omega) λt ht=>aC (r_v (i:=5) rfl) r_c (gJ (bX hl t (hw t ht)))
  have p4:T3<+:T3++[Cell.lst ((w.map nB).map .int)]:=Zd _ _;have hb:=az T3 (Cell.lst ((w.map nB).map .int));generalize T3++[Cell.lst ((w.map nB).map .int)]=T4 at e3 p4 hb;obtain⟨T5,c,e5,p5,g5⟩:=wu (sub:=sub) (cf:=ah sub P (n+2)) (σ:=[some (.loc m),some (.loc k),some (.loc T2.length),some (.loc T3.length)]) (i:=2) (aG p4 ha) (λ_=>rfl) (by rw[Zb]; omega);have a5:=aG (p4.trans p5) ha;have first:=aO (r_v (i:=3) rfl) e5 (rf (aG p5 hb) g5 (vA hw0));have z8:=fG (sub:=sub) a5;rw[Zb] at z8;have second:=aO (sub:=sub) (cf:=ah sub P (n+2)) (o:=.eq) (σ:=[some (.loc m),some (.loc k),some (.loc T2.length),some (.loc T3.length)]) (aH (aa (r_v (i:=2) rfl) ai) (Hl (sub:=sub) a5 (by rw[Zb]; omega))) (aH (aa (r_v (i:=2) rfl) ai) z8) (eO _ _ _);rw[Bool.beq_eq_decide_eq] at second
  have fin:ev sub (ah sub P (n+2)) (.and (.cmp .eq (.v 3) (.bin .add (.sl (.v 2) (.c (.int 1)) .nl) (.sl (.v 2) .nl (.c (.int 1))))) (.cmp .eq (.bi .lenS (.cs (.v 2) .nl)) (.bi .len (.cs (.v 2) .nl)))) [some (.loc m),some (.loc k),some (.loc T2.length),some (.loc T3.length)] T4=.ok (.bl (turned w&&once w)) T5:=by
   unfold turned
   cases ht:decide (w.map nB=(w.map nA).drop 1++(w.map nA).take 1) with
   | false=>rw[ht] at first; rw[XY]; exact iQ first
   | true=>rw[ht] at first; rw[X9]; exact c9 first second
  have hB:dg w=(turned w&&once w):=by unfold dg; rw[hw0]; rfl
  rw[hB];refine x_call (ds:=[.loc m,.loc k]) hr.isring rfl (ak (aK t1 aM) (ak (aK (t_k (aW (cA (aH (aa e1 ai) a1))) rfl) aM) (ak (aN e2) (ak (aN e3) (aE fin))))) (bN rfl ?_);obtain⟨G,rfl⟩:=p2.trans (p3.trans (p4.trans p5));exact bS _ _
theorem qg(h:HB P)(hr:HR P)(hl:l.WF)(h4:l.works.length<=4){g:Int}(hg:1<=g/\g<=200){w:Wlk}{m:Nat}(hw:∀t∈w,t∈ay l)(h8:w.length<=8)(hm:AtW S (w,m)):ah sub P (n+9) "is_bar" [l.toD,.int g,.loc m] S=.ok (.bl (dg w&&decide (0<wt (aY l) g w))) S:=by
 have e1:=lN (sub:=sub) (n:=n) (S:=S) h hr.needs hl (by omega);have pre:S<+:S++[.lst ((ay l).map tupI)]:=Zd _ _;have e2:=Jd (sub:=sub) (n:=n+5) h hr hl hw h8 (k:=S.length) (S:=S++[.lst ((ay l).map tupI)]) (az _ _) (hm.pre pre);have e3:=kN (sub:=sub) (n:=n+6) hr.walks (g:=g) ⟨by omega,by omega⟩ (hm.pre pre) (λt ht=>bX hl t (hw t ht)) (by omega);have second:=aO (sub:=sub) (cf:=ah sub P (n+8)) (o:=.gt) (σ:=[some l.toD,some (.int g),some (.loc m),some (.loc S.length)]) (aB (aa (r_v (i:=0) rfl) (aa (r_v (i:=1) rfl) (aa (r_v (i:=2) rfl) ai))) e3) (r_c (d:=.int 0)) (iK _ _ _)
 have fin:ev sub (ah sub P (n+8)) (.and (.call "is_ring" (.cs (.v 2) (.cs (.v 3) .nl))) (.cmp .gt (.call "surplus" (.cs (.v 0) (.cs (.v 1) (.cs (.v 2) .nl)))) (.c (.int 0)))) [some l.toD,some (.int g),some (.loc m),some (.loc S.length)] (S++[.lst ((ay l).map tupI)])=.ok (.bl (dg w&&decide (0<wt (aY l) g w))) (S++[.lst ((ay l).map tupI)]):=by
  have first:=aB (sub:=sub) (cf:=ah sub P (n+8)) (σ:=[some l.toD,some (.int g),some (.loc m),some (.loc S.length)]) (aa (r_v (i:=2) rfl) (aa (r_v (i:=3) rfl) ai)) e2
  cases hb:dg w with
  | false=>rw[hb] at first; rw[XY]; exact iQ first
  | true=>rw[hb] at first; rw[X9]; exact c9 first second
 exact x_call (ds:=[l.toD,.int g,.loc m]) hr.isbar rfl (ak (aN (aB (aa (r_v rfl) ai) e1)) (ak (fk (aB (aa (r_v rfl) ai) (n_ h hr.toHR0 hg.1 (by omega)))) (aE fin))) (dJ _ _ _)
end
end RL

namespace RL
open PySem EV GO WK
section
variable{sub:Sub}{P:Prg}{n:Nat}{S T:af}{l:Lp}
theorem rB(hr:HR P){d e:D}(hd:ff sub S d .list=some false):ah sub P (n+1) "is_ring" [d,e] S=.ok (.bl false) S :=
 x_call (ds:=[d,e]) hr.isring rfl (bP (bA (iN (t_k (aW (cA (aH (aa (r_v rfl) ai) (cG hd)))) rfl)) (aE r_c))) (cB _ _)
theorem Bb(h:HB P)(hr:HR P){e:D}:ah sub P (n+2) "is_need" [.non,e] S=.ok (.bl false) S:=by
 have e1:ah sub P (n+1) "is_row" [.non,.int 3,.int 3] S=.ok (.bl false) S:=x_call (ds:=[.non,.int 3,.int 3]) h.row rfl (aE (iQ (aH (aa (r_v rfl) ai) (cG rfl)))) (cB _ _);exact x_call (ds:=[.non,e]) hr.isneed rfl (aE (iQ (aB (aa (r_v rfl) (aa r_c (aa r_c ai))) e1))) (cB _ _)
theorem zw(h:HB P)(hr:HR P){m:Nat}{e:D}(hm:S[m]?=some (.lst [.non])):ah sub P (n+3) "is_ring" [.loc m,e] S=.ok (.bl false) S:=by
 have t1:=uK (sub:=sub) (cf:=ah sub P (n+2)) (x1:=some e) (x2:=none) (x3:=none) hm (by decide)
 have e1:ev sub (ah sub P (n+2)) (.comp 2 (.call "is_need" (.cs (.v 5) (.cs (.v 1) .nl))) (.one 5) (.iSeq (.v 0)) .nl) [some (.loc m),some e,none,none] S=.ok (.loc S.length) (S++[.lst [.bl false]]) :=
  fS (ks:=[()]) (f:=λ_=>D.non) (g:=λ_=>.bl false) (o:=some m) (raw:=[.non]) (bw (r_v rfl) (bZ hm)) (cL (.inr ⟨m,rfl,hm⟩)) (λt ht=>aB (aa (r_v rfl) (aa (r_v rfl) ai)) (Bb h hr)) (by decide)
 have a1:biD sub .all [.loc S.length] (S++[.lst [.bl false]])=.ok (.bl false) (S++[.lst [.bl false]]):=by rw[mW,bT (az _ _)]; rfl
 exact x_call (ds:=[.loc m,e]) hr.isring rfl (ak (aK t1 aM) (bP (bA (t_k (aW (cA (aH (aa e1 ai) a1))) rfl) (aE r_c)))) (dJ _ _ _)
theorem mE(h:HB P)(hr:HR P)(hl:l.WF)(h4:l.works.length<=4){g:Int}(hg:1<=g/\g<=200){d:D}(hd:ah sub P (n+8) "is_ring" [d,.loc S.length] (S++[.lst ((ay l).map tupI)])=.ok (.bl false) (S++[.lst ((ay l).map tupI)])):ah sub P (n+9) "is_bar" [l.toD,.int g,d] S=.ok (.bl false) S:=by
 have e1:=lN (sub:=sub) (n:=n) (S:=S) h hr.needs hl (by omega);exact x_call (ds:=[l.toD,.int g,d]) hr.isbar rfl (ak (aN (aB (aa (r_v rfl) ai) e1)) (ak (fk (aB (aa (r_v rfl) ai) (n_ h hr.toHR0 hg.1 (by omega)))) (aE (iQ (aB (aa (r_v rfl) (aa (r_v rfl) ai)) hd))))) (dJ _ _ _)
theorem FY(h:HB P)(hr:HR P)(hl:l.WF)(h4:l.works.length<=4){g:Int}(hg:1<=g/\g<=200){ds:Ya}:ah sub P (n+9) "is_bar" [l.toD,.int g,.tup ds] S=.ok (.bl false) S:=mE h hr hl h4 hg (rB (n:=n+7) hr rfl)
theorem Ja(h:HB P)(hr:HR P)(hl:l.WF)(h4:l.works.length<=4){g:Int}(hg:1<=g/\g<=200):ah sub P (n+9) "is_bar" [l.toD,.int g,.non] S=.ok (.bl false) S:=mE h hr hl h4 hg (rB (n:=n+7) hr rfl)
theorem Ff(h:HB P)(hr:HR P)(hl:l.WF)(h4:l.works.length<=4){g:Int}(hg:1<=g/\g<=200){m:Nat}(hm:S[m]?=some (.lst [.non])):ah sub P (n+9) "is_bar" [l.toD,.int g,.loc m] S=.ok (.bl false) S:=mE h hr hl h4 hg (zw (n:=n+5) h hr (aG (Zd _ _) hm))
end
end RL

namespace RL
open PySem EV GO WK
noncomputable def ue:Fn:=⟨3,6,(.seq (.set (.one 3) (.bin .mod (.bin .fdiv (.v 2) (.c (.int 9))) (.bi .len (.cs (.v 1) .nl))))
 (.seq (.set (.one 4) (.lst (.cs (.bin .add (.sl (.v 1) .nl (.v 3)) (.sl (.v 1) (.bin .add (.v 3) (.c (.int 1))) .nl)) (.cs (.bin .add (.v 1) (.lst (.cs (.ix (.v 1) (.v 3)) .nl))) (.cs (.bi .rev (.cs (.v 1) .nl)) (.cs (.bin .add (.sl (.v 1) (.v 3) .nl) (.sl (.v 1) .nl (.v 3))) (.cs (.bi .tuple (.cs (.v 1) .nl)) (.cs (.c .non) (.cs (.lst (.cs (.c .non) .nl)) .nl)))))))))
 (.seq (.set (.one 5) (.call "_law_needs" (.cs (.v 0) .nl)))
 (.ret (.ix (.bin .add (.v 4) (.lst (.cs (.lst (.cs (.ix (.v 5) (.bin .mod (.v 3) (.bi .len (.cs (.v 5) .nl)))) .nl)) (.cs (.bin .add (.v 1) (.v 1)) .nl)))) (.bin .mod (.v 2) (.c (.int 9))))))))⟩
theorem r_(xs:Ya){a:Nat}:cut xs none (some (a:Int))=xs.take a:=by
 unfold cut sIx;simp only[show ¬((a:Int)<0) by omega,ZM,Z5,Wt,List.drop_zero]
 by_cases h:a<=xs.length
 ·rw[Wx h]
 ·rw[Wl (by omega),Z4,Qh (by omega)]
theorem tN(xs:Ya){a:Nat}:cut xs (some (a:Int)) none=xs.drop a:=by
 unfold cut sIx;simp only[show ¬((a:Int)<0) by omega,ZM,Z5]
 by_cases h:a<=xs.length
 ·rw[Wx h,Qh (by rw[XE]; exact Zm _)]
 ·rw[Wl (by omega),List.drop_length,Wh (by omega)]; simp
section
variable{sub:Sub}{cf:Str->List D->M D}{σ:Sg}{S:af}
def bh(sub:Sub)(cf:Str->List D->M D)(σ:Sg)(S:af)(e:E)(w:Wlk):Prop:=∀T,S<+:T->∃T' k,ev sub cf e σ T=.ok (.loc k) T'/\T<+:T'/\AtW T' (w,k)
theorem bh.cat{a b:E}{u v:Wlk}(ha:bh sub cf σ S a u)(hb:bh sub cf σ S b v)(hz:u.length+v.length<=1000):bh sub cf σ S (.bin .add a b) (u++v):=λT hT=>by
 obtain⟨T1,k1,e1,p1,a1⟩:=ha T hT;obtain⟨T2,k2,e2,p2,a2⟩:=hb T1 (hT.trans p1);refine⟨_,_,bz e1 e2 (jz (xs:=u.map tupI) (ys:=v.map tupI) (a1.pre p2) a2 (by rw[Zb,Zb]; omega)),(p1.trans p2).trans (Zd _ _),?_⟩;show _[_]?=some (Cell.lst ((u++v).map tupI));rw[az,ZK]
theorem bh.here{a:E}{m:Nat}{w:Wlk}(hm:AtW S (w,m))(ha:∀T,ev sub cf a σ T=.ok (.loc m) T):bh sub cf σ S a w:=λT hT=>⟨T,m,ha T,ZQ _,hm.pre hT⟩
theorem bh.to{a i:E}{m k:Nat}{w:Wlk}(hm:AtW S (w,m))(ha:∀T,ev sub cf a σ T=.ok (.loc m) T)(hi:∀T,fP sub cf σ i T=.ok (some (k:Int)) T):bh sub cf σ S (.sl a .nl i) (w.take k):=λT hT=>by
 have:=jF (lo:=none) (hi:=some (k:Int)) (show T[m]?=some _ from hm.pre hT);rw[r_,<- List.map_take] at this;exact⟨_,_,jC (ha T) rfl (hi T) this,Zd _ _,az _ _⟩
theorem bh.drop{a i:E}{m k:Nat}{w:Wlk}(hm:AtW S (w,m))(ha:∀T,ev sub cf a σ T=.ok (.loc m) T)(hi:∀T,fP sub cf σ i T=.ok (some (k:Int)) T):bh sub cf σ S (.sl a i .nl) (w.drop k):=λT hT=>by
 have:=jF (lo:=some (k:Int)) (hi:=none) (show T[m]?=some _ from hm.pre hT);rw[tN,<- List.map_drop] at this;exact⟨_,_,jC (ha T) (hi T) rfl this,Zd _ _,az _ _⟩
theorem bh.one{a i:E}{m k:Nat}{w:Wlk}{t:Nd}(hm:AtW S (w,m))(hk:w[k]?=some t)(ha:∀T,ev sub cf a σ T=.ok (.loc m) T)(hi:∀T,ev sub cf i σ T=.ok (.int (k:Int)) T):bh sub cf σ S (.lst (.cs (.ix a i) .nl)) [t]:=λT hT =>
 ⟨_,_,br (aa (aC (ha T) (hi T) (ez (show T[m]?=some _ from hm.pre hT) (ji (by rw[ZL,hk]; rfl)))) ai) rfl,Zd _ _,az _ _⟩
theorem bh.rev{a:E}{m:Nat}{w:Wlk}(hm:AtW S (w,m))(ha:∀T,ev sub cf a σ T=.ok (.loc m) T):bh sub cf σ S (.bi .rev (.cs a .nl)) w.reverse:=λT hT=>by
 have hm':T[m]?=some (.lst (w.map tupI)):=hm.pre hT
 have e:biD sub .rev [.loc m] T=.ok (.loc T.length) (T++[.lst (w.reverse.map tupI)]):=by
  show(bG (.loc m)>>=λds=>alloc (.lst ds.reverse)) T=_;have e0:bG (.loc m) T=.ok (w.map tupI) T:=bT hm';rw[aq,e0,Res.aj,List.map_reverse]; rfl
 exact⟨_,_,aH (aa (ha T) ai) e,Zd _ _,az _ _⟩
end
def Thing(l:Lp)(T:af)(d:D):Prop:=(∃w k,d=.loc k/\AtW T (w,k)/\(∀t∈w,t∈ay l)/\w.length<=8)\/(∃w:Wlk,d=.tup (w.map tupI))\/d=.non\/∃k,d=.loc k/\T[k]?=some (.lst [.non])
section
variable{sub:Sub}{P:Prg}{n:Nat}{S T:af}{l:Lp}
theorem pW{k:Nat}{ds:Ya}(hp:S<+:T)(hk:T[k]?=some (.lst ds))(hc:D.lows 0 ds=true):∃k' T',leave S (.loc k) T=.ok (.loc k') T'/\S<+:T'/\T'[k']?=some (.lst ds):=by
 have ht:T.take S.length=S:=by obtain⟨G,rfl⟩:=hp; exact bS _ _
 by_cases h:k<S.length
 ·refine⟨k,S,?_,ZQ _,?_⟩
  ·unfold leave;rw[Zf ht,Zf (show D.low S.length (.loc k)=true from Zj h)]
  ·obtain⟨G,rfl⟩:=hp;rw[ZC h] at hk; exact hk
 ·exact⟨S.length,S++[.lst ds],fT (by omega) ht hk hc,Zd _ _,az _ _⟩
theorem C3{d:D}(hp:S<+:T)(h:Thing l T d):∃d' T',leave S d T=.ok d' T'/\S<+:T'/\Thing l T' d':=by
 have ht:T.take S.length=S:=by obtain⟨G,rfl⟩:=hp; exact bS _ _
 rcases h with⟨w,k,rfl,a,b,c⟩|⟨w,rfl⟩|rfl|⟨k,rfl,a⟩
 ·obtain⟨k',T',e,p,g⟩:=pW hp a (gu w);exact⟨_,T',e,p,.inl ⟨w,k',rfl,g,b,c⟩⟩
 ·exact⟨_,S,bN (gu w) ht,ZQ _,.inr (.inl ⟨w,rfl⟩)⟩
 ·exact⟨_,S,bN rfl ht,ZQ _,.inr (.inr (.inl rfl))⟩
 ·obtain⟨k',T',e,p,g⟩:=pW hp a rfl;exact⟨_,T',e,p,.inr (.inr (.inr ⟨k',rfl,g⟩))⟩
theorem Thing.pre{T':af}{d:D}(h:Thing l T d)(p:T<+:T'):Thing l T' d:=by
 rcases h with⟨w,k,e,a,b⟩|h|h|⟨k,e,a⟩
 ·exact .inl ⟨w,k,e,a.pre p,b⟩
 ·exact .inr (.inl h)
 ·exact .inr (.inr (.inl h))
 ·exact .inr (.inr (.inr ⟨k,e,aG p a⟩))
theorem FT(hd:Has P "_law_needs" fX)(hs:Has P "_law_spoilt" ue)(hl:l.WF)(h4:l.works.length<=4){w:Wlk}{m c:Nat}(hm:AtW S (w,m))(hw:w≠[])(hst:∀t∈w,t∈ay l)(h5:w.length<=4) :
  ∃d T',ah sub P (n+2) "_law_spoilt" [l.toD,.loc m,.int (c:Int)] S=.ok d T'/\S<+:T'/\Thing l T' d:=by
 have hw0:0<w.length:=WA.mpr hw;have hm0:S[m]?=some (.lst (w.map tupI)):=hm;obtain⟨a,ha⟩:∃a,a=c/9%w.length:=⟨_,rfl⟩
 have hal:a<w.length:=by rw[ha]; exact QD _ hw0
 have hcast:(c:Int)/9%(w.length:Int)=(a:Int):=by rw[ha,Int.natCast_emod,Int.natCast_ediv]; rfl
 have e3:ev sub (ah sub P (n+1)) (.bin .mod (.bin .fdiv (.v 2) (.c (.int 9))) (.bi .len (.cs (.v 1) .nl))) [some l.toD,some (.loc m),some (.int (c:Int)),none,none,none] S=.ok (.int (a:Int)) S:=by
  have:=bz (sub:=sub) (cf:=ah sub P (n+1)) (o:=.mod) (σ:=[some l.toD,some (.loc m),some (.int (c:Int)),none,none,none]) (S:=S) (bz (o:=.fdiv) (r_v (i:=2) rfl) (r_c (d:=.int 9)) (vf ⟨by decide,by decide⟩)) (aH (aa (r_v (i:=1) rfl) ai) (fG hm0)) (gb (by rw[Zb]; omega));rw[Zb,hcast] at this;exact this
 have v1:∀(x4 x5:Option D) (T:af),ev sub (ah sub P (n+1)) (.v 1) [some l.toD,some (.loc m),some (.int (c:Int)),some (.int (a:Int)),x4,x5] T=.ok (.loc m) T:=λ_ _ _=>r_v rfl
 have v3:∀(x4 x5:Option D) (T:af),ev sub (ah sub P (n+1)) (.v 3) [some l.toD,some (.loc m),some (.int (c:Int)),some (.int (a:Int)),x4,x5] T=.ok (.int (a:Int)) T:=λ_ _ _=>r_v rfl
 obtain⟨T1,k1,f1,p1,a1⟩:=(bh.cat (bh.to hm (v1 none none) (i:=.v 3) (k:=a) λT=>rfl) (bh.drop hm (v1 none none) (i:=.bin .add (.v 3) (.c (.int 1))) (k:=a+1) λT=>rfl) (by rw[Z3,XE]; omega)) S (ZQ _);obtain⟨T2,k2,f2,p2,a2⟩:=(bh.cat (bh.here hm (v1 none none)) (bh.one hm (Ze hal) (v1 none none) (v3 none none)) (by rw[Xv]; omega)) T1 p1;obtain⟨T3,k3,f3,p3,a3⟩:=(bh.rev hm (v1 none none)) T2 (p1.trans p2);obtain⟨T4,k4,f4,p4,a4⟩:=(bh.cat (bh.drop hm (v1 none none) (i:=.v 3) (k:=a) λT=>rfl) (bh.to hm (v1 none none) (i:=.v 3) (k:=a) λT=>rfl) (by rw[Z3,XE]; omega)) T3 (p1.trans (p2.trans p3));have pS4:S<+:T4:=p1.trans (p2.trans (p3.trans p4));have f5:=aH (sub:=sub) (cf:=ah sub P (n+1)) (aa (v1 none none T4) ai) (eS (aG pS4 hm0));have f7:=br (sub:=sub) (cf:=ah sub P (n+1)) (σ:=[some l.toD,some (.loc m),some (.int (c:Int)),some (.int (a:Int)),none,none]) (S:=T4) (aa (r_c (d:=.non)) ai) rfl;have f:=br (aa f1 (aa f2 (aa f3 (aa f4 (aa f5 (aa (r_c (d:=.non)) (aa f7 ai))))))) rfl;have p45:T4<+:T4++[.lst [.non]]:=Zd _ _;generalize hT5:T4++[Cell.lst [D.non]]=T5 at f p45;have g7:T5[T4.length]?=some (.lst [.non]):=by rw[<- hT5]; exact az _ _
 have p56:T5<+:T5++[.lst [.loc k1,.loc k2,.loc k3,.loc k4,.tup (w.map tupI),.non,.loc T4.length]]:=Zd _ _;have g4:(T5++[Cell.lst [.loc k1,.loc k2,.loc k3,.loc k4,.tup (w.map tupI),.non,.loc T4.length]])[T5.length]?=some (.lst [.loc k1,.loc k2,.loc k3,.loc k4,.tup (w.map tupI),.non,.loc T4.length]):=az _ _
 have f:ev sub (ah sub P (n+1)) (.lst (.cs (.bin .add (.sl (.v 1) .nl (.v 3)) (.sl (.v 1) (.bin .add (.v 3) (.c (.int 1))) .nl)) (.cs (.bin .add (.v 1) (.lst (.cs (.ix (.v 1) (.v 3)) .nl))) (.cs (.bi .rev (.cs (.v 1) .nl)) (.cs (.bin .add (.sl (.v 1) (.v 3) .nl) (.sl (.v 1) .nl (.v 3))) (.cs (.bi .tuple (.cs (.v 1) .nl)) (.cs (.c .non) (.cs (.lst (.cs (.c .non) .nl)) .nl))))))))
   [some l.toD,some (.loc m),some (.int (c:Int)),some (.int (a:Int)),none,none] S=.ok (.loc T5.length) (T5++[.lst [.loc k1,.loc k2,.loc k3,.loc k4,.tup (w.map tupI),.non,.loc T4.length]]):=f
 generalize hT6:T5++[Cell.lst [.loc k1,.loc k2,.loc k3,.loc k4,.tup (w.map tupI),.non,.loc T4.length]]=T6 at f p56 g4;have eN:=lA (sub:=sub) (n:=n) (S:=T6) hd hl (by omega);have p67:T6<+:T6++[.lst ((ay l).map tupI)]:=Zd _ _;have gN:(T6++[Cell.lst ((ay l).map tupI)])[T6.length]?=some (.lst ((ay l).map tupI)):=az _ _;have eN:ah sub P (n+1) "_law_needs" [l.toD] T6=.ok (.loc T6.length) (T6++[.lst ((ay l).map tupI)]):=eN;generalize hT7:T6++[Cell.lst ((ay l).map tupI)]=T7 at eN p67 gN;have pS7:S<+:T7:=pS4.trans (p45.trans (p56.trans p67))
 have hsl:0<(ay l).length:=by
  obtain⟨t,r,e⟩:=Qs hw;exact List.length_pos_of_mem (hst t (by rw[e]; exact Zo))
 have hq:a%(ay l).length<(ay l).length:=QD _ hsl
 have em:ev sub (ah sub P (n+1)) (.bin .mod (.v 3) (.bi .len (.cs (.v 5) .nl))) [some l.toD,some (.loc m),some (.int (c:Int)),some (.int (a:Int)),some (.loc T5.length),some (.loc T6.length)] T7=.ok (.int ((a%(ay l).length:Nat):Int)) T7:=by
  have:=bz (sub:=sub) (cf:=ah sub P (n+1)) (o:=.mod) (σ:=[some l.toD,some (.loc m),some (.int (c:Int)),some (.int (a:Int)),some (.loc T5.length),some (.loc T6.length)]) (S:=T7) (r_v (i:=3) rfl) (aH (aa (r_v (i:=5) rfl) ai) (fG gN)) (gb (by rw[Zb]; omega));rw[Zb,<- Int.natCast_emod] at this;exact this
 have f8:=br (aa (aC (r_v (i:=5) rfl) em (ez gN (ji (by rw[ZL,Ze hq]; rfl)))) ai) rfl;have g8:(T7++[Cell.lst [tupI (ay l)[a%(ay l).length]]])[T7.length]?=some (.lst [tupI (ay l)[a%(ay l).length]]):=az _ _;have p78:T7<+:T7++[.lst [tupI (ay l)[a%(ay l).length]]]:=Zd _ _;generalize hT8:T7++[Cell.lst [tupI (ay l)[a%(ay l).length]]]=T8 at f8 g8 p78;obtain⟨T9,k9,f9,p9,a9⟩:=(bh.cat (bh.here hm (v1 (some (.loc T5.length)) (some (.loc T6.length)))) (bh.here hm (v1 (some (.loc T5.length)) (some (.loc T6.length)))) (by omega)) T8 (pS7.trans p78);have f10:=br (aa f8 (aa f9 ai)) rfl;have p910:T9<+:T9++[.lst [.loc T7.length,.loc k9]]:=Zd _ _;have pS10:T6<+:T9++[.lst [.loc T7.length,.loc k9]]:=p67.trans (p78.trans (p9.trans p910));have ct:=jz (aG pS10 g4) (az T9 (.lst [.loc T7.length,.loc k9])) (by simp only[Zy,Xh]; omega);generalize hT10:T9++[Cell.lst [.loc T7.length,.loc k9]]=T10 at f10 ct p910 pS10;have pend:T10<+:T10++[.lst ([.loc k1,.loc k2,.loc k3,.loc k4,.tup (w.map tupI),.non,.loc T4.length]++[.loc T7.length,.loc k9])]:=Zd _ _
 have pick:∃d,([.loc k1,.loc k2,.loc k3,.loc k4,.tup (w.map tupI),.non,.loc T4.length]++[.loc T7.length,.loc k9])[c%9]?=some d/\Thing l (T10++[.lst ([.loc k1,.loc k2,.loc k3,.loc k4,.tup (w.map tupI),.non,.loc T4.length]++[.loc T7.length,.loc k9])]) d:=by
  have p410:T4<+:T10++[.lst ([.loc k1,.loc k2,.loc k3,.loc k4,.tup (w.map tupI),.non,.loc T4.length]++[.loc T7.length,.loc k9])]:=p45.trans (p56.trans (pS10.trans pend));have h9:c%9<9:=QD _ (by decide);generalize c%9=i at h9
  match i,h9 with
  | 0,_=>exact⟨_,rfl,.inl ⟨_,k1,rfl,a1.pre (p2.trans (p3.trans (p4.trans p410))),λt ht=>by
    rcases ZB.mp ht with z|z
    ·exact hst t (X6 z)
    ·exact hst t (List.mem_of_mem_drop z),by rw[Zn,Z3,XE]; omega⟩⟩
  | 1,_=>exact⟨_,rfl,.inl ⟨_,k2,rfl,a2.pre (p3.trans (p4.trans p410)),λt ht=>by
    rcases ZB.mp ht with z|z
    ·exact hst t z
    ·rw[ZH.mp z]; exact hst _ (Xj hal),by rw[Zn,Xv]; omega⟩⟩
  | 2,_=>exact⟨_,rfl,.inl ⟨_,k3,rfl,a3.pre (p4.trans p410),λt ht=>hst t (List.mem_reverse.mp ht),by rw[Qc]; omega⟩⟩
  | 3,_=>exact⟨_,rfl,.inl ⟨_,k4,rfl,a4.pre p410,λt ht=>by
    rcases ZB.mp ht with z|z
    ·exact hst t (List.mem_of_mem_drop z)
    ·exact hst t (X6 z),by rw[Zn,Z3,XE]; omega⟩⟩
  | 4,_=>exact⟨_,rfl,.inr (.inl ⟨w,rfl⟩)⟩
  | 5,_=>exact⟨_,rfl,.inr (.inr (.inl rfl))⟩
  | 6,_=>exact⟨_,rfl,.inr (.inr (.inr ⟨T4.length,rfl,aG (p56.trans (pS10.trans pend)) g7⟩))⟩
  | 7,_=>exact⟨_,rfl,.inl ⟨[(ay l)[a%(ay l).length]],T7.length,rfl,aG (p9.trans (p910.trans pend)) g8,λt ht=>by rw[ZH.mp ht]; exact Xj hq,by simp only[Zy,Xh]; omega⟩⟩
  | 8,_=>exact⟨_,rfl,.inl ⟨w++w,k9,rfl,a9.pre (p910.trans pend),λt ht=>by
    rcases ZB.mp ht with z|z
    ·exact hst t z
    ·exact hst t z,by rw[Zn]; omega⟩⟩
  | i+9,h=>omega
 obtain⟨d,hd9,th⟩:=pick;have pSe:S<+:T10++[.lst ([.loc k1,.loc k2,.loc k3,.loc k4,.tup (w.map tupI),.non,.loc T4.length]++[.loc T7.length,.loc k9])]:=pS4.trans (p45.trans (p56.trans (pS10.trans pend)));obtain⟨d',T',el,pl,th'⟩:=C3 pSe th
 have ix:ixD (.loc T10.length) (.int ((c:Int)%9)) (T10++[.lst ([.loc k1,.loc k2,.loc k3,.loc k4,.tup (w.map tupI),.non,.loc T4.length]++[.loc T7.length,.loc k9])])=.ok d (T10++[.lst ([.loc k1,.loc k2,.loc k3,.loc k4,.tup (w.map tupI),.non,.loc T4.length]++[.loc T7.length,.loc k9])]):=vX (by
  rw[show(c:Int)%9=((c%9:Nat):Int) by rw[Int.natCast_emod]; rfl];exact ji hd9)
 exact⟨d',T',x_call (ds:=[l.toD,.loc m,.int (c:Int)]) hs rfl (ak (aN e3) (ak (aN f) (ak (aN (aB (aa (r_v rfl) ai) eN)) (aE (aC (bz (r_v rfl) f10 ct) (bz (r_v rfl) r_c (gb (by decide))) ix))))) el,pl,th'⟩
end
end RL

namespace RL
open PySem EV GO WK
noncomputable def kM:Fn:=⟨1,4,(.seq (.set (.one 1) (.lst .nl))
 (.seq (.set (.one 2) (.comp 2 (.lst (.cs (.v 5) .nl)) (.one 5) (.iSeq (.call "_law_needs" (.cs (.v 0) .nl))) .nl))
 (.seq (.whl (.cmp .ne (.v 2) (.lst .nl))
  (.seq (.set (.one 3) (.pop (.v 2)))
 (.ite (.cmp .eq (.ix (.ix (.v 3) (.neg (.c (.int 1)))) (.c (.int 1))) (.ix (.ix (.v 3) (.c (.int 0))) (.c (.int 0))))
  (.ex (.me .append (.v 1) (.cs (.v 3) .nl)))
  (.ite (.and (.cmp .gt (.ix (.ix (.v 3) (.neg (.c (.int 1)))) (.c (.int 1))) (.ix (.ix (.v 3) (.c (.int 0))) (.c (.int 0)))) (.cmp .bK (.ix (.ix (.v 3) (.neg (.c (.int 1)))) (.c (.int 1))) (.comp 2 (.ix (.v 5) (.c (.int 0))) (.one 5) (.iSeq (.v 3)) .nl)))
  (.ex (.me .extend (.v 2) (.cs (.comp 2 (.bin .add (.v 3) (.lst (.cs (.v 5) .nl))) (.one 5) (.iSeq (.call "_law_needs" (.cs (.v 0) .nl))) (.cmp .eq (.ix (.v 5) (.c (.int 0))) (.ix (.ix (.v 3) (.neg (.c (.int 1)))) (.c (.int 1))))) .nl)))
  .skip))))
 (.ret (.v 1)))))⟩
noncomputable def cU:E:=.ix (.ix (.v 3) (.neg (.c (.int 1)))) (.c (.int 1))
noncomputable def fY:E:=.ix (.ix (.v 3) (.c (.int 0))) (.c (.int 0))
noncomputable def kD:E:=.comp 2 (.ix (.v 5) (.c (.int 0))) (.one 5) (.iSeq (.v 3)) .nl
noncomputable def uW:E:=.comp 2 (.bin .add (.v 3) (.lst (.cs (.v 5) .nl))) (.one 5) (.iSeq (.call "_law_needs" (.cs (.v 0) .nl))) (.cmp .eq (.ix (.v 5) (.c (.int 0))) cU)
noncomputable def lS:EV.S:=.seq (.set (.one 3) (.pop (.v 2)))
 (.ite (.cmp .eq cU fY)
  (.ex (.me .append (.v 1) (.cs (.v 3) .nl)))
  (.ite (.and (.cmp .gt cU fY) (.cmp .bK cU kD))
  (.ex (.me .extend (.v 2) (.cs uW .nl)))
  .skip))
theorem qF{S:af}(x:Int):∀xs:List Int,inL S (.int x) (xs.map .int)=some (decide (x∈xs))
 | []=>by simp[inL]
 | y::r=>by
  show(match eqD deep S (.int y) (.int x),inL S (.int x) (r.map .int) with|some a,some b=>some (a||b)|_,_=>none)=_;rw[qF x r];show some ((y==x)||decide (x∈r))=_;congr 1
  by_cases h:y=x
  ·subst h; simp
  ·rw[ZW.mpr h,Bool.false_or]
   by_cases q:x∈r
   ·rw[Zj q,Zj (Zr _ q)]
   ·rw[Zt q,Zt];intro z;rcases Zx.mp z with z|z
    ·exact h z.symm
    ·exact q z
section
variable{sub:Sub}{P:Prg}{n:Nat}{S T:af}{l:Lp}
theorem As{k:Nat}{xs:WU}{x:Int}(hk:T[k]?=some (.lst (xs.map .int))):cmD .bK (.int x) (.loc k) T=.ok (.bl (!decide (x∈xs))) T:=by
 show(items (.loc k)>>=λys=>inA true (.int x) ys) T=_;rw[aq,bT hk];simp only[Res.aj];unfold inA;rw[qF];show Res.ok (D.bl (decide (x∈xs)!=true)) T=_;cases decide (x∈xs)<;>rfl
theorem su{a b:Nat}{xs:Ya}(ha:T[a]?=some (.lst xs))(hb:T[b]?=some (.lst [])):cmD .ne (.loc a) (.loc b) T=.ok (.bl (!xs.isEmpty)) T:=by
 rw[tS,Zf (show eF (.loc a) (.loc b)=true from rfl)]
 have e:eqD deep T (.loc a) (.loc b)=some xs.isEmpty:=by
  show(match listAt T a,listAt T b with|some xs,some ys=>if xs.length=ys.length then bx (eqD 11 T) xs ys else some false|_,_=>none)=_;unfold listAt;rw[ha,hb]
  cases xs with
  | nil=>rfl
  | cons x r=>rfl
 rw[e]
theorem FU{k:Nat}{xs:Ya}{d:D}(h:T[k]?=some (.lst (xs++[d]))):iO (.loc k) T=.ok d (T.set k (.lst xs)):=by
 show bg k (λds=>match ds.getLast? with|some d=>λS=>.ok d (S.set k (.lst ds.dropLast))|none=>bad) T=_;unfold bg;rw[h];simp
theorem Bj{cf:Str->List D->M D}{σ:Sg}{a:E}{x:D}{S1:af}{R:Res D}(ha:ev sub cf a σ S=.ok x S1)(h:iO x S1=R):ev sub cf (.pop a) σ S=R:=by
 show(ev sub cf a σ>>=λx=>iO x) S=R;rw[aq,ha,Res.aj,h]
abbrev sg(l:Lp)(S:af)(W k:Nat):Sg:=[some l.toD,some (.loc S.length),some (.loc W),some (.loc k)]
structure fZ(l:Lp)(S T:af)(W:Nat)(Q R:List (Wlk×Nat)):Prop where
 keep:T.take S.length=S
 w:T[W]?=some (.lst (Q.map λq=>.loc q.2))
 f:T[S.length]?=some (.lst (R.map λq=>.loc q.2))
 wf:S.length<W
 at':∀q∈Q++R,AtW T q/\S.length<q.2/\q.2≠W
 seek:eg (ay l) (Q.map (·.1)) (R.map (·.1))
theorem F_(hl:l.WF){q:Wlk×Nat}(hr:Row (ay l) q.1)(h:AtW T q):cQ l T q/\q.1.length<=l.works.length:=by
 have hn:=λt ht=>bX hl t (hr.walk.mem t ht)
 have hlen:q.1.length<=l.works.length:=by
  have:=WK.short (n:=l.works.length) hr.nodup λx hx=>by
   obtain⟨t,ht,rfl⟩:=ZA.mp hx;obtain⟨_,h0,h1,_⟩:=lY (hn t ht);exact⟨h0,h1⟩
  rw[Zb] at this;exact this
 exact⟨⟨h,hr.walk.ne,hn,by have:=hl.nworks.2; omega⟩,hlen⟩
theorem take_set{T:af}{k:Nat}{c:Cell}(h:T.take S.length=S)(hk:S.length<=k):(T.set k c).take S.length=S:=by
 rw[List.take_set_of_le hk]; exact h
theorem kW{T T':af}(h:T.take S.length=S)(hl:S.length<=T.length)(p:T<+:T'):T'.take S.length=S:=by
 obtain⟨G,rfl⟩:=p;rw[List.take_append_of_le_length hl]; exact h
theorem get_set{T:af}{k:Nat}{c c0:Cell}(h:T[k]?=some c0):(T.set k c)[k]?=some c:=Xb (Zi.mp h).1
theorem GH(hd:Has P "_law_needs" fX)(hl:l.WF)(h4:l.works.length<=4){W:Nat}{Q R:List (Wlk×Nat)}{v:Wlk×Nat}{x3:Option D}(h:fZ l S T W (Q++[v]) R)(hz:(Q++[v]).length<=1000000)(hz2:R.length<=1000000) :
  ∃T' Q' R',exec sub (ah sub P (n+1)) lS [some l.toD,some (.loc S.length),some (.loc W),x3] T=.ok (.nx (sg l S W v.2)) T'/\fZ l S T' W Q' R'/\cost (Q'.map (·.1))<cost ((Q++[v]).map (·.1))/\R'.length<=R.length+1:=by
 obtain⟨keep,hw,hf,wf,hat,sk⟩:=h;rw[ZK] at hw sk;obtain⟨av,bv,cv⟩:=hat v (by simp);have hrow:Row (ay l) v.1:=sk.rows v.1 (by simp);have hSl:S.length<=T.length:=by have:=(Zi.mp hf).1; omega
 have pop:=Bj (sub:=sub) (cf:=ah sub P (n+1)) (σ:=[some l.toD,some (.loc S.length),some (.loc W),x3]) (a:=.v 2) (S:=T) (r_v rfl) (FU hw);have s1:=aN (i:=3) pop;generalize hT1:T.set W (.lst (Q.map λq=>.loc q.2))=T1 at s1;have hw1:T1[W]?=some (.lst (Q.map λq=>.loc q.2)):=by rw[<- hT1]; exact get_set hw
 have hf1:T1[S.length]?=some (.lst (R.map λq=>.loc q.2)):=by rw[<- hT1,ZX (by omega)]; exact hf
 have k1:T1.take S.length=S:=by rw[<- hT1]; exact take_set keep (by omega)
 have hl1:T1.length=T.length:=by rw[<- hT1,XR]
 have at1:∀q∈(Q++[v])++R,AtW T1 q/\S.length<q.2/\q.2≠W:=λq hq=>by
  obtain⟨a,b,c⟩:=hat q hq;rw[<- hT1];exact⟨ia a (Ne.symm c),b,c⟩
 obtain⟨gv,hlen⟩:=F_ hl hrow (at1 v (by simp)).1;have hvL:T1[v.2]?=some (.lst (v.1.map tupI)):=gv.at';obtain⟨t0,ht0,e0,a0⟩:=rV gv.ne;obtain⟨u0,_,hu0,eu,au⟩:=l7 gv.ne
 have σl:∀{U:af},T1<+:U->ev sub (ah sub P (n+1)) cU (sg l S W v.2) U=.ok (.int (lst v.1)) U:=λ{U} p=>by
  rw[eu]; exact aC (aC (r_v rfl) (iT r_c) (ez (aG p hvL) au)) r_c (gJ (gv.nd u0 hu0))
 have σf:ev sub (ah sub P (n+1)) fY (sg l S W v.2) T1=.ok (.int (fst v.1)) T1:=by
  rw[e0]; exact aC (aC (r_v rfl) r_c (ez hvL a0)) r_c (fq (gv.nd t0 ht0))
 have t1:evT sub (ah sub P (n+1)) (.cmp .eq cU fY) (sg l S W v.2) T1=.ok (lst v.1==fst v.1) T1:=aR (aO (σl (ZQ _)) σf (eO _ _ _));have cst:cost ((Q++[v]).map (·.1))=cost (Q.map (·.1))+cost [v.1]:=by rw[ZK,tO]; rfl
 have cpos:0<cost [v.1]:=by rw[pZ]; exact Nat.pow_pos (by decide)
 obtain⟨st1,st2,st3⟩:=sk.step
 by_cases hc:bR v.1
 ·have hb:(lst v.1==fst v.1)=true:=Q9.mpr (show lst v.1=fst v.1 from hc.symm);rw[hb] at t1;have ap:=lJ (l:=S.length) (d:=.loc v.2) hf1 (by rw[Zb]; unfold aP; omega);refine⟨_,Q,R++[v],ak s1 (bA t1 (fk (gg (l:=S.length) (r_v rfl) (aa (r_v rfl) ai) ap (gz hf1)))),⟨take_set k1 (Zm _),?_,?_,wf,λq hq=>?_,?_⟩,by rw[cst]; omega,by rw[Zn]; exact Zm _⟩
  ·rw[ZX (by omega)]; exact hw1
  ·rw[ZK]; exact get_set hf1
  ·have hq':q∈(Q++[v])++R:=by
    simp only[ZB,ZH] at hq ⊢;rcases hq with z|z|z
    ·exact .inl (.inl z)
    ·exact .inr z
    ·exact .inl (.inr z)
   obtain⟨a,b,c⟩:=at1 q hq';exact⟨ia a (by omega),b,c⟩
  ·rw[ZK]; exact st1 hc
 ·have hb:(lst v.1==fst v.1)=false:=ZW.mpr λe=>hc (show fst v.1=lst v.1 from e.symm)
  rw[hb] at t1;have t2:evT sub (ah sub P (n+1)) (.cmp .gt cU fY) (sg l S W v.2) T1=.ok (decide (fst v.1<lst v.1)) T1:=aR (aO (σl (ZQ _)) σf (iK _ _ _))
  have skip:∀{T2:af},T1<+:T2->dI v.1=false->evT sub (ah sub P (n+1)) (.and (.cmp .gt cU fY) (.cmp .bK cU kD)) (sg l S W v.2) T1=.ok false T2 ->
    ∃T' Q' R',exec sub (ah sub P (n+1)) lS [some l.toD,some (.loc S.length),some (.loc W),x3] T=.ok (.nx (sg l S W v.2)) T'/\fZ l S T' W Q' R'/\cost (Q'.map (·.1))<cost ((Q++[v]).map (·.1))/\R'.length<=R.length+1:=λ{T2} p hg ht =>
   ⟨T2,Q,R,ak s1 (aK t1 (aK ht aM)),⟨kW k1 (by omega) p,aG p hw1,aG p hf1,wf,λq hq=>by
    have hq':q∈(Q++[v])++R:=by
     simp only[ZB,ZH] at hq ⊢;rcases hq with z|z
     ·exact .inl (.inl z)
     ·exact .inr z
    obtain⟨a,b,c⟩:=at1 q hq';exact⟨a.pre p,b,c⟩,st3 hc hg⟩,by rw[cst]; omega,XU _⟩
  by_cases hlt:fst v.1<lst v.1
  ·rw[Zj hlt] at t2;have eA:ev sub (ah sub P (n+1)) kD (sg l S W v.2) T1=.ok (.loc T1.length) (T1++[.lst ((v.1.map nA).map .int)]):=ee hvL rfl gv.len λt ht=>aC (r_v rfl) r_c (fq (gv.nd t ht))
   have pA:T1<+:T1++[Cell.lst ((v.1.map nA).map .int)]:=Zd _ _
   have t3:evT sub (ah sub P (n+1)) (.and (.cmp .gt cU fY) (.cmp .bK cU kD)) (sg l S W v.2) T1=.ok (!decide (lst v.1∈v.1.map nA)) (T1++[Cell.lst ((v.1.map nA).map .int)]) :=
    eY t2 (aR (aO (σl (ZQ _)) eA (As (az _ _))))
   have hgo:dI v.1=!decide (lst v.1∈v.1.map nA):=by unfold dI; rw[Zj hlt,X9]
   cases hg:dI v.1 with
   | false =>
    rw[<- hgo,hg] at t3;exact skip pA hg t3
   | true =>
    rw[<- hgo,hg] at t3;generalize hT2:T1++[Cell.lst ((v.1.map nA).map .int)]=T2 at t3 pA;have gv2:=gv.pre pA;have eN:=lA (sub:=sub) (n:=n) (S:=T2) hd hl (by omega);have hst:=kq hl h4;have p3:T2<+:T2++[.lst ((ay l).map tupI)]:=Zd _ _
    have eX:∃(T':af) (X:List (Wlk×Nat)),ev sub (ah sub P (n+1)) uW (sg l S W v.2) T2=.ok (.loc T'.length) (T'++[.lst (X.map λq=>.loc q.2)])/\(T2++[.lst ((ay l).map tupI)])<+:T'/\X.map (·.1)=((ay l).filter (dh v.1)).map (λt=>v.1++[t])/\∀q∈X,AtW T' q/\(T2++[Cell.lst ((ay l).map tupI)]).length<=q.2:=by
     have key:=kY (sub:=sub) (cf:=ah sub P (n+1)) (σ:=(sg l S W v.2)) (S:=T2++[.lst ((ay l).map tupI)]) (k:=2) (i:=5) (el:=.bin .add (.v 3) (.lst (.cs (.v 5) .nl))) (it:=.iSeq (.c (.loc T2.length))) (tt:=.cmp .eq (.ix (.v 5) (.c (.int 0))) cU) (ks:=ay l) (f:=tupI) (p:=dh v.1) (h:=λt=>v.1++[t]) (o:=some T2.length) (raw:=(ay l).map tupI)
      (bw r_c (bZ (az _ _))) (λU hU=>cL (.inr ⟨_,rfl,aG hU (az _ _)⟩)) (λt ht U hU=>by
       show evT sub _ _ _ U=_;have hv':U[v.2]?=some (.lst (v.1.map tupI)):=aG (p3.trans hU) gv2.at';have:=aR (sub:=sub) (cf:=ah sub P (n+1)) (aO (o:=.eq) (σ:=[some l.toD,some (.loc S.length),some (.loc W),some (.loc v.2),none,some (tupI t)]) (S:=U) (aC (r_v (i:=5) rfl) r_c (fq (bX hl t ht))) (aC (aC (r_v (i:=3) rfl) (iT (r_c (d:=.int 1))) (ez hv' au)) (r_c (d:=.int 1)) (gJ (gv.nd u0 hu0))) (eO _ _ _));unfold dh;rw[eu];exact this) (λt ht _ U hU=>by
       have hv':U[v.2]?=some (.lst (v.1.map tupI)):=aG (p3.trans hU) gv2.at';have hv2:(U++[Cell.lst [tupI t]])[v.2]?=some (.lst (v.1.map tupI)):=aG (Zd _ _) hv';have hlen:=gv.len;have:=bz (sub:=sub) (cf:=ah sub P (n+1)) (o:=.add) (σ:=[some l.toD,some (.loc S.length),some (.loc W),some (.loc v.2),none,some (tupI t)]) (S:=U) (r_v (i:=3) rfl) (br (aa (r_v (i:=5) rfl) ai) rfl) (jz hv2 (az _ _) (by rw[Zb]; simp; omega));refine⟨_,_,this,(Zd _ _).trans (Zd _ _),?_,?_⟩
       ·exact Z2 hU.length_le (Zd _ _).length_le
       ·show _[_]?=some (Cell.lst ((v.1++[t]).map tupI));rw[az,ZK]; rfl) (by unfold aP; omega)
     obtain⟨T',X,e,r⟩:=key;refine⟨T',X,?_,r⟩;rw[d_,bw r_c (bZ (az _ _))] at e;show ev sub _ (.comp 2 _ (.one 5) (.iSeq (.call "_law_needs" (.cs (.v 0) .nl))) _) _ T2=_;rw[d_,bw (aB (aa (r_v rfl) ai) eN) (bZ (az _ _))];exact e
    obtain⟨T',X,eX,pX,mX,aX⟩:=eX;have p13:T1<+:T':=pA.trans (p3.trans pX);have hwE:(T'++[Cell.lst (X.map λq=>.loc q.2)])[W]?=some (.lst (Q.map λq=>.loc q.2)):=aG (p13.trans (Zd _ _)) hw1
    have xl:X.length<=12:=by
     have h1:=Xs List.length mX;rw[Zb,Zb] at h1;have:=Qp (dh v.1) (ay l);omega
    have ql:Q.length<=1000000:=by rw[Zn] at hz; simp at hz; omega
    have ex:=l_ (S:=T'++[Cell.lst (X.map λq=>.loc q.2)]) hwE (az _ _) (by rw[Zb,Zb]; unfold aP; omega);have T1len:=p13.length_le
    have mem:∀w,w∈X.map (·.1) ↔ ∃t∈ay l,nA t=lst v.1/\w=v.1++[t]:=λw=>by
     rw[mX,ZA];constructor
     ·rintro⟨t,ht,rfl⟩;obtain⟨h1,h2⟩:=Qm.mp ht;exact⟨t,h1,eq_of_beq h2,rfl⟩
     ·rintro⟨t,ht,e,rfl⟩;exact⟨t,Qm.mpr ⟨ht,Q9.mpr e⟩,rfl⟩
    refine⟨_,Q++X,R,ak s1 (aK t1 (bA t3 (fk (gg (l:=W) (r_v rfl) (aa eX ai) ex (gz (aG pA hw1)))))),⟨take_set (kW k1 (by omega) (p13.trans (Zd _ _))) (by omega),?_,?_,wf,λq hq=>?_,?_⟩,?_,XU _⟩
    ·rw[get_set hwE,ZK]
    ·rw[ZX (by omega)]; exact aG (p13.trans (Zd _ _)) hf1
    ·have old:q∈Q\/q∈R->AtW ((T'++[Cell.lst (X.map λq=>.loc q.2)]).set W (.lst (Q.map (λq=>.loc q.2)++X.map λq=>.loc q.2))) q/\S.length<q.2/\q.2≠W:=λhq=>by
      obtain⟨a,b,c⟩:=at1 q (by
       simp only[ZB,ZH];rcases hq with z|z
       ·exact .inl (.inl z)
       ·exact .inr z)
      exact⟨ia (a.pre (p13.trans (Zd _ _))) (Ne.symm c),b,c⟩
     rcases ZB.mp hq with hq|hq
     ·rcases ZB.mp hq with hq|hq
      ·exact old (.inl hq)
      ·obtain⟨a,b⟩:=aX q hq;have hW:W<T1.length:=(Zi.mp hw1).1;have h2:=pA.length_le;have h3:=p3.length_le;exact⟨ia (a.pre (Zd _ _)) (by omega),by omega,by omega⟩
     ·exact old (.inr hq)
    ·rw[ZK]; exact st2 hc hg _ mem
    ·rw[ZK,tO,cst]
     have:=HM (v:=v.1) (X:=X.map (·.1)) (by omega) (by rw[Zb]; exact xl) λu hu=>by
      obtain⟨t,_,_,rfl⟩:=(mem u).mp hu;rw[Zn]; rfl
     omega
  ·rw[Zt hlt] at t2;exact skip (ZQ _) (by unfold dI; rw[Zt hlt]; rfl) (gp t2)
end
end RL

namespace RL
open PySem EV GO WK
section
variable{sub:Sub}{P:Prg}{n:Nat}{S T:af}{l:Lp}
theorem qK:∀Q:List Wlk,Q.length<=cost Q
 | []=>Zm _
 | v::r=>by
  have h1:=qK r;have h2:0<13^(5-v.length):=Nat.pow_pos (by decide);show r.length+1<=13^(5-v.length)+cost r;omega
theorem wQ(hd:Has P "_law_needs" fX)(hl:l.WF)(h4:l.works.length<=4){W:Nat}:∀(k N:Nat) (Q R:List (Wlk×Nat)) (T:af) (x3:Option D),cost (Q.map (·.1))<=k->k<N->R.length+k<=500000->fZ l S T W Q R ->
  ∃T' R' x3',bQ (evT sub (ah sub P (n+1)) (.cmp .ne (.v 2) (.lst .nl))) (exec sub (ah sub P (n+1)) lS) N [some l.toD,some (.loc S.length),some (.loc W),x3] T=.ok (.nx [some l.toD,some (.loc S.length),some (.loc W),x3']) T'/\fZ l S T' W [] R'/\R'.length<=500000
 | k,0,Q,R,T,x3,_,hN,_,_=>absurd hN (by omega)
 | k,N+1,Q,R,T,x3,hk,hN,hr,h=>by
  have pre:T<+:T++[.lst []]:=Zd _ _;have hSl:S.length<=T.length:=by have:=(Zi.mp h.f).1; omega
  have t1:evT sub (ah sub P (n+1)) (.cmp .ne (.v 2) (.lst .nl)) [some l.toD,some (.loc S.length),some (.loc W),x3] T=.ok (!(Q.map λq=>D.loc q.2).isEmpty) (T++[.lst []]) :=
   aR (aO (r_v rfl) (br ai rfl) (su (aG pre h.w) (az _ _)))
  have h':fZ l S (T++[.lst []]) W Q R:=⟨kW h.keep hSl pre,aG pre h.w,aG pre h.f,h.wf,λq hq=>⟨(h.at' q hq).1.pre pre,(h.at' q hq).2⟩,h.seek⟩
  rcases List.eq_nil_or_concat Q with e|⟨Q0,v,e⟩
  ·subst e;exact⟨_,R,x3,z7 t1,h',by omega⟩
  ·rw[List.concat_eq_append] at e;subst e;have hc:=qK ((Q0++[v]).map (·.1));rw[Zb] at hc;obtain⟨T',Q',R',e1,s1,c1,r1⟩:=GH (sub:=sub) (P:=P) (n:=n) (x3:=x3) hd hl h4 h' (by omega) (by omega);have t1':evT sub (ah sub P (n+1)) (.cmp .ne (.v 2) (.lst .nl)) [some l.toD,some (.loc S.length),some (.loc W),x3] T=.ok true (T++[.lst []]):=t_k t1 (by rw[ZK]; cases Q0<;>rfl);obtain⟨T2,R2,x3',e2,s2⟩:=wQ hd hl h4 (k-1) N Q' R' T' (some (.loc v.2)) (by omega) (by omega) (by omega) s1;exact⟨T2,R2,x3',(zH t1' e1).trans e2,s2⟩
theorem IE(hd:Has P "_law_needs" fX)(hr:Has P "_law_rings" kM)(hl:l.WF)(h4:l.works.length<=4) :
  ∃(T:af) (R:List (Wlk×Nat)),ah sub P (n+2) "_law_rings" [l.toD] S=.ok (.loc S.length) T/\S<+:T/\T[S.length]?=some (.lst (R.map λq=>.loc q.2))/\(∀q∈R,AtW T q)/\R.length<=500000/\(∀q∈R,Ring (ay l) q.1)/\∀w,Ring (ay l) w->(∀t∈w,fst w<=nA t)->∃q∈R,q.1=w:=by
 have hst:=kq hl h4;have eN:=lA (sub:=sub) (n:=n) (S:=S++[.lst []]) hd hl (by omega)
 obtain⟨T',Q,e2,p2,m2,a2⟩:=kY (sub:=sub) (cf:=ah sub P (n+1)) (σ:=[some l.toD,some (.loc S.length),none,none]) (S:=(S++[.lst []])++[.lst ((ay l).map tupI)]) (k:=2) (i:=5) (el:=.lst (.cs (.v 5) .nl)) (it:=.iSeq (.c (.loc (S++[Cell.lst []]).length))) (tt:=.nl) (ks:=ay l) (f:=tupI) (p:=λ_=>true) (h:=λt=>[t]) (o:=some (S++[Cell.lst []]).length) (raw:=(ay l).map tupI)
  (bw r_c (bZ (az _ _))) (λT hT=>cL (.inr ⟨_,rfl,aG hT (az _ _)⟩)) (λt ht T hT=>rfl) (λt ht _ T hT=>⟨_,_,br (aa (r_v rfl) ai) rfl,Zd _ _,hT.length_le,az _ _⟩) (by unfold aP; omega)
 have e2:ev sub (ah sub P (n+1)) (.comp 2 (.lst (.cs (.v 5) .nl)) (.one 5) (.iSeq (.call "_law_needs" (.cs (.v 0) .nl))) .nl) [some l.toD,some (.loc S.length),none,none] (S++[.lst []])=.ok (.loc T'.length) (T'++[.lst (Q.map λq=>.loc q.2)]):=by
  rw[d_,bw r_c (bZ (az _ _))] at e2;rw[d_,bw (aB (aa (r_v rfl) ai) eN) (bZ (az _ _))];exact e2
 have hf:(ay l).filter (λ_=>true)=ay l:=List.filter_eq_self.mpr λ_ _=>rfl
 rw[hf] at m2;have pS:S++[.lst []]<+:T':=(Zd _ _).trans p2
 have hSl:S.length<T'.length:=by
  have:=pS.length_le;rw[Zn] at this;simp at this;omega
 have sk:fZ l S (T'++[.lst (Q.map λq=>.loc q.2)]) T'.length Q []:=⟨kW (T:=S++[.lst []]) (bS _ _) (by rw[Zn]; omega) (pS.trans (Zd _ _)),az _ _,aG (pS.trans (Zd _ _)) (az _ _),hSl,λq hq=>by
   rw[XA] at hq;obtain⟨a,b⟩:=a2 q hq;have hq1:=(Zi.mp (show T'[q.2]?=some _ from a)).1;rw[Zn,Zn] at b;simp at b;exact⟨a.pre (Zd _ _),by omega,by omega⟩,by rw[m2]; exact eg.start⟩
 have hcost:cost (Q.map (·.1))<=12*13^4:=oW (by
  have:=Xs List.length m2;rw[Zb,Zb] at this
  rw[Zb]; omega) λv hv=>by
   rw[m2] at hv;obtain⟨t,_,rfl⟩:=ZA.mp hv;exact Zm _
 obtain⟨T2,R,x3',e3,s2,hR5⟩:=wQ (sub:=sub) (P:=P) (n:=n) hd hl h4 (12*13^4) 1000000 Q [] _ none hcost (by decide) (by decide) sk;have body:exec sub (ah sub P (n+1)) kM.body (frame kM [l.toD]) S=.ok (.rt (.loc S.length)) T2:=ak (aN (br ai rfl)) (ak (aN e2) (ak (fW e3) (aE (r_v rfl))))
 have hall:∀w,Ring (ay l) w->(∀t∈w,fst w<=nA t)->∃q∈R,q.1=w:=λw hw hl=>by
  rcases s2.seek.all w hw hl with z|⟨v,hv,_⟩
  ·obtain⟨q,hq,e⟩:=ZA.mp z;exact⟨q,hq,e⟩
  ·cases hv
 have hrg:∀q∈R,Ring (ay l) q.1:=λq hq=>s2.seek.found q.1 (ZA.mpr ⟨q,hq,rfl⟩)
 have hpre:S<+:T2:=⟨T2.drop S.length,by
  have:=List.take_append_drop S.length T2;rw[s2.keep] at this;exact this⟩
 by_cases hR:R=[]
 ·subst hR;refine⟨S++[.lst []],[],x_call (ds:=[l.toD]) hr rfl body (fT (Zm _) s2.keep s2.f rfl),Zd _ _,az _ _,λ_ h=>(by cases h),by decide,λ_ h=>(by cases h),hall⟩
 ·refine⟨T2,R,x_call (ds:=[l.toD]) hr rfl body ?_,hpre,s2.f,λq hq=>(s2.at' q (by simpa using hq)).1,hR5,hrg,hall⟩;unfold leave;rw[Zf s2.keep,Zh (by show ¬decide (S.length<S.length)=true; simp)];simp only[s2.f];rw[Zh];intro z;obtain⟨q,r,rfl⟩:=Qs hR;have z:(decide (q.2<S.length)&&D.lows S.length (r.map λq=>.loc q.2))=true:=z;rw[Zv] at z;have:=Zl z.1;have:=(s2.at' q (by simp)).2.1;omega
end
end RL

namespace RL
open PySem EV GO WK
noncomputable def pY:Fn:=⟨3,3,(.ret (.cmp .gt (.bi .sum (.cs (.comp 2 (.ix (.ix (.ix (.v 0) (.c (.int 2))) (.ix (.v 4) (.c (.int 0)))) (.c (.int 1))) (.one 4) (.iSeq (.v 2)) .nl) .nl)) (.bin .mul (.v 1) (.bi .sum (.cs (.comp 2 (.ix (.v 4) (.c (.int 2))) (.one 4) (.iSeq (.v 2)) .nl) .nl)))))⟩
noncomputable def g_:E:=.or (.not (.bi (.inst .tuple) (.cs (.v 3) .nl))) (.cmp .bK (.v 3) (.call "_law_needs" (.cs (.v 0) .nl)))
noncomputable def jA:E:=.cmp .ne (.comp 2 (.v 6) (.one 6) (.iSeq (.v 3)) (.bi (.inst .bool) (.cs (.v 6) .nl))) (.lst .nl)
noncomputable def lG:E:=.cmp .ne (.bi .len (.cs (.v 4) .nl)) (.bi .lenD (.cs (.comp 2 (.tup (.cs (.v 6) (.cs (.c (.int 0)) .nl))) (.one 6) (.iSeq (.v 4)) .nl) .nl))
noncomputable def m6:E:=.cmp .ne (.comp 2 (.ix (.v 6) (.c (.int 1))) (.one 6) (.iSeq (.v 2)) .nl) (.bin .add (.sl (.v 4) (.c (.int 1)) .nl) (.sl (.v 4) .nl (.c (.int 1))))
noncomputable def jO:Fn:=⟨3,5,(.seq (.ite (.or (.not (.bi (.inst .list) (.cs (.v 2) .nl))) (.cmp .eq (.v 2) (.lst .nl)))
  (.ret (.c (.bl false)))
  .skip)
 (.seq (.forS (.one 3) (.iSeq (.v 2))
  (.seq (.ite g_
  (.ret (.c (.bl false)))
  .skip)
 (.ite jA
  (.ret (.c (.bl false)))
  .skip)))
 (.seq (.set (.one 4) (.comp 2 (.ix (.v 6) (.c (.int 0))) (.one 6) (.iSeq (.v 2)) .nl))
 (.seq (.ite lG
  (.ret (.c (.bl false)))
  .skip)
 (.seq (.ite m6
  (.ret (.c (.bl false)))
  .skip)
 (.ret (.call "_law_ring_bars" (.cs (.v 0) (.cs (.v 1) (.cs (.v 2) .nl))))))))))⟩
structure HL(P:Prg):Prop where
 needs:Has P "_law_needs" fX
 bars:Has P "_law_ring_bars" pY
 isbar:Has P "_law_is_bar" jO
section
variable{sub:Sub}{P:Prg}{n:Nat}{S T:af}{l:Lp}
theorem qV(hh:HL P){g:Int}(hg:0<=g/\g<=1000){q:Wlk×Nat}(hq:AtW S q)(hn:∀t∈q.1,bW l t)(hz:q.1.length<=1000):ah sub P (n+1) "_law_ring_bars" [l.toD,.int g,.loc q.2] S=.ok (.bl (decide (0<wt (aY l) g q.1))) S:=by
 have s1:=aH (sub:=sub) (cf:=ah sub P n) (aa (ee (σ:=[some l.toD,some (.int g),some (.loc q.2)]) (c:=2) (i:=4) hq rfl hz λt ht=>pJ (i:=4) rfl rfl (hn t ht)) ai) (j7 (az _ _));have pT:S<+:S++[Cell.lst ((q.1.map λt=>aY l (nA t)).map .int)]:=Zd _ _;generalize S++[Cell.lst ((q.1.map λt=>aY l (nA t)).map .int)]=T at s1 pT;have s2:=aH (sub:=sub) (cf:=ah sub P n) (aa (ee (σ:=[some l.toD,some (.int g),some (.loc q.2)]) (c:=2) (i:=4) (hq.pre pT) rfl hz λt ht=>aC (r_v (i:=4) rfl) r_c (qz (hn t ht))) ai) (j7 (az _ _))
 have hd:decide (g*(q.1.map nC).sum<(q.1.map λt=>aY l (nA t)).sum)=decide (0<wt (aY l) g q.1):=by
  have:wt (aY l) g q.1=(q.1.map λt=>aY l (nA t)).sum-g*(q.1.map nC).sum:=rfl;exact decide_eq_decide.mpr (by omega)
 rw[<- hd];refine x_call (ds:=[l.toD,.int g,.loc q.2]) hh.bars rfl (aE (aO s1 (bz (r_v rfl) s2 (nZ (by omega))) (iK _ _ _))) (bN rfl ?_);obtain⟨G,rfl⟩:=pT;rw[Zq]; exact bS _ _
theorem yV{k:Nat}{ts:WY}{t:WU}(hk:T[k]?=some (.lst (ts.map tupI)))(h:t∈ts):cmD .bK (tupI t) (.loc k) T=.ok (.bl false) T:=by
 show(items (.loc k)>>=λys=>inA true (tupI t) ys) T=_;rw[aq,bT hk];simp only[Res.aj];unfold inA;obtain⟨b,e,hb⟩:=oR (S:=T) t ts;rw[e,hb h]; rfl
theorem vU:∀xs:List Int,firstsP (xs.map λa=>D.tup [D.int a,D.int 0])=some xs
 | []=>rfl
 | x::r=>by
  show(match some x,firstsP (r.map λa=>D.tup [D.int a,D.int 0]) with|some n,some ns=>some (n::ns)|_,_=>none)=_;rw[vU r]
theorem yY{c:Nat}{xs:WU}(h:T[c]?=some (.lst (xs.map λa=>D.tup [D.int a,D.int 0])))(hz:xs.length<=18):biD sub .lenD [.loc c] T=.ok (.int (dZ xs:Int)) T:=by
 show(bG (.loc c)>>=λds=>opt (firstsP ds)>>=λis=>guard (decide (is.length<=18)) (pure (D.int (dZ is)))) T=_;have e0:bG (.loc c) T=.ok (xs.map λa=>D.tup [D.int a,D.int 0]) T:=bT h;rw[aq,e0,Res.aj,aq,vU,cO,Res.aj,gf,Zf (Zj hz)]; rfl
theorem Ao{a b:Nat}{xs ys:WU}(ha:T[a]?=some (.lst (xs.map .int)))(hb:T[b]?=some (.lst (ys.map .int)))(hl:xs.length=ys.length):cmD .ne (.loc a) (.loc b) T=.ok (.bl (!decide (xs=ys))) T:=by
 have e:=rf ha hb hl;rw[kR] at e;rw[tS,Zf (show eF (.loc a) (.loc b)=true from rfl)];split at e
 ·rename_i k q;cases e; rfl
 ·cases e
theorem zP{t:Nd}(h:bW l t):t.length<=1000:=by
 obtain⟨x,i,b,rfl,_⟩:=h;show 3<=1000;decide
theorem EX(hh:HL P)(hl:l.WF)(h4:l.works.length<=4){g:Int}{m:Nat}{t:Nd}(ht:t∈ay l)(x3:Option D):∃T',bH sub (ah sub P (n+1)) (.one 3) (.seq (.ite g_ (.ret (.c (.bl false))) .skip) (.ite jA (.ret (.c (.bl false))) .skip)) (tupI t) [some l.toD,some (.int g),some (.loc m),x3,none] T=.ok (.nx [some l.toD,some (.int g),some (.loc m),some (tupI t),none]) T'/\T<+:T':=by
 have eN:ah sub P (n+1) "_law_needs" [l.toD] T=.ok (.loc T.length) (T++[.lst ((ay l).map tupI)]):=lA (sub:=sub) (n:=n) (S:=T) hh.needs hl (by omega)
 have hA:evT sub (ah sub P (n+1)) g_ [some l.toD,some (.int g),some (.loc m),some (tupI t),none] T=.ok false (T++[.lst ((ay l).map tupI)]) :=
  b_ (t_k (aW (cA (aH (aa (r_v rfl) ai) (cG (k:=true) rfl)))) rfl) (aR (aO (r_v rfl) (aB (aa (r_v rfl) ai) eN) (yV (az _ _) ht)))
 generalize hT1:T++[Cell.lst ((ay l).map tupI)]=T1 at hA;have p1:T<+:T1:=by rw[<- hT1]; exact Zd _ _
 have hz:t.length<=1000:=by exact zP (bX hl t ht)
 have eB:ev sub (ah sub P (n+1)) (.comp 2 (.v 6) (.one 6) (.iSeq (.v 3)) (.bi (.inst .bool) (.cs (.v 6) .nl))) [some l.toD,some (.int g),some (.loc m),some (tupI t),none] T1=.ok (.loc T1.length) (T1++[.lst (t.filterMap λ_=>none)]) :=
  oq (ks:=t) (f:=.int) (g:=λ_=>none) (o:=none) (raw:=t.map .int) rfl (bw (r_v rfl) rfl) rfl (λa _=>cA (aH (aa (r_v rfl) ai) (cG rfl))) (λ_ _ _ h=>by cases h) (by unfold aP; omega)
 have e0:(t.filterMap λ_=>(none:Option D))=[]:=List.filterMap_eq_nil_iff.mpr λ_ _=>rfl
 rw[e0] at eB
 have hB:evT sub (ah sub P (n+1)) jA [some l.toD,some (.int g),some (.loc m),some (tupI t),none] T1=.ok false ((T1++[.lst []])++[.lst []]) :=
  aR (aO eB (br ai rfl) (su (xs:=[]) (aG (Zd _ _) (az _ _)) (az _ _)))
 exact⟨_,dw (ak (aK hA aM) (aK hB aM)),p1.trans ((Zd _ _).trans (Zd _ _))⟩
theorem qQ(hh:HL P)(hl:l.WF)(h4:l.works.length<=4){g:Int}(hg:0<=g/\g<=1000){w:Wlk}{m:Nat}(hw:∀t∈w,t∈ay l)(h8:w.length<=8)(hm:AtW S (w,m)):ah sub P (n+2) "_law_is_bar" [l.toD,.int g,.loc m] S=.ok (.bl (dg w&&decide (0<wt (aY l) g w))) S:=by
 have hm0:S[m]?=some (.lst (w.map tupI)):=hm;have p0:S<+:S++[.lst []]:=Zd _ _
 have t0:evT sub (ah sub P (n+1)) (.or (.not (.bi (.inst .list) (.cs (.v 2) .nl))) (.cmp .eq (.v 2) (.lst .nl))) [some l.toD,some (.int g),some (.loc m),none,none] S=.ok (w.map tupI).isEmpty (S++[.lst []]) :=
  b_ (S1:=S) (t_k (aW (cA (aH (aa (r_v rfl) ai) (cG (k:=true) (by show(match S[m]?,Ty.list with|_,.cls _=>none|some (.lst _),.list=>some true|some (.lst _),_=>some false|some (.dct _),_=>none|some (.fdc _),_=>none|none,_=>none)=_; rw[hm0]))))) rfl) (aR (aO (r_v rfl) (br ai rfl) (jc (aG p0 hm0) (az _ _))))
 cases hw0:w.isEmpty with
 | true =>
  have e:w=[]:=List.isEmpty_iff.mp hw0;subst e;exact x_call (ds:=[l.toD,.int g,.loc m]) hh.isbar rfl (bP (bA t0 (aE r_c))) (dJ _ _ _)
 | false =>
  have t0:evT sub (ah sub P (n+1)) (.or (.not (.bi (.inst .list) (.cs (.v 2) .nl))) (.cmp .eq (.v 2) (.lst .nl))) [some l.toD,some (.int g),some (.loc m),none,none] S=.ok false (S++[.lst []]):=t_k t0 (by cases w with|nil=>cases hw0|cons _ _=>rfl);have hm1:=aG p0 hm0
  obtain⟨σ1,T1,ef,⟨x3,rfl⟩,p1⟩:=g9 (sub:=sub) (cf:=ah sub P (n+1)) (t:=.one 3) (it:=.iSeq (.v 2)) (b:=.seq (.ite g_ (.ret (.c (.bl false))) .skip) (.ite jA (.ret (.c (.bl false))) .skip)) (σ:=[some l.toD,some (.int g),some (.loc m),none,none]) (S:=S++[.lst []]) (λ_ σ T=>(∃x3,σ=[some l.toD,some (.int g),some (.loc m),x3,none])/\S++[.lst []]<+:T) (bw (r_v rfl) (bZ hm1)) ⟨⟨none,rfl⟩,ZQ _⟩ (λ_ _ T h=>cL (.inr ⟨m,rfl,aG h.2 hm1⟩)) (λi hi σ T h=>by
   obtain⟨⟨x3,rfl⟩,hT⟩:=h;have hi':i<w.length:=by rw[<- Zb (f:=tupI)]; exact hi
   obtain⟨T',e,p⟩:=EX (sub:=sub) (n:=n) (T:=T) hh hl h4 (g:=g) (m:=m) (hw w[i] (Xj hi')) x3;refine⟨[some l.toD,some (.int g),some (.loc m),some (tupI w[i]),none],T',?_,⟨some (tupI w[i]),rfl⟩,hT.trans p⟩;show bH _ _ _ _ ((w.map tupI)[i]'hi) _ _=_;rw[Qe]; exact e)
  have pS1:S<+:T1:=p0.trans p1;have e2:=ee (sub:=sub) (cf:=ah sub P (n+1)) (σ:=[some l.toD,some (.int g),some (.loc m),x3,none]) (c:=2) (i:=6) (aG pS1 hm0) rfl (by omega) λt ht=>aC (r_v (i:=6) rfl) r_c (fq (bX hl t (hw t ht)))
  have ha:(T1++[Cell.lst ((w.map nA).map .int)])[T1.length]?=some (.lst ((w.map nA).map .int)):=az _ _;have p2:T1<+:T1++[Cell.lst ((w.map nA).map .int)]:=Zd _ _;generalize T1++[Cell.lst ((w.map nA).map .int)]=T2 at e2 ha p2;have eC:=fS (sub:=sub) (cf:=ah sub P (n+1)) (k:=2) (i:=6) (el:=.tup (.cs (.v 6) (.cs (.c (.int 0)) .nl))) (it:=.iSeq (.v 4)) (σ:=[some l.toD,some (.int g),some (.loc m),x3,some (.loc T1.length)]) (S:=T2) (S1:=T2) (ks:=w.map nA) (f:=.int) (g:=λa=>.tup [.int a,.int 0]) (o:=some T1.length) (raw:=(w.map nA).map .int) (bw (r_v rfl) (bZ ha)) (cL (.inr ⟨_,rfl,ha⟩)) (λt _=>dQ (aa (r_v rfl) (aa r_c ai)) rfl) (by rw[Zb]; unfold aP; omega);have gC:=yY (sub:=sub) (T:=T2++[.lst ((w.map nA).map λa=>D.tup [D.int a,D.int 0])]) (az _ _) (by rw[Zb]; omega);have zL:=fG (sub:=sub) ha;rw[Zb] at zL
  have hC:evT sub (ah sub P (n+1)) lG [some l.toD,some (.int g),some (.loc m),x3,some (.loc T1.length)] T2=.ok (!once w) (T2++[.lst ((w.map nA).map λa=>D.tup [D.int a,D.int 0])]):=by
   have:=aR (sub:=sub) (cf:=ah sub P (n+1)) (aO (o:=.ne) (σ:=[some l.toD,some (.int g),some (.loc m),x3,some (.loc T1.length)]) (aH (aa (r_v (i:=4) rfl) ai) zL) (aH (aa eC ai) gC) (vL _ _ _));refine t_k this ?_;unfold once;rw[Bool.beq_eq_decide_eq];congr 1;exact decide_eq_decide.mpr ⟨Eq.symm,Eq.symm⟩
  have pC:T2<+:T2++[.lst ((w.map nA).map λa=>D.tup [D.int a,D.int 0])]:=Zd _ _;generalize hT3:T2++[Cell.lst ((w.map nA).map λa=>D.tup [D.int a,D.int 0])]=T3 at hC pC;have ha3:=aG pC ha;have pS3:S<+:T3:=pS1.trans (p2.trans pC);have pre:∀{fl:Fl} {U:af},exec sub (ah sub P (n+1)) (.seq (.ite lG (.ret (.c (.bl false))) .skip) (.seq (.ite m6 (.ret (.c (.bl false))) .skip) (.ret (.call "_law_ring_bars" (.cs (.v 0) (.cs (.v 1) (.cs (.v 2) .nl))))))) [some l.toD,some (.int g),some (.loc m),x3,some (.loc T1.length)] T2=.ok fl U->exec sub (ah sub P (n+1)) jO.body (frame jO [l.toD,.int g,.loc m]) S=.ok fl U:=λh=>ak (aK t0 aM) (ak ef (ak (aN e2) h))
  have take:∀{U:af},S<+:U->U.take S.length=S:=λh=>by obtain⟨G,rfl⟩:=h; exact bS _ _
  have hB:dg w=(turned w&&once w):=by unfold dg; rw[hw0]; rfl
  rw[hB]
  cases ho:once w with
  | false =>
   rw[ho] at hC;rw[WB,XY];exact x_call (ds:=[l.toD,.int g,.loc m]) hh.isbar rfl (pre (bP (bA hC (aE r_c)))) (bN rfl (take pS3))
  | true =>
   rw[ho] at hC;rw[Bool.and_true];have e4:=ee (sub:=sub) (cf:=ah sub P (n+1)) (σ:=[some l.toD,some (.int g),some (.loc m),x3,some (.loc T1.length)]) (c:=2) (i:=6) (aG pS3 hm0) rfl (by omega) λt ht=>aC (r_v (i:=6) rfl) r_c (gJ (bX hl t (hw t ht)))
   have hb4:=az T3 (Cell.lst ((w.map nB).map .int));have p4:T3<+:T3++[Cell.lst ((w.map nB).map .int)]:=Zd _ _;generalize T3++[Cell.lst ((w.map nB).map .int)]=T4 at e4 hb4 p4;obtain⟨T7,c,e5,p5,g5⟩:=wu (sub:=sub) (cf:=ah sub P (n+1)) (σ:=[some l.toD,some (.int g),some (.loc m),x3,some (.loc T1.length)]) (i:=4) (aG p4 ha3) (λ_=>rfl) (by rw[Zb]; omega);have hD:evT sub (ah sub P (n+1)) m6 [some l.toD,some (.int g),some (.loc m),x3,some (.loc T1.length)] T3=.ok (!turned w) T7:=aR (aO e4 e5 (Ao (aG p5 hb4) g5 (vA hw0)));have pS7:S<+:T7:=pS3.trans (p4.trans p5)
   cases ht:turned w with
   | false =>
    rw[ht] at hD;rw[XY];exact x_call (ds:=[l.toD,.int g,.loc m]) hh.isbar rfl (pre (ak (aK hC aM) (bP (bA hD (aE r_c))))) (bN rfl (take pS7))
   | true =>
    rw[ht] at hD;rw[X9];exact x_call (ds:=[l.toD,.int g,.loc m]) hh.isbar rfl (pre (ak (aK hC aM) (ak (aK hD aM) (aE (aB (aa (r_v rfl) (aa (r_v rfl) (aa (r_v rfl) ai))) (qV (q:=(w,m)) hh hg (hm.pre pS7) (λt ht=>bX hl t (hw t ht)) (by show w.length<=1000; omega))))))) (bN rfl (take pS7))
theorem rF(hh:HL P){g:Int}{d:D}(hd:ff sub S d .list=some false):ah sub P (n+2) "_law_is_bar" [l.toD,.int g,d] S=.ok (.bl false) S :=
 x_call (ds:=[l.toD,.int g,d]) hh.isbar rfl (bP (bA (iN (t_k (aW (cA (aH (aa (r_v rfl) ai) (cG hd)))) rfl)) (aE r_c))) (cB _ _)
theorem AL(hh:HL P){g:Int}{m:Nat}(hm:S[m]?=some (.lst [.non])):ah sub P (n+2) "_law_is_bar" [l.toD,.int g,.loc m] S=.ok (.bl false) S:=by
 have p0:S<+:S++[.lst []]:=Zd _ _
 have t0:evT sub (ah sub P (n+1)) (.or (.not (.bi (.inst .list) (.cs (.v 2) .nl))) (.cmp .eq (.v 2) (.lst .nl))) [some l.toD,some (.int g),some (.loc m),none,none] S=.ok [D.non].isEmpty (S++[.lst []]) :=
  b_ (S1:=S) (t_k (aW (cA (aH (aa (r_v rfl) ai) (cG (k:=true) (by show(match S[m]?,Ty.list with|_,.cls _=>none|some (.lst _),.list=>some true|some (.lst _),_=>some false|some (.dct _),_=>none|some (.fdc _),_=>none|none,_=>none)=_; rw[hm]))))) rfl) (aR (aO (r_v rfl) (br ai rfl) (jc (aG p0 hm) (az _ _))))
 have hA:evT sub (ah sub P (n+1)) g_ [some l.toD,some (.int g),some (.loc m),some .non,none] (S++[.lst []])=.ok true (S++[.lst []]) :=
  iN (t_k (aW (cA (aH (aa (r_v rfl) ai) (cG (k:=false) rfl)))) rfl)
 have hm1:=aG p0 hm;have ef:=fh (sub:=sub) (cf:=ah sub P (n+1)) (t:=.one 3) (it:=.iSeq (.v 2)) (b:=.seq (.ite g_ (.ret (.c (.bl false))) .skip) (.ite jA (.ret (.c (.bl false))) .skip)) (σ:=[some l.toD,some (.int g),some (.loc m),none,none]) (bw (r_v rfl) (bZ hm1)) (l6 (cL (.inr ⟨m,rfl,hm1⟩)) (dw (bP (bA hA (aE r_c)))));exact x_call (ds:=[l.toD,.int g,.loc m]) hh.isbar rfl (ak (aK t0 aM) (bP ef)) (dJ _ _ _)
end
end RL

namespace K07
open PySem EV RL GO WK
noncomputable def jo:Fn:=⟨1,5,(.seq (.set (.one 1) (.call "_law_loop" (.cs (.v 0) (.cs (.c (.int 4)) (.cs (.c (.int 4)) .nl)))))
 (.seq (.set (.one 2) (.bin .add (.c (.int 1)) (.call "_law_mixed" (.cs (.v 0) (.cs (.c (.int 0)) (.cs (.c (.int 12)) .nl))))))
 (.seq (.set (.one 3) (.call "ring" (.cs (.v 1) (.cs (.v 2) .nl))))
 (.seq (.ite (.isN (.v 3))
  (.ret (.cmp .eq (.comp 2 (.v 6) (.one 6) (.iSeq (.call "_law_rings" (.cs (.v 1) .nl))) (.call "_law_ring_bars" (.cs (.v 1) (.cs (.v 2) (.cs (.v 6) .nl))))) (.lst .nl)))
  .skip)
 (.seq (.ite (.or (.not (.call "_law_is_bar" (.cs (.v 1) (.cs (.v 2) (.cs (.v 3) .nl))))) (.cmp .nisB (.call "is_bar" (.cs (.v 1) (.cs (.v 2) (.cs (.v 3) .nl)))) (.c (.bl true))))
  (.ret (.c (.bl false)))
  .skip)
 (.seq (.set (.one 4) (.call "_law_spoilt" (.cs (.v 1) (.cs (.v 3) (.cs (.call "_law_mixed" (.cs (.v 0) (.cs (.c (.int 1)) (.cs (.bin .pow (.c (.int 10)) (.c (.int 6))) .nl)))) .nl)))))
 (.ret (.cmp .eq (.call "is_bar" (.cs (.v 1) (.cs (.v 2) (.cs (.v 4) .nl)))) (.call "_law_is_bar" (.cs (.v 1) (.cs (.v 2) (.cs (.v 4) .nl))))))))))))⟩
noncomputable def Pd:Prg:=[(("is_whole" : Str),l5),(("is_value" : Str),tD),(("is_row" : Str),jQ),(("is_crew" : Str),wX),(("are_crews" : Str),xr),(("is_work_source" : Str),vm),(("is_source" : Str),qY),(("are_starts" : Str),uH),(("is_work" : Str),sj),(("are_works" : Str),t7),(("are_outs" : Str),uE),(("is_loop" : Str),uw),(("checked" : Str),rZ),(("needs" : Str),kQ),(("checked_gap" : Str),qE),(("longs_of" : Str),xD),(("backs_of" : Str),rz),(("surplus" : Str),qS),(("longest_walks" : Str),qW),(("lengthened" : Str),jG),(("barring_ring" : Str),mw),(("ring" : Str),pR),(("is_need" : Str),rT),(("is_ring" : Str),wB),(("is_bar" : Str),xu),(("_law_cell_at" : Str),rN),(("_law_mixed" : Str),qH),(("_law_source" : Str),w4),(("_law_work" : Str),tY),(("_law_loop" : Str),uX),(("_law_needs" : Str),fX),(("_law_rings" : Str),kM),(("_law_ring_bars" : Str),pY),(("_law_is_bar" : Str),jO),(("_law_spoilt" : Str),ue),(("law" : Str),jo)]
theorem hB:HB Pd:=⟨rfl,rfl,rfl,rfl,rfl,rfl,rfl,rfl,rfl,rfl,rfl,rfl,rfl⟩
theorem hG:HG Pd:=⟨rfl,rfl,rfl,rfl,rfl⟩
theorem hW:HW Pd:=⟨rfl,rfl,rfl,rfl,rfl⟩
theorem hR0:HR0 Pd:=⟨rfl,rfl,rfl,hW⟩
theorem hR:HR Pd:=⟨hR0,rfl,rfl,rfl,rfl⟩
theorem hL:HL Pd:=⟨rfl,rfl,rfl⟩
variable{sub:Sub}{n:Nat}{S T:af}{l:Lp}
theorem jZ{cf:Str->List D->M D}{σ:Sg}{a:E}{x:D}{S S1:af}(h:ev sub cf a σ S=.ok x S1):evT sub cf (.isN a) σ S=.ok (decide (x=.non)) S1:=by rw[zS,h]; rfl
theorem Fb(hl:l.WF)(h4:l.works.length<=4){q:Wlk×Nat}(hr:Ring (ay l) q.1):(∀t∈q.1,bW l t)/\q.1.length<=l.works.length:=by
 have hn:=λt ht=>bX hl t (hr.walk.mem t ht)
 refine⟨hn,?_⟩
 have:=WK.short (n:=l.works.length) hr.nodup λx hx=>by
  obtain⟨t,ht,rfl⟩:=ZA.mp hx;obtain⟨_,h0,h1,_⟩:=lY (hn t ht);exact⟨h0,h1⟩
 rw[Zb] at this;exact this
theorem AM{g:Int}{w:Wlk}(hb:m8 l g w):(dg w&&decide (0<wt (aY l) g w))=true:=by
 have e1:w.isEmpty=false:=by cases w with|nil=>exact absurd rfl hb.walk.ne|cons _ _=>rfl
 have e2:turned w=true:=Zj (yS hb.walk.ne hb.walk.chn hb.closed);have e3:once w=true:=Zj (by rw[yQ hb.nodup]);unfold dg;rw[e1,e2,e3,Zj hb.pos]; rfl
theorem Cd(b:Bool):cmD .eq (.bl b) (.bl b) T=.ok (.bl true) T:=by cases b<;>rfl
theorem Jm(hl:l.WF)(h4:l.works.length<=4){g:Int}(hg:1<=g/\g<=200){d:D}(h:Thing l T d):∃b,ah sub Pd (n+9) "is_bar" [l.toD,.int g,d] T=.ok (.bl b) T/\ah sub Pd (n+9) "_law_is_bar" [l.toD,.int g,d] T=.ok (.bl b) T:=by
 rcases h with⟨w,k,rfl,a,b,c⟩|⟨w,rfl⟩|rfl|⟨k,rfl,a⟩
 ·exact⟨_,qg hB hR hl h4 hg b c a,qQ (n:=n+7) hL hl h4 ⟨by omega,by omega⟩ b c a⟩
 ·exact⟨_,FY hB hR hl h4 hg,rF (n:=n+7) hL rfl⟩
 ·exact⟨_,Ja hB hR hl h4 hg,rF (n:=n+7) hL rfl⟩
 ·exact⟨_,Ff hB hR hl h4 hg a,AL (n:=n+7) hL a⟩
abbrev sb:Sub:=λ_ _=>false
abbrev iw:=ah sb Pd 29
theorem main(ns:WU)(h:ns.length<=63):∃S',ah (λ_ _=>false) Pd 30 "law" [.fro (ns.map .int)] []=.ok (.bl true) S':=by
 obtain⟨mx,M⟩:=Dj hG;have hl:=zq M ns (at':=4) (most:=4) (by decide) (by decide);have ed:=CC (sub:=sb) (n:=24) (S:=[]) hG M ns (at':=4) (most:=4) (by decide) (by decide) (by decide)
 have h4:(cP mx ns 4 4).works.length<=4:=by
  have:=M.rng ns (4+1) (show(0:Int)<4 by decide);simp only[cP,Zb,ZS];omega
 generalize cP mx ns 4 4=l at hl ed h4;have hx:=M.rng ns 0 (show(0:Int)<12 by decide);obtain⟨g,hg⟩:∃g:Int,g=1+mx ns 0 12:=⟨_,rfl⟩
 have em:ev sb iw (.bin .add (.c (.int 1)) (.call "_law_mixed" (.cs (.v 0) (.cs (.c (.int 0)) (.cs (.c (.int 12)) .nl))))) [some (.fro (ns.map .int)),some l.toD,none,none,none] []=.ok (.int g) []:=by
  rw[hg];exact bz r_c (aB (aa (r_v rfl) (aa r_c (aa r_c ai))) (M.ok ns (by decide) (by decide))) (lC _ _ _)
 have pre:∀{d:D} {S':af} {fl:Fl} {U:af},iw "ring" [l.toD,.int g] []=.ok d S'->exec sb iw (.seq (.ite (.isN (.v 3))
  (.ret (.cmp .eq (.comp 2 (.v 6) (.one 6) (.iSeq (.call "_law_rings" (.cs (.v 1) .nl))) (.call "_law_ring_bars" (.cs (.v 1) (.cs (.v 2) (.cs (.v 6) .nl))))) (.lst .nl)))
  .skip)
 (.seq (.ite (.or (.not (.call "_law_is_bar" (.cs (.v 1) (.cs (.v 2) (.cs (.v 3) .nl))))) (.cmp .nisB (.call "is_bar" (.cs (.v 1) (.cs (.v 2) (.cs (.v 3) .nl)))) (.c (.bl true))))
  (.ret (.c (.bl false)))
  .skip)
 (.seq (.set (.one 4) (.call "_law_spoilt" (.cs (.v 1) (.cs (.v 3) (.cs (.call "_law_mixed" (.cs (.v 0) (.cs (.c (.int 1)) (.cs (.bin .pow (.c (.int 10)) (.c (.int 6))) .nl)))) .nl)))))
 (.ret (.cmp .eq (.call "is_bar" (.cs (.v 1) (.cs (.v 2) (.cs (.v 4) .nl)))) (.call "_law_is_bar" (.cs (.v 1) (.cs (.v 2) (.cs (.v 4) .nl))))))))) [some (.fro (ns.map .int)),some l.toD,some (.int g),some d,none] S'=.ok fl U->exec sb iw jo.body (frame jo [.fro (ns.map .int)]) []=.ok fl U:=λe1 e2 =>
  ak (aN (aB (aa (r_v rfl) (aa r_c (aa r_c ai))) ed)) (ak (aN em) (ak (aN (aB (aa (r_v rfl) (aa (r_v rfl) ai)) e1)) e2))
 rcases DB (sub:=sb) (n:=19) (S:=[]) hB hR hl h4 (g:=g) (by omega) (by omega) with⟨w,e1,hb⟩|⟨e1,hf⟩
 ·have aw:AtW ([]++[Cell.lst (w.map tupI)]) (w,0):=rfl;have hw4:w.length<=4:=Z2 hb.len h4;have hst:∀t∈w,t∈ay l:=hb.walk.mem;have b1:=qQ (sub:=sb) (n:=27) hL hl h4 (g:=g) ⟨by omega,by omega⟩ hst (by omega) aw;have b2:=qg (sub:=sb) (n:=20) hB hR hl h4 (g:=g) ⟨by omega,by omega⟩ hst (by omega) aw;rw[AM hb] at b1 b2;have hy:=M.rng ns 1 (show(0:Int)<1000000 by decide);obtain⟨c,hc⟩:∃c:Nat,(c:Int)=mx ns 1 1000000:=⟨(mx ns 1 1000000).toNat,by omega⟩
  obtain⟨d,T',e4,p4,th⟩:=FT (sub:=sb) (P:=Pd) (n:=27) hL.needs rfl hl h4 (c:=c) aw hb.walk.ne hst hw4;rw[hc] at e4;obtain⟨b,f1,f2⟩:=Jm (sub:=sb) (n:=20) hl h4 (g:=g) ⟨by omega,by omega⟩ th
  have tt:evT sb iw (.or (.not (.call "_law_is_bar" (.cs (.v 1) (.cs (.v 2) (.cs (.v 3) .nl))))) (.cmp .nisB (.call "is_bar" (.cs (.v 1) (.cs (.v 2) (.cs (.v 3) .nl)))) (.c (.bl true)))) [some (.fro (ns.map .int)),some l.toD,some (.int g),some (.loc 0),none] ([]++[.lst (w.map tupI)])=.ok false ([]++[.lst (w.map tupI)]) :=
   b_ (t_k (aW (bO (aB (aa (r_v rfl) (aa (r_v rfl) (aa (r_v rfl) ai))) b1))) rfl) (aR (aO (aB (aa (r_v rfl) (aa (r_v rfl) (aa (r_v rfl) ai))) b2) r_c rfl))
  exact⟨[],x_call (ds:=[.fro (ns.map .int)]) (show Has Pd "law" jo from rfl) rfl (pre e1 (ak (aK (t_k (jZ (r_v rfl)) (Zt (by intro z; cases z))) aM) (ak (aK tt aM) (ak (aN (aB (aa (r_v rfl) (aa (r_v rfl) (aa (aB (aa (r_v rfl) (aa r_c (aa (bz r_c r_c rfl) ai))) (M.ok ns (by decide) (by decide))) ai))) e4)) (aE (aO (aB (aa (r_v rfl) (aa (r_v rfl) (aa (r_v rfl) ai))) f1) (aB (aa (r_v rfl) (aa (r_v rfl) (aa (r_v rfl) ai))) f2) (Cd b))))))) (bN rfl rfl)⟩
 ·obtain⟨T1,R,er,_,c1,a1,z1,r1,r2⟩:=IE (sub:=sb) (P:=Pd) (n:=27) (S:=[]) hL.needs rfl hl h4
  have ec:ev sb iw (.comp 2 (.v 6) (.one 6) (.iSeq (.call "_law_rings" (.cs (.v 1) .nl))) (.call "_law_ring_bars" (.cs (.v 1) (.cs (.v 2) (.cs (.v 6) .nl))))) [some (.fro (ns.map .int)),some l.toD,some (.int g),some .non,none] []=.ok (.loc T1.length) (T1++[.lst (R.filterMap λ_=>none)]) :=
   oq (ks:=R) (f:=λq=>D.loc q.2) (g:=λ_=>none) (o:=some 0) (raw:=R.map λq=>D.loc q.2) rfl (bw (aB (aa (r_v rfl) ai) er) (bZ c1)) (cL (.inr ⟨0,rfl,c1⟩)) (λq hq=>by
    obtain⟨q1,q2⟩:=Fb hl h4 (r1 q hq);have hr:=r1 q hq;have hp:0<q.1.length:=WA.mpr hr.walk.ne;have hle:=hf q.1.length hp q2 q.1 hr.walk rfl hr.closed;exact t_k (bO (aB (aa (r_v rfl) (aa (r_v rfl) (aa (r_v rfl) ai))) (qV (n:=28) hL (g:=g) ⟨by omega,by omega⟩ (a1 q hq) q1 (by omega)))) (Zt (by omega))) (λ_ _ _ h=>by cases h) (by unfold aP; omega)
  have e0:(R.filterMap λ_=>(none:Option D))=[]:=List.filterMap_eq_nil_iff.mpr λ_ _=>rfl
  rw[e0] at ec;exact⟨[],x_call (ds:=[.fro (ns.map .int)]) (show Has Pd "law" jo from rfl) rfl (pre e1 (bP (bA (t_k (jZ (r_v rfl)) rfl) (aE (aO ec (br ai rfl) (jc (xs:=[]) (aG (Zd _ _) (az _ _)) (az _ _))))))) (bN rfl rfl)⟩
end K07

namespace K07
open PySem EV RL
noncomputable def top(i:Nat):Stmt:=PySem.Challenge.pw_roundlap_k07_ring.main.body.getD i (.Pass ⟨0,0,0,0⟩)
noncomputable def fns:List (Str×Stmt):=[(("is_whole" : Str),top 15),(("is_value" : Str),top 16),(("is_row" : Str),top 17),(("is_crew" : Str),top 18),(("are_crews" : Str),top 19),(("is_work_source" : Str),top 20),(("is_source" : Str),top 21),(("are_starts" : Str),top 22),(("is_work" : Str),top 23),(("are_works" : Str),top 24),(("are_outs" : Str),top 25),(("is_loop" : Str),top 26),(("checked" : Str),top 27),(("needs" : Str),top 28),(("checked_gap" : Str),top 31),(("longs_of" : Str),top 33),(("backs_of" : Str),top 34),(("surplus" : Str),top 35),(("longest_walks" : Str),top 36),(("lengthened" : Str),top 37),(("barring_ring" : Str),top 38),(("ring" : Str),top 39),(("is_need" : Str),top 40),(("is_ring" : Str),top 41),(("is_bar" : Str),top 42),(("_law_cell_at" : Str),top 44),(("_law_mixed" : Str),top 45),(("_law_source" : Str),top 46),(("_law_work" : Str),top 47),(("_law_loop" : Str),top 48),(("_law_needs" : Str),top 49),(("_law_rings" : Str),top 50),(("_law_ring_bars" : Str),top 51),(("_law_is_bar" : Str),top 53),(("_law_spoilt" : Str),top 54),(("law" : Str),top 55)]
noncomputable def vals:List (Str×D):=[("REST",(.int 9973)),("MOST_STREAMS",(.int 6)),("MOST_CREWS",(.int 3)),("MOST_MACHINES",(.int 3)),("MOST_BUSY",(.int 4)),("MOST_WORKS",(.int 8)),("MOST_LONG",(.int 8)),("MOST_SOURCES",(.int 3)),("MOST_BACK",(.int 3)),("WORDS",(.tup [(.str "plus"),(.str "less"),(.str "times"),(.str "least"),(.str "greatest")])),("MOST_GAP",(.int 200))]
noncomputable def cls:List Str:=[]
set_option maxRecDepth 100000 in
set_option maxHeartbeats 0 in
theorem hP:fns.map (λp=>(p.1,trF (dP fns vals cls) p.2))=Pd.map λp=>(p.1,some p.2):=by kernel_rfl
end K07
namespace PySem.W.Fast
theorem tw3884737170893740850:0=0:=rfl
theorem tw11771481712850813685:0=0:=rfl
theorem tw4070720085526434728:0=0:=rfl
theorem tw16771217606806313762:0=0:=rfl
theorem tw9405815551813441985:0=0:=rfl
theorem tw8236638697459111053:0=0:=rfl
theorem tw18349177293213141562:0=0:=rfl
theorem tw10168413128219654476:0=0:=rfl
theorem tw8530849149988789930:0=0:=rfl
theorem tw973881304795596631:0=0:=rfl
theorem tw6029959647122286919:0=0:=rfl
theorem tw9063938566773031764:0=0:=rfl
theorem tw1720453172971477403:0=0:=rfl
theorem tw14475739876769188247:0=0:=rfl
theorem tw15706805188511984517:0=0:=rfl
theorem tw14935516252424438297:0=0:=rfl
theorem tw13580823028964959052:0=0:=rfl
theorem tw7037676293272087671:0=0:=rfl
theorem tw12497917179739589966:0=0:=rfl
theorem tw12513334117451407538:0=0:=rfl
theorem tw2761547474178926913:0=0:=rfl
theorem tw9860979813955679896:0=0:=rfl
theorem tw2508580613057157544:0=0:=rfl
theorem tw4705772629316960661:0=0:=rfl
theorem tw9688984682880447069:0=0:=rfl
theorem tw5005644088414286971:0=0:=rfl
theorem tw1756871653670757874:0=0:=rfl
theorem tw10627073459034151819:0=0:=rfl
theorem tw2729124132263353947:0=0:=rfl
theorem tw18320461770878973948:0=0:=rfl
theorem tw11236756089811143662:0=0:=rfl
theorem tw12676015452124314289:0=0:=rfl
theorem tw11500934944686191795:0=0:=rfl
theorem tw6380489761484689916:0=0:=rfl
theorem tw4929410209475735971:0=0:=rfl
theorem tw13511108352813490125:0=0:=rfl
theorem tw3012572027023402476:0=0:=rfl
theorem tw18240288111347495728:0=0:=rfl
theorem tw8479244384824413119:0=0:=rfl
theorem tw2434314281353132544:0=0:=rfl
theorem tw6327774323757693836:0=0:=rfl
theorem tw6697302655546017727:0=0:=rfl
theorem tw988772594564786296:0=0:=rfl
theorem tw10424351433011832461:0=0:=rfl
theorem tw10750278853647215411:0=0:=rfl
theorem tw6993638395403434844:0=0:=rfl
theorem tw297823100175030899:0=0:=rfl
theorem tw6223618295625123926:0=0:=rfl
theorem tw4770884832530748996:0=0:=rfl
theorem tw5536146765297270894:0=0:=rfl
theorem tw11753791275843375169:0=0:=rfl
theorem tw17071737156965836094:0=0:=rfl
theorem tw12416908761587658056:0=0:=rfl
theorem tw1019748121163620202:0=0:=rfl
theorem tw11836484784459545395:0=0:=rfl
theorem tw17699541233236790349:0=0:=rfl
theorem tw10305377328567325088:0=0:=rfl
theorem tw13022128570364400853:0=0:=rfl
theorem tw3819418666283032231:0=0:=rfl
theorem tw15833579818114724333:0=0:=rfl
theorem tw15046862345309669738:0=0:=rfl
theorem tw5911256347455977330:0=0:=rfl
theorem tw2350030118529778394:0=0:=rfl
theorem tw6733111316948843999:0=0:=rfl
theorem tw2135917808353676100:0=0:=rfl
theorem tw3254545427081870798:0=0:=rfl
theorem tw4605642591142057669:0=0:=rfl
theorem tw15023618641904806004:0=0:=rfl
theorem tw6514210345063391115:0=0:=rfl
theorem tw15156834878427783245:0=0:=rfl
theorem tw4287374746616236008:0=0:=rfl
theorem tw4514364473012834000:0=0:=rfl
theorem tw5699032602008888814:0=0:=rfl
theorem tw17073233974648384108:0=0:=rfl
theorem tw2913605402785696012:0=0:=rfl
theorem tw16302141792455008949:0=0:=rfl
theorem tw1165330768800538881:0=0:=rfl
theorem tw7979165813701511469:0=0:=rfl
theorem tw8468155280304325496:0=0:=rfl
theorem tw16834426906069176538:0=0:=rfl
theorem tw15865832605356916124:0=0:=rfl
theorem tw3938207202506747834:0=0:=rfl
theorem tw14175700165872362161:0=0:=rfl
theorem tw12746232863453404758:0=0:=rfl
theorem tw16369250250557357514:0=0:=rfl
theorem tw15413008135784457255:0=0:=rfl
theorem tw13439264059701178904:0=0:=rfl
theorem tw10564215105193699445:0=0:=rfl
theorem tw14275891888415655480:0=0:=rfl
theorem tw16895490130146831206:0=0:=rfl
theorem tw5215294814166740376:0=0:=rfl
theorem tw13177866311877432838:0=0:=rfl
theorem tw9932016004293833984:0=0:=rfl
theorem tw17438115587927199771:0=0:=rfl
theorem tw8429574983852890638:0=0:=rfl
theorem tw3955511547428852237:0=0:=rfl
theorem tw11702391150125548578:0=0:=rfl
theorem tw7363500815652406782:0=0:=rfl
theorem tw13641493458907884357:0=0:=rfl
theorem tw17514062572125785963:0=0:=rfl
theorem tw10745858636890956819:0=0:=rfl
theorem tw16992668965373543847:0=0:=rfl
theorem tw1757292040615608746:0=0:=rfl
theorem tw4482244015756231241:0=0:=rfl
theorem tw1378417619417226879:0=0:=rfl
theorem tw4301570963426936397:0=0:=rfl
theorem tw1313716603235137625:0=0:=rfl
theorem tw11102188384845314900:0=0:=rfl
theorem tw10694645246190158371:0=0:=rfl
theorem tw17245455833185406338:0=0:=rfl
theorem tw31275497997301797:0=0:=rfl
theorem tw17507724110551891104:0=0:=rfl
theorem tw78327818712101320:0=0:=rfl
theorem tw12682193259398225797:0=0:=rfl
theorem tw5539585491212063405:0=0:=rfl
theorem tw10418352420217671292:0=0:=rfl
theorem tw3604971782599957424:0=0:=rfl
theorem tw8045959348785128481:0=0:=rfl
theorem tw6445323338389135031:0=0:=rfl
theorem tw534392242477158312:0=0:=rfl
theorem tw12742015220243235061:0=0:=rfl
theorem tw9195236868012717349:0=0:=rfl
theorem tw57283912719817133:0=0:=rfl
theorem tw14270215140880523604:0=0:=rfl
theorem tw12862139766912267467:0=0:=rfl
theorem tw3187155002780295549:0=0:=rfl
theorem tw15995839716715015455:0=0:=rfl
theorem tw17644264002741358079:0=0:=rfl
theorem tw10216692088842604196:0=0:=rfl
theorem tw16771588907761964756:0=0:=rfl
theorem tw4793520946883473322:0=0:=rfl
theorem tw12167526052743136395:0=0:=rfl
theorem tw7891084155700187922:0=0:=rfl
theorem tw7281933722145501698:0=0:=rfl
theorem tw13842400722565533101:0=0:=rfl
theorem tw12859776739424004105:0=0:=rfl
theorem tw11281325367666974164:0=0:=rfl
theorem tw7046669529926283814:0=0:=rfl
theorem tw13301446499121940295:0=0:=rfl
theorem tw10233724309510523669:0=0:=rfl
theorem tw6879987459324732079:0=0:=rfl
theorem tw6463181017909303504:0=0:=rfl
theorem tw16780946342162861489:0=0:=rfl
theorem tw13183334110382593667:0=0:=rfl
theorem tw9268113046231341703:0=0:=rfl
theorem tw11292219793480154360:0=0:=rfl
theorem tw13535293395914688470:0=0:=rfl
theorem tw16507727324941435922:0=0:=rfl
theorem tw4330106386790058788:0=0:=rfl
theorem tw993115904210019352:0=0:=rfl
theorem tw13472987722887376558:0=0:=rfl
theorem tw11399303968544577910:0=0:=rfl
theorem tw1274566549736264515:0=0:=rfl
theorem tw5937359104719954955:0=0:=rfl
theorem tw10629112640183244765:0=0:=rfl
theorem tw15275486960558551220:0=0:=rfl
theorem tw11567460535037708383:0=0:=rfl
theorem tw3405773260045056668:0=0:=rfl
theorem tw17327298390909314433:0=0:=rfl
theorem tw187544611458235806:0=0:=rfl
theorem tw7076242130230986656:0=0:=rfl
theorem tw15863919320962541168:0=0:=rfl
theorem tw10773396682353124252:0=0:=rfl
theorem tw9592698721380583622:0=0:=rfl
theorem tw4290989402188356909:0=0:=rfl
theorem tw17909145799463256928:0=0:=rfl
theorem tw15749207704457108015:0=0:=rfl
theorem tw4227014955774661845:0=0:=rfl
theorem tw1142885486279784500:0=0:=rfl
theorem tw14376095608597883706:0=0:=rfl
theorem tw4119306625982030973:0=0:=rfl
theorem tw504956190494255414:0=0:=rfl
theorem tw15451392235969618216:0=0:=rfl
theorem tw15110691323609339633:0=0:=rfl
theorem tw7950496036119115895:0=0:=rfl
theorem tw9832025173148794982:0=0:=rfl
theorem tw6415915103839304672:0=0:=rfl
theorem tw13798791731822243617:0=0:=rfl
theorem tw17941764971169757392:0=0:=rfl
theorem tw17783253799391954109:0=0:=rfl
theorem tw14962942094893309349:0=0:=rfl
theorem tw16308204331283266835:0=0:=rfl
theorem tw17739562107219680470:0=0:=rfl
theorem tw3360797482954711477:0=0:=rfl
theorem tw9800505396873374053:0=0:=rfl
theorem tw487060119051000556:0=0:=rfl
theorem tw9304515705039855387:0=0:=rfl
theorem tw8967595602012793723:0=0:=rfl
theorem tw6805849805514868395:0=0:=rfl
theorem tw13365528301066954769:0=0:=rfl
theorem tw6696934497441645633:0=0:=rfl
theorem tw5242882122467187332:0=0:=rfl
theorem tw9358174128947467040:0=0:=rfl
theorem tw3478561466214115012:0=0:=rfl
theorem tw10161159260444085464:0=0:=rfl
theorem tw12869430744487828309:0=0:=rfl
theorem tw8605313866951978634:0=0:=rfl
theorem tw15792887544225936731:0=0:=rfl
theorem tw10277645509479771035:0=0:=rfl
theorem tw2166389188239446370:0=0:=rfl
theorem tw15205671538856933854:0=0:=rfl
theorem tw6683359556691954222:0=0:=rfl
theorem tw2771158139747270413:0=0:=rfl
theorem tw2888859073429558244:0=0:=rfl
theorem tw7239123894153575113:0=0:=rfl
theorem tw7560280837810748376:0=0:=rfl
theorem tw17418823712971229686:0=0:=rfl
theorem tw5731263895657688484:0=0:=rfl
theorem tw2191033222647821584:0=0:=rfl
theorem tw10585114926168808556:0=0:=rfl
theorem tw479218831280418792:0=0:=rfl
theorem tw573447883610728391:0=0:=rfl
theorem tw14102703917269135131:0=0:=rfl
theorem tw16631964439739380918:0=0:=rfl
theorem tw13112738175235092653:0=0:=rfl
theorem tw12457951400687116385:0=0:=rfl
theorem tw8360853015794770557:0=0:=rfl
theorem tw2482441635972039136:0=0:=rfl
theorem tw9063623937481160187:0=0:=rfl
theorem tw13486733587562791890:0=0:=rfl
theorem tw10240758231628949407:0=0:=rfl
theorem tw974035271462676863:0=0:=rfl
theorem tw17723482134659441099:0=0:=rfl
theorem tw3048330466278802511:0=0:=rfl
theorem tw5255343456192129281:0=0:=rfl
theorem tw17931900363186339846:0=0:=rfl
theorem tw2791871453409826606:0=0:=rfl
theorem tw9325553765351843661:0=0:=rfl
theorem tw7855835828020552836:0=0:=rfl
theorem tw2977141893647891743:0=0:=rfl
theorem tw11794904233580786420:0=0:=rfl
theorem tw15086088236567620571:0=0:=rfl
theorem tw11900806606457203605:0=0:=rfl
theorem tw4436504539330333915:0=0:=rfl
theorem tw5340739457402420840:0=0:=rfl
theorem tw11769802891841252603:0=0:=rfl
theorem tw14332579823644827837:0=0:=rfl
theorem tw18432580626954307269:0=0:=rfl
theorem tw15008700186330324111:0=0:=rfl
theorem tw7168039842009148218:0=0:=rfl
theorem tw12431245744394364819:0=0:=rfl
theorem tw12125533235741122317:0=0:=rfl
theorem tw3247635047677295442:0=0:=rfl
theorem tw12961293736901537156:0=0:=rfl
theorem tw565586320558646999:0=0:=rfl
theorem tw14339787495958414945:0=0:=rfl
theorem tw17581693058597471886:0=0:=rfl
theorem tw2486064870748644714:0=0:=rfl
theorem tw14902913537758279689:0=0:=rfl
theorem tw16201482617599168524:0=0:=rfl
theorem tw5862698614687136886:0=0:=rfl
end PySem.W.Fast
open PySem PySem.W PyProof.Rows
set_option maxRecDepth 100000 in
set_option maxHeartbeats 0 in
theorem PySem.Challenge.cw_roundlap_k07_ring_holds : PySem.Challenge.rw_roundlap_k07_ring.Holds := by
 w_on; o_law; k_head; (case hw=>w_witness2)
 k_fill
 refine EV.Cz (l:=PySem.Challenge.rw_roundlap_k07_ring) (fns:=K07.fns) (vals:=K07.vals) (cls:=K07.cls) (Pd:=K07.Pd) (sub:=λ_ _=>false) (n:=30) (st:=K07.top 55) (x:="_law_script") rfl rfl ⟨rfl,by decide,by decide⟩ (λw h Y=>PySem.W.kIn_of Y) K07.hP rfl rfl ?T K07.main
 case T =>
  intro w h KX;refine⟨?_,?_,?_,?_⟩
  ·unfold K07.fns
   repeat (apply EV.dG.cons; k_is; k_is; k_is; k_is)
   exact EV.dG.nil
  ·unfold K07.vals
   repeat first
    | (apply EV.cC.flat; k_is; constructor)
    | (apply EV.cC.tup; k_is; k_is; decide; rfl; (focus (repeat' constructor)))
   exact EV.cC.nil
  ·unfold K07.cls
   repeat first
    | (apply EV.e9.cons; k_is; k_exc; kit_is; k_is; kit_is; decide +kernel)
    | (apply EV.e9.consN; k_is; k_exc; kit_is; k_is; kit_is; k_is)
    | (apply EV.e9.consP; k_is; k_exc; kit_is; k_is; kit_is; k_is; kit_is; k_is; k_is; k_is; k_is; k_is; k_is; k_is)
   exact EV.e9.nil
  ·refine λx hx _=>EV.dR.get (l:=EV.dS) ?hNone0 hx
   unfold EV.dS
   repeat (apply EV.dR.cons; k_is)
   exact EV.dR.nil
end
